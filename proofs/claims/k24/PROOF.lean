import PyProof.Rows.All
import Wide.All
import OpenK.AllK
import Wide.FinOn
import Lean
import PyProof.EqAt
import PyProof.EqKinds
import PyProof.TupleCall
import PyProof.NeKinds
import PyProof.SumAny
import PyProof.SetRoads
import PySem.Challenge.RW_rowpipes_k24_whole_heads
set_option Elab.async false
set_option linter.all false
set_option maxRecDepth 100000
set_option maxHeartbeats 0
abbrev TZ:=@PySem.wpAny_bind
abbrev T1:=@PySem.wpAny_pure
abbrev T4:=@PySem.Heap.get?_push_of_some
abbrev T5:=@PySem.Heap.lt_size
abbrev T6:=@PySem.Heap.get?_push_size
abbrev T7:=@Nat.le_refl
abbrev T8:=@Nat.le_trans
abbrev T9:=@decide_eq_false
abbrev T_:=@decide_eq_true
abbrev Ua:=@List.length_map
abbrev Ub:=@List.length_append
abbrev Uc:=@List.map_append
abbrev Ud:=@Nat.lt_of_le_of_lt
abbrev Ue:=@Nat.lt_of_lt_of_le
abbrev Ug:=@List.getElem?_eq_getElem
abbrev Uh:=@List.mem_append_right
abbrev Ui:=@List.mem_of_getElem?
abbrev Uj:=@List.mem_cons_of_mem
abbrev Uk:=@Bool.false_ne_true
abbrev Ul:=@List.size_toArray
abbrev Um:=@List.getElem?_eq_some_iff
abbrev Uo:=@List.mem_singleton
abbrev Up:=@List.mem_map
abbrev Uq:=@List.mem_cons
abbrev Ur:=@Bool.eq_false_iff
abbrev Us:=@List.mem_append
abbrev Ut:=@Nat.ne_of_lt
abbrev Uu:=@Nat.zero_le
abbrev Uv:=@Option.some.inj
abbrev Uw:=@List.getElem?_append_right
abbrev Ux:=@List.getElem?_append_left
abbrev Uy:=@List.getElem?_map
abbrev Uz:=@List.length_take
abbrev UA:=@Array.getElem?_eq_getElem
abbrev UB:=@PySem.wpAny_mono
abbrev UC:=@PySem.wpAny_holding
abbrev UD:=@PySem.wpAny_newObj_type
abbrev UE:=@List.mem_cons_self
abbrev UG:=@List.length_cons
abbrev UH:=@Bool.and_eq_true
abbrev UI:=@of_decide_eq_true
abbrev UJ:=PySem.W.Frag
namespace L2
open PySem PySem.Spec PyProof.Rows
abbrev Key:=Sum Int Str
def fL:Key->Value->Bool
 | .inl k,v=>Value.isInt k v
 | .inr x,v=>Value.isStrOf x v
def LK(w:World):Key->Int
 | .inl k=>hashInt k
 | .inr x=>hashStr w x
theorem bC:∀{k:Key} {v:Value},fL k v=true->(∃i t,k=Sum.inl i/\v=Value.int i t)\/(∃x t,k=Sum.inr x/\v=Value.str x t)
 | .inl i,v,h=>by
  obtain⟨t,e⟩:=Value.isInt_shape (k:=i) (v:=v) h
  exact .inl ⟨i,t,rfl,e⟩
 | .inr x,v,h=>by
  obtain⟨t,e⟩:=Value.isStrOf_shape (x:=x) (v:=v) h
  exact .inr ⟨x,t,rfl,e⟩
theorem lT(i:Int)(t:Tok):fL (.inl i) (.int i t)=true:=by simp [fL,Value.isInt]
theorem lR(x:Str)(t:Tok):fL (.inr x) (.str x t)=true:=by simp [fL,Value.isStrOf]
theorem Jw(a b:Int):decide ((Sum.inl a:Key)=Sum.inl b)=(a==b):=by
 by_cases e:a=b
 ·subst e; simp
 ·have h:¬(Sum.inl a:Key)=Sum.inl b:=λq=>e (Sum.inl.inj q)
  rw [T9 h]
  exact(beq_eq_false_iff_ne.mpr e).symm
theorem Ib(a b:Str):decide ((Sum.inr a:Key)=Sum.inr b)=decide (a=b):=by
 by_cases e:a=b
 ·subst e; simp
 ·have h:¬(Sum.inr a:Key)=Sum.inr b:=λq=>e (Sum.inr.inj q)
  rw [T9 h,T9 e]
theorem IT(a:Int)(b:Str):decide ((Sum.inl a:Key)=Sum.inr b)=false:=T9 (λq=>nomatch q)
theorem Ij(a:Str)(b:Int):decide ((Sum.inr a:Key)=Sum.inl b)=false:=T9 (λq=>nomatch q)
def bH(prog:Program)(w:World):PySem.KeyKind prog w Key where
 is:=fL
 hash:=LK w
 inj:=λv a b ha hb=>by
  rcases bC ha with⟨i,t,rfl,rfl⟩ | ⟨x,t,rfl,rfl⟩
  ·rcases bC hb with⟨j,u,rfl,e⟩ | ⟨y,u,rfl,e⟩
   ·injection e with e1 _; rw [e1]
   ·exact nomatch e
  ·rcases bC hb with⟨j,u,rfl,e⟩ | ⟨y,u,rfl,e⟩
   ·exact nomatch e
   ·injection e with e1 _; rw [e1]
 byValue:=λk v h=>by
  rcases bC h with⟨i,t,rfl,rfl⟩ | ⟨x,t,rfl,rfl⟩ <;> rfl
 pyHash:=λhv h=>by
  rcases bC hv with⟨i,t,rfl,rfl⟩ | ⟨x,t,rfl,rfl⟩
  ·exact wpAny_pyHash_int h
  ·exact wpAny_pyHash_str h
 eqBool:=λhu hv h=>by
  rcases bC hu with⟨i,t,rfl,rfl⟩ | ⟨x,t,rfl,rfl⟩
  ·rcases bC hv with⟨j,u,rfl,rfl⟩ | ⟨y,u,rfl,rfl⟩
   ·rw [Jw]at h; exact wpAny_eqBool_int h
   ·rw [IT]at h; exact SeqAt.EqAt.int_str i t y u _ _ _ _ h
  ·rcases bC hv with⟨j,u,rfl,rfl⟩ | ⟨y,u,rfl,rfl⟩
   ·rw [Ij]at h; exact SeqAt.EqAt.str_int x t j u _ _ _ _ h
   ·rw [Ib]at h; exact wpAny_eqBool_str h
 «strs»:=λk x t v h=>by
  rcases bC h with⟨i,u,rfl,e⟩ | ⟨y,u,rfl,e⟩
  ·exact nomatch e
  ·injection e with e1 _
   subst e1
   cases v <;> rfl
abbrev dq:=Option Key
def Gv:dq->Value->Bool
 | none,.none=>true
 | none,_=>false
 | some k,v=>fL k v
theorem uo{prog:Program}{w:World}{A:Around}{E:Value->Shared->Prop}{s:Shared}{Q:Int->Shared->Prop}(h:Q 0xFCA86420 {s with toks:=s.toks+1}):wpAny (model prog w) A (pyHash .none) Q E s:=by
 unfold pyHash
 have hv:[Value.none].any Value.onHeap=false:=rfl
 refine TZ ?_
 rw [cRoomFor,if_neg (by rw [hv]; exact Uk)]; refine T1 ?_
 refine TZ (wpAny_specialOf (typeIs_none s) F.slot_NoneType_hash.lookup ?_)
 show wpAny _ _ (if(some (Value.builtin "NoneType.__hash__")==some Value.none)=true then _ else _) Q E s
 rw [if_neg (by rw [beq_builtin_none]; exact Uk)]
 refine TZ (wpAny_specialOf (typeIs_none s) F.slot_NoneType_hash.lookup ?_)
 refine TZ (wpAny_callSpecialIfBoundUnlessNone?_slot (typeIs_none s) F.slot_NoneType_hash
  (wpAny_call_entry F.slot_NoneType_hash (typeIs_none s) F.entry_NoneType_hash
   (show wpAny _ _ (do ret (←mkInt 0xFCA86420)) _ _ s from wpAny_ret_mkInt ?_) (F.args_NoneType_hash_1 _)))
 show wpAny _ _ (if(decide (-(2:Int) ^ 63<=0xFCA86420)&&decide ((0xFCA86420:Int)<2 ^ 63))=true then _ else _) Q E _
 rw [if_pos (by decide)]
 exact T1 h
theorem cO:∀{k:dq} {v:Value},Gv k v=true->(k=none/\v=.none)\/∃k',k=some k'/\fL k' v=true
 | none,.none,_=>.inl ⟨rfl,rfl⟩
 | some k,v,h=>.inr ⟨k,rfl,h⟩
theorem D4(a b:Key):decide ((some a:dq)=some b)=decide (a=b):=by
 by_cases e:a=b
 ·subst e; simp
 ·rw [T9 e,T9 (λq=>e (Uv q))]
theorem J4(a:Key):decide ((some a:dq)=none)=false:=T9 (λq=>nomatch q)
theorem Jj(a:Key):decide ((none:dq)=some a)=false:=T9 (λq=>nomatch q)
def optKind(prog:Program)(w:World):PySem.KeyKind prog w dq where
 is:=Gv
 hash:=λk=>match k with | none=>0xFCA86420 | some k=>LK w k
 inj:=λv a b ha hb=>by
  rcases cO ha with⟨rfl,rfl⟩ | ⟨a',rfl,ha'⟩
  ·rcases cO hb with⟨rfl,_⟩ | ⟨b',rfl,hb'⟩
   ·rfl
   ·rcases bC hb' with⟨j,u,_,e⟩ | ⟨y,u,_,e⟩ <;> exact nomatch e
  ·rcases cO hb with⟨rfl,rfl⟩ | ⟨b',rfl,hb'⟩
   ·rcases bC ha' with⟨j,u,_,e⟩ | ⟨y,u,_,e⟩ <;> exact nomatch e
   ·rw [(bH prog w).inj v a' b' ha' hb']
 byValue:=λk v h=>by
  rcases cO h with⟨rfl,rfl⟩ | ⟨k',rfl,h'⟩
  ·rfl
  ·exact(bH prog w).byValue k' v h'
 pyHash:=λhv h=>by
  rcases cO hv with⟨rfl,rfl⟩ | ⟨k',rfl,h'⟩
  ·exact uo h
  ·exact(bH prog w).pyHash h' h
 eqBool:=λ{A E s a b u v Q} hu hv h=>by
  rcases cO hu with⟨rfl,rfl⟩ | ⟨k,rfl,hk⟩
  ·rcases cO hv with⟨rfl,rfl⟩ | ⟨l,rfl,hl⟩
   ·unfold eqBool
    refine UC ?_
    rw [T_ rfl]at h
    exact wpAny_ite_split (λ_=>TZ (wpAny_rule (T1 h))) (λhn=>absurd rfl hn)
   ·rw [Jj]at h
    rcases bC hl with⟨j,u,rfl,rfl⟩ | ⟨y,u,rfl,rfl⟩
    ·exact SeqAt.EqAt.none_int j u _ _ _ _ h
    ·exact SeqAt.EqAt.none_str y u _ _ _ _ h
  ·rcases cO hv with⟨rfl,rfl⟩ | ⟨l,rfl,hl⟩
   ·rw [J4]at h
    rcases bC hk with⟨j,u,rfl,rfl⟩ | ⟨y,u,rfl,rfl⟩
    ·exact SeqAt.EqAt.int_none j u _ _ _ _ h
    ·exact SeqAt.EqAt.str_none y u _ _ _ _ h
   ·rw [D4]at h
    exact(bH prog w).eqBool hk hl h
 «strs»:=λk x t v h=>by
  rcases cO h with⟨_,e⟩ | ⟨k',rfl,h'⟩
  ·exact nomatch e
  ·exact(bH prog w).strs k' x t v h'
theorem uF(prog:Program)(w:World)(i:Int)(t:Tok):(bH prog w).is (.inl i) (.int i t)=true:=lT i t
theorem uQ(prog:Program)(w:World)(x:Str)(t:Tok):(bH prog w).is (.inr x) (.str x t)=true:=lR x t
inductive V where
 | non | bl (b:Bool) | int (i:Int) | str (x:Str) | yv (b:Array UInt8) | flt (b:UInt64) | ref (a:Addr) | ty (n:String)
 deriving DecidableEq
def RelV:V->Value->Prop
 | .non,u=>u=Value.none
 | .bl b,u=>u=Value.bool b
 | .int i,u=>∃t,u=Value.int i t
 | .str x,u=>∃t,u=Value.str x t
 | .yv b,u=>∃t,u=Value.bytes b t
 | .flt b,u=>∃t,u=Value.float b t
 | .ref a,u=>u=Value.ref a
 | .ty n,u=>u=Value.type n
abbrev Vals:List V->List Value->Prop:=Paired RelV
theorem Vals.length{xs:List V}{us:List Value}(r:Vals xs us):xs.length=us.length:=Paired.length r
theorem Vals.get:∀{xs:List V} {us:List Value} {i:Nat} {x:V},Vals xs us->xs[i]? = some x->∃u,us[i]? = some u/\RelV x u
 | _,_,_,_,.nil,e=>by simp at e
 | _,_,0,_,.cons r _,e=>by simp at e; subst e; exact⟨_,rfl,r⟩
 | _,_,i+1,x,.cons _ t,e=>by
  obtain⟨u,h1,h2⟩:=Vals.get (i:=i) (x:=x) t (by simpa using e)
  exact⟨u,by simpa using h1,h2⟩
theorem Vals.set{x:V}{u:Value}(r:RelV x u):∀{xs:List V} {us:List Value} (i:Nat),Vals xs us->Vals (xs.set i x) (us.set i u)
 | _,_,_,.nil=>.nil
 | _,_,0,.cons _ t=>.cons r t
 | _,_,i+1,.cons q t=>.cons q (Vals.set r i t)
theorem Vals.append:∀{xs ys:List V} {us ws:List Value},Vals xs us->Vals ys ws->Vals (xs++ys) (us++ws)
 | _,_,_,_,.nil,s=>s
 | _,_,_,_,.cons r t,s=>.cons r (Vals.append t s)
theorem Vals.take:∀{xs:List V} {us:List Value} (n:Nat),Vals xs us->Vals (xs.take n) (us.take n)
 | _,_,0,_=>.nil
 | _,_,_+1,.nil=>.nil
 | _,_,n+1,.cons r t=>.cons r (Vals.take n t)
theorem Vals.drop:∀{xs:List V} {us:List Value} (n:Nat),Vals xs us->Vals (xs.drop n) (us.drop n)
 | _,_,0,r=>r
 | _,_,_+1,.nil=>.nil
 | _,_,n+1,.cons _ t=>Vals.drop n t
def jj:Option V->Option Value->Prop
 | some v,some u=>RelV v u
 | none,none=>True
 | _,_=>False
def KV{κ:Type}:List (κ×V)->List (κ×Value)->Prop:=Paired λ(p:κ×V) (q:κ×Value)=>p.1=q.1/\RelV p.2 q.2
def kV:Key->V
 | .inl i=>.int i
 | .inr x=>.str x
def oV:dq->V
 | none=>.non
 | some k=>kV k
inductive HO where
 | lst (xs:List V)
 | tup (xs:List V)
 | dK (kvs:List (Key×V)) | dT (kvs:List (List dq×V))
 | set (S:Int->Bool) (n:Nat)
 | ins (C dx:Addr) (fs:List (Str×V))
 | own (x:Addr)
 | xd (fs:List (Str×V))
 | met (f x:Addr)
 | Nn (lo hi:Int)
 | xo (o:Obj) (u:HO)
 | Gr (ps:Array Value)
 | ext (φ:Heap->Prop)
abbrev Hp:=Addr->Option HO
def upd(H:Hp)(a:Addr)(o:HO):Hp:=λb=>if b=a then some o else H b
theorem ag{H:Hp}{a:Addr}{o:HO}:upd H a o a=some o:=by unfold upd; rw [if_pos rfl]
theorem aI{H:Hp}{a b:Addr}{o:HO}(h:b≠a):upd H a o b=H b:=by unfold upd; rw [if_neg h]
theorem Lk{H:Hp}{a b:Addr}{o u:HO}(h:H a=some o)(h':H b=some u)(d:o≠u):a≠b:=by
 intro e; subst e; rw [h]at h'; exact d (Uv h')
theorem aU{H:Hp}{a b:Addr}{o:HO}(h:H a=some o)(h':H b=none):a≠b:=by
 intro e; subst e; rw [h]at h'; cases h'
def gN(h:Heap)(a:Addr)(items:Array Value):Prop:=∃o,h.get? a=some o/\o.cls=.type "tuple"/\(∃n,o.data=.seq items n)/\o.dict=none
theorem gN.tup{h:Heap}{a:Addr}{items:Array Value}(x:gN h a items):IsTup h a items:=let ⟨o,ho,hc,hd,_⟩:=x; ⟨o,ho,hc,hd⟩
theorem gN.new(h:Heap)(items:Array Value):gN (h.push {cls:=.type "tuple",data:=.seq items}) h.objs.size items:=⟨_,T6 _ rfl,rfl,⟨_,rfl⟩,rfl⟩
section
variable(P:Program)(w:World)
def cq(H:Hp)(h:Heap)(a:Addr):HO->Prop
 | .lst xs=>xs.length<=sizeLine/\∃(its:List Value) (n:Nat),Vals xs its/\h.get? a=some {cls:=.type "list",data:=.seq its.toArray n}
 | .tup xs=>xs.length<=sizeLine/\∃its:List Value,Vals xs its/\gN h a its.toArray
 | .dK kvs=>kvs.length<=sizeLine/\(a==sysModules)=false/\∃vs,KV kvs vs/\h.DictOf (bH P w) a vs
 | .dT kvs=>kvs.length<=sizeLine/\(a==sysModules)=false/\∃xs:List (List dq×Addr×Value),
   Paired (λ(p:List dq×V) (q:List dq×Addr×Value)=>p.1=q.1/\H q.2.1=some (.tup (p.1.map oV))/\RelV p.2 q.2.2) kvs xs/\
   ∃o es ep,h.get? a=some o/\o.ExactDict/\o.data=.dict es ep/\es.toList=xs.map (entryOfKey (tupleKind (optKind P w)))/\(xs.map (·.1)).Nodup
 | .set S n=>h.SetOf (intKind P w) a S n
 | .ins C dx fs=>H dx=some (.own a)/\fs.length<=1000/\dx≠a/\h.get? a=some (PySem.W.instObj C dx)/\
   ∃mA,h.Ns1 dx mA/\(∀f,jj (fs.lookup f) (mA f))/\PySem.Within mA (fs.map (·.1))
 | .own _=>∃o,h.get? a=some o
 | .xd fs=>∃mA,h.Ns1 a mA/\∀f,jj (fs.lookup f) (mA f)
 | .Nn lo hi=>∃t u v,h.get? a=some {cls:=.type "range",data:=.fields #[.int lo t,.int hi u,.int 1 v]}
 | .xo o u=>h.get? a=some o/\cq H h a u
 | .Gr ps=>h.get? a=some {cls:=.none,data:=.fields ps}
 | .met f x=>h.get? a=some (PySem.W.methodObj (.ref f) (.ref x))
 | .ext φ=>φ h/\(∃o,h.get? a=some o)/\∀h1 h2:Heap,φ h1->(∀o,h1.get? a=some o->h2.get? a=some o)->φ h2
def i7(H:Hp)(h:Heap):Prop:=∀a o,H a=some o->cq P w H h a o
end
section
variable{P:Program}{w:World}{H H':Hp}{h h':Heap}{a:Addr}{o:HO}
theorem cq.lt(x:cq P w H h a o):a<h.objs.size:=by
 cases o with
 | lst xs=>obtain⟨_,_,_,_,e⟩:=x; exact T5 e
 | tup xs=>obtain⟨_,_,_,p⟩:=x; exact p.tup.lt
 | dK kvs=>obtain⟨_,_,_,_,o,_,_,e,_⟩:=x; exact T5 e
 | dT kvs=>obtain⟨_,_,_,_,o,_,_,e,_⟩:=x; exact T5 e
 | set S n=>obtain⟨o,_,_,_,e,_⟩:=x; exact T5 e
 | ins C dx fs=>obtain⟨_,_,_,e,_⟩:=x; exact T5 e
 | own y=>obtain⟨_,e⟩:=x; exact T5 e
 | xd fs=>obtain⟨_,⟨_,_,_,e,_⟩,_⟩:=x; exact T5 e
 | Nn lo hi=>obtain⟨_,_,_,e⟩:=x; exact T5 e
 | xo ob u=>obtain⟨e,_⟩:=x; exact T5 e
 | Gr ps=>exact T5 (show h.get? a=some _ from x)
 | met f y=>exact T5 (show h.get? a=some _ from x)
 | ext φ=>obtain⟨_,⟨_,e⟩,_⟩:=x; exact T5 e
theorem Paired.IE{α β:Type}{F G:α->β->Prop}:∀{l₁:List α} {l₂:List β},Paired F l₁ l₂->(∀a b,F a b->G a b)->Paired G l₁ l₂
 | _,_,.nil,_=>.nil
 | _,_,.cons r t,f=>.cons (f _ _ r) (Paired.IE t f)
theorem cq.stay(x:cq P w H h a o)(k:∀b u,(b=a\/H b=some (.own a))->h.get? b=some u->h'.get? b=some u)
  (ho:∀b,H b=some (.own a)->H' b=some (.own a)) (ht:∀b xs,H b=some (.tup xs)->H' b=some (.tup xs)):cq P w H' h' a o:=by
 induction o with
 | lst xs=>obtain⟨z,its,n,r,e⟩:=x; exact⟨z,its,n,r,k _ _ (.inl rfl) e⟩
 | tup xs=>obtain⟨z,its,r,ob,e,c⟩:=x; exact⟨z,its,r,ob,k _ _ (.inl rfl) e,c⟩
 | dK kvs=>obtain⟨z,y,vs,r,ob,es,ep,e,c⟩:=x; exact⟨z,y,vs,r,ob,es,ep,k _ _ (.inl rfl) e,c⟩
 | dT kvs =>
  obtain⟨z,y,xs,r,ob,es,ep,e,c⟩:=x
  exact⟨z,y,xs,Paired.IE r λp q z=>⟨z.1,ht _ _ z.2.1,z.2.2⟩,ob,es,ep,k _ _ (.inl rfl) e,c⟩
 | set S n=>obtain⟨ob,es,ep,t,e,c⟩:=x; exact⟨ob,es,ep,t,k _ _ (.inl rfl) e,c⟩
 | ins C dx fs =>
  obtain⟨d,z,ne,e,mA,⟨od,es,ep,e2,c⟩,r⟩:=x
  exact⟨ho _ d,z,ne,k _ _ (.inl rfl) e,mA,⟨od,es,ep,k _ _ (.inr d) e2,c⟩,r⟩
 | own y=>obtain⟨ob,e⟩:=x; exact⟨ob,k _ _ (.inl rfl) e⟩
 | xd fs=>obtain⟨mA,⟨od,es,ep,e,c⟩,r⟩:=x; exact⟨mA,⟨od,es,ep,k _ _ (.inl rfl) e,c⟩,r⟩
 | Nn lo hi=>obtain⟨t,u,v,e⟩:=x; exact⟨t,u,v,k _ _ (.inl rfl) e⟩
 | xo ob u ih=>obtain⟨e,q⟩:=x; exact⟨k _ _ (.inl rfl) e,ih q⟩
 | Gr ps =>
  have e:h.get? a=some {cls:=.none,data:=.fields ps}:=x
  show h'.get? a=some {cls:=.none,data:=.fields ps}
  exact k a _ (.inl rfl) e
 | met f y =>
  have e:h.get? a=some (PySem.W.methodObj (.ref f) (.ref y)):=x
  show h'.get? a=some (PySem.W.methodObj (.ref f) (.ref y))
  exact k a _ (.inl rfl) e
 | ext φ=>obtain⟨p,⟨o,e⟩,st⟩:=x; exact⟨st _ _ p λo q=>k _ _ (.inl rfl) q,⟨o,k _ _ (.inl rfl) e⟩,st⟩
theorem i7.lt(x:i7 P w H h)(e:H a=some o):a<h.objs.size:=(x a o e).lt
theorem i7.fresh(x:i7 P w H h)(e:h.objs.size<=a):H a=none:=by
 cases q:H a with
 | none=>rfl
 | some u=>exact absurd (Ue (x.lt q) e) (Nat.lt_irrefl _)
theorem i7.kept(x:i7 P w H h)(k:∀b u,h.get? b=some u->h'.get? b=some u):i7 P w H h':=λa o e =>
 (x a o e).stay (λb u _ q=>k b u q) (λ_ q=>q) λ_ _ q=>q
theorem i7.laid(x:i7 P w H h)(k:∀b u,h.get? b=some u->h'.get? b=some u)(hp:h.objs.size<=a)(new:cq P w (upd H a o) h' a o):i7 P w (upd H a o) h':=λb u e=>by
 have hn:=x.fresh hp
 by_cases hb:b=a
 ·subst hb; rw [ag]at e; cases e; exact new
 ·rw [aI hb]at e
  exact(x b u e).stay (λc v _ q=>k c v q) (λc q=>by rw [aI (aU q hn)]; exact q) λc xs q=>by rw [aI (aU q hn)]; exact q
end
def Rd(H:Hp)(a:Addr)(u:HO):Prop:=H a=some u\/∃o,H a=some (.xo o u)
theorem Rd.ok{P:Program}{w:World}{H:Hp}{h:Heap}{a:Addr}{u:HO}(r:Rd H a u)(x:i7 P w H h):cq P w H h a u:=by
 rcases r with r | ⟨o,r⟩
 ·exact x a u r
 ·obtain⟨_,q⟩:=x a _ r
  exact q
def Lr:Option HO->Prop
 | some (.lst _)=>True
 | some (.dK _)=>True
 | some (.dT _)=>True
 | some (.set _ _)=>True
 | some (.ins _ _ _)=>True
 | some (.ext _)=>True
 | _=>False
section
variable{P:Program}{w:World}{H:Hp}{h h':Heap}{x e:Addr}{o':HO}
theorem i7.write(ok:i7 P w H h)(mu:Lr (H x))(he:e=x\/H e=some (.own x))(k:∀b u,b≠e->h.get? b=some u->h'.get? b=some u)(heo:∃u,h'.get? e=some u)
  (new:cq P w (upd H x o') h' x o'):i7 P w (upd H x o') h':=λb u q=>by
 have LZ:∀c y,H c=some (.own y)->c≠x:=λc y r z=>by subst z; rw [r]at mu; exact mu
 have Oq:∀c xs,H c=some (.tup xs)->c≠x:=λc xs r z=>by subst z; rw [r]at mu; exact mu
 by_cases hb:b=x
 ·subst hb; rw [ag]at q; cases q; exact new
 ·rw [aI hb]at q
  by_cases hbe:b=e
  ·have q':H b=some (.own x):=by
    rcases he with z | z
    ·exact absurd (hbe.trans z) hb
    ·rw [hbe]; exact z
   rw [q]at q'; cases q'
   obtain⟨v,hv⟩:=heo
   exact⟨v,by rw [hbe]; exact hv⟩
  ·refine(ok b u q).stay (λc v hc r=>k c v ?_ r) (λc r=>by rw [aI (LZ c b r)]; exact r) λc xs r=>by rw [aI (Oq c xs r)]; exact r
   rcases hc with rfl | hc
   ·exact hbe
   ·rintro rfl
    rcases he with z | z
    ·exact LZ c b hc z
    ·rw [hc]at z; cases z; exact hb rfl
end
structure Un(fs ex:List Addr)(H H':Hp)(h h':Heap):Prop where
 keep:∀b o,h.get? b=some o->H b=none->b∉fs->b∉ex->h'.get? b=some o
 slot:∀b o,h.get? b=some o->H b=none->b∈fs->b∉ex->∃sl,h'.get? b=some {o with slots:=sl}
 free:∀b o,h.get? b=some o->H b=none->b∉ex->H' b=none
 there:∀b o,h.get? b=some o->b∉ex->∃o',h'.get? b=some o'
 tups:∀b xs,H b=some (.tup xs)->H' b=some (.tup xs)
 oG:∀b o u,H b=some (.xo o u)->H' b=some (.xo o u)
 qy:∀b ps,H b=some (.Gr ps)->∃more,H' b=some (.Gr (ps++more))
section
variable{fs fs' ex ex':List Addr}{H H1 H2:Hp}{h h1 h2 h':Heap}{a x e:Addr}{o:HO}
theorem Un.any(u:Un fs ex H H1 h h1){b:Addr}{ob:Obj}(q:h.get? b=some ob)(n:H b=none)(hx:b∉ex):∃sl,h1.get? b=some {ob with slots:=sl}:=by
 by_cases hb:b∈fs
 ·exact u.slot b ob q n hb hx
 ·exact⟨ob.slots,u.keep b ob q n hb hx⟩
theorem Un.kept(k:∀b u,h.get? b=some u->h'.get? b=some u):Un fs ex H H h h' :=
 ⟨λb ob q _ _ _=>k b ob q,λb ob q _ _ _=>⟨ob.slots,k b ob q⟩,λ_ _ _ n _=>n,λb ob q _=>⟨ob,k b ob q⟩,λ_ _ q=>q,λ_ _ _ q=>q,λ_ ps q=>⟨#[],by rw [q]; simp⟩⟩
theorem Un.refl:Un fs ex H H h h:=Un.kept λ_ _ q=>q
theorem Un.laid(k:∀b u,h.get? b=some u->h'.get? b=some u)(hp:h.objs.size<=a)(hn:H a=none):Un fs ex H (upd H a o) h h' where
 keep:=λb u q _ _ _=>k b u q
 slot:=λb u q _ _ _=>⟨u.slots,k b u q⟩
 free:=λb u q n _=>by rw [aI (Ut (Ue (T5 q) hp))]; exact n
 there:=λb u q _=>⟨u,k b u q⟩
 tups:=λb xs q=>by rw [aI (aU q hn)]; exact q
 oG:=λb u xs q=>by rw [aI (aU q hn)]; exact q
 qy:=λb ps q=>⟨#[],by rw [aI (aU q hn),q]; simp⟩
theorem Un.write(mu:Lr (H x))(he:e=x\/H e=some (.own x))(k:∀b u,b≠e->h.get? b=some u->h'.get? b=some u)(heo:∃u,h'.get? e=some u):Un fs ex H (upd H x o) h h':=by
 have hx:∀b,H b=none->b≠x:=λb n z=>by subst z; rw [n]at mu; exact mu
 have hb:∀b,H b=none->b≠e:=λb n z=>by
  subst z
  rcases he with r | r
  ·exact hx b n r
  ·rw [n]at r; cases r
 have hm:∀b u,H b=some u->¬Lr (some u)->b≠x:=λb u q nm z=>by subst z; rw [q]at mu; exact nm mu
 refine⟨λb u q n _ _=>k b u (hb b n) q,λb u q n _ _=>⟨u.slots,k b u (hb b n) q⟩,λb u q n _=>by rw [aI (hx b n)]; exact n,λb u q _=>?_,
  λb xs q=>by rw [aI (hm b _ q λz=>z)]; exact q,λb u xs q=>by rw [aI (hm b _ q λz=>z)]; exact q,λb ps q=>⟨#[],by rw [aI (hm b _ q λz=>z),q]; simp⟩⟩
 by_cases hbe:b=e
 ·subst hbe; exact heo
 ·exact⟨u,k b u hbe q⟩
end
def Nj(h:Heap)(H:Hp):List Addr:=(List.range h.objs.size).filter λa=>(H a).isSome
def sY(h:Heap)(H:Hp):Heap:=PySem.W.hideAll h (Nj h H)
theorem Al(h:Heap)(H:Hp):(sY h H).objs.size=h.objs.size:=PySem.W.hideAll_size _ _
theorem B5{h:Heap}{H:Hp}{b:Addr}{o:Obj}(e:h.get? b=some o)(n:H b=none):(sY h H).get? b=some o :=
 PySem.W.hideAll_get _ e λhm=>by
  have q:(H b).isSome=true:=(List.mem_filter.mp hm).2
  rw [n]at q; simp at q
theorem E_{h:Heap}{H:Hp}{b:Addr}{o:Obj}(e:(sY h H).get? b=some o):h.get? b=some o/\H b=none:=by
 have e':h.get? b=some o:=PySem.W.of_hideAll (Nj h H) e
 refine⟨e',?_⟩
 cases q:H b with
 | none=>rfl
 | some x =>
  have hm:b∈Nj h H:=List.mem_filter.mpr ⟨List.mem_range.mpr (T5 e'),by simp [q]⟩
  have z:(sY h H).get? b=none:=PySem.W.hideAll_none (Nj h H) hm
  rw [z]at e; cases e
structure Mod(K:UJ)(mg:Str->Option Value)(base:Heap):Prop where
 Ko:K.In base
 glob:base.Ns mainGlobals mg
 blt:∃mb,base.Ns builtinsNs mb/\∀x:Str,x≠"__name__"->mb x=bootBuiltins x
 nolimit:base.NoLimit
structure Cx where
 prog:Program
 w:World
 K:UJ
 mg:Str->Option Value
 base:Heap
 A:Around
 N:List Str
 s₀:Shared
 H₀:Hp
 env:Env
 outer:List Env
 stack:List Env
 ex:List Addr
 fn:Str->Bool
 calm:Bool
 pn:List (Addr×Obj)
 xe:Value->Shared->Prop
def frs(l:List Env):List Addr:=l.filterMap (·.frame)
abbrev Cx.fs(X:Cx):List Addr:=frs X.outer
def NX(sc:Scope)(x:Str):Prop:=sc.names.lookup x=some .local\/sc.names.lookup x=some .cell\/sc.names.lookup x=some .free
def Loc(sc:Scope)(x:Str):Prop:=sc.names.lookup x=some .local\/sc.names.lookup x=some .cell
def Look(env:Env)(h:Heap)(m:Str->Option Value)(x:Str)(u:Value):Prop :=
 (env.kindOf x=some .local/\m x=some u)\/((env.kindOf x=some .cell\/env.kindOf x=some .free)/\∃c,env.cells.lookup x=some c/\h.IsCell c (some u))
structure Cx.Ok(X:Cx):Prop where
 mod:Mod X.K X.mg X.base
 kind:X.env.scope.kind=.function
 glob:X.env.globals=mainGlobals
 blt:X.env.builtins=builtinsNs
 above:X.s₀.heap.objs.size<=X.env.locals
 inj:∀x y c,X.env.cells.lookup x=some c->X.env.cells.lookup y=some c->x=y
 has:∀x,(X.env.kindOf x=some .cell\/X.env.kindOf x=some .free)->∃c,X.env.cells.lookup x=some c
 cab:∀x c,X.fn x=true->X.env.cells.lookup x=some c->X.s₀.heap.objs.size<=c
 hd:X.calm=true->X.A.handled=none
 frames:X.A.frames=some X.stack
 IF:X.stack=X.outer\/(X.stack=X.env::X.outer/\X.env.frame=some X.env.locals)
 Ak:∀b∈X.ex,b≠X.env.locals/\∀x c,X.env.cells.lookup x=some c->c≠b
 bs:∀b o,X.base.get? b=some o->X.s₀.heap.get? b=some o/\X.H₀ b=none
 AX:X.base.objs.size<=X.s₀.heap.objs.size
 uM:∀b o,X.base.get? b=some o->b∉X.ex
 oj:∀b∈X.ex,b∉X.fs
 kh:X.s₀.heap.FunFrames X.base X.outer
 Ef:∀b∈X.fs,X.H₀ b=none
structure Inv(X:Cx)(pins:List (Addr×Obj))(σ:List (Option V))(H:Hp)(s:Shared):Prop where
 ok:X.Ok
 os:s.os=X.s₀.os
 bare:AllBare s.gens
 base:Un X.fs X.ex X.H₀ H X.s₀.heap s.heap
 loc:∃m,s.heap.Ns X.env.locals m/\∀(i:Nat) (x:Str) (v:V),X.N[i]? = some x->σ[i]? = some (some v)->NX X.env.scope x->∃u,RelV v u/\Look X.env s.heap m x u
 cell:∀x c,X.env.cells.lookup x=some c->∃v,s.heap.IsCell c v
 free:H X.env.locals=none
 fO:∀x c,X.env.cells.lookup x=some c->H c=none
 pin:∀p∈X.pn++pins,s.heap.get? p.1=some p.2/\H p.1=none/\p.1≠X.env.locals/\p.1∉X.fs/\∀v,p.2.data≠ .cell v
 hok:i7 X.prog X.w H s.heap
 len:σ.length=X.N.length
section
variable{X:Cx}{pins:List (Addr×Obj)}{σ:List (Option V)}{H H':Hp}{s:Shared}{h':Heap}
theorem Cx.Ok.N4(ok:X.Ok){b:Addr}{o:Obj}(e:X.base.get? b=some o):b∉X.fs:=λhb=>by
 have:=(ok.kh.mem hb).1
 rw [e]at this; cases this
theorem Inv.bs(I:Inv X pins σ H s):∀b o,X.base.get? b=some o->s.heap.get? b=some o/\H b=none:=λb o e =>
 ⟨I.base.keep b o (I.ok.bs b o e).1 (I.ok.bs b o e).2 (I.ok.N4 e) (I.ok.uM b o e),I.base.free b o (I.ok.bs b o e).1 (I.ok.bs b o e).2 (I.ok.uM b o e)⟩
theorem Inv.bk(I:Inv X pins σ H s):∀b o,X.base.get? b=some o->s.heap.get? b=some o:=λb o e=>(I.bs b o e).1
theorem Inv.mod(I:Inv X pins σ H s):Mod X.K X.mg X.base:=I.ok.mod
theorem Inv.jI(I:Inv X pins σ H s):X.K.In s.heap:=I.ok.mod.Ko.keeps I.bk
theorem Inv.lt(I:Inv X pins σ H s):X.env.locals<s.heap.objs.size:=let ⟨_,hn,_⟩:=I.loc; hn.lt
theorem Inv.sz(I:Inv X pins σ H s):X.s₀.heap.objs.size<=s.heap.objs.size:=T8 I.ok.above (Nat.le_of_lt I.lt)
theorem Inv.NO(I:Inv X pins σ H s){a:Addr}(h:s.heap.objs.size<=a):a∉X.fs:=λhb=>by
 obtain⟨_,o,ho,_⟩:=I.ok.kh.mem hb
 exact absurd (Ue (T5 ho) (T8 I.sz h)) (Nat.lt_irrefl _)
theorem Inv.FY(I:Inv X pins σ H s):∀x c,X.env.cells.lookup x=some c->c≠X.env.locals:=λx c e z=>by
 obtain⟨v,o,ho,hd⟩:=I.cell x c e
 obtain⟨m,⟨o',es,ep,ho',hd',_⟩,_⟩:=I.loc
 rw [z,ho']at ho; cases ho; rw [hd']at hd; cases hd
theorem Inv.kh(I:Inv X pins σ H s):s.heap.FunFrames X.base X.outer:=by
 have all:∀(l:List Env),(∀b∈frs l,b∈X.fs)->X.s₀.heap.FunFrames X.base l->s.heap.FunFrames X.base l:=by
  intro l
  induction l with
  | nil=>intro _ _; trivial
  | cons env r ih =>
   intro hs hl
   obtain⟨hk,⟨L,o,hf,hn,ho,hd⟩,hr⟩:=hl
   have hL:L∈X.fs:=hs L (by unfold frs; rw [List.filterMap_cons,hf]; exact UE)
   obtain⟨sl,e⟩:=I.base.slot L o ho (I.ok.Ef L hL) hL λz=>I.ok.oj L z hL
   exact⟨hk,⟨L,_,hf,hn,e,hd⟩,ih (λb hb=>hs b (by unfold frs; rw [List.filterMap_cons,hf]; exact Uj _ hb)) hr⟩
 exact all X.outer (λ_ hb=>hb) I.ok.kh
theorem Inv.stack(I:Inv X pins σ H s):s.heap.FunFrames X.base X.stack:=by
 rcases I.ok.IF with e | ⟨e,hf⟩
 ·rw [e]; exact I.kh
 ·rw [e]
  obtain⟨m,hn,_⟩:=I.loc
  refine .cons (by rw [I.ok.kind]; decide) hf hn ?_ I.kh
  exact Heap.get?_none_of_le (T8 I.ok.AX I.ok.above)
theorem Inv.xB(I:Inv X pins σ H s):∀b∈frs X.stack,b∈X.env.locals::X.fs:=λb hb=>by
 rcases I.ok.IF with e | ⟨e,hf⟩
 ·rw [e]at hb; exact Uj _ hb
 ·rw [e]at hb
  unfold frs at hb
  rw [List.filterMap_cons,hf]at hb
  exact hb
theorem Inv.ni(I:Inv X pins σ H s):∀b∈frs X.stack,H b=none:=λb hb=>by
 rcases Uq.mp (I.xB b hb)with e | hb
 ·rw [e]; exact I.free
 ·obtain⟨_,o,ho,_⟩:=I.ok.kh.mem hb
  exact I.base.free b o ho (I.ok.Ef b hb) λz=>I.ok.oj b z hb
theorem Inv.step{g':Array GenState}{t':Nat}{d':Drawn}{ch:List Addr}(I:Inv X pins σ H s)
  (hch:∀b∈ch,(b∈X.ex\/X.s₀.heap.objs.size<=b)/\b≠X.env.locals/\(∀x c,X.env.cells.lookup x=some c->c≠b)/\∀p∈X.pn++pins,p.1≠b)
  (keep:∀b o,b≠X.env.locals->b∉X.fs->b∉ch->s.heap.get? b=some o->H b=none->h'.get? b=some o)
  (slot:∀b o,b≠X.env.locals->b∈X.fs->b∉ch->s.heap.get? b=some o->H b=none->∃sl,h'.get? b=some {o with slots:=sl}) (free:∀b o,b∉ch->s.heap.get? b=some o->H b=none->H' b=none)
  (there:∀b o,b∉ch->s.heap.get? b=some o->∃o',h'.get? b=some o')
  (tups:∀b xs,H b=some (.tup xs)->H' b=some (.tup xs)) (oG:∀b o u,H b=some (.xo o u)->H' b=some (.xo o u)) (qy:∀b ps,H b=some (.Gr ps)->∃more,H' b=some (.Gr (ps++more)))
  (ns:∀m,s.heap.Ns X.env.locals m->h'.Ns X.env.locals m) (hok:i7 X.prog X.w H' h') (hg:AllBare g') :
  Inv X pins σ H' {s with heap:=h',gens:=g',drawn:=d',toks:=t'}:=by
 have LM:∀b o,X.s₀.heap.get? b=some o->b≠X.env.locals:=λb o e=>Ut (Ue (T5 e) I.ok.above)
 have Ks:∀b o,X.s₀.heap.get? b=some o->b∉X.ex->b∉ch:=λb o e hx hb=>by
  rcases(hch b hb).1 with z | z
  ·exact hx z
  ·exact absurd (Ue (T5 e) z) (Nat.lt_irrefl _)
 have cellK:∀x c,X.env.cells.lookup x=some c->∀v,s.heap.IsCell c v->h'.IsCell c v:=λx c e v ⟨o,ho,hd⟩=>by
  have MG:c∉ch:=λz=>(hch c z).2.2.1 x c e rfl
  by_cases hc:c∈X.fs
  ·obtain⟨sl,q⟩:=slot c o (I.FY x c e) hc MG ho (I.fO x c e)
   exact⟨_,q,hd⟩
  ·exact⟨o,keep c o (I.FY x c e) hc MG ho (I.fO x c e),hd⟩
 refine⟨I.ok,I.os,hg,⟨λb o e n hb hx=>?_,λb o e n hb hx=>?_,λb o e n hx=>?_,λb o e hx=>?_,λb xs e=>tups b xs (I.base.tups b xs e),λb o xs e=>oG b o xs (I.base.oG b o xs e),λb ps e=>?_⟩,?_,λx c e=>?_,?_,λx c e=>?_,λp hp=>?_,hok,I.len⟩
 ·exact keep b o (LM b o e) hb (Ks b o e hx) (I.base.keep b o e n hb hx) (I.base.free b o e n hx)
 ·obtain⟨sl,e1⟩:=I.base.slot b o e n hb hx
  obtain⟨sl',e2⟩:=slot b _ (LM b o e) hb (Ks b o e hx) e1 (I.base.free b o e n hx)
  exact⟨sl',e2⟩
 ·obtain⟨o',e1⟩:=I.base.there b o e hx
  exact free b o' (Ks b o e hx) e1 (I.base.free b o e n hx)
 ·obtain⟨o',e1⟩:=I.base.there b o e hx
  exact there b o' (Ks b o e hx) e1
 ·obtain⟨m1,e1⟩:=I.base.qy b ps e
  obtain⟨m2,e2⟩:=qy b _ e1
  exact⟨m1++m2,by rw [e2,Array.append_assoc]⟩
 ·obtain⟨m,hn,hl⟩:=I.loc
  refine⟨m,ns m hn,λi x v e1 e2 e3=>?_⟩
  obtain⟨u,r,l⟩:=hl i x v e1 e2 e3
  refine⟨u,r,?_⟩
  rcases l with l | ⟨k,c,e,z⟩
  ·exact .inl l
  ·exact .inr ⟨k,c,e,cellK x c e _ z⟩
 ·obtain⟨v,z⟩:=I.cell x c e
  exact⟨v,cellK x c e v z⟩
 ·obtain⟨m,⟨o,_,_,ho,_⟩,_⟩:=I.loc
  exact free _ o (λz=>(hch _ z).2.1 rfl) ho I.free
 ·obtain⟨v,o,ho,hd⟩:=I.cell x c e
  exact free c o (λz=>(hch c z).2.2.1 x c e rfl) ho (I.fO x c e)
 ·obtain⟨e,n,ne,nf,d⟩:=I.pin p hp
  have MG:p.1∉ch:=λz=>(hch p.1 z).2.2.2 p hp rfl
  exact⟨keep p.1 p.2 ne nf MG e n,free p.1 p.2 MG e n,ne,nf,d⟩
theorem Inv.un{t':Nat}(I:Inv X pins σ H s)(u:Un X.fs [] H H' s.heap h')(hok:i7 X.prog X.w H' h'):Inv X pins σ H' {s with heap:=h',toks:=t'}:=by
 obtain⟨m,⟨o,es,ep,ho,r⟩,_⟩:=id I.loc
 obtain⟨sl,hL⟩:=u.any ho I.free (by simp)
 exact I.step (g':=s.gens) (d':=s.drawn) (ch:=[]) (λ_ z=>nomatch z) (λb o _ hb _ e n=>u.keep b o e n hb (by simp)) (λb o _ hb _ e n=>u.slot b o e n hb (by simp)) (λb o _ e n=>u.free b o e n (by simp)) (λb o _ e=>u.there b o e (by simp)) u.tups u.oG u.qy (λm' hm=>by
  obtain⟨o',es',ep',ho',r'⟩:=hm
  rw [ho]at ho'; cases ho'
  exact⟨_,es',ep',hL,r'⟩) hok I.bare
theorem Inv.call{g':Array GenState}{t':Nat}{d':Drawn}{ch:List Addr}(I:Inv X pins σ H s)(u:Un (frs X.stack) ch H H' s.heap h')(hok:i7 X.prog X.w H' h')(hg:AllBare g')
  (hch:∀b∈ch,(b∈X.ex\/X.s₀.heap.objs.size<=b)/\b≠X.env.locals/\(∀x c,X.env.cells.lookup x=some c->c≠b)/\∀p∈X.pn++pins,p.1≠b) :
  Inv X pins σ H' {s with heap:=h',gens:=g',drawn:=d',toks:=t'}:=by
 obtain⟨m,⟨o,es,ep,ho,r⟩,_⟩:=id I.loc
 obtain⟨sl,hL⟩:=u.any ho I.free λz=>(hch _ z).2.1 rfl
 exact I.step (ch:=ch) hch (λb o hL hb hc e n=>u.keep b o e n (λz=>(Uq.mp (I.xB b z)).elim hL hb) hc) (λb o _ _ hc e n=>u.any e n hc) (λb o hc e n=>u.free b o e n hc) (λb o hc e=>u.there b o e hc) u.tups u.oG u.qy (λm' hm=>by
  obtain⟨o',es',ep',ho',r'⟩:=hm
  rw [ho]at ho'; cases ho'
  exact⟨_,es',ep',hL,r'⟩) hok hg
theorem Inv.turned{t':Nat}{it:Addr}(I:Inv X pins σ H s)(k:∀b o,b≠it->s.heap.get? b=some o->h'.get? b=some o)(hn:H it=none)(hL:it≠X.env.locals)
  (h1:it∈X.ex\/X.s₀.heap.objs.size<=it) (h2:∀x c,X.env.cells.lookup x=some c->c≠it) (h3:∀p∈X.pn++pins,p.1≠it):Inv X pins σ H {s with heap:=h',toks:=t'}:=by
 have Gy:∀b u,H b=some u->b≠it:=λb u e z=>by rw [z,hn]at e; cases e
 refine I.step (g':=s.gens) (d':=s.drawn) (ch:=[it]) (λb hb=>?_) (λb o _ _ hc e _=>k b o (λz=>hc (by simp [z])) e) (λb o _ _ hc e _=>⟨o.slots,k b o (λz=>hc (by simp [z])) e⟩) (λ_ _ _ _ n=>n)
  (λb o hc e=>⟨o,k b o (λz=>hc (by simp [z])) e⟩) (λ_ _ e=>e) (λ_ _ _ e=>e) (λb ps e=>⟨#[],by rw [e]; simp⟩) (λm hm=>?_) (λb u e=>?_) I.bare
 ·have e:b=it:=by simpa using hb
  subst e
  exact⟨h1,hL,h2,h3⟩
 ·obtain⟨o,es,ep,ho,r⟩:=hm
  exact⟨o,es,ep,k _ o (Ne.symm hL) ho,r⟩
 ·refine(I.hok b u e).stay (λc v hc q=>k c v ?_ q) (λ_ q=>q) λ_ _ q=>q
  rcases hc with z | z
  ·rw [z]; exact Gy b u e
  ·exact Gy c _ z
theorem Inv.tok(I:Inv X pins σ H s)(t:Nat):Inv X pins σ H {s with toks:=t}:=I.un (h':=s.heap) (t':=t) Un.refl I.hok
theorem Inv.kept{t':Nat}(I:Inv X pins σ H s)(k:∀b u,s.heap.get? b=some u->h'.get? b=some u):Inv X pins σ H {s with heap:=h',toks:=t'}:=I.un (Un.kept k) (I.hok.kept k)
theorem Inv.laid{a:Addr}{o:HO}{t':Nat}(I:Inv X pins σ H s)(k:∀b u,s.heap.get? b=some u->h'.get? b=some u)(hp:s.heap.objs.size<=a)(new:cq X.prog X.w (upd H a o) h' a o) :
  Inv X pins σ (upd H a o) {s with heap:=h',toks:=t'}:=I.un (Un.laid k hp (I.hok.fresh hp)) (I.hok.laid k hp new)
theorem Inv.write{x e:Addr}{o:HO}{t':Nat}(I:Inv X pins σ H s)(mu:Lr (H x))(he:e=x\/H e=some (.own x))(k:∀b u,b≠e->s.heap.get? b=some u->h'.get? b=some u)(heo:∃u,h'.get? e=some u)
  (new:cq X.prog X.w (upd H x o) h' x o):Inv X pins σ (upd H x o) {s with heap:=h',toks:=t'}:=I.un (Un.write mu he k heo) (I.hok.write mu he k heo new)
theorem Inv.iQ{pins':List (Addr×Obj)}(I:Inv X pins σ H s)(h:∀p∈pins',s.heap.get? p.1=some p.2/\H p.1=none/\p.1≠X.env.locals/\p.1∉X.fs/\∀v,p.2.data≠ .cell v):Inv X pins' σ H s :=
 ⟨I.ok,I.os,I.bare,I.base,I.loc,I.cell,I.free,I.fO,λp hp=>(Us.mp hp).elim (λz=>I.pin p (List.mem_append_left _ z)) (h p),I.hok,I.len⟩
theorem pM{N:List Str}(hN:N.Nodup){i j:Nat}{x:Str}(a:N[i]? = some x)(b:N[j]? = some x):i=j:=by
 obtain⟨h1,e1⟩:=Um.mp a
 obtain⟨h2,e2⟩:=Um.mp b
 exact(List.getElem_inj hN).mp (e1.trans e2.symm)
theorem lD{M:Model}{A:Around}{E:Value->Shared->Prop}{i:Nat}{x:Str}{v:V}{u:Value}{Q:Unit->Shared->Prop}(I:Inv X pins σ H s)(hN:X.N.Nodup)(hi:X.N[i]? = some x)(hx:Loc X.env.scope x)(r:RelV v u)
  (h:∀s',Inv X pins (σ.set i (some v)) H s'->(∃a,Heap.SameBut a s.heap s'.heap/\(a=X.env.locals\/X.env.cells.lookup x=some a))->Q () s') (hf:X.fn x=true\/X.env.scope.names.lookup x=some .local:=by first | exact .inl rfl | exact .inr rfl | assumption):wpAny M A (storeName X.env x u) Q E s:=by
 obtain⟨m,hn,hl⟩:=id I.loc
 have hcls:(X.env.scope.kind == .class||(X.env.scope.kind == .module&&X.env.locals != X.env.globals))=false:=by rw [I.ok.kind]; rfl
 have CM:i<σ.length:=by rw [I.len]; exact(Um.mp hi).1
 have FY:=I.FY
 have tracked:∀{a:Addr} {h':Heap},(∃o,s.heap.get? a=some o/\H a=none)->Heap.SameBut a s.heap h'->i7 X.prog X.w H h':=λ{a h'} ha hs b ob e=>by
  obtain⟨_,_,hfree⟩:=ha
  refine(I.hok b ob e).stay (λc w' hc q=>(hs.2 c ?_).trans q) (λ_ q=>q) λ_ _ q=>q
  rintro rfl
  rcases hc with rfl | hc
  ·rw [hfree]at e; cases e
  ·rw [hfree]at hc; cases hc
 rcases hx with hk | hk
 ·refine wpAny_storeName_local hk hn (λh' hn' hs=>?_) hcls
  obtain⟨oL,_,_,hoL,_⟩:=id hn
  refine h _ ⟨I.ok,I.os,I.bare,⟨λb o e n hb hx=>?_,λb o e n hb hx=>?_,I.base.free,λb o e hx=>?_,I.base.tups,I.base.oG,I.base.qy⟩,⟨_,hn',λj y v' e1 e2 e3=>?_⟩,λy c e=>?_,I.free,I.fO,λp hp=>?_,tracked ⟨oL,hoL,I.free⟩ hs,by simpa using I.len⟩ ⟨_,hs,.inl rfl⟩
  ·exact(hs.2 b (Ut (Ue (T5 e) I.ok.above))).trans (I.base.keep b o e n hb hx)
  ·obtain⟨sl,e1⟩:=I.base.slot b o e n hb hx
   exact⟨sl,(hs.2 b (Ut (Ue (T5 e) I.ok.above))).trans e1⟩
  ·obtain⟨o',e1⟩:=I.base.there b o e hx
   exact⟨o',(hs.2 b (Ut (Ue (T5 e) I.ok.above))).trans e1⟩
  ·by_cases hj:j=i
   ·subst hj
    rw [hi]at e1; cases e1
    rw [List.getElem?_set_self CM]at e2
    cases e2
    exact⟨u,r,.inl ⟨hk,by simp⟩⟩
   ·rw [List.getElem?_set_ne (Ne.symm hj)]at e2
    obtain⟨u',r',q⟩:=hl j y v' e1 e2 e3
    refine⟨u',r',?_⟩
    rcases q with⟨k,e⟩ | ⟨k,c,e,z⟩
    ·refine .inl ⟨k,?_⟩
     have:y≠x:=λe=>hj (pM hN e1 (e▸hi))
     simp [this,e]
    ·exact .inr ⟨k,c,e,z.sameBut hs (FY y c e)⟩
  ·obtain⟨w',z⟩:=I.cell y c e
   exact⟨w',z.sameBut hs (FY y c e)⟩
  ·obtain⟨e,n,ne,nf,d⟩:=I.pin p hp
   exact⟨(hs.2 p.1 ne).trans e,n,ne,nf,d⟩
 ·have hfn:X.fn x=true:=by
   rcases hf with z | z
   ·exact z
   ·rw [z]at hk; cases hk
  obtain⟨c,hc⟩:=I.ok.has x (.inl hk)
  obtain⟨w',z⟩:=I.cell x c hc
  refine wpAny_storeName_cell I.ok.kind hk hc z (λh' hc' hs=>?_)
  obtain⟨oc,hoc,OF⟩:=id z
  refine h {s with heap:=h'} ⟨I.ok,I.os,I.bare,⟨λb o e n hb hx=>?_,λb o e n hb hx=>?_,I.base.free,λb o e hx=>?_,I.base.tups,I.base.oG,I.base.qy⟩,⟨m,hn.sameBut hs (Ne.symm (FY x c hc)),λj y v' e1 e2 e3=>?_⟩,λy c' e=>?_,I.free,I.fO,λp hp=>?_,tracked ⟨oc,hoc,I.fO x c hc⟩ hs,by simpa using I.len⟩ ⟨c,hs,.inr hc⟩
  ·exact(hs.2 b (Ut (Ue (T5 e) (I.ok.cab x c hfn hc)))).trans (I.base.keep b o e n hb hx)
  ·obtain⟨sl,e1⟩:=I.base.slot b o e n hb hx
   exact⟨sl,(hs.2 b (Ut (Ue (T5 e) (I.ok.cab x c hfn hc)))).trans e1⟩
  ·obtain⟨o',e1⟩:=I.base.there b o e hx
   exact⟨o',(hs.2 b (Ut (Ue (T5 e) (I.ok.cab x c hfn hc)))).trans e1⟩
  ·by_cases hj:j=i
   ·subst hj
    rw [hi]at e1; cases e1
    rw [List.getElem?_set_self CM]at e2
    cases e2
    exact⟨u,r,.inr ⟨.inl hk,c,hc,hc'⟩⟩
   ·rw [List.getElem?_set_ne (Ne.symm hj)]at e2
    obtain⟨u',r',q⟩:=hl j y v' e1 e2 e3
    refine⟨u',r',?_⟩
    rcases q with q | ⟨k,c',e,z'⟩
    ·exact .inl q
    ·refine .inr ⟨k,c',e,z'.sameBut hs ?_⟩
     rintro rfl
     exact hj (pM hN e1 (I.ok.inj _ _ _ e hc▸hi))
  ·by_cases hcc:c'=c
   ·subst hcc; exact⟨_,hc'⟩
   ·obtain⟨w2,z2⟩:=I.cell y c' e
    exact⟨w2,z2.sameBut hs hcc⟩
  ·obtain⟨e,n,ne,nf,d⟩:=I.pin p hp
   refine⟨(hs.2 p.1 ?_).trans e,n,ne,nf,d⟩
   intro q
   rw [q,hoc]at e
   have q':oc=p.2:=Uv e
   exact d w' (by rw [←q']; exact OF)
theorem ic{M:Model}{A:Around}{E:Value->Shared->Prop}{i:Nat}{x:Str}{v:V}{u:Value}{Q:Unit->Shared->Prop}(I:Inv X pins σ H s)(hN:X.N.Nodup)(hi:X.N[i]? = some x)(hx:Loc X.env.scope x)(r:RelV v u)
  (h:∀s',Inv X pins (σ.set i (some v)) H s'->Q () s') (hf:X.fn x=true\/X.env.scope.names.lookup x=some .local:=by first | exact .inl rfl | exact .inr rfl | assumption):wpAny M A (storeName X.env x u) Q E s :=
 lD I hN hi hx r (λs' I' _=>h s' I') hf
theorem Inv.call'{s':Shared}{ch:List Addr}(I:Inv X pins σ H s)(ho:s'.os=s.os)(u:Un (frs X.stack) ch H H' s.heap s'.heap)(hok:i7 X.prog X.w H' s'.heap)(hg:AllBare s'.gens)
  (hch:∀b∈ch,(b∈X.ex\/X.s₀.heap.objs.size<=b)/\b≠X.env.locals/\(∀x c,X.env.cells.lookup x=some c->c≠b)/\∀p∈X.pn++pins,p.1≠b):Inv X pins σ H' s':=by
 obtain⟨h',g',d',t',o'⟩:=s'
 have e:o'=s.os:=ho
 subst e
 exact I.call (g':=g') (t':=t') (d':=d') u hok hg hch
end
abbrev XK:=Value->Option Addr->Hp->Prop
abbrev St:=List (Option V)
abbrev VK:=V->Hp->Prop
abbrev TE:=St->Hp->VK->Prop
abbrev TT:=St->Hp->(Bool->Hp->Prop)->Prop
abbrev TA:=St->Hp->(List V->Hp->Prop)->Prop
structure Ends where
 nx:St->Hp->Prop
 rt:VK
 bk:St->Hp->Prop:=λ_ _=>False
 ct:St->Hp->Prop:=λ_ _=>False
abbrev TS:=Ends->St->Hp->Prop
def EP(X:Cx)(pins:List (Addr×Obj))(σ:St)(Q:VK)(u:Value)(s':Shared):Prop:=∃v H',Inv X pins σ H' s'/\RelV v u/\Q v H'
def TP(X:Cx)(pins:List (Addr×Obj))(σ:St)(Q:Bool->Hp->Prop)(b:Bool)(s':Shared):Prop:=∃H',Inv X pins σ H' s'/\Q b H'
def AP(X:Cx)(pins:List (Addr×Obj))(σ:St)(Q:List V->Hp->Prop)(us:List Value)(s':Shared):Prop:=∃vs H',Inv X pins σ H' s'/\Vals vs us/\Q vs H'
def SP(X:Cx)(pins:List (Addr×Obj))(D:Ends)(f:Flow)(s':Shared):Prop :=
 match f with
 | .next=>∃σ' H',Inv X pins σ' H' s'/\D.nx σ' H'
 | .brk=>∃σ' H',Inv X pins σ' H' s'/\D.bk σ' H'
 | .cont=>∃σ' H',Inv X pins σ' H' s'/\D.ct σ' H'
 | .ret u=>∃v σ' H',Inv X pins σ' H' s'/\RelV v u/\D.rt v H'
def PE(X:Cx)(e:Expr)(t:TE):Prop :=
 ∀(pins:List (Addr×Obj)) (s:Shared) (σ:St) (H:Hp) (Q:VK),Inv X pins σ H s->t σ H Q->wpAny (model X.prog X.w) X.A (eval e X.env) (EP X pins σ Q) X.xe s
def PT(X:Cx)(e:Expr)(t:TT):Prop :=
 ∀(pins:List (Addr×Obj)) (s:Shared) (σ:St) (H:Hp) (Q:Bool->Hp->Prop),Inv X pins σ H s->t σ H Q->wpAny (model X.prog X.w) X.A (isTrue e X.env (eval e X.env)) (TP X pins σ Q) X.xe s
def PW(X:Cx)(e:Expr)(t:TT):Prop :=
 ∀(whole:Sem Value) (pins:List (Addr×Obj)) (s:Shared) (σ:St) (H:Hp) (Q:Bool->Hp->Prop),Inv X pins σ H s->t σ H Q->wpAny (model X.prog X.w) X.A (isTrue e X.env whole) (TP X pins σ Q) X.xe s
theorem PW.pt{X:Cx}{e:Expr}{t:TT}(h:PW X e t):PT X e t:=h _
def PA(X:Cx)(es:List Expr)(t:TA):Prop :=
 ∀(pos:Pos) (pins:List (Addr×Obj)) (s:Shared) (σ:St) (H:Hp) (Q:List V->Hp->Prop),Inv X pins σ H s->t σ H Q->wpAny (model X.prog X.w) X.A (spliced (backTo pos (starEach es X.env))) (AP X pins σ Q) X.xe s
def PS(X:Cx)(st:Stmt)(t:TS):Prop :=
 ∀(pins:List (Addr×Obj)) (s:Shared) (σ:St) (H:Hp) (D:Ends),Inv X pins σ H s->t D σ H->wpAny (model X.prog X.w) X.A (exec st X.env) (SP X pins D) X.xe s
def pL(X:Cx)(st:List Stmt)(t:TS):Prop :=
 ∀(pins:List (Addr×Obj)) (s:Shared) (σ:St) (H:Hp) (D:Ends),Inv X pins σ H s->t D σ H->wpAny (model X.prog X.w) X.A (execs st X.env) (SP X pins D) X.xe s
theorem b_{α:Type}{t:Sem α}{Q Q':α->Shared->Prop}{M:Model}{A:Around}{E:Value->Shared->Prop}{s:Shared}(h:wpAny M A t Q E s)(hQ:∀a s,Q a s->Q' a s):wpAny M A t Q' E s:=UB h hQ λ_ _ x=>x
section
variable{X:Cx}
def bx(i:Nat):TE:=λσ H Q=>∃v,σ[i]? = some (some v)/\Q v H
def tC(v:V):TE:=λ_ H Q=>Q v H
theorem xA{i:Nat}{x:Str}{pos:Pos}(hN:X.N[i]? = some x)(hv:NX X.env.scope x)(hd:(x==("__debug__" : Str))=false:=by decide)(hcd:(x==("__classdict__" : Str))=false:=by decide):PE X (.Name x pos) (bx i):=by
 intro pins s σ H Q I h
 obtain⟨v,e,h⟩:=h
 obtain⟨m,hn,hl⟩:=I.loc
 obtain⟨u,r,l⟩:=hl i x v hN e hv
 have fin:EP X pins σ Q u s:=⟨v,H,I,r,h⟩
 rcases l with⟨hk,hm⟩ | ⟨hk,c,hc,hcell⟩
 ·exact wpAny_Name (wpAny_loadName_local I.ok.kind hk hn hm fin) hd
 ·rcases hk with hk | hk
  ·exact wpAny_Name (wpAny_loadName_cell I.ok.kind hk hc hcell fin) hd
  ·exact wpAny_Name (wpAny_loadName_free I.ok.kind hk hc hcell fin hcd) hd
theorem ai{i j pos}:PE X (.Constant (.int i) j pos) (tC (.int i)):=λ_ _ _ H _ I h=>wpAny_Constant_int ⟨.int i,H,I.tok _,⟨_,rfl⟩,h⟩
theorem fQ{b j pos}:PE X (.Constant (.bool b) j pos) (tC (.bl b)):=λ_ _ _ H _ I h=>Constant_bool ⟨.bl b,H,I,rfl,h⟩
theorem iz{j pos}:PE X (.Constant .none j pos) (tC .non):=λ_ _ _ H _ I h=>Constant_none ⟨.non,H,I,rfl,h⟩
theorem ao{x j pos}:PE X (.Constant (.str x) j pos) (tC (.str x)):=λ_ _ _ H _ I h=>Calls.Constant_str ⟨.str x,H,I.tok _,⟨_,rfl⟩,h⟩
def Gl(X:Cx)(x:Str):Prop:=X.env.kindOf x=some .globalImplicit
theorem m9{E:Value->Shared->Prop}{pins:List (Addr×Obj)}{s:Shared}{σ:St}{H:Hp}{x:Str}{u:Value}{pos:Pos}{Q:Value->Shared->Prop}(I:Inv X pins σ H s)(hg:Gl X x)(hm:X.mg x=some u)(h:Q u s)
  (hd:(x==("__debug__" : Str))=false:=by decide):wpAny (model X.prog X.w) X.A (eval (.Name x pos) X.env) Q E s :=
 Calls.Name_function_global I.ok.kind hg (Calls.loadGlobal_global (by rw [I.ok.glob]; exact I.mod.glob.keeps I.bk) hm h) hd
theorem iT{E:Value->Shared->Prop}{pins:List (Addr×Obj)}{s:Shared}{σ:St}{H:Hp}{x:Str}{u:Value}{pos:Pos}{Q:Value->Shared->Prop}(I:Inv X pins σ H s)(hg:Gl X x)(hm:X.mg x=none)(hv:bootBuiltins x=some u)(h:Q u s)
  (hn:x≠"__name__":=by decide) (hd:(x==("__debug__" : Str))=false:=by decide):wpAny (model X.prog X.w) X.A (eval (.Name x pos) X.env) Q E s:=by
 obtain⟨mb,h1,h2⟩:=I.mod.blt
 exact Calls.Name_function_global I.ok.kind hg (Calls.loadGlobal_builtin (by rw [I.ok.glob]; exact I.mod.glob.keeps I.bk) hm (by rw [I.ok.blt]; exact h1.keeps I.bk) ((h2 x hn).trans hv) h) hd
theorem cQ{x:Str}{v:V}{u:Value}{pos:Pos}(hg:Gl X x)(hm:X.mg x=some u)(r:RelV v u)(hd:(x==("__debug__" : Str))=false:=by decide):PE X (.Name x pos) (tC v) :=
 λ_ _ _ H _ I h=>m9 I hg hm ⟨v,H,I,r,h⟩ hd
theorem FV{x:Str}{v:V}{u:Value}{pos:Pos}(hg:Gl X x)(hm:X.mg x=none)(hv:bootBuiltins x=some u)(r:RelV v u)(hn:x≠"__name__":=by decide)(hd:(x==("__debug__" : Str))=false:=by decide):PE X (.Name x pos) (tC v) :=
 λ_ _ _ H _ I h=>iT I hg hm hv ⟨v,H,I,r,h⟩ hn hd
variable{a b:Expr}{ta tb:TE}{pos:Pos}
def tB(t:TE):TT:=λσ H Q=>t σ H λx H1=>∃c,x=.bl c/\Q c H1
theorem ft{e:Expr}{t:TE}(h:PE X e t)(he:∀whole,isTrue e X.env whole=(do let v←whole; standAt e.pos; holding [v] (truthy v)):=by intro _; rfl):PT X e (tB t):=by
 intro pins s σ H Q I hw
 refine isTrue_plain (b_ (h pins s σ H _ I hw) λv s1 ⟨x,H1,I1,r1,q1⟩=>?_) (he _)
 obtain⟨d,rfl,q⟩:=q1
 cases r1
 exact wpAny_truthy_bool ⟨H1,I1,q⟩
variable{tA M6:TT}{rest:List Expr}
def Ma(t u:TT):TT:=λσ H Q=>t σ H λc H1=>if c=true then u σ H1 Q else Q false H1
def Td(t u:TT):TT:=λσ H Q=>t σ H λc H1=>if c=true then Q true H1 else u σ H1 Q
def OW(t:TT):TT:=λσ H Q=>t σ H λc H1=>Q (!c) H1
theorem iG(ha:PT X a tA):PW X (.BoolOp .And [a] pos) tA:=by
 intro wh pins s σ H Q I h
 refine isTrue_and (b_ (ha pins s σ H Q I h) λc s1 e=>?_)
 cases c with
 | true=>exact isTrue_and_nil e
 | false=>exact e
theorem DC(ha:PT X a tA):PW X (.BoolOp .Or [a] pos) tA:=by
 intro wh pins s σ H Q I h
 refine isTrue_or (b_ (ha pins s σ H Q I h) λc s1 e=>?_)
 cases c with
 | false=>exact isTrue_or_nil e
 | true=>exact e
theorem kC(ha:PT X a tA)(hb:PW X (.BoolOp .And (b::rest) pos) M6):PW X (.BoolOp .And (a::b::rest) pos) (Ma tA M6):=by
 intro wh pins s σ H Q I h
 refine isTrue_and (b_ (ha pins s σ H _ I h) λc s1 ⟨H1,I1,q1⟩=>?_)
 cases c with
 | true=>exact hb wh pins s1 σ H1 Q I1 q1
 | false=>exact⟨H1,I1,q1⟩
theorem Bo(ha:PT X a tA)(hb:PW X (.BoolOp .Or (b::rest) pos) M6):PW X (.BoolOp .Or (a::b::rest) pos) (Td tA M6):=by
 intro wh pins s σ H Q I h
 refine isTrue_or (b_ (ha pins s σ H _ I h) λc s1 ⟨H1,I1,q1⟩=>?_)
 cases c with
 | true=>exact⟨H1,I1,q1⟩
 | false=>exact hb wh pins s1 σ H1 Q I1 q1
theorem sP(ha:PT X a tA):PT X (.UnaryOp .Not a pos) (OW tA):=by
 intro pins s σ H Q I h
 exact isTrue_not (ha pins s σ H (λc H1=>Q (!c) H1) I h)
def GN(ta tb:TE):TE:=λσ H Q=>ta σ H λx H1=>∃c,x=.bl c/\if c=true then tb σ H1 Q else Q (.bl false) H1
def vJ(ta tb:TE):TE:=λσ H Q=>ta σ H λx H1=>∃c,x=.bl c/\if c=true then Q (.bl true) H1 else tb σ H1 Q
def GW(ta:TE):TE:=λσ H Q=>ta σ H λx H1=>∃c,x=.bl c/\Q (.bl (!c)) H1
theorem cT{op}{t:TE}(h:PE X a t):PE X (.BoolOp op [a] pos) t:=λpins s σ H Q I hw=>BoolOp_one (h pins s σ H Q I hw)
theorem nI(ha:PE X a ta)(hb:PE X (.BoolOp .And (b::rest) pos) tb):PE X (.BoolOp .And (a::b::rest) pos) (GN ta tb):=by
 intro pins s σ H Q I h
 refine BoolOp_and (b_ (ha pins s σ H _ I h) λv s1 ⟨x,H1,I1,r1,q1⟩=>?_)
 obtain⟨c,rfl,q1⟩:=q1
 cases r1
 refine wpAny_truthy_bool ?_
 cases c with
 | true=>exact hb pins s1 σ H1 Q I1 q1
 | false=>exact⟨.bl false,H1,I1,rfl,q1⟩
theorem fJ(ha:PE X a ta)(hb:PE X (.BoolOp .Or (b::rest) pos) tb):PE X (.BoolOp .Or (a::b::rest) pos) (vJ ta tb):=by
 intro pins s σ H Q I h
 refine BoolOp_or (b_ (ha pins s σ H _ I h) λv s1 ⟨x,H1,I1,r1,q1⟩=>?_)
 obtain⟨c,rfl,q1⟩:=q1
 cases r1
 refine wpAny_truthy_bool ?_
 cases c with
 | false=>exact hb pins s1 σ H1 Q I1 q1
 | true=>exact⟨.bl true,H1,I1,rfl,q1⟩
theorem JP(ha:PE X a ta):PE X (.UnaryOp .Not a pos) (GW ta):=by
 intro pins s σ H Q I h
 refine UnaryOp_ (b_ (ha pins s σ H _ I h) λv s1 ⟨x,H1,I1,r1,q1⟩=>?_)
 obtain⟨c,rfl,q1⟩:=q1
 cases r1
 exact not_of (wpAny_truthy_bool ⟨.bl (!c),H1,I1,rfl,q1⟩)
def QM(t:TT)(ta tb:TE):TE:=λσ H Q=>t σ H λc H1=>if c=true then ta σ H1 Q else tb σ H1 Q
theorem eK{c:Expr}(hc:PT X c tA)(ha:PE X a ta)(hb:PE X b tb):PE X (.IfExp c a b pos) (QM tA ta tb):=by
 intro pins s σ H Q I h
 refine wpAny_IfExp (b_ (hc pins s σ H _ I h) λd s1 ⟨H1,I1,q1⟩=>?_)
 cases d with
 | true=>exact ha pins s1 σ H1 Q I1 q1
 | false=>exact hb pins s1 σ H1 Q I1 q1
end
def a_(K:UJ)(H:Hp)(a:Addr)(xs:List V):Prop :=
 Rd H a (.lst xs)\/
  ∃(o:Obj) (its:Array Value) (n:Nat),K.lookup a=some o/\o.cls=.type "list"/\o.dict=none/\o.data=.seq its n/\its.size<=sizeLine/\Vals xs its.toList
def aH(K:UJ)(H:Hp)(a:Addr)(xs:List V):Prop :=
 Rd H a (.tup xs)\/
  ∃(o:Obj) (its:Array Value) (n:Nat),K.lookup a=some o/\o.cls=.type "tuple"/\o.data=.seq its n/\its.size<=sizeLine/\Vals xs its.toList
def Oy:Value->Option V
 | .none=>some .non
 | .bool b=>some (.bl b)
 | .int i _=>some (.int i)
 | .str x _=>some (.str x)
 | .bytes b _=>some (.yv b)
 | .float b _=>some (.flt b)
 | .ref a=>some (.ref a)
 | .type n=>some (.ty n)
 | _=>none
theorem RelV.abs{x:V}{u:Value}(r:RelV x u):Oy u=some x:=by
 cases x with
 | non=>cases r; rfl
 | bl _=>cases r; rfl
 | int _=>obtain⟨t,rfl⟩:=r; rfl
 | str _=>obtain⟨t,rfl⟩:=r; rfl
 | yv _=>obtain⟨t,rfl⟩:=r; rfl
 | flt _=>obtain⟨t,rfl⟩:=r; rfl
 | ref _=>cases r; rfl
 | ty _=>cases r; rfl
theorem RelV.inj{x y:V}{u:Value}(r:RelV x u)(q:RelV y u):x=y:=Uv (r.abs.symm.trans q.abs)
theorem Vals.inj:∀{xs ys:List V} {us:List Value},Vals xs us->Vals ys us->xs=ys
 | _,_,_,.nil,.nil=>rfl
 | _,_,_,.cons r t,.cons r' t'=>by rw [r.inj r',Vals.inj t t']
section
variable{X:Cx}{pins:List (Addr×Obj)}{σ:St}{H:Hp}{s:Shared}{a:Addr}{xs ys:List V}
theorem a_.of{K:UJ}(h:H a=some (.lst xs)):a_ K H a xs:=.inl (.inl h)
theorem aH.of{K:UJ}(h:H a=some (.tup xs)):aH K H a xs:=.inl (.inl h)
theorem Inv.list(I:Inv X pins σ H s)(h:a_ X.K H a xs):∃its:List Value,Vals xs its/\PlainL s.heap a its.toArray/\xs.length<=sizeLine:=by
 rcases h with h | ⟨o,its,n,hk,hc,hd,hs,hz,r⟩
 ·obtain⟨z,its,n,r,e⟩:=h.ok I.hok
  exact⟨its,r,⟨_,n,e,rfl,rfl,rfl⟩,z⟩
 ·refine⟨its.toList,r,⟨o,n,I.jI a o hk,hc,hd,by simpa using hs⟩,?_⟩
  have e:=r.length
  simp only [Array.length_toList]at e
  omega
theorem Inv.tuple(I:Inv X pins σ H s)(h:aH X.K H a xs):∃its:List Value,Vals xs its/\IsTup s.heap a its.toArray/\xs.length<=sizeLine:=by
 rcases h with h | ⟨o,its,n,hk,hc,hs,hz,r⟩
 ·obtain⟨z,its,r,p⟩:=h.ok I.hok
  exact⟨its,r,p.tup,z⟩
 ·refine⟨its.toList,r,⟨o,I.jI a o hk,hc,n,by simpa using hs⟩,?_⟩
  have e:=r.length
  simp only [Array.length_toList]at e
  omega
theorem Inv.D8(I:Inv X pins σ H s)(h:a_ X.K H a xs)(h':a_ X.K H a ys):xs=ys:=by
 obtain⟨its,r,⟨o,n,e,_,_,d⟩,_⟩:=I.list h
 obtain⟨its',r',⟨o',n',e',_,_,d'⟩,_⟩:=I.list h'
 rw [e]at e'; cases e'
 rw [d]at d'
 injection d' with d1 _
 have:its=its':=by simpa using congrArg Array.toList d1
 subst this
 exact r.inj r'
theorem Inv.ik(I:Inv X pins σ H s)(h:aH X.K H a xs)(h':aH X.K H a ys):xs=ys:=by
 obtain⟨its,r,⟨o,e,_,n,d⟩,_⟩:=I.tuple h
 obtain⟨its',r',⟨o',e',_,n',d'⟩,_⟩:=I.tuple h'
 rw [e]at e'; cases e'
 rw [d]at d'
 injection d' with d1 _
 have:its=its':=by simpa using congrArg Array.toList d1
 subst this
 exact r.inj r'
end
abbrev Cx.wish(X:Cx)(E:Value->Shared->Prop):Cx:={X with xe:=E}
abbrev Cx.yz(X:Cx):Cx:=X.wish λ_ _=>False
theorem Cx.Ok.wish{X:Cx}(ok:X.Ok)(E:Value->Shared->Prop):(X.wish E).Ok :=
 ⟨ok.mod,ok.kind,ok.glob,ok.blt,ok.above,ok.inj,ok.has,ok.cab,ok.hd,ok.frames,ok.IF,ok.Ak,ok.bs,ok.AX,ok.uM,ok.oj,ok.kh,ok.Ef⟩
theorem Cx.Ok.c_{X:Cx}{E:Value->Shared->Prop}(ok:(X.wish E).Ok):X.Ok :=
 ⟨ok.mod,ok.kind,ok.glob,ok.blt,ok.above,ok.inj,ok.has,ok.cab,ok.hd,ok.frames,ok.IF,ok.Ak,ok.bs,ok.AX,ok.uM,ok.oj,ok.kh,ok.Ef⟩
section
variable{X:Cx}{pins:List (Addr×Obj)}{σ:St}{H:Hp}{s:Shared}{E:Value->Shared->Prop}
theorem Inv.wish(I:Inv X pins σ H s)(E:Value->Shared->Prop):Inv (X.wish E) pins σ H s:=⟨I.ok.wish E,I.os,I.bare,I.base,I.loc,I.cell,I.free,I.fO,I.pin,I.hok,I.len⟩
theorem Inv.c_(I:Inv (X.wish E) pins σ H s):Inv X pins σ H s:=⟨I.ok.c_,I.os,I.bare,I.base,I.loc,I.cell,I.free,I.fO,I.pin,I.hok,I.len⟩
theorem SP.c_{D:Ends}{f:Flow}{s':Shared}(h:SP (X.wish E) pins D f s'):SP X pins D f s':=by
 cases f with
 | next=>obtain⟨σ',H',I,q⟩:=h; exact⟨σ',H',I.c_,q⟩
 | brk=>obtain⟨σ',H',I,q⟩:=h; exact⟨σ',H',I.c_,q⟩
 | cont=>obtain⟨σ',H',I,q⟩:=h; exact⟨σ',H',I.c_,q⟩
 | ret u=>obtain⟨v,σ',H',I,r,q⟩:=h; exact⟨v,σ',H',I.c_,r,q⟩
theorem PE.yz{e:Expr}{t:TE}(h:PE X.yz e t):PE X e t:=λpins s σ H Q I hw =>
 UB (h pins s σ H Q (I.wish _) hw) (λ_ _ ⟨v,H',I',r,q⟩=>⟨v,H',I'.c_,r,q⟩) λ_ _ z=>False.elim z
theorem pL.yz{st:List Stmt}{t:TS}(h:pL X.yz st t):pL X st t:=λpins s σ H D I hw =>
 UB (h pins s σ H D (I.wish _) hw) (λ_ _ q=>q.c_) λ_ _ z=>False.elim z
end
section
variable{X:Cx}{st:Stmt}{rest:List Stmt}{t u:TS}{e:Expr}{te:TE}{pos:Pos}
def DE:TS:=λD σ H=>D.nx σ H
def Fy(t u:TS):TS:=λD σ H=>t {D with nx:=u D} σ H
theorem b9:pL X [] DE:=λ_ _ σ H _ I h=>wpAny_execs_nil ⟨σ,H,I,h⟩
theorem aq(h1:PS X st t)(h2:pL X rest u):pL X (st::rest) (Fy t u):=by
 intro pins s σ H D I h
 refine wpAny_execs_cons (b_ (h1 pins s σ H {D with nx:=u D} I h) λf s1 q=>?_)
 cases f with
 | next =>
  obtain⟨σ',H',I',q⟩:=q
  exact h2 pins s1 σ' H' D I' q
 | ret v=>exact q
 | brk=>exact q
 | cont=>exact q
theorem bK(h1:PS X st t):pL X [st] t:=by
 intro pins s σ H D I h
 refine wpAny_execs_cons (b_ (h1 pins s σ H D I h) λf s1 q=>?_)
 cases f with
 | next=>exact wpAny_execs_nil q
 | ret v=>exact q
 | brk=>exact q
 | cont=>exact q
theorem Inv.quiet{pins:List (Addr×Obj)}{σ:St}{H:Hp}{s:Shared}(I:Inv X pins σ H s):interactive X.env=false:=by simp [interactive,I.ok.kind]
def L4(te:TE):TS:=λD σ H=>te σ H λ_ H1=>D.nx σ H1
theorem fG(he:PE X e te)(hs:swapsWith e none pos.line X.env=pure false:=by rfl):PS X (.Expr e pos) (L4 te):=by
 intro pins s σ H D I h
 exact wpAny_Expr_any (b_ (he pins s σ H _ I h) λv s1 ⟨x,H1,I1,r1,q1⟩=>⟨σ,H1,I1,q1⟩) I.quiet hs
def CO(te:TE):TS:=λD σ H=>te σ H D.rt
theorem BK(he:PE X e te):PS X (.Return (some e) pos) (CO te):=by
 intro pins s σ H D I h
 exact wpAny_Return_some (b_ (he pins s σ H _ I h) λv s1 ⟨x,H1,I1,r1,q1⟩=>⟨x,σ,H1,I1,r1,q1⟩)
def Hz(c:TT)(t u:TS):TS:=λD σ H=>c σ H λb H1=>if b=true then t D σ H1 else u D σ H1
theorem dv{c:Expr}{a b:List Stmt}{tc:TT}(hc:PT X c tc)(ha:pL X a t)(hb:pL X b u):PS X (.If c a b pos) (Hz tc t u):=by
 intro pins s σ H D I h
 refine wpAny_If (b_ (hc pins s σ H _ I h) λd s1 ⟨H1,I1,q1⟩=>?_)
 cases d with
 | true=>exact ha pins s1 σ H1 D I1 q1
 | false=>exact hb pins s1 σ H1 D I1 q1
end
abbrev TG:=V->St->Hp->(St->Hp->Prop)->Prop
abbrev Iw:=List V->St->Hp->(St->Hp->Prop)->Prop
def PG(X:Cx)(target:Expr)(t:TG):Prop :=
 ∀(pins:List (Addr×Obj)) (s:Shared) (σ:St) (H:Hp) (v:V) (u:Value) (Q:St->Hp->Prop),Inv X pins σ H s->RelV v u->t v σ H Q->
  wpAny (model X.prog X.w) X.A (assign target X.env u) (λ_ s'=>∃σ' H',Inv X pins σ' H' s'/\Q σ' H') X.xe s
def Nf(X:Cx)(ts:List Expr)(t:Iw):Prop :=
 ∀(pins:List (Addr×Obj)) (s:Shared) (σ:St) (H:Hp) (vs:List V) (us:List Value) (Q:St->Hp->Prop),Inv X pins σ H s->Vals vs us->t vs σ H Q->
  wpAny (model X.prog X.w) X.A (assignInOrder ((assignEach ts X.env).map (·.2)) us) (λ_ s'=>∃σ' H',Inv X pins σ' H' s'/\Q σ' H') X.xe s
abbrev JT:=V->V->V->Hp->(Hp->Prop)->Prop
def LG(X:Cx)(t:JT):Prop :=
 ∀(pins:List (Addr×Obj)) (s:Shared) (σ:St) (H:Hp) (o i v:V) (ov iv u:Value) (Q:Hp->Prop),Inv X pins σ H s->RelV o ov->RelV i iv->RelV v u->t o i v H Q->
  wpAny (model X.prog X.w) X.A (setItem ov iv u) (λ_ s'=>∃H',Inv X pins σ H' s'/\Q H') X.xe s
section
variable{X:Cx}{pos:Pos}
def bz(i:Nat):TG:=λv σ H Q=>Q (σ.set i (some v)) H
theorem bT{i:Nat}{x:Str}(hN:X.N.Nodup)(hi:X.N[i]? = some x)(hx:Loc X.env.scope x)(hf:X.fn x=true\/X.env.scope.names.lookup x=some .local:=by first | exact .inl rfl | exact .inr rfl | assumption):PG X (.Name x pos) (bz i):=by
 intro pins s σ H v u Q I r h
 exact wpAny_assign_Name (ic I hN hi hx r (λs' I'=>⟨_,H,I',h⟩) hf)
def iJ:Iw:=λvs σ H Q=>vs=[]/\Q σ H
def bP(t:TG)(u:Iw):Iw:=λvs σ H Q=>∃v r,vs=v::r/\t v σ H λσ' H'=>u r σ' H' Q
theorem bS:Nf X [] iJ:=by
 intro pins s σ H vs us Q I r h
 obtain⟨e,h⟩:=h
 subst e
 cases r
 exact assignInOrder_nil ⟨σ,H,I,h⟩
theorem aA{e:Expr}{es:List Expr}{t:TG}{u:Iw}(h1:PG X e t)(h2:Nf X es u)
  (hs:(assignEach (e::es) X.env).map (·.2)=assign e X.env::(assignEach es X.env).map (·.2):=by rfl):Nf X (e::es) (bP t u):=by
 intro pins s σ H vs us Q I r h
 obtain⟨v,vr,e1,h⟩:=h
 subst e1
 cases r with
 | cons r rr =>
  rw [hs]
  refine assignInOrder_cons (b_ (h1 pins s σ H _ _ _ I r h) λ_ s1 ⟨Ec,H1,I1,q1⟩=>?_)
  exact h2 pins s1 Ec H1 _ _ Q I1 rr q1
def iu(K:UJ)(n:Nat)(t:Iw):TG:=λv σ H Q=>∃a xs,v=.ref a/\aH K H a xs/\xs.length=n/\t xs σ H Q
theorem cB{es:List Expr}{k:Nat}{t:Iw}{n:Nat}(hc:X.calm=true)(h:Nf X es t)
  (hn:(assignEach es X.env).length=n:=by rfl) (hst:(assignEach es X.env).findIdx? (·.1)=none:=by rfl):PG X (.Tuple es k pos) (iu X.K n t):=by
 intro pins s σ H v u Q I r hw
 obtain⟨a,xs,e1,hq,hl,hw⟩:=hw
 subst e1
 cases r
 obtain⟨its,rv,ht,hz⟩:=I.tuple hq
 refine assign_Tuple_tuple (I.ok.hd hc) ht (by simp [hn,←hl,rv.length]) hst λh' hx=>?_
 have I1:Inv X pins σ H {s with heap:=h'}:=I.kept (t':=s.toks) λb o e=>hx b o (Ut (T5 e)) e
 exact h pins _ σ H xs _ Q I1 (by simpa using rv) hw
def NL(to ti:TE)(t:JT):TG:=λv σ H Q=>to σ H λo H1=>ti σ H1 λi H2=>t o i v H2 λH3=>Q σ H3
theorem BP{o i:Expr}{to ti:TE}{t:JT}(ho:PE X o to)(hi:PE X i ti)(hs:LG X t)
  (ha:∀v,assign (.Subscript o i pos) X.env v=(do
   let ov←holding [v] (eval o X.env)
   let iv←holding [v,ov] (eval i X.env)
   standAt pos
   holding [v,ov,iv] (setItem ov iv v)
   release [v,ov,iv] []):=by intro _; rfl):PG X (.Subscript o i pos) (NL to ti t):=by
 intro pins s σ H v u Q I r h
 rw [ha]
 refine TZ (UC (b_ (ho pins s σ H _ I h) λov s1 ⟨x,H1,I1,r1,q1⟩=>?_))
 refine TZ (UC (b_ (hi pins s1 σ H1 _ I1 q1) λiv s2 ⟨y,H2,I2,r2,q2⟩=>?_))
 refine TZ (wpAny_standAt (TZ (UC (b_ (hs pins s2 σ H2 x y v ov iv u _ I2 r1 r2 r q2) λ_ s3 ⟨H3,I3,q3⟩=>?_))))
 exact wpAny_release ⟨σ,H3,I3,q3⟩
def C8(te:TE)(g:TG):TS:=λD σ H=>te σ H λx H1=>g x σ H1 D.nx
theorem pQ{tg e:Expr}{te:TE}{g:TG}(he:PE X e te)(hg:PG X tg g)(hs:swapsWithSole [tg] e pos.line X.env=pure false:=by rfl)(hw:swappedStores [tg] e X.env=pure none:=by rfl)
  (h1:(assignEach [tg] X.env).map (·.2)=[assign tg X.env]:=by rfl):PS X (.Assign [tg] e pos) (C8 te g):=by
 intro pins s σ H D I h
 refine wpAny_Assign_stores (b_ (he pins s σ H _ I h) λv s1 ⟨x,H1,I1,r1,q1⟩=>?_) hs hw
 rw [h1]
 exact b_ (hg pins s1 σ H1 x v _ I1 r1 q1) λ_ s2 q=>q
theorem aL{i:Nat}{x:Str}{e:Expr}{te:TE}{pos':Pos}(hN:X.N.Nodup)(hi:X.N[i]? = some x)(hx:Loc X.env.scope x)(he:PE X e te)(hs:swapsWith e (some (.Name x pos')) pos.line X.env=pure false:=by rfl)(hf:X.fn x=true\/X.env.scope.names.lookup x=some .local:=by first | exact .inl rfl | exact .inr rfl | assumption) :
  PS X (.Assign [.Name x pos'] e pos) (C8 te (bz i)):=by
 intro pins s σ H D I h
 refine wpAny_Assign_Name (b_ (he pins s σ H _ I h) λv s1 ⟨y,H1,I1,r1,q1⟩=>?_) hs
 exact ic I1 hN hi hx r1 (λs2 I2=>⟨_,H1,I2,q1⟩) hf
def Ou(i j:Nat)(ta:TA):TS:=λD σ H=>ta σ H λvs H1=>∃v w,vs=[v,w]/\D.nx ((σ.set i (some v)).set j (some w)) H1
theorem IW{i j:Nat}{x y:Str}{a b:Expr}{ta:TA}{px py pt:Pos}{kt k2 OC}(hc:X.calm=true)(hN:X.N.Nodup)(hi:X.N[i]? = some x)(hj:X.N[j]? = some y)(hij:i≠j)
  (hx:X.env.scope.names.lookup x=some .local) (hy:X.env.scope.names.lookup y=some .local) (ha:PA X [a,b] ta)
  (hw:swappedStores [.Tuple [.Name x px,.Name y py] kt pt] (.Tuple [a,b] k2 OC) X.env=pure (some [x,y]))
  (hs:swapsWithSole [.Tuple [.Name x px,.Name y py] kt pt] (.Tuple [a,b] k2 OC) pos.line X.env=pure false:=by rfl) :
  PS X (.Assign [.Tuple [.Name x px,.Name y py] kt pt] (.Tuple [a,b] k2 OC) pos) (Ou i j ta):=by
 intro pins s σ H D I h
 rw [exec_Assign_arm]
 refine TZ (wpAny_standAt ?_)
 rw [hs]
 refine TZ (T1 ?_)
 rw [if_neg (by decide)]
 refine TZ (Tuple_ (b_ (ha _ pins s σ H _ I h) λus s1 ⟨vs,H1,I1,r1,q1⟩=>?_))
 obtain⟨v,w,e1,q1⟩:=q1
 subst e1
 obtain⟨u1,u2,rfl,rv,xh⟩ :∃u1 u2,us=[u1,u2]/\RelV v u1/\RelV w u2:=by
  cases r1 with
  | cons p q =>
   cases q with
   | cons p' q' =>
    cases q'
    exact⟨_,_,rfl,p,p'⟩
 refine UD ?_ (by show 2<=sizeLine; decide)
 have I2:Inv X pins σ H1 {s1 with heap:=s1.heap.push {cls:=.type "tuple",data:=.seq [u1,u2].toArray}}:=I1.kept (t':=s1.toks) λb o e=>T4 _ e
 rw [hw]
 refine TZ (T1 ?_)
 show wpAny (model X.prog X.w) X.A (do rule "assign.swapped-stores"; let items←unpackItems (.ref s1.heap.objs.size) 2 none; assignInOrder [λv=>bindName X.env y v,λv=>bindName X.env x v] items.reverse; pure Flow.next) _ _ _
 refine TZ (wpAny_rule (TZ (unpackItems_tuple (items:=#[u1,u2]) (I.ok.hd hc) (IsTup.new s1.heap _) λh' hx'=>?_)))
 have I3:=I2.kept (h':=h') (t':=s1.toks) λb o e=>hx' b o (Ut (T5 e)) e
 show wpAny _ _ (assignInOrder [λv=>bindName X.env y v,λv=>bindName X.env x v] [u2,u1] >>= λ_=>pure Flow.next) _ _ _
 refine TZ (assignInOrder_cons (wpAny_bindName (ic I3 hN hj (.inl hy) xh (λs2 I4=>?_) (.inr hy))))
 refine assignInOrder_cons (wpAny_bindName (ic I4 hN hi (.inl hx) rv (λs3 I5=>assignInOrder_nil (T1 ?_)) (.inr hx)))
 rw [List.set_comm _ _ (Ne.symm hij)]at I5
 exact⟨_,H1,I5,q1⟩
end
section
variable{X:Cx}{pos:Pos}
def Jo(c:TT)(tb:TS):TS:=λD σ H=>∃W:Nat->St->Hp->Prop,(∃m,W m σ H)/\∀m σ H,W m σ H->
 c σ H λb H1=>if b=true then∃N:St->Hp->Prop,(∀σ' H',N σ' H'->∃m',m'<m/\W m' σ' H')/\tb {D with nx:=N,ct:=N,bk:=D.nx} σ H1 else D.nx σ H1
theorem Ba{c:Expr}{body:List Stmt}{tc:TT}{tb:TS}(hp:PassesOwn (model X.prog X.w) X.A X.env X.xe)(hc:PT X c tc)(hb:pL X body tb):PS X (.While c body [] pos) (Jo tc tb):=by
 intro pins s σ H D I h
 obtain⟨W,⟨m0,w0⟩,turn⟩:=h
 refine wpAny_While (codeAny_whileLoop (λn s'=>∃σ' H',Inv X pins σ' H' s'/\W n σ' H') ?_ m0 ⟨σ,H,I,w0⟩)
 rintro n s1 ⟨Ec,H1,I1,w1⟩
 refine wpAny_passesOwn hp (b_ (hc pins s1 Ec H1 _ I1 (turn n Ec H1 w1)) λb s2 ⟨H2,I2,q2⟩=>?_)
 cases b with
 | true =>
  obtain⟨N,hN,q2⟩:=q2
  rw [if_pos rfl]
  refine wpAny_passesOwn hp (b_ (hb pins s2 Ec H2 _ I2 q2) λf s3 q3=>?_)
  cases f with
  | next =>
   obtain⟨A8,H3,I3,n3⟩:=q3
   obtain⟨m',hm,w3⟩:=hN A8 H3 n3
   exact⟨m',hm,A8,H3,I3,w3⟩
  | cont =>
   obtain⟨A8,H3,I3,n3⟩:=q3
   obtain⟨m',hm,w3⟩:=hN A8 H3 n3
   exact⟨m',hm,A8,H3,I3,w3⟩
  | brk=>exact q3
  | ret v=>exact q3
 | false =>
  rw [if_neg Uk]
  exact wpAny_execs_nil ⟨Ec,H2,I2,q2⟩
end
structure It where
 go:Nat->Hp->Prop
 E6:Nat->Hp->V->Hp->Prop
 stop:Nat->Hp->Prop
def dz(X:Cx)(pins:List (Addr×Obj))(H:Hp)(b:Addr):Prop :=
 H b=none/\b≠X.env.locals/\b∉X.fs/\(b∈X.ex\/X.s₀.heap.objs.size<=b)/\(∀x c,X.env.cells.lookup x=some c->c≠b)/\∀p∈X.pn++pins,p.1≠b
theorem Inv.lZ{X:Cx}{pins:List (Addr×Obj)}{σ:St}{H H':Hp}{s:Shared}{b:Addr}(I:Inv X pins σ H s)(hb:s.heap.objs.size<=b)(hn:H' b=none):dz X pins H' b:=by
 refine⟨hn,Nat.ne_of_gt (Ue I.lt hb),I.NO hb,.inr (T8 I.sz hb),λx c e z=>?_,λp hp z=>?_⟩
 ·obtain⟨v,q⟩:=I.cell x c e
  exact absurd (Ue q.lt (by rw [z]; exact hb)) (Nat.lt_irrefl _)
 ·exact absurd (Ue (T5 (I.pin p hp).1) (by rw [z]; exact hb)) (Nat.lt_irrefl _)
structure Turn(P:Program)(w:World)(K:UJ)(tg:Expr)(J:It)(fp:List Addr)(it:Addr)(tn:Nat->Heap->Prop):Prop where
 mem:it∈fp
 obj:∀i h,tn i h->∀b∈fp,∃o,h.get? b=some o/\∀v,o.data≠ .cell v
 keep:∀i h h',tn i h->(∀b∈fp,∀o,h.get? b=some o->h'.get? b=some o)->tn i h'
 item:∀(X:Cx),X.prog=P->X.w=w->X.K=K->X.calm=true->∀(i:Nat) (pins:List (Addr×Obj)) (s:Shared) (σ:St) (H:Hp) (E:Value->Shared->Prop),Inv X pins σ H s->(∀b∈fp,dz X pins H b)->tn i s.heap->J.go i H->
  wpAny (model P w) X.A (pyNext (.ref it)) (λr s1=>∃u,r=some u/\
   wpAny (model P w) X.A (letOwnedTupleGo tg (.ref it) u) (λ_ s2=>∃x H',Inv X pins σ H' s2/\RelV x u/\J.E6 i H x H'/\tn (i+1) s2.heap/\∀b∈fp,H' b=none) E s1) E s
 done:∀(X:Cx),X.prog=P->X.w=w->X.K=K->X.calm=true->∀(i:Nat) (pins:List (Addr×Obj)) (s:Shared) (σ:St) (H:Hp) (E:Value->Shared->Prop),Inv X pins σ H s->(∀b∈fp,dz X pins H b)->tn i s.heap->J.stop i H->
  wpAny (model P w) X.A (pyNext (.ref it)) (λr s1=>r=none/\Inv X pins σ H s1) E s
 self:∀(A:Around) (i:Nat) (s:Shared) (Q:Value->Shared->Prop) (E:Value->Shared->Prop),tn i s.heap->Q (.ref it) s->wpAny (model P w) A (pyIter (.ref it)) Q E s
abbrev TI:=St->Hp->(It->Hp->Prop)->Prop
def PIE(X:Cx)(pins:List (Addr×Obj))(σ:St)(tg:Expr)(R:It->Hp->Prop)(itv:Value)(s2:Shared):Prop :=
 ∃(it:Addr) (fp:List Addr) (tn:Nat->Heap->Prop) (J:It) (H':Hp),itv=.ref it/\Inv X pins σ H' s2/\Turn X.prog X.w X.K tg J fp it tn/\tn 0 s2.heap/\(∀b∈fp,dz X pins H' b)/\R J H'
def PI(X:Cx)(tg iter:Expr)(wi:TI):Prop :=
 ∀(pins:List (Addr×Obj)) (s:Shared) (σ:St) (H:Hp) (R:It->Hp->Prop),Inv X pins σ H s->wi σ H R->
  wpAny (model X.prog X.w) X.A (eval iter X.env) (λv s1=>wpAny (model X.prog X.w) X.A (pyIter v) (PIE X pins σ tg R) X.xe s1) X.xe s
theorem DO{M:Model}{A:Around}{E:Value->Shared->Prop}{s:Shared}{tg:Expr}{it:Addr}{u:Value}{o:Obj}{n:String}{vs:Array Value}{Q:Unit->Shared->Prop}(ho:s.heap.get? it=some o)(hc:o.cls=.type n)(hd:o.data=.fields vs)
  (hn:["enumerate","zip","dict_itemiterator","dict_reverseitemiterator","odict_iterator","itertools.zip_longest","itertools.pairwise"].contains n=false) (hQ:Q () s):wpAny M A (letOwnedTupleGo tg (.ref it) u) Q E s:=by
 unfold letOwnedTupleGo
 cases tg <;> first
  | exact T1 hQ
  | (cases u <;> first
    | exact T1 hQ
    | (refine TZ (wpAny_load ho ?_)
       rw [hc,hd]
       show wpAny M A (if(["enumerate","zip","dict_itemiterator","dict_reverseitemiterator","odict_iterator","itertools.zip_longest","itertools.pairwise"].contains n&&vs[0]? == some (rawInt _))=true then _ else _) Q E s
       rw [if_neg (by intro h; rw [hn,Bool.false_and]at h; cases h)]
       exact T1 hQ))
def MX(K:UJ)(a:Addr):It :=
 ⟨λi H=>∃xs x,a_ K H a xs/\xs[i]? = some x,λi H x H'=>H'=H/\∀xs,a_ K H a xs->xs[i]? = some x,λi H=>∃xs,a_ K H a xs/\xs.length<=i⟩
def Gq(K:UJ)(a:Addr):It :=
 ⟨λi H=>∃xs x,aH K H a xs/\xs[i]? = some x,λi H x H'=>H'=H/\∀xs,aH K H a xs->xs[i]? = some x,λi H=>∃xs,aH K H a xs/\xs.length<=i⟩
def II(lo:Int)(n:Nat):It:=⟨λi _=>i<n,λi H x H'=>H'=H/\x=.int (lo+i),λi _=>n<=i⟩
theorem zo{P:Program}{w:World}{K:UJ}{tg:Expr}(a it:Addr):Turn P w K tg (MX K a) [it] it (λi h=>h.IsListIter it a i) where
 mem:=by simp
 obj:=λi h st b hb=>by
  have e:b=it:=by simpa using hb
  subst e
  obtain⟨o,e,c,d⟩:=st
  exact⟨o,e,λv z=>by rw [d]at z; cases z⟩
 keep:=λi h h' st k=>st.at λo e=>k it (by simp) o e
 item:=by
  intro X hP hw hK hc i pins s σ H E I hf st hg
  subst hP hw hK
  obtain⟨xs,x,hq,hx⟩:=hg
  obtain⟨its,rv,p,hz⟩:=I.list hq
  obtain⟨u,hu,ru⟩:=rv.get hx
  obtain⟨f0,f1,f2,f3,f4,f5⟩:=hf it (by simp)
  refine wpAny_pyNext_list_item st p.isList (x:=u) (by simpa using hu) λh' st' sb=>?_
  have I1:Inv X pins σ H {s with heap:=h'}:=I.turned (t':=s.toks) (λb o hb e=>(sb.2 b hb).trans e) f0 f1 f3 f4 f5
  obtain⟨o,e,c,d⟩:=id st'
  exact⟨u,rfl,DO (s:={s with heap:=h'}) e c d (by decide) ⟨x,H,I1,ru,⟨rfl,λys hy=>by rw [I.D8 hy hq]; exact hx⟩,st',λb hb=>(hf b hb).1⟩⟩
 done:=by
  intro X hP hw hK hc i pins s σ H E I hf st hg
  subst hP hw hK
  obtain⟨xs,hq,hx⟩:=hg
  obtain⟨its,rv,p,hz⟩:=I.list hq
  obtain⟨f0,f1,f2,f3,f4,f5⟩:=hf it (by simp)
  have hl:=rv.length
  exact wpAny_pyNext_list_end (I.ok.hd hc) st p.isList (by simp; omega) λh' eb=>⟨rfl,I.turned (t':=s.toks) (λb o hb e=>eb b o hb e) f0 f1 f3 f4 f5⟩
 self:=λ_ _ _ _ _ st h=>wpAny_pyIter_listiter st h
theorem x3{P:Program}{w:World}{K:UJ}{tg:Expr}(a it:Addr):Turn P w K tg (Gq K a) [it] it (λi h=>h.IsTupleIter it a i) where
 mem:=by simp
 obj:=λi h st b hb=>by
  have e:b=it:=by simpa using hb
  subst e
  obtain⟨o,e,c,d⟩:=st
  exact⟨o,e,λv z=>by rw [d]at z; cases z⟩
 keep:=λi h h' st k=>st.at λo e=>k it (by simp) o e
 item:=by
  intro X hP hw hK hc i pins s σ H E I hf st hg
  subst hP hw hK
  obtain⟨xs,x,hq,hx⟩:=hg
  obtain⟨its,rv,p,hz⟩:=I.tuple hq
  obtain⟨u,hu,ru⟩:=rv.get hx
  obtain⟨f0,f1,f2,f3,f4,f5⟩:=hf it (by simp)
  refine wpAny_pyNext_tuple_item st (show s.heap.IsTuple a its.toArray from p) (x:=u) (by simpa using hu) λh' st' sb=>?_
  have I1:Inv X pins σ H {s with heap:=h'}:=I.turned (t':=s.toks) (λb o hb e=>(sb.2 b hb).trans e) f0 f1 f3 f4 f5
  obtain⟨o,e,c,d⟩:=id st'
  exact⟨u,rfl,DO (s:={s with heap:=h'}) e c d (by decide) ⟨x,H,I1,ru,⟨rfl,λys hy=>by rw [I.ik hy hq]; exact hx⟩,st',λb hb=>(hf b hb).1⟩⟩
 done:=by
  intro X hP hw hK hc i pins s σ H E I hf st hg
  subst hP hw hK
  obtain⟨xs,hq,hx⟩:=hg
  obtain⟨its,rv,p,hz⟩:=I.tuple hq
  obtain⟨f0,f1,f2,f3,f4,f5⟩:=hf it (by simp)
  have hl:=rv.length
  exact wpAny_pyNext_tuple_end (I.ok.hd hc) st (show s.heap.IsTuple a its.toArray from p) (by simp; omega) λh' eb=>⟨rfl,I.turned (t':=s.toks) (λb o hb e=>eb b o hb e) f0 f1 f3 f4 f5⟩
 self:=λ_ _ _ _ _ st h=>wpAny_pyIter_tupleiter st h
theorem xR{P:Program}{w:World}{K:UJ}{tg:Expr}(it:Addr)(lo:Int)(n:Nat):Turn P w K tg (II lo n) [it] it (λi h=>IsRangeIter h it (lo+(i:Nat)*1) ((n:Int)-(i:Nat)) 1) where
 mem:=by simp
 obj:=λi h st b hb=>by
  have e:b=it:=by simpa using hb
  subst e
  exact⟨_,st,λv z=>by
   have z':Data.fields _=Data.cell v:=z
   cases z'⟩
 keep:=λi h h' st k=>k it (by simp) _ st
 item:=by
  intro X hP hw hK hc i pins s σ H E I hf st hg
  subst hP hw hK
  obtain⟨f0,f1,f2,f3,f4,f5⟩:=hf it (by simp)
  have W:=Walks.range (prog:=X.prog) (w:=X.w) (I.ok.hd hc) it lo 1 n
  refine W.item i s _ _ hg st λv h' tk hv st' kk=>?_
  obtain⟨t,rfl⟩:=hv
  have I1:Inv X pins σ H {s with heap:=h',toks:=tk}:=I.turned (λb o hb e=>kk b o (by simpa using hb) e) f0 f1 f3 f4 f5
  refine⟨_,rfl,DO (s:={s with heap:=h',toks:=tk}) (n:="range_iterator") st' rfl rfl (by decide) ⟨.int (lo+i),H,I1,⟨t,?_⟩,⟨rfl,rfl⟩,st',λb hb=>(hf b hb).1⟩⟩
  rw [Int.mul_one]
 done:=by
  intro X hP hw hK hc i pins s σ H E I hf st hg
  subst hP hw hK
  obtain⟨f0,f1,f2,f3,f4,f5⟩:=hf it (by simp)
  exact wpAny_pyNext_range_end (I.ok.hd hc) st (by have:n<=i:=hg; omega) λh' eb=>⟨rfl,I.turned (t':=s.toks) (λb o hb e=>eb b o hb e) f0 f1 f3 f4 f5⟩
 self:=λ_ _ _ _ _ st h=>wpAny_pyIter_rangeiter st h
section
variable{X:Cx}{tg:Expr}
def Lz(K:UJ)(tl:TE):TI:=λσ H R=>tl σ H λx H1=>∃a,x=.ref a/\(∃xs,a_ K H1 a xs)/\R (MX K a) H1
def Fm(K:UJ)(tl:TE):TI:=λσ H R=>tl σ H λx H1=>∃a,x=.ref a/\(∃xs,aH K H1 a xs)/\R (Gq K a) H1
theorem fh{l:Expr}{tl:TE}(hl:PE X l tl):PI X tg l (Lz X.K tl):=by
 intro pins s σ H R I h
 refine b_ (hl pins s σ H _ I h) λv s1 ⟨x,H1,I1,r1,q1⟩=>?_
 obtain⟨a,e,⟨xs,hq⟩,q⟩:=q1
 subst e
 cases r1
 obtain⟨its,rv,p,hz⟩:=I1.list hq
 refine wpAny_pyIter_list p.isList ?_
 refine⟨s1.heap.objs.size,[s1.heap.objs.size],_,_,H1,rfl,I1.kept (t':=s1.toks) λb o e=>T4 _ e,zo a _,⟨_,T6 _ rfl,rfl,rfl⟩,λb hb=>?_,q⟩
 have e:b=s1.heap.objs.size:=by simpa using hb
 subst e
 exact I1.lZ (T7 _) (I1.hok.fresh (T7 _))
theorem cI{l:Expr}{tl:TE}(hl:PE X l tl):PI X tg l (Fm X.K tl):=by
 intro pins s σ H R I h
 refine b_ (hl pins s σ H _ I h) λv s1 ⟨x,H1,I1,r1,q1⟩=>?_
 obtain⟨a,e,⟨xs,hq⟩,q⟩:=q1
 subst e
 cases r1
 obtain⟨its,rv,p,hz⟩:=I1.tuple hq
 refine wpAny_pyIter_tuple (show s1.heap.IsTuple a its.toArray from p) ?_
 refine⟨s1.heap.objs.size,[s1.heap.objs.size],_,_,H1,rfl,I1.kept (t':=s1.toks) λb o e=>T4 _ e,x3 a _,⟨_,T6 _ rfl,rfl,rfl⟩,λb hb=>?_,q⟩
 have e:b=s1.heap.objs.size:=by simpa using hb
 subst e
 exact I1.lZ (T7 _) (I1.hok.fresh (T7 _))
theorem Cj{pins:List (Addr×Obj)}{σ:St}{H:Hp}{s:Shared}{R:It->Hp->Prop}{E:Value->Shared->Prop}{lo hi:Int}{t u v:Tok}{tk:Nat}(I:Inv X pins σ H s)(h1:-(2 ^ 62)<=lo)(h2:lo<2 ^ 62)(h3:-(2 ^ 62)<=hi)(h4:hi<2 ^ 62)
  (q:R (II lo (hi-lo).toNat) H):wpAny (model X.prog X.w) X.A (pyIter (.ref s.heap.objs.size)) (PIE X pins σ tg R) E {s with heap:=s.heap.push {cls:=.type "range",data:=.fields #[.int lo t,.int hi u,.int 1 v]},toks:=tk}:=by
 refine wpAny_pyIter_range (IsRange.new ..) (small_one h1 h2 h3 h4) ?_
 have I1:Inv X pins σ H {s with heap:=s.heap.push {cls:=.type "range",data:=.fields #[.int lo t,.int hi u,.int 1 v]},toks:=tk}:=I.kept λb o e=>T4 _ e
 refine⟨(s.heap.push {cls:=.type "range",data:=.fields #[.int lo t,.int hi u,.int 1 v]}).objs.size,[(s.heap.push {cls:=.type "range",data:=.fields #[.int lo t,.int hi u,.int 1 v]}).objs.size],_,_,H,rfl,
  I1.kept (t':=tk) λb o e=>T4 _ e,xR _ lo (hi-lo).toNat,?_,λb hb=>?_,q⟩
 ·have e1:lo+((0:Nat):Int)*1=lo:=by simp
  have e2:(((hi-lo).toNat:Nat):Int)-((0:Nat):Int)=Builtin.Range.rangeSize lo hi 1:=by rw [rangeSize_one]; split <;> omega
  show IsRangeIter _ _ (lo+((0:Nat):Int)*1) ((((hi-lo).toNat:Nat):Int)-((0:Nat):Int)) 1
  rw [e1,e2]
  exact T6 _ rfl
 ·have e:b=(s.heap.push {cls:=.type "range",data:=.fields #[.int lo t,.int hi u,.int 1 v]}).objs.size:=by simpa using hb
  subst e
  exact I1.lZ (T7 _) (I1.hok.fresh (T7 _))
def K_(ta:TA):TI:=λσ H R=>ta σ H λvs H1=>∃j:Int,vs=[.int j]/\-(2 ^ 62)<=j/\j<2 ^ 62/\R (II 0 j.toNat) H1
theorem dk{a:Expr}{ta:TA}{p pos:Pos}(hg:Gl X "range")(hm:X.mg "range"=none)(ha:PA X [a] ta)(hs:starEach [a] X.env=[(false,eval a X.env)]:=by rfl):PI X tg (.Call (.Name "range" p) [a] [] pos) (K_ ta):=by
 intro pins s σ H R I h
 refine Call_ (iT I hg hm boot_range (PyProof.Rows.callWith_type1 (b_ (ha pos pins s σ H _ I h) λus s1 ⟨vs,H1,I1,r1,q1⟩=>?_) hs rfl))
 obtain⟨j,e,q1,q2,q⟩:=q1
 subst e
 cases r1 with
 | cons r rr =>
  cases rr
  obtain⟨t,rfl⟩:=r
  exact call_range_1 (Cj I1 (by omega) (by omega) q1 q2 (by simpa using q))
def Pl(wi:TI)(g:TG)(tb:TS):TS:=λD σ H=>wi σ H λJ H1=>∃W:Nat->Nat->St->Hp->Prop,(∃m,W 0 m σ H1)/\∀i m σ H,W i m σ H->
 (J.stop i H/\D.nx σ H)\/(J.go i H/\∃N:St->Hp->Prop,(∀σ' H',N σ' H'->∃m',m'<m/\W (i+1) m' σ' H')/\∀x H',J.E6 i H x H'->g x σ H' λde H2=>tb {D with nx:=N,ct:=N,bk:=D.nx} de H2)
def jy(fp:List Addr)(h:Heap):List (Addr×Obj):=fp.filterMap λb=>(h.get? b).map λo=>(b,o)
theorem cL{fp:List Addr}{h:Heap}{b:Addr}{o:Obj}(hb:b∈fp)(e:h.get? b=some o):(b,o)∈jy fp h:=List.mem_filterMap.mpr ⟨b,hb,by rw [e]; rfl⟩
theorem AA{fp:List Addr}{h:Heap}{p:Addr×Obj}(hp:p∈jy fp h):p.1∈fp/\h.get? p.1=some p.2:=by
 obtain⟨b,hb,e⟩:=List.mem_filterMap.mp hp
 cases q:h.get? b with
 | none=>rw [q]at e; cases e
 | some o =>
  rw [q]at e
  have e':(b,o)=p:=Uv e
  subst e'
  exact⟨hb,q⟩
theorem Inv.pinned{pins:List (Addr×Obj)}{σ:St}{H:Hp}{s:Shared}{fp:List Addr}(I:Inv X pins σ H s)(hf:∀b∈fp,dz X pins H b)(ho:∀b∈fp,∃o,s.heap.get? b=some o/\∀v,o.data≠ .cell v):Inv X (pins++jy fp s.heap) σ H s :=
 I.iQ λp hp=>(Us.mp hp).elim (λz=>I.pin p (Uh _ z)) λz=>by
  obtain⟨hb,e⟩:=AA z
  obtain⟨f0,f1,f2,_⟩:=hf p.1 hb
  obtain⟨o,e',d⟩:=ho p.1 hb
  rw [e]at e'; cases e'
  exact⟨e,f0,f1,f2,d⟩
theorem Inv.gc{pins pl:List (Addr×Obj)}{σ:St}{H:Hp}{s:Shared}(I:Inv X (pins++pl) σ H s):Inv X pins σ H s:=I.iQ λp hp=>I.pin p (Uh _ (List.mem_append_left _ hp))
theorem gF{iter:Expr}{body:List Stmt}{wi:TI}{g:TG}{tb:TS}{pos:Pos}(hp:PassesOwn (model X.prog X.w) X.A X.env X.xe)(hc:X.calm=true)(hi:PI X tg iter wi)(hg:PG X tg g)(hb:pL X body tb)
  (hs:∀x,foldedSetIterable iter X.env x=pure x:=by intro _; rfl):PS X (.For tg iter body [] pos) (Pl wi g tb):=by
 intro pins s σ H D I h
 refine wpAny_For (b_ (hi pins s σ H _ I h) λv s1 h1=>b_ h1 λitv s2 h2=>?_) hs
 obtain⟨it,fp,tn,J,H2,e,I2,T,st2,f2,W,⟨m0,w0⟩,turn⟩:=h2
 subst e
 have stat:∀{H':Hp},(∀b∈fp,H' b=none)->∀b∈fp,dz X pins H' b:=λhn b hb=>⟨hn b hb,(f2 b hb).2⟩
 refine codeAny_forLoop_any (λn s'=>∃i σ' H',Inv X pins σ' H' s'/\tn i s'.heap/\(∀b∈fp,H' b=none)/\W i n σ' H') ?_ m0 ⟨0,σ,H2,I2,st2,λb hb=>(f2 b hb).1,w0⟩
 rintro n s3 ⟨i,A8,H3,I3,st3,Pp,w3⟩
 rcases turn i n A8 H3 w3 with⟨stop,qn⟩ | ⟨go,N,hN,step⟩
 ·refine wpAny_passesOwn hp (b_ (T.done X rfl rfl rfl hc i pins s3 A8 H3 X.xe I3 (stat Pp) st3 stop) λr s4 ⟨hr,I4⟩=>?_)
  subst hr
  exact wpAny_execs_nil ⟨A8,H3,I4,qn⟩
 ·refine wpAny_passesOwn hp (b_ (T.item X rfl rfl rfl hc i pins s3 A8 H3 X.xe I3 (stat Pp) st3 go) λr s4 ⟨u,hr,h4⟩=>?_)
  subst hr
  refine wpAny_passesOwn hp (b_ h4 λ_ s5 ⟨x,H5,I5,r5,y5,uc,vX⟩=>?_)
  have Ry:=I5.pinned (stat vX) (T.obj _ _ uc)
  refine wpAny_passesOwn hp (b_ (hg _ s5 A8 H5 x u _ Ry r5 (step x H5 y5)) λ_ s6 ⟨Q1,H6,I6,q6⟩=>?_)
  refine wpAny_passesOwn hp (b_ (hb _ s6 Q1 H6 _ I6 q6) λf s7 q7=>?_)
  have again:∀{Bm:St} {H7:Hp},Inv X (pins++jy fp s5.heap) Bm H7 s7->N Bm H7->∃m,m<n/\∃i σ' H',Inv X pins σ' H' s7/\tn i s7.heap/\(∀b∈fp,H' b=none)/\W i m σ' H':=λ{Bm H7} I7 n7=>by
   obtain⟨m',hm,w7⟩:=hN Bm H7 n7
   refine⟨m',hm,i+1,Bm,H7,I7.gc,T.keep _ _ _ uc λb hb o e=>(I7.pin (b,o) (Uh _ (Uh _ (cL hb e)))).1,λb hb=>?_,w7⟩
   obtain⟨o,e,d⟩:=T.obj _ _ uc b hb
   exact(I7.pin (b,o) (Uh _ (Uh _ (cL hb e)))).2.1
  cases f with
  | next=>obtain⟨Bm,H7,I7,n7⟩:=q7; exact again I7 n7
  | cont=>obtain⟨Bm,H7,I7,n7⟩:=q7; exact again I7 n7
  | brk=>obtain⟨Bm,H7,I7,q7⟩:=q7; exact⟨Bm,H7,I7.gc,q7⟩
  | ret v=>obtain⟨x7,Bm,H7,I7,r7,q7⟩:=q7; exact⟨x7,Bm,H7,I7.gc,r7,q7⟩
end
theorem Gp{K:UJ}{a:Addr}{xs:List V}{g:TG}{tb:TS}{D:Ends}{σ:St}{H:Hp}(Pv:Nat->St->Hp->Prop)(h0:Pv 0 σ H)(hl:∀i σ H,i<=xs.length->Pv i σ H->aH K H a xs)
  (hs:∀i x σ H,xs[i]? = some x->Pv i σ H->g x σ H λde H2=>tb {D with nx:=Pv (i+1),ct:=Pv (i+1),bk:=D.nx} de H2) (hd:∀σ H,Pv xs.length σ H->D.nx σ H) :
  ∃W:Nat->Nat->St->Hp->Prop,(∃m,W 0 m σ H)/\∀i m σ H,W i m σ H->
   ((Gq K a).stop i H/\D.nx σ H)\/((Gq K a).go i H/\∃N:St->Hp->Prop,(∀σ' H',N σ' H'->∃m',m'<m/\W (i+1) m' σ' H')/\∀x H',(Gq K a).E6 i H x H'->g x σ H' λde H2=>tb {D with nx:=N,ct:=N,bk:=D.nx} de H2):=by
 refine⟨λi m σ H=>m=xs.length-i/\i<=xs.length/\Pv i σ H,⟨xs.length,by simp,Uu _,h0⟩,?_⟩
 rintro i m σ H ⟨rfl,hi,p⟩
 have q:=hl i σ H hi p
 by_cases hlt:i<xs.length
 ·refine .inr ⟨⟨xs,xs[i],q,by simp [hlt]⟩,Pv (i+1),λσ' H' p'=>⟨xs.length-(i+1),by omega,rfl,hlt,p'⟩,λx H' y=>?_⟩
  obtain⟨e,y⟩:=y
  subst e
  exact hs i x σ _ (y xs q) p
 ·have e:i=xs.length:=by omega
  subst e
  exact .inl ⟨⟨xs,q,T7 _⟩,hd σ H p⟩
theorem fH{lo:Int}{n:Nat}{g:TG}{tb:TS}{D:Ends}{σ:St}{H:Hp}(Pv:Nat->St->Hp->Prop)(h0:Pv 0 σ H)
  (hs:∀i σ H,i<n->Pv i σ H->g (.int (lo+i)) σ H λde H2=>tb {D with nx:=Pv (i+1),ct:=Pv (i+1),bk:=D.nx} de H2) (hd:∀σ H,Pv n σ H->D.nx σ H) :
  ∃W:Nat->Nat->St->Hp->Prop,(∃m,W 0 m σ H)/\∀i m σ H,W i m σ H->
   ((II lo n).stop i H/\D.nx σ H)\/((II lo n).go i H/\∃N:St->Hp->Prop,(∀σ' H',N σ' H'->∃m',m'<m/\W (i+1) m' σ' H')/\∀x H',(II lo n).E6 i H x H'->g x σ H' λde H2=>tb {D with nx:=N,ct:=N,bk:=D.nx} de H2):=by
 refine⟨λi m σ H=>m=n-i/\i<=n/\Pv i σ H,⟨n,by simp,Uu _,h0⟩,?_⟩
 rintro i m σ H ⟨rfl,hi,p⟩
 by_cases hlt:i<n
 ·refine .inr ⟨hlt,Pv (i+1),λσ' H' p'=>⟨n-(i+1),by omega,rfl,hlt,p'⟩,λx H' y=>?_⟩
  obtain⟨e,y⟩:=y
  subst e y
  exact hs i σ _ hlt p
 ·have e:i=n:=by omega
  subst e
  exact .inl ⟨T7 _,hd σ H p⟩
abbrev R2:=V->V->Hp->VK->Prop
def i3(X:Cx)(f:Value->Value->Sem Value)(r:R2):Prop :=
 ∀(pins:List (Addr×Obj)) (s:Shared) (σ:St) (H:Hp) (x y:V) (v u:Value) (Q:VK),Inv X pins σ H s->RelV x v->RelV y u->r x y H Q->
  wpAny (model X.prog X.w) X.A (f v u) (EP X pins σ Q) X.xe s
def Ox(X:Cx)(f:Value->Sem Value)(r:V->Hp->VK->Prop):Prop :=
 ∀(pins:List (Addr×Obj)) (s:Shared) (σ:St) (H:Hp) (x:V) (v:Value) (Q:VK),Inv X pins σ H s->RelV x v->r x H Q->
  wpAny (model X.prog X.w) X.A (f v) (EP X pins σ Q) X.xe s
def fk(X:Cx)(f:Value)(r:List V->Hp->VK->Prop):Prop :=
 ∀(pins:List (Addr×Obj)) (s:Shared) (σ:St) (H:Hp) (xs:List V) (us:List Value) (Q:VK),Inv X pins σ H s->Vals xs us->r xs H Q->
  wpAny (model X.prog X.w) X.A (call f us) (EP X pins σ Q) X.xe s
def Ph(X:Cx)(r:V->Hp->(Bool->Hp->Prop)->Prop):Prop :=
 ∀(pins:List (Addr×Obj)) (s:Shared) (σ:St) (H:Hp) (x:V) (v:Value) (Q:Bool->Hp->Prop),Inv X pins σ H s->RelV x v->r x H Q->
  wpAny (model X.prog X.w) X.A (truthy v) (TP X pins σ Q) X.xe s
def gB(r:R2)(ta tb:TE):TE:=λσ H Q=>ta σ H λx H1=>tb σ H1 λy H2=>r x y H2 Q
def RG(r:V->Hp->VK->Prop)(ta:TE):TE:=λσ H Q=>ta σ H λx H1=>r x H1 Q
def rI(C:Int->Int->Prop)(g:Int->Int->V):R2:=λx y H Q=>∃i j,x=.int i/\y=.int j/\C i j/\Q (g i j) H
def zi(g:Int->Int->V):R2:=λx y H Q=>∃i j,x=.int i/\y=.int j/\Q (g i j) H
def rU(g:Int->V):V->Hp->VK->Prop:=λx H Q=>∃i,x=.int i/\Q (g i) H
section
variable{X:Cx}{a b c:Expr}{ta tb tc:TE}{pos:Pos}
theorem H_(ha:PE X a ta)(hb:PE X b tb){pins:List (Addr×Obj)}{s:Shared}{σ:St}{H:Hp}{R:V->V->Hp->Prop}(I:Inv X pins σ H s)
  (h:ta σ H λx H1=>tb σ H1 λy H2=>R x y H2) {Q:Value->Shared->Prop} {f:Value->Value->Sem Value}
  (hf:∀v u s2 x y H2,Inv X pins σ H2 s2->RelV x v->RelV y u->R x y H2->wpAny (model X.prog X.w) X.A (f v u) Q X.xe s2) :
  wpAny (model X.prog X.w) X.A (eval a X.env) (λv s₁=>wpAny (model X.prog X.w) X.A (eval b X.env) (λu s₂=>wpAny (model X.prog X.w) X.A (f v u) Q X.xe s₂) X.xe s₁) X.xe s:=by
 refine b_ (ha pins s σ H _ I h) λv s1 ⟨x,H1,I1,r1,q1⟩=>?_
 refine b_ (hb pins s1 σ H1 _ I1 q1) λu s2 ⟨y,H2,I2,r2,q2⟩=>?_
 exact hf v u s2 x y H2 I2 r1 r2 q2
theorem aF{op:Operator}{r:R2}(ho:i3 X (binaryOp op) r)(ha:PE X a ta)(hb:PE X b tb):PE X (.BinOp a op b pos) (gB r ta tb):=by
 intro pins s σ H Q I h
 exact wpAny_BinOp (H_ ha hb I h λv u s2 x y H2 I2 rx ry q=>ho pins s2 σ H2 x y v u Q I2 rx ry q)
theorem rm{op:UnaryOp}{r:V->Hp->VK->Prop}(ho:Ox X (unaryOp op) r)(ha:PE X a ta):PE X (.UnaryOp op a pos) (RG r ta):=by
 intro pins s σ H Q I h
 exact UnaryOp_ (b_ (ha pins s σ H _ I h) λv s1 ⟨x,H1,I1,r1,q1⟩=>ho pins s1 σ H1 x v Q I1 r1 q1)
theorem M3{f:Value->Value->Sem Value}{C:Int->Int->Prop}{g:Int->Int->Int}
  (rule:∀(i j:Int) (t u:Tok) (s:Shared) (Q:Value->Shared->Prop) (E:Value->Shared->Prop),C i j->Q (.int (g i j) s.toks) {s with toks:=s.toks+1}->wpAny (model X.prog X.w) X.A (f (.int i t) (.int j u)) Q E s) :
  i3 X f (rI C λi j=>.int (g i j)):=by
 intro pins s σ H x y v u Q I rx ry h
 obtain⟨i,j,rfl,rfl,hc,q⟩:=h
 obtain⟨t,rfl⟩:=rx
 obtain⟨t',rfl⟩:=ry
 exact rule i j t t' s _ _ hc ⟨.int (g i j),H,I.tok _,⟨_,rfl⟩,q⟩
theorem MD{f:Value->Value->Sem Value}{g:Int->Int->Int}
  (rule:∀(i j:Int) (t u:Tok) (s:Shared) (Q:Value->Shared->Prop) (E:Value->Shared->Prop),Q (.int (g i j) s.toks) {s with toks:=s.toks+1}->wpAny (model X.prog X.w) X.A (f (.int i t) (.int j u)) Q E s) :
  i3 X f (zi λi j=>.int (g i j)):=by
 intro pins s σ H x y v u Q I rx ry h
 obtain⟨i,j,rfl,rfl,q⟩:=h
 obtain⟨t,rfl⟩:=rx
 obtain⟨t',rfl⟩:=ry
 exact rule i j t t' s _ _ ⟨.int (g i j),H,I.tok _,⟨_,rfl⟩,q⟩
theorem Jm{f:Value->Value->Sem Value}{g:Int->Int->Bool}
  (rule:∀(i j:Int) (t u:Tok) (s:Shared) (Q:Value->Shared->Prop) (E:Value->Shared->Prop),Q (.bool (g i j)) s->wpAny (model X.prog X.w) X.A (f (.int i t) (.int j u)) Q E s) :
  i3 X f (zi λi j=>.bl (g i j)):=by
 intro pins s σ H x y v u Q I rx ry h
 obtain⟨i,j,rfl,rfl,q⟩:=h
 obtain⟨t,rfl⟩:=rx
 obtain⟨t',rfl⟩:=ry
 exact rule i j t t' s _ _ ⟨.bl (g i j),H,I,rfl,q⟩
def N5(i j:Int):Prop:=0<j/\j<1073741824
def N3(i j:Int):Prop:=0<=j/\j<=1000000/\i.natAbs<2 ^ 64
def Fj(i j:Int):Prop:=(-(2 ^ 64)<i/\i<2 ^ 64)\/(-(2 ^ 64)<j/\j<2 ^ 64)
theorem Fj.ok{i j:Int}(h:Fj i j):IntMulOk i j:=by
 rcases h with⟨h1,h2⟩ | ⟨h1,h2⟩
 ·exact .of_left (intBits_le_64 h1 h2)
 ·exact .of_right (intBits_le_64 h1 h2)
theorem cV:i3 X (binaryOp .Add) (zi λi j=>.int (i+j)):=MD λ_ _ _ _ _ _ _ q=>add_int q
theorem bJ:i3 X (binaryOp .Sub) (zi λi j=>.int (i-j)):=MD λ_ _ _ _ _ _ _ q=>sub_int q
theorem l6:i3 X (binaryOp .Mult) (rI Fj λi j=>.int (i*j)):=M3 λ_ _ _ _ _ _ _ hc q=>mul_int q hc.ok
theorem yG:i3 X (binaryOp .FloorDiv) (rI N5 λi j=>.int (i / j)):=M3 λi j _ _ _ _ _ hc q=>by
 have h1:(0:Int)<j:=hc.1
 have h2:j<1073741824:=hc.2
 exact floordiv_int (by omega) (by rw [Int.fdiv_eq_ediv_of_nonneg i (by omega)]; exact q) (.inl (PyProof.noPylong_small (by omega)))
theorem nP:i3 X (binaryOp .Mod) (rI (λ_ j=>0<j) λi j=>.int (i % j)):=M3 λi j _ _ _ _ _ hc q=>by
 have h1:(0:Int)<j:=hc
 exact mod_int' (by omega) (by rw [Int.fmod_eq_emod_of_nonneg i (by omega)]; exact q)
theorem lH:i3 X (binaryOp .Pow) (rI N3 λi j=>.int (i ^ j.toNat)):=M3 λ_ _ _ _ _ _ _ hc q=>pow_int_small hc.1 hc.2.1 hc.2.2 q
theorem Tt{f:Value->Sem Value}{g:Int->Int}
  (rule:∀(i:Int) (t:Tok) (s:Shared) (Q:Value->Shared->Prop) (E:Value->Shared->Prop),Q (.int (g i) s.toks) {s with toks:=s.toks+1}->wpAny (model X.prog X.w) X.A (f (.int i t)) Q E s) :
  Ox X f (rU λi=>.int (g i)):=by
 intro pins s σ H x v Q I rx h
 obtain⟨i,rfl,q⟩:=h
 obtain⟨t,rfl⟩:=rx
 exact rule i t s _ _ ⟨.int (g i),H,I.tok _,⟨_,rfl⟩,q⟩
theorem lM:Ox X (unaryOp .USub) (rU λi=>.int (-i)):=Tt λ_ _ _ _ _ q=>neg_int q
end
def LQ:V->V->Bool
 | .non,.non=>true | .non,.int _=>true | .int _,.non=>true | .non,.bl _=>true | .bl _,.non=>true | .non,.str _=>true | .str _,.non=>true
 | .int _,.int _=>true | .bl _,.bl _=>true | .str _,.str _=>true | .yv _,.yv _=>true
 | .int _,.str _=>true | .str _,.int _=>true | .bl _,.str _=>true | .str _,.bl _=>true
 | _,_=>false
def Hv:R2:=λx y H Q=>LQ x y=true/\Q (.bl (decide (x=y))) H
def Sz:R2:=λx y H Q=>LQ x y=true/\Q (.bl (!decide (x=y))) H
theorem yx{i j:Int}:decide (V.int i=V.int j)=(i==j):=by
 rw [Bool.eq_iff_iff]
 simp
theorem Bu{i j:Bool}:decide (V.bl i=V.bl j)=(i==j):=by
 rw [Bool.eq_iff_iff]
 simp
theorem yM{i j:Str}:decide (V.str i=V.str j)=(i==j):=by
 rw [Bool.eq_iff_iff]
 simp
theorem yB{i j:Array UInt8}:decide (V.yv i=V.yv j)=(i.toList==j.toList):=by
 rw [Bool.eq_iff_iff]
 cases i
 cases j
 simp
section
variable{X:Cx}{a b c:Expr}{ta tb tc:TE}{pos:Pos}
theorem bV{pins:List (Addr×Obj)}{σ:St}{H:Hp}{s:Shared}{Q:VK}{k k':Bool}(I:Inv X pins σ H s)(q:Q (.bl k) H)(e:k=k'):EP X pins σ Q (.bool k') s:=by
 subst e
 exact⟨.bl k,H,I,rfl,q⟩
theorem aP:i3 X (compareOp .Eq) Hv:=by
 intro pins s σ H x y v u Q I rx ry h
 obtain⟨hs,q⟩:=h
 cases x with
 | non =>
  cases rx
  cases y with
  | non=>cases ry; exact PySem.EqNone.eq_none_none (bV I q (by simp))
  | bl j=>cases ry; exact PySem.EqNone.eq_none_bool (bV I q (by simp))
  | int j=>obtain⟨t',rfl⟩:=ry; exact PySem.EqNone.eq_none_int (bV I q (by simp))
  | str j=>obtain⟨t',rfl⟩:=ry; exact PySem.EqNone.eq_none_str (bV I q (by simp))
  | _=>exact absurd (show false=true from hs) Uk
 | bl i =>
  cases rx
  cases y with
  | non=>cases ry; exact PySem.EqNone.eq_bool_none (bV I q (by simp))
  | bl j=>cases ry; exact eq_bool (bV I q Bu)
  | str j=>obtain⟨t',rfl⟩:=ry; exact PySem.EqMixed.eq_bool_str (bV I q (by simp))
  | _=>exact absurd (show false=true from hs) Uk
 | int i =>
  obtain⟨t,rfl⟩:=rx
  cases y with
  | non=>cases ry; exact PySem.EqNone.eq_int_none (bV I q (by simp))
  | int j=>obtain⟨t',rfl⟩:=ry; exact eq_int (bV I q yx)
  | str j=>obtain⟨t',rfl⟩:=ry; exact PySem.EqMixed.eq_int_str (bV I q (by simp))
  | _=>exact absurd (show false=true from hs) Uk
 | str i =>
  obtain⟨t,rfl⟩:=rx
  cases y with
  | non=>cases ry; exact PySem.EqNone.eq_str_none (bV I q (by simp))
  | bl j=>cases ry; exact PySem.EqMixed.eq_str_bool (bV I q (by simp))
  | int j=>obtain⟨t',rfl⟩:=ry; exact PySem.EqMixed.eq_str_int (bV I q (by simp))
  | str j=>obtain⟨t',rfl⟩:=ry; exact eq_str (bV I q yM)
  | _=>exact absurd (show false=true from hs) Uk
 | yv i =>
  obtain⟨t,rfl⟩:=rx
  cases y with
  | yv j=>obtain⟨t',rfl⟩:=ry; exact PySem.W.eq_bytes (bV I q yB)
  | _=>exact absurd (show false=true from hs) Uk
 | _=>cases y <;> exact absurd (show false=true from hs) Uk
theorem mz:i3 X (compareOp .NotEq) Sz:=by
 intro pins s σ H x y v u Q I rx ry h
 obtain⟨hs,q⟩:=h
 cases x with
 | non =>
  cases rx
  cases y with
  | non=>cases ry; exact PySem.EqNone.ne_none_none (bV I q (by simp))
  | bl j=>cases ry; exact PySem.EqNone.ne_none_bool (bV I q (by simp))
  | int j=>obtain⟨t',rfl⟩:=ry; exact PySem.EqNone.ne_none_int (bV I q (by simp))
  | str j=>obtain⟨t',rfl⟩:=ry; exact PySem.EqNone.ne_none_str (bV I q (by simp))
  | _=>exact absurd (show false=true from hs) Uk
 | bl i =>
  cases rx
  cases y with
  | non=>cases ry; exact PySem.EqNone.ne_bool_none (bV I q (by simp))
  | bl j=>cases ry; exact ne_bool (bV I q (congrArg not Bu))
  | str j=>obtain⟨t',rfl⟩:=ry; exact PySem.EqMixed.ne_bool_str (bV I q (by simp))
  | _=>exact absurd (show false=true from hs) Uk
 | int i =>
  obtain⟨t,rfl⟩:=rx
  cases y with
  | non=>cases ry; exact PySem.EqNone.ne_int_none (bV I q (by simp))
  | int j=>obtain⟨t',rfl⟩:=ry; exact ne_int (bV I q (congrArg not yx))
  | str j=>obtain⟨t',rfl⟩:=ry; exact PySem.EqMixed.ne_int_str (bV I q (by simp))
  | _=>exact absurd (show false=true from hs) Uk
 | str i =>
  obtain⟨t,rfl⟩:=rx
  cases y with
  | non=>cases ry; exact PySem.EqNone.ne_str_none (bV I q (by simp))
  | bl j=>cases ry; exact PySem.EqMixed.ne_str_bool (bV I q (by simp))
  | int j=>obtain⟨t',rfl⟩:=ry; exact PySem.EqMixed.ne_str_int (bV I q (by simp))
  | str j=>obtain⟨t',rfl⟩:=ry; exact ne_str (bV I q (congrArg not yM))
  | _=>exact absurd (show false=true from hs) Uk
 | yv i =>
  obtain⟨t,rfl⟩:=rx
  cases y with
  | yv j=>obtain⟨t',rfl⟩:=ry; exact PySem.W.ne_bytes (bV I q (congrArg not yB))
  | _=>exact absurd (show false=true from hs) Uk
 | _=>cases y <;> exact absurd (show false=true from hs) Uk
theorem Br:i3 X (compareOp .Lt) (zi λi j=>.bl (decide (i<j))):=Jm λ_ _ _ _ _ _ _ q=>lt_int q
theorem C_:i3 X (compareOp .LtE) (zi λi j=>.bl (decide (i<=j))):=Jm λ_ _ _ _ _ _ _ q=>le_int q
theorem il:i3 X (compareOp .Gt) (zi λi j=>.bl (decide (j<i))):=Jm λ_ _ _ _ _ _ _ q=>gt_int q
theorem tj:i3 X (compareOp .IsNot) (λx y H Q=>y=.non/\Q (.bl (!decide (x=.non))) H):=by
 intro pins s σ H x y v u Q I rx ry h
 obtain⟨rfl,q⟩:=h
 cases ry
 refine isnot_none_gen (bV I q ?_)
 cases x <;> first
  | (cases rx; rfl)
  | (obtain⟨t,rfl⟩:=rx; rfl)
theorem Bv(b:Expr){op:CmpOp}(h:op≠ .In:=by decide)(h2:op≠ .NotIn:=by decide):behindInMarks op b=false:=by
 have e1:(op==CmpOp.In)=false:=by cases op <;> first | rfl | exact absurd rfl h
 have e2:(op==CmpOp.NotIn)=false:=by cases op <;> first | rfl | exact absurd rfl h2
 cases b <;> simp [behindInMarks,e1,e2]
theorem fF{op:CmpOp}{r:R2}(ho:i3 X (compareOp op) r)(ha:PE X a ta)(hb:PE X b tb)(hm:behindInMarks op b=false):PE X (.Compare a [op] [b] pos) (gB r ta tb):=by
 intro pins s σ H Q I h
 exact wpAny_Compare1 (H_ ha hb I h λv u s2 x y H2 I2 rx ry q=>ho pins s2 σ H2 x y v u Q I2 rx ry q) hm
def qK(t:TE):TT:=λσ H Q=>t σ H λx H'=>∃k,x=.bl k/\Q k H'
theorem dc{op:CmpOp}{r:R2}(ho:i3 X (compareOp op) r)(ha:PE X a ta)(hb:PE X b tb)(hm:behindInMarks op b=false):PT X (.Compare a [op] [b] pos) (qK (gB r ta tb)):=by
 intro pins s σ H Q I h
 refine wpAny_isTrue_Compare1 (b_ (ha pins s σ H _ I h) λv s1 ⟨x,H1,I1,r1,q1⟩=>b_ (hb pins s1 σ H1 _ I1 q1) λu s2 ⟨y,H2,I2,r2,q2⟩ =>
  b_ (ho pins s2 σ H2 x y v u _ I2 r1 r2 q2) λc s3 ⟨z,H3,I3,r3,k,e,q3⟩=>?_) hm
 subst e
 cases r3
 exact wpAny_truthy_bool ⟨H3,I3,q3⟩
def Jc(r r':R2)(ta tb tc:TE):TE:=λσ H Q=>ta σ H λx H1=>tb σ H1 λy H2=>r x y H2 λz H3=>∃k,z=.bl k/\
 (if k=true then tc σ H3 λw' H4=>r' y w' H4 Q else Q (.bl false) H3)
theorem C1{op op':CmpOp}{r r':R2}(ho:i3 X (compareOp op) r)(ho':i3 X (compareOp op') r')(ha:PE X a ta)(hb:PE X b tb)(hc:PE X c tc)
  (hm:lastMarks [op,op'] [b,c]=false:=by with_unfolding_all rfl):PE X (.Compare a [op,op'] [b,c] pos) (Jc r r' ta tb tc):=by
 intro pins s σ H Q I h
 refine Compare_chain (b_ (ha pins s σ H _ I h) λv s1 ⟨x,H1,I1,r1,q1⟩=>chain_link (b_ (hb pins s1 σ H1 _ I1 q1) λu s2 ⟨y,H2,I2,r2,q2⟩ =>
  b_ (ho pins s2 σ H2 x y v u _ I2 r1 r2 q2) λd s3 ⟨z,H3,I3,r3,k,e,q3⟩=>?_)) hm
 subst e
 cases r3
 refine wpAny_truthy_bool ?_
 cases k with
 | false=>exact ite_ff ⟨.bl false,H3,I3,rfl,q3⟩
 | true=>exact ite_tt (chain_last (b_ (hc pins s3 σ H3 _ I3 q3) λw' s4 ⟨z',H4,I4,r4,q4⟩=>ho' pins s4 σ H4 y z' u w' Q I4 r2 r4 q4))
def Kw(K:UJ)(x:V)(H:Hp)(k:Bool):Prop :=
 match x with
 | .non=>k=false
 | .bl b=>k=b
 | .int i=>k=(i != 0)
 | .str y=>y.length<=sizeLine/\k=((y.length:Int) != 0)
 | .yv y=>y.size<=sizeLine/\k=((y.size:Int) != 0)
 | .ref p=>(∃xs,a_ K H p xs/\k = !xs.isEmpty)\/(∃xs,aH K H p xs/\k = !xs.isEmpty)\/∃kvs,H p=some (.dK kvs)/\k = !kvs.isEmpty
 | _=>False
theorem xW{κ:Type}{kvs:List (κ×V)}{vs:List (κ×Value)}(r:KV kvs vs):(!vs.isEmpty) = !kvs.isEmpty:=by
 cases r <;> rfl
theorem pD{xs:List V}{its:List Value}(r:Vals xs its):(!its.toArray.isEmpty) = !xs.isEmpty:=by
 cases r <;> simp
theorem lE:(sizeLine:Nat)<2 ^ 63:=by rw [sizeLine_eq]; decide
theorem Je:Ph X (λx H Q=>∃k,Kw X.K x H k/\Q k H):=by
 intro pins s σ H x v Q I rx h
 obtain⟨k,e,q⟩:=h
 have hl:=lE
 have hs:sizeLine=16777216:=sizeLine_eq
 cases x with
 | non =>
  cases rx
  have e':k=false:=e
  subst e'
  exact truthy_none ⟨H,I,q⟩
 | bl b =>
  cases rx
  have e':k=b:=e
  subst e'
  exact wpAny_truthy_bool ⟨H,I,q⟩
 | int i =>
  obtain⟨t,rfl⟩:=rx
  have e':k=(i != 0):=e
  subst e'
  exact PySem.P.truthy_int ⟨H,I,q⟩
 | str y =>
  obtain⟨t,rfl⟩:=rx
  obtain⟨hy,e'⟩ : y.length<=sizeLine/\k=((y.length:Int) != 0):=e
  subst e'
  exact PySem.P.truthy_str (by omega) ⟨H,I.tok _,q⟩
 | yv y =>
  obtain⟨t,rfl⟩:=rx
  obtain⟨hy,e'⟩ : y.size<=sizeLine/\k=((y.size:Int) != 0):=e
  subst e'
  exact PySem.W.truthy_bytes (by omega) ⟨H,I.tok _,q⟩
 | ref p =>
  cases rx
  have e':(∃xs,a_ X.K H p xs/\k = !xs.isEmpty)\/(∃xs,aH X.K H p xs/\k = !xs.isEmpty)\/∃kvs,H p=some (.dK kvs)/\k = !kvs.isEmpty:=e
  rcases e' with⟨xs,hx,e'⟩ | ⟨xs,hx,e'⟩ | ⟨kvs,hx,e'⟩
  ·subst e'
   obtain⟨its,r,pl,hz⟩:=I.list hx
   have hlen:=r.length
   exact wpAny_truthy_list pl.isList (by simp only [Ul]; omega) ⟨H,I.tok _,by rw [pD r]; exact q⟩
  ·subst e'
   obtain⟨its,r,pl,hz⟩:=I.tuple hx
   have hlen:=r.length
   exact truthy_tuple pl (by simp only [Ul]; omega) ⟨H,I.tok _,by rw [pD r]; exact q⟩
  ·subst e'
   obtain⟨hz,hS,vs,r,m⟩ : kvs.length<=sizeLine/\(p==sysModules)=false/\∃vs,KV kvs vs/\s.heap.DictOf (bH X.prog X.w) p vs:=I.hok p _ hx
   have hlen:kvs.length=vs.length:=Paired.length r
   exact wpAny_truthy_dict hS m (by omega) ⟨H,I.tok _,by rw [xW r]; exact q⟩
 | _=>exact(show False from e).elim
theorem vals1{x:V}{us:List Value}(r:Vals [x] us):∃u,us=[u]/\RelV x u:=by
 cases r with
 | cons r1 r2=>cases r2; exact⟨_,rfl,r1⟩
theorem vals2{x y:V}{us:List Value}(r:Vals [x,y] us):∃u w',us=[u,w']/\RelV x u/\RelV y w':=by
 cases r with
 | cons r1 r2 =>
  cases r2 with
  | cons r3 r4=>cases r4; exact⟨_,_,rfl,r1,r3⟩
theorem C2:fk X (.builtin "abs") (λxs H Q=>∃i,xs=[.int i]/\Q (.int (if i<0 then -i else i)) H):=by
 intro pins s σ H xs us Q I r h
 obtain⟨i,rfl,q⟩:=h
 obtain⟨u,rfl,t,rfl⟩:=vals1 r
 exact call_abs_int λu tk=>⟨.int (if i<0 then -i else i),H,I.tok _,⟨_,rfl⟩,q⟩
theorem AQ(hc:X.calm=true):fk X (.builtin "max") (λxs H Q=>∃i j,xs=[.int i,.int j]/\Q (.int (if j > i then j else i)) H):=by
 intro pins s σ H xs us Q I r h
 obtain⟨i,j,rfl,q⟩:=h
 obtain⟨u,w',rfl,⟨t,rfl⟩,⟨t',rfl⟩⟩:=vals2 r
 refine max_two_ints (I.ok.hd hc) λh' tk k=>⟨_,H,I.kept k,?_,q⟩
 by_cases hj:j > i
 ·rw [if_pos hj,if_pos hj]; exact⟨_,rfl⟩
 ·rw [if_neg hj,if_neg hj]; exact⟨_,rfl⟩
theorem qO(hc:X.calm=true):fk X (.builtin "min") (λxs H Q=>∃i j,xs=[.int i,.int j]/\Q (.int (if j<i then j else i)) H):=by
 intro pins s σ H xs us Q I r h
 obtain⟨i,j,rfl,q⟩:=h
 obtain⟨u,w',rfl,⟨t,rfl⟩,⟨t',rfl⟩⟩:=vals2 r
 refine min_two_ints (I.ok.hd hc) λh' tk k=>⟨_,H,I.kept k,?_,q⟩
 by_cases hj:j<i
 ·rw [if_pos hj,if_pos hj]; exact⟨_,rfl⟩
 ·rw [if_neg hj,if_neg hj]; exact⟨_,rfl⟩
theorem cz:fk X (.type "int") (λxs H Q=>(∃i,xs=[.int i]/\Q (.int i) H)\/∃k,xs=[.bl k]/\Q (.int (if k then 1 else 0)) H):=by
 intro pins s σ H xs us Q I r h
 rcases h with⟨i,rfl,q⟩ | ⟨k,rfl,q⟩
 ·obtain⟨u,rfl,t,rfl⟩:=vals1 r
  exact call_int_int ⟨.int i,H,I,⟨_,rfl⟩,q⟩
 ·obtain⟨u,rfl,r1⟩:=vals1 r
  cases r1
  exact call_int_bool ⟨.int (if k then 1 else 0),H,I.tok _,⟨_,rfl⟩,q⟩
end
structure Jl(h:Heap)(x dx C:Addr)(mA:Str->Option Value):Prop where
 obj:h.get? x=some (PySem.W.instObj C dx)
 ns:h.Ns1 dx mA
 ne:dx≠x
theorem l0{h:Heap}{dx:Addr}{mA:Str->Option Value}(n:h.Ns1 dx mA):∃od,h.get? dx=some od/\∀name,PySem.W.lookIn name od=some (mA name):=by
 obtain⟨o,es,ep,ho,hd,hk,_,hm⟩:=n
 refine⟨o,ho,λname=>?_⟩
 have e:=hm name
 unfold nsFind findBy at e
 rw [←Array.find?_toList]at e
 unfold PySem.W.lookIn
 rw [hd]
 dsimp only
 split
 ·rename_i y q
  rw [q]at e
  exact congrArg some e
 ·rename_i q
  rw [q]at e
  have a:es.toList.any (·.refKey)=false:=by
   rw [List.any_eq_false]
   intro y hy
   obtain⟨z,t,hkey⟩:=hk y (Array.mem_toList_iff.mp hy)
   simp [DictEntry.refKey,hkey]
  have a':¬es.toList.any (·.refKey)=true:=by rw [a]; exact Uk
  rw [if_neg a']
  exact congrArg some e
theorem Jl.look{h:Heap}{x dx C:Addr}{mA:Str->Option Value}(I:Jl h x dx C mA):∃od,PySem.W.InstAt h x (PySem.W.instObj C dx) C (some od)/\∀name,PySem.W.lookIn name od=some (mA name) :=
 let ⟨od,ho,hl⟩:=l0 I.ns
 ⟨od,⟨I.obj,rfl,rfl,ho⟩,hl⟩
def mD(f:Str)(v:V):List (Str×V)->List (Str×V)
 | []=>[(f,v)]
 | (g,x)::r=>if g=f then(g,v)::r else(g,x)::mD f v r
theorem ej(f g:Str)(v:V):∀fs:List (Str×V),(mD f v fs).lookup g=if g=f then some v else fs.lookup g
 | []=>by
  show List.lookup g [(f,v)]=_
  by_cases h:g=f
  ·have hb:(g==f)=true:=beq_iff_eq.mpr h
   simp only [List.lookup,hb,if_pos h]
  ·have hb:(g==f)=false:=beq_eq_false_iff_ne.mpr h
   simp only [List.lookup,hb,if_neg h]
 | (k,x)::r=>by
  have ih:=ej f g v r
  rw [show mD f v ((k,x)::r)=(if k=f then(k,v)::r else(k,x)::mD f v r) from rfl]
  by_cases hk:k=f
  ·rw [if_pos hk]
   by_cases h:g=k
   ·have hb:(g==k)=true:=beq_iff_eq.mpr h
    simp only [List.lookup,hb,if_pos (h.trans hk)]
   ·have hb:(g==k)=false:=beq_eq_false_iff_ne.mpr h
    simp only [List.lookup,hb,if_neg (λe:g=f=>h (e.trans hk.symm))]
  ·rw [if_neg hk]
   by_cases h:g=k
   ·have hb:(g==k)=true:=beq_iff_eq.mpr h
    simp only [List.lookup,hb,if_neg (λe:g=f=>hk (h.symm.trans e))]
   ·have hb:(g==k)=false:=beq_eq_false_iff_ne.mpr h
    simp only [List.lookup,hb]
    exact ih
theorem jj.some_of{v:V}{o:Option Value}(r:jj (some v) o):∃u,o=some u/\RelV v u:=by
 cases o with
 | none=>exact(show False from r).elim
 | some u=>exact⟨u,rfl,r⟩
theorem jj.none_of{o:Option Value}(r:jj none o):o=none:=by
 cases o with
 | none=>rfl
 | some u=>exact(show False from r).elim
theorem Ar{v:V}{u:Value}(r:RelV v u):PySem.W.handedIn u=true:=by
 cases v with
 | non=>cases(show u=Value.none from r); rfl
 | bl b=>cases(show u=Value.bool b from r); rfl
 | int i=>obtain⟨t,e⟩:=(show∃t,u=Value.int i t from r); cases e; rfl
 | str x=>obtain⟨t,e⟩:=(show∃t,u=Value.str x t from r); cases e; rfl
 | yv b=>obtain⟨t,e⟩:=(show∃t,u=Value.bytes b t from r); cases e; rfl
 | flt b=>obtain⟨t,e⟩:=(show∃t,u=Value.float b t from r); cases e; rfl
 | ref a=>cases(show u=Value.ref a from r); rfl
 | ty n=>cases(show u=Value.type n from r); rfl
section
variable{P:Program}{w:World}{H H':Hp}{h h':Heap}{a C dx:Addr}{fs fs':List (Str×V)}
theorem Ej(hok:i7 P w H h)(e:H a=some (.ins C dx fs)):∃mA,Jl h a dx C mA/\(∀f,jj (fs.lookup f) (mA f))/\PySem.Within mA (fs.map (·.1))/\fs.length<=1000/\H dx=some (.own a):=by
 obtain⟨d,z,ne,ob,mA,n,r,q⟩:=(show cq P w H h a (.ins C dx fs) from hok a _ e)
 exact⟨mA,⟨ob,n,ne⟩,r,q,z,d⟩
end
structure NY(K:UJ)(C:Addr):Prop where
 pg:PySem.W.plainGet K C Str.empty=true
 hd:PySem.W.hasDictIn K C=true
 po:PySem.W.plainOver K C=true
 sa:PySem.W.findIn K (.ref C) "__setattr__"=some (some (.builtin "object.__setattr__"))
theorem NY.get{K:UJ}{C:Addr}(c:NY K C)(f:Str):PySem.W.plainGet K C f=true:=c.pg
def ix(K:UJ)(C:Addr)(f:Str):Prop:=PySem.W.findIn K (.ref C) f=some none
section
variable{X:Cx}{pins:List (Addr×Obj)}{σ:St}{H:Hp}{s:Shared}{a C dx:Addr}{fs:List (Str×V)}{f:Str}{v:V}{A:Around}{E:Value->Shared->Prop}
theorem Gf{prog:Program}{w:World}{env:Env}{e:Expr}{f:Str}{pos:Pos}{s:Shared}{Q:Value->Shared->Prop}(hb:attributeBase e f env (eval e env)=eval e env)
  (h:wpAny (model prog w) A (eval e env) (λo s₁=>wpAny (model prog w) A (getAttr o f true) Q E s₁) E s):wpAny (model prog w) A (eval (.Attribute e f pos) env) Q E s :=
 Attribute_any_ h (by rw [arm_eval_Attribute,hb])
end
section
variable{X:Cx}{pins:List (Addr×Obj)}{σ:St}{H:Hp}{s:Shared}{A:Around}{E:Value->Shared->Prop}{Q:Value->Shared->Prop}{c:Value}{b:Bool}
inductive kc (K:UJ) (H:Hp):V->Value->Prop where
 | non:kc K H .non (.type "NoneType")
 | bl (x:Bool):kc K H (.bl x) (.type "bool")
 | int (i:Int):kc K H (.int i) (.type "int")
 | str (x:Str):kc K H (.str x) (.type "str")
 | flt (x:UInt64):kc K H (.flt x) (.type "float")
 | lst {a:Addr} {xs:List V} (e:H a=some (.lst xs)):kc K H (.ref a) (.type "list")
 | xo {a:Addr} {o:Obj} {xs:List V} (e:H a=some (.xo o (.lst xs))):kc K H (.ref a) (.type "list")
 | tup {a:Addr} {xs:List V} (e:H a=some (.tup xs)):kc K H (.ref a) (.type "tuple")
 | dK {a:Addr} {kvs:List (Key×V)} (e:H a=some (.dK kvs)):kc K H (.ref a) (.type "dict")
 | dT {a:Addr} {kvs:List (List dq×V)} (e:H a=some (.dT kvs)):kc K H (.ref a) (.type "dict")
 | ins {a C dx:Addr} {fs:List (Str×V)} (e:H a=some (.ins C dx fs)) (cl:NY K C) (ha:PySem.W.findIn K (.ref C) "__class__"=some (some (.builtin "object.__class__")))
   (hn:PySem.W.specialIn K (.builtin "object.__class__") "__get__"=some (some (.builtin "getset_descriptor.__get__"))) (htk:PySem.W.takesIn K (.builtin "object.__class__")=some true)
   (hm:PySem.W.mroIn K C (.type "object")=some true):kc K H (.ref a) (.ref C)
theorem rz{x:V}{u t:Value}(I:Inv X pins σ H s)(rx:RelV x u)(ty:kc X.K H x t)(e:PySem.W.kitOne X.K t c=some b)(h:∀tk,Q (.bool b) {s with toks:=tk}) :
  wpAny (model X.prog X.w) A (call (.builtin "isinstance") [u,c]) Q E s:=by
 cases ty with
 | non=>cases(show u=Value.none from rx); exact PySem.W.kia_one PySem.W.kitx_none I.jI True.intro e (λz=>nomatch z) h
 | bl y=>cases(show u=Value.bool y from rx); exact PySem.W.kia_one PySem.W.kitx_bool I.jI True.intro e (λz=>nomatch z) h
 | int i=>obtain⟨t,q⟩:=(show∃t,u=Value.int i t from rx); cases q; exact PySem.W.kia_one PySem.W.kitx_int I.jI True.intro e (λz=>nomatch z) h
 | str y=>obtain⟨t,q⟩:=(show∃t,u=Value.str y t from rx); cases q; exact PySem.W.kia_one PySem.W.kitx_str I.jI True.intro e (λz=>nomatch z) h
 | flt y=>obtain⟨t,q⟩:=(show∃t,u=Value.float y t from rx); cases q; exact PySem.W.kia_one PySem.W.kitx_float I.jI True.intro e (λz=>nomatch z) h
 | @lst a xs ea =>
  cases(show u=Value.ref a from rx)
  obtain⟨_,_,n,_,h1⟩:=(show cq X.prog X.w H s.heap a (.lst xs) from I.hok a _ ea)
  exact PySem.W.kia_one PySem.W.kitx_list I.jI ⟨_,h1,rfl⟩ e (λz=>nomatch z) h
 | @xo a ob xs ea =>
  cases(show u=Value.ref a from rx)
  obtain⟨_,_,_,n,_,h1⟩:=(show cq X.prog X.w H s.heap a (.xo ob (.lst xs)) from I.hok a _ ea)
  exact PySem.W.kia_one PySem.W.kitx_list I.jI ⟨_,h1,rfl⟩ e (λz=>nomatch z) h
 | @tup a xs ea =>
  cases(show u=Value.ref a from rx)
  obtain⟨_,_,_,p⟩:=(show cq X.prog X.w H s.heap a (.tup xs) from I.hok a _ ea)
  obtain⟨o,h1,h2,_⟩:=p
  exact PySem.W.kia_one PySem.W.kitx_tuple I.jI ⟨o,h1,h2⟩ e (λz=>nomatch z) h
 | @dK a kvs ea =>
  cases(show u=Value.ref a from rx)
  obtain⟨_,_,vs,_,p⟩:=(show cq X.prog X.w H s.heap a (.dK kvs) from I.hok a _ ea)
  obtain⟨o,es,ep,h1,h2,_⟩:=p
  exact PySem.W.kia_one PySem.W.kitx_dict I.jI ⟨o,h1,h2.1⟩ e (λz=>nomatch z) h
 | @dT a kvs ea =>
  cases(show u=Value.ref a from rx)
  obtain⟨_,_,xs,_,o,es,ep,h1,h2,_⟩:=(show cq X.prog X.w H s.heap a (.dT kvs) from I.hok a _ ea)
  exact PySem.W.kia_one PySem.W.kitx_dict I.jI ⟨o,h1,h2.1⟩ e (λz=>nomatch z) h
 | @ins a C dx fs ea cl ha hn htk hm =>
  cases(show u=Value.ref a from rx)
  obtain⟨mA,O,_⟩:=Ej I.hok ea
  obtain⟨od,J,_⟩:=O.look
  exact PySem.W.kia_one (PySem.W.kitx_own (cl.get _) cl.hd ha hn htk hm) I.jI J e (λz=>nomatch z) h
end
structure eJ(k:Nat)(A:Around):Prop where
 hd:A.handled=none
 dp:A.depth+3*k+5<recursionLimit
 un:A.units+16*k+200<cLine
theorem eJ.mono{j k:Nat}{A:Around}(r:eJ k A)(h:j<=k):eJ j A:=⟨r.hd,by have:=r.dp; omega,by have:=r.un; omega⟩
theorem eJ.deeper{k:Nat}{A:Around}(r:eJ (k+1) A)(env:Env):eJ k (A.deeper env) :=
 ⟨r.hd,by have:=r.dp; show A.depth+1+3*k+5<_; omega,by have:=r.un; show A.units+3+16*k+200<_; omega⟩
theorem wA{A:Around}{C:Addr}{us:List Value}{kw:List (Str×Value)}:(A.under (.builtin "type.__call__" ⟨.ref C::us,kw⟩)).depth=A.depth+1:=by
 first | rfl | simp [Around.under,Code.weight,Code.isCreation,Code.isGuard,Code.isCaller,Code.frames,Code.isFrame,guardIds]
theorem wb{A:Around}{C:Addr}{us:List Value}{kw:List (Str×Value)}:(A.under (.builtin "type.__call__" ⟨.ref C::us,kw⟩)).units=A.units+1:=by
 first | rfl | simp [Around.under,Code.cUnits,Code.frames,Code.isFrame]
theorem eJ.make{k:Nat}{A:Around}(r:eJ (k+1) A)(C:Addr)(us:List Value)(kw:List (Str×Value)):eJ k (A.under (.builtin "type.__call__" ⟨.ref C::us,kw⟩)) :=
 ⟨r.hd,by have:=r.dp; rw [wA]; omega,by have:=r.un; rw [wb]; omega⟩
theorem eJ.depth{k:Nat}{A:Around}(r:eJ k A):A.depth<recursionLimit:=by have:=r.dp; omega
theorem eJ.units{k:Nat}{A:Around}(r:eJ k A):A.units+64<cLine:=by have:=r.un; omega
def fz:TA:=λ_ H Q=>Q [] H
def bp(ta:TE)(tr:TA):TA:=λσ H Q=>ta σ H λx H1=>tr σ H1 λxs H2=>Q (x::xs) H2
section
variable{X:Cx}{e:Expr}{es:List Expr}{te:TE}{t:TA}{pos:Pos}
theorem ah:PA X [] fz:=λ_ _ _ _ H Q I h=>Calls.spliced_nil ⟨[],H,I,.nil,h⟩
theorem ae(ha:PE X e te)(hr:PA X es t)(hs:starEach (e::es) X.env=(false,eval e X.env)::starEach es X.env:=by rfl):PA X (e::es) (bp te t):=by
 intro pos pins s σ H Q I h
 rw [hs]
 show wpAny _ _ (spliced ((false,eval e X.env)::backTo pos (starEach es X.env))) _ _ s
 refine Calls.spliced_cons (b_ (ha pins s σ H _ I h) λu s1 ⟨x,H1,I1,r1,q1⟩=>?_)
 exact b_ (hr pos pins s1 σ H1 _ I1 q1) λus s2 ⟨xs,H2,I2,r2,q2⟩=>⟨x::xs,H2,I2,.cons r1 r2,q2⟩
def Gg(t:TA):TE:=λσ H Q=>t σ H λxs H1=>xs.length<=sizeLine/\∀p,H1 p=none->Q (.ref p) (upd H1 p (.tup xs))
def x5(t:TA):TE:=λσ H Q=>t σ H λxs H1=>xs.length<=sizeLine/\∀p,H1 p=none->Q (.ref p) (upd H1 p (.lst xs))
theorem aJ{x1}(h:PA X es t):PE X (.Tuple es x1 pos) (Gg t):=by
 intro pins s σ H Q I hq
 refine wpAny_Tuple_spliced (b_ (h pos pins s σ H _ I hq) λus s1 ⟨xs,H1,I1,r,z,q⟩=>⟨by rw [←r.length]; exact z,?_⟩)
 have hf:H1 s1.heap.objs.size=none:=I1.hok.fresh (T7 _)
 refine⟨.ref s1.heap.objs.size,upd H1 s1.heap.objs.size (.tup xs),I1.laid (t':=s1.toks) (λb u e=>T4 _ e) (T7 _) ?_,rfl,q _ hf⟩
 exact⟨z,us,r,⟨_,T6 _ rfl,rfl,⟨_,rfl⟩,rfl⟩⟩
theorem aQ(h:PA X es t):PE X (.List es pos) (x5 t):=by
 intro pins s σ H Q I hq
 refine wpAny_List_spliced (b_ (h pos pins s σ H _ I hq) λus s1 ⟨xs,H1,I1,r,z,q⟩=>⟨by rw [←r.length]; exact z,?_⟩)
 have hf:H1 s1.heap.objs.size=none:=I1.hok.fresh (T7 _)
 refine⟨.ref s1.heap.objs.size,upd H1 s1.heap.objs.size (.lst xs),I1.laid (t':=s1.toks) (λb u e=>T4 _ e) (T7 _) ?_,rfl,q _ hf⟩
 exact⟨z,us,0,r,T6 _ rfl⟩
end
abbrev Sp:=List V->Hp->VK->XK->Prop
abbrev q5:=List Env->Hp->Shared->XK->Value->Shared->Prop
structure v7(P:Program)(w:World)(K:UJ)(mg:Str->Option Value)(base:Heap)(A:Around)(outer:List Env)(s:Shared)(H:Hp):Prop where
 frames:A.frames=some outer
 mod:Mod K mg base
 bs:∀b o,base.get? b=some o->s.heap.get? b=some o/\H b=none
 AX:base.objs.size<=s.heap.objs.size
 kh:s.heap.FunFrames base outer
 Ef:∀b∈frs outer,H b=none
 hok:i7 P w H s.heap
 bare:AllBare s.gens
def CE(outer:List Env)(P:Program)(w:World)(H:Hp)(s:Shared)(Q:VK)(u:Value)(s':Shared):Prop :=
 ∃v H',s'.os=s.os/\AllBare s'.gens/\Un (frs outer) [] H H' s.heap s'.heap/\i7 P w H' s'.heap/\RelV v u/\Q v H'
def CR(CX:q5)(outer:List Env)(P:Program)(w:World)(H:Hp)(s:Shared)(Q:VK)(E:XK)(r:Result)(s':Shared):Prop :=
 match r with
 | .ok (.ret u)=>CE outer P w H s Q u s'
 | .ok _=>False
 | .error e=>CX outer H s E e s'
structure eZ(P:Program)(w:World)(K:UJ)(mg:Str->Option Value)(base:Heap)(CX:q5)(k:Nat)(f:Addr)(fd:FuncData)(ps:List Str)(sp:Sp):Prop where
 len:∀vs H Q E,sp vs H Q E->vs.length=ps.length
 run:∀(A:Around) (outer:List Env) (s:Shared) (H:Hp) (args:Args) (us:List Value) (vs:List V) (Q:VK) (E:XK),eJ k A->v7 P w K mg base A outer s H->BindsTo s fd args (ps.zip us)->Vals vs us->sp vs H Q E->
  codeAny (model P w) A (.call (.ref f) args) (CR CX outer P w H s Q E) s
theorem eZ.mono{P:Program}{w:World}{K:UJ}{mg:Str->Option Value}{base:Heap}{CX:q5}{j k:Nat}{f:Addr}{fd:FuncData}{ps:List Str}{sp:Sp}(F:eZ P w K mg base CX j f fd ps sp)(h:j<=k) :
  eZ P w K mg base CX k f fd ps sp:=⟨F.len,λA outer s H args us vs Q E hr=>F.run A outer s H args us vs Q E (hr.mono h)⟩
theorem eZ.imp{P:Program}{w:World}{K:UJ}{mg:Str->Option Value}{base:Heap}{CX:q5}{k:Nat}{f:Addr}{fd:FuncData}{ps:List Str}{sp Qi:Sp}(F:eZ P w K mg base CX k f fd ps sp)
  (h:∀vs H Q E,Qi vs H Q E->sp vs H Q E):eZ P w K mg base CX k f fd ps Qi :=
 ⟨λvs H Q E q=>F.len vs H Q E (h _ _ _ _ q),λA outer s H args us vs Q E hr he hb hv hs=>F.run A outer s H args us vs Q E hr he hb hv (h _ _ _ _ hs)⟩
theorem v7.make{P:Program}{w:World}{K:UJ}{mg:Str->Option Value}{base:Heap}{A:Around}{outer:List Env}{s:Shared}{H:Hp}(e:v7 P w K mg base A outer s H)(C:Addr)(us:List Value)(kw:List (Str×Value)) :
  v7 P w K mg base (A.under (.builtin "type.__call__" ⟨.ref C::us,kw⟩)) outer s H:=⟨by first | exact e.frames | (simpa [Around.under,Code.envs,Code.isFrame,pushEnvs] using e.frames),e.mod,e.bs,e.AX,e.kh,e.Ef,e.hok,e.bare⟩
section
variable{X:Cx}{pins:List (Addr×Obj)}{σ:St}{H:Hp}{s s':Shared}
theorem Inv.env0(I:Inv X pins σ H s):v7 X.prog X.w X.K X.mg X.base X.A X.stack s H :=
 ⟨I.ok.frames,I.ok.mod,I.bs,T8 I.ok.AX I.sz,I.stack,I.ni,I.hok,I.bare⟩
theorem Inv.after{Q:VK}{u:Value}(I:Inv X pins σ H s)(h:CE X.stack X.prog X.w H s Q u s'):EP X pins σ Q u s':=by
 obtain⟨v,H',os,bare,un,hok,r,q⟩:=h
 obtain⟨hh,g,d,t,os'⟩:=s'
 obtain rfl:os'=s.os:=os
 exact⟨v,H',I.call (h':=hh) (g':=g) (d':=d) (t':=t) (ch:=[]) un hok bare (λb z=>absurd z (by simp)),r,q⟩
end
def iW(sp:Sp)(Hr:List V)(E:XK)(t:TA):TE:=λσ H Q=>t σ H λvs H1=>sp (vs++Hr) H1 Q E
def Binds(K:UJ)(fd:FuncData)(ps:List Str)(ds:List Value):Prop :=
 ∀(s:Shared) (us:List Value),K.In s.heap->(us++ds).length=ps.length->BindsTo s fd ⟨us,[]⟩ (ps.zip (us++ds))
theorem Binds.all{K:UJ}{fd:FuncData}{ps:List Str}(h:∀us:List Value,us.length=ps.length->bindArgs fd ⟨us,[]⟩=pure (ps.zip us)):Binds K fd ps []:=λs us _ hl=>by
 rw [List.append_nil]at hl⊢
 exact .of_eq (h us hl)
def Passes(CX:q5)(X:Cx)(E:XK):Prop:=∀(pins:List (Addr×Obj)) (σ:St) (H:Hp) (s:Shared) (e:Value) (s':Shared),Inv X pins σ H s->CX X.stack H s E e s'->X.xe e s'
section
variable{X:Cx}{CX:q5}{k:Nat}{f C:Addr}{fd:FuncData}{ps:List Str}{sp:Sp}{Hr:List V}{ds:List Value}{E:XK}{x m:Str}{p pos apos:Pos}{e o:Expr}{es:List Expr}{ta:TE}{t:TA}
theorem DY{pins:List (Addr×Obj)}{σ:St}{H:Hp}{s:Shared}{Q:VK}{us:List Value}{vs:List V}(F:eZ X.prog X.w X.K X.mg X.base CX k f fd ps sp)(hr:eJ k X.A)(hb:Binds X.K fd ps ds)(hd:Vals Hr ds)(hx:Passes CX X E)
  (I:Inv X pins σ H s) (r:Vals vs us) (h:sp (vs++Hr) H Q E):wpAny (model X.prog X.w) X.A (call (.ref f) us) (EP X pins σ Q) X.xe s:=by
 have r2:Vals (vs++Hr) (us++ds):=r.append hd
 have hl:(us++ds).length=ps.length:=by rw [←r2.length]; exact F.len _ _ _ _ h
 refine wpAny_call (codeAny_mono (F.run X.A X.stack s H ⟨us,[]⟩ (us++ds) (vs++Hr) Q E hr I.env0 (hb s us I.jI hl) r2 h) λr s' hq=>?_)
 cases r with
 | error e=>exact hx pins σ H s e s' I hq
 | ok fl =>
  cases fl with
  | ret u=>exact I.after hq
  | next=>exact False.elim hq
  | brk=>exact False.elim hq
  | cont=>exact False.elim hq
theorem EU(F:eZ X.prog X.w X.K X.mg X.base CX k f fd ps sp)(hr:eJ k X.A)(hg:Gl X x)(hm:X.mg x=some (.ref f))(hk:PySem.W.keepIn X.K (.ref f)=true)(hb:Binds X.K fd ps ds)(hd:Vals Hr ds)(hx:Passes CX X E)
  (ha:PA X (e::es) t) (hdb:(x==("__debug__" : Str))=false:=by decide) (he:starEach (e::es) X.env=(false,eval e X.env)::starEach es X.env:=by rfl) (hpl:(backTo pos (starEach es X.env)).any (·.1)=false:=by rfl) :
  PE X (.Call (.Name x p) (e::es) [] pos) (iW sp Hr E t):=by
 intro pins s σ H Q I h
 refine wpAny_Call_Name_kw (m9 I hg hm ?_ hdb)
 refine PySem.W.callWith_K (h₀:=X.base) I.ok.mod.Ko hk (b_ (ha pos pins s σ H _ I h) λus s1 ⟨vs,H1,I1,r,q⟩=>⟨I1.jI,?_⟩) he hpl
 exact DY F hr hb hd hx I1 r q
end
structure ay(N P:List Str)(sc:Scope):Prop where
 kind:sc.kind=.function
 co:sc.isCoroutine=false
 gen:sc.isGenerator=false
 nd:N.Nodup
 pre:N.take P.length=P
 par:∀x∈P,sc.names.lookup x=some .local\/sc.names.lookup x=some .cell
 J0:∀y∈sc.names,y.2≠ .free
theorem qX{kindOf:Str->Option NameKind}{x:Str}:∀{binds:List (Str×Value)} {m:Str->Option Value},(∀v,(x,v)∉binds)->bindL kindOf binds m x=m x
 | [],_,_=>rfl
 | (n,v)::r,m,h=>by
  unfold bindL
  rw [qX λw hw=>h w (Uj _ hw)]
  split
  ·have:x≠n:=by rintro rfl; exact h v UE
   simp [this]
  ·rfl
theorem qU{kindOf:Str->Option NameKind}{x:Str}:∀{binds:List (Str×Value)} {m:Str->Option Value},(∀v,(x,v)∉binds)->bindC kindOf binds m x=m x
 | [],_,_=>rfl
 | (n,v)::r,m,h=>by
  unfold bindC
  rw [qU λw hw=>h w (Uj _ hw)]
  split
  ·rfl
  ·have:x≠n:=by rintro rfl; exact h v UE
   simp [this]
theorem rp{kindOf:Str->Option NameKind}{x:Str}{v:Value}:∀{P:List Str} {vs:List Value} {i:Nat} {m:Str->Option Value},P.Nodup->P[i]? = some x->vs[i]? = some v->kindOf x=some .local->
  bindL kindOf (P.zip vs) m x=some v
 | [],_,_,_,_,h,_,_=>by simp at h
 | _::_,[],_,_,_,_,h,_=>by simp at h
 | p::P,w::vs,0,m,nd,h1,h2,hk=>by
  simp at h1 h2; subst h1; subst h2
  show bindL kindOf ((p,w)::P.zip vs) m p=_
  unfold bindL
  rw [qX λv hv=>(List.nodup_cons.mp nd).1 (List.of_mem_zip hv).1,if_pos hk]
  simp
 | p::P,w::vs,i+1,m,nd,h1,h2,hk=>by
  show bindL kindOf ((p,w)::P.zip vs) m x=_
  unfold bindL
  exact rp (i:=i) (List.nodup_cons.mp nd).2 (by simpa using h1) (by simpa using h2) hk
theorem qS{kindOf:Str->Option NameKind}{x:Str}{v:Value}:∀{P:List Str} {vs:List Value} {i:Nat} {m:Str->Option Value},P.Nodup->P[i]? = some x->vs[i]? = some v->kindOf x≠some .local->
  bindC kindOf (P.zip vs) m x=some v
 | [],_,_,_,_,h,_,_=>by simp at h
 | _::_,[],_,_,_,_,h,_=>by simp at h
 | p::P,w::vs,0,m,nd,h1,h2,hk=>by
  simp at h1 h2; subst h1; subst h2
  show bindC kindOf ((p,w)::P.zip vs) m p=_
  unfold bindC
  rw [qU λv hv=>(List.nodup_cons.mp nd).1 (List.of_mem_zip hv).1,if_neg hk]
  simp
 | p::P,w::vs,i+1,m,nd,h1,h2,hk=>by
  show bindC kindOf ((p,w)::P.zip vs) m x=_
  unfold bindC
  exact qS (i:=i) (List.nodup_cons.mp nd).2 (by simpa using h1) (by simpa using h2) hk
def start(N:List Str)(vs:List V):St:=vs.map some++List.replicate (N.length-vs.length) none
def qB(CX:q5)(P:Program)(w:World)(K:UJ)(mg:Str->Option Value)(base:Heap)(N:List Str)(qual:Str)(scope:Scope)(f:Addr)(cd:Value)(A:Around)(outer:List Env)(s:Shared)(H:Hp)(E:XK):Cx where
 prog:=P
 w:=w
 K:=K
 mg:=mg
 base:=base
 A:=A.deeper (envOfC qual scope s.heap.objs.size f cd)
 N:=N
 s₀:=s
 H₀:=H
 env:=envOfC qual scope s.heap.objs.size f cd
 outer:=outer
 stack:=envOfC qual scope s.heap.objs.size f cd::outer
 ex:=[]
 calm:=true
 fn:=λ_=>true
 pn:=[]
 xe:=λe s'=>wpAny (model P w) (A.deeper (envOfC qual scope s.heap.objs.size f cd)) (leaving (envOfC qual scope s.heap.objs.size f cd) e) (λ_ s''=>CX outer H s E e s'') (λe' s''=>CX outer H s E e' s'') s'
theorem uO{sc:Scope}{n:Nat}{x:Str}(h:sc.names.lookup x=some .cell):∃c,(cellsFrom n sc.names []).lookup x=some c:=by
 have q:=PySem.W.cellsFrom_some sc.names n [] (.inl h)
 exact Option.isSome_iff_exists.mp q
theorem Ay{CX:q5}{P:Program}{w:World}{K:UJ}{mg:Str->Option Value}{base:Heap}{N ps:List Str}{qual:Str}{scope:Scope}{f:Addr}{cd:Value}{A:Around}{outer:List Env}{s s1:Shared}{H:Hp}{E:XK}{us:List Value}{vs:List V}
  (S:ay N ps scope) (hd:A.handled=none) (e0:v7 P w K mg base A outer s H) (hl:vs.length=ps.length) (r:Vals vs us)
  (x:InCallC s s.heap.objs.size (bindL (envOfC qual scope s.heap.objs.size f cd).kindOf (ps.zip us) λ_=>none) (cellsFrom (s.heap.objs.size+1) scope.names []) (bindC (envOfC qual scope s.heap.objs.size f cd).kindOf (ps.zip us) λ_=>none) s1) :
  Inv (qB CX P w K mg base N qual scope f cd A outer s H E) [] (start N vs) H s1:=by
 have hpl:ps.length<=N.length:=by have:=congrArg List.length S.pre; rw [Uz]at this; omega
 obtain⟨h1,tk,rfl,hk⟩:=x.done
 have LR:∀b:Addr,b∉(qB CX P w K mg base N qual scope f cd A outer s H E).ex:=λb z=>absurd (show b∈([]:List Addr) from z) (by simp)
 refine⟨⟨e0.mod,S.kind,rfl,rfl,T7 _,λy z c h1 h2=>?_,λy hy=>?_,λy c _ h=>?_,λ_=>hd,Around.frames_deeper e0.frames,.inr ⟨rfl,rfl⟩,λb z=>absurd z (LR b),e0.bs,e0.AX,λb _ _=>LR b,λb z=>absurd z (LR b),e0.kh,e0.Ef⟩,
  rfl,e0.bare,Un.kept hk,⟨_,x.toInCall.ns,λi y v h1 h2 h3=>?_⟩,λy c h=>⟨_,x.cell y c h⟩,e0.hok.fresh (T7 _),λy c h=>?_,λp hp=>absurd (show p∈([]:List (Addr×Obj)) from hp) (by simp),e0.hok.kept hk,?_⟩
 ·exact name_of_addr x.apart (PySem.mem_of_lookup h1) (PySem.mem_of_lookup h2)
 ·have hy:scope.names.lookup y=some .cell\/scope.names.lookup y=some .free:=hy
  rcases hy with hy | hy
  ·exact uO hy
  ·exact absurd rfl (S.J0 _ (PySem.mem_of_lookup hy))
 ·exact Nat.le_of_lt (x.above y c (PySem.mem_of_lookup h))
 ·have hi:i<vs.length:=by
   unfold start at h2
   by_cases hi:i<vs.length
   ·exact hi
   ·rw [Uw (by simpa using hi)]at h2
    rw [List.getElem?_replicate]at h2
    split at h2 <;> cases h2
  have ha:vs[i]? = some v:=by
   unfold start at h2
   rw [Ux (by simpa using hi),Uy]at h2
   cases e:vs[i]? with
   | none=>rw [e]at h2; cases h2
   | some a=>rw [e]at h2; cases h2; rfl
  obtain⟨u,hu,rv⟩:=r.get ha
  have hp:ps[i]? = some y:=by
   rw [←S.pre,List.getElem?_take_of_lt (by omega)]; exact h1
  have QD:ps.Nodup:=by rw [←S.pre]; exact S.nd.sublist (List.take_sublist _ _)
  refine⟨u,rv,?_⟩
  rcases S.par y (Ui hp)with k | k
  ·exact .inl ⟨k,rp QD hp hu k⟩
  ·obtain⟨c,e⟩:=uO (n:=s.heap.objs.size+1) k
   refine .inr ⟨.inl k,c,e,?_⟩
   have q:=x.cell y c e
   rw [qS QD hp hu (by show scope.names.lookup y≠_; rw [k]; decide)]at q
   exact q
 ·exact e0.hok.fresh (Nat.le_of_lt (x.above y c (PySem.mem_of_lookup h)))
 ·unfold start
  show _=N.length
  rw [Ub,Ua,List.length_replicate]
  omega
theorem Hj{CX:q5}{P:Program}{w:World}{K:UJ}{mg:Str->Option Value}{base:Heap}{k:Nat}{f:Addr}{name qual:Str}{params:Arguments}{body:List Stmt}{scope:Scope}{dV kV doc pm cdv ct oc:Value}{an od:Option Addr}
  {osl:Array (Option Value)} {N ps:List Str} {sp:Sp} (lk:K.lookup f=some ⟨oc,od,.func (PySem.W.fnOf name qual params body scope dV kV doc pm an cdv ct),osl⟩) (hcd:PySem.W.codeIn K cdv qual=true) (S:ay N ps scope)
  (len:∀vs H Q E,sp vs H Q E->vs.length=ps.length)
  (hbody:∀(A:Around) (outer:List Env) (s:Shared) (H:Hp) (vs:List V) (Q:VK) (E:XK),eJ k (A.deeper (envOfC qual scope s.heap.objs.size f cdv))->sp vs H Q E->
   ∃t,pL (qB CX P w K mg base N qual scope f cdv A outer s H E) body t/\t {nx:=λ_ H'=>Q .non H',rt:=Q} (start N vs) H) :
  eZ P w K mg base CX (k+1) f (PySem.W.fnOf name qual params body scope dV kV doc pm an cdv ct) ps sp:=by
 refine⟨len,λA outer s H args us vs Q E hr e0 hb r hsp=>?_⟩
 have hl:=len _ _ _ _ hsp
 have KX:K.In s.heap:=e0.mod.Ko.keeps λb o e=>(e0.bs b o e).1
 have lim:s.heap.NoLimit:=e0.mod.nolimit.keeps λb o e=>(e0.bs b o e).1
 have hkind:∀y∈ps.zip us,scope.names.lookup y.1=some .local\/(scope.names.lookup y.1=some .cell/\((cellsFrom (s.heap.objs.size+1) scope.names []).lookup y.1).isSome=true):=λ⟨n,v⟩ hy=>by
  rcases S.par n (List.of_mem_zip hy).1 with q | q
  ·exact .inl q
  ·exact .inr ⟨q,PySem.W.cellsFrom_some _ _ _ (.inl q)⟩
 refine codeAny_call_function hr.depth (KX _ _ lk) rfl S.co S.gen rfl (PySem.W.codeRec_of KX hcd) (hb _ _ _ _ ?_)
 refine wpAny_newFunctionEnv_cells S.kind hkind λenv he s1 x=>?_
 subst he
 refine⟨lim.keeps x.toInCall.keep,codeAny_func ?_⟩
 obtain⟨t,ht,hq⟩:=hbody A outer s H vs Q E (hr.deeper _) hsp
 have I:Inv (qB CX P w K mg base N qual scope f cdv A outer s H E) [] (start N vs) H s1:=Ay S hr.hd e0 hl r x
 refine UB (ht [] s1 (start N vs) H _ I hq) (λfl s' hs=>?_) λe s' hs=>hs
 have fin:∀{σ':St} {H':Hp} {v:V} {u:Value},Inv (qB CX P w K mg base N qual scope f cdv A outer s H E) [] σ' H' s'->RelV v u->Q v H'->CE outer P w H s Q u s' :=
  λ{σ' H' v u} J rv q=>⟨v,H',J.os,J.bare,J.base,J.hok,rv,q⟩
 cases fl with
 | ret u =>
  obtain⟨v,σ',H',J,rv,q⟩:=hs
  exact fin J rv q
 | next =>
  obtain⟨σ',H',J,q⟩:=hs
  exact fin (v:=V.non) (u:=Value.none) J rfl q
 | brk =>
  obtain⟨_,_,_,q⟩:=hs
  exact False.elim q
 | cont =>
  obtain⟨_,_,_,q⟩:=hs
  exact False.elim q
section
variable{X:Cx}{x:Str}{p pos:Pos}{e:Expr}{es:List Expr}{t:TA}{id T:String}{r:List V->Hp->VK->Prop}
def Kp(r:List V->Hp->VK->Prop)(t:TA):TE:=λσ H Q=>t σ H λvs H1=>r vs H1 Q
theorem aZ(hc:fk X (.builtin id) r)(hg:Gl X x)(hm:X.mg x=none)(hv:bootBuiltins x=some (.builtin id))(ha:PA X (e::es) t)(hn:x≠"__name__":=by decide)(hdb:(x==("__debug__" : Str))=false:=by decide)
  (he:starEach (e::es) X.env=(false,eval e X.env)::starEach es X.env:=by rfl) (hpl:(backTo pos (starEach es X.env)).any (·.1)=false:=by rfl):PE X (.Call (.Name x p) (e::es) [] pos) (Kp r t):=by
 intro pins s σ H Q I h
 refine wpAny_Call_Name_kw (iT I hg hm hv ?_ hn hdb)
 exact PyProof.Rows.callWith_builtin1 (b_ (ha pos pins s σ H _ I h) λus s1 ⟨vs,H1,I1,r1,q1⟩=>hc pins s1 σ H1 vs us Q I1 r1 q1) he hpl
theorem aV(hc:fk X (.type T) r)(hg:Gl X x)(hm:X.mg x=none)(hv:bootBuiltins x=some (.type T))(ha:PA X (e::es) t)(hn:x≠"__name__":=by decide)(hdb:(x==("__debug__" : Str))=false:=by decide)
  (he:starEach (e::es) X.env=(false,eval e X.env)::starEach es X.env:=by rfl) (hpl:(backTo pos (starEach es X.env)).any (·.1)=false:=by rfl):PE X (.Call (.Name x p) (e::es) [] pos) (Kp r t):=by
 intro pins s σ H Q I h
 refine wpAny_Call_Name_kw (iT I hg hm hv ?_ hn hdb)
 exact PyProof.Rows.callWith_type1 (b_ (ha pos pins s σ H _ I h) λus s1 ⟨vs,H1,I1,r1,q1⟩=>hc pins s1 σ H1 vs us Q I1 r1 q1) he hpl
end
end L2
namespace HT
open PySem PyProof.Rows
section
variable{prog:Program}{w:World}{A:Around}{E:Value->Shared->Prop}{s:Shared}
theorem FX{t b:Addr}{vs ws:List Value}{Q:Value->Shared->Prop}(ht:IsTup s.heap t vs.toArray)(hb:IsTup s.heap b ws.toArray)(hv:vs≠[])
  (h1:ws=[]->Q (.ref t) s) (h2:ws≠[]->Q (.ref s.heap.objs.size) {s with heap:=s.heap.push {cls:=.type "tuple",data:=.seq (vs++ws).toArray}})
  (hsz:vs.length+ws.length<=sizeLine):wpAny (model prog w) A (binaryOp .Add (.ref t) (.ref b)) Q E s:=by
 obtain⟨⟨cls,dd,data,sl⟩,ho,hc,n,hd⟩:=id ht
 obtain⟨⟨cls2,dd2,data2,sl2⟩,ho2,hc2,n2,hd2⟩:=id hb
 simp only at hc hd hc2 hd2
 subst hc hd hc2 hd2
 have e:vs.toArray++ws.toArray=(vs++ws).toArray:=by simp
 by_cases hw:ws=[]
 ·exact concat_meets ⟨_,ho,rfl⟩ ⟨_,ho2,rfl⟩ noFill_tuple_add seq_tuple_add PySem.F.slot_tuple_add PySem.F.entry_tuple_add (PySem.F.args_tuple_add_2 _ _)
   (tuple_addW1 t b vs.toArray ws.toArray n n2 dd dd2 sl sl2 (by simpa using hv) (by simp [hw])) ⟨ho,ho2,h1 hw⟩
 ·refine concat_meets ⟨_,ho,rfl⟩ ⟨_,ho2,rfl⟩ noFill_tuple_add seq_tuple_add PySem.F.slot_tuple_add PySem.F.entry_tuple_add (PySem.F.args_tuple_add_2 _ _)
   (tuple_addW2 t b vs.toArray ws.toArray n n2 dd dd2 sl sl2 (by simpa using hv) (by simpa using hw) (by rw [Ul,Ul]; exact hsz)) ⟨ho,ho2,?_⟩
  rw [e]
  exact h2 hw
def dH(n d:Nat):Option Int->Nat
 | none=>d
 | some v=>if v<0 then(v+(n:Int)).toNat else min v.toNat n
theorem pB(n d:Nat):dH n d none=d:=rfl
theorem yR(n d k:Nat):dH n d (some (k:Int))=min k n:=by
 show(if(k:Int)<0 then((k:Int)+(n:Int)).toNat else min (k:Int).toNat n)=min k n
 rw [if_neg (by omega),Int.toNat_natCast]
theorem HG(n d:Nat)(hd:d<=n)(o:Option Int):dH n d o<=n:=by
 cases o with
 | none=>exact hd
 | some v =>
  show(if v<0 then(v+(n:Int)).toNat else min v.toNat n)<=n
  by_cases hv:v<0
  ·rw [if_pos hv]; omega
  ·rw [if_neg hv]; exact Nat.min_le_right _ _
theorem y6(v:Int)(n d:Nat):(if v<0 then max (v+(n:Int)) 0 else min v (n:Int))=((dH n d (some v):Nat):Int):=by
 show(if v<0 then max (v+(n:Int)) 0 else min v (n:Int))=(((if v<0 then(v+(n:Int)).toNat else min v.toNat n):Nat):Int)
 by_cases hv:v<0
 ·simp only [if_pos hv]; omega
 ·simp only [if_neg hv]; omega
theorem v8(lo hi:Option Int)(n:Nat):Builtin.Slice.sliceAdjust lo hi 1 (n:Int)=(((dH n 0 lo:Nat):Int),((dH n n hi:Nat):Int)):=by
 have h1:¬((1:Int)<0):=by omega
 unfold Builtin.Slice.sliceAdjust
 simp only [h1,if_false]
 refine Prod.ext ?_ ?_
 ·cases lo with
  | none=>rfl
  | some v=>exact y6 v n 0
 ·cases hi with
  | none=>rfl
  | some v=>exact y6 v n n
theorem v3(i j:Nat):Builtin.Slice.slicePlaces (i:Int) (j:Int) 1=j-i:=by
 unfold Builtin.Slice.slicePlaces
 have h1:(1:Int) > 0:=by omega
 simp only [h1,if_true,Int.ediv_one]
 split <;> omega
theorem oh{v:Value}{o:Option Int}{Q:Option Int->Shared->Prop}(p:IsPart v o)(h:Q o s):wpAny (model prog w) A (Builtin.Slice.slicePartIndex v) Q E s:=by
 cases p with
 | none=>exact slicePart_none h
 | int i t=>exact slicePart_int h
theorem ir{sl:Addr}{vl vu:Value}{lo hi:Option Int}{n:Nat}{Q:Int×Int×Nat->Shared->Prop}(hs:s.heap.IsSliceOf sl vl vu .none)(pl:IsPart vl lo)(pu:IsPart vu hi)
  (h:Q (((dH n 0 lo:Nat):Int),1,dH n n hi-dH n 0 lo) s):wpAny (model prog w) A (Builtin.Slice.sliceApplied (.ref sl) (pure (n:Int))) Q E s:=by
 obtain⟨os,hos,hcs,hds⟩:=id hs
 unfold Builtin.Slice.sliceApplied Builtin.Slice.sliceFields
 refine TZ (TZ (wpAny_field hos hds (x:=vl) rfl (TZ (wpAny_field hos hds (x:=vu) rfl (TZ (wpAny_field hos hds (x:=.none) rfl (T1 ?_)))))))
 refine TZ (slicePart_none ?_)
 show wpAny _ _ (if((1:Int)==0)=true then _ else _) _ _ s
 rw [if_neg (by decide)]
 refine TZ (oh pl (TZ (oh pu (TZ (T1 ?_)))))
 show wpAny _ _ (match Builtin.Slice.sliceAdjust lo hi 1 (n:Int)with | (lo,hi)=>pure (lo,(1:Int),Builtin.Slice.slicePlaces lo hi 1)) _ _ s
 rw [v8 lo hi n]
 show wpAny _ _ (pure (((dH n 0 lo:Nat):Int),(1:Int),Builtin.Slice.slicePlaces ((dH n 0 lo:Nat):Int) ((dH n n hi:Nat):Int) 1)) _ _ s
 rw [v3]
 exact T1 h
theorem BJ(xs:Array Value)(i k:Nat):((List.range k).filterMap λ(m:Nat)=>xs[((i:Int)+(m:Int)*1).toNat]?).toArray=((xs.toList.drop i).take k).toArray:=by
 have e:(λ(m:Nat)=>xs[((i:Int)+(m:Int)*1).toNat]?) = λm=>xs[i+m]?:=by
  funext m
  have:((i:Int)+(m:Int)*1).toNat=i+m:=by omega
  rw [this]
 rw [e]
 have:=pick_run xs i k
 rw [List.filterMap_map]at this
 have e2:((λx=>xs[x]?)∘ λx=>i+x) = λm=>xs[i+m]?:=rfl
 rw [e2]at this
 rw [this]
theorem kP{t sl:Addr}{items:Array Value}{vl vu:Value}{lo hi:Option Int}{Q:Value->Shared->Prop}(ht:IsTup s.heap t items)(hs:s.heap.IsSliceOf sl vl vu .none)(pl:IsPart vl lo)(pu:IsPart vu hi)
  (hw:¬(dH items.size 0 lo=0/\dH items.size items.size hi=items.size))
  (h:Q (.ref s.heap.objs.size) {s with heap:=s.heap.push {cls:=.type "tuple",data:=.seq ((items.toList.drop (dH items.size 0 lo)).take (dH items.size items.size hi-dH items.size 0 lo)).toArray}})
  (hsz:items.size<=sizeLine):wpAny (model prog w) A (getItem (.ref t) (.ref sl)) Q E s:=by
 have yj:sizeOk (.seq ((items.toList.drop (dH items.size 0 lo)).take (dH items.size items.size hi-dH items.size 0 lo)).toArray):=by
  show((items.toList.drop (dH items.size 0 lo)).take (dH items.size items.size hi-dH items.size 0 lo)).toArray.size<=sizeLine
  rw [Ul,Uz,List.length_drop,Array.length_toList]
  omega
 have hj:dH items.size items.size hi<=items.size:=HG _ _ (T7 _) hi
 obtain⟨os,hos,hcs,hds⟩:=id hs
 have hTs:s.TypeIs (.ref sl) "slice":=⟨os,hos,hcs⟩
 unfold getItem
 try with_reducible refine UC ?_
 first | refine TZ (T1 ?_) | skip
 refine TZ (wpAny_sequenceKey ht.typeIs (by decide) ?_)
 refine TZ (wpAny_callSpecial?_slot (name:=Str.ofString "__getitem__") ht.typeIs PyProof.Rows.slot_tuple_getitem
  (wpAny_call_entry PyProof.Rows.slot_tuple_getitem ht.typeIs entry_tuple_getitem ?_ (args_tuple_getitem _ _)))
 show wpAny _ _ (Builtin.Tuple.tupleItemsOf (.ref t) >>= _) _ _ s
 refine TZ (tupleItemsOf_ ht ?_)
 refine TZ (wpAny_typeOf hTs ?_)
 rw [if_pos (by decide)]
 refine TZ (ir hs pl pu ?_)
 have hno:¬((((dH items.size 0 lo:Nat):Int)==0&&(1:Int)==1&&(dH items.size items.size hi-dH items.size 0 lo)==items.size)=true):=by
  intro q
  rw [UH,UH]at q
  have q1:((dH items.size 0 lo:Nat):Int)=0:=eq_of_beq q.1.1
  have q2:dH items.size items.size hi-dH items.size 0 lo=items.size:=eq_of_beq q.2
  exact hw ⟨by omega,by omega⟩
 show wpAny _ _ (if(((dH items.size 0 lo:Nat):Int)==0&&(1:Int)==1&&(dH items.size items.size hi-dH items.size 0 lo)==items.size)=true then _ else _) _ _ s
 rw [if_neg hno,BJ]
 first
  | exact TZ (m:=Builtin.Tuple.tupleExact _) (UD (T1 ⟨_,rfl,T1 h⟩) yj)
  | exact TZ (m:=Builtin.Tuple.tupleExact _) (UD (TZ (T1 (T1 ⟨_,rfl,T1 h⟩))) yj)
  | exact TZ (TZ (m:=Builtin.Tuple.tupleExact _) (UD (T1 (T1 ⟨_,rfl,T1 h⟩)) yj))
  | exact TZ (TZ (m:=Builtin.Tuple.tupleExact _) (UD (T1 ⟨_,rfl,T1 h⟩) yj))
end
end HT
namespace L2
open PySem PySem.Spec PyProof.Rows
abbrev TO:=St->Hp->(Option Int->Hp->Prop)->Prop
def PO(X:Cx)(e:Option Expr)(t:TO):Prop :=
 ∀(pins:List (Addr×Obj)) (s:Shared) (σ:St) (H:Hp) (Q:Option Int->Hp->Prop),Inv X pins σ H s->t σ H Q->
  wpAny (model X.prog X.w) X.A (evalPart e X.env) (λu s'=>∃o H',Inv X pins σ H' s'/\IsPart u o/\Q o H') X.xe s
def F7:TO:=λ_ H Q=>Q none H
def MC(t:TE):TO:=λσ H Q=>t σ H λx H1=>∃i,x=.int i/\Q (some i) H1
section
variable{X:Cx}{e:Expr}{te:TE}{lo hi:Option Expr}{tl th:TO}{pos p2:Pos}
theorem dy:PO X none F7:=by
 intro pins s σ H Q I h
 rw [evalPart_none]
 exact T1 ⟨none,H,I,.none,h⟩
theorem cA(h:PE X e te):PO X (some e) (MC te):=by
 intro pins s σ H Q I hw
 rw [evalPart_some]
 refine b_ (h pins s σ H _ I hw) λu s1 ⟨x,H1,I1,r1,q1⟩=>?_
 obtain⟨i,rfl,q⟩:=q1
 obtain⟨t,rfl⟩:=r1
 exact⟨some i,H1,I1,.int i t,q⟩
def EK(X:Cx)(r:V->Option Int->Option Int->Hp->VK->Prop):Prop :=
 ∀(pins:List (Addr×Obj)) (s:Shared) (σ:St) (H:Hp) (x:V) (v vl vu:Value) (lo hi:Option Int) (sl:Addr) (Q:VK),Inv X pins σ H s->RelV x v->s.heap.IsSliceOf sl vl vu .none->IsPart vl lo->IsPart vu hi->r x lo hi H Q->
  ∃T id,typeLookup (.type T) "__getitem__"=pure (some (.builtin id))/\s.TypeIs v T/\wpAny (model X.prog X.w) X.A (getItem v (.ref sl)) (EP X pins σ Q) X.xe s
theorem EK.or{r r':V->Option Int->Option Int->Hp->VK->Prop}(h:EK X r)(h':EK X r'):EK X (λx lo hi H Q=>r x lo hi H Q\/r' x lo hi H Q):=by
 intro pins s σ H x v vl vu lo hi sl Q I rx hs pl pu q
 rcases q with q | q
 ·exact h pins s σ H x v vl vu lo hi sl Q I rx hs pl pu q
 ·exact h' pins s σ H x v vl vu lo hi sl Q I rx hs pl pu q
def Tg(r:V->Option Int->Option Int->Hp->VK->Prop)(te:TE)(tl th:TO):TE:=λσ H Q=>te σ H λx H1=>tl σ H1 λl H2=>th σ H2 λu H3=>r x l u H3 Q
theorem cu{r:V->Option Int->Option Int->Hp->VK->Prop}(hr:EK X r)(he:PE X e te)(hl:PO X lo tl)(hu:PO X hi th):PE X (.Subscript e (.Slice lo hi none p2) pos) (Tg r te tl th):=by
 intro pins s σ H Q I h
 refine Subscript_ (b_ (he pins s σ H _ I h) λv s1 ⟨x,H1,I1,r1,q1⟩=>?_)
 refine wpAny_Slice (b_ (hl pins s1 σ H1 _ I1 q1) λvl s2 ⟨l,H2,I2,pl,q2⟩=>b_ (hu pins s2 σ H2 _ I2 q2) λvu s3 ⟨u,H3,I3,pu,q3⟩=>?_)
 rw [evalPart_none]
 refine T1 ?_
 have I4:Inv X pins σ H3 {s3 with heap:=s3.heap.push {cls:=.type "slice",data:=.fields #[vl,vu,.none]}}:=I3.kept (t':=s3.toks) λb ob q=>T4 _ q
 obtain⟨T,id,hT,ht,hg⟩:=hr pins {s3 with heap:=s3.heap.push {cls:=.type "slice",data:=.fields #[vl,vu,.none]}} σ H3 x v vl vu l u s3.heap.objs.size Q I4 r1 (Heap.IsSliceOf.new ..) pl pu q3
 show wpAny (model X.prog X.w) X.A (subscriptTail e (.Slice lo hi none p2) v (.ref s3.heap.objs.size)) (EP X pins σ Q) X.xe {s3 with heap:=s3.heap.push {cls:=.type "slice",data:=.fields #[vl,vu,.none]}}
 exact tail_any (ops:=[.ref s3.heap.objs.size,v]) ht hT hg (by with_unfolding_all rfl)
def gb(xs:List V)(lo hi:Option Int):List V:=(xs.drop (HT.dH xs.length 0 lo)).take (HT.dH xs.length xs.length hi-HT.dH xs.length 0 lo)
theorem mj(xs:List V)(lo hi:Option Int):(gb xs lo hi).length<=xs.length:=by
 unfold gb
 rw [Uz,List.length_drop]
 omega
def Lc(K:UJ):V->Option Int->Option Int->Hp->VK->Prop:=λx lo hi H Q=>∃a xs,x=.ref a/\aH K H a xs/\
 ¬(HT.dH xs.length 0 lo=0/\HT.dH xs.length xs.length hi=xs.length)/\∀p,H p=none->Q (.ref p) (upd H p (.tup (gb xs lo hi)))
theorem DN:EK X (Lc X.K):=by
 intro pins s σ H x v vl vu lo hi sl Q I rx hs pl pu h
 obtain⟨a,xs,rfl,hx,hw,q⟩:=h
 cases rx
 obtain⟨its,r,ht,hz⟩:=I.tuple hx
 have hlen:its.toArray.size=xs.length:=by rw [Ul]; exact r.length.symm
 refine⟨"tuple",_,PyProof.Rows.slot_tuple_getitem.lookup,ht.typeIs,?_⟩
 refine HT.kP ht hs pl pu (by rw [hlen]; exact hw) ?_ (by rw [hlen]; exact hz)
 rw [hlen]
 refine⟨.ref s.heap.objs.size,_,I.laid (t':=s.toks) (o:=.tup (gb xs lo hi)) (λb ob q=>T4 _ q) (T7 _) ?_,rfl,q _ (I.hok.fresh (T7 _))⟩
 exact⟨T8 (mj xs lo hi) hz,_,(r.drop (HT.dH xs.length 0 lo)).take (HT.dH xs.length xs.length hi-HT.dH xs.length 0 lo),gN.new _ _⟩
def GU(K:UJ):R2:=λx y H Q=>∃a b xs ys,x=.ref a/\y=.ref b/\aH K H a xs/\aH K H b ys/\xs≠[]/\xs.length+ys.length<=sizeLine/\
 (ys=[]->Q (.ref a) H)/\(ys≠[]->∀p,H p=none->Q (.ref p) (upd H p (.tup (xs++ys))))
theorem Vals.sQ{xs:List V}{us:List Value}(r:Vals xs us):us=[]↔xs=[]:=by
 cases r with
 | nil=>simp
 | cons _ _=>simp
theorem rJ:i3 X (binaryOp .Add) (GU X.K):=by
 intro pins s σ H x y v u Q I rx ry h
 obtain⟨a,b,xs,ys,rfl,rfl,ha,hb,hx,hz,q1,q2⟩:=h
 cases rx
 cases ry
 obtain⟨its,r1,p1,_⟩:=I.tuple ha
 obtain⟨its2,r2,p2,_⟩:=I.tuple hb
 refine HT.FX p1 p2 (λz=>hx (r1.sQ.mp z)) (λz=>⟨.ref a,H,I,rfl,q1 (r2.sQ.mp z)⟩) (λz=>?_) (by rw [←r1.length,←r2.length]; exact hz)
 refine⟨.ref s.heap.objs.size,_,I.laid (t':=s.toks) (o:=.tup (xs++ys)) (λb ob q=>T4 _ q) (T7 _) ?_,rfl,q2 (λw=>z (r2.sQ.mpr w)) _ (I.hok.fresh (T7 _))⟩
 exact⟨by rw [Ub]; exact hz,_,r1.append r2,gN.new _ _⟩
end
def vU(n:Nat)(i:Int):Option Nat:=if 0<=i then(if i<n then some i.toNat else none)else if -(n:Int)<=i then some (i+n).toNat else none
def i6{α:Type}(xs:List α)(i:Int):Option α:=(vU xs.length i).bind λj=>xs[j]?
theorem zb{n:Nat}{i:Int}{j:Nat}(h:vU n i=some j):seqIndex? i n=some j/\j<n/\-(n:Int)<=i/\i<n:=by
 unfold vU at h
 by_cases h0:0<=i
 ·rw [if_pos h0]at h
  by_cases h1:i<n
  ·rw [if_pos h1]at h
   have e:i.toNat=j:=Uv h
   exact⟨by rw [seqIndex_of h0 h1,e],by omega,by omega,h1⟩
  ·rw [if_neg h1]at h; cases h
 ·rw [if_neg h0]at h
  by_cases h1:-(n:Int)<=i
  ·rw [if_pos h1]at h
   have e:(i+n).toNat=j:=Uv h
   exact⟨by rw [seqIndex_neg (by omega) h1,e],by omega,h1,by omega⟩
  ·rw [if_neg h1]at h; cases h
theorem sH{α:Type}{xs:List α}{i:Int}{v:α}(h:i6 xs i=some v):∃j,seqIndex? i xs.length=some j/\xs[j]? = some v/\j<xs.length/\-(xs.length:Int)<=i/\i<xs.length:=by
 unfold i6 at h
 cases e:vU xs.length i with
 | none=>rw [e]at h; cases h
 | some j =>
  rw [e]at h
  obtain⟨h1,h2,h3,h4⟩:=zb e
  exact⟨j,h1,h,h2,h3,h4⟩
theorem au{α:Type}{xs:List α}{j:Nat}{v:α}(h:xs[j]? = some v):i6 xs (j:Int)=some v:=by
 have hj:j<xs.length:=(Um.mp h).1
 have e:vU xs.length (j:Int)=some j:=by
  unfold vU
  rw [if_pos (by omega),if_pos (by omega)]; simp
 unfold i6; rw [e]; exact h
theorem oF{α:Type}(xs:List α)(v:α):i6 (xs++[v]) (-1)=some v:=by
 have hl:(xs++[v]).length=xs.length+1:=by simp
 have e:vU (xs++[v]).length (-1)=some xs.length:=by
  unfold vU
  rw [hl,if_neg (by decide),if_pos (by omega)]
  congr 1
  omega
 unfold i6
 rw [e]
 show(xs++[v])[xs.length]? = some v
 simp
def m5(b:Expr):Prop:=∀o i,subscripted b false o i=operate [o,i] (getItem o i)
def Mg(X:Cx)(r:R2):Prop :=
 ∀(value slice:Expr) (pins:List (Addr×Obj)) (s:Shared) (σ:St) (H:Hp) (x y:V) (v u:Value) (Q:VK),Inv X pins σ H s->RelV x v->RelV y u->r x y H Q->
  subscripted slice false v u=operate [v,u] (getItem v u)->wpAny (model X.prog X.w) X.A (subscriptTail value slice v u) (EP X pins σ Q) X.xe s
def PU(X:Cx)(id:String)(r:V->List V->Hp->VK->Prop):Prop :=
 ∀(pins:List (Addr×Obj)) (s:Shared) (σ:St) (H:Hp) (x:V) (xs:List V) (v:Value) (us:List Value) (Q:VK),Inv X pins σ H s->RelV x v->Vals xs us->r x xs H Q->
  wpAny (model X.prog X.w) X.A (call (.builtin id) (v::us)) (EP X pins σ Q) X.xe s
section
variable{X:Cx}{a b:Expr}{ta tb:TE}{pos:Pos}
theorem fX{r:R2}(hr:Mg X r)(ha:PE X a ta)(hb:PE X b tb)(hs:m5 b):PE X (.Subscript a b pos) (gB r ta tb):=by
 intro pins s σ H Q I h
 exact Subscript_ (H_ ha hb I h λv u s2 x y H2 I2 rx ry q=>hr a b pins s2 σ H2 x y v u Q I2 rx ry q (hs _ _))
def xJ(K:UJ):R2:=λx y H Q=>∃p xs i v,x=.ref p/\y=.int i/\a_ K H p xs/\i6 xs i=some v/\Q v H
def sj(K:UJ):R2:=λx y H Q=>∃p xs i v,x=.ref p/\y=.int i/\aH K H p xs/\i6 xs i=some v/\Q v H
def OB:R2:=λx y H Q=>∃z i c,x=.str z/\y=.int i/\z.length<=sizeLine/\i6 z.cps.toList i=some c/\Q (.str ⟨#[c]⟩) H
theorem fE:Mg X (xJ X.K):=by
 intro value slice pins s σ H x y v u Q I rx ry h hs
 obtain⟨p,xs,i,z,rfl,rfl,hq,he,q⟩:=h
 cases rx
 obtain⟨t,rfl⟩:=ry
 obtain⟨its,r,pl,hz⟩:=I.list hq
 obtain⟨j,h1,h2,h3,h4,h5⟩:=sH he
 obtain⟨w,ew,xh⟩:=r.get h2
 have hl:=r.length
 have hn:=lE
 have fin:EP X pins σ Q w s:=⟨z,H,I,xh,q⟩
 by_cases h0:0<=i
 ·have hj:i.toNat=j:=by
   rw [seqIndex_of h0 h5]at h1
   exact Uv h1
  exact item_listR pl.isList h0 (by omega) (by rw [hj]; simpa using ew) fin hs
 ·have hj:(i+(its.toArray.size:Int)).toNat=j:=by
   rw [seqIndex_neg (by omega) h4]at h1
   rw [Ul,←hl]
   exact Uv h1
  exact subscriptTail_builtinR (x:=w) pl.isList.typeIs slot_list_getitem.lookup
   (wpAny_getItem_list_neg (Q:=λr s'=>r=w/\EP X pins σ Q r s') pl.isList (by omega) (by rw [Ul] <;> omega) (by omega) (by rw [hj]; simpa using ew) ⟨rfl,fin⟩) hs
theorem CJ:Mg X (sj X.K):=by
 intro value slice pins s σ H x y v u Q I rx ry h hs
 obtain⟨p,xs,i,z,rfl,rfl,hq,he,q⟩:=h
 cases rx
 obtain⟨t,rfl⟩:=ry
 obtain⟨its,r,pl,hz⟩:=I.tuple hq
 obtain⟨j,h1,h2,h3,h4,h5⟩:=sH he
 obtain⟨w,ew,xh⟩:=r.get h2
 have hl:=r.length
 have hn:=lE
 have fin:EP X pins σ Q w s:=⟨z,H,I,xh,q⟩
 exact subscriptTail_builtinR (x:=w) pl.typeIs slot_tuple_getitem.lookup
  (getItem_tuple (j:=j) (Q:=λr s'=>r=w/\EP X pins σ Q r s') pl (by omega) (by omega) (by rw [Ul,←hl]; exact h1) (by simpa using ew) ⟨rfl,fin⟩) hs
theorem Io:Mg X OB:=by
 intro value slice pins s σ H x y v u Q I rx ry h hs
 obtain⟨z,i,c,rfl,rfl,hz,he,q⟩:=h
 obtain⟨t,rfl⟩:=rx
 obtain⟨t',rfl⟩:=ry
 obtain⟨j,h1,h2,h3,h4,h5⟩:=sH he
 have hl:z.cps.toList.length=z.length:=by simp [Str.length]
 rw [hl]at h1 h4 h5
 have hn:=lE
 exact tail_any (typeIs_str s z t) slot_str_getitem.lookup (getItem_str (c:=c) (by
  have e1:decide (i < -(2 ^ 63:Int))=false:=T9 (by omega)
  have e2:decide (i≥2 ^ 63)=false:=T9 (by omega)
  rw [e1,e2,Bool.or_false]) (by rw [h1]; simpa using h2) ⟨.str ⟨#[c]⟩,H,I.tok _,⟨_,rfl⟩,q⟩) hs
theorem wY(its:List Value)(n j:Nat)(u:Value):Obj.mapSeq (·.setIfInBounds j u) {cls:=.type "list",data:=.seq its.toArray n} ={cls:=.type "list",data:=.seq (its.set j u).toArray n}:=by
 simp [Obj.mapSeq]
theorem Inv.lst{pins:List (Addr×Obj)}{σ:St}{H:Hp}{s:Shared}{p:Addr}{xs:List V}(I:Inv X pins σ H s)(h:H p=some (.lst xs)) :
  ∃(its:List Value) (n:Nat),Vals xs its/\s.heap.get? p=some {cls:=.type "list",data:=.seq its.toArray n}/\xs.length<=sizeLine:=by
 obtain⟨z,its,n,r,e⟩:=I.hok p _ h
 exact⟨its,n,r,e,z⟩
theorem Inv.Jy{pins:List (Addr×Obj)}{σ:St}{H:Hp}{s:Shared}{p:Addr}{xs ys:List V}{its its':List Value}{n n':Nat}{f:Obj->Obj}(I:Inv X pins σ H s)(h:H p=some (.lst xs))
  (ho:s.heap.get? p=some {cls:=.type "list",data:=.seq its.toArray n}) (hf:f {cls:=.type "list",data:=.seq its.toArray n} ={cls:=.type "list",data:=.seq its'.toArray n'}) (r:Vals ys its') (hz:ys.length<=sizeLine) (t:Nat) :
  Inv X pins σ (upd H p (.lst ys)) {s with heap:=s.heap.update p f,toks:=t}:=by
 have e:(s.heap.update p f).get? p=some {cls:=.type "list",data:=.seq its'.toArray n'}:=by
  rw [Heap.get?_update_self f ho (by rw [hf] <;> rfl),hf]
 refine I.write (x:=p) (e:=p) (by rw [h]; trivial) (.inl rfl) (λb u hb q=>(Heap.get?_update_other _ _ (Ne.symm hb)).trans q) ⟨_,e⟩ ?_
 exact⟨hz,its',n',r,e⟩
def Lq:V->V->V->Hp->(Hp->Prop)->Prop:=λo i v H Q=>∃p xs k j,o=.ref p/\i=.int k/\H p=some (.lst xs)/\vU xs.length k=some j/\Q (upd H p (.lst (xs.set j v)))
theorem set_list:LG X Lq:=by
 intro pins s σ H o i v ov iv u Q I ro ri rv h
 obtain⟨p,xs,k,j,rfl,rfl,hp,hj,q⟩:=h
 cases ro
 obtain⟨t,rfl⟩:=ri
 obtain⟨its,n,r,ho,hz⟩:=I.lst hp
 obtain⟨h1,h2,h3,h4⟩:=zb hj
 have hl:=r.length
 have hn:=lE
 have I':Inv X pins σ (upd H p (.lst (xs.set j v))) {s with heap:=s.heap.update p (Obj.mapSeq (·.setIfInBounds j u))} :=
  I.Jy hp ho (wY its n j u) (r.set rv j) (by rw [List.length_set]; exact hz) s.toks
 by_cases h0:0<=k
 ·have hk:k.toNat=j:=by
   rw [seqIndex_of h0 h4]at h1
   exact Uv h1
  exact PySem.W.ki_setAt ho h0 (by omega) (by rw [Ul,←hl]; exact h4) (by rw [hk]; exact⟨_,I',q⟩)
 ·have hk:(k+(its.toArray.size:Int)).toNat=j:=by
   rw [seqIndex_neg (by omega) h3]at h1
   rw [Ul,←hl]
   exact Uv h1
  exact PySem.W.ki_setBack ho (by omega) (by rw [Ul,←hl]; exact h3) (by omega) (by rw [hk]; exact⟨_,I',q⟩)
theorem tD(lo hi:Option Int)(n:Nat):(sliceBounds lo hi none n).1=((HT.dH n 0 lo:Nat):Int)/\(sliceBounds lo hi none n).2.1=((HT.dH n n hi:Nat):Int)/\(sliceBounds lo hi none n).2.2=1:=by
 refine⟨?_,?_,rfl⟩
 ·cases lo with
  | none=>simp [sliceBounds,HT.dH]
  | some i =>
   simp only [sliceBounds,HT.dH,Option.getD_none,show(1:Int) > 0 by decide,if_true]
   by_cases h:i<0
   ·simp only [h,if_true] <;> omega
   ·simp only [h,if_false] <;> omega
 ·cases hi with
  | none=>simp [sliceBounds,HT.dH]
  | some i =>
   simp only [sliceBounds,HT.dH,Option.getD_none,show(1:Int) > 0 by decide,if_true]
   by_cases h:i<0
   ·simp only [h,if_true] <;> omega
   ·simp only [h,if_false] <;> omega
theorem qf(its:List Value)(lo hi:Option Int):slicePick its.toArray lo hi none=((its.drop (HT.dH its.length 0 lo)).take (HT.dH its.length its.length hi-HT.dH its.length 0 lo)).toArray:=by
 obtain⟨h1,h2,h3⟩:=tD lo hi its.toArray.size
 unfold slicePick
 rw [h1,h2,h3]
 simp only [sliceRange_one,pick_run,Ul] <;> rfl
def KO(K:UJ):V->Option Int->Option Int->Hp->VK->Prop:=λx lo hi H Q=>∃a xs,x=.ref a/\a_ K H a xs/\∀p,H p=none->Q (.ref p) (upd H p (.lst (gb xs lo hi)))
theorem FO:EK X (KO X.K):=by
 intro pins s σ H x v vl vu lo hi sl Q I rx hs pl pu h
 obtain⟨a,xs,rfl,hx,q⟩:=h
 cases rx
 obtain⟨its,r,ht,hz⟩:=I.list hx
 have hlen:=r.length
 refine⟨"list",_,slot_list_getitem.lookup,ht.isList.typeIs,?_⟩
 refine wpAny_getItem_list_slice ht.isList hs pl pu .none (by simp) ?_ (by rw [Ul] <;> omega)
 rw [qf,←hlen]
 refine⟨.ref s.heap.objs.size,_,I.laid (t':=s.toks) (o:=.lst (gb xs lo hi)) (λb ob q=>T4 _ q) (T7 _) ?_,rfl,q _ (I.hok.fresh (T7 _))⟩
 exact⟨T8 (mj xs lo hi) hz,_,0,(r.drop (HT.dH xs.length 0 lo)).take (HT.dH xs.length xs.length hi-HT.dH xs.length 0 lo),T6 _ rfl⟩
def fo:V->Bool
 | .non=>true
 | .bl _=>true
 | .int _=>true
 | .str _=>true
 | _=>false
def EV:V->V->Bool
 | .non,.non=>true
 | .bl a,.bl b=>a==b
 | .bl a,.int b=>(if a then 1 else 0)==b
 | .int a,.bl b=>a==(if b then 1 else 0)
 | .int a,.int b=>a==b
 | .str a,.str b=>a==b
 | _,_=>false
theorem HA{A:Around}{s:Shared}{y x:V}{u v:Value}(ry:RelV y u)(rx:RelV x v)(fy:fo y=true)(fx:fo x=true):SeqAt.EqAt A s u v (EV y x):=by
 cases y with
 | non =>
  cases ry
  cases x with
  | non=>cases rx; exact SeqAt.EqAt.same _
  | bl b=>cases rx; exact SeqAt.EqAt.none_bool b
  | int b=>obtain⟨t,rfl⟩:=rx; exact SeqAt.EqAt.none_int b t
  | str b=>obtain⟨t,rfl⟩:=rx; exact SeqAt.EqAt.none_str b t
  | _=>exact absurd (show false=true from fx) Uk
 | bl a =>
  cases ry
  cases x with
  | non=>cases rx; exact SeqAt.EqAt.bool_none a
  | bl b=>cases rx; exact SeqAt.EqAt.bool_bool a b
  | int b=>obtain⟨t,rfl⟩:=rx; exact SeqAt.EqAt.bool_int a b t
  | str b=>obtain⟨t,rfl⟩:=rx; exact SeqAt.EqAt.bool_str a b t
  | _=>exact absurd (show false=true from fx) Uk
 | int a =>
  obtain⟨t',rfl⟩:=ry
  cases x with
  | non=>cases rx; exact SeqAt.EqAt.int_none a t'
  | bl b=>cases rx; exact SeqAt.EqAt.int_bool a t' b
  | int b=>obtain⟨t,rfl⟩:=rx; exact SeqAt.EqAt.int_int a t' b t
  | str b=>obtain⟨t,rfl⟩:=rx; exact SeqAt.EqAt.int_str a t' b t
  | _=>exact absurd (show false=true from fx) Uk
 | str a =>
  obtain⟨t',rfl⟩:=ry
  cases x with
  | non=>cases rx; exact SeqAt.EqAt.str_none a t'
  | bl b=>cases rx; exact SeqAt.EqAt.str_bool a t' b
  | int b=>obtain⟨t,rfl⟩:=rx; exact SeqAt.EqAt.str_int a t' b t
  | str b=>obtain⟨t,rfl⟩:=rx; exact SeqAt.EqAt.str_str a t' b t
  | _=>exact absurd (show false=true from fx) Uk
 | _=>exact absurd (show false=true from fy) Uk
def xn(x:V)(u:Value):Bool:=match u with
 | .none=>EV .non x
 | .bool b=>EV (.bl b) x
 | .int i _=>EV (.int i) x
 | .str z _=>EV (.str z) x
 | _=>false
theorem Ct{x y:V}{u:Value}(r:RelV y u)(f:fo y=true):xn x u=EV y x:=by
 cases y with
 | non=>cases r; rfl
 | bl b=>cases r; rfl
 | int i=>obtain⟨t,rfl⟩:=r; rfl
 | str z=>obtain⟨t,rfl⟩:=r; rfl
 | _=>exact absurd (show false=true from f) Uk
theorem ly{x:V}:∀{xs:List V} {us:List Value},Vals xs us->xs.all fo=true->us.any (xn x)=xs.any λy=>EV y x
 | _,_,.nil,_=>rfl
 | y::xs,u::us,.cons r t,f=>by
  rw [List.all_cons,UH]at f
  rw [List.any_cons,List.any_cons,Ct r f.1,ly t f.2]
theorem jo{A:Around}{s:Shared}{x:V}{v:Value}(rx:RelV x v)(fx:fo x=true):∀{xs:List V} {us:List Value},Vals xs us->xs.all fo=true->∀u∈us,SeqAt.EqAt A s u v (xn x u)
 | _,_,.nil,_=>λu hu=>by cases hu
 | y::xs,u::us,.cons r t,f=>λu' hu=>by
  rw [List.all_cons,UH]at f
  rcases Uq.mp hu with rfl | hu
  ·rw [Ct r f.1]; exact HA r rx f.1 fx
  ·exact jo rx fx t f.2 u' hu
def inV(x:V)(xs:List V):Bool:=xs.any λy=>EV y x
def GB(K:UJ)(neg:Bool):R2:=λx y H Q=>∃p xs,y=.ref p/\(a_ K H p xs\/aH K H p xs)/\fo x=true/\xs.all fo=true/\Q (.bl (if neg then !inV x xs else inV x xs)) H
theorem cp:i3 X (compareOp .In) (GB X.K false):=by
 intro pins s σ H x y v u Q I rx ry h
 obtain⟨p,xs,rfl,hq,fx,fs,q⟩:=h
 cases ry
 rcases hq with hq | hq
 ·obtain⟨its,r,pl,hz⟩:=I.list hq
  refine SeqAt.in_listAt (xn x) pl.isList (λw hw=>jo rx fx r fs w (by simpa using hw)) ⟨.bl _,H,I,rfl,?_⟩
  rw [show its.toArray.any (xn x)=its.any (xn x) by simp,ly r fs]
  exact q
 ·obtain⟨its,r,pl,hz⟩:=I.tuple hq
  refine SeqAt.in_tupleAt (xn x) pl (λw hw=>jo rx fx r fs w (by simpa using hw)) ⟨.bl _,H,I,rfl,?_⟩
  rw [show its.toArray.any (xn x)=its.any (xn x) by simp,ly r fs]
  exact q
theorem iH:i3 X (compareOp .NotIn) (GB X.K true):=by
 intro pins s σ H x y v u Q I rx ry h
 obtain⟨p,xs,rfl,hq,fx,fs,q⟩:=h
 cases ry
 rcases hq with hq | hq
 ·obtain⟨its,r,pl,hz⟩:=I.list hq
  refine SeqAt.notIn_listAt (xn x) pl.isList (λw hw=>jo rx fx r fs w (by simpa using hw)) ⟨.bl _,H,I,rfl,?_⟩
  rw [show its.toArray.any (xn x)=its.any (xn x) by simp,ly r fs]
  exact q
 ·obtain⟨its,r,pl,hz⟩:=I.tuple hq
  refine SeqAt.notIn_tupleAt (xn x) pl (λw hw=>jo rx fx r fs w (by simpa using hw)) ⟨.bl _,H,I,rfl,?_⟩
  rw [show its.toArray.any (xn x)=its.any (xn x) by simp,ly r fs]
  exact q
theorem bF:fk X (.builtin "len") (λxs H Q=>∃p ys,xs=[.ref p]/\(a_ X.K H p ys\/aH X.K H p ys)/\Q (.int ys.length) H):=by
 intro pins s σ H xs us Q I r h
 obtain⟨p,ys,rfl,hq,q⟩:=h
 obtain⟨u,rfl,rx⟩:=vals1 r
 cases rx
 have hn:=lE
 rcases hq with hq | hq
 ·obtain⟨its,r',pl,hz⟩:=I.list hq
  have hlen:=r'.length
  exact Calls.call_len_list pl.isList (by simp only [Ul] <;> omega) ⟨.int ys.length,H,I.tok _,⟨s.toks+1,by rw [Ul,hlen]⟩,q⟩
 ·obtain⟨its,r',pl,hz⟩:=I.tuple hq
  have hlen:=r'.length
  exact len_tuple pl (by simp only [Ul] <;> omega) ⟨.int ys.length,H,I.tok _,⟨s.toks+1,by rw [Ul,hlen]⟩,q⟩
theorem lh:fk X (.type "list") (λxs H Q=>∃p ys,xs=[.ref p]/\(a_ X.K H p ys\/aH X.K H p ys)/\∀l,H l=none->Q (.ref l) (upd H l (.lst ys))):=by
 intro pins s σ H xs us Q I r h
 obtain⟨p,ys,rfl,hq,q⟩:=h
 obtain⟨u,rfl,rx⟩:=vals1 r
 cases rx
 have fin:∀(its:List Value),Vals ys its->ys.length<=sizeLine->∀(h':Heap) (c':Nat),(∀b o',s.heap.get? b=some o'->h'.get? b=some o')->
   h'.get? s.heap.objs.size=some {cls:=.type "list",dict:=none,data:=.seq its.toArray c',slots:=#[]}->EP X pins σ Q (.ref s.heap.objs.size) {s with heap:=h'}:=λits r' hz h' c' kp e =>
  ⟨.ref s.heap.objs.size,_,I.laid (t':=s.toks) kp (T7 _) (show cq X.prog X.w _ h' _ (.lst ys) from⟨hz,its,c',r',e⟩),rfl,q _ (I.hok.fresh (T7 _))⟩
 rcases hq with hq | hq
 ·obtain⟨its,r',pl,hz⟩:=I.list hq
  have hlen:=r'.length
  obtain⟨o,ho,hc,n,hd⟩:=pl.isList
  exact call_list_seq p (.inl rfl) ho hc hd (λh' c' kp e=>fin its r' hz h' c' kp e) (by simp only [Ul] <;> omega)
 ·obtain⟨its,r',pl,hz⟩:=I.tuple hq
  have hlen:=r'.length
  obtain⟨o,ho,hc,n,hd⟩:=pl
  exact call_list_seq p (.inr rfl) ho hc hd (λh' c' kp e=>fin its r' hz h' c' kp e) (by simp only [Ul] <;> omega)
theorem bB:fk X (.type "tuple") (λxs H Q=>∃p ys,xs=[.ref p]/\((a_ X.K H p ys/\∀l,H l=none->Q (.ref l) (upd H l (.tup ys)))\/(aH X.K H p ys/\Q (.ref p) H))):=by
 intro pins s σ H xs us Q I r h
 obtain⟨p,ys,rfl,h⟩:=h
 obtain⟨u,rfl,rx⟩:=vals1 r
 cases rx
 rcases h with⟨hq,q⟩ | ⟨hq,q⟩
 ·obtain⟨its,r',pl,hz⟩:=I.list hq
  have hlen:=r'.length
  refine call_tuple_list pl.isList (λh' kp=>?_) (by simp only [Ul] <;> omega)
  have I1:Inv X pins σ H {s with heap:=h'}:=I.kept (t':=s.toks) kp
  have I2:Inv X pins σ (upd H h'.objs.size (.tup ys)) {s with heap:=h'.push {cls:=.type "tuple",data:=.seq its.toArray}} :=
   I1.laid (t':=s.toks) (λb o e=>T4 _ e) (T7 _) (show cq X.prog X.w _ _ _ (.tup ys) from⟨hz,its,r',gN.new _ _⟩)
  exact⟨.ref h'.objs.size,_,I2,rfl,q _ (I1.hok.fresh (T7 _))⟩
 ·obtain⟨its,r',pl,hz⟩:=I.tuple hq
  exact call_tuple_same pl ⟨.ref p,H,I,rfl,q⟩
def Pu(K:UJ)(T:String)(x:V)(H:Hp):Prop:=match x with
 | .str _=>T="str"
 | .int _=>T="int"
 | .ref p=>(T="list"/\∃xs,a_ K H p xs)\/(T="tuple"/\∃o,K.lookup p=some o/\o.cls=.type "tuple"/\o.dict=none)\/
   (T="dict"/\((∃kvs,H p=some (.dK kvs))\/∃kvs,H p=some (.dT kvs)))\/(T="set"/\∃S n,H p=some (.set S n))
 | _=>False
theorem Jk{pins:List (Addr×Obj)}{σ:St}{H:Hp}{s:Shared}{T:String}{x:V}{v:Value}(I:Inv X pins σ H s)(r:RelV x v)(ty:Pu X.K T x H) :
  s.TypeIs v T/\∀a,v=.ref a->∃ob,s.heap.get? a=some ob/\ob.dict=none:=by
 cases x with
 | str z =>
  obtain⟨t,rfl⟩:=r
  cases(show T="str" from ty)
  exact⟨typeIs_str s z t,λ_ e=>nomatch e⟩
 | int i =>
  obtain⟨t,rfl⟩:=r
  cases(show T="int" from ty)
  exact⟨typeIs_int s i t,λ_ e=>nomatch e⟩
 | ref p =>
  cases r
  rcases ty with⟨rfl,xs,hq⟩ | ⟨rfl,o,hk,hc,hd⟩ | ⟨rfl,hk⟩ | ⟨rfl,S,n,hk⟩
  ·obtain⟨its,_,pl,_⟩:=I.list hq
   refine⟨pl.isList.typeIs,λa e=>?_⟩
   cases e
   obtain⟨o,n,e,c,hd,_⟩:=pl
   exact⟨o,e,hd⟩
  ·refine⟨⟨o,I.jI p o hk,hc⟩,λa e=>?_⟩
   cases e
   exact⟨o,I.jI _ o hk,hd⟩
  ·have z:∃o,s.heap.get? p=some o/\o.ExactDict:=by
    rcases hk with⟨kvs,hk⟩ | ⟨kvs,hk⟩
    ·obtain⟨_,_,_,_,o,_,_,e,ex,_⟩:=I.hok p _ hk
     exact⟨o,e,ex⟩
    ·obtain⟨_,_,_,_,o,_,_,e,ex,_⟩:=I.hok p _ hk
     exact⟨o,e,ex⟩
   obtain⟨o,e,ex⟩:=z
   refine⟨⟨o,e,ex.1⟩,λa e2=>?_⟩
   cases e2
   exact⟨o,e,ex.2.1⟩
  ·obtain⟨o,_,_,_,e,ex,_⟩:=I.hok p _ hk
   refine⟨⟨o,e,ex.1⟩,λa e2=>?_⟩
   cases e2
   exact⟨o,e,ex.2.1⟩
 | _=>exact False.elim ty
def RV(K:UJ)(T:String)(r:V->List V->Hp->VK->Prop)(to:TE)(t:TA):TE:=λσ H Q=>to σ H λx H1=>Pu K T x H1/\t σ H1 λxs H2=>r x xs H2 Q
variable{o e:Expr}{es:List Expr}{to:TE}{t:TA}{name:Str}{apos cpos:Pos}{T id:String}{r:V->List V->Hp->VK->Prop}
theorem ll(pa:PlainAttrs T)(slot:Slot T name id)(hty:typeOf (.builtin id)=pure (.type "method_descriptor"))(hm:PU X id r)(ho:PE X o to)(ha:PA X (e::es) t)
  (hbase:attributeBase o name X.env (eval o X.env)=eval o X.env:=by rfl)
  (hfew:((backTo cpos (starEach (e::es) X.env)).all (λx=>!x.1)&&(backToKw cpos (keywordEach [] X.env)).all (λx=>x.1.isSome)
   && decide ((e::es).length+([]:List Keyword).length+(if([]:List Keyword).isEmpty then 0 else 1)<30))=true:=by rfl)
  (hline:(apos.endLine==cpos.line)=true:=by rfl) (hs:starEach (e::es) X.env=(false,eval e X.env)::starEach es X.env:=by rfl) (hplain:(backTo cpos (starEach es X.env)).any (·.1)=false:=by rfl) :
  PE X (.Call (.Attribute o name apos) (e::es) [] cpos) (RV X.K T r to t):=by
 intro pins s σ H Q I h
 refine wpAny_Call_method_late hbase hfew hline rfl (b_ (ho pins s σ H _ I h) λv s1 ⟨x,H1,I1,r1,ty,q1⟩=>?_)
 obtain⟨h1,h2⟩:=Jk I1 r1 ty
 refine⟨T,id,pa,slot,hty,h1,h2,?_⟩
 have hA:=ha cpos pins s1 σ H1 _ I1 q1
 rw [hs]at hA⊢
 refine Calls.callWith_builtin (by show(false||(backTo cpos (starEach es X.env)).any (·.1))=false; rw [hplain] <;> rfl) (Calls.evalArgs_plain ?_)
 exact b_ hA λus s2 ⟨vs,H2,I2,r2,q2⟩=>hm pins s2 σ H2 x vs v us Q I2 r1 r2 q2
end
def S8(X:Cx)(id:String)(r:V->List V->Hp->VK->Prop):Prop :=
 ∀(pins:List (Addr×Obj)) (s:Shared) (σ:St) (H:Hp) (x:V) (xs:List V) (v:Value) (us:List Value) (Q:VK),Inv X pins σ H s->RelV x v->Vals xs us->r x xs H Q->
  wpAny (model X.prog X.w) X.A (call (.builtin id) (v::us)) (EP X pins σ Q) X.xe s
theorem Vals.one:∀{x:V} {us:List Value},Vals [x] us->∃u,us=[u]/\RelV x u
 | _,_,.cons r .nil=>⟨_,rfl,r⟩
theorem Vals.rep{xs:List V}{us:List Value}(h:Vals xs us):∀k:Nat,Vals (List.replicate k xs).flatten (List.replicate k us).flatten
 | 0=>.nil
 | k+1=>by
  rw [List.replicate_succ,List.replicate_succ,List.flatten_cons,List.flatten_cons]
  exact Vals.append h (Vals.rep h k)
theorem foldl_rep(its:List Value):∀(k:Nat) (acc:List Value),
  List.foldl (λx1 x2=>x1++x2) acc.toArray (List.replicate k its.toArray)=(acc++(List.replicate k its).flatten).toArray
 | 0,acc=>by simp
 | k+1,acc=>by
  have e:acc.toArray++its.toArray=(acc++its).toArray:=by simp
  have e2:(acc++its)++(List.replicate k its).flatten=acc++(List.replicate (k+1) its).flatten:=by
   rw [List.replicate_succ,List.flatten_cons,List.append_assoc]
  rw [←e2,←foldl_rep its k (acc++its),←e,List.replicate_succ,List.foldl_cons]
section
variable{X:Cx}{pins:List (Addr×Obj)}{σ:St}{H:Hp}{s:Shared}{l b:Addr}{xs ys zs:List V}
theorem Inv.N9{its its':List Value}{n:Nat}{f:Array Value->Array Value}{t':Nat}(I:Inv X pins σ H s)(hH:H l=some (.lst xs))
  (e:s.heap.get? l=some {cls:=.type "list",data:=.seq its.toArray n}) (hf:f its.toArray=its'.toArray) (hv:Vals ys its') (hz:ys.length<=sizeLine) :
  Inv X pins σ (upd H l (.lst ys)) {s with heap:=s.heap.update l (Obj.mapSeq f),toks:=t'}:=by
 have q:=PySem.IsL.update e f
 rw [hf]at q
 refine I.write (x:=l) (e:=l) (by rw [hH]; exact trivial) (.inl rfl) (λb' u hb hu=>(Heap.get?_update_other s.heap (Obj.mapSeq f) (Ne.symm hb)).trans hu) ⟨_,q⟩ ?_
 exact⟨hz,its',_,hv,q⟩
theorem Inv.LO{its:List Value}{t':Nat}(I:Inv X pins σ H s)(hv:Vals ys its)(hz:ys.length<=sizeLine) :
  Inv X pins σ (upd H s.heap.objs.size (.lst ys)) {s with heap:=s.heap.push {cls:=.type "list",data:=.seq its.toArray},toks:=t'} :=
 I.laid (λ_ _ q=>T4 _ q) (T7 _) ⟨hz,its,0,hv,T6 _ rfl⟩
theorem Inv.fresh(I:Inv X pins σ H s):H s.heap.objs.size=none:=I.hok.fresh (T7 _)
theorem Inv.Ek(I:Inv X pins σ H s)(hH:H l=some (.lst xs)):xs.length<=sizeLine/\∃(its:List Value) (n:Nat),Vals xs its/\xs.length=its.length/\s.heap.get? l=some {cls:=.type "list",data:=.seq its.toArray n}:=by
 obtain⟨z,its,n,r,e⟩:=I.hok l _ hH
 exact⟨z,its,n,r,r.length,e⟩
theorem Ca{n:Nat}(h:n<=sizeLine):Builtin.List.listTooLong n=false:=by
 unfold Builtin.List.listTooLong
 exact T9 (by omega)
end
section
variable{X:Cx}
def m8:V->List V->Hp->VK->Prop:=λx vs H Q=>∃l xs y,x=.ref l/\vs=[y]/\H l=some (.lst xs)/\xs.length<sizeLine/\Q .non (upd H l (.lst (xs++[y])))
theorem cX:S8 X "list.append" m8:=by
 intro pins s σ H x vs v us Q I rx rv h
 obtain⟨l,xs,y,rfl,rfl,hH,hz,q⟩:=h
 cases rx
 obtain⟨u,rfl,ru⟩:=rv.one
 obtain⟨z,its,n,r,hl,e⟩:=I.Ek hH
 refine call_meets F.slot_list_append ⟨_,e,rfl⟩ F.entry_list_append (F.args_list_append_2 _ _) (PySem.list_append l its.toArray n u (by rw [Ul]; omega)) ⟨e,?_⟩
 refine⟨.non,_,I.N9 (its':=its++[u]) hH e (by simp) (r.append (.cons ru .nil)) ?_,rfl,q⟩
 rw [Ub,List.length_singleton]
 omega
def NF:R2:=λx y H Q=>∃l b xs zs,x=.ref l/\y=.ref b/\H l=some (.lst xs)/\H b=some (.lst zs)/\xs.length+zs.length<=sizeLine/\∀p,H p=none->Q (.ref p) (upd H p (.lst (xs++zs)))
theorem pk:i3 X (binaryOp .Add) NF:=by
 intro pins s σ H x y v u Q I rx ry h
 obtain⟨l,b,xs,zs,rfl,rfl,hH,hB,hz,q⟩:=h
 cases rx
 cases ry
 obtain⟨z,its,n,r,hl,e⟩:=I.Ek hH
 obtain⟨z2,its2,n2,r2,hl2,e2⟩:=I.Ek hB
 refine PySem.P.add_list e e2 ?_ (by rw [Ul,Ul]; omega)
 have ea:its.toArray++its2.toArray=(its++its2).toArray:=by simp
 rw [ea]
 exact⟨.ref _,_,I.LO (t':=s.toks) (r.append r2) (by rw [Ub]; omega),rfl,q _ I.fresh⟩
def OV:R2:=λx y H Q=>∃l k xs,x=.ref l/\y=.int k/\H l=some (.lst xs)/\-(2 ^ 63)<=k/\k<2 ^ 63/\xs.length*k.toNat<=sizeLine/\
 ∀p,H p=none->Q (.ref p) (upd H p (.lst (List.replicate k.toNat xs).flatten))
theorem len_rep{α:Type}(xs:List α)(k:Nat):(List.replicate k xs).flatten.length=k*xs.length:=by
 induction k with
 | zero=>simp
 | succ k ih=>rw [List.replicate_succ,List.flatten_cons,Ub,ih,Nat.succ_mul,Nat.add_comm]
theorem xM:i3 X (binaryOp .Mult) OV:=by
 intro pins s σ H x y v u Q I rx ry h
 obtain⟨l,k,xs,rfl,rfl,hH,h1,h2,hz,q⟩:=h
 cases rx
 obtain⟨t,rfl⟩:=ry
 obtain⟨z,its,n,r,hl,e⟩:=I.Ek hH
 have hlen:its.toArray.size*k.toNat<=sizeLine:=by rw [Ul,←hl]; exact hz
 have Pc:¬its.toArray.size*k.toNat > (2 ^ 63-1) / 8:=by
  have:(sizeLine:Nat)<=(2 ^ 63-1) / 8:=by decide
  omega
 have hfit:¬(!Builtin.List.listFitsIndex k)=true:=by
  rw [fitsIndex_both h1 h2]
  exact Uk
 have K4:¬Builtin.List.listTooLong (its.toArray.size*k.toNat)=true:=by
  rw [Ca hlen]
  exact Uk
 have hnew:List.foldl (λx1 x2=>x1++x2) #[] (List.replicate (if its.toArray.isEmpty=true then 0 else k.toNat) its.toArray)=(List.replicate k.toNat its).flatten.toArray:=by
  have f0:∀m:Nat,List.foldl (λx1 x2=>x1++x2) #[] (List.replicate m its.toArray)=(List.replicate m its).flatten.toArray:=λm=>by
   have:=foldl_rep its m []
   rw [List.nil_append]at this
   exact this
  rw [f0]
  cases its with
  | nil=>simp
  | cons a r'=>rw [if_neg (by simp)]
 refine wpAny_binaryOp_repeat_ref (T:="list") (U:="int") (by decide) ⟨_,e,rfl⟩ (λs'=>typeIs_int s' k t) noFill_list_mul F.fills_int_mul F.slot_int_rmul repeat_list F.slot_int_index.lookup
  (call_meets F.slot_int_rmul (typeIs_int s k t) F.entry_int_rmul (F.args_int_rmul_2 _ _) (int___rmul___int_list k t l its.toArray n)
   ⟨e,rfl,⟨_,e,rfl⟩,call_meets F.slot_list_mul ⟨_,e,rfl⟩ F.entry_list_mul (F.args_list_mul_2 _ _) (AutoListH.list___mul___list_int_3 l its.toArray n k t hfit Pc K4) ⟨e,?_⟩⟩)
 rw [hnew]
 exact⟨.ref _,_,I.LO (t':=s.toks) (r.rep k.toNat) (by rw [len_rep,Nat.mul_comm]; exact hz),rfl,q _ I.fresh⟩
end
end L2
namespace Att
open PySem PySem.W PySem.Calls PyProof.Rows
theorem mL{P:Params}{h:Heap}:∀(ns:List Int) (vs:List Value),WellAll P h vs (ns.map WData.int)->IntsAre vs ns:=by
 intro ns
 induction ns with
 | nil =>
  intro vs w
  rw [List.map_nil]at w
  cases w
  exact .nil
 | cons n ns ih =>
  intro vs w
  rw [List.map_cons]at w
  cases w with
  | cons a b =>
   cases a
   exact .cons _ _ (ih _ b)
theorem AI{l:OpenLaw}{n:Nat}(hn:l.most=some n){P:Params}{h:Heap}{args:List WData}{vals:List Value}
  (hpre:l.row.toRowW.claim.pre args=true) (hwl:WellAll P h vals args) :
  ∃a vs ns,vals=[Value.ref a]/\args=[WData.list (ns.map WData.int)]/\h.get? a=some {cls:=.type "list",data:=.seq vs.toArray}/\IntsAre vs ns/\ns.length<=n:=by
 have hsh:WShape.hasAll [] args [.list .int]=true:=(pre_splitW hpre).1
 have hc:l.pre.holds [] {args:=args}=true:=(pre_splitW hpre).2
 obtain⟨d,r,rfl,h1,h2⟩:=hasAllW_cons hsh
 obtain rfl:=hasAllW_nil h2
 obtain⟨xs,rfl,h3⟩:=hasW_list h1
 obtain⟨ns,rfl⟩:=items_int h3
 have hlen:ns.length<=n:=by
  unfold OpenLaw.pre at hc
  have h4:(WTm.not (.lt (.lit (.int (n:Int))) (.len (.arg 0)))).holds [] {args:=[.list (ns.map .int)]}=true:=by
   have h4:=(holds_andW hc).1
   rw [hn]at h4
   exact h4
  have h5:=condW_of h4 (w_not (w_lt w_lit (w_len_list (w_arg rfl))))
  rw [Ua]at h5
  refine Nat.le_of_not_lt λq=>?_
  have q':(n:Int)<((ns.length:Nat):Int):=by omega
  first
   | (rw [T_ q']at h5; exact absurd h5 (by decide))
   | (simp at h5; omega)
 cases hwl with
 | cons w1 w2 =>
  cases w2
  cases w1 with
  | list ho hall=>exact⟨_,_,ns,rfl,rfl,ho,mL ns _ hall,hlen⟩
theorem zr(l:OpenLaw)(args:List WData):l.row.toRowW.claim.post args (.bool true) args=true :=
 postW_of (r:=l.row.toRowW) (X:=(true==true))
  (show WShape.has [] (.bool true) .bool=true by first | rfl | decide | simp [WShape.has,WShape.arms,WShape.armsAll])
  (show(WTm.eq .res (.lit (.bool true))).value [] {args:=args,res:=some (.bool true),after:=args}=some (.bool (true==true)) from w_eq_bool (w_res rfl) w_lit) rfl
theorem ux{l:OpenLaw}{n:Nat}{q:Program}{loose:List Str}{XP:(Str->Option Value)->Heap->Prop}{YP:World->Heap->Prop}{d:DefRec}
  (hn:l.most=some n) (hdf:d.params.defaults=[])
  (call:∀(w:World) (s₀ s₁:Shared) (mg mb:Str->Option Value) (fa:Addr) (o:Obj) (pm cd doc:Value) (a:Addr) (vs:List Value) (ns:List Int),
   Ground q loose [] XP w s₀ mg mb s₁.heap->YP w s₁.heap->
   s₁.heap.get? fa=some o->o.data=.func (docDef d.name d.params d.body d.scope pm cd doc)->s₁.heap.CodeRec cd d.name->mg d.name=some (.ref fa)->
   s₁.heap.get? a=some {cls:=.type "list",data:=.seq vs.toArray}->IntsAre vs ns->ns.length<=n->s₁.gens = #[]->
   codeAny (model l.prog w) callerA (.call (.ref fa) ⟨[.ref a],[]⟩) (λr s'=>r=.ok (.ret (.bool true))/\OldK s₁.heap s'.heap/\s'.os=s₁.os/\AllBare s'.gens) s₁) :
  WalkO q loose XP YP l.row.toRowW d [] (λf vs=>PySem.call f vs):=by
 intro w s₀ s₁ mg mb G Y fa o pm cd doc dV kV ho hd hcd hD hmg hg args vals as hpre hlay hrd hwl hlo
 obtain rfl:dV=.none:=Dflts.none hD hdf
 obtain rfl:kV=.none:=Dflts.noKw hD
 obtain⟨a,vs,ns,rfl,rfl,hobj,hints,hlen⟩:=AI hn hpre hwl
 refine enter_call (codeAny_mono (call w s₀ s₁ mg mb fa o pm cd doc a vs ns G Y ho (fd_plain hd) hcd hmg hobj hints hlen hg) λr s' hq=>?_)
 obtain⟨rfl,h2,h3,h4⟩:=hq
 exact⟨.inl ⟨.bool true,.bool true,[],rfl,λ_=>rfl,.bool true,zr l _,λ_=>⟨List.Pairwise.nil,λ_ hm=>(nomatch hm)⟩⟩,h2,h3,h4⟩
end Att
namespace L2
open PySem PySem.Spec PyProof.Rows
theorem rk:∀{vs:List Value} {ns:List Int},IntsAre vs ns->Vals (ns.map V.int) vs
 | _,_,.nil=>.nil
 | _,_,.cons n t h=>.cons ⟨t,rfl⟩ (rk h)
def Only(H:Hp):Prop:=∀b,H b=none\/∃o xs,H b=some (.xo o (.lst xs))
theorem DU{P:Program}{w:World}{K:UJ}{mg mb:Str->Option Value}{CX:q5}{k:Nat}{fa a:Addr}{fd:FuncData}{x:Str}{sp:Sp}{s₁:Shared}{vs:List Value}{ns:List Int}
  (KX:K.In s₁.heap) (hns:s₁.heap.Ns mainGlobals mg) (hb:s₁.heap.Ns builtinsNs mb) (hbb:∀x:Str,x≠"__name__"->mb x=bootBuiltins x) (hlim:s₁.heap.NoLimit) (hg:s₁.gens = #[])
  (ha:s₁.heap.get? a=some {cls:=.type "list",data:=.seq vs.toArray}) (hi:IntsAre vs ns) (hl:ns.length<=sizeLine) (hr:eJ k callerA)
  (F:∀base:Heap,K.In base->base.Ns mainGlobals mg->eZ P w K mg base CX k fa fd [x] sp) (hbind:∀(s:Shared) (u:Value),BindsTo s fd ⟨[u],[]⟩ [(x,u)])
  (hsp:∀H:Hp,Only H->a_ K H a (ns.map V.int)->sp [.ref a] H (λv _=>v=.bl true) λ_ _ _=>False)
  (N_:∀H e s',CX [] H s₁ (λ_ _ _=>False) e s'->False) :
  codeAny (model P w) callerA (.call (.ref fa) ⟨[.ref a],[]⟩) (λr s'=>r=.ok (.ret (.bool true))/\OldK s₁.heap s'.heap/\s'.os=s₁.os/\AllBare s'.gens) s₁:=by
 have rv:=rk hi
 have lenV:=hi.length
 have core:∀H:Hp,Only H->a_ K H a (ns.map V.int)->i7 P w H s₁.heap->(∀b,H b≠none->b=a)->(H a≠none->K.lookup a=none)->
   codeAny (model P w) callerA (.call (.ref fa) ⟨[.ref a],[]⟩) (λr s'=>r=.ok (.ret (.bool true))/\OldK s₁.heap s'.heap/\s'.os=s₁.os/\AllBare s'.gens) s₁:=by
  intro H hO hS hok hA hK
  have zd:∀{b:Addr} {o:Obj},s₁.heap.get? b=some o->H b=none->(sY s₁.heap H).get? b=some o:=λe n=>B5 e n
  have LR:∀{b:Addr} {o:Obj} {es:Array DictEntry} {ep:Nat},s₁.heap.get? b=some o->o.data=.dict es ep->H b=none:=λ{b o es ep} e d=>by
   cases q:H b with
   | none=>rfl
   | some u =>
    have e':b=a:=hA b (by rw [q]; simp)
    subst e'
    rw [ha]at e; cases e
    have d':Data.seq vs.toArray _=Data.dict es ep:=d
    cases d'
  have MY:∀{b:Addr} {m:Str->Option Value},s₁.heap.Ns b m->(sY s₁.heap H).Ns b m:=λ{b m} ⟨o,es,ep,e,d,r⟩=>⟨o,es,ep,zd e (LR e d),d,r⟩
  have Qs:K.In (sY s₁.heap H):=λb o e=>zd (KX b o e) (by
   cases q:H b with
   | none=>rfl
   | some u =>
    have e':b=a:=hA b (by rw [q]; simp)
    subst e'
    rw [hK (by rw [q]; simp)]at e; cases e)
  have hM:Mod K mg (sY s₁.heap H):=⟨Qs,MY hns,⟨mb,MY hb,hbb⟩,let ⟨mc,h1,h2⟩:=hlim; ⟨mc,MY h1,h2⟩⟩
  have e0:v7 P w K mg (sY s₁.heap H) callerA [] s₁ H:=⟨rfl,hM,λb o e=>E_ e,Nat.le_of_eq (Al _ _),trivial,λb hb=>absurd (show b∈([]:List Addr) from hb) (by simp),hok,.of_eq hg⟩
  refine codeAny_mono ((F _ Qs (MY hns)).run callerA [] s₁ H ⟨[.ref a],[]⟩ [.ref a] [.ref a] _ _ hr e0 (hbind s₁ (.ref a)) (.cons rfl .nil) (hsp H hO hS)) λr s' h=>?_
  cases r with
  | error e=>exact(N_ H e s' h).elim
  | ok fl =>
   cases fl with
   | next=>exact False.elim h
   | brk=>exact False.elim h
   | cont=>exact False.elim h
   | ret u =>
    obtain⟨v,H',os,bare,un,hok',r',q⟩:=h
    have q':v=.bl true:=q
    subst q'
    obtain rfl:u=Value.bool true:=r'
    refine⟨rfl,OldK.of_keep λb o e=>?_,os,bare⟩
    cases q:H b with
    | none=>exact un.keep b o e q (by intro z; exact absurd (show b∈([]:List Addr) from z) (by simp)) (by simp)
    | some u =>
     rcases hO b with z | ⟨ob,xs,z⟩
     ·rw [q]at z; cases z
     ·have z2:=un.oG b ob _ z
      obtain⟨e1,_⟩:=hok b _ z
      obtain⟨e2,_⟩:=hok' b _ z2
      rw [e]at e1; cases e1
      exact e2
 cases hk:K.lookup a with
 | some o =>
  have e:=KX a o hk
  rw [ha]at e
  cases e
  refine core (λ_=>none) (λ_=>.inl rfl) (.inr ⟨_,vs.toArray,_,hk,rfl,rfl,rfl,by rw [Ul,lenV]; exact hl,by simpa using rv⟩) (λb u z=>by have z':(none:Option HO)=some u:=z; cases z') (λb z=>absurd rfl z) λz=>absurd rfl z
 | none =>
  refine core (λb=>if b=a then some (.xo {cls:=.type "list",data:=.seq vs.toArray} (.lst (ns.map V.int)))else none) (λb=>?_) (.inl (.inr ⟨{cls:=.type "list",data:=.seq vs.toArray},if_pos rfl⟩)) (λb u z=>?_) (λb z=>?_) λ_=>hk
  ·by_cases hb:b=a
   ·exact .inr ⟨_,_,if_pos hb⟩
   ·exact .inl (if_neg hb)
  ·by_cases hb:b=a
   ·have z':=(if_pos hb).symm.trans z
    cases z'
    subst hb
    exact⟨ha,by rw [Ua]; exact hl,vs,_,rv,ha⟩
   ·have z':=(if_neg hb).symm.trans z
    cases z'
  ·by_cases hb:b=a
   ·exact hb
   ·exact absurd (if_neg hb) z
theorem Fg{l:PySem.W.OpenLaw}{n k:Nat}{q:Program}{loose:List Str}{XP:(Str->Option Value)->Heap->Prop}{YP:World->Heap->Prop}{d:DefRec}{K:Params->UJ}{CX:World->q5}{sp:World->Sp}{x:Str}
  (hn:l.most=some n) (hn2:n<=sizeLine) (hdf:d.params.defaults=[]) (hr:eJ k callerA)
  (hY:∀(w:World) (h:Heap),YP w h->(K w.params).In h)
  (F:∀(w:World) (mg:Str->Option Value) (fa:Addr) (h:Heap),(K w.params).In h->h.Ns mainGlobals mg->mg d.name=some (.ref fa)->
   ∃fd:FuncData,(∀(s:Shared) (u:Value),BindsTo s fd ⟨[u],[]⟩ [(x,u)])/\
    ∀base:Heap,(K w.params).In base->base.Ns mainGlobals mg->eZ l.prog w (K w.params) mg base (CX w) k fa fd [x] (sp w))
  (hsp:∀(w:World) (H:Hp) (a:Addr) (ns:List Int),ns.length<=n->Only H->a_ (K w.params) H a (ns.map V.int)->sp w [.ref a] H (λv _=>v=.bl true) λ_ _ _=>False)
  (N_:∀(w:World) (H:Hp) (s:Shared) (e:Value) (s':Shared),CX w [] H s (λ_ _ _=>False) e s'->False) :
  PySem.W.WalkO q loose XP YP l.row.toRowW d [] (λf vs=>PySem.call f vs):=by
 refine Att.ux hn hdf λw s₀ s₁ mg mb fa o pm cd doc a vs ns G Y ho hd hcd hmg hobj hints hlen hg=>?_
 have KX:=hY w _ Y
 obtain⟨fd,hb,hF⟩:=F w mg fa _ KX G.T.g hmg
 exact DU KX G.T.g G.T.b G.T.builtins G.T.nolimit hg hobj hints (T8 hlen hn2) hr hF hb (λH hO hS=>hsp w H a ns hlen hO hS) λH e s'=>N_ w H s₁ e s'
def dX(s:Stmt):Arguments:=match s with
 | .FunctionDef _ a _ _ _ _ _ _ _ _=>a
 | _=>{posonlyargs:=[],args:=[],vararg:=none,kwonlyargs:=[],kw_defaults:=[],kwarg:=none,defaults:=[]}
def cR(s:Stmt):List Stmt:=match s with
 | .FunctionDef _ _ b _ _ _ _ _ _ _=>b
 | _=>[]
def ar(s:Stmt):Scope:=match s with
 | .FunctionDef _ _ _ _ _ _ sc _ _ _=>sc
 | _=>{kind:=.function,names:=[],isGenerator:=false,isCoroutine:=false}
abbrev bf:q5:=λ_ _ _ _ _ _=>False
abbrev E0:XK:=λ_ _ _=>False
theorem uv{X:Cx}:Passes bf X E0:=λ_ _ _ _ _ _ _ h=>h.elim
structure AZ(K:UJ)(x qual:Str)(st:Stmt)(f:Addr)(fd:FuncData):Prop where
 ex:∃(oc:Value) (od:Option Addr) (kV doc pm:Value) (an:Option Addr) (cdv ct:Value) (osl:Array (Option Value)),
  fd=PySem.W.fnOf x qual (dX st) (cR st) (ar st) .none kV doc pm an cdv ct/\K.lookup f=some ⟨oc,od,.func fd,osl⟩/\PySem.W.codeIn K cdv qual=true
 kp:PySem.W.keepIn K (.ref f)=true
section
variable{P:Program}{w:World}{K:UJ}{mg:Str->Option Value}{base:Heap}
theorem AZ.ok{x qual:Str}{st:Stmt}{f:Addr}{fd:FuncData}{N ps:List Str}{k:Nat}{sp:Sp}(F:AZ K x qual st f fd)(S:ay N ps (ar st))(len:∀vs H Q E,sp vs H Q E->vs.length=ps.length)
  (hbody:∀(cdv:Value) (A:Around) (outer:List Env) (s:Shared) (H:Hp) (vs:List V) (Q:VK) (E:XK),eJ k (A.deeper (envOfC qual (ar st) s.heap.objs.size f cdv))->sp vs H Q E->
   ∃t,pL (qB bf P w K mg base N qual (ar st) f cdv A outer s H E).yz (cR st) t/\t {nx:=λ_ H'=>Q .non H',rt:=Q} (start N vs) H):eZ P w K mg base bf (k+1) f fd ps sp:=by
 obtain⟨oc,od,kV,doc,pm,an,cdv,ct,osl,rfl,lk,hcd⟩:=F.ex
 refine Hj lk hcd S len λA outer s H vs Q E hr hsp=>?_
 obtain⟨t,h,q⟩:=hbody cdv A outer s H vs Q E hr hsp
 exact⟨t,h.yz,q⟩
theorem AZ.binds{x qual:Str}{st:Stmt}{f:Addr}{fd:FuncData}{ps:List Str}(F:AZ K x qual st f fd)
  (h:∀(kV doc pm:Value) (an:Option Addr) (cdv ct:Value) (us:List Value),us.length=ps.length->bindArgs (PySem.W.fnOf x qual (dX st) (cR st) (ar st) .none kV doc pm an cdv ct) ⟨us,[]⟩=pure (ps.zip us)):Binds K fd ps []:=by
 obtain⟨oc,od,kV,doc,pm,an,cdv,ct,osl,rfl,lk,hcd⟩:=F.ex
 exact .all (h kV doc pm an cdv ct)
theorem yf{x qual:Str}{st:Stmt}{f:Addr}{oc:Value}{od an:Option Addr}{osl:Array (Option Value)}{kV doc pm cdv ct:Value}(l:K.lookup f=some ⟨oc,od,.func (PySem.W.fnOf x qual (dX st) (cR st) (ar st) .none kV doc pm an cdv ct),osl⟩)
  (c:PySem.W.codeIn K cdv qual=true) (k:PySem.W.keepIn K (.ref f)=true):AZ K x qual st f (PySem.W.fnOf x qual (dX st) (cR st) (ar st) .none kV doc pm an cdv ct):=⟨⟨oc,od,kV,doc,pm,an,cdv,ct,osl,rfl,l,c⟩,k⟩
end
theorem jY{A:Around}{k:Nat}(hr:eJ k A):A.units+1<cLine:=Ud (Nat.add_le_add_left (by decide:1<=64) _) hr.units
section
variable{X:Cx}
theorem pv(i:Nat){x:Str}{pos:Pos}(hN:X.N[i]? = some x:=by rfl)(hv:NX X.env.scope x:=by first | exact Or.inl rfl | exact Or.inr (Or.inl rfl) | exact Or.inr (Or.inr rfl))(hd:(x==("__debug__" : Str))=false:=by decide)
  (hcd:(x==("__classdict__" : Str))=false:=by decide):PE X (.Name x pos) (bx i):=xA hN hv hd hcd
end
theorem bA{A B:Prop}(h:B):if false=true then A else B:=by
 rw [if_neg Uk]
 exact h
theorem bZ{A B:Prop}(h:A):if true=true then A else B:=by
 rw [if_pos rfl]
 exact h
theorem cH{c A B:Prop} [Decidable c](h1:c->A)(h2:¬c->B):if c then A else B:=by
 by_cases h:c
 ·rw [if_pos h]
  exact h1 h
 ·rw [if_neg h]
  exact h2 h
def aM(H H':Hp):Prop:=∀b o,H b=some o->H' b=some o
theorem aM.refl(H:Hp):aM H H:=λ_ _ h=>h
theorem aM.trans{H H1 H2:Hp}(a:aM H H1)(b:aM H1 H2):aM H H2:=λc o h=>b c o (a c o h)
theorem aM.free{H H':Hp}(e:aM H H'){l:Addr}(h:H' l=Option.none):H l=Option.none:=by
 cases q:H l with
 | none=>rfl
 | some o =>
  rw [e l o q]at h
  cases h
theorem aM.seq{K:UJ}{H H':Hp}{a:Addr}{xs:List V}(e:aM H H')(h:a_ K H a xs):a_ K H' a xs:=by
 rcases h with(h | ⟨o,h⟩) | h
 ·exact .inl (.inl (e _ _ h))
 ·exact .inl (.inr ⟨o,e _ _ h⟩)
 ·exact .inr h
def bL(cells:List (Str×Addr)):List (Str×NameKind)->List (Str×Addr)->List (Str×Addr)
 | [],acc=>acc
 | (n,k)::r,acc=>bL cells r (if(k==NameKind.free)=true then(n,(cells.lookup n).getD 0)::acc else acc)
theorem rn{cells:List (Str×Addr)}{x:Str}{c:Addr}:∀{ns:List (Str×NameKind)} {acc:List (Str×Addr)},(x,c)∈bL cells ns acc->((x,NameKind.free)∈ns/\c=(cells.lookup x).getD 0)\/(x,c)∈acc
 | [],_,h=>.inr h
 | (n,k)::r,acc,h=>by
  have q:=rn (ns:=r) h
  rcases q with⟨q1,q2⟩ | q
  ·exact .inl ⟨Uj _ q1,q2⟩
  ·by_cases hk:(k==NameKind.free)=true
   ·rw [if_pos hk]at q
    have ek:k=NameKind.free:=by simpa using hk
    rcases Uq.mp q with e | q
    ·cases e
     subst ek
     exact .inl ⟨UE,rfl⟩
    ·exact .inr q
   ·rw [if_neg hk]at q
    exact .inr q
theorem qY{cells:List (Str×Addr)}{p:Str×Addr}:∀{ns:List (Str×NameKind)} {acc:List (Str×Addr)},p∈acc->p∈bL cells ns acc
 | [],_,h=>h
 | (n,k)::r,acc,h=>by
  refine qY (ns:=r) ?_
  split
  ·exact Uj _ h
  ·exact h
theorem rl{cells:List (Str×Addr)}{x:Str}:∀{ns:List (Str×NameKind)} {acc:List (Str×Addr)},(x,NameKind.free)∈ns->(x,(cells.lookup x).getD 0)∈bL cells ns acc
 | (n,k)::r,acc,h=>by
  rcases Uq.mp h with e | h
  ·cases e
   refine qY (ns:=r) ?_
   rw [if_pos (by rfl)]
   exact UE
  ·exact rl (ns:=r) h
theorem jS{x:Str}{c:Addr}:∀{l:List (Str×Addr)},(x,c)∈l->∃c',l.lookup x=some c'
 | (n,d)::r,h=>by
  rw [List.lookup_cons]
  cases e:x==n with
  | true=>exact⟨d,rfl⟩
  | false =>
   rcases Uq.mp h with q | q
   ·cases q
    simp at e
   ·exact jS q
theorem rE{env:Env}(f:(Str×NameKind)->List (Str×Addr)->Sem (ForInStep (List (Str×Addr))))(hf1:∀n acc c,env.cells.lookup n=some c->f (n,.free) acc=pure (.yield ((n,c)::acc)))
  (hf2:∀n k acc,(k==NameKind.free)=false->f (n,k) acc=pure (.yield acc)):∀(ns:List (Str×NameKind)) (acc:List (Str×Addr)),(∀y∈ns,y.2=.free->∃c,env.cells.lookup y.1=some c)->forIn ns acc f=pure (bL env.cells ns acc)
 | [],_,_=>rfl
 | (n,k)::r,acc,h=>by
  have ih:=λacc'=>rE f hf1 hf2 r acc' λy hy=>h y (Uj _ hy)
  rw [List.forIn_cons]
  cases hk:k==NameKind.free with
  | true =>
   have ek:k=NameKind.free:=by simpa using hk
   subst ek
   obtain⟨c,e⟩:=h (n,.free) UE rfl
   have e':env.cells.lookup n=some c:=e
   rw [hf1 n acc c e]
   show forIn r ((n,c)::acc) f=_
   rw [ih]
   show _=pure (bL env.cells r (if(NameKind.free==NameKind.free)=true then(n,(env.cells.lookup n).getD 0)::acc else acc))
   rw [if_pos (by rfl),e']
   rfl
  | false =>
   rw [hf2 n k acc hk]
   show forIn r acc f=_
   rw [ih]
   show _=pure (bL env.cells r (if(k==NameKind.free)=true then(n,(env.cells.lookup n).getD 0)::acc else acc))
   rw [if_neg (by rw [hk]; decide)]
theorem cY{scope:Scope}{env:Env}(h:∀y∈scope.names,y.2=.free->∃c,env.cells.lookup y.1=some c):closureFor scope env=pure (bL env.cells scope.names []):=by
 unfold closureFor
 show(forIn scope.names [] _ >>= _)=_
 rw [rE (env:=env) _ ?_ ?_ scope.names [] h]
 ·rfl
 ·intro n acc c e
  show(if(NameKind.free==NameKind.free)=true then _ else _)=_
  rw [if_pos (by rfl)]
  unfold cellOf
  rw [e]
  first | rfl | skip
 ·intro n k acc hk
  show(if(k==NameKind.free)=true then _ else _)=_
  rw [if_neg (by rw [hk]; decide)]
abbrev aK(X:Cx)(N':List Str)(sc:Scope)(cl:List (Str×Addr))(C:Addr)(s:Shared)(H:Hp)(fp:List Addr):Cx :=
 {X with N:=N',s₀:=s,H₀:=H,env:=compEnvC sc cl C X.env,outer:=X.stack,stack:=X.stack,ex:=fp,fn:=λx=>sc.names.lookup x==some NameKind.local,pn:=[],xe:=λ_ _=>False}
structure ba(Ed:Scope)(ON N':List Str)(src:List (Option Nat))(sc:Scope):Prop where
 kind:sc.kind=.function
 Qz:Ed.kind=.function
 uniq:∀y∈sc.names,sc.names.lookup y.1=some y.2
 oP:∀y∈sc.names,y.2≠ .cell
 free:∀y∈sc.names,y.2=.free->Ed.names.lookup y.1=some .cell\/Ed.names.lookup y.1=some .free
 len:src.length=N'.length
 src:∀(i:Nat) (x:Str) (j:Nat),N'[i]? = some x->src[i]? = some (some j)->ON[j]? = some x/\sc.names.lookup x=some .free
def jM(src:List (Option Nat))(σ:St):St:=src.map λo=>o.bind λj=>(σ[j]?).bind id
theorem Cq{src:List (Option Nat)}{σ:St}{i:Nat}{v:V}(h:(jM src σ)[i]? = some (some v)):∃j,src[i]? = some (some j)/\σ[j]? = some (some v):=by
 unfold jM at h
 rw [Uy]at h
 cases e:src[i]? with
 | none=>rw [e]at h; cases h
 | some o =>
  rw [e]at h
  cases o with
  | none=>cases h
  | some j =>
   have h':(σ[j]?).bind id=some v:=Uv h
   cases e2:σ[j]? with
   | none=>rw [e2]at h'; cases h'
   | some w =>
    rw [e2]at h'
    have h'':w=some v:=h'
    exact⟨j,rfl,by rw [e2,h'']⟩
def i4(X:Cx)(ifs:List Expr)(t:TT):Prop :=
 ∀(pins:List (Addr×Obj)) (s:Shared) (σ:St) (H:Hp) (Q:Bool->Hp->Prop),Inv X pins σ H s->t σ H Q->
  wpAny (model X.prog X.w) X.A (forIn ifs true λc r=>if r=true then do let ok←isTrue c X.env (eval c X.env); pure (ForInStep.yield ok)else pure (ForInStep.yield r)) (TP X pins σ Q) X.xe s
def KD:TT:=λ_ H Q=>Q true H
theorem aX{X:Cx}:i4 X [] KD:=λ_ _ _ H _ I h=>wpAny_tests_nil ⟨H,I,h⟩
theorem oO{X:Cx}{c:Expr}{t:TT}(h:PT X c t):i4 X [c] t:=λpins s σ H Q I q=>wpAny_tests_one (h pins s σ H Q I q)
def pU(J:It)(g:TG)(tc:TT)(te:TE)(D:Addr)(Q:VK)(W:Nat->Nat->St->List V->Hp->Prop):Prop :=
 ∀i m σ ys H,W i m σ ys H->H D=some (.lst ys)/\((J.stop i H/\Q (.ref D) H)\/(J.go i H/\ys.length<sizeLine/\∃N:St->List V->Hp->Prop,(∀σ' ys' H',N σ' ys' H'->∃m',m'<m/\W (i+1) m' σ' ys' H')/\
  ∀x H',J.E6 i H x H'->g x σ H' λde H2=>tc de H2 λb H3 =>
   if b=true then te de H3 λv H4=>H4 D=some (.lst ys)/\N de (ys++[v]) (upd H4 D (.lst (ys++[v])))else N de ys H3))
def BW(src:List (Option Nat))(wi:TI)(g:TG)(tc:TT)(te:TE):TE:=λσ H Q=>wi σ H λJ H1=>∀D,H1 D=none->
 ∃W:Nat->Nat->St->List V->Hp->Prop,(∃m,W 0 m (jM src σ) [] (upd H1 D (.lst [])))/\pU J g tc te D Q W
section
variable{X:Cx}{elt target iter:Expr}{ifs:List Expr}{sc:Scope}{pos:Pos}{wi:TI}{g:TG}{tc:TT}{te:TE}{N':List Str}{src:List (Option Nat)}
theorem zg{it acc:Value}{env:Env}{prog:Program}{w:World}{A:Around}{s:Shared}{R:Result->Shared->Prop}(Iv:Nat->Shared->Prop)
  (turn:∀n s,Iv n s->wpAny (model prog w) A (pyNext it) (λr s₁=>match r with
   | none=>R (.ok .next) s₁
   | some v=>wpAny (model prog w) A (letOwnedTupleGo target it v) (λ_ s₁'=>wpAny (model prog w) A (assign target env v) (λ_ s₂ =>
     wpAny (model prog w) A (forIn ifs true λc r=>if r=true then do let ok←isTrue c env (eval c env); pure (ForInStep.yield ok)else pure (ForInStep.yield r)) (λok s₃ =>
      if ok=true then wpAny (model prog w) A (eval elt env) (λx s₄ =>
       wpAny (model prog w) A (call (.builtin "list.append") [acc,x]) (λ_ s₅=>∃m,m<n/\Iv m s₅) (λ_ _=>False) s₄) (λ_ _=>False) s₃
      else∃m,m<n/\Iv m s₃) (λ_ _=>False) s₂) (λ_ _=>False) s₁') (λ_ _=>False) s₁) (λ_ _=>False) s)
  (n:Nat) (h:Iv n s) :
  codeAny (model prog w) A (.compLoop (.ListComp elt [⟨target,iter,ifs,0⟩] sc pos) 0 it acc env) R s:=by
 refine codeAny_loop rfl Iv (λn s hI=>?_) n h
 show wpAny _ A ((compTurn (.ListComp elt [⟨target,iter,ifs,0⟩] sc pos) 0 it acc env).onRaise (λx=>do noteFrame x env; theTreesLotGoes x)) _ _ s
 refine wpAny_noted ?_
 rw [compTurn_list]
 refine TZ (wpAny_standAt (TZ (UB (turn n s hI) (λr s₁ h₁=>?_) λ_ _ h'=>h'.elim)))
 cases r with
 | none=>exact T1 h₁
 | some v =>
  refine TZ (UB h₁ (λ_ s₁' h₁'=>TZ (UB h₁' (λ_ s₂ h₂=>TZ (UB h₂ (λok s₃ h₃=>?_) λ_ _ h'=>h'.elim)) λ_ _ h'=>h'.elim)) λ_ _ h'=>h'.elim)
  cases ok with
  | false=>exact T1 ⟨rfl,h₃⟩
  | true =>
   exact TZ (TZ (UB h₃ (λx s₄ h₄=>TZ (UB h₄ (λ_ s₅ h₅=>T1 (T1 ⟨rfl,h₅⟩)) λ_ _ h'=>h'.elim)) λ_ _ h'=>h'.elim))
theorem iI{pins:List (Addr×Obj)}{σ:St}{H:Hp}{s:Shared}{h1:Heap}{fp:List Addr}(S:ba X.env.scope X.N N' src sc)(I:Inv X pins σ H s)(f2:∀b∈fp,dz X pins H b)(o2:∀b∈fp,b<s.heap.objs.size)
  (ns:h1.Ns s.heap.objs.size λx=>(([]:List (Str×Value)).reverse.lookup x)) (sb:Heap.SameBut s.heap.objs.size (s.heap.push {cls:=.type "dict",data:=.dict #[]}) h1) {tk:Nat} :
  Inv (aK X N' sc (bL X.env.cells sc.names []) s.heap.objs.size s H fp) [] (jM src σ) H {s with heap:=h1,toks:=tk}:=by
 have old:∀b o,s.heap.get? b=some o->h1.get? b=some o:=λb o e=>(sb.2 b (Ut (T5 e))).trans (T4 _ e)
 have clo:∀x c,(bL X.env.cells sc.names []).lookup x=some c->X.env.cells.lookup x=some c/\sc.names.lookup x=some .free:=λx c e=>by
  rcases rn (mem_of_lookup e)with⟨m,q⟩ | z
  ·obtain⟨c',e'⟩:=I.ok.has x (S.free _ m rfl)
   rw [e']at q
   exact⟨by rw [e',q]; rfl,S.uniq _ m⟩
  ·cases z
 have HY:∀x,sc.names.lookup x=some .free->∃c,(bL X.env.cells sc.names []).lookup x=some c:=λx e=>jS (rl (mem_of_lookup e))
 have kinds:∀(x:Str) (k:NameKind),(relabel sc X.env).names.lookup x=some k->(k=.cell\/k=.free)->sc.names.lookup x=some .free:=λx k e hk=>by
  have gen:∀ns:List (Str×NameKind),(∀y∈ns,y.2≠ .cell)->(ns.map λ(n,k)=>if(k==NameKind.free&&X.env.scope.kind == .function&&X.env.kindOf n==some .cell)then(n,NameKind.cell)else(n,k)).lookup x=some k->ns.lookup x=some .free:=by
   intro ns
   induction ns with
   | nil=>intro _ h; cases h
   | cons y r ih =>
    obtain⟨n,k1⟩:=y
    intro hn h
    rw [List.map_cons]at h
    dsimp only at h
    by_cases hc:(k1==NameKind.free&&X.env.scope.kind == .function&&X.env.kindOf n==some .cell)=true
    ·rw [if_pos hc,List.lookup_cons]at h
     rw [List.lookup_cons]
     cases hx:x==n with
     | true =>
      have:k1=NameKind.free:=by
       cases hk1:k1==NameKind.free with
       | true=>simpa using hk1
       | false=>rw [hk1]at hc; simp at hc
      rw [this]
     | false=>rw [hx]at h; exact ih (λy hy=>hn y (Uj _ hy)) h
    ·rw [if_neg hc,List.lookup_cons]at h
     rw [List.lookup_cons]
     cases hx:x==n with
     | true =>
      rw [hx]at h
      have h':k1=k:=Uv h
      rcases hk with hk | hk
      ·exact absurd (h'.trans hk) (hn (n,k1) UE)
      ·show some k1=_
       rw [h',hk]
     | false=>rw [hx]at h; exact ih (λy hy=>hn y (Uj _ hy)) h
  exact gen sc.names S.oP e
 have Lu:∀x,sc.names.lookup x=some .free->(relabel sc X.env).names.lookup x=some .cell\/(relabel sc X.env).names.lookup x=some .free:=λx e=>by
  have gen:∀ns:List (Str×NameKind),ns.lookup x=some .free->(ns.map λ(n,k)=>if(k==NameKind.free&&X.env.scope.kind == .function&&X.env.kindOf n==some .cell)then(n,NameKind.cell)else(n,k)).lookup x=some .cell\/
    (ns.map λ(n,k)=>if(k==NameKind.free&&X.env.scope.kind == .function&&X.env.kindOf n==some .cell)then(n,NameKind.cell)else(n,k)).lookup x=some .free:=by
   intro ns
   induction ns with
   | nil=>intro h; cases h
   | cons y r ih =>
    obtain⟨n,k1⟩:=y
    intro h
    rw [List.map_cons]
    dsimp only
    rw [List.lookup_cons]at h
    by_cases hc:(k1==NameKind.free&&X.env.scope.kind == .function&&X.env.kindOf n==some .cell)=true
    ·rw [if_pos hc,List.lookup_cons]
     cases hx:x==n with
     | true=>exact .inl rfl
     | false=>rw [hx]at h; exact ih h
    ·rw [if_neg hc,List.lookup_cons]
     cases hx:x==n with
     | true =>
      rw [hx]at h
      exact .inr h
     | false=>rw [hx]at h; exact ih h
  exact gen sc.names e
 refine⟨⟨I.mod,?_,I.ok.glob,I.ok.blt,T7 _,λx y c h1 h2=>I.ok.inj x y c (clo x c h1).1 (clo y c h2).1,λx hx=>?_,λx c hf h=>?_,I.ok.hd,I.ok.frames,.inl rfl,λb hb=>⟨?_,λx c h=>?_⟩,I.bs,?_,λb o e hb=>?_,λb hb hs=>?_,I.stack,I.ni⟩,
  rfl,I.bare,Un.kept old,⟨_,ns,λi x v h1 h2 h3=>?_⟩,λx c h=>?_,I.hok.fresh (T7 _),λx c h=>I.fO x c (clo x c h).1,λp hp=>absurd (show p∈([]:List (Addr×Obj)) from hp) (by simp),I.hok.kept old,?_⟩
 ·show(relabel sc X.env).kind=.function
  exact S.kind
 ·obtain hx | hx:=hx
  ·exact HY x (kinds x _ hx (.inl rfl))
  ·exact HY x (kinds x _ hx (.inr rfl))
 ·have e2:=(clo x c h).2
  have hf':(sc.names.lookup x==some NameKind.local)=true:=hf
  rw [e2]at hf'
  cases hf'
 ·exact Ut (o2 b hb)
 ·exact(f2 b hb).2.2.2.2.1 x c (clo x c h).1
 ·exact T8 I.ok.AX I.sz
 ·rcases(f2 b hb).2.2.2.1 with z | z
  ·exact I.ok.uM b o e z
  ·exact absurd (Ue (T5 e) (T8 I.ok.AX z)) (Nat.lt_irrefl _)
 ·rcases Uq.mp (I.xB b hs)with z | z
  ·exact(f2 b hb).2.1 z
  ·exact(f2 b hb).2.2.1 z
 ·obtain⟨j,e1,e2⟩:=Cq h2
  obtain⟨e3,e4⟩:=S.src i x j h1 e1
  obtain⟨m,hn,hl⟩:=I.loc
  have kx:=S.free _ (mem_of_lookup e4) rfl
  obtain⟨u,ru,l⟩:=hl j x v e3 e2 (.inr kx)
  refine⟨u,ru,.inr ⟨Lu x e4,?_⟩⟩
  obtain⟨c,hc⟩:=HY x e4
  refine⟨c,hc,?_⟩
  have hc':=(clo x c hc).1
  rcases l with⟨lk,_⟩ | ⟨_,c',lc,z⟩
  ·have Ql:X.env.scope.names.lookup x=some .local:=lk
   rcases kx with q | q
   ·have q':X.env.scope.names.lookup x=some .cell:=q
    rw [Ql]at q'; cases q'
   ·have q':X.env.scope.names.lookup x=some .free:=q
    rw [Ql]at q'; cases q'
  ·rw [hc']at lc
   cases lc
   obtain⟨o,ho,hd⟩:=z
   exact⟨o,old _ _ ho,hd⟩
 ·obtain⟨v,o,ho,hd⟩:=I.cell x c (clo x c h).1
  exact⟨v,o,old _ _ ho,hd⟩
 ·show(jM src σ).length=N'.length
  unfold jM
  rw [Ua]
  exact S.len
theorem oE{pins:List (Addr×Obj)}{σ:St}{H2:Hp}{s2:Shared}{it:Addr}{fp:List Addr}{tn:Nat->Heap->Prop}{J:It}{Q:VK}{E:Value->Shared->Prop}{RR:Value->Addr->Result->Shared->Prop}
  (hc:X.calm=true) (S:ba X.env.scope X.N N' src sc)
  (hg:∀cl C s H fp,PG (aK X N' sc cl C s H fp) target g) (ht:∀cl C s H fp,i4 (aK X N' sc cl C s H fp) ifs tc) (he:∀cl C s H fp,PE (aK X N' sc cl C s H fp) elt te)
  (I2:Inv X pins σ H2 s2) (T:Turn X.prog X.w X.K target J fp it tn) (st2:tn 0 s2.heap) (f2:∀b∈fp,dz X pins H2 b)
  (hW:∀D,H2 D=none->∃W:Nat->Nat->St->List V->Hp->Prop,(∃m,W 0 m (jM src σ) [] (upd H2 D (.lst [])))/\pU J g tc te D Q W)
  (hRR:∀D C s5 H' m,Inv X pins σ H' s5->s5.heap.Ns C m->dz X pins H' C->Q (.ref D) H'->RR (.ref D) C (.ok .next) s5) :
  wpAny (model X.prog X.w) X.A (newList []) (λacc s₃=>wpAny (model X.prog X.w) X.A (newFunctionEnv sc X.env.globals (bL X.env.cells sc.names []) [] X.env.qual none .none (some X.env)) (λcenv s₄ =>
   codeAny (model X.prog X.w) X.A (.compStart (.ListComp elt [⟨target,iter,ifs,0⟩] sc pos) 0 (.ref it) acc {cenv with scope:=relabel sc X.env}) (RR acc cenv.locals) s₄) E s₃) E s2:=by
 have o2:∀b∈fp,b<s2.heap.objs.size:=λb hb=>by
  obtain⟨o,e,_⟩:=T.obj 0 _ st2 b hb
  exact T5 e
 refine UD ?_
 have Jz:H2 s2.heap.objs.size=none:=I2.hok.fresh (T7 _)
 obtain⟨W,⟨m0,w0⟩,turn⟩:=hW s2.heap.objs.size Jz
 have I3:Inv X pins σ (upd H2 s2.heap.objs.size (.lst [])) {s2 with heap:=s2.heap.push {cls:=.type "list",dict:=none,data:=.seq ([]:List Value).toArray}} :=
  I2.laid (t':=s2.toks) (λb u e=>T4 _ e) (T7 _) ⟨Uu _,[],0,.nil,T6 _ rfl⟩
 have st3:tn 0 (s2.heap.push {cls:=.type "list",dict:=none,data:=.seq ([]:List Value).toArray}):=T.keep 0 _ _ st2 λb hb o e=>T4 _ e
 generalize hs3:({s2 with heap:=s2.heap.push {cls:=.type "list",dict:=none,data:=.seq ([]:List Value).toArray}}:Shared)=s3 at I3
 have hh3:s3.heap=s2.heap.push {cls:=.type "list",dict:=none,data:=.seq ([]:List Value).toArray}:=by rw [←hs3]
 have Eb:s2.heap.objs.size<s3.heap.objs.size:=by rw [hh3,Heap.size_push]; exact Nat.lt_succ_self _
 have o3:∀b∈fp,b<s3.heap.objs.size:=λb hb=>Nat.lt_trans (o2 b hb) Eb
 have f3:∀b∈fp,dz X pins (upd H2 s2.heap.objs.size (.lst [])) b:=λb hb=>⟨by rw [aI (Ut (o2 b hb))]; exact(f2 b hb).1,(f2 b hb).2⟩
 rw [←hh3]at st3
 refine wpAny_newFunctionEnv S.oP (by intro y hy; simp at hy) (λh1 hns hsb=>?_) S.kind
 have hsb':Heap.SameBut s3.heap.objs.size (s3.heap.push {cls:=.type "dict",data:=.dict #[]}) h1:=hsb
 have I4:Inv (aK X N' sc (bL X.env.cells sc.names []) s3.heap.objs.size s3 (upd H2 s2.heap.objs.size (.lst [])) fp) [] (jM src σ) (upd H2 s2.heap.objs.size (.lst [])) {s3 with heap:=h1,toks:=s3.toks+([]:List (Str×Value)).length} :=
  iI S I3 f3 o3 hns hsb'
 have BC:tn 0 h1:=T.keep 0 _ _ st3 λb hb o e=>(hsb'.2 b (Ut (o3 b hb))).trans (T4 _ e)
 have fC:∀(H':Hp),H' s3.heap.objs.size=none->dz X pins H' s3.heap.objs.size:=λH' hn=>I3.lZ (T7 _) hn
 have loop:codeAny (model X.prog X.w) X.A (.compLoop (.ListComp elt [⟨target,iter,ifs,0⟩] sc pos) 0 (.ref it) (.ref s2.heap.objs.size) (compEnvC sc (bL X.env.cells sc.names []) s3.heap.objs.size X.env))
   (RR (.ref s2.heap.objs.size) s3.heap.objs.size) {s3 with heap:=h1,toks:=s3.toks+([]:List (Str×Value)).length}:=by
  have stat:∀{H':Hp},(∀b∈fp,H' b=none)->∀b∈fp,dz (aK X N' sc (bL X.env.cells sc.names []) s3.heap.objs.size s3 (upd H2 s2.heap.objs.size (.lst [])) fp) [] H' b:=λhn b hb =>
   ⟨hn b hb,(I4.ok.Ak b hb).1,I4.ok.oj b hb,.inl hb,(I4.ok.Ak b hb).2,λp hp=>absurd (show p∈([]:List (Addr×Obj)) from hp) (by simp)⟩
  refine zg (λn s'=>∃i σ' ys H',Inv (aK X N' sc (bL X.env.cells sc.names []) s3.heap.objs.size s3 (upd H2 s2.heap.objs.size (.lst [])) fp) [] σ' H' s'/\tn i s'.heap/\(∀b∈fp,H' b=none)/\W i n σ' ys H') ?_ m0
   ⟨0,_,[],_,I4,BC,λb hb=>(f3 b hb).1,w0⟩
  rintro n s5 ⟨i,mR,ys,H5,I5,uc,vX,w5⟩
  obtain⟨hD,alt⟩:=turn i n mR ys H5 w5
  rcases alt with⟨stop,qn⟩ | ⟨go,hsz,N,hN,step⟩
  ·refine b_ (T.done (aK X N' sc (bL X.env.cells sc.names []) s3.heap.objs.size s3 (upd H2 s2.heap.objs.size (.lst [])) fp) rfl rfl rfl hc i [] s5 mR H5 _ I5 (stat vX) uc stop) λr s6 ⟨hr,I6⟩=>?_
   subst hr
   obtain⟨m6,n6,_⟩:=id I6.loc
   refine hRR _ _ s6 H5 m6 (I3.call' I6.os I6.base I6.hok I6.bare λb hb=>⟨(f3 b hb).2.2.2.1,(f3 b hb).2.1,(f3 b hb).2.2.2.2.1,(f3 b hb).2.2.2.2.2⟩) n6 (fC _ I6.free) qn
  ·refine b_ (T.item (aK X N' sc (bL X.env.cells sc.names []) s3.heap.objs.size s3 (upd H2 s2.heap.objs.size (.lst [])) fp) rfl rfl rfl hc i [] s5 mR H5 _ I5 (stat vX) uc go) λr s6 ⟨u,hr,h6⟩=>?_
   subst hr
   refine b_ h6 λ_ s7 ⟨x,H7,I7,r7,y7,rP,F9⟩=>?_
   have Fh:=I7.pinned (stat F9) (T.obj _ _ rP)
   refine b_ (hg _ _ _ _ _ _ s7 mR H7 x u _ Fh r7 (step x H7 y7)) λ_ s8 ⟨ue,H8,I8,q8⟩=>?_
   refine b_ (ht _ _ _ _ _ _ s8 ue H8 _ I8 q8) λb s9 ⟨H9,I9,q9⟩=>?_
   have again:∀{σ':St} {H':Hp} {s':Shared} {ys':List V} {m':Nat},Inv (aK X N' sc (bL X.env.cells sc.names []) s3.heap.objs.size s3 (upd H2 s2.heap.objs.size (.lst [])) fp) ([]++jy fp s7.heap) σ' H' s'->m'<n->W (i+1) m' σ' ys' H'->
     ∃m,m<n/\∃i σ' ys H',Inv (aK X N' sc (bL X.env.cells sc.names []) s3.heap.objs.size s3 (upd H2 s2.heap.objs.size (.lst [])) fp) [] σ' H' s'/\tn i s'.heap/\(∀b∈fp,H' b=none)/\W i m σ' ys H':=λ{σ' H' s' ys' m'} I' hm w'=>by
    refine⟨m',hm,i+1,σ',ys',H',I'.gc,T.keep _ _ _ rP λb hb o e=>(I'.pin (b,o) (Uh _ (Uh _ (cL hb e)))).1,λb hb=>?_,w'⟩
    obtain⟨o,e,d⟩:=T.obj _ _ rP b hb
    exact(I'.pin (b,o) (Uh _ (Uh _ (cL hb e)))).2.1
   cases b with
   | false =>
    rw [if_neg Uk]at q9⊢
    obtain⟨m',hm,w'⟩:=hN _ _ _ q9
    exact again I9 hm w'
   | true =>
    rw [if_pos rfl]at q9⊢
    refine b_ (he _ _ _ _ _ _ s9 ue H9 _ I9 q9) λxv B9 ⟨v,Ad,K8,r10,Cg,w10⟩=>?_
    obtain⟨m',hm,w'⟩:=hN _ _ _ w10
    have Mj:m8 (.ref s2.heap.objs.size) [v] Ad λ_ H'=>H'=upd Ad s2.heap.objs.size (.lst (ys++[v])):=⟨_,ys,v,rfl,rfl,Cg,hsz,rfl⟩
    refine b_ (cX _ B9 ue Ad _ _ _ _ _ K8 (show RelV (.ref s2.heap.objs.size) (.ref s2.heap.objs.size) from rfl) (.cons r10 .nil) Mj) λ_ P7 ⟨_,NC,Ht,_,LW⟩=>?_
    rw [LW]at Ht
    exact again Ht hm w'
 exact codeAny_compStart_list loop (T.self _ 0 _ _ _ BC loop)
theorem bw(hc:X.calm=true)(S:ba X.env.scope X.N N' src sc)(hi:PI X target iter wi)
  (hg:∀cl C s H fp,PG (aK X N' sc cl C s H fp) target g) (ht:∀cl C s H fp,i4 (aK X N' sc cl C s H fp) ifs tc) (he:∀cl C s H fp,PE (aK X N' sc cl C s H fp) elt te)
  (hs:∀x,foldedSetIterable iter X.env x=pure x:=by intro _; rfl) :
  PE X (.ListComp elt [⟨target,iter,ifs,0⟩] sc pos) (BW src wi g tc te):=by
 intro pins s σ H Q I h
 rw [eval_ListComp]
 refine wpAny_comprehension_free (use:=none) rfl hs (cY λy hy hk=>I.ok.has y.1 (S.free y hy hk)) S.kind (λy hy hl=>by rw [←hl]; exact S.uniq y hy) ?_
 refine b_ (hi pins s σ H _ I h) λv s1 h1=>b_ h1 λitv s2 h2=>?_
 obtain⟨it,fp,tn,J,H2,e,I2,T,st2,f2,hW⟩:=h2
 subst e
 refine oE (Q:=Q) (RR:=λacc C=>compPost (model X.prog X.w) X.A X.xe none (EP X pins σ Q) acc C) hc S hg ht he I2 T st2 f2 hW ?_
 intro D C s5 H' m I5 n5 fC q
 refine⟨m,n5,λh' sb=>⟨.ref D,H',?_,rfl,q⟩⟩
 exact I5.turned (t':=s5.toks) (λb o hb e=>(sb.2 b hb).trans e) fC.1 fC.2.1 fC.2.2.2.1 fC.2.2.2.2.1 fC.2.2.2.2.2
theorem j7{i:Nat}{x:Str}{pos' spos:Pos}(hN:X.N.Nodup)(hi':X.N[i]? = some x)(hx:Loc X.env.scope x)(hsw:swapsWith (.ListComp elt [⟨target,iter,ifs,0⟩] sc pos) (some (.Name x pos')) spos.line X.env=pure true)
  (hc:X.calm=true) (S:ba X.env.scope X.N N' src sc) (hi:PI X target iter wi)
  (hg:∀cl C s H fp,PG (aK X N' sc cl C s H fp) target g) (ht:∀cl C s H fp,i4 (aK X N' sc cl C s H fp) ifs tc) (he:∀cl C s H fp,PE (aK X N' sc cl C s H fp) elt te)
  (hf:X.fn x=true\/X.env.scope.names.lookup x=some .local:=by first | exact .inl rfl | exact .inr rfl | assumption)
  (hs:∀x,foldedSetIterable iter X.env x=pure x:=by intro _; rfl) :
  PS X (.Assign [.Name x pos'] (.ListComp elt [⟨target,iter,ifs,0⟩] sc pos) spos) (C8 (BW src wi g tc te) (bz i)):=by
 intro pins s σ H D I h
 rw [exec_Assign_Name_used _ _ _ _ hsw]
 refine TZ (wpAny_standAt (TZ ?_))
 show wpAny _ _ (comprehension _ _ _ _ _ _ _ _ >>= _) _ _ s
 refine TZ (wpAny_comprehension_free (use:=some (assign (.Name x pos') X.env)) rfl hs (cY λy hy hk=>I.ok.has y.1 (S.free y hy hk)) S.kind (λy hy hl=>by rw [←hl]; exact S.uniq y hy) ?_)
 refine b_ (hi pins s σ H _ I h) λv s1 h1=>b_ h1 λitv s2 h2=>?_
 obtain⟨it,fp,tn,J,H2,e,I2,T,st2,f2,hW⟩:=h2
 subst e
 refine oE (Q:=λy H'=>D.nx (σ.set i (some y)) H') (RR:=λacc C=>compPost (model X.prog X.w) X.A X.xe (some (assign (.Name x pos') X.env)) _ acc C) hc S hg ht he I2 T st2 f2 hW ?_
 intro D' C s5 H' m I5 n5 fC q
 refine wpAny_assign_Name (lD I5 hN hi' hx (show RelV (.ref D') (.ref D') from rfl) (λs6 I6 hsb=>?_) hf)
 obtain⟨a,sb,ha⟩:=hsb
 have OG:C≠a:=by
  rcases ha with z | z
  ·rw [z]; exact fC.2.1
  ·exact λe=>fC.2.2.2.2.1 x a z e.symm
 refine⟨m,n5.sameBut sb OG,λh' NS=>?_⟩
 refine T1 (T1 ?_)
 exact⟨_,H',I6.turned (t':=s6.toks) (λb o hb e=>(NS.2 b hb).trans e) fC.1 fC.2.1 fC.2.2.2.1 fC.2.2.2.2.1 fC.2.2.2.2.2,q⟩
end
def yt(Ed:Scope)(ON N':List Str)(src:List (Option Nat))(sc:Scope):Bool :=
 sc.kind == .function&&Ed.kind == .function&&sc.names.all (λy=>sc.names.lookup y.1==some y.2&&y.2 != .cell&&(y.2 != .free||Ed.names.lookup y.1==some .cell||Ed.names.lookup y.1==some .free)) &&
 src.length==N'.length&&(N'.zip src).all λy=>match y.2 with | none=>true | some j=>ON[j]? == some y.1&&sc.names.lookup y.1==some .free
theorem ba.jE{Ed:Scope}{ON N':List Str}{src:List (Option Nat)}{sc:Scope}(h:yt Ed ON N' src sc=true):ba Ed ON N' src sc:=by
 unfold yt at h
 simp only [UH]at h
 obtain⟨⟨⟨⟨h1,h2⟩,h3⟩,h4⟩,h5⟩:=h
 have h3':=List.all_eq_true.mp h3
 have Q4:=List.all_eq_true.mp h5
 refine⟨by simpa using h1,by simpa using h2,λy hy=>?_,λy hy=>?_,λy hy hf=>?_,by simpa using h4,λi x j e1 e2=>?_⟩
 ·have:=h3' y hy
  simp only [UH]at this
  simpa using this.1.1
 ·have:=h3' y hy
  simp only [UH]at this
  simpa using this.1.2
 ·have:=h3' y hy
  simp only [UH,Bool.or_eq_true]at this
  rcases this.2 with(z | z) | z
  ·rw [hf]at z; exact absurd z (by decide)
  ·exact .inl (by simpa using z)
  ·exact .inr (by simpa using z)
 ·have m:(x,some j)∈N'.zip src:=by
   refine Ui (i:=i) ?_
   rw [List.getElem?_zip_eq_some]
   exact⟨e1,e2⟩
  have:=Q4 _ m
  simp only [UH]at this
  exact⟨by simpa using this.1,by simpa using this.2⟩
section
variable{g:TG}{tc:TT}{te:TE}{D:Addr}{Q:VK}{qC:St}{H0:Hp}
theorem iF{lo:Int}{n:Nat}(Pv:Nat->St->List V->Hp->Prop)(h0:Pv 0 qC [] H0)(hD:∀i σ ys H,i<=n->Pv i σ ys H->H D=some (.lst ys)/\ys.length<=i)(hz:n<=sizeLine)
  (hs:∀i σ ys H,i<n->Pv i σ ys H->g (.int (lo+i)) σ H λde H2=>tc de H2 λb H3=>if b=true then te de H3 λv H4=>H4 D=some (.lst ys)/\Pv (i+1) de (ys++[v]) (upd H4 D (.lst (ys++[v])))else Pv (i+1) de ys H3)
  (hd:∀σ ys H,Pv n σ ys H->Q (.ref D) H):∃W:Nat->Nat->St->List V->Hp->Prop,(∃m,W 0 m qC [] H0)/\pU (II lo n) g tc te D Q W:=by
 refine⟨λi m σ ys H=>m=n-i/\i<=n/\Pv i σ ys H,⟨n,by simp,Uu _,h0⟩,?_⟩
 rintro i m σ ys H ⟨rfl,hi,p⟩
 refine⟨(hD i σ ys H hi p).1,?_⟩
 by_cases hlt:i<n
 ·refine .inr ⟨hlt,Ud (hD i σ ys H hi p).2 (Ue hlt hz),Pv (i+1),λσ' ys' H' p'=>⟨n-(i+1),by omega,rfl,hlt,p'⟩,λx H' y=>?_⟩
  obtain⟨e,y⟩:=y
  subst e y
  exact hs i σ ys _ hlt p
 ·have e:i=n:=by omega
  subst e
  exact .inl ⟨T7 _,hd σ ys H p⟩
theorem dG{K:UJ}{a:Addr}{xs:List V}(Pv:Nat->St->List V->Hp->Prop)(h0:Pv 0 qC [] H0)(hD:∀i σ ys H,i<=xs.length->Pv i σ ys H->H D=some (.lst ys)/\ys.length<=i)(hl:∀i σ ys H,i<=xs.length->Pv i σ ys H->a_ K H a xs)(hz:xs.length<=sizeLine)
  (hs:∀i x σ ys H,xs[i]? = some x->Pv i σ ys H->g x σ H λde H2=>tc de H2 λb H3=>if b=true then te de H3 λv H4=>H4 D=some (.lst ys)/\Pv (i+1) de (ys++[v]) (upd H4 D (.lst (ys++[v])))else Pv (i+1) de ys H3)
  (hd:∀σ ys H,Pv xs.length σ ys H->Q (.ref D) H):∃W:Nat->Nat->St->List V->Hp->Prop,(∃m,W 0 m qC [] H0)/\pU (MX K a) g tc te D Q W:=by
 refine⟨λi m σ ys H=>m=xs.length-i/\i<=xs.length/\Pv i σ ys H,⟨xs.length,by simp,Uu _,h0⟩,?_⟩
 rintro i m σ ys H ⟨rfl,hi,p⟩
 have q:=hl i σ ys H hi p
 refine⟨(hD i σ ys H hi p).1,?_⟩
 by_cases hlt:i<xs.length
 ·refine .inr ⟨⟨xs,xs[i],q,by simp [hlt]⟩,Ud (hD i σ ys H hi p).2 (Ue hlt hz),Pv (i+1),λσ' ys' H' p'=>⟨xs.length-(i+1),by omega,rfl,hlt,p'⟩,λx H' y=>?_⟩
  obtain⟨e,y⟩:=y
  subst e
  exact hs i x σ ys _ (y xs q) p
 ·have e:i=xs.length:=by omega
  subst e
  exact .inl ⟨⟨xs,q,T7 _⟩,hd σ ys H p⟩
theorem cE{K:UJ}{a:Addr}{xs:List V}(Pv:Nat->St->List V->Hp->Prop)(h0:Pv 0 qC [] H0)(hD:∀i σ ys H,i<=xs.length->Pv i σ ys H->H D=some (.lst ys)/\ys.length<=i)(hl:∀i σ ys H,i<=xs.length->Pv i σ ys H->aH K H a xs)(hz:xs.length<=sizeLine)
  (hs:∀i x σ ys H,xs[i]? = some x->Pv i σ ys H->g x σ H λde H2=>tc de H2 λb H3=>if b=true then te de H3 λv H4=>H4 D=some (.lst ys)/\Pv (i+1) de (ys++[v]) (upd H4 D (.lst (ys++[v])))else Pv (i+1) de ys H3)
  (hd:∀σ ys H,Pv xs.length σ ys H->Q (.ref D) H):∃W:Nat->Nat->St->List V->Hp->Prop,(∃m,W 0 m qC [] H0)/\pU (Gq K a) g tc te D Q W:=by
 refine⟨λi m σ ys H=>m=xs.length-i/\i<=xs.length/\Pv i σ ys H,⟨xs.length,by simp,Uu _,h0⟩,?_⟩
 rintro i m σ ys H ⟨rfl,hi,p⟩
 have q:=hl i σ ys H hi p
 refine⟨(hD i σ ys H hi p).1,?_⟩
 by_cases hlt:i<xs.length
 ·refine .inr ⟨⟨xs,xs[i],q,by simp [hlt]⟩,Ud (hD i σ ys H hi p).2 (Ue hlt hz),Pv (i+1),λσ' ys' H' p'=>⟨xs.length-(i+1),by omega,rfl,hlt,p'⟩,λx H' y=>?_⟩
  obtain⟨e,y⟩:=y
  subst e
  exact hs i x σ ys _ (y xs q) p
 ·have e:i=xs.length:=by omega
  subst e
  exact .inl ⟨⟨xs,q,T7 _⟩,hd σ ys H p⟩
end
section
variable{X:Cx}{N':List Str}{sc:Scope}{cl:List (Str×Addr)}{C:Addr}{s:Shared}{H:Hp}{fp:List Addr}
theorem rO{env:Env}{x:Str}(e:sc.names.lookup x=some .free):(relabel sc env).names.lookup x=some .cell\/(relabel sc env).names.lookup x=some .free:=by
 have gen:∀ns:List (Str×NameKind),ns.lookup x=some .free->(ns.map λ(n,k)=>if(k==NameKind.free&&env.scope.kind == .function&&env.kindOf n==some .cell)then(n,NameKind.cell)else(n,k)).lookup x=some .cell\/
   (ns.map λ(n,k)=>if(k==NameKind.free&&env.scope.kind == .function&&env.kindOf n==some .cell)then(n,NameKind.cell)else(n,k)).lookup x=some .free:=by
  intro ns
  induction ns with
  | nil=>intro h; cases h
  | cons y r ih =>
   obtain⟨n,k1⟩:=y
   intro h
   rw [List.map_cons]
   dsimp only
   rw [List.lookup_cons]at h
   by_cases hc:(k1==NameKind.free&&env.scope.kind == .function&&env.kindOf n==some .cell)=true
   ·rw [if_pos hc,List.lookup_cons]
    cases hx:x==n with
    | true=>exact .inl rfl
    | false=>rw [hx]at h; exact ih h
   ·rw [if_neg hc,List.lookup_cons]
    cases hx:x==n with
    | true =>
     rw [hx]at h
     exact .inr h
    | false=>rw [hx]at h; exact ih h
 exact gen sc.names e
theorem fe{env:Env}{x:Str}{k:NameKind}(hk:(k==NameKind.free)=false)(e:sc.names.lookup x=some k):(relabel sc env).names.lookup x=some k:=by
 have gen:∀ns:List (Str×NameKind),ns.lookup x=some k->(ns.map λ(n,k)=>if(k==NameKind.free&&env.scope.kind == .function&&env.kindOf n==some .cell)then(n,NameKind.cell)else(n,k)).lookup x=some k:=by
  intro ns
  induction ns with
  | nil=>intro h; cases h
  | cons y r ih =>
   obtain⟨n,k1⟩:=y
   intro h
   rw [List.map_cons]
   dsimp only
   rw [List.lookup_cons]at h
   cases hx:x==n with
   | true =>
    rw [hx]at h
    have h':k1=k:=Uv h
    subst h'
    rw [if_neg (by rw [hk]; simp),List.lookup_cons,hx]
   | false =>
    rw [hx]at h
    split
    ·rw [List.lookup_cons,hx]; exact ih h
    ·rw [List.lookup_cons,hx]; exact ih h
 exact gen sc.names e
theorem yl(i:Nat){x:Str}{pos:Pos}(hN:N'[i]? = some x:=by rfl)(hv:sc.names.lookup x=some .free:=by rfl)(hd:(x==("__debug__" : Str))=false:=by decide)(hcd:(x==("__classdict__" : Str))=false:=by decide) :
  PE (aK X N' sc cl C s H fp) (.Name x pos) (bx i):=xA (X:=aK X N' sc cl C s H fp) hN (.inr (rO hv)) hd hcd
theorem iX(i:Nat){x:Str}{pos:Pos}(hN:N'[i]? = some x:=by rfl)(hv:sc.names.lookup x=some .local:=by rfl)(hd:(x==("__debug__" : Str))=false:=by decide)(hcd:(x==("__classdict__" : Str))=false:=by decide) :
  PE (aK X N' sc cl C s H fp) (.Name x pos) (bx i):=xA (X:=aK X N' sc cl C s H fp) hN (.inl (fe rfl hv)) hd hcd
theorem el{i:Nat}{x:Str}{pos:Pos}(hn:N'.Nodup:=by decide +kernel)(hN:N'[i]? = some x:=by rfl)(hv:sc.names.lookup x=some .local:=by rfl) :
  PG (aK X N' sc cl C s H fp) (.Name x pos) (bz i):=bT (X:=aK X N' sc cl C s H fp) hn hN (.inl (fe rfl hv)) (.inr (fe rfl hv))
theorem xP{x:Str}(hv:sc.names.lookup x=some .globalImplicit:=by rfl):Gl (aK X N' sc cl C s H fp) x:=fe (env:=X.env) rfl hv
end
section
variable{X:Cx}
theorem rH:fk X (.builtin "divmod") (λxs H Q=>∃i j,xs=[.int i,.int j]/\(0<j/\j.natAbs.log2<9000)/\∀p,H p=none->Q (.ref p) (upd H p (.tup [.int (i / j),.int (i % j)]))):=by
 intro pins s σ H xs us Q I r h
 obtain⟨i,j,rfl,⟨h1,h2⟩,q⟩:=h
 obtain⟨u,w',rfl,⟨t,rfl⟩,⟨t',rfl⟩⟩:=vals2 r
 refine divmod_int (by omega) ?_ (.inl (PyProof.noPylong_of_log2 h2))
 rw [Int.fdiv_eq_ediv_of_nonneg i (by omega),Int.fmod_eq_emod_of_nonneg i (by omega)]
 have hn:H s.heap.objs.size=none:=I.hok.fresh (T7 _)
 refine⟨.ref s.heap.objs.size,_,?_,rfl,q _ hn⟩
 refine I.laid (λb o e=>T4 _ e) (T7 _) ⟨by simp only [UG,List.length_nil]; rw [sizeLine_eq]; decide,[.int (i / j) s.toks,.int (i % j) (s.toks+1)],.cons ⟨_,rfl⟩ (.cons ⟨_,rfl⟩ .nil),?_⟩
 exact⟨_,T6 s.heap rfl,rfl,⟨0,rfl⟩,rfl⟩
theorem xi{ys:List Str}:∀{us:List Value},Vals (ys.map V.str) us->StrsAre us ys:=by
 induction ys with
 | nil=>intro us r; cases r; exact .nil
 | cons y ys ih =>
  intro us r
  cases r with
  | cons h t =>
   obtain⟨tk,rfl⟩:=h
   exact .cons _ _ (ih t)
def rJoin(K:UJ):V->List V->Hp->VK->Prop:=λx vs H Q=>∃sep p ys,x=.str sep/\vs=[.ref p]/\a_ K H p (ys.map V.str)/\(ys.map (·.length)).sum+ys.length*sep.length<=16777216/\Q (.str (Txt.join sep ys)) H
theorem Fp:PU X "str.join" (rJoin X.K):=by
 intro pins s σ H x vs v us Q I rx rv h
 obtain⟨sep,p,ys,rfl,rfl,hS,hz,q⟩:=h
 obtain⟨tk,rfl⟩:=rx
 obtain⟨u,rfl,ru⟩:=vals1 rv
 cases ru
 obtain⟨its,r,pl,_⟩:=I.list hS
 exact join_list pl.isList (xi (by simpa using r)) hz λt' k=>⟨.str (Txt.join sep ys),H,I.tok _,⟨_,rfl⟩,q⟩
end
def dh(H:Hp)(p:Addr):Prop:=∃a b:Int,H p=some (.lst [.int a,.int b])/\0<=a/\0<=b/\b<=2147483647
structure bo(p:Addr)(H H':Hp):Prop where
 keep:∀b o,b≠p->H b=some o->H' b=some o
 cf:dh H' p
theorem bo.refl{p:Addr}{H:Hp}(h:dh H p):bo p H H:=⟨λ_ _ _ e=>e,h⟩
theorem bo.trans{p:Addr}{H H1 H2:Hp}(a:bo p H H1)(b:bo p H1 H2):bo p H H2:=⟨λc o n e=>b.keep c o n (a.keep c o n e),b.cf⟩
theorem bo.same{p:Addr}{H H1:Hp}(h:dh H p)(s:aM H H1):bo p H H1:=⟨λc o _ e=>s c o e,let ⟨a,b,e,r⟩:=h; ⟨a,b,s _ _ e,r⟩⟩
theorem aj{H:Hp}{p:Addr}(h:H p=none)(o:HO):aM H (upd H p o):=λb u q=>by rw [aI (aU q h)]; exact q
theorem bo.new{p q:Addr}{H H1:Hp}{o:HO}(a:bo p H H1)(h:H1 q=none):bo p H (upd H1 q o):=a.trans (.same a.cf (aj h o))
def CQ(K:UJ):Sp:=λvs H Q _=>∃(a:Addr) (ns:List Int) (k:Int),vs=[.ref a,.int k]/\a_ K H a (ns.map V.int)/\0<=k/\∀n,Q (.int n) H
def Gw(K:UJ):Sp:=λvs H Q _=>∃(a:Addr) (ns:List Int) (k:Int),vs=[.ref a,.int k]/\a_ K H a (ns.map V.int)/\0<=k/\k<=1000/\∀p H',H p=none->aM H H'->dh H' p->Q (.ref p) H'
def dm:Sp:=λvs H Q _=>∃(p:Addr) (m:Int),vs=[.ref p,.int m]/\dh H p/\0<m/\m.natAbs.log2<9000/\∀d H',bo p H H'->0<=d->d<m->Q (.int d) H'
def pG:Sp:=λvs H Q _=>∃(p:Addr),vs=[.ref p]/\dh H p/\∀n H',bo p H H'->-(10 ^ 60)<n->n<10 ^ 60->Q (.int n) H'
def isW(x:Str):Prop:=1<=x.length/\x.length<=8/\∀c∈x.cps.toList,97<=c/\c<=122
def tM:Sp:=λvs H Q _=>∃(p:Addr),vs=[.ref p]/\dh H p/\∀x H',bo p H H'->isW x->Q (.str x) H'
theorem Bj{n:Nat}{i:Int}(h0:0<=i)(h1:i<n):vU n i=some i.toNat:=by
 unfold vU; rw [if_pos h0,if_pos h1]
theorem CG{xs:List V}{i:Int}(h0:0<=i)(h1:i<xs.length):∃v,i6 xs i=some v/\xs[i.toNat]? = some v:=by
 have e:=Bj h0 h1
 have hj:i.toNat<xs.length:=by omega
 refine⟨xs[i.toNat],?_,by simp [hj]⟩
 unfold i6; rw [e]
 show xs[i.toNat]? = _
 simp [hj]
theorem yp{xs:List V}{i:Int}(h0:0<=i)(h1:i<xs.length):∃v,i6 xs i=some v/\v∈xs:=by
 obtain⟨v,h,g⟩:=CG h0 h1
 exact⟨v,h,Ui g⟩
theorem E4{z:Str}{i:Int}(h0:0<=i)(h1:i<(z.cps.toList.length:Nat)):∃c,i6 z.cps.toList i=some c/\c∈z.cps.toList:=by
 have e:=Bj (n:=z.cps.toList.length) h0 h1
 have hj:i.toNat<z.cps.toList.length:=by omega
 refine⟨z.cps.toList[i.toNat],?_,List.getElem_mem hj⟩
 unfold i6; rw [e]
 show z.cps.toList[i.toNat]? = _
 simp only [hj,Ug]
theorem rD(g:Str):∀(ps:List Str) (acc:Array Nat),(ps.foldl (λacc p=>acc++g.cps++p.cps) acc).toList=acc.toList++(ps.map λp=>g.cps.toList++p.cps.toList).flatten
 | [],acc=>by simp
 | p::r,acc=>by
  rw [List.foldl_cons,rD g r]
  simp [List.append_assoc]
theorem wO(g:Str)(ps:List Str):(Txt.join g ps).cps.toList=(ps.headD Str.empty).cps.toList++((ps.drop 1).map λp=>g.cps.toList++p.cps.toList).flatten:=by
 unfold Txt.join Builtin.Str.glued
 exact rD g (ps.drop 1) _
def sgn(c:Nat):Str:=⟨#[c]⟩
theorem LD:(("" : Str).cps).toList=[]:=by decide +kernel
theorem noStr:(Str.empty.cps).toList=[]:=by decide +kernel
theorem xN(zs:List Nat):(Txt.join "" (zs.map sgn)).cps.toList=zs:=by
 rw [wO,LD]
 cases zs with
 | nil=>exact noStr
 | cons z r =>
  show [z]++((r.map sgn).map λp=>[]++p.cps.toList).flatten=z::r
  have e:((r.map sgn).map λp=>[]++p.cps.toList).flatten=r:=by
   induction r with
   | nil=>rfl
   | cons y r ih =>
    rw [List.map_cons,List.map_cons,List.flatten_cons,ih]
    rfl
  rw [e]
  rfl
theorem EX(zs:List Nat):((zs.map sgn).map (·.length)).sum=zs.length:=by
 induction zs with
 | nil=>rfl
 | cons z r ih=>rw [List.map_cons,List.map_cons,List.sum_cons,ih,UG]; show 1+_=_; omega
theorem Ir{x:Str}{zs:List Nat}(e:x.cps.toList=zs)(h1:1<=zs.length)(h2:zs.length<=8)(h3:∀c∈zs,97<=c/\c<=122):isW x:=by
 have l:x.length=zs.length:=by show x.cps.size=_; rw [←e]; simp
 exact⟨by omega,by omega,by rw [e]; exact h3⟩
theorem bo.put{p D:Addr}{H H3 H4:Hp}{o:HO}(g3:bo p H H3)(hD:H3 D=none)(n:D≠p)(g4:bo p H H4):bo p H (upd H4 D o):=by
 refine⟨λb u nb e=>?_,?_⟩
 ·by_cases hb:b=D
  ·subst hb
   exact absurd (g3.keep b u n e) (by rw [hD]; simp)
  ·rw [aI hb]
   exact g4.keep b u nb e
 ·obtain⟨x,y,e,r⟩:=g4.cf
  exact⟨x,y,by rw [aI (Ne.symm n)]; exact e,r⟩
theorem bo.ne{p D:Addr}{H H3:Hp}(g3:bo p H H3)(hD:H3 D=none):D≠p:=λe=>by subst e; obtain⟨_,_,z,_⟩:=g3.cf; rw [z]at hD; cases hD
section
variable{X:Cx}{x:Str}{pos:Pos}{c:Addr}{n:String}{a b:Expr}{ta tb:TE}
theorem Iz(hg:Gl X x)(hm:X.mg x=some (.ref c))(hd:(x==("__debug__" : Str))=false:=by decide):PE X (.Name x pos) (tC (.ref c)):=cQ hg hm (show RelV (.ref c) (.ref c) from rfl) hd
theorem xl(hg:Gl X x)(hm:X.mg x=none)(hv:bootBuiltins x=some (.type n))(hn:x≠"__name__":=by decide)(hd:(x==("__debug__" : Str))=false:=by decide):PE X (.Name x pos) (tC (.ty n)):=FV hg hm hv (show RelV (.ty n) (.type n) from rfl) hn hd
theorem J7(ha:PE X a ta)(hb:PE X b tb)(hs:m5 b):PE X (.Subscript a b pos) (gB (sj X.K) ta tb):=fX CJ ha hb hs
end
end L2
namespace PySem
open Sem (wp)
section
variable{prog:Program}{w:World}{A:Around}{E:Value->Shared->Prop}{h:Heap}{g:Array GenState}{d:Drawn}{t:Nat}{os:OsState}
variable{nm q:Str}{C N:Addr}{bs bm bmB:List Value}{hdct:Bool}{sn:List Str}{sub:List Value}{ab:Bool}{col:Option Bool}{dd:Option Addr}{k0 k1 k2 k3 k5:Option Value}{B newId initId:String}
theorem jL(F:ExcBaseFacts B newId initId bmB)(T:OwnTail h bmB bm){mN:Str->Option Value}{rest:List Value}{fI:Addr}{oI:Obj}{Q:Fin->Shared->Prop}
  (hC:h.get? C=some (excClassObj nm q C N bs bm hdct sn sub ab col dd k0 k1 k2 k3 k5 newId)) (hn:h.Ns N mN) (hi:mN "__init__"=some (.ref fI))
  (hfI:h.get? fI=some oI) (hfc:oI.cls=.type "function")
  (hq:∀h' e,Heap.MadeExcOf h h' e (.ref C) rest->
   wpAny (model prog w) A (call (.ref fI) (.ref e::rest)) (λr s'=>r=.none/\Q (.done (.ret (.ref e))) s') E ⟨h',g,d,t,os⟩) (hrest:rest.length<=sizeLine:=by size_fits) :
  wpAny (model prog w) A (Builtin.«type.__call__» ⟨.ref C::rest,[]⟩) Q E ⟨h,g,d,t,os⟩:=by
 repeat (first | with_reducible refine wpAny_loadPart_at hC ?_ | with_reducible refine wpAny_madeBy_exc hC ?_ | wp_step)
 refine codeAny_call_builtin_code (Code.quiet_builtin _ F.quiet) (wpAny_check_new_subT F T hC ?_)
 refine codeAny_exc_new_subT F T hC ?_ hrest
 show wpAny _ _ _ _ _ _
 have hC₁:=T4 {cls:=.ref C,data:=.fields #[.ref h.objs.size,.none,.none,.none,.bool false,.none]}
  (T4 {cls:=.type "tuple",data:=.seq rest.toArray} hC)
 have hfI₁:=T4 {cls:=.ref C,data:=.fields #[.ref h.objs.size,.none,.none,.none,.bool false,.none]}
  (T4 {cls:=.type "tuple",data:=.seq rest.toArray} hfI)
 have hn₁:((h.push {cls:=.type "tuple",data:=.seq rest.toArray}).push {cls:=.ref C,data:=.fields #[.ref h.objs.size,.none,.none,.none,.bool false,.none]}).Ns N mN :=
  let ⟨o,es,ep,e,r⟩:=hn; ⟨o,es,ep,T4 _ (T4 _ e),r⟩
 have hget:((h.push {cls:=.type "tuple",data:=.seq rest.toArray}).push
   {cls:=.ref C,data:=.fields #[.ref h.objs.size,.none,.none,.none,.bool false,.none]}).get? (h.objs.size+1)=some
   {cls:=.ref C,data:=.fields #[.ref h.objs.size,.none,.none,.none,.bool false,.none]}:=by heap_get
 have hcC:(Value.ref C::bm).contains (.ref C)=true:=by simp
 have T₁:=T.keeps (h':=(h.push {cls:=.type "tuple",data:=.seq rest.toArray}).push {cls:=.ref C,data:=.fields #[.ref h.objs.size,.none,.none,.none,.bool false,.none]})
  λb o e=>T4 _ (T4 _ e)
 unfold isInstance
 repeat (first | with_reducible refine wpAny_loadPart_at hget ?_ | (with_reducible refine wpAny_isSubtype_exc hC₁ ?_; rw [hcC]) | wp_step)
 show wpAny _ _ (typeLookup (.ref C) _) _ _ _
 refine wpAny_typeLookup_tail hC₁ hn₁ T₁ F.mroIs F.init.lookup ?_
 rw [hi]
 refine UC (TZ ?_)
 unfold bindSpecial
 refine TZ (wpAny_typeOf (T:="function") ⟨_,hfI₁,hfc⟩ ?_)
 rw [if_pos (by decide)]
 refine T1 (TZ (UB (hq _ (h.objs.size+1) ⟨λb o hb=>T4 _ (T4 _ hb),Heap.get?_none_of_le (Nat.le_succ _),h.objs.size,hget,Heap.get?_none_of_le (T7 _),?_⟩) (λr s' hr=>?_) λ_ _ x=>x))
 ·exact T4 _ (Heap.get?_push_at rfl rfl)
 ·obtain⟨rfl,hQ⟩:=hr
  wp_walk
  exact hQ
theorem oU(F:ExcBaseFacts B newId initId bmB)(T:OwnTail h bmB bm){mN:Str->Option Value}{rest:List Value}{fI:Addr}{oI:Obj}{Q:Value->Shared->Prop}
  (hC:h.get? C=some (excClassObj nm q C N bs bm hdct sn sub ab col dd k0 k1 k2 k3 k5 newId)) (hn:h.Ns N mN) (hi:mN "__init__"=some (.ref fI))
  (hfI:h.get? fI=some oI) (hfc:oI.cls=.type "function")
  (hq:∀h' e,Heap.MadeExcOf h h' e (.ref C) rest->
   wpAny (model prog w) (A.under (.builtin "type.__call__" ⟨.ref C::rest,[]⟩)) (call (.ref fI) (.ref e::rest)) (λr s'=>r=.none/\Q (.ref e) s') E ⟨h',g,d,t,os⟩) (hrest:rest.length<=sizeLine:=by size_fits) :
  wpAny (model prog w) A (call (.ref C) rest) Q E ⟨h,g,d,t,os⟩:=by
 have f1:=tc_lookup
 have f2:=tc_bind (.ref C)
 have hT:(⟨h,g,d,t,os⟩ : Shared).TypeIs (.ref C) "type":=⟨_,hC,rfl⟩
 refine wpAny_call (codeAny_of_tree ?_)
 show wpAny _ _ (callAny (.ref C) _) _ _ _
 repeat (any_goals (first | assumption | with_reducible refine wpAny_loadPart_at hC ?_ | wp_step))
 refine⟨rfl,?_⟩
 refine codeAny_call_builtin_at (Code.quiet_builtin _ (by decide +kernel)) entry_typeCall (wpAny_check_type_call_sub hC (jL (hrest:=hrest) F T hC hn hi hfI hfc λh' e hm=>?_))
 exact hq h' e hm
end
end PySem
namespace L2
open PySem PySem.Spec PyProof.Rows
abbrev AD:List Value:=[.type "ValueError",.type "Exception",.type "BaseException",.type "object"]
abbrev xO(a C:Addr)(od:Option Addr):HO:=.ext λh=>∃fl sl,h.get? a=some {cls:=.ref C,dict:=od,data:=.fields fl,slots:=sl}
abbrev xD(d:Addr)(fs:List (Str×V)):HO:=.ext λh=>∃mA,h.Ns1 d mA/\∀f,jj (fs.lookup f) (mA f)
section
variable{P:Program}{w:World}{H:Hp}{h h':Heap}{a C d:Addr}{od:Option Addr}{fs:List (Str×V)}{o:HO}
theorem Hn{fl:Array Value}{sl:Array (Option Value)}(e:h.get? a=some {cls:=.ref C,dict:=od,data:=.fields fl,slots:=sl}):cq P w H h a (xO a C od) :=
 ⟨⟨fl,sl,e⟩,⟨_,e⟩,λ_ _ ⟨fl,sl,e⟩ k=>⟨fl,sl,k _ e⟩⟩
theorem BG{mA:Str->Option Value}(n:h.Ns1 d mA)(r:∀f,jj (fs.lookup f) (mA f)):cq P w H h d (xD d fs) :=
 ⟨⟨mA,n,r⟩,(let ⟨o,_,_,e,_⟩:=n; ⟨o,e⟩),λ_ _ ⟨mA,⟨o,es,ep,e,rest⟩,r⟩ k=>⟨mA,⟨o,es,ep,k _ e,rest⟩,r⟩⟩
theorem cq.there(x:cq P w H h a o):∃u,h.get? a=some u:=by
 cases o with
 | lst xs=>obtain⟨_,_,_,_,e⟩:=x; exact⟨_,e⟩
 | tup xs=>obtain⟨_,_,_,p⟩:=x; obtain⟨o,e,_⟩:=p; exact⟨_,e⟩
 | dK kvs=>obtain⟨_,_,_,_,o,_,_,e,_⟩:=x; exact⟨_,e⟩
 | dT kvs=>obtain⟨_,_,_,_,o,_,_,e,_⟩:=x; exact⟨_,e⟩
 | set S n=>obtain⟨o,_,_,_,e,_⟩:=x; exact⟨_,e⟩
 | ins C dx fs=>obtain⟨_,_,_,e,_⟩:=x; exact⟨_,e⟩
 | own y=>obtain⟨_,e⟩:=x; exact⟨_,e⟩
 | xd fs=>obtain⟨_,⟨_,_,_,e,_⟩,_⟩:=x; exact⟨_,e⟩
 | Nn lo hi=>obtain⟨_,_,_,e⟩:=x; exact⟨_,e⟩
 | xo ob u=>obtain⟨e,_⟩:=x; exact⟨_,e⟩
 | Gr ps=>exact⟨_,(show h.get? a=some _ from x)⟩
 | met f y=>exact⟨_,(show h.get? a=some _ from x)⟩
 | ext φ=>obtain⟨_,⟨_,e⟩,_⟩:=x; exact⟨_,e⟩
theorem i7.none_of(x:i7 P w H h)(e:h.get? a=none):H a=none:=by
 cases q:H a with
 | none=>rfl
 | some u =>
  obtain⟨v,z⟩:=(x a u q).there
  rw [e]at z; cases z
theorem i7.laidN(x:i7 P w H h)(k:∀b u,h.get? b=some u->h'.get? b=some u)(hp:h.get? a=none)(new:cq P w (upd H a o) h' a o):i7 P w (upd H a o) h':=λb u e=>by
 have hn:=x.none_of hp
 by_cases hb:b=a
 ·subst hb; rw [ag]at e; cases e; exact new
 ·rw [aI hb]at e
  exact(x b u e).stay (λc v _ q=>k c v q) (λc q=>by rw [aI (aU q hn)]; exact q) λc xs q=>by rw [aI (aU q hn)]; exact q
theorem Un.laidN{fs ex:List Addr}(k:∀b u,h.get? b=some u->h'.get? b=some u)(hp:h.get? a=none)(hn:H a=none):Un fs ex H (upd H a o) h h' where
 keep:=λb u q _ _ _=>k b u q
 slot:=λb u q _ _ _=>⟨u.slots,k b u q⟩
 free:=λb u q n _=>by rw [aI (λe=>by rw [e,hp]at q; cases q)]; exact n
 there:=λb u q _=>⟨u,k b u q⟩
 tups:=λb xs q=>by rw [aI (aU q hn)]; exact q
 oG:=λb u xs q=>by rw [aI (aU q hn)]; exact q
 qy:=λb ps q=>⟨#[],by rw [aI (aU q hn),q]; simp⟩
end
structure jl(K:UJ)(C:Addr):Prop where
 cls:∃cd PE,PySem.W.clsIn K C=some cd/\cd.mro=.ref C :: .ref PE::AD/\cd.hasDict=true
 mo:PySem.W.mroIn K C (.type "object")=some true
 sa:PySem.W.findIn K (.ref C) "__setattr__"=some (some (.builtin "object.__setattr__"))
 ga:PySem.W.findIn K (.ref C) "__getattribute__"=some (some (.builtin "BaseException.__getattribute__"))
 gh:PySem.W.findIn K (.ref C) "__getattr__"=some none
 mb:PySem.W.mroIn K C (.type "BaseException")=some true
 ca:PySem.W.findIn K (.ref C) "__class__"=some (some (.builtin "object.__class__"))
 cg:PySem.W.specialIn K (.builtin "object.__class__") "__get__"=some (some (.builtin "getset_descriptor.__get__"))
 ct:PySem.W.takesIn K (.builtin "object.__class__")=some true
theorem jl.hd{K:UJ}{C:Addr}(c:jl K C):PySem.W.hasDictIn K C=true:=by
 obtain⟨cd,PE,e,_,h⟩:=c.cls
 unfold PySem.W.hasDictIn
 rw [e]
 exact h
section
variable{prog:Program}{w:World}{A:Around}{E:Value->Shared->Prop}{R:Result->Shared->Prop}{s:Shared}{K:UJ}{x C:Addr}{ox:Obj}{od:Option Obj}{name:Str}{tk:Tok}{v:Value}
theorem qM(c:jl K C)(X:K.In s.heap)(I:PySem.W.InstAt s.heap x ox C od)(ht:PySem.W.findIn K (.ref C) name=some none)
  (h:∀b,wpAny (model prog w) A.in1 (Builtin.ObjectAttr.storeInOwnDict (.ref x) (.ref C) (.str name tk) name v b)
   (λfin s'=>match fin with | .done f=>R (.ok f) s' | .again c'=>c'.quiet=true/\codeAny (model prog w) A c' R s') (λe s'=>R (.error e) s') s) :
  codeAny (model prog w) A (.call (.builtin "object.__setattr__") ⟨[.ref x,.str name tk,v],[]⟩) R s:=by
 have SF:=PySem.F.store_object
 obtain⟨cd,PE,hc,hmro,_⟩:=c.cls
 have sub:PySem.W.Looks (model prog w) s.heap (isInstance (.ref x) (.type "object")) true:=I.type.andThen (PySem.W.looks_mroIn X c.mo)
 refine codeAny_call_builtin SF.slot.plain SF.entry (@PySem.W.check_slot (model prog w) _ _ s "object.__setattr__" "object" "__setattr__" (.ref x) [.str name tk,v] [] _ SF.kind SF.split sub (SF.args (.ref x) (.str name tk) v) ?_)
 have hm:PySem.W.Looks (model prog w) s.heap (mroOf (.ref C)) cd.mro:=(PySem.W.looks_clsIn X hc).andThen .now
 have L3:PySem.W.Looks (model prog w) s.heap (Builtin.ObjectAttr.storeTaker? none) none:=.now
 rw [PySem.W.osa_eq,refuse_eq]
 refine TZ (TZ (I.type.here (TZ (hm.here ?_))))
 rw [hmro,refuseLoop_ref,refuseLoop_ref,PySem.F.store_ValueError.passes]
 refine T1 (TZ (I.type.here (TZ ((PySem.W.looks_findIn X ht).here (TZ (L3.here ?_))))))
 exact h _
theorem Ao{Q:Fin->Shared->Prop}{r:Builtin.ObjectAttr.Found}(X:K.In s.heap)(I:PySem.W.InstAt s.heap x ox C od)(hf:PySem.W.findObj K C od name=some r)
  (h:wpAny (model prog w) A (match r with | .value v=>ret v | .bind g a=>Builtin.ObjectAttr.bindTo g a (.ref x) (.ref C) | .missing=>Builtin.ObjectAttr.noSuchAttribute (.ref x) name) Q E s) :
  wpAny (model prog w) A (Builtin.«object.__getattribute__» ⟨[.ref x,.str name tk],[]⟩) Q E s:=by
 obtain⟨hh',g,d,t,os⟩:=s
 have L0:=I.type (M:=model prog w)
 have L1:=PySem.W.looks_find (M:=model prog w) X I hf
 unfold Builtin.«object.__getattribute__»
 refine TZ (T1 ?_)
 refine TZ (T1 (TZ (L0.at (TZ (L1.at ?_)))))
 cases r with
 | value v=>exact h
 | bind g a=>exact h
 | missing=>exact h
theorem Be{fill expr:Bool}{Q:Value->Shared->Prop}{r:Builtin.ObjectAttr.Found}(c:jl K C)(X:K.In s.heap)(I:PySem.W.InstAt s.heap x ox C od)(hf:PySem.W.findObj K C od name=some r)
  (h:codeAny (model prog w) A (.call (.builtin "BaseException.__getattribute__") ⟨[.ref x,.str name tk],[]⟩) (λr s'=>match r with | .ok (.ret v)=>wpAny (model prog w) A (handedOut v) Q E s' | _=>False) s) :
  wpAny (model prog w) A (getAttrBy (.ref x) (.str name tk) fill expr) Q E s:=by
 obtain⟨hh',g,d,t,os⟩:=s
 have L0:=I.type (M:=model prog w)
 have L1:=PySem.W.looks_findIn (M:=model prog w) X c.ga
 have LH:=PySem.W.looks_hook (M:=model prog w) (mc:=.ref C) (r:=none) X (by show PySem.W.findIn K (.ref C) "__getattr__"=_; exact c.gh)
 have hx2:(Value.builtin "BaseException.__getattribute__"==Value.builtin "object.__getattribute__")=false:=by decide +kernel
 have hx1:(onTheHeap (Value.ref C)&&Value.builtin "BaseException.__getattribute__"==Value.builtin "object.__getattribute__")=false:=by rw [hx2]; rfl
 have hx0:(expr&&onTheHeap (Value.builtin "BaseException.__getattribute__"))=false:=by cases expr <;> rfl
 unfold getAttrBy
 refine UC (TZ (L0.at (TZ (L1.at ?_))))
 show wpAny _ _ (if(onTheHeap (Value.ref C)&&Value.builtin "BaseException.__getattribute__"==Value.builtin "object.__getattribute__")=true then _ else _) _ _ _
 rw [if_neg (by rw [hx1]; exact Uk)]
 unfold getAttrByItsOwn
 refine TZ (LH.at (TZ (wpAny_attempt (UC ?_))))
 unfold callGetattribute
 rw [if_neg (by rw [hx0]; exact Uk)]
 unfold boundAndCalled
 rw [PySem.F.excAttr_ValueError.ga.bind]
 refine TZ (T1 (wpAny_call (codeAny_mono h λr s' z=>?_)))
 rcases r with e | (v | _ | _ | _) <;> first | exact z | exact z.elim
theorem uy{r:Builtin.ObjectAttr.Found}(c:jl K C)(X:K.In s.heap)(I:PySem.W.InstAt s.heap x ox C od)(hf:PySem.W.findObj K C od name=some r)
  (h:wpAny (model prog w) A.in1 (match r with | .value v=>ret v | .bind g a=>Builtin.ObjectAttr.bindTo g a (.ref x) (.ref C) | .missing=>Builtin.ObjectAttr.noSuchAttribute (.ref x) name)
   (λfin s'=>match fin with | .done f=>R (.ok f) s' | .again c'=>c'.quiet=true/\codeAny (model prog w) A c' R s') (λe s'=>R (.error e) s') s) :
  codeAny (model prog w) A (.call (.builtin "BaseException.__getattribute__") ⟨[.ref x,.str name tk],[]⟩) R s:=by
 have sub:PySem.W.Looks (model prog w) s.heap (isInstance (.ref x) (.type "BaseException")) true:=I.type.andThen (PySem.W.looks_mroIn X c.mb)
 exact codeAny_call_builtin PySem.F.excAttr_ValueError.ga.plain PySem.F.entry_bexc_ga (@PySem.W.check_slot (model prog w) _ _ s "BaseException.__getattribute__" "BaseException" "__getattribute__" (.ref x) [.str name tk] [] _ (by decide +kernel) (by decide +kernel) sub (PySem.F.args_bexc_ga _ _) (Ao X I hf h))
theorem v9{expr:Bool}{Q:Value->Shared->Prop}(c:jl K C)(X:K.In s.heap)(I:PySem.W.InstAt s.heap x ox C od)(hf:PySem.W.findObj K C od name=some (.value v))(hh:PySem.W.handedIn v=true)(h:Q v {s with toks:=s.toks+1}) :
  wpAny (model prog w) A (getAttr (.ref x) name expr) Q E s:=by
 unfold getAttr
 refine TZ (wpAny_mkText (Be (s:={s with toks:=s.toks+1}) c X I hf (uy (s:={s with toks:=s.toks+1}) c X I hf (T1 ?_))))
 show wpAny _ _ (handedOut v) _ _ _
 rw [PySem.W.handedOut_of hh]
 exact T1 h
theorem wC{Q:Option Value->Shared->Prop}(c:jl K C)(X:K.In s.heap)(I:PySem.W.InstAt s.heap x ox C od)(hf:PySem.W.findObj K C od "__class__"=some (.bind (.builtin "getset_descriptor.__get__") (.builtin "object.__class__")))
  (h:Q (some (.ref C)) {s with toks:=s.toks+1}):wpAny (model prog w) A (getAttr? (.ref x) "__class__") Q E s:=by
 unfold getAttr? getAttrBy?
 refine TZ (wpAny_mkText (TZ (wpAny_attempt (Be (s:={s with toks:=s.toks+1}) c X I hf (uy (s:={s with toks:=s.toks+1}) c X I hf ?_)))))
 show wpAny _ _ (holding [Value.builtin "object.__class__"] (call (.builtin "getset_descriptor.__get__") [.builtin "object.__class__",.ref x,.ref C]) >>= ret) _ _ _
 refine TZ (UC (wpAny_call (PySem.W.class_get (s:={s with toks:=s.toks+1}) (ox:=ox) (od:=od) X I c.mo (T1 ?_))))
 show wpAny _ _ (handedOut (.ref C)) _ _ _
 rw [PySem.W.handedOut_of rfl]
 exact T1 (T1 h)
end
section
variable{X:Cx}{pins:List (Addr×Obj)}{σ:St}{H:Hp}{s:Shared}{a C dx:Addr}{fs:List (Str×V)}{f:Str}{v y:V}{u:Value}{A:Around}{E:Value->Shared->Prop}
theorem F8{b:Bool}{Q:Value->Shared->Prop}(I:Inv X pins σ H s)(e:H a=some (xO a C (some dx)))(ed:H dx=some (xD dx fs))(c:jl X.K C)(n:ix X.K C f)(l:fs.lookup f=some v)
  (h:∀u s',Inv X pins σ H s'->RelV v u->Q u s'):wpAny (model X.prog X.w) A (getAttr (.ref a) f b) Q E s:=by
 obtain⟨⟨fl,sl,ha⟩,_⟩:=I.hok a _ e
 obtain⟨⟨mA,ns,r⟩,_⟩:=I.hok dx _ ed
 obtain⟨od,ho,hl⟩:=l0 ns
 have J:PySem.W.InstAt s.heap a {cls:=.ref C,dict:=some dx,data:=.fields fl,slots:=sl} C (some od):=⟨ha,rfl,rfl,ho⟩
 have rf:=r f
 rw [l]at rf
 obtain⟨u,eu,ru⟩:=jj.some_of rf
 exact v9 c I.jI J (PySem.W.findObj_own c.hd n rfl (by rw [hl,eu])) (Ar ru) (h _ _ (I.tok _) ru)
theorem rq{mA:Str->Option Value}(r:∀f,jj (fs.lookup f) (mA f)):PySem.Within mA (fs.map (·.1)):=by
 intro g hg
 have rg:=r g
 cases e:fs.lookup g with
 | none=>rw [e]at rg; exact absurd (jj.none_of rg) hg
 | some z =>
  clear rg r hg
  induction fs with
  | nil=>cases e
  | cons p t ih =>
   obtain⟨k,w⟩:=p
   rw [List.lookup_cons]at e
   cases hk:g==k with
   | true =>
    have:g=k:=by simpa using hk
    subst this
    exact UE
   | false=>rw [hk]at e; exact Uj _ (ih e)
end
def lI(K:UJ)(C:Addr)(bmB:List Value)(newId:String)(ini:Option Value):Bool:=match K.lookup C with
 | some ⟨.type "type",_,.cls cd,sl⟩=>(match cd.mro,sl.toList with
  | .ref C'::bm,[_,_,_,_,some (.builtin n),_]=>C'==C&&n==newId && !cd.hasDel&&PySem.W.tailIn K bmB bm&&PySem.W.nsOkIn K cd.ns&&PySem.W.nsIn K cd.ns "__init__"==some ini
  | _,_=>false)
 | _=>false
theorem Lw{K:UJ}{h:Heap}{N:Addr}{mg:Str->Option Value}{n:Str}{r:Option Value}(X:K.In h)(G:h.Ns N mg)(e:PySem.W.nsIn K N n=some r):mg n=r:=by
 cases r with
 | none=>exact PySem.W.ns_none_of X G e
 | some v =>
  obtain⟨o,es,ep,ho,hd,_,hf⟩:=G
  unfold PySem.W.nsIn at e
  split at e
  ·rename_i c d es' n' sl q
   have:=X _ _ q
   rw [ho]at this
   cases this
   cases hd
   split at e
   ·rename_i en he
    cases e
    rw [←hf]
    unfold nsFind findBy
    rw [←Array.find?_toList,he]
    rfl
   ·split at e <;> cases e
  ·cases e
theorem qP{K:UJ}{h:Heap}{C:Addr}{bmB:List Value}{newId:String}{ini:Option Value}(X:K.In h)(q:lI K C bmB newId ini=true) :
  ∃bm N nm q bs hdct sn sub ab col dd k0 k1 k2 k3 k5 mN,h.get? C=some (excClassObj nm q C N bs bm hdct sn sub ab col dd k0 k1 k2 k3 k5 newId)/\h.Ns N mN/\mN "__init__"=ini/\OwnTail h bmB bm:=by
 unfold lI at q
 split at q
 ·rename_i dd cd sl ho
  split at q
  ·rename_i C' bm k0 k1 k2 k3 n k5 hm hs
   simp only [UH,beq_iff_eq,Bool.not_eq_true']at q
   obtain⟨⟨⟨⟨⟨rfl,rfl⟩,hdel⟩,ht⟩,hok⟩,hni⟩:=q
   obtain⟨nm,bs,mro,ns,qn,hd,sn,sub,ab,col,del⟩:=cd
   dsimp only at hm hdel hok hni
   subst hm hdel
   have hsl:sl = #[k0,k1,k2,k3,some (.builtin n),k5]:=by
    obtain⟨l⟩:=sl
    simp only at hs
    rw [hs]
   subst hsl
   exact⟨bm,ns,nm,qn,bs,hd,sn,sub,ab,col,dd,k0,k1,k2,k3,k5,_,X _ _ ho,.of_isNs (PySem.W.isNs_of_in X hok),Lw X (.of_isNs (PySem.W.isNs_of_in X hok)) hni,PySem.W.tail_of_in X ht⟩
  ·cases q
 ·cases q
section
variable{X:Cx}{o value:Expr}{ta tv:TE}{f:Str}{pos pos':Pos}
def Hb(K:UJ)(ta:TE)(f:Str):TE:=λσ H Q=>ta σ H λx H1=>∃a C dx fs v,x=.ref a/\H1 a=some (xO a C (some dx))/\H1 dx=some (xD dx fs)/\jl K C/\ix K C f/\fs.lookup f=some v/\Q v H1
theorem Fu(he:PE X o ta)(hb:attributeBase o f X.env (eval o X.env)=eval o X.env):PE X (.Attribute o f pos) (Hb X.K ta f):=by
 intro pins s σ H Q I h
 refine Gf hb (b_ (he pins s σ H _ I h) λu s1 ⟨x,H1,I1,rx,a,C,dx,fs,v,ex,ea,ed,c,n,l,q⟩=>?_)
 subst ex
 obtain rfl:u=Value.ref a:=rx
 exact F8 I1 ea ed c n l λu' s2 I2 ru=>⟨v,H1,I2,ru,q⟩
end
def NB(K:UJ)(H:Hp)(a C:Addr):Prop:=jl K C/\(H a=some (xO a C none)\/∃dx fs,H a=some (xO a C (some dx))/\H dx=some (xD dx fs))
theorem D_{K:UJ}{x D:Addr}(c:jl K D):PySem.W.KitX K (.ref x) (.ref D) (λh=>∃ox od,PySem.W.InstAt h x ox D od) where
 ty:=λ_ _ _ ⟨ox,od,I⟩=>I.type
 it:=λ_ _ X _=>by
  obtain⟨cdD,hcD,_⟩:=PySem.W.any_some c.hd
  unfold PySem.W.clsIn at hcD
  split at hcD
  ·rename_i c' d' cd' sl' ho
   intro A' Q' E' s' k q
   unfold isType loadHead
   exact TZ (wpAny_loadPart (k _ _ (X _ _ ho)) (T1 q))
  ·cases hcD
 ne:=λh tp dd its n sl X htp=>by
  obtain⟨cdD,hcD,_⟩:=PySem.W.any_some c.hd
  refine Ur.mpr λq=>?_
  have e:D=tp:=Value.ref.inj (beq_iff_eq.mp q)
  subst e
  unfold PySem.W.clsIn at hcD
  split at hcD
  ·rename_i c' d' cd' sl' ho
   have z:=(X _ _ ho).symm.trans htp
   cases z
  ·cases hcD
 ca:=λ{prog w A E Q s} X I h=>by
  obtain⟨ox,od,I⟩:=I
  have hf:PySem.W.findObj K D od "__class__"=some (.bind (.builtin "getset_descriptor.__get__") (.builtin "object.__class__")):=by
   obtain⟨cd,PE,hc,_⟩:=c.cls
   unfold PySem.W.findObj
   rw [hc,Option.bind_some,c.ca,Option.bind_some]
   simp [c.cg,c.ct]
  exact wC c X I hf h
section
variable{X:Cx}
def Qt:V->Value->Prop
 | .ref a,u=>u=.ref a
 | .ty n,u=>u=.type n
 | _,_=>False
theorem vy:fk X (.builtin "isinstance") (λxs H Q=>∃x cv t c b,xs=[x,cv]/\Qt cv c/\(kc X.K H x t\/∃a C,x=.ref a/\t=.ref C/\NB X.K H a C)/\PySem.W.kitOne X.K t c=some b/\Q (.bl b) H):=by
 intro pins s σ H xs us Q I r h
 obtain⟨x,cv,t,c,b,rfl,hc,ty,e,q⟩:=h
 obtain⟨u,w',rfl,r1,r2⟩:=vals2 r
 have e2:w'=c:=by
  cases cv with
  | ref a=>cases(show c=_ from hc); exact r2
  | ty n=>cases(show c=_ from hc); exact r2
  | _=>exact hc.elim
 subst e2
 rcases ty with ty | ⟨a,C,rfl,rfl,cx,hx⟩
 ·exact rz I r1 ty e λtk=>⟨.bl b,H,I.tok _,rfl,q⟩
 ·cases(show u=Value.ref a from r1)
  have J:∃ox od,PySem.W.InstAt s.heap a ox C od:=by
   rcases hx with ea | ⟨dx,fs,ea,ed⟩
   ·obtain⟨⟨fl,sl,ha⟩,_⟩:=I.hok a _ ea
    exact⟨_,none,ha,rfl,rfl,True.intro⟩
   ·obtain⟨⟨fl,sl,ha⟩,_⟩:=I.hok a _ ea
    obtain⟨⟨mA,⟨od,_,_,ho,_⟩,_⟩,_⟩:=I.hok dx _ ed
    exact⟨_,some od,ha,rfl,rfl,ho⟩
  exact PySem.W.kia_one (D_ cx) I.jI J e (λz=>nomatch z) λtk=>⟨.bl b,H,I.tok _,rfl,q⟩
end
theorem CT{H:Hp}{a:Addr}{o:HO}(h:H a=some o):upd H a o=H:=by
 funext b
 unfold upd
 by_cases e:b=a
 ·rw [if_pos e,e,h]
 ·rw [if_neg e]
structure Top(X:Cx)(L:Addr):Prop where
 ex:∃e0 r,X.stack=e0::r/\e0.frame=some L
 fr:X.env.frame=some L
structure JJ(X:Cx)(H:Hp)(h:Heap)(T:Addr):Prop where
 free:H T=none
 new:X.s₀.heap.objs.size<=T
 pn:∀p∈X.pn,p.1≠T
 obj:∃oT ts,h.get? T=some oT/\oT.data=.fields ts/\3<ts.size
structure NQ(X:Cx)(H:Hp)(h:Heap)(e C:Addr)(od:Option Addr):Prop where
 at_:H e=some (xO e C od)
 obj:∃vs sl,h.get? e=some {cls:=.ref C,dict:=od,data:=.fields vs,slots:=sl}/\(vs[1]? = some .none\/∃T,vs[1]? = some (.ref T)/\JJ X H h T)
structure nK(X:Cx)(H:Hp)(h:Heap)(e C:Addr)(od:Option Addr)(T:Addr):Prop where
 at_:H e=some (xO e C od)
 obj:∃vs sl,h.get? e=some {cls:=.ref C,dict:=od,data:=.fields vs,slots:=sl}/\vs[1]? = some (.ref T)
 tb:JJ X H h T
section
variable{X:Cx}{pins:List (Addr×Obj)}{σ:St}{H:Hp}{s:Shared}{e C T L:Addr}{od:Option Addr}
theorem nK.QC{h:Heap}(f:nK X H h e C od T):NQ X H h e C od:=⟨f.at_,let ⟨vs,sl,h1,h2⟩:=f.obj; ⟨vs,sl,h1,.inr ⟨T,h2,f.tb⟩⟩⟩
theorem Inv.Oa(I:Inv X [] σ H s)(t:JJ X H s.heap T):T≠X.env.locals/\(∀x c,X.env.cells.lookup x=some c->c≠T)/\∀p∈X.pn++[],p.1≠T:=by
 obtain⟨oT,ts,h1,h2,_⟩:=t.obj
 refine⟨λz=>?_,λx c hc z=>?_,λp hp=>t.pn p (by simpa using hp)⟩
 ·obtain⟨m,⟨o',es,ep,ho',hd',_⟩,_⟩:=I.loc
  rw [←z,h1]at ho'
  cases ho'
  rw [hd']at h2
  cases h2
 ·obtain⟨v,o,ho,hd⟩:=I.cell x c hc
  rw [z,h1]at ho
  cases ho
  rw [hd]at h2
  cases h2
theorem Inv.mark(I:Inv X [] σ H s)(f:nK X H s.heap e C od T)(x:Value) :
  Inv X [] σ H {s with heap:=s.heap.update T (Obj.mapFields (·.setIfInBounds 3 x))}/\nK X H (s.heap.update T (Obj.mapFields (·.setIfInBounds 3 x))) e C od T:=by
 obtain⟨n1,n2,n3⟩:=I.Oa f.tb
 obtain⟨oT,ts,h1,h2,h3⟩:=f.tb.obj
 have keep:∀b o,b≠T->s.heap.get? b=some o->(s.heap.update T (Obj.mapFields (·.setIfInBounds 3 x))).get? b=some o:=λb o hb q=>(Heap.get?_update_other _ _ (Ne.symm hb)).trans q
 have neT:e≠T:=λz=>by have:=f.at_; rw [z,f.tb.free]at this; cases this
 obtain⟨vs,sl,g1,g2⟩:=f.obj
 have hd':=Obj.data_mapFields h2 (·.setIfInBounds 3 x)
 refine⟨I.turned (t':=s.toks) (it:=T) keep f.tb.free n1 (.inr f.tb.new) n2 n3,f.at_,⟨vs,sl,keep _ _ neT g1,g2⟩,f.tb.free,f.tb.new,f.tb.pn,_,_,Heap.get?_update_self _ h1 (Obj.isFreed_of_fields hd'),hd',by simpa using h3⟩
theorem hV{M:Model}{A:Around}{E:Value->Shared->Prop}{Q:Unit->Shared->Prop}(I:Inv X [] σ H s)(f:nK X H s.heap e C od T)(fr:Option Addr)
  (q:∀s',Inv X [] σ H s'->nK X H s'.heap e C od T->Q () s'):wpAny M A (setFlight (.ref e) fr) Q E s:=by
 obtain⟨vs,sl,g1,g2⟩:=f.obj
 obtain⟨oT,ts,h1,h2,h3⟩:=f.tb.obj
 unfold setFlight
 refine TZ (wpAny_field g1 rfl g2 ?_)
 have ne:(Value.ref T != Value.none)=true:=by simp
 rw [if_pos ne]
 have z:=I.mark f (fr.elim .none λf=>rawInt f)
 exact wpAny_setField h1 h2 h3 (q _ z.1 z.2)
theorem Dm{M:Model}{A:Around}{E:Value->Shared->Prop}{Q:Value->Shared->Prop}{env':Env}(hA:A.frames=some X.stack)(tp:Top X L)(hf:env'.frame=some L)(I:Inv X [] σ H s)
  (q:∀h',Inv X [] σ H {s with heap:=h'}->Heap.SlotsOnly (frs X.stack) s.heap h'->Q (.ref L) {s with heap:=h'}):wpAny M A (PySem.frameOf env') Q E s:=by
 obtain⟨e0,r,hst,h0⟩:=tp.ex
 have hl:=I.stack
 rw [hst]at hA hl
 have dw:((e0::r).dropWhile λx=>x.frame != env'.frame)=e0::r:=by rw [hf]; simp [List.dropWhile,h0]
 unfold PySem.frameOf
 refine TZ (wpAny_frameEnvs hA ?_)
 rw [dw]
 unfold frameObject
 refine TZ (TZ (wpAny_readyFrames_fun hl λh1 hs1=>T1 ?_))
 rw [h0]
 have e1:(e0::r).filterMap (·.frame)=frs X.stack:=by rw [hst]; rfl
 rw [e1]at hs1
 refine T1 (q h1 ?_ hs1)
 refine I.call (g':=s.gens) (t':=s.toks) (d':=s.drawn) (ch:=[]) ⟨λb o hb _ hf _=>(hs1.2.1 b hf).trans hb,λb o hb _ _ _=>hs1.2.2 b o hb,λ_ _ _ n _=>n,λb o hb _=>let ⟨sl,z⟩:=hs1.2.2 b o hb; ⟨_,z⟩,λ_ _ z=>z,λ_ _ _ z=>z,λb ps z=>⟨#[],by rw [z]; simp⟩⟩ (λb u hb=>?_) I.bare λb hb=>absurd hb (by simp)
 have nf:∀c v,H c=some v->c∉frs X.stack:=λc v hc hm=>by rw [I.ni c hm]at hc; cases hc
 refine(I.hok b u hb).stay (λc v hc z=>(hs1.2.1 c ?_).trans z) (λ_ z=>z) λ_ _ z=>z
 rcases hc with rfl | hc
 ·exact nf c u hb
 ·exact nf c _ hc
theorem um{M:Model}{A:Around}{E:Value->Shared->Prop}{Q:Unit->Shared->Prop}{env':Env}{head:Value}{hadNext:Bool}{vs:Array Value}{sl:Array (Option Value)}(hA:A.frames=some X.stack)(tp:Top X L)(hf:env'.frame=some L)(I:Inv X [] σ H s)
  (at_:H e=some (xO e C od)) (ho:s.heap.get? e=some {cls:=.ref C,dict:=od,data:=.fields vs,slots:=sl}) (h1:1<vs.size)
  (q:∀s' T,Inv X [] σ H s'->nK X H s'.heap e C od T->Q () s') :
  wpAny M A (do let a←PySem.frameOf env'; let pl←entryPlaceOf L hadNext; let b←EntryCells.newEntry head a .none (rawInt L) .none pl; setField (.ref e) 1 b) Q E s:=by
 refine TZ (Dm hA tp hf I λh2 I2 hs2=>?_)
 refine TZ (wpAny_entryPlaceOf λpl hpl=>?_)
 unfold EntryCells.newEntry newFields
 refine TZ (UD ?_ (hpl.sizeOk5 _ _ _ _ _))
 have ne:e∉frs X.stack:=λhm=>by rw [I.ni e hm]at at_; cases at_
 have ho2:h2.get? e=some {cls:=.ref C,dict:=od,data:=.fields vs,slots:=sl}:=(hs2.2.1 e ne).trans ho
 generalize hTb:({cls:=.type "traceback",data:=.fields ([head,.ref L,.none,rawInt L,.none]++(if pl.isEmpty then List.replicate 6 Value.none else pl)).toArray}:Obj)=tb
 have hTd:tb.data=.fields ([head,.ref L,.none,rawInt L,.none]++(if pl.isEmpty then List.replicate 6 Value.none else pl)).toArray:=by rw [←hTb]
 have hnf:tb.isFreed=false:=by rw [←hTb]; rfl
 have I3:Inv X [] σ H {s with heap:=h2.push tb}:=I2.kept (t':=s.toks) λb o z=>T4 _ z
 have Pz:(h2.push tb).get? e=some {cls:=.ref C,dict:=od,data:=.fields vs,slots:=sl}:=T4 _ ho2
 have Ka:(h2.push tb).get? h2.objs.size=some tb:=T6 _ hnf
 have OJ:H h2.objs.size=none:=I2.hok.fresh (T7 _)
 have neT:h2.objs.size≠e:=λz=>by rw [z]at OJ; rw [OJ]at at_; cases at_
 have QY:∀p∈X.pn,p.1≠h2.objs.size:=λp hp z=>by
  have:=(I2.pin p (List.mem_append_left _ hp)).1
  exact absurd (T5 this) (by rw [z]; exact Nat.lt_irrefl _)
 refine wpAny_setField Pz rfl h1 ?_
 have PH:(Obj.mapFields (·.setIfInBounds 1 (Value.ref h2.objs.size)) {cls:=.ref C,dict:=od,data:=.fields vs,slots:=sl}) ={cls:=.ref C,dict:=od,data:=.fields (vs.setIfInBounds 1 (Value.ref h2.objs.size)),slots:=sl}:=rfl
 have Kt:=Heap.get?_update_self (Obj.mapFields (·.setIfInBounds 1 (Value.ref h2.objs.size))) Pz (by rw [PH]; rfl)
 rw [PH]at Kt
 have Gs:∀b o,b≠e->(h2.push tb).get? b=some o->((h2.push tb).update e (Obj.mapFields (·.setIfInBounds 1 (Value.ref h2.objs.size)))).get? b=some o:=λb o hb z=>(Heap.get?_update_other _ _ (Ne.symm hb)).trans z
 have I4:=I3.write (h':=(h2.push tb).update e (Obj.mapFields (·.setIfInBounds 1 (Value.ref h2.objs.size)))) (t':=s.toks) (x:=e) (e:=e) (o:=xO e C od) (by rw [at_]; trivial) (.inl rfl) Gs ⟨_,Kt⟩ (Hn Kt)
 rw [CT at_]at I4
 refine q _ h2.objs.size I4 ⟨at_,⟨_,sl,Kt,by simp [h1]⟩,OJ,T8 I2.sz (T7 _),QY,tb,_,Gs _ _ neT Ka,hTd,?_⟩
 simp only [Ul,Ub,UG,List.length_nil]
 omega
theorem mU{M:Model}{A:Around}{E:Value->Shared->Prop}{Q:Unit->Shared->Prop}{env':Env}(hA:A.frames=some X.stack)(tp:Top X L)(hf:env'.frame=some L)(I:Inv X [] σ H s)(f:NQ X H s.heap e C od)
  (q:∀s' T,Inv X [] σ H s'->nK X H s'.heap e C od T->Q () s'):wpAny M A (noteFrame (.ref e) env') Q E s:=by
 obtain⟨vs,sl,ho,alt⟩:=f.obj
 unfold noteFrame
 simp only [hf]
 rcases alt with h1 | ⟨T,h1,tb⟩
 ·refine TZ (wpAny_field ho rfl h1 ?_)
  rw [if_neg (by decide)]
  exact um hA tp hf I f.at_ ho (Array.getElem?_eq_some_iff.mp h1).1 q
 ·have fT:nK X H s.heap e C od T:=⟨f.at_,⟨vs,sl,ho,h1⟩,tb⟩
  obtain⟨oT,ts,hT,hdT,h3⟩:=tb.obj
  refine TZ (wpAny_field ho rfl h1 ?_)
  have ne:(Value.ref T != Value.none)=true:=by simp
  rw [if_pos ne]
  refine TZ (wpAny_field hT hdT (UA h3) ?_)
  by_cases hm:(ts[3]==rawInt L)=true
  ·rw [if_pos hm]
   exact T1 (q s T I fT)
  ·rw [if_neg hm]
   have z:=I.mark fT .none
   refine TZ (wpAny_setField hT hdT h3 ?_)
   obtain⟨vs',sl',ho',h1'⟩:=z.2.obj
   exact um hA tp hf z.1 f.at_ ho' (Array.getElem?_eq_some_iff.mp h1').1 q
end
def XE(X:Cx)(E:XK):Value->Shared->Prop:=λev s'=>∃e C od σ' H',ev=.ref e/\Inv X [] σ' H' s'/\NQ X H' s'.heap e C od/\E (.ref C) (some e) H'
abbrev Cx.xs(X:Cx)(E:XK):Cx:=X.wish (XE X E)
def zu(P:Program)(w:World):q5:=λouter H s E ev s'=>∃e C od H',ev=.ref e/\s'.os=s.os/\AllBare s'.gens/\Un (frs outer) [] H H' s.heap s'.heap/\i7 P w H' s'.heap/\E (.ref C) (some e) H'/\H' e=some (xO e C od)/\
 ∃vs sl T oT ts,s'.heap.get? e=some {cls:=.ref C,dict:=od,data:=.fields vs,slots:=sl}/\vs[1]? = some (.ref T)/\H' T=none/\s.heap.objs.size<=T/\s'.heap.get? T=some oT/\oT.data=.fields ts/\3<ts.size
theorem y4{X:Cx}{E:XK}:Passes (zu X.prog X.w) (X.xs E) E:=by
 intro pins σ H s ev s' I h
 obtain⟨e,C,od,H',rfl,os,bare,un,hok,hE,at_,vs,sl,T,oT,ts,ho,h1,hT,hn,hoT,hd,h3⟩:=h
 have I':Inv (X.xs E) pins σ H' s':=I.call' (ch:=[]) os un hok bare λb z=>absurd z (by simp)
 have I2:Inv X [] σ H' s':=(I'.iQ (pins':=[]) λp hp=>absurd hp (by simp)).c_
 refine⟨e,C,od,σ,H',rfl,I2,⟨at_,vs,sl,ho,.inr ⟨T,h1,hT,T8 I.sz hn,λp hp z=>?_,oT,ts,hoT,hd,h3⟩⟩,hE⟩
 have:=(I.pin p (List.mem_append_left _ hp)).1
 exact absurd (Ue (T5 this) hn) (by rw [z]; exact Nat.lt_irrefl _)
theorem Bi{X:Cx}{E:XK}{L:Addr}(tp:Top X L):PassesOwn (model X.prog X.w) X.A X.env (XE X E):=by
 intro ev s' h
 obtain⟨e,C,od,σ,H,rfl,I,f,hE⟩:=h
 refine mU I.ok.frames tp tp.fr I f λs2 T I2 f2=>?_
 obtain⟨vs,sl,g1,g2⟩:=f2.obj
 show wpAny _ _ (field (.ref e) 1 >>= _) _ _ s2
 refine TZ (wpAny_field g1 rfl g2 ?_)
 have ne:¬((Value.ref T==Value.none)=true):=by simp
 rw [if_neg ne]
 have fin:=hV (M:=model X.prog X.w) (A:=X.A) (E:=XE X E) (Q:=λ_ s3=>XE X E (.ref e) s3) I2 f2 X.env.frame λs3 I3 f3=>⟨e,C,od,σ,H,rfl,I3,f3.QC,hE⟩
 first
  | exact fin
  | exact TZ (T1 fin)
theorem CB{X:Cx}{E:XK}{L:Addr}{ev:Value}{s':Shared}{Q:Unit->Shared->Prop}{E2:Value->Shared->Prop}(tp:Top X L)(h:XE X E ev s')(q:∀e C od σ H s2 T,ev=.ref e->Inv X [] σ H s2->nK X H s2.heap e C od T->E (.ref C) (some e) H->Q () s2) :
  wpAny (model X.prog X.w) X.A (leaving X.env ev) Q E2 s':=by
 obtain⟨e,C,od,σ,H,rfl,I,f,hE⟩:=h
 unfold leaving
 exact TZ (mU I.ok.frames tp tp.fr I f λs2 T I2 f2=>hV I2 f2 none λs3 I3 f3=>q e C od σ H s3 T rfl I3 f3 hE)
section
variable{P:Program}{w:World}{K:UJ}{mg:Str->Option Value}{base:Heap}
theorem tK{CX:q5}{N:List Str}{qual:Str}{sc:Scope}{f:Addr}{cd:Value}{A:Around}{outer:List Env}{s:Shared}{H:Hp}{E:XK}:Top (qB CX P w K mg base N qual sc f cd A outer s H E) s.heap.objs.size:=⟨⟨_,_,rfl,rfl⟩,rfl⟩
theorem AZ.Kh{x qual:Str}{st:Stmt}{f:Addr}{fd:FuncData}{N ps:List Str}{k:Nat}{sp:Sp}(F:AZ K x qual st f fd)(S:ay N ps (ar st))(len:∀vs H Q E,sp vs H Q E->vs.length=ps.length)
  (hbody:∀(cdv:Value) (A:Around) (outer:List Env) (s:Shared) (H:Hp) (vs:List V) (Q:VK) (E:XK),eJ k (A.deeper (envOfC qual (ar st) s.heap.objs.size f cdv))->sp vs H Q E->
   ∃t,pL ((qB (zu P w) P w K mg base N qual (ar st) f cdv A outer s H E).xs E) (cR st) t/\t {nx:=λ_ H'=>Q .non H',rt:=Q} (start N vs) H):eZ P w K mg base (zu P w) (k+1) f fd ps sp:=by
 obtain⟨oc,od,kV,doc,pm,an,cdv,ct,osl,rfl,lk,hcd⟩:=F.ex
 refine Hj lk hcd S len λA outer s H vs Q E hr hsp=>?_
 obtain⟨t,h,q⟩:=hbody cdv A outer s H vs Q E hr hsp
 refine⟨t,λpins s1 σ H1 D I hw=>?_,q⟩
 refine UB (h pins s1 σ H1 D (I.wish _) hw) (λ_ _ z=>z.c_) λev s2 hx=>?_
 refine CB tK hx λe C od de H2 s3 T ee I3 f3 hE=>?_
 subst ee
 obtain⟨QZ,Rz,g1,g2⟩:=f3.obj
 obtain⟨oT,ts,t1,t2,t3⟩:=f3.tb.obj
 exact⟨e,C,od,H2,rfl,I3.os,I3.bare,I3.base,I3.hok,hE,f3.at_,QZ,Rz,T,oT,ts,g1,g2,f3.tb.free,f3.tb.new,t1,t2,t3⟩
end
end L2
namespace L2
open PySem PyProof.Rows
theorem fs{N P:List Str}{sc:Scope}(h1:sc.kind=.function:=by rfl)(h2:sc.isCoroutine=false:=by rfl)(h3:sc.isGenerator=false:=by rfl)(h4:N.Nodup:=by decide +kernel)(h5:N.take P.length=P:=by rfl)
  (h6:∀x∈P,sc.names.lookup x=some .local\/sc.names.lookup x=some .cell:=by decide +kernel) (h7:∀y∈sc.names,y.2≠ .free:=by decide +kernel):ay N P sc:=⟨h1,h2,h3,h4,h5,h6,h7⟩
theorem JL{P:List Value->Prop}(h:∀a0,P [a0]):∀us:List Value,us.length=1->P us:=λus hl=>match us,hl with | [_],_=>h _
theorem JN{P:List Value->Prop}(h:∀a0 a1,P [a0,a1]):∀us:List Value,us.length=2->P us:=λus hl=>match us,hl with | [_,_],_=>h _ _
theorem E3{P:List Value->Prop}(h:∀a0 a1 a2,P [a0,a1,a2]):∀us:List Value,us.length=3->P us:=λus hl=>match us,hl with | [_,_,_],_=>h _ _ _
theorem IP{P:List Value->Prop}(h:∀a0 a1 a2 a3,P [a0,a1,a2,a3]):∀us:List Value,us.length=4->P us:=λus hl=>match us,hl with | [_,_,_,_],_=>h _ _ _ _
theorem HV{P:List Value->Prop}(h:∀a0 a1 a2 a3 a4,P [a0,a1,a2,a3,a4]):∀us:List Value,us.length=5->P us:=λus hl=>match us,hl with | [_,_,_,_,_],_=>h _ _ _ _ _
structure FA(K:UJ)(mg:Str->Option Value)(x:Str)(st:Stmt):Prop where
 ex:∃f fd,AZ K x x st f fd/\mg x=some (.ref f)
structure bc(CX:q5)(P:Program)(w:World)(K:UJ)(mg:Str->Option Value)(base:Heap)(k:Nat)(x:Str)(ps:List Str)(sp:Sp):Prop where
 ex:∃f fd,eZ P w K mg base CX k f fd ps sp/\Binds K fd ps []/\PySem.W.keepIn K (.ref f)=true/\mg x=some (.ref f)
def FnAt(P:Program)(w:World)(K:UJ)(mg:Str->Option Value)(base:Heap)(k:Nat)(f:Addr)(ps:List Str)(sp:Sp):Prop :=
 ∃fd,eZ P w K mg base bf k f fd ps sp/\Binds K fd ps []/\PySem.W.keepIn K (.ref f)=true
section
variable{CX:q5}{P:Program}{w:World}{K:UJ}{mg:Str->Option Value}{base:Heap}{x:Str}{st:Stmt}{ps N:List Str}{sp:Sp}{j k:Nat}
theorem bc.m(G:bc CX P w K mg base j x ps sp)(h:j<=k:=by decide):bc CX P w K mg base k x ps sp:=by
 obtain⟨f,fd,h1,h2⟩:=G.ex
 exact⟨f,fd,h1.mono h,h2⟩
theorem bc.at{f:Addr}(G:bc bf P w K mg base k x ps sp)(h:mg x=some (.ref f)):FnAt P w K mg base k f ps sp:=by
 obtain⟨g,fd,h1,h2,h3,h4⟩:=G.ex
 cases h4.symm.trans h
 exact⟨fd,h1,h2,h3⟩
theorem FA.cal(F:FA K mg x st)(ok:∀f fd,AZ K x x st f fd->eZ P w K mg base CX k f fd ps sp)
  (hb:∀(kV doc pm:Value) (an:Option Addr) (cdv ct:Value) (us:List Value),us.length=ps.length->bindArgs (PySem.W.fnOf x x (dX st) (cR st) (ar st) .none kV doc pm an cdv ct) ⟨us,[]⟩=pure (ps.zip us):=by first
   | (intro _ _ _ _ _ _; refine L2.JL ?_; intro _; rfl)
   | (intro _ _ _ _ _ _; refine L2.JN ?_; intro _ _; rfl)
   | (intro _ _ _ _ _ _; refine L2.E3 ?_; intro _ _ _; rfl)
   | (intro _ _ _ _ _ _; refine L2.IP ?_; intro _ _ _ _; rfl)
   | (intro _ _ _ _ _ _; refine L2.HV ?_; intro _ _ _ _ _; rfl)):bc CX P w K mg base k x ps sp:=by
 obtain⟨f,fd,h1,h2⟩:=F.ex
 exact⟨f,fd,ok f fd h1,h1.binds hb,h1.kp,h2⟩
theorem FA.ok(F:FA K mg x st)(S:ay N ps (ar st))
  (hbody:∀(f:Addr) (cdv:Value) (A:Around) (outer:List Env) (s:Shared) (H:Hp) (vs:List V) (Q:VK) (E:XK),eJ k (A.deeper (envOfC x (ar st) s.heap.objs.size f cdv))->sp vs H Q E->
   ∃t,pL (qB bf P w K mg base N x (ar st) f cdv A outer s H E).yz (cR st) t/\t {nx:=λ_ H'=>Q .non H',rt:=Q} (start N vs) H)
  (len:∀vs H Q E,sp vs H Q E->vs.length=ps.length:=by
   intro vs H Q E h
   first
   | exact False.elim h
   | (obtain⟨_,rfl,_⟩:=h; rfl)
   | (obtain⟨_,_,rfl,_⟩:=h; rfl)
   | (obtain⟨_,_,_,rfl,_⟩:=h; rfl)
   | (obtain⟨_,_,_,_,rfl,_⟩:=h; rfl)
   | (obtain⟨_,_,_,_,_,rfl,_⟩:=h; rfl)
   | (obtain⟨_,_,_,_,_,_,rfl,_⟩:=h; rfl)
   | (obtain⟨_,_,_,_,_,_,_,rfl,_⟩:=h; rfl)
   | (obtain⟨_,_,_,_,_,_,_,_,rfl,_⟩:=h; rfl)
   | (obtain⟨_,_,_,_,_,_,_,_,_,rfl,_⟩:=h; rfl)
   | (obtain⟨_,_,_,_,_,_,_,_,_,_,rfl,_⟩:=h; rfl)
   | (obtain⟨_,_,_,_,_,_,_,_,_,_,_,rfl,_⟩:=h; rfl))
  (hb:∀(kV doc pm:Value) (an:Option Addr) (cdv ct:Value) (us:List Value),us.length=ps.length->bindArgs (PySem.W.fnOf x x (dX st) (cR st) (ar st) .none kV doc pm an cdv ct) ⟨us,[]⟩=pure (ps.zip us):=by first
   | (intro _ _ _ _ _ _; refine L2.JL ?_; intro _; rfl)
   | (intro _ _ _ _ _ _; refine L2.JN ?_; intro _ _; rfl)
   | (intro _ _ _ _ _ _; refine L2.E3 ?_; intro _ _ _; rfl)
   | (intro _ _ _ _ _ _; refine L2.IP ?_; intro _ _ _ _; rfl)
   | (intro _ _ _ _ _ _; refine L2.HV ?_; intro _ _ _ _ _; rfl)):bc bf P w K mg base (k+1) x ps sp :=
 F.cal (λf fd h1=>h1.ok S len λcdv A outer s H vs Q E=>hbody f cdv A outer s H vs Q E) hb
theorem FA.Kh(F:FA K mg x st)(S:ay N ps (ar st))
  (hbody:∀(f:Addr) (cdv:Value) (A:Around) (outer:List Env) (s:Shared) (H:Hp) (vs:List V) (Q:VK) (E:XK),eJ k (A.deeper (envOfC x (ar st) s.heap.objs.size f cdv))->sp vs H Q E->
   ∃t,pL ((qB (zu P w) P w K mg base N x (ar st) f cdv A outer s H E).xs E) (cR st) t/\t {nx:=λ_ H'=>Q .non H',rt:=Q} (start N vs) H)
  (len:∀vs H Q E,sp vs H Q E->vs.length=ps.length:=by
   intro vs H Q E h
   first
   | exact False.elim h
   | (obtain⟨_,rfl,_⟩:=h; rfl)
   | (obtain⟨_,_,rfl,_⟩:=h; rfl)
   | (obtain⟨_,_,_,rfl,_⟩:=h; rfl)
   | (obtain⟨_,_,_,_,rfl,_⟩:=h; rfl)
   | (obtain⟨_,_,_,_,_,rfl,_⟩:=h; rfl)
   | (obtain⟨_,_,_,_,_,_,rfl,_⟩:=h; rfl)
   | (obtain⟨_,_,_,_,_,_,_,rfl,_⟩:=h; rfl)
   | (obtain⟨_,_,_,_,_,_,_,_,rfl,_⟩:=h; rfl)
   | (obtain⟨_,_,_,_,_,_,_,_,_,rfl,_⟩:=h; rfl)
   | (obtain⟨_,_,_,_,_,_,_,_,_,_,rfl,_⟩:=h; rfl)
   | (obtain⟨_,_,_,_,_,_,_,_,_,_,_,rfl,_⟩:=h; rfl))
  (hb:∀(kV doc pm:Value) (an:Option Addr) (cdv ct:Value) (us:List Value),us.length=ps.length->bindArgs (PySem.W.fnOf x x (dX st) (cR st) (ar st) .none kV doc pm an cdv ct) ⟨us,[]⟩=pure (ps.zip us):=by first
   | (intro _ _ _ _ _ _; refine L2.JL ?_; intro _; rfl)
   | (intro _ _ _ _ _ _; refine L2.JN ?_; intro _ _; rfl)
   | (intro _ _ _ _ _ _; refine L2.E3 ?_; intro _ _ _; rfl)
   | (intro _ _ _ _ _ _; refine L2.IP ?_; intro _ _ _ _; rfl)
   | (intro _ _ _ _ _ _; refine L2.HV ?_; intro _ _ _ _ _; rfl)):bc (zu P w) P w K mg base (k+1) x ps sp :=
 F.cal (λf fd h1=>h1.Kh S len λcdv A outer s H vs Q E=>hbody f cdv A outer s H vs Q E) hb
end
section
variable{X:Cx}{CX:q5}{x:Str}{ps:List Str}{sp:Sp}{j k:Nat}{E:XK}{e:Expr}{es:List Expr}{t:TA}{p pos:Pos}
theorem vG(G:bc CX X.prog X.w X.K X.mg X.base j x ps sp)(hr:eJ k X.A)(hg:Gl X x)(hx:Passes CX X E)(ha:PA X (e::es) t)(hl:j<=k:=by omega)
  (hdb:(x==("__debug__" : Str))=false:=by decide) (he:starEach (e::es) X.env=(false,eval e X.env)::starEach es X.env:=by rfl) (hpl:(backTo pos (starEach es X.env)).any (·.1)=false:=by rfl) :
  PE X (.Call (.Name x p) (e::es) [] pos) (iW sp [] E t):=by
 obtain⟨f,fd,h1,h2,h3,h4⟩:=G.ex
 exact EU (h1.mono hl) hr hg h4 h3 h2 .nil hx ha hdb he hpl
end
section
variable{X:Cx}{a b e:Expr}{ta tb te:TE}{pos p pos2:Pos}{es:List Expr}{t:TA}
theorem az(K:UJ)(ha:PE X a ta)(hb:PE X b tb)(e:X.K=K:=by rfl)(hs:m5 b:=by exact λ_ _=>rfl):PE X (.Subscript a b pos) (gB (sj K) ta tb):=by subst e; exact fX CJ ha hb hs
theorem bj(K:UJ)(ha:PE X a ta)(hb:PE X b tb)(e:X.K=K:=by rfl)(hs:m5 b:=by exact λ_ _=>rfl):PE X (.Subscript a b pos) (gB (xJ K) ta tb):=by subst e; exact fX fE ha hb hs
theorem aW{op:CmpOp}{r:R2}(ho:i3 X (compareOp op) r)(ha:PE X a ta)(hb:PE X b tb)(hm:behindInMarks op b=false:=by exact Bv _):PT X (.Compare a [op] [b] pos) (qK (gB r ta tb)):=dc ho ha hb hm
theorem bU{op:CmpOp}{r:R2}(ho:i3 X (compareOp op) r)(ha:PE X a ta)(hb:PE X b tb)(hm:behindInMarks op b=false:=by exact Bv _):PE X (.Compare a [op] [b] pos) (gB r ta tb):=fF ho ha hb hm
theorem ax{x:Str}{ps:List Str}{sp:Sp}{j k:Nat}(G:bc bf X.prog X.w X.K X.mg X.base j x ps sp)(hr:eJ k X.A)(ha:PA X (e::es) t)(hg:Gl X x:=by rfl)(hl:j<=k:=by omega)
  (hdb:(x==("__debug__" : Str))=false:=by decide) (he:starEach (e::es) X.env=(false,eval e X.env)::starEach es X.env:=by rfl) (hpl:(backTo pos (starEach es X.env)).any (·.1)=false:=by rfl) :
  PE X (.Call (.Name x p) (e::es) [] pos) (iW sp [] E0 t):=vG G hr hg uv ha hl hdb he hpl
theorem av(he:PE X e te):pL X [.Return (some e) pos] (CO te):=bK (BK he)
theorem aN{c:Expr}{tc:TT}{u:TS}{rest:List Stmt}(hc:PT X c tc)(he:PE X e te)(hr:pL X rest u):pL X (.If c [.Return (some e) pos] [] pos2::rest) (Fy (Hz tc (CO te) DE) u):=aq (dv hc (av he) b9) hr
end
theorem iM{A:Around}{k:Nat}(hr:eJ k A):A.units+8<cLine:=by have:=hr.un; omega
theorem xy:0<=sizeLine:=by decide
theorem dP:1<=sizeLine:=by decide
theorem cJ:2<=sizeLine:=by decide
theorem gq:3<=sizeLine:=by decide
theorem Mo:4<=sizeLine:=by decide
theorem r8:5<=sizeLine:=by decide
theorem Mu:6<=sizeLine:=by decide
theorem Oo:7<=sizeLine:=by decide
theorem Mr:12<=sizeLine:=by decide
def FK(K:UJ)(x:Str)(st:Stmt)(f:Addr):Prop:=PySem.W.nsIn K mainGlobals x=some (some (.ref f))/\∃fd,AZ K x x st f fd
theorem FK.fa{K:UJ}{h:Heap}{mg:Str->Option Value}{x:Str}{st:Stmt}{f:Addr}(F:FK K x st f)(X:K.In h)(G:h.Ns mainGlobals mg):FA K mg x st:=by
 obtain⟨h1,fd,h2⟩:=F
 exact⟨f,fd,h2,PySem.W.mg_of X G h1⟩
theorem FK.h{K:UJ}{h:Heap}{mg:Str->Option Value}{x:Str}{st:Stmt}{f:Addr}(F:FK K x st f)(X:K.In h)(G:h.Ns mainGlobals mg):mg x=some (.ref f):=PySem.W.mg_of X G F.1
theorem Ln{K:UJ}{x:Str}{st:Stmt}{f:Addr}{oc:Value}{od an:Option Addr}{osl:Array (Option Value)}{kV doc pm cdv ct:Value}(a:PySem.W.nsIn K mainGlobals x=some (some (.ref f)))
  (l:K.lookup f=some ⟨oc,od,.func (PySem.W.fnOf x x (dX st) (cR st) (ar st) .none kV doc pm an cdv ct),osl⟩) (c:PySem.W.codeIn K cdv x=true) (k:PySem.W.keepIn K (.ref f)=true):FK K x st f :=
 ⟨a,_,yf l c k⟩
end L2
namespace My
open PySem L2
def top(i:Nat):Stmt:=PySem.Challenge.pw_rowpipes_k24_whole_heads.main.body.getD i (.Pass ⟨0,0,0,0⟩)
abbrev C4:Stmt:=top 51
abbrev Jg:Stmt:=top 52
abbrev B0:Stmt:=top 53
abbrev tQ:Stmt:=top 54
abbrev Cm:Stmt:=top 55
abbrev L9:List Str:=["_law_script","_law_k"]
abbrev Oz:List Str:=["_law_script","_law_k","_law_cell_here"]
abbrev Kz:List Str:=["_law_pot_here","_law_many_here","_law_digit"]
abbrev E9:List Str:=["_law_pot_here","_law_near","_law_far"]
abbrev MI:List Str:=["_law_pot_here","_law_letters","_law_some"]
theorem Jq:ay L9 ["_law_script","_law_k"] (ar C4):=fs
theorem Ha:ay Oz ["_law_script","_law_k"] (ar Jg):=fs
theorem Cp:ay Kz ["_law_pot_here","_law_many_here"] (ar B0):=fs
theorem pd:ay E9 ["_law_pot_here"] (ar tQ):=fs
theorem v_:ay MI ["_law_pot_here"] (ar Cm):=fs
structure jJ(mg:Str->Option Value):Prop where
 len:mg "len"=none
 max:mg "max"=none
 abs:mg "abs"=none
 divmod:mg "divmod"=none
 range:mg "range"=none
 tuple:mg "tuple"=none
 list:mg "list"=none
 isinstance:mg "isinstance"=none
variable{P:Program}{w:World}{K:UJ}{mg:Str->Option Value}{base:Heap}
theorem E8(B:jJ mg)(F:FA K mg "_law_cell_at" C4) :
  bc bf P w K mg base 1 "_law_cell_at" ["_law_script","_law_k"] (CQ K):=by
 refine F.ok Jq λf cdv A outer s H vs Q E hr h=>?_
 obtain⟨a,ns,k,rfl,hS,h0,q⟩:=h
 refine⟨_,aq (dv (aW Br (pv 1) (aZ bF rfl B.len PySem.boot_len (ae (pv 0) ah))) (av (fX fE (pv 0) (pv 1) (λ_ _=>rfl))) b9)
  (av ai),?_⟩
 refine⟨_,rfl,_,rfl,a,_,rfl,.inl hS,_,_,rfl,rfl,_,rfl,?_⟩
 refine cH (λc=>?_) (λc=>?_)
 ·have c':k<(((ns.map V.int).length:Nat):Int):=UI c
  obtain⟨v,hv,hg⟩:=CG h0 c'
  rw [Uy]at hg
  cases e:ns[k.toNat]? with
  | none=>rw [e]at hg; cases hg
  | some n =>
   rw [e]at hg
   have hg':V.int n=v:=Uv hg
   subst hg'
   exact⟨_,rfl,_,rfl,a,_,_,_,rfl,rfl,hS,hv,q n⟩
 ·exact q 0
theorem Ja(B:jJ mg)(F:FA K mg "_law_pot" Jg)(G:bc bf P w K mg base 1 "_law_cell_at" ["_law_script","_law_k"] (CQ K)) :
  bc bf P w K mg base 2 "_law_pot" ["_law_script","_law_k"] (Gw K):=by
 refine F.ok Ha λf cdv A outer s H vs Q E hr h=>?_
 obtain⟨a,ns,k,rfl,hS,h0,h1,q⟩:=h
 refine⟨_,aq (aL (i:=2) Ha.nd rfl (Or.inl rfl) (ax G hr (ae (pv 0) (ae (pv 1) ah))))
  (av (aQ (ae (aZ (AQ rfl) rfl B.max PyProof.Rows.boot_max (ae ai (ae (aF bJ (pv 2) (aF lH ai ai)) ah)))
   (ae (aF cV (aF nP (aF cV (aF cV (aZ C2 rfl B.abs PyProof.Rows.boot_abs (ae (pv 2) ah)) (aF l6 ai (pv 1))) ai) ai) ai) ah)))),?_⟩
 refine⟨_,rfl,_,rfl,a,ns,k,rfl,hS,h0,λn=>?_⟩
 refine⟨_,rfl,_,_,rfl,rfl,⟨by decide,by decide,by decide⟩,_,_,rfl,rfl,_,_,rfl,?_⟩
 refine⟨_,rfl,_,rfl,_,rfl,_,_,rfl,rfl,.inl ⟨by decide,by decide⟩,_,_,rfl,rfl,_,_,rfl,rfl,_,_,rfl,rfl,(by show(0:Int)<2147483629; decide),_,_,rfl,rfl,cJ,λp hp=>?_⟩
 refine q p _ hp (aj hp _) ⟨_,_,ag,?_,?_,?_⟩
 ·split <;> omega
 ·have:=Int.emod_nonneg ((if n<0 then -n else n)+7919*k+3) (show(2147483629:Int)≠0 by decide)
  omega
 ·have:=Int.emod_lt_of_pos ((if n<0 then -n else n)+7919*k+3) (show(0:Int)<2147483629 by decide)
  omega
theorem Ge(B:jJ mg)(F:FA K mg "_law_draw" B0) :
  bc bf P w K mg base 1 "_law_draw" ["_law_pot_here","_law_many_here"] dm:=by
 refine F.ok Cp λf cdv A outer s H vs Q E hr h=>?_
 obtain⟨p,m,rfl,⟨a,b,hp,ha,hb,hb'⟩,hm,hm',q⟩:=h
 refine⟨_,aq (dv (aW il (fX fE (pv 0) ai (λ_ _=>rfl)) ai)
   (aq (pQ (aZ rH rfl B.divmod PyProof.Rows.boot_divmod (ae (fX fE (pv 0) ai (λ_ _=>rfl)) (ae (pv 1) ah)))
    (cB rfl (aA (BP (pv 0) ai set_list) (aA (bT (i:=2) Cp.nd rfl (Or.inl rfl)) bS))))
   (av (pv 2))) b9)
  (aq (pQ (aF nP (aF cV (aF l6 (fX fE (pv 0) ai (λ_ _=>rfl)) ai) ai) ai) (BP (pv 0) ai set_list))
  (av (aF nP (aF yG (aF nP (aF l6 (fX fE (pv 0) ai (λ_ _=>rfl)) (fX fE (pv 0) ai (λ_ _=>rfl))) ai) ai) (pv 1)))),?_⟩
 refine⟨_,rfl,p,_,_,_,rfl,rfl,a_.of hp,rfl,_,_,rfl,rfl,_,rfl,?_⟩
 refine cH (λc=>?_) (λc=>?_)
 ·refine⟨_,rfl,p,_,_,_,rfl,rfl,a_.of hp,rfl,_,rfl,_,_,rfl,⟨hm,hm'⟩,λt ht=>?_⟩
  have np:p≠t:=aU hp ht
  refine⟨t,_,rfl,aH.of ag,rfl,_,_,rfl,_,rfl,p,_,_,0,rfl,rfl,(by rw [aI np]; exact hp),rfl,_,_,rfl,rfl,?_⟩
  refine⟨_,rfl,q _ _ ⟨λc o nc e=>?_,_,_,ag,Int.ediv_nonneg ha (by omega),hb,hb'⟩ (Int.emod_nonneg _ (by omega)) (Int.emod_lt_of_pos _ hm)⟩
  rw [aI nc,aI (aU e ht)]
  exact e
 ·have h1:=Int.emod_nonneg (b*48271+11) (show(2147483647:Int)≠0 by decide)
  have h2:=Int.emod_lt_of_pos (b*48271+11) (show(0:Int)<2147483647 by decide)
  refine⟨_,rfl,p,_,_,_,rfl,rfl,a_.of hp,rfl,_,_,rfl,rfl,.inr ⟨by decide,by decide⟩,_,_,rfl,rfl,_,_,rfl,rfl,(by show(0:Int)<2147483647; decide),_,rfl,p,_,_,1,rfl,rfl,hp,rfl,?_⟩
  refine⟨_,rfl,p,_,_,_,rfl,rfl,a_.of ag,rfl,_,rfl,p,_,_,_,rfl,rfl,a_.of ag,rfl,_,_,rfl,rfl,.inl ⟨?_,?_⟩,_,_,rfl,rfl,(by show(0:Int)<2147483629; decide),_,_,rfl,rfl,⟨by decide,by decide⟩,_,rfl,_,_,rfl,rfl,hm,?_⟩
  ·have e:((2:Int) ^ 64)=18446744073709551616:=by decide
   rw [e]; omega
  ·have e:((2:Int) ^ 64)=18446744073709551616:=by decide
   rw [e]; omega
  ·exact q _ _ ⟨λc o nc e=>by rw [aI nc]; exact e,_,_,ag,ha,h1,by omega⟩ (Int.emod_nonneg _ (by omega)) (Int.emod_lt_of_pos _ hm)
theorem AJ(F:FA K mg "_law_number" tQ)(G:bc bf P w K mg base 1 "_law_draw" ["_law_pot_here","_law_many_here"] dm) :
  bc bf P w K mg base 2 "_law_number" ["_law_pot_here"] pG:=by
 refine F.ok pd λf cdv A outer s H vs Q E hr h=>?_
 obtain⟨p,rfl,hP,q⟩:=h
 refine⟨_,aq (aL (i:=1) pd.nd rfl (Or.inl rfl) (aF bJ (ax G hr (ae (pv 0) (ae ai ah))) ai))
  (aN (aW il (ax G hr (ae (pv 0) (ae ai ah))) ai) (pv 1)
  (aq (aL (i:=2) pd.nd rfl (Or.inl rfl) (aQ (ae (aF cV (aF bJ (ax G hr (ae (pv 0) (ae (aF bJ (aF l6 ai (aF lH ai ai)) ai) ah))) (aF lH ai ai)) ai)
   (ae (aF bJ (aF lH ai ai) ai) (ae (aF bJ ai (aF lH ai ai)) ah)))))
  (av (fX fE (pv 2) (aF cV (aF yG (ax G hr (ae (pv 0) (ae ai ah))) ai) (aF nP (pv 1) ai)) (λ_ _=>rfl))))),?_⟩
 refine⟨_,rfl,p,_,rfl,hP,by decide,by decide,λd1 H1 g1 a1 b1=>⟨_,_,rfl,rfl,?_⟩⟩
 refine⟨_,rfl,p,_,rfl,g1.cf,by decide,by decide,λd2 H2 g2 a2 b2=>⟨_,_,rfl,rfl,_,rfl,?_⟩⟩
 have Hm:((10:Int) ^ (60:Nat))=1000000000000000000000000000000000000000000000000000000000000:=by decide
 refine cH (λc=>?_) (λc=>?_)
 ·exact⟨_,rfl,q _ _ (g1.trans g2) (by rw [Hm]; omega) (by rw [Hm]; omega)⟩
 ·refine⟨_,rfl,_,_,rfl,rfl,⟨by decide,by decide,by decide⟩,_,_,rfl,rfl,.inl ⟨by decide,by decide⟩,_,_,rfl,rfl,p,_,rfl,g2.cf,by decide +kernel,by decide +kernel,λd3 H3 g3 a3 b3=>?_⟩
  have TM:d3<1999999999999999999999999999999999999999999999999999999999999:=b3
  refine⟨_,_,rfl,rfl,⟨by decide,by decide,by decide⟩,_,_,rfl,rfl,_,_,rfl,rfl,_,_,rfl,rfl,⟨by decide,by decide,by decide⟩,_,_,rfl,rfl,_,_,rfl,rfl,⟨by decide,by decide,by decide⟩,_,_,rfl,rfl,gq,λl hl=>?_⟩
  have IZ:=(g1.trans g2).trans g3
  have n1:l≠p:=λe=>by subst e; obtain⟨_,_,z,_⟩:=IZ.cf; rw [z]at hl; cases hl
  refine⟨_,rfl,_,rfl,p,_,rfl,(IZ.new hl).cf,by decide,by decide,λd4 H4 g4 a4 b4=>?_⟩
  have RN:=g4.keep l _ n1 ag
  refine⟨_,_,rfl,rfl,⟨by decide,by decide⟩,_,rfl,_,_,rfl,rfl,(by show(0:Int)<2; decide),_,_,rfl,rfl,?_⟩
  have i0:0<=d4 / 2+(d1-15) % 2:=by omega
  have i1:d4 / 2+(d1-15) % 2<(3:Nat):=by omega
  obtain⟨v,hv,hm⟩:=yp (xs:=[V.int (d3-10 ^ (60:Int).toNat+1),V.int (10 ^ (60:Int).toNat-1),V.int (1-10 ^ (60:Int).toNat)]) i0 i1
  have good:∃n:Int,v=.int n/\-(10 ^ 60)<n/\n<10 ^ 60:=by
   have zH:((10:Int) ^ ((60:Int).toNat))=1000000000000000000000000000000000000000000000000000000000000:=by decide
   simp only [Uq,List.not_mem_nil,or_false]at hm
   rcases hm with rfl | rfl | rfl
   ·exact⟨_,rfl,by rw [Hm,zH]; omega,by rw [Hm,zH]; omega⟩
   ·exact⟨_,rfl,by rw [Hm,zH]; omega,by rw [Hm,zH]; omega⟩
   ·exact⟨_,rfl,by rw [Hm,zH]; omega,by rw [Hm,zH]; omega⟩
  obtain⟨n,rfl,q1,q2⟩:=good
  exact⟨l,_,_,_,rfl,rfl,a_.of RN,hv,q n _ ((IZ.new hl).trans g4) q1 q2⟩
def letters:Str:="abcdefghijklmnopqrstuvwxyz"
theorem w_:∀c∈letters.cps.toList,97<=c/\c<=122:=by decide +kernel
theorem vH:letters.cps.toList.length=26:=by decide +kernel
theorem FL(B:jJ mg)(F:FA K mg "_law_word" Cm)(G:bc bf P w K mg base 1 "_law_draw" ["_law_pot_here","_law_many_here"] dm) :
  bc bf P w K mg base 2 "_law_word" ["_law_pot_here"] tM:=by
 refine F.ok v_ λf cdv A outer s H vs Q E hr h=>?_
 obtain⟨p,rfl,hP,q⟩:=h
 refine⟨_,aq (aL (i:=1) v_.nd rfl (Or.inr rfl) ao)
  (aq (aL (i:=2) v_.nd rfl (Or.inr rfl) (fX fE (aQ (ae ai (ae ai ah))) (ax G hr (ae (pv 0) (ae ai ah))) (λ_ _=>rfl)))
  (av (ll PySem.F.plainAttrs_str PySem.F.slot_str_join PySem.F.type_str_join Fp ao
   (ae (bw (N':=["_law_k","_law_pot_here","_law_letters","_law_some"]) (src:=[none,some 0,some 1,some 2]) rfl (ba.jE (by kernel_rfl))
    (dk rfl B.range (ae (aF cV ai (aF l6 (ax G hr (ae (pv 0) (ae ai ah))) (ax G hr (ae (pv 0) (ae ai ah))))) ah))
    (λcl C s H fp=>el (i:=0))
    (λcl C s H fp=>aX)
    (λcl C s H fp=>fX Io (yl 2) (ax (hg:=xP) G hr (ae (yl 1) (ae (yl 3) ah))) (λ_ _=>rfl))) ah)))),?_⟩
 refine⟨cJ,λl hl=>?_⟩
 have n1:l≠p:=λe=>by subst e; obtain⟨_,_,z,_⟩:=hP; rw [z]at hl; cases hl
 refine⟨_,rfl,p,_,rfl,((bo.refl hP).new hl).cf,by decide,by decide,λd1 H1 g1 a1 b1=>?_⟩
 have Eo:=((bo.refl hP).new hl).trans g1
 obtain⟨v,hv,hm⟩:=yp (xs:=[V.int 3,V.int 26]) a1 b1
 have good:∃n:Int,v=.int n/\0<n/\n<=26:=by
  simp only [Uq,List.not_mem_nil,or_false]at hm
  rcases hm with rfl | rfl
  ·exact⟨3,rfl,by decide,by decide⟩
  ·exact⟨26,rfl,by decide,by decide⟩
 obtain⟨n,rfl,n0,n26⟩:=good
 refine⟨l,_,_,_,rfl,rfl,a_.of (g1.keep l _ n1 ag),hv,rfl,?_⟩
 refine⟨_,rfl,p,_,rfl,Eo.cf,by decide,by decide,λd2 H2 g2 a2 b2=>?_⟩
 refine⟨_,rfl,p,_,rfl,g2.cf,by decide,by decide,λd3 H3 g3 a3 b3=>?_⟩
 have IZ:=(Eo.trans g2).trans g3
 have Tx:0<=d2*d3/\d2*d3<=7:=by
  have e:d2=0\/d2=1:=by omega
  rcases e with rfl | rfl <;> omega
 refine⟨_,_,rfl,rfl,.inl ⟨?_,?_⟩,_,_,rfl,rfl,_,rfl,?_,?_,λD hD=>?_⟩
 ·have e:((2:Int) ^ 64)=18446744073709551616:=by decide
  rw [e]; omega
 ·have e:((2:Int) ^ 64)=18446744073709551616:=by decide
  rw [e]; omega
 ·have e:((2:Int) ^ 62)=4611686018427387904:=by decide
  rw [e]; omega
 ·have e:((2:Int) ^ 62)=4611686018427387904:=by decide
  rw [e]; omega
 have n2:D≠p:=λe=>by subst e; obtain⟨_,_,z,_⟩:=IZ.cf; rw [z]at hD; cases hD
 have log:n.natAbs.log2<9000:=Ud (Nat.log2_le_self _) (by omega)
 refine iF (λi σ ys H'=>∃(o:Option V) (zs:List Nat),σ=[o,some (.ref p),some (.str letters),some (.int n)]/\ys=zs.map (λc=>V.str (sgn c))/\zs.length=i/\(∀c∈zs,97<=c/\c<=122)/\H' D=some (.lst ys)/\bo p H H')
  ⟨none,[],rfl,rfl,rfl,(λ_ z=>nomatch z),ag,IZ.new hD⟩ ?_ ?_ ?_ ?_
 ·rintro i σ ys H' _ ⟨o,zs,_,rfl,rfl,_,h,_⟩
  exact⟨h,by rw [Ua]; exact T7 _⟩
 ·exact T8 (show(1+d2*d3).toNat<=8 by omega) (by decide)
 ·rintro i σ ys H' hi ⟨o,zs,rfl,rfl,rfl,hz,hD',g'⟩
  refine⟨_,rfl,_,rfl,_,rfl,p,n,rfl,g'.cf,n0,log,λd H4 g4 a4 b4=>?_⟩
  obtain⟨c,hc,cm⟩:=E4 (z:=letters) a4 (by rw [vH]; omega)
  refine⟨letters,_,c,rfl,rfl,?_,hc,g4.keep D _ n2 hD',some (.int (0+(zs.length:Nat))),zs++[c],rfl,?_,?_,?_,ag,?_⟩
  ·exact T8 (show letters.length<=26 by decide +kernel) (by decide)
  ·rw [Uc]; rfl
  ·rw [Ub]; rfl
  ·intro y hy
   rcases Us.mp hy with z | z
   ·exact hz y z
   ·have:y=c:=by simpa using z
    subst this
    exact w_ y cm
  ·exact IZ.put hD n2 (g'.trans g4)
 ·rintro σ ys H' ⟨o,zs,_,rfl,hl',hz,hD',g'⟩
  refine⟨"",D,zs.map sgn,rfl,rfl,?_,?_,?_⟩
  ·rw [List.map_map]; exact a_.of hD'
  ·rw [EX,Ua]
   have:zs.length<=8:=by omega
   have e:("" : Str).length=0:=by decide +kernel
   rw [e]; omega
  ·exact q _ _ g' (Ir (xN zs) (by omega) (by omega) hz)
end My
namespace L2
open PySem PySem.Spec PyProof.Rows
section
variable{X:Cx}{pins:List (Addr×Obj)}{σ:St}{H:Hp}{s:Shared}
theorem mZ{xs:List V}{its:List Value}(r:Vals xs its){j:Nat}(h:j<its.toArray.size):∃x,xs[j]? = some x/\RelV x its.toArray[j]:=by
 have hj:j<its.length:=by simpa using h
 have hx:j<xs.length:=by rw [r.length]; exact hj
 refine⟨xs[j],by simp [hx],?_⟩
 obtain⟨u,e,ru⟩:=r.get (i:=j) (x:=xs[j]) (by simp [hx])
 have e':its[j]=u:=by rw [Ug hj]at e; exact Uv e
 show RelV xs[j] its[j]
 rw [e']; exact ru
end
section
variable{X:Cx}
theorem vE{bs:List Bool}{its:List Value}(r:Vals (bs.map V.bl) its){i:Nat}{v:Value}(h:its.toArray[i]? = some v):∃b,bs[i]? = some b/\v=.bool b:=by
 have h':its[i]? = some v:=by simpa using h
 have hi:=(Um.mp h').1
 have hb:i<bs.length:=by
  have:=r.length
  rw [Ua]at this
  omega
 obtain⟨u,e,ru⟩:=r.get (i:=i) (x:=.bl bs[i]) (by rw [Uy,Ug hb]; rfl)
 rw [h']at e
 cases e
 exact⟨bs[i],Ug hb,ru⟩
theorem range_all(bs:List Bool):(List.range bs.length).all (λi=>bs.getD i true)=bs.all id:=by
 induction bs with
 | nil=>rfl
 | cons b r ih =>
  rw [UG,List.range_succ_eq_map,List.all_cons,List.all_map,List.all_cons]
  show(b&&_)=(b&&_)
  rw [←ih]
  rfl
theorem range_any(bs:List Bool):(List.range bs.length).any (λi=>bs.getD i true)=bs.any id:=by
 induction bs with
 | nil=>rfl
 | cons b r ih =>
  rw [UG,List.range_succ_eq_map,List.any_cons,List.any_map,List.any_cons]
  show(b||_)=(b||_)
  rw [←ih]
  rfl
theorem iq(hc:X.calm=true):fk X (.builtin "all") (λxs H Q=>∃(p:Addr) (bs:List Bool),xs=[.ref p]/\a_ X.K H p (bs.map V.bl)/\Q (.bl (bs.all id)) H):=by
 intro pins s σ H xs us Q I r h
 obtain⟨p,bs,rfl,hS,q⟩:=h
 obtain⟨u,rfl,ru⟩:=vals1 r
 cases ru
 obtain⟨its,rv,pl,hz⟩:=I.list hS
 have hp:p<s.heap.objs.size:=by obtain⟨o,e,_⟩:=pl.isList; exact T5 e
 have hl:its.toArray.size=bs.length:=by have:=rv.length; rw [Ua]at this; simp [this]
 refine call_all_walk (wpAny_pyIter_list pl.isList ?_)
 refine⟨s.heap.objs.size,_,_,_,_,_,λi=>bs.getD i true,rfl,Walks.list (A:=X.A.in1) (I.ok.hd hc) _ p (Ut hp) its.toArray,⟨⟨_,T6 _ rfl,rfl,rfl⟩,?_⟩,?_,λh' tk hk=>?_⟩
 ·obtain⟨o,e,z⟩:=pl.isList
  exact⟨o,T4 _ e,z⟩
 ·intro i v s' Q' E' hv hq
  obtain⟨b,e,rfl⟩:=vE rv hv
  refine wpAny_truthy_bool ?_
  have:bs.getD i true=b:=by rw [List.getD_eq_getElem?_getD,e]; rfl
  rw [←this]
  exact hq
 ·rw [hl,range_all]
  have I1:Inv X pins σ H {s with heap:=s.heap.push {cls:=.type "list_iterator",data:=.fields #[.ref p,.int 0 0]}}:=I.kept (t':=s.toks) λb o e=>T4 _ e
  have f:=I.lZ (b:=s.heap.objs.size) (H':=H) (T7 _) (I.hok.fresh (T7 _))
  exact⟨.bl _,H,I1.turned (λb o hb e=>hk b o (by simpa using hb) e) f.1 f.2.1 f.2.2.2.1 f.2.2.2.2.1 f.2.2.2.2.2,rfl,q⟩
theorem lQ(hc:X.calm=true):fk X (.builtin "any") (λxs H Q=>∃(p:Addr) (bs:List Bool),xs=[.ref p]/\a_ X.K H p (bs.map V.bl)/\Q (.bl (bs.any id)) H):=by
 intro pins s σ H xs us Q I r h
 obtain⟨p,bs,rfl,hS,q⟩:=h
 obtain⟨u,rfl,ru⟩:=vals1 r
 cases ru
 obtain⟨its,rv,pl,hz⟩:=I.list hS
 have hp:p<s.heap.objs.size:=by obtain⟨o,e,_⟩:=pl.isList; exact T5 e
 have hl:its.toArray.size=bs.length:=by have:=rv.length; rw [Ua]at this; simp [this]
 refine call_any_walk (wpAny_pyIter_list pl.isList ?_)
 refine⟨s.heap.objs.size,_,_,_,_,_,λi=>bs.getD i true,rfl,Walks.list (A:=X.A.in1) (I.ok.hd hc) _ p (Ut hp) its.toArray,⟨⟨_,T6 _ rfl,rfl,rfl⟩,?_⟩,?_,λh' tk hk=>?_⟩
 ·obtain⟨o,e,z⟩:=pl.isList
  exact⟨o,T4 _ e,z⟩
 ·intro i v s' Q' E' hv hq
  obtain⟨b,e,rfl⟩:=vE rv hv
  refine wpAny_truthy_bool ?_
  have:bs.getD i true=b:=by rw [List.getD_eq_getElem?_getD,e]; rfl
  rw [←this]
  exact hq
 ·rw [hl,range_any]
  have I1:Inv X pins σ H {s with heap:=s.heap.push {cls:=.type "list_iterator",data:=.fields #[.ref p,.int 0 0]}}:=I.kept (t':=s.toks) λb o e=>T4 _ e
  have f:=I.lZ (b:=s.heap.objs.size) (H':=H) (T7 _) (I.hok.fresh (T7 _))
  exact⟨.bl _,H,I1.turned (λb o hb e=>hk b o (by simpa using hb) e) f.1 f.2.1 f.2.2.2.1 f.2.2.2.2.1 f.2.2.2.2.2,rfl,q⟩
end
section
variable{elt t1 i1 t2 i2:Expr}{f1 f2:List Expr}{sc:Scope}{pos:Pos}
abbrev qm(elt t1 i1:Expr)(f1:List Expr)(t2 i2:Expr)(f2:List Expr)(sc:Scope)(pos:Pos):Expr:=.ListComp elt [⟨t1,i1,f1,0⟩,⟨t2,i2,f2,0⟩] sc pos
theorem oJ(it acc:Value)(env:Env) :
  compTurn (qm elt t1 i1 f1 t2 i2 f2 sc pos) 0 it acc env=(do
   standAt i1.pos
   match←pyNext it with
   | none=>pure (.done .next)
   | some v =>
    letOwnedTupleGo t1 it v
    assign t1 env v
    let mut ok:=true
    for c in f1 do
     if ok then ok←isTrue c env (eval c env)
    if ok then
     let x←eval i2 env
     standAt i2.pos
     let x←foldedSetIterable i2 env x
     let _←runOwn (.compStart (qm elt t1 i1 f1 t2 i2 f2 sc pos) 1 (←holding [x] (pyIter x)) acc env) env
    again (.compLoop (qm elt t1 i1 f1 t2 i2 f2 sc pos) 0 it acc env)):=by rfl
theorem nG(it acc:Value)(env:Env) :
  compTurn (qm elt t1 i1 f1 t2 i2 f2 sc pos) 1 it acc env=(do
   standAt i2.pos
   match←pyNext it with
   | none=>pure (.done .next)
   | some v =>
    letOwnedTupleGo t2 it v
    assign t2 env v
    let mut ok:=true
    for c in f2 do
     if ok then ok←isTrue c env (eval c env)
    if ok then
     (do let _←call (.builtin "list.append") [acc,←eval elt env])
    again (.compLoop (qm elt t1 i1 f1 t2 i2 f2 sc pos) 1 it acc env)):=by rfl
section
variable{it acc:Value}{env:Env}{prog:Program}{w:World}{A:Around}{s:Shared}{R:Result->Shared->Prop}
theorem sh(Iv:Nat->Shared->Prop)
  (turn:∀n s,Iv n s->wpAny (model prog w) A (pyNext it) (λr s₁=>match r with
   | none=>R (.ok .next) s₁
   | some v=>wpAny (model prog w) A (letOwnedTupleGo t2 it v) (λ_ s₁'=>wpAny (model prog w) A (assign t2 env v) (λ_ s₂ =>
     wpAny (model prog w) A (forIn f2 true λc r=>if r=true then do let ok←isTrue c env (eval c env); pure (ForInStep.yield ok)else pure (ForInStep.yield r)) (λok s₃ =>
      if ok=true then wpAny (model prog w) A (eval elt env) (λx s₄ =>
       wpAny (model prog w) A (call (.builtin "list.append") [acc,x]) (λ_ s₅=>∃m,m<n/\Iv m s₅) (λ_ _=>False) s₄) (λ_ _=>False) s₃
      else∃m,m<n/\Iv m s₃) (λ_ _=>False) s₂) (λ_ _=>False) s₁') (λ_ _=>False) s₁) (λ_ _=>False) s)
  (n:Nat) (h:Iv n s) :
  codeAny (model prog w) A (.compLoop (qm elt t1 i1 f1 t2 i2 f2 sc pos) 1 it acc env) R s:=by
 refine codeAny_loop rfl Iv (λn s hI=>?_) n h
 show wpAny _ A ((compTurn (qm elt t1 i1 f1 t2 i2 f2 sc pos) 1 it acc env).onRaise (λx=>do noteFrame x env; theTreesLotGoes x)) _ _ s
 refine wpAny_noted ?_
 rw [nG]
 refine TZ (wpAny_standAt (TZ (UB (turn n s hI) (λr s₁ h₁=>?_) λ_ _ h'=>h'.elim)))
 cases r with
 | none=>exact T1 h₁
 | some v =>
  refine TZ (UB h₁ (λ_ s₁' h₁'=>TZ (UB h₁' (λ_ s₂ h₂=>TZ (UB h₂ (λok s₃ h₃=>?_) λ_ _ h'=>h'.elim)) λ_ _ h'=>h'.elim)) λ_ _ h'=>h'.elim)
  cases ok with
  | false=>exact T1 ⟨rfl,h₃⟩
  | true =>
   exact TZ (TZ (UB h₃ (λx s₄ h₄=>TZ (UB h₄ (λ_ s₅ h₅=>T1 (T1 ⟨rfl,h₅⟩)) λ_ _ h'=>h'.elim)) λ_ _ h'=>h'.elim))
theorem qk(hs:∀x,foldedSetIterable i2 env x=pure x)(Iv:Nat->Shared->Prop)
  (turn:∀n s,Iv n s->wpAny (model prog w) A (pyNext it) (λr s₁=>match r with
   | none=>R (.ok .next) s₁
   | some v=>wpAny (model prog w) A (letOwnedTupleGo t1 it v) (λ_ s₁'=>wpAny (model prog w) A (assign t1 env v) (λ_ s₂ =>
     wpAny (model prog w) A (forIn f1 true λc r=>if r=true then do let ok←isTrue c env (eval c env); pure (ForInStep.yield ok)else pure (ForInStep.yield r)) (λok s₃ =>
      if ok=true then wpAny (model prog w) A (eval i2 env) (λx s₄=>wpAny (model prog w) A (pyIter x) (λPK s₅ =>
       codeAny (model prog w) A (.compStart (qm elt t1 i1 f1 t2 i2 f2 sc pos) 1 PK acc env) (λr s'=>match r with | .ok _=>∃m,m<n/\Iv m s' | .error _=>False) s₅) (λ_ _=>False) s₄) (λ_ _=>False) s₃
      else∃m,m<n/\Iv m s₃) (λ_ _=>False) s₂) (λ_ _=>False) s₁') (λ_ _=>False) s₁) (λ_ _=>False) s)
  (n:Nat) (h:Iv n s) :
  codeAny (model prog w) A (.compLoop (qm elt t1 i1 f1 t2 i2 f2 sc pos) 0 it acc env) R s:=by
 refine codeAny_loop rfl Iv (λn s hI=>?_) n h
 show wpAny _ A ((compTurn (qm elt t1 i1 f1 t2 i2 f2 sc pos) 0 it acc env).onRaise (λx=>do noteFrame x env; theTreesLotGoes x)) _ _ s
 refine wpAny_noted ?_
 rw [oJ]
 refine TZ (wpAny_standAt (TZ (UB (turn n s hI) (λr s₁ h₁=>?_) λ_ _ h'=>h'.elim)))
 cases r with
 | none=>exact T1 h₁
 | some v =>
  refine TZ (UB h₁ (λ_ s₁' h₁'=>TZ (UB h₁' (λ_ s₂ h₂=>TZ (UB h₂ (λok s₃ h₃=>?_) λ_ _ h'=>h'.elim)) λ_ _ h'=>h'.elim)) λ_ _ h'=>h'.elim)
  cases ok with
  | false=>exact T1 ⟨rfl,h₃⟩
  | true =>
   refine TZ (UB h₃ (λx s₄ h₄=>?_) λ_ _ h'=>h'.elim)
   refine TZ (wpAny_standAt (TZ (wpAny_of_eq (hs x) ?_)))
   refine TZ (UC (UB h₄ (λPK s₅ h₅=>?_) λ_ _ h'=>h'.elim))
   refine TZ (wpAny_runOwn (codeAny_mono h₅ λr s' hr=>?_))
   cases r with
   | ok f=>exact T1 ⟨rfl,hr⟩
   | error x=>exact hr.elim
theorem jh
  (h0:codeAny (model prog w) A (.compLoop (qm elt t1 i1 f1 t2 i2 f2 sc pos) 1 it acc env) R s)
  (h:wpAny (model prog w) A (pyIter it) (λit' s'=>codeAny (model prog w) A (.compLoop (qm elt t1 i1 f1 t2 i2 f2 sc pos) 1 it' acc env) R s')
   (notedBy (model prog w) A env λx s'=>R (.error x) s') s) :
  codeAny (model prog w) A (.compStart (qm elt t1 i1 f1 t2 i2 f2 sc pos) 1 it acc env) R s:=by
 refine codeAny_of_tree ?_
 show wpAny _ _ ((compStart (qm elt t1 i1 f1 t2 i2 f2 sc pos) 1 it acc env).onRaise (λx=>do noteFrame x env; standAt theWindowsPlace)) _ _ s
 refine wpAny_notedAt ?_
 unfold compStart
 show wpAny _ _ (ask >>= _) _ _ s
 refine TZ (wpAny_askSetting (wpAny_ite ?_))
 split
 ·first
   | exact TZ (T1 (T1 (And.intro rfl h0)))
   | exact T1 (And.intro rfl h0)
 ·first
   | exact TZ (wpAny_rule (TZ (wpAny_standAt (TZ (UB h (λit' s' h'=>T1 (And.intro rfl h')) λ_ _ x=>x)))))
   | (refine TZ (wpAny_rule ?_); show wpAny _ _ (standAt i2.pos >>= _) _ _ s; exact TZ (wpAny_standAt (TZ (UB h (λit' s' h'=>T1 (And.intro rfl h')) λ_ _ x=>x))))
end
end
def oA(J:It)(g:TG)(tc:TT)(te:TE)(D:Addr)(N:St->List V->Hp->Prop)(W:Nat->Nat->St->List V->Hp->Prop):Prop :=
 ∀i m σ ys H,W i m σ ys H->H D=some (.lst ys)/\((J.stop i H/\N σ ys H)\/(J.go i H/\ys.length<sizeLine/\∃N2:St->List V->Hp->Prop,(∀σ' ys' H',N2 σ' ys' H'->∃m',m'<m/\W (i+1) m' σ' ys' H')/\
  ∀x H',J.E6 i H x H'->g x σ H' λde H2=>tc de H2 λb H3 =>
   if b=true then te de H3 λv H4=>H4 D=some (.lst ys)/\N2 de (ys++[v]) (upd H4 D (.lst (ys++[v])))else N2 de ys H3))
def rT(J:It)(g:TG)(tc:TT)(wi2:TI)(g2:TG)(sN:TT)(te:TE)(D:Addr)(Q:VK)(W:Nat->Nat->St->List V->Hp->Prop):Prop :=
 ∀i m σ ys H,W i m σ ys H->H D=some (.lst ys)/\((J.stop i H/\Q (.ref D) H)\/(J.go i H/\∃N:St->List V->Hp->Prop,(∀σ' ys' H',N σ' ys' H'->∃m',m'<m/\W (i+1) m' σ' ys' H')/\
  ∀x H',J.E6 i H x H'->g x σ H' λde H2=>tc de H2 λb H3 =>
   if b=true then wi2 de H3 λJ2 H4=>∃W2:Nat->Nat->St->List V->Hp->Prop,(∃m,W2 0 m de ys H4)/\oA J2 g2 sN te D N W2 else N de ys H3))
def DL(src:List (Option Nat))(wi:TI)(g:TG)(tc:TT)(wi2:TI)(g2:TG)(sN:TT)(te:TE):TE:=λσ H Q=>wi σ H λJ H1=>∀D,H1 D=none->
 ∃W:Nat->Nat->St->List V->Hp->Prop,(∃m,W 0 m (jM src σ) [] (upd H1 D (.lst [])))/\rT J g tc wi2 g2 sN te D Q W
section
variable{X:Cx}{elt t1 i1 t2 i2:Expr}{f1 f2:List Expr}{sc:Scope}{pos:Pos}{wi wi2:TI}{g g2:TG}{tc sN:TT}{te:TE}{N':List Str}{src:List (Option Nat)}
theorem x6{Y:Cx}(hc:Y.calm=true)(M0:Y.xe = λ_ _=>False)(hg:PG Y t2 g2)(ht:i4 Y f2 sN)(he:PE Y elt te)
  {pins:List (Addr×Obj)} {σ:St} {H:Hp} {s:Shared} {ys:List V} {it D:Addr} {fp:List Addr} {tn:Nat->Heap->Prop} {J:It} {N:St->List V->Hp->Prop} {R:Result->Shared->Prop}
  (I:Inv Y pins σ H s) (T:Turn Y.prog Y.w Y.K t2 J fp it tn) (st:tn 0 s.heap) (ff:∀b∈fp,dz Y pins H b) {W:Nat->Nat->St->List V->Hp->Prop} {m:Nat} (w0:W 0 m σ ys H) (hW:oA J g2 sN te D N W)
  (hR:∀σ' ys' H' s',Inv Y pins σ' H' s'->N σ' ys' H'->R (.ok .next) s') :
  codeAny (model Y.prog Y.w) Y.A (.compStart (qm elt t1 i1 f1 t2 i2 f2 sc pos) 1 (.ref it) (.ref D) Y.env) R s:=by
 have stat:∀{H':Hp},(∀b∈fp,H' b=none)->∀b∈fp,dz Y pins H' b:=λhn b hb=>⟨hn b hb,(ff b hb).2⟩
 have loop:codeAny (model Y.prog Y.w) Y.A (.compLoop (qm elt t1 i1 f1 t2 i2 f2 sc pos) 1 (.ref it) (.ref D) Y.env) R s:=by
  refine sh (λn s'=>∃i σ' ys H',Inv Y pins σ' H' s'/\tn i s'.heap/\(∀b∈fp,H' b=none)/\W i n σ' ys H') ?_ m ⟨0,_,_,_,I,st,λb hb=>(ff b hb).1,w0⟩
  rintro n s5 ⟨i,mR,ys,H5,I5,uc,vX,w5⟩
  obtain⟨hD,alt⟩:=hW i n mR ys H5 w5
  rcases alt with⟨stop,qn⟩ | ⟨go,hsz,N2,hN,step⟩
  ·refine b_ (T.done Y rfl rfl rfl hc i pins s5 mR H5 _ I5 (stat vX) uc stop) λr s6 ⟨hr,I6⟩=>?_
   subst hr
   exact hR _ _ _ _ I6 qn
  ·refine b_ (T.item Y rfl rfl rfl hc i pins s5 mR H5 _ I5 (stat vX) uc go) λr s6 ⟨u,hr,h6⟩=>?_
   subst hr
   refine b_ h6 λ_ s7 ⟨x,H7,I7,r7,y7,rP,F9⟩=>?_
   have Fh:=I7.pinned (stat F9) (T.obj _ _ rP)
   have hg':=hg _ s7 mR H7 x u _ Fh r7 (step x H7 y7)
   rw [M0]at hg'
   refine b_ hg' λ_ s8 ⟨ue,H8,I8,q8⟩=>?_
   have ht':=ht _ s8 ue H8 _ I8 q8
   rw [M0]at ht'
   refine b_ ht' λb s9 ⟨H9,I9,q9⟩=>?_
   have again:∀{σ':St} {H':Hp} {s':Shared} {ys':List V} {m':Nat},Inv Y (pins++jy fp s7.heap) σ' H' s'->m'<n->W (i+1) m' σ' ys' H'->
     ∃m,m<n/\∃i σ' ys H',Inv Y pins σ' H' s'/\tn i s'.heap/\(∀b∈fp,H' b=none)/\W i m σ' ys H':=λ{σ' H' s' ys' m'} I' hm w'=>by
    refine⟨m',hm,i+1,σ',ys',H',I'.gc,T.keep _ _ _ rP λb hb o e=>(I'.pin (b,o) (Uh _ (Uh _ (cL hb e)))).1,λb hb=>?_,w'⟩
    obtain⟨o,e,d⟩:=T.obj _ _ rP b hb
    exact(I'.pin (b,o) (Uh _ (Uh _ (cL hb e)))).2.1
   cases b with
   | false =>
    rw [if_neg Uk]at q9⊢
    obtain⟨m',hm,w'⟩:=hN _ _ _ q9
    exact again I9 hm w'
   | true =>
    rw [if_pos rfl]at q9⊢
    have he':=he _ s9 ue H9 _ I9 q9
    rw [M0]at he'
    refine b_ he' λxv B9 ⟨v,Ad,K8,r10,Cg,w10⟩=>?_
    obtain⟨m',hm,w'⟩:=hN _ _ _ w10
    have Mj:m8 (.ref D) [v] Ad λ_ H'=>H'=upd Ad D (.lst (ys++[v])):=⟨_,ys,v,rfl,rfl,Cg,hsz,rfl⟩
    have ha':=cX _ B9 ue Ad _ _ _ _ _ K8 (show RelV (.ref D) (.ref D) from rfl) (.cons r10 .nil) Mj
    rw [M0]at ha'
    refine b_ ha' λ_ P7 ⟨_,NC,Ht,_,LW⟩=>?_
    rw [LW]at Ht
    exact again Ht hm w'
 exact jh loop (T.self _ 0 _ _ _ st loop)
theorem mw{pins:List (Addr×Obj)}{σ:St}{H2:Hp}{s2:Shared}{it:Addr}{fp:List Addr}{tn:Nat->Heap->Prop}{J:It}{Q:VK}{E:Value->Shared->Prop}{RR:Value->Addr->Result->Shared->Prop}
  (hc:X.calm=true) (S:ba X.env.scope X.N N' src sc)
  (hg:∀cl C s H fp,PG (aK X N' sc cl C s H fp) t1 g) (ht:∀cl C s H fp,i4 (aK X N' sc cl C s H fp) f1 tc)
  (hi2:∀cl C s H fp,PI (aK X N' sc cl C s H fp) t2 i2 wi2) (hg2:∀cl C s H fp,PG (aK X N' sc cl C s H fp) t2 g2) (Dn:∀cl C s H fp,i4 (aK X N' sc cl C s H fp) f2 sN)
  (he:∀cl C s H fp,PE (aK X N' sc cl C s H fp) elt te) (hs2:∀(env:Env) x,foldedSetIterable i2 env x=pure x)
  (I2:Inv X pins σ H2 s2) (T:Turn X.prog X.w X.K t1 J fp it tn) (st2:tn 0 s2.heap) (Km:∀b∈fp,dz X pins H2 b)
  (hW:∀D,H2 D=none->∃W:Nat->Nat->St->List V->Hp->Prop,(∃m,W 0 m (jM src σ) [] (upd H2 D (.lst [])))/\rT J g tc wi2 g2 sN te D Q W)
  (hRR:∀D C s5 H' m,Inv X pins σ H' s5->s5.heap.Ns C m->dz X pins H' C->Q (.ref D) H'->RR (.ref D) C (.ok .next) s5) :
  wpAny (model X.prog X.w) X.A (newList []) (λacc s₃=>wpAny (model X.prog X.w) X.A (newFunctionEnv sc X.env.globals (bL X.env.cells sc.names []) [] X.env.qual none .none (some X.env)) (λcenv s₄ =>
   codeAny (model X.prog X.w) X.A (.compStart (qm elt t1 i1 f1 t2 i2 f2 sc pos) 0 (.ref it) acc {cenv with scope:=relabel sc X.env}) (RR acc cenv.locals) s₄) E s₃) E s2:=by
 have o2:∀b∈fp,b<s2.heap.objs.size:=λb hb=>by
  obtain⟨o,e,_⟩:=T.obj 0 _ st2 b hb
  exact T5 e
 refine UD ?_
 have Jz:H2 s2.heap.objs.size=none:=I2.hok.fresh (T7 _)
 obtain⟨W,⟨m0,w0⟩,turn⟩:=hW s2.heap.objs.size Jz
 have I3:Inv X pins σ (upd H2 s2.heap.objs.size (.lst [])) {s2 with heap:=s2.heap.push {cls:=.type "list",dict:=none,data:=.seq ([]:List Value).toArray}} :=
  I2.laid (t':=s2.toks) (λb u e=>T4 _ e) (T7 _) ⟨Uu _,[],0,.nil,T6 _ rfl⟩
 have st3:tn 0 (s2.heap.push {cls:=.type "list",dict:=none,data:=.seq ([]:List Value).toArray}):=T.keep 0 _ _ st2 λb hb o e=>T4 _ e
 generalize hs3:({s2 with heap:=s2.heap.push {cls:=.type "list",dict:=none,data:=.seq ([]:List Value).toArray}}:Shared)=s3 at I3
 have hh3:s3.heap=s2.heap.push {cls:=.type "list",dict:=none,data:=.seq ([]:List Value).toArray}:=by rw [←hs3]
 have Eb:s2.heap.objs.size<s3.heap.objs.size:=by rw [hh3,Heap.size_push]; exact Nat.lt_succ_self _
 have o3:∀b∈fp,b<s3.heap.objs.size:=λb hb=>Nat.lt_trans (o2 b hb) Eb
 have f3:∀b∈fp,dz X pins (upd H2 s2.heap.objs.size (.lst [])) b:=λb hb=>⟨by rw [aI (Ut (o2 b hb))]; exact(Km b hb).1,(Km b hb).2⟩
 rw [←hh3]at st3
 refine wpAny_newFunctionEnv S.oP (by intro y hy; simp at hy) (λh1 hns hsb=>?_) S.kind
 have hsb':Heap.SameBut s3.heap.objs.size (s3.heap.push {cls:=.type "dict",data:=.dict #[]}) h1:=hsb
 have I4:Inv (aK X N' sc (bL X.env.cells sc.names []) s3.heap.objs.size s3 (upd H2 s2.heap.objs.size (.lst [])) fp) [] (jM src σ) (upd H2 s2.heap.objs.size (.lst [])) {s3 with heap:=h1,toks:=s3.toks+([]:List (Str×Value)).length} :=
  iI S I3 f3 o3 hns hsb'
 have BC:tn 0 h1:=T.keep 0 _ _ st3 λb hb o e=>(hsb'.2 b (Ut (o3 b hb))).trans (T4 _ e)
 have fC:∀(H':Hp),H' s3.heap.objs.size=none->dz X pins H' s3.heap.objs.size:=λH' hn=>I3.lZ (T7 _) hn
 have loop:codeAny (model X.prog X.w) X.A (.compLoop (qm elt t1 i1 f1 t2 i2 f2 sc pos) 0 (.ref it) (.ref s2.heap.objs.size) (compEnvC sc (bL X.env.cells sc.names []) s3.heap.objs.size X.env))
   (RR (.ref s2.heap.objs.size) s3.heap.objs.size) {s3 with heap:=h1,toks:=s3.toks+([]:List (Str×Value)).length}:=by
  have stat:∀{H':Hp},(∀b∈fp,H' b=none)->∀b∈fp,dz (aK X N' sc (bL X.env.cells sc.names []) s3.heap.objs.size s3 (upd H2 s2.heap.objs.size (.lst [])) fp) [] H' b:=λhn b hb =>
   ⟨hn b hb,(I4.ok.Ak b hb).1,I4.ok.oj b hb,.inl hb,(I4.ok.Ak b hb).2,λp hp=>absurd (show p∈([]:List (Addr×Obj)) from hp) (by simp)⟩
  refine qk (hs2 _) (λn s'=>∃i σ' ys H',Inv (aK X N' sc (bL X.env.cells sc.names []) s3.heap.objs.size s3 (upd H2 s2.heap.objs.size (.lst [])) fp) [] σ' H' s'/\tn i s'.heap/\(∀b∈fp,H' b=none)/\W i n σ' ys H') ?_ m0
   ⟨0,_,[],_,I4,BC,λb hb=>(f3 b hb).1,w0⟩
  rintro n s5 ⟨i,mR,ys,H5,I5,uc,vX,w5⟩
  obtain⟨hD,alt⟩:=turn i n mR ys H5 w5
  rcases alt with⟨stop,qn⟩ | ⟨go,N,hN,step⟩
  ·refine b_ (T.done (aK X N' sc (bL X.env.cells sc.names []) s3.heap.objs.size s3 (upd H2 s2.heap.objs.size (.lst [])) fp) rfl rfl rfl hc i [] s5 mR H5 _ I5 (stat vX) uc stop) λr s6 ⟨hr,I6⟩=>?_
   subst hr
   obtain⟨m6,n6,_⟩:=id I6.loc
   refine hRR _ _ s6 H5 m6 (I3.call' I6.os I6.base I6.hok I6.bare λb hb=>⟨(f3 b hb).2.2.2.1,(f3 b hb).2.1,(f3 b hb).2.2.2.2.1,(f3 b hb).2.2.2.2.2⟩) n6 (fC _ I6.free) qn
  ·refine b_ (T.item (aK X N' sc (bL X.env.cells sc.names []) s3.heap.objs.size s3 (upd H2 s2.heap.objs.size (.lst [])) fp) rfl rfl rfl hc i [] s5 mR H5 _ I5 (stat vX) uc go) λr s6 ⟨u,hr,h6⟩=>?_
   subst hr
   refine b_ h6 λ_ s7 ⟨x,H7,I7,r7,y7,rP,F9⟩=>?_
   have Fh:=I7.pinned (stat F9) (T.obj _ _ rP)
   refine b_ (hg _ _ _ _ _ _ s7 mR H7 x u _ Fh r7 (step x H7 y7)) λ_ s8 ⟨ue,H8,I8,q8⟩=>?_
   refine b_ (ht _ _ _ _ _ _ s8 ue H8 _ I8 q8) λb s9 ⟨H9,I9,q9⟩=>?_
   have again:∀{σ':St} {H':Hp} {s':Shared} {ys':List V} {m':Nat},Inv (aK X N' sc (bL X.env.cells sc.names []) s3.heap.objs.size s3 (upd H2 s2.heap.objs.size (.lst [])) fp) ([]++jy fp s7.heap) σ' H' s'->m'<n->W (i+1) m' σ' ys' H'->
     ∃m,m<n/\∃i σ' ys H',Inv (aK X N' sc (bL X.env.cells sc.names []) s3.heap.objs.size s3 (upd H2 s2.heap.objs.size (.lst [])) fp) [] σ' H' s'/\tn i s'.heap/\(∀b∈fp,H' b=none)/\W i m σ' ys H':=λ{σ' H' s' ys' m'} I' hm w'=>by
    refine⟨m',hm,i+1,σ',ys',H',I'.gc,T.keep _ _ _ rP λb hb o e=>(I'.pin (b,o) (Uh _ (Uh _ (cL hb e)))).1,λb hb=>?_,w'⟩
    obtain⟨o,e,d⟩:=T.obj _ _ rP b hb
    exact(I'.pin (b,o) (Uh _ (Uh _ (cL hb e)))).2.1
   cases b with
   | false =>
    rw [if_neg Uk]at q9⊢
    obtain⟨m',hm,w'⟩:=hN _ _ _ q9
    exact again I9 hm w'
   | true =>
    rw [if_pos rfl]at q9⊢
    refine b_ (hi2 _ _ _ _ _ _ s9 ue H9 _ I9 q9) λv sA hA=>b_ hA λitv sB hB=>?_
    obtain⟨TL,TR,TX,JB,HB,eB,IB,TB,Rr,fB,WB,⟨mB,wB⟩,S4⟩:=hB
    subst eB
    refine x6 (Y:=aK X N' sc (bL X.env.cells sc.names []) s3.heap.objs.size s3 (upd H2 s2.heap.objs.size (.lst [])) fp) hc rfl (hg2 _ _ _ _ _) (Dn _ _ _ _ _) (he _ _ _ _ _) IB TB Rr fB wB S4 ?_
    intro σ' ys' H' s' I' hn
    obtain⟨m',hm,w'⟩:=hN _ _ _ hn
    exact again I' hm w'
 exact codeAny_compStart_list loop (T.self _ 0 _ _ _ BC loop)
theorem qR(hc:X.calm=true)(S:ba X.env.scope X.N N' src sc)(hi:PI X t1 i1 wi)
  (hg:∀cl C s H fp,PG (aK X N' sc cl C s H fp) t1 g) (ht:∀cl C s H fp,i4 (aK X N' sc cl C s H fp) f1 tc)
  (hi2:∀cl C s H fp,PI (aK X N' sc cl C s H fp) t2 i2 wi2) (hg2:∀cl C s H fp,PG (aK X N' sc cl C s H fp) t2 g2) (Dn:∀cl C s H fp,i4 (aK X N' sc cl C s H fp) f2 sN)
  (he:∀cl C s H fp,PE (aK X N' sc cl C s H fp) elt te) (hs:∀x,foldedSetIterable i1 X.env x=pure x:=by intro _; rfl) (hs2:∀(env:Env) x,foldedSetIterable i2 env x=pure x:=by intro _ _; rfl) :
  PE X (qm elt t1 i1 f1 t2 i2 f2 sc pos) (DL src wi g tc wi2 g2 sN te):=by
 intro pins s σ H Q I h
 rw [eval_ListComp]
 refine wpAny_comprehension_free (use:=none) rfl hs (cY λy hy hk=>I.ok.has y.1 (S.free y hy hk)) S.kind (λy hy hl=>by rw [←hl]; exact S.uniq y hy) ?_
 refine b_ (hi pins s σ H _ I h) λv s1 h1=>b_ h1 λitv s2 h2=>?_
 obtain⟨it,fp,tn,J,H2,e,I2,T,st2,Km,hW⟩:=h2
 subst e
 refine mw (Q:=Q) (RR:=λacc C=>compPost (model X.prog X.w) X.A X.xe none (EP X pins σ Q) acc C) hc S hg ht hi2 hg2 Dn he hs2 I2 T st2 Km hW ?_
 intro D C s5 H' m I5 n5 fC q
 refine⟨m,n5,λh' sb=>⟨.ref D,H',?_,rfl,q⟩⟩
 exact I5.turned (t':=s5.toks) (λb o hb e=>(sb.2 b hb).trans e) fC.1 fC.2.1 fC.2.2.2.1 fC.2.2.2.2.1 fC.2.2.2.2.2
end
end L2
namespace HT
open PySem PyProof.Rows
open PySem.AutoSeq1 (wpAny_loadPart')
theorem tuple_addW0(l b:Addr)(items items2:Array Value)(n n2:Nat)(dd dd2:Option Addr)(sl sl2:Array (Option Value))(hc0:items.isEmpty=true) :
  Meets (Builtin.«tuple.__add__» ⟨[.ref l,.ref b],[]⟩) (λ_ R s=>s.heap.get? l=some {cls:=.type "tuple",dict:=dd,data:=.seq items n,slots:=sl}/\s.heap.get? b=some {cls:=.type "tuple",dict:=dd2,data:=.seq items2 n2,slots:=sl2}/\R (.ok (.ret (Value.ref b))) {s with heap:=s.heap,toks:=s.toks}) :=
 .of_wp λprog w A R s h=>by
  obtain⟨hp,g,d,tk,os⟩:=s; obtain⟨hl,hb,h⟩:=h
  have f1:=AutoSeq1.idx_int; have f2:=AutoSeq1.sub_tuple_tuple; have f3:=AutoSeq1.sub_list_list; have f4:=AutoSeq1.sub_tuple_list; have f5:=AutoSeq1.sub_list_tuple
  wp_walk using wpAny_loadPart' hl,wpAny_loadPart' hb
  exact⟨_,rfl,h⟩
section
variable{prog:Program}{w:World}{A:Around}{E:Value->Shared->Prop}{s:Shared}
theorem D0{t b:Addr}{ws:List Value}{Q:Value->Shared->Prop}(ht:IsTup s.heap t #[])(hb:IsTup s.heap b ws.toArray)(h1:Q (.ref b) s):wpAny (model prog w) A (binaryOp .Add (.ref t) (.ref b)) Q E s:=by
 obtain⟨⟨cls,dd,data,sl⟩,ho,hc,n,hd⟩:=id ht
 obtain⟨⟨cls2,dd2,data2,sl2⟩,ho2,hc2,n2,hd2⟩:=id hb
 simp only at hc hd hc2 hd2
 subst hc hd hc2 hd2
 exact concat_meets ⟨_,ho,rfl⟩ ⟨_,ho2,rfl⟩ noFill_tuple_add seq_tuple_add PySem.F.slot_tuple_add PySem.F.entry_tuple_add (PySem.F.args_tuple_add_2 _ _)
   (tuple_addW0 t b #[] ws.toArray n n2 dd dd2 sl sl2 rfl) ⟨ho,ho2,h1⟩
theorem jN{t sl:Addr}{items:Array Value}{vl vu:Value}{lo hi:Option Int}{Q:Value->Shared->Prop}(ht:IsTup s.heap t items)(hs:s.heap.IsSliceOf sl vl vu .none)(pl:IsPart vl lo)(pu:IsPart vu hi)
  (hw:dH items.size 0 lo=0/\dH items.size items.size hi=items.size)
  (h:Q (.ref t) s):wpAny (model prog w) A (getItem (.ref t) (.ref sl)) Q E s:=by
 obtain⟨os,hos,hcs,hds⟩:=id hs
 have hTs:s.TypeIs (.ref sl) "slice":=⟨os,hos,hcs⟩
 unfold getItem
 try with_reducible refine UC ?_
 first | refine TZ (T1 ?_) | skip
 refine TZ (wpAny_sequenceKey ht.typeIs (by decide) ?_)
 refine TZ (wpAny_callSpecial?_slot (name:=Str.ofString "__getitem__") ht.typeIs PyProof.Rows.slot_tuple_getitem
  (wpAny_call_entry PyProof.Rows.slot_tuple_getitem ht.typeIs entry_tuple_getitem ?_ (args_tuple_getitem _ _)))
 show wpAny _ _ (Builtin.Tuple.tupleItemsOf (.ref t) >>= _) _ _ s
 refine TZ (tupleItemsOf_ ht ?_)
 refine TZ (wpAny_typeOf hTs ?_)
 rw [if_pos (by decide)]
 refine TZ (ir hs pl pu ?_)
 have hno:(((dH items.size 0 lo:Nat):Int)==0&&(1:Int)==1&&(dH items.size items.size hi-dH items.size 0 lo)==items.size)=true:=by
  rw [hw.1,hw.2]
  simp
 show wpAny _ _ (if(((dH items.size 0 lo:Nat):Int)==0&&(1:Int)==1&&(dH items.size items.size hi-dH items.size 0 lo)==items.size)=true then _ else _) _ _ s
 rw [if_pos hno]
 refine TZ (m:=Builtin.Tuple.tupleIsExact _) ?_
 unfold Builtin.Tuple.tupleIsExact
 refine TZ (wpAny_typeOf ht.typeIs (T1 ?_))
 show wpAny _ _ (if((Value.type "tuple")==(Value.type "tuple"))=true then _ else _) _ _ s
 rw [if_pos (by decide)]
 exact TZ (wpAny_rule (T1 ⟨_,rfl,T1 h⟩))
end
end HT
namespace L2
open PySem PySem.Spec PyProof.Rows
section
variable{X:Cx}
theorem Ce(hu:X.A.units<cLine):i3 X (compareOp .NotEq) (λx y H Q=>∃a b xs ys,x=.ref a/\y=.ref b/\a_ X.K H a xs/\a_ X.K H b ys/\xs.length≠ys.length/\Q (.bl true) H):=by
 intro pins s σ H x y v u Q I rx ry h
 obtain⟨a,b,xs,ys,rfl,rfl,ha,hb,hl,q⟩:=h
 cases rx; cases ry
 obtain⟨its,r1,p1,_⟩:=I.list ha
 obtain⟨its',r2,p2,_⟩:=I.list hb
 exact SeqAt.RcNeAt.lists_lengths p1.isList p2.isList (by simp [←r1.length,←r2.length,hl]) hu _ _ _ _ ⟨.bl true,H,I,rfl,q⟩
theorem Du:i3 X (binaryOp .Add) (λx y H Q=>∃a b ys,x=.ref a/\y=.ref b/\aH X.K H a []/\aH X.K H b ys/\Q (.ref b) H):=by
 intro pins s σ H x y v u Q I rx ry h
 obtain⟨a,b,ys,rfl,rfl,ha,hb,q⟩:=h
 cases rx
 cases ry
 obtain⟨its,r1,p1,_⟩:=I.tuple ha
 obtain⟨its2,r2,p2,_⟩:=I.tuple hb
 cases r1
 exact HT.D0 p1 p2 ⟨.ref b,H,I,rfl,q⟩
def Hh(K:UJ):V->Option Int->Option Int->Hp->VK->Prop:=λx lo hi H Q=>∃a xs,x=.ref a/\aH K H a xs/\
 (HT.dH xs.length 0 lo=0/\HT.dH xs.length xs.length hi=xs.length)/\Q (.ref a) H
theorem F1:EK X (Hh X.K):=by
 intro pins s σ H x v vl vu lo hi sl Q I rx hs pl pu h
 obtain⟨a,xs,rfl,hx,hw,q⟩:=h
 cases rx
 obtain⟨its,r,ht,hz⟩:=I.tuple hx
 have hlen:its.toArray.size=xs.length:=by rw [Ul]; exact r.length.symm
 refine⟨"tuple",_,PyProof.Rows.slot_tuple_getitem.lookup,ht.typeIs,?_⟩
 exact HT.jN ht hs pl pu (by rw [hlen]; exact hw) ⟨.ref a,H,I,rfl,q⟩
theorem Gj{x:V}{lo hi:Option Int}{H:Hp}{Q:VK}{a:Addr}{xs:List V}{K:UJ}(e:x=.ref a)(h:aH K H a xs)(q1:gb xs lo hi=xs->Q (.ref a) H)(q2:∀p,H p=none->Q (.ref p) (upd H p (.tup (gb xs lo hi)))):Lc K x lo hi H Q\/Hh K x lo hi H Q:=by
 by_cases hw:HT.dH xs.length 0 lo=0/\HT.dH xs.length xs.length hi=xs.length
 ·refine .inr ⟨a,xs,e,h,hw,q1 ?_⟩
  unfold gb
  rw [hw.1,hw.2]
  simp
 ·exact .inl ⟨a,xs,e,h,hw,q2⟩
end
inductive D where
 | int (i:Int) | str (x:Str) | non | bl (b:Bool) | tup (ds:List D) | lst (ds:List D)
deriving Inhabited
mutual
def aY(K:UJ)(H:Hp):D->V->Prop
 | .int i,v=>v=.int i
 | .str x,v=>v=.str x
 | .non,v=>v=.non
 | .bl b,v=>v=.bl b
 | .tup ds,v=>∃a vs,v=.ref a/\aH K H a vs/\bD K H ds vs
 | .lst ds,v=>∃a vs,v=.ref a/\H a=some (.lst vs)/\bD K H ds vs
def bD(K:UJ)(H:Hp):List D->List V->Prop
 | [],vs=>vs=[]
 | d::ds,vs=>∃v r,vs=v::r/\aY K H d v/\bD K H ds r
end
mutual
def D.depth:D->Nat
 | .tup ds=>1+cw ds
 | .lst ds=>1+cw ds
 | _=>0
def cw:List D->Nat
 | []=>0
 | d::ds=>max d.depth (cw ds)
end
def bI(b:Bool):Int:=if b then 1 else 0
mutual
def cM:D->D->Bool
 | .int i,.int j=>i==j
 | .int i,.bl b=>i==bI b
 | .bl b,.int j=>bI b==j
 | .bl b,.bl c=>b==c
 | .str x,.str y=>x==y
 | .non,.non=>true
 | .tup ds,.tup es=>ib ds es
 | .lst ds,.lst es=>ib ds es
 | _,_=>false
def ib:List D->List D->Bool
 | [],[]=>true
 | d::ds,e::es=>cM d e&&ib ds es
 | _,_=>false
end
mutual
theorem jq:∀d:D,cM d d=true
 | .int i=>by simp [cM]
 | .str x=>by simp [cM]
 | .non=>by simp [cM]
 | .bl b=>by simp [cM]
 | .tup ds=>by rw [cM]; exact ij ds
 | .lst ds=>by rw [cM]; exact ij ds
theorem ij:∀ds:List D,ib ds ds=true
 | []=>by simp [ib]
 | d::ds=>by rw [ib,jq d,ij ds]; rfl
end
section
variable{K:UJ}{H:Hp}
theorem bD.length:∀{ds:List D} {vs:List V},bD K H ds vs->ds.length=vs.length
 | [],vs,h=>by rw [bD]at h; rw [h]; rfl
 | d::ds,vs,h=>by
  rw [bD]at h
  obtain⟨v,r,rfl,_,h⟩:=h
  rw [UG,UG,bD.length h]
theorem bD.get:∀{ds:List D} {vs:List V} {i:Nat} {v:V},bD K H ds vs->vs[i]? = some v->∃d,ds[i]? = some d/\aY K H d v
 | [],vs,i,v,h,e=>by rw [bD]at h; rw [h]at e; cases e
 | d::ds,vs,i,v,h,e=>by
  rw [bD]at h
  obtain⟨u,r,rfl,h1,h2⟩:=h
  cases i with
  | zero=>cases e; exact⟨d,rfl,h1⟩
  | succ i=>obtain⟨d',e1,e2⟩:=bD.get (i:=i) h2 e; exact⟨d',e1,e2⟩
theorem bD.cons{d:D}{v:V}{ds:List D}{vs:List V}(h1:aY K H d v)(h2:bD K H ds vs):bD K H (d::ds) (v::vs):=by rw [bD]; exact⟨v,vs,rfl,h1,h2⟩
theorem bD.nil:bD K H [] []:=by rw [bD]
mutual
theorem aY.mono{H':Hp}(s:∀a xs,aH K H a xs->aH K H' a xs)(t:∀a xs,H a=some (.lst xs)->H' a=some (.lst xs)):∀{d:D} {v:V},aY K H d v->aY K H' d v
 | .int _,v,h=>by rw [aY]at h⊢; exact h
 | .str _,v,h=>by rw [aY]at h⊢; exact h
 | .non,v,h=>by rw [aY]at h⊢; exact h
 | .bl _,v,h=>by rw [aY]at h⊢; exact h
 | .tup ds,v,h=>by
  rw [aY]at h⊢
  obtain⟨a,vs,e,q,h⟩:=h
  exact⟨a,vs,e,s a vs q,bD.mono s t h⟩
 | .lst ds,v,h=>by
  rw [aY]at h⊢
  obtain⟨a,vs,e,q,h⟩:=h
  exact⟨a,vs,e,t a vs q,bD.mono s t h⟩
theorem bD.mono{H':Hp}(s:∀a xs,aH K H a xs->aH K H' a xs)(t:∀a xs,H a=some (.lst xs)->H' a=some (.lst xs)):∀{ds:List D} {vs:List V},bD K H ds vs->bD K H' ds vs
 | [],vs,h=>by rw [bD]at h⊢; exact h
 | d::ds,vs,h=>by
  rw [bD]at h⊢
  obtain⟨u,r,e,h1,h2⟩:=h
  exact⟨u,r,e,aY.mono s t h1,bD.mono s t h2⟩
end
end
theorem nA:∀{ds es:List D},ds.length≠es.length->ib ds es=false
 | [],[],h=>absurd rfl h
 | [],_::_,_=>by rw [ib]; all_goals simp
 | _::_,[],_=>by rw [ib]; all_goals simp
 | d::ds,e::es,h=>by rw [ib,nA (by simpa using h),Bool.and_false]
theorem pN:∀{ds es:List D},ds.length=es.length->(List.range ds.length).all (λj=>cM (ds.getD j .non) (es.getD j .non))=ib ds es
 | [],[],_=>by rw [ib]; rfl
 | d::ds,e::es,h=>by
  rw [ib,UG,List.range_succ_eq_map,List.all_cons,List.all_map,←pN (by simpa using h)]
  rfl
 | [],_::_,h=>by cases h
 | _::_,[],h=>by cases h
theorem CD{ds es:List D}:((List.range (min ds.length es.length)).all (λj=>cM (ds.getD j .non) (es.getD j .non))&&ds.length==es.length)=ib ds es:=by
 by_cases h:ds.length=es.length
 ·rw [←pN h,h,Nat.min_self]; simp
 ·rw [nA h,beq_eq_false_iff_ne.mpr h,Bool.and_false]
theorem jZ:∀{ds:List D} {i:Nat} {d:D},ds[i]? = some d->d.depth<=cw ds
 | [],i,d,e=>by cases e
 | d'::ds,0,d,e=>by cases e; rw [cw]; exact Nat.le_max_left _ _
 | d'::ds,i+1,d,e=>by rw [cw]; exact T8 (jZ (i:=i) (by simpa using e)) (Nat.le_max_right _ _)
section
variable{X:Cx}{pins:List (Addr×Obj)}{σ:St}{H:Hp}{s:Shared}
theorem lC{ds:List D}{j:Nat}{d:D}(h:ds[j]? = some d):ds.getD j .non=d:=by rw [List.getD_eq_getElem?_getD,h]; rfl
def both(A:Around)(s:Shared)(u v:Value)(b:Bool):Prop:=SeqAt.EqAt A s u v b/\SeqAt.RcAt A s u v b/\SeqAt.RcNeAt A s u v (!b)
def seqs:D->D->Bool
 | .tup _,.tup _=>true
 | .lst _,.lst _=>true
 | _,_=>false
theorem nE(I:Inv X pins σ H s){A:Around}(hu:A.units<cLine):∀{d e:D} {x y:V} {u v:Value},seqs d e=false->aY X.K H d x->aY X.K H e y->RelV x u->RelV y v->both A s u v (cM d e)
 | .int i,.int j,x,y,u,v,hs,h1,h2,r1,r2=>by
  rw [aY]at h1; subst h1; obtain⟨t,rfl⟩:=r1
  rw [aY]at h2; subst h2; obtain⟨w,rfl⟩:=r2
  rw [cM]
  exact⟨.int_int i t j w,.int_int i t j w,.int_int i t j w⟩
 | .int i,.str j,x,y,u,v,hs,h1,h2,r1,r2=>by
  rw [aY]at h1; subst h1; obtain⟨t,rfl⟩:=r1
  rw [aY]at h2; subst h2; obtain⟨w,rfl⟩:=r2
  rw [show cM (.int i) (.str j)=false by simp [cM]]
  exact⟨.int_str i t j w,.int_str i t j w,.int_str i t j w⟩
 | .int i,.non,x,y,u,v,hs,h1,h2,r1,r2=>by
  rw [aY]at h1; subst h1; obtain⟨t,rfl⟩:=r1
  rw [aY]at h2; subst h2; cases r2
  rw [show cM (.int i) (.non)=false by simp [cM]]
  exact⟨.int_none i t,.int_none i t,.int_none i t⟩
 | .int i,.bl j,x,y,u,v,hs,h1,h2,r1,r2=>by
  rw [aY]at h1; subst h1; obtain⟨t,rfl⟩:=r1
  rw [aY]at h2; subst h2; cases r2
  rw [cM]
  exact⟨.int_bool i t j,.int_bool i t j,.int_bool i t j⟩
 | .int i,.tup j,x,y,u,v,hs,h1,h2,r1,r2=>by
  rw [aY]at h1; subst h1; obtain⟨t,rfl⟩:=r1
  rw [aY]at h2; obtain⟨aw,Gh,rfl,q2,_⟩:=h2; cases r2; obtain⟨sM,EG,pw,_⟩:=I.tuple q2
  rw [show cM (.int i) (.tup j)=false by simp [cM]]
  exact⟨.int_tuple i t pw hu,.int_tuple i t pw hu,.int_tuple i t pw hu⟩
 | .int i,.lst j,x,y,u,v,hs,h1,h2,r1,r2=>by
  rw [aY]at h1; subst h1; obtain⟨t,rfl⟩:=r1
  rw [aY]at h2; obtain⟨aw,Gh,rfl,q2,_⟩:=h2; cases r2; obtain⟨sM,EG,F0,_⟩:=I.list (a_.of q2); have pw:=F0.isList
  rw [show cM (.int i) (.lst j)=false by simp [cM]]
  exact⟨.int_list i t pw hu,.int_list i t pw hu,.int_list i t pw hu⟩
 | .str i,.int j,x,y,u,v,hs,h1,h2,r1,r2=>by
  rw [aY]at h1; subst h1; obtain⟨t,rfl⟩:=r1
  rw [aY]at h2; subst h2; obtain⟨w,rfl⟩:=r2
  rw [show cM (.str i) (.int j)=false by simp [cM]]
  exact⟨.str_int i t j w,.str_int i t j w,.str_int i t j w⟩
 | .str i,.str j,x,y,u,v,hs,h1,h2,r1,r2=>by
  rw [aY]at h1; subst h1; obtain⟨t,rfl⟩:=r1
  rw [aY]at h2; subst h2; obtain⟨w,rfl⟩:=r2
  rw [cM]
  exact⟨.str_str i t j w,.str_str i t j w,.str_str i t j w⟩
 | .str i,.non,x,y,u,v,hs,h1,h2,r1,r2=>by
  rw [aY]at h1; subst h1; obtain⟨t,rfl⟩:=r1
  rw [aY]at h2; subst h2; cases r2
  rw [show cM (.str i) (.non)=false by simp [cM]]
  exact⟨.str_none i t,.str_none i t,.str_none i t⟩
 | .str i,.bl j,x,y,u,v,hs,h1,h2,r1,r2=>by
  rw [aY]at h1; subst h1; obtain⟨t,rfl⟩:=r1
  rw [aY]at h2; subst h2; cases r2
  rw [show cM (.str i) (.bl j)=false by simp [cM]]
  exact⟨.str_bool i t j,.str_bool i t j,.str_bool i t j⟩
 | .str i,.tup j,x,y,u,v,hs,h1,h2,r1,r2=>by
  rw [aY]at h1; subst h1; obtain⟨t,rfl⟩:=r1
  rw [aY]at h2; obtain⟨aw,Gh,rfl,q2,_⟩:=h2; cases r2; obtain⟨sM,EG,pw,_⟩:=I.tuple q2
  rw [show cM (.str i) (.tup j)=false by simp [cM]]
  exact⟨.str_tuple i t pw hu,.str_tuple i t pw hu,.str_tuple i t pw hu⟩
 | .str i,.lst j,x,y,u,v,hs,h1,h2,r1,r2=>by
  rw [aY]at h1; subst h1; obtain⟨t,rfl⟩:=r1
  rw [aY]at h2; obtain⟨aw,Gh,rfl,q2,_⟩:=h2; cases r2; obtain⟨sM,EG,F0,_⟩:=I.list (a_.of q2); have pw:=F0.isList
  rw [show cM (.str i) (.lst j)=false by simp [cM]]
  exact⟨.str_list i t pw hu,.str_list i t pw hu,.str_list i t pw hu⟩
 | .non,.int j,x,y,u,v,hs,h1,h2,r1,r2=>by
  rw [aY]at h1; subst h1; cases r1
  rw [aY]at h2; subst h2; obtain⟨w,rfl⟩:=r2
  rw [show cM (.non) (.int j)=false by simp [cM]]
  exact⟨.none_int j w,.none_int j w,.none_int j w⟩
 | .non,.str j,x,y,u,v,hs,h1,h2,r1,r2=>by
  rw [aY]at h1; subst h1; cases r1
  rw [aY]at h2; subst h2; obtain⟨w,rfl⟩:=r2
  rw [show cM (.non) (.str j)=false by simp [cM]]
  exact⟨.none_str j w,.none_str j w,.none_str j w⟩
 | .non,.non,x,y,u,v,hs,h1,h2,r1,r2=>by
  rw [aY]at h1; subst h1; cases r1
  rw [aY]at h2; subst h2; cases r2
  rw [cM]
  exact⟨.same _,.none_none,.none_none⟩
 | .non,.bl j,x,y,u,v,hs,h1,h2,r1,r2=>by
  rw [aY]at h1; subst h1; cases r1
  rw [aY]at h2; subst h2; cases r2
  rw [show cM (.non) (.bl j)=false by simp [cM]]
  exact⟨.none_bool j,.none_bool j,.none_bool j⟩
 | .non,.tup j,x,y,u,v,hs,h1,h2,r1,r2=>by
  rw [aY]at h1; subst h1; cases r1
  rw [aY]at h2; obtain⟨aw,Gh,rfl,q2,_⟩:=h2; cases r2; obtain⟨sM,EG,pw,_⟩:=I.tuple q2
  rw [show cM (.non) (.tup j)=false by simp [cM]]
  exact⟨.none_tuple pw hu,.none_tuple pw hu,.none_tuple pw hu⟩
 | .non,.lst j,x,y,u,v,hs,h1,h2,r1,r2=>by
  rw [aY]at h1; subst h1; cases r1
  rw [aY]at h2; obtain⟨aw,Gh,rfl,q2,_⟩:=h2; cases r2; obtain⟨sM,EG,F0,_⟩:=I.list (a_.of q2); have pw:=F0.isList
  rw [show cM (.non) (.lst j)=false by simp [cM]]
  exact⟨.none_list pw hu,.none_list pw hu,.none_list pw hu⟩
 | .bl i,.int j,x,y,u,v,hs,h1,h2,r1,r2=>by
  rw [aY]at h1; subst h1; cases r1
  rw [aY]at h2; subst h2; obtain⟨w,rfl⟩:=r2
  rw [cM]
  exact⟨.bool_int i j w,.bool_int i j w,.bool_int i j w⟩
 | .bl i,.str j,x,y,u,v,hs,h1,h2,r1,r2=>by
  rw [aY]at h1; subst h1; cases r1
  rw [aY]at h2; subst h2; obtain⟨w,rfl⟩:=r2
  rw [show cM (.bl i) (.str j)=false by simp [cM]]
  exact⟨.bool_str i j w,.bool_str i j w,.bool_str i j w⟩
 | .bl i,.non,x,y,u,v,hs,h1,h2,r1,r2=>by
  rw [aY]at h1; subst h1; cases r1
  rw [aY]at h2; subst h2; cases r2
  rw [show cM (.bl i) (.non)=false by simp [cM]]
  exact⟨.bool_none i,.bool_none i,.bool_none i⟩
 | .bl i,.bl j,x,y,u,v,hs,h1,h2,r1,r2=>by
  rw [aY]at h1; subst h1; cases r1
  rw [aY]at h2; subst h2; cases r2
  rw [cM]
  exact⟨.bool_bool i j,.bool_bool i j,.bool_bool i j⟩
 | .bl i,.tup j,x,y,u,v,hs,h1,h2,r1,r2=>by
  rw [aY]at h1; subst h1; cases r1
  rw [aY]at h2; obtain⟨aw,Gh,rfl,q2,_⟩:=h2; cases r2; obtain⟨sM,EG,pw,_⟩:=I.tuple q2
  rw [show cM (.bl i) (.tup j)=false by simp [cM]]
  exact⟨.bool_tuple i pw hu,.bool_tuple i pw hu,.bool_tuple i pw hu⟩
 | .bl i,.lst j,x,y,u,v,hs,h1,h2,r1,r2=>by
  rw [aY]at h1; subst h1; cases r1
  rw [aY]at h2; obtain⟨aw,Gh,rfl,q2,_⟩:=h2; cases r2; obtain⟨sM,EG,F0,_⟩:=I.list (a_.of q2); have pw:=F0.isList
  rw [show cM (.bl i) (.lst j)=false by simp [cM]]
  exact⟨.bool_list i pw hu,.bool_list i pw hu,.bool_list i pw hu⟩
 | .tup i,.int j,x,y,u,v,hs,h1,h2,r1,r2=>by
  rw [aY]at h1; obtain⟨FR,EM,rfl,q1,_⟩:=h1; cases r1; obtain⟨tY,EW,pt,_⟩:=I.tuple q1
  rw [aY]at h2; subst h2; obtain⟨w,rfl⟩:=r2
  rw [show cM (.tup i) (.int j)=false by simp [cM]]
  exact⟨.tuple_int j w pt hu,.tuple_int j w pt hu,.tuple_int j w pt hu⟩
 | .tup i,.str j,x,y,u,v,hs,h1,h2,r1,r2=>by
  rw [aY]at h1; obtain⟨FR,EM,rfl,q1,_⟩:=h1; cases r1; obtain⟨tY,EW,pt,_⟩:=I.tuple q1
  rw [aY]at h2; subst h2; obtain⟨w,rfl⟩:=r2
  rw [show cM (.tup i) (.str j)=false by simp [cM]]
  exact⟨.tuple_str j w pt hu,.tuple_str j w pt hu,.tuple_str j w pt hu⟩
 | .tup i,.non,x,y,u,v,hs,h1,h2,r1,r2=>by
  rw [aY]at h1; obtain⟨FR,EM,rfl,q1,_⟩:=h1; cases r1; obtain⟨tY,EW,pt,_⟩:=I.tuple q1
  rw [aY]at h2; subst h2; cases r2
  rw [show cM (.tup i) (.non)=false by simp [cM]]
  exact⟨.tuple_none pt hu,.tuple_none pt hu,.tuple_none pt hu⟩
 | .tup i,.bl j,x,y,u,v,hs,h1,h2,r1,r2=>by
  rw [aY]at h1; obtain⟨FR,EM,rfl,q1,_⟩:=h1; cases r1; obtain⟨tY,EW,pt,_⟩:=I.tuple q1
  rw [aY]at h2; subst h2; cases r2
  rw [show cM (.tup i) (.bl j)=false by simp [cM]]
  exact⟨.tuple_bool j pt hu,.tuple_bool j pt hu,.tuple_bool j pt hu⟩
 | .tup ds,.tup es,x,y,u,v,hs,h1,h2,r1,r2=>by cases hs
 | .tup i,.lst j,x,y,u,v,hs,h1,h2,r1,r2=>by
  rw [aY]at h1; obtain⟨FR,EM,rfl,q1,_⟩:=h1; cases r1; obtain⟨tY,EW,pt,_⟩:=I.tuple q1
  rw [aY]at h2; obtain⟨aw,Gh,rfl,q2,_⟩:=h2; cases r2; obtain⟨sM,EG,F0,_⟩:=I.list (a_.of q2); have pw:=F0.isList
  rw [show cM (.tup i) (.lst j)=false by simp [cM]]
  exact⟨.tuple_list pt pw hu,.tuple_list pt pw hu,.tuple_list pt pw hu⟩
 | .lst i,.int j,x,y,u,v,hs,h1,h2,r1,r2=>by
  rw [aY]at h1; obtain⟨FR,EM,rfl,q1,_⟩:=h1; cases r1; obtain⟨tY,EW,ES,_⟩:=I.list (a_.of q1); have pt:=ES.isList
  rw [aY]at h2; subst h2; obtain⟨w,rfl⟩:=r2
  rw [show cM (.lst i) (.int j)=false by simp [cM]]
  exact⟨.list_int j w pt hu,.list_int j w pt hu,.list_int j w pt hu⟩
 | .lst i,.str j,x,y,u,v,hs,h1,h2,r1,r2=>by
  rw [aY]at h1; obtain⟨FR,EM,rfl,q1,_⟩:=h1; cases r1; obtain⟨tY,EW,ES,_⟩:=I.list (a_.of q1); have pt:=ES.isList
  rw [aY]at h2; subst h2; obtain⟨w,rfl⟩:=r2
  rw [show cM (.lst i) (.str j)=false by simp [cM]]
  exact⟨.list_str j w pt hu,.list_str j w pt hu,.list_str j w pt hu⟩
 | .lst i,.non,x,y,u,v,hs,h1,h2,r1,r2=>by
  rw [aY]at h1; obtain⟨FR,EM,rfl,q1,_⟩:=h1; cases r1; obtain⟨tY,EW,ES,_⟩:=I.list (a_.of q1); have pt:=ES.isList
  rw [aY]at h2; subst h2; cases r2
  rw [show cM (.lst i) (.non)=false by simp [cM]]
  exact⟨.list_none pt hu,.list_none pt hu,.list_none pt hu⟩
 | .lst i,.bl j,x,y,u,v,hs,h1,h2,r1,r2=>by
  rw [aY]at h1; obtain⟨FR,EM,rfl,q1,_⟩:=h1; cases r1; obtain⟨tY,EW,ES,_⟩:=I.list (a_.of q1); have pt:=ES.isList
  rw [aY]at h2; subst h2; cases r2
  rw [show cM (.lst i) (.bl j)=false by simp [cM]]
  exact⟨.list_bool j pt hu,.list_bool j pt hu,.list_bool j pt hu⟩
 | .lst i,.tup j,x,y,u,v,hs,h1,h2,r1,r2=>by
  rw [aY]at h1; obtain⟨FR,EM,rfl,q1,_⟩:=h1; cases r1; obtain⟨tY,EW,ES,_⟩:=I.list (a_.of q1); have pt:=ES.isList
  rw [aY]at h2; obtain⟨aw,Gh,rfl,q2,_⟩:=h2; cases r2; obtain⟨sM,EG,pw,_⟩:=I.tuple q2
  rw [show cM (.lst i) (.tup j)=false by simp [cM]]
  exact⟨.list_tuple pt pw hu,.list_tuple pt pw hu,.list_tuple pt pw hu⟩
 | .lst ds,.lst es,x,y,u,v,hs,h1,h2,r1,r2=>by cases hs
theorem mx(I:Inv X pins σ H s){a:Addr}{xs ys:List V}(h:a_ X.K H a xs)(h':aH X.K H a ys):False:=by
 obtain⟨_,_,p,_⟩:=I.list h
 obtain⟨_,_,p',_⟩:=I.tuple h'
 exact SeqAt.ne_of_list_tuple p.isList p' rfl
mutual
theorem aY.inj(I:Inv X pins σ H s):∀{d e:D} {v:V},aY X.K H d v->aY X.K H e v->d=e
 | .int i,.int j,v,h1,h2=>by
  rw [aY]at h1; rw [aY]at h2
  subst h1
  injection h2 with h2
  rw [h2]
 | .int i,.str j,v,h1,h2=>by
  rw [aY]at h1; rw [aY]at h2
  subst h1
  cases h2
 | .int i,.non,v,h1,h2=>by
  rw [aY]at h1; rw [aY]at h2
  subst h1
  cases h2
 | .int i,.bl j,v,h1,h2=>by
  rw [aY]at h1; rw [aY]at h2
  subst h1
  cases h2
 | .int i,.tup j,v,h1,h2=>by
  rw [aY]at h1; rw [aY]at h2
  obtain⟨a,vs,rfl,q,g⟩:=h2
  cases h1
 | .int i,.lst j,v,h1,h2=>by
  rw [aY]at h1; rw [aY]at h2
  obtain⟨a,vs,rfl,q,g⟩:=h2
  cases h1
 | .str i,.int j,v,h1,h2=>by
  rw [aY]at h1; rw [aY]at h2
  subst h1
  cases h2
 | .str i,.str j,v,h1,h2=>by
  rw [aY]at h1; rw [aY]at h2
  subst h1
  injection h2 with h2
  rw [h2]
 | .str i,.non,v,h1,h2=>by
  rw [aY]at h1; rw [aY]at h2
  subst h1
  cases h2
 | .str i,.bl j,v,h1,h2=>by
  rw [aY]at h1; rw [aY]at h2
  subst h1
  cases h2
 | .str i,.tup j,v,h1,h2=>by
  rw [aY]at h1; rw [aY]at h2
  obtain⟨a,vs,rfl,q,g⟩:=h2
  cases h1
 | .str i,.lst j,v,h1,h2=>by
  rw [aY]at h1; rw [aY]at h2
  obtain⟨a,vs,rfl,q,g⟩:=h2
  cases h1
 | .non,.int j,v,h1,h2=>by
  rw [aY]at h1; rw [aY]at h2
  subst h1
  cases h2
 | .non,.str j,v,h1,h2=>by
  rw [aY]at h1; rw [aY]at h2
  subst h1
  cases h2
 | .non,.non,v,h1,h2=>rfl
 | .non,.bl j,v,h1,h2=>by
  rw [aY]at h1; rw [aY]at h2
  subst h1
  cases h2
 | .non,.tup j,v,h1,h2=>by
  rw [aY]at h1; rw [aY]at h2
  obtain⟨a,vs,rfl,q,g⟩:=h2
  cases h1
 | .non,.lst j,v,h1,h2=>by
  rw [aY]at h1; rw [aY]at h2
  obtain⟨a,vs,rfl,q,g⟩:=h2
  cases h1
 | .bl i,.int j,v,h1,h2=>by
  rw [aY]at h1; rw [aY]at h2
  subst h1
  cases h2
 | .bl i,.str j,v,h1,h2=>by
  rw [aY]at h1; rw [aY]at h2
  subst h1
  cases h2
 | .bl i,.non,v,h1,h2=>by
  rw [aY]at h1; rw [aY]at h2
  subst h1
  cases h2
 | .bl i,.bl j,v,h1,h2=>by
  rw [aY]at h1; rw [aY]at h2
  subst h1
  injection h2 with h2
  rw [h2]
 | .bl i,.tup j,v,h1,h2=>by
  rw [aY]at h1; rw [aY]at h2
  obtain⟨a,vs,rfl,q,g⟩:=h2
  cases h1
 | .bl i,.lst j,v,h1,h2=>by
  rw [aY]at h1; rw [aY]at h2
  obtain⟨a,vs,rfl,q,g⟩:=h2
  cases h1
 | .tup i,.int j,v,h1,h2=>by
  rw [aY]at h1; rw [aY]at h2
  obtain⟨a,vs,rfl,q,g⟩:=h1
  cases h2
 | .tup i,.str j,v,h1,h2=>by
  rw [aY]at h1; rw [aY]at h2
  obtain⟨a,vs,rfl,q,g⟩:=h1
  cases h2
 | .tup i,.non,v,h1,h2=>by
  rw [aY]at h1; rw [aY]at h2
  obtain⟨a,vs,rfl,q,g⟩:=h1
  cases h2
 | .tup i,.bl j,v,h1,h2=>by
  rw [aY]at h1; rw [aY]at h2
  obtain⟨a,vs,rfl,q,g⟩:=h1
  cases h2
 | .tup i,.tup j,v,h1,h2=>by
  rw [aY]at h1; rw [aY]at h2
  obtain⟨a,vs,rfl,q,g⟩:=h1
  obtain⟨b,ws,e,q',g'⟩:=h2
  cases e
  rw [I.ik q' q]at g'
  rw [bD.inj I g g']
 | .tup i,.lst j,v,h1,h2=>by
  rw [aY]at h1; rw [aY]at h2
  obtain⟨a,vs,rfl,q,g⟩:=h1
  obtain⟨b,ws,e,q',g'⟩:=h2
  cases e
  exact(mx I (a_.of q') q).elim
 | .lst i,.int j,v,h1,h2=>by
  rw [aY]at h1; rw [aY]at h2
  obtain⟨a,vs,rfl,q,g⟩:=h1
  cases h2
 | .lst i,.str j,v,h1,h2=>by
  rw [aY]at h1; rw [aY]at h2
  obtain⟨a,vs,rfl,q,g⟩:=h1
  cases h2
 | .lst i,.non,v,h1,h2=>by
  rw [aY]at h1; rw [aY]at h2
  obtain⟨a,vs,rfl,q,g⟩:=h1
  cases h2
 | .lst i,.bl j,v,h1,h2=>by
  rw [aY]at h1; rw [aY]at h2
  obtain⟨a,vs,rfl,q,g⟩:=h1
  cases h2
 | .lst i,.tup j,v,h1,h2=>by
  rw [aY]at h1; rw [aY]at h2
  obtain⟨a,vs,rfl,q,g⟩:=h1
  obtain⟨b,ws,e,q',g'⟩:=h2
  cases e
  exact(mx I (a_.of q) q').elim
 | .lst i,.lst j,v,h1,h2=>by
  rw [aY]at h1; rw [aY]at h2
  obtain⟨a,vs,rfl,q,g⟩:=h1
  obtain⟨b,ws,e,q',g'⟩:=h2
  cases e
  rw [q]at q'
  cases q'
  rw [bD.inj I g g']
theorem bD.inj(I:Inv X pins σ H s):∀{ds es:List D} {vs:List V},bD X.K H ds vs->bD X.K H es vs->ds=es
 | [],[],vs,h1,h2=>rfl
 | [],e::es,vs,h1,h2=>by
  rw [bD]at h1; rw [bD]at h2
  obtain⟨v,r,rfl,_⟩:=h2
  cases h1
 | d::ds,[],vs,h1,h2=>by
  rw [bD]at h1; rw [bD]at h2
  obtain⟨v,r,rfl,_⟩:=h1
  cases h2
 | d::ds,e::es,vs,h1,h2=>by
  rw [bD]at h1; rw [bD]at h2
  obtain⟨v,r,rfl,a1,a2⟩:=h1
  obtain⟨v',r',z,b1,b2⟩:=h2
  injection z with z1 z2
  rw [←z1]at b1
  rw [←z2]at b2
  rw [aY.inj I a1 b1,bD.inj I a2 b2]
end
theorem xK(I:Inv X pins σ H s):∀(n:Nat) {A:Around} {d e:D} {x y:V} {u v:Value},d.depth<=n->A.units+n<cLine->aY X.K H d x->aY X.K H e y->RelV x u->RelV y v->both A s u v (cM d e):=by
 intro n
 induction n with
 | zero =>
  intro A d e x y u v hd hu h1 h2 r1 r2
  refine nE I (by omega) ?_ h1 h2 r1 r2
  cases d <;> cases e <;> first | rfl | (rw [D.depth]at hd; omega)
 | succ n ih =>
  intro A d e x y u v hd hu h1 h2 r1 r2
  cases hs:seqs d e with
  | false=>exact nE I (by omega) hs h1 h2 r1 r2
  | true =>
   have items:∀{ds es:List D} {vs ws:List V} {its its':List Value},1+cw ds<=n+1->bD X.K H ds vs->bD X.K H es ws->Vals vs its->Vals ws its'->∀j (h1:j<its.toArray.size) (h2:j<its'.toArray.size),SeqAt.EqAt A.in1 s its.toArray[j] its'.toArray[j] (cM (ds.getD j .non) (es.getD j .non)):=by
    intro ds es vs ws its its' hdd g g' rv xh j j1 j2
    obtain⟨x,e1,rx⟩:=mZ rv j1
    obtain⟨y,e2,ry⟩:=mZ xh j2
    obtain⟨d,ed,gd⟩:=g.get e1
    obtain⟨e,ee,ge⟩:=g'.get e2
    rw [lC ed,lC ee]
    have:=jZ ed
    exact(ih (by omega) (by show A.units+1+n<cLine; omega) gd ge rx ry).1
   cases d <;> cases e <;> first | cases hs | skip
   ·rename_i ds es
    rw [D.depth]at hd
    have g1:=h1
    have g2:=h2
    rw [aY]at h1; rw [aY]at h2
    obtain⟨a,vs,rfl,q,g⟩:=h1
    obtain⟨b,ws,rfl,q',g'⟩:=h2
    cases r1; cases r2
    obtain⟨its,rv,p,_⟩:=I.tuple q
    obtain⟨its',xh,p',_⟩:=I.tuple q'
    have l1:its.toArray.size=ds.length:=by simp [←rv.length,g.length]
    have l2:its'.toArray.size=es.length:=by simp [←xh.length,g'.length]
    have z1:=SeqAt.RcAt.tuples p p' (by omega) (items hd g g' rv xh)
    have z2:=SeqAt.RcNeAt.tuples p p' (by omega) (items hd g g' rv xh)
    rw [l1,l2,CD]at z1 z2
    rw [cM]
    refine⟨?_,z1,z2⟩
    by_cases hab:a=b
    ·subst hab
     have e:=aY.inj I g1 g2
     injection e with e
     rw [e,ij]
     exact .same _
    ·exact .of_refs hab z1
   ·rename_i ds es
    rw [D.depth]at hd
    have g1:=h1
    have g2:=h2
    rw [aY]at h1; rw [aY]at h2
    obtain⟨a,vs,rfl,q,g⟩:=h1
    obtain⟨b,ws,rfl,q',g'⟩:=h2
    cases r1; cases r2
    obtain⟨its,rv,p,_⟩:=I.list (a_.of q)
    obtain⟨its',xh,p',_⟩:=I.list (a_.of q')
    have l1:its.toArray.size=ds.length:=by simp [←rv.length,g.length]
    have l2:its'.toArray.size=es.length:=by simp [←xh.length,g'.length]
    have zz:SeqAt.RcAt A s (.ref a) (.ref b) (ib ds es)/\SeqAt.RcNeAt A s (.ref a) (.ref b) (!ib ds es):=by
     by_cases hl:ds.length=es.length
     ·have z1:=SeqAt.RcAt.lists p.isList p'.isList (by rw [l1,l2,hl]) (by omega) (items hd g g' rv xh)
      have z2:=SeqAt.RcNeAt.lists p.isList p'.isList (by rw [l1,l2,hl]) (by omega) (items hd g g' rv xh)
      rw [l1,pN hl]at z1 z2
      exact⟨z1,z2⟩
     ·rw [nA hl]
      exact⟨SeqAt.RcAt.lists_lengths p.isList p'.isList (by rw [l1,l2]; simpa using hl) (by omega),SeqAt.RcNeAt.lists_lengths p.isList p'.isList (by rw [l1,l2]; simpa using hl) (by omega)⟩
    rw [cM]
    refine⟨?_,zz.1,zz.2⟩
    by_cases hab:a=b
    ·subst hab
     have e:=aY.inj I g1 g2
     injection e with e
     rw [e,ij]
     exact .same _
    ·exact .of_refs hab zz.1
def Oi(K:UJ)(A:Around):R2:=λx y H Q=>∃d e,aY K H d x/\aY K H e y/\A.units+d.depth<cLine/\Q (.bl (cM d e)) H
def N7(K:UJ)(A:Around):R2:=λx y H Q=>∃d e,aY K H d x/\aY K H e y/\A.units+d.depth<cLine/\Q (.bl (!cM d e)) H
theorem ID:i3 X (compareOp .Eq) (Oi X.K X.A):=by
 intro pins s σ H x y v u Q I rx ry h
 obtain⟨d,e,h1,h2,hu,q⟩:=h
 exact(xK I d.depth (T7 _) hu h1 h2 rx ry).2.1 _ _ _ _ ⟨.bl _,H,I,rfl,q⟩
theorem jt:i3 X (compareOp .NotEq) (N7 X.K X.A):=by
 intro pins s σ H x y v u Q I rx ry h
 obtain⟨d,e,h1,h2,hu,q⟩:=h
 exact(xK I d.depth (T7 _) hu h1 h2 rx ry).2.2 _ _ _ _ ⟨.bl _,H,I,rfl,q⟩
def Er(d:D)(es:List D):Bool:=es.any λe=>cM e d
def OR(K:UJ)(A:Around)(neg:Bool):R2:=λx y H Q=>∃d es p xs,y=.ref p/\(a_ K H p xs\/aH K H p xs)/\aY K H d x/\bD K H es xs/\A.units+1+cw es<cLine/\Q (.bl (if neg then !Er d es else Er d es)) H
theorem wF{α:Type}{f:α->Bool}:∀{l:List α},l.any f=(List.range l.length).any λj=>(l[j]?.map f).getD false
 | []=>rfl
 | a::l=>by
  rw [List.any_cons,UG,List.range_succ_eq_map,List.any_cons,List.any_map,@wF _ f l]
  rfl
open Classical in
noncomputable def zP (its:List Value) (es:List D) (d:D) (y:Value):Bool:=decide (∃j,its[j]? = some y/\cM (es.getD j .non) d=true)
theorem BS(I:Inv X pins σ H s){its:List Value}{es:List D}{xs:List V}{d:D}(g:bD X.K H es xs)(r:Vals xs its){j:Nat}{y:Value}(h:its[j]? = some y):zP its es d y=cM (es.getD j .non) d:=by
 have at':∀{j:Nat},its[j]? = some y->∃e v,es.getD j .non=e/\RelV v y/\aY X.K H e v:=λ{j} h=>by
  have hj:j<its.toArray.size:=by
   have:=(Um.mp h).1
   simpa using this
  obtain⟨v,e1,rv⟩:=mZ r hj
  obtain⟨e,ee,ge⟩:=g.get e1
  have:its.toArray[j]=y:=by
   have:=(Um.mp h).2
   simpa using this
  rw [this]at rv
  exact⟨e,v,lC ee,rv,ge⟩
 obtain⟨e,v,q1,q2,q3⟩:=at' h
 unfold zP
 cases q:cM (es.getD j .non) d with
 | true=>exact @T_ _ (Classical.propDecidable _) ⟨j,h,q⟩
 | false =>
  refine @T9 _ (Classical.propDecidable _) ?_
  rintro⟨j',h',z⟩
  obtain⟨e',v',p1,p2,p3⟩:=at' h'
  have:=RelV.inj p2 q2
  subst this
  have:=aY.inj I p3 q3
  rw [p1,this,←q1,q]at z
  cases z
theorem yw(I:Inv X pins σ H s){its:List Value}{es:List D}{xs:List V}{d:D}(g:bD X.K H es xs)(r:Vals xs its):its.any (zP its es d)=Er d es:=by
 have hl:its.length=es.length:=by rw [←r.length,g.length]
 unfold Er
 rw [@wF _ (zP its es d),@wF _ (λe=>cM e d),hl]
 have key:∀j∈List.range es.length,((its[j]?.map (zP its es d)).getD false)=((es[j]?.map λe=>cM e d).getD false):=λj hj=>by
  have hj':=List.mem_range.mp hj
  have e1:its[j]? = some its[j]:=Ug (by omega)
  have e2:es[j]? = some es[j]:=Ug hj'
  rw [e1,e2]
  show zP its es d its[j]=cM es[j] d
  rw [BS I g r e1,lC e2]
 generalize List.range es.length=l at key
 induction l with
 | nil=>rfl
 | cons a l ih=>rw [List.any_cons,List.any_cons,key a (UE ..),ih λj hj=>key j (Uj _ hj)]
theorem ur(I:Inv X pins σ H s){A:Around}{its:List Value}{es:List D}{xs:List V}{d:D}{x:V}{u:Value}(g:bD X.K H es xs)(r:Vals xs its)(h:aY X.K H d x)(rx:RelV x u)(hu:A.units+1+cw es<cLine):∀y∈its.toArray,SeqAt.EqAt A.in1 s y u (zP its es d y):=λy hy=>by
 have hy':y∈its:=by simpa using hy
 obtain⟨j,hj,e⟩:=List.getElem_of_mem hy'
 have e1:its[j]? = some y:=by rw [Ug hj,e]
 rw [BS I g r e1]
 obtain⟨v,e2,rv⟩:=mZ r (j:=j) (by simpa using hj)
 obtain⟨e',e3,ge⟩:=g.get e2
 have:its.toArray[j]'(by simpa using hj)=y:=by simpa using e
 rw [this]at rv
 rw [lC e3]
 have:=jZ e3
 exact(xK I e'.depth (T7 _) (by show A.units+1+e'.depth<cLine; omega) ge h rv rx).1
theorem rA:i3 X (compareOp .NotIn) (OR X.K X.A true):=by
 intro pins s σ H x y v u Q I rx ry h
 obtain⟨d,es,p,xs,rfl,hq,h1,g,hu,q⟩:=h
 cases ry
 rcases hq with hq | hq
 ·obtain⟨its,r,pl,hz⟩:=I.list hq
  refine SeqAt.notIn_listAt (zP its es d) pl.isList (ur I g r h1 rx hu) ⟨.bl _,H,I,rfl,?_⟩
  rw [show its.toArray.any (zP its es d)=its.any (zP its es d) by simp,yw I g r]
  exact q
 ·obtain⟨its,r,pl,hz⟩:=I.tuple hq
  refine SeqAt.notIn_tupleAt (zP its es d) pl (ur I g r h1 rx hu) ⟨.bl _,H,I,rfl,?_⟩
  rw [show its.toArray.any (zP its es d)=its.any (zP its es d) by simp,yw I g r]
  exact q
end
section
variable{K:UJ}{H H':Hp}{a:Addr}
theorem aM.O3{xs:List V}(e:aM H H')(h:aH K H a xs):aH K H' a xs:=by
 rcases h with h | h
 ·rcases h with h | ⟨o,h⟩
  ·exact .inl (.inl (e _ _ h))
  ·exact .inl (.inr ⟨o,e _ _ h⟩)
 ·exact .inr h
theorem aY.same(s:aM H H'){d:D}{v:V}(h:aY K H d v):aY K H' d v:=h.mono (λ_ _ q=>s.O3 q) (λ_ _ q=>s _ _ q)
theorem EH:aY K H .non .non:=by rw [aY]
theorem yo(x:Int):aY K H (.int x) (.int x):=by rw [aY]
theorem gx(x:Str):aY K H (.str x) (.str x):=by rw [aY]
theorem IY(x:Bool):aY K H (.bl x) (.bl x):=by rw [aY]
theorem iE{vs:List V}{ds:List D}(h:H a=some (.tup vs))(g:bD K H ds vs):aY K H (.tup ds) (.ref a):=by rw [aY]; exact⟨a,vs,rfl,aH.of h,g⟩
theorem kM{vs:List V}{ds:List D}(h:H a=some (.lst vs))(g:bD K H ds vs):aY K H (.lst ds) (.ref a):=by rw [aY]; exact⟨a,vs,rfl,h,g⟩
end
def CV(xs:Array Nat):Prop:=xs.toList.Pairwise (· < ·)
theorem CV.lt{xs:Array Nat}(h:CV xs){i j a b:Nat}(hij:i<j)(ha:xs[i]? = some a)(hb:xs[j]? = some b):a<b:=by
 rw [←Array.getElem?_toList]at ha hb
 obtain⟨h1,e1⟩:=Um.mp ha
 obtain⟨h2,e2⟩:=Um.mp hb
 rw [←e1,←e2]
 exact List.pairwise_iff_getElem.mp h i j h1 h2 hij
theorem pe{xs:Array Nat}(h:CV xs)(j:Nat):∀(fuel lo hi:Nat),hi<=xs.size->lo<=hi->hi-lo<=fuel->(∀i a,i<lo->xs[i]? = some a->a<j)->(∀i a,hi<=i->xs[i]? = some a->j<=a)->
  SetTable.below.go xs j fuel lo hi<=xs.size/\(∀i a,i<SetTable.below.go xs j fuel lo hi->xs[i]? = some a->a<j)/\∀i a,SetTable.below.go xs j fuel lo hi<=i->xs[i]? = some a->j<=a
 | 0,lo,hi,h1,h2,h3,h4,h5=>by
  have e:lo=hi:=by omega
  subst e
  exact⟨h1,h4,h5⟩
 | fuel+1,lo,hi,h1,h2,h3,h4,h5=>by
  unfold SetTable.below.go
  by_cases hlt:lo<hi
  ·rw [if_pos hlt]
   have hm:(lo+hi) / 2<xs.size:=by omega
   have eg:xs[(lo+hi) / 2]? = some xs[(lo+hi) / 2]:=UA hm
   have ed:xs.getD ((lo+hi) / 2) j=xs[(lo+hi) / 2]:=by simp [Array.getD,hm]
   dsimp only
   rw [ed]
   by_cases hc:xs[(lo+hi) / 2]<j
   ·rw [if_pos hc]
    refine pe h j fuel _ hi h1 (by omega) (by omega) (λi a hi' e=>?_) h5
    by_cases q:i=(lo+hi) / 2
    ·subst q
     rw [eg]at e
     cases e
     exact hc
    ·exact Nat.lt_trans (h.lt (by omega) e eg) hc
   ·rw [if_neg hc]
    refine pe h j fuel lo _ (by omega) (by omega) (by omega) h4 λi a hi' e=>?_
    by_cases q:i=(lo+hi) / 2
    ·subst q
     rw [eg]at e
     cases e
     omega
    ·have:=h.lt (show(lo+hi) / 2<i by omega) eg e
     omega
  ·rw [if_neg hlt]
   have e:lo=hi:=by omega
   subst e
   exact⟨h1,h4,h5⟩
theorem kj{xs:Array Nat}(h:CV xs)(j:Nat):SetTable.below xs j<=xs.size/\(∀i a,i<SetTable.below xs j->xs[i]? = some a->a<j)/\∀i a,SetTable.below xs j<=i->xs[i]? = some a->j<=a :=
 pe h j xs.size 0 xs.size (T7 _) (Uu _) (by omega) (λi a hi=>absurd hi (by omega)) λi a hi e=>by
  rw [Array.getElem?_eq_none hi]at e
  cases e
theorem wU{xs:Array Nat}(h:CV xs){j:Nat}(hn:xs[SetTable.below xs j]?≠some j):CV (SetTable.insertAt xs (SetTable.below xs j) j):=by
 obtain⟨h1,h2,h3⟩:=kj h j
 unfold CV
 rw [SetTable.toList_insertAt]
 have hl:∀a∈xs.toList.take (SetTable.below xs j),a<j:=λa ha=>by
  obtain⟨i,hi⟩:=List.mem_iff_getElem?.mp ha
  rw [List.getElem?_take]at hi
  split at hi
  ·rename_i hlt
   exact h2 i a hlt (by rw [←Array.getElem?_toList]; exact hi)
  ·cases hi
 have hr:∀a∈xs.toList.drop (SetTable.below xs j),j<a:=λa ha=>by
  obtain⟨i,hi⟩:=List.mem_iff_getElem?.mp ha
  rw [List.getElem?_drop,Array.getElem?_toList]at hi
  have q:=h3 _ a (Nat.le_add_right _ i) hi
  rcases Nat.lt_or_eq_of_le q with q | q
  ·exact q
  ·exfalso
   subst q
   cases i with
   | zero=>exact hn hi
   | succ i =>
    have hb:SetTable.below xs j<xs.size:=by
     have:=(Array.getElem?_eq_some_iff.mp hi).1
     omega
    have e0:xs[SetTable.below xs j]? = some xs[SetTable.below xs j]:=UA hb
    have l1:=h3 _ _ (T7 _) e0
    have l2:=h.lt (show SetTable.below xs j<SetTable.below xs j+(i+1) by omega) e0 hi
    omega
 have hp:(xs.toList.take (SetTable.below xs j)++xs.toList.drop (SetTable.below xs j)).Pairwise (· < ·):=by rw [List.take_append_drop]; exact h
 rw [List.pairwise_append]at hp
 first
 | (rw [List.pairwise_append]
    refine⟨hp.1,?_,λa ha b hb=>?_⟩
    ·exact List.pairwise_cons.mpr ⟨hr,hp.2.1⟩
    ·rcases Uq.mp hb with e | hb
     ·subst e; exact hl a ha
     ·exact hp.2.2 a ha b hb)
 | skip
structure TabOk(t:SetTable)(b:Bool):Prop where
 OP:CV t.place
 OI:t.dummies = #[]
 led:t.led=b
theorem yY(j:Nat):SetTable.has #[] j=false:=by simp [SetTable.has]
theorem l8{t:SetTable}(hd:t.dummies = #[]){f:Nat->Int}{h:Int}(hf:∀i,(f i==h)=false):∀(fuel:Nat) (p:SetTable.Probe) (j:Nat) (d:Option Nat),p.dummy=none->SetTable.probe.go t f h fuel p=some (.empty j d)->
  d=none/\t.slot j=.empty
 | 0,p,j,d,_,e=>by
  unfold SetTable.probe.go at e
  cases e
 | fuel+1,p,j,d,hp,e=>by
  have S7:∀p:SetTable.Probe,p.dummy=none->(t.advance p).dummy=none:=λp hp=>by
   unfold SetTable.advance
   split
   ·exact hp
   ·exact hp
  unfold SetTable.probe.go at e
  split at e
  ·rename_i hs
   cases e
   exact⟨hp,hs⟩
  ·rename_i hs
   unfold SetTable.slot at hs
   dsimp only at hs
   rw [hd,yY]at hs
   split at hs <;> cases hs
  ·rename_i i hs
   rw [hf i]at e
   exact l8 hd hf fuel _ j d (S7 p hp) e
theorem wD{t:SetTable}{j:Nat}(h:t.slot j=.empty):t.place[SetTable.below t.place j]?≠some j:=λe=>by
 unfold SetTable.slot at h
 dsimp only at h
 rw [e]at h
 rw [if_pos (by simp)]at h
 cases h
theorem zq(n:Nat):CV (Array.range n):=by
 unfold CV
 rw [Array.toList_range]
 exact List.pairwise_lt_range
theorem iA{t:SetTable}{b:Bool}(h:TabOk t b)(n:Nat):TabOk (t.standIn n) b:=⟨zq n,rfl,h.led⟩
theorem AM{t:SetTable}{b:Bool}(ok:TabOk t b)(es:Array (Int×Value))(h:Int)(x:Value):TabOk (layNew t es h x).2.1 b:=by
 unfold layNew
 split
 ·rename_i slot wd e
  have hs:t.slot slot=.empty:=by
   unfold SetTable.freeSlot at e
   split at e
   ·rename_i j d e2
    unfold SetTable.probe at e2
    obtain⟨q1,q2⟩:=l8 ok.OI (λ_=>by simp; omega) _ _ _ _ rfl e2
    subst q1
    cases e
    exact q2
   ·cases e
  have o2:TabOk (t.put slot).1 b:=by
   unfold SetTable.put
   refine⟨wU ok.OP (wD hs),?_,ok.led⟩
   show(if SetTable.has t.dummies slot=true then _ else t.dummies) = #[]
   rw [ok.OI,yY]
   rfl
  dsimp only
  unfold SetTable.orStandIn
  split
  ·exact o2
  ·exact iA o2 _
 ·exact iA ok _
theorem qI{α:Type}(f:Nat->Option α)(n:Nat):(((List.range n).filterMap λj=>(f j).map (j,·)).map (·.1)).Pairwise (· < ·):=by
 have e:(((List.range n).filterMap λj=>(f j).map (j,·)).map (·.1))=(List.range n).filter λj=>(f j).isSome:=by
  rw [List.map_filterMap,←List.filterMap_eq_filter]
  congr 1
  funext j
  cases hf:f j <;> simp [Option.guard,hf]
 rw [e]
 exact List.Pairwise.filter _ List.pairwise_lt_range
theorem uC{t:SetTable}{b:Bool}(ok:TabOk t b)(es:Array (Int×Value))(n:Nat):TabOk (relayAll t es n).2.1 b:=by
 unfold relayAll
 split
 ·rename_i t' order e
  have o2:TabOk t' b:=by
   unfold SetTable.relaid SetTable.laid at e
   simp only [bind,Option.bind_eq_some_iff]at e
   obtain⟨owner,_,e⟩:=e
   cases e
   exact⟨qI _ _,rfl,ok.led⟩
  dsimp only
  split
  ·exact o2
  ·exact iA ok _
 ·exact iA ok _
section
variable{prog:Program}{w:World}{A:Around}{E:Value->Shared->Prop}{s:Shared}
def ck(w:World):Bool:=w.params.followText "set-order"
def A2:Value->Key
 | .int i _=>.inl i
 | .str x _=>.inr x
 | _=>.inl 0
theorem wm{k:Key}{v:Value}(h:fL k v=true):A2 v=k:=by
 rcases bC h with⟨i,t,rfl,rfl⟩ | ⟨x,t,rfl,rfl⟩ <;> rfl
structure fj(prog:Program)(w:World)(h:Heap)(a:Addr)(ks:List Key)(es:Array (Int×Value))(ep:Nat)(t:SetTable):Prop where
 obj:h.get? a=some {cls:=.type "set",dict:=none,data:=.set es ep t,slots:=#[]}
 els:ElemsOf (bH prog w) es.toList
 few:es.size<scanBound
 fits:t.fits es.size=true
 tab:TabOk t (!ck w)
 Nc:ks.Nodup
 keys:(es.toList.map λe=>A2 e.2).Perm ks
theorem fj.keep{h h':Heap}{a:Addr}{ks:List Key}{es:Array (Int×Value)}{ep:Nat}{t:SetTable}(r:fj prog w h a ks es ep t)(k:∀o,h.get? a=some o->h'.get? a=some o):fj prog w h' a ks es ep t :=
 ⟨k _ r.obj,r.els,r.few,r.fits,r.tab,r.Nc,r.keys⟩
theorem fj.mem{h:Heap}{a:Addr}{ks:List Key}{es:Array (Int×Value)}{ep:Nat}{t:SetTable}(r:fj prog w h a ks es ep t){k:Key}:(∃e∈es.toList,(bH prog w).is k e.2=true)↔k∈ks:=by
 constructor
 ·rintro⟨e,he,hk⟩
  refine r.keys.mem_iff.mp (Up.mpr ⟨e,he,wm hk⟩)
 ·intro hk
  obtain⟨e,he,q⟩:=Up.mp (r.keys.mem_iff.mpr hk)
  obtain⟨⟨k',hk',_⟩,_⟩:=r.els e he
  refine⟨e,he,?_⟩
  have:A2 e.2=k':=wm hk'
  rw [←q,this]
  exact hk'
open Classical in
noncomputable def kN (ks:List Key) (k:Key):List Key:=if k∈ks then ks else ks++[k]
theorem yQ{h:Heap}{a:Addr}{es:Array (Int×Value)}{ep:Nat}{t:SetTable}(ho:h.get? a=some {cls:=.type "set",dict:=none,data:=.set es ep t,slots:=#[]})(es':Array (Int×Value))(t':SetTable) :
  (h.update a (Obj.putSet es' t')).get? a=some {cls:=.type "set",dict:=none,data:=.set es' (ep+1) t',slots:=#[]}:=by
 have:=Heap.get?_update_self (Obj.putSet es' t') ho (by rw [putSet_of es' t' rfl]; rfl)
 rw [putSet_of es' t' rfl]at this
 exact this
theorem vg{g:Bool->Sem Unit}(hg:∀(b:Bool) (s₁:Shared) (Q':Unit->Shared->Prop),Q' () s₁->wpAny (model prog w) A (g b) Q' E s₁)
  {a:Addr} {es:Array (Int×Value)} {ep:Nat} {t:SetTable} (ho:s.heap.get? a=some {cls:=.type "set",dict:=none,data:=.set es ep t,slots:=#[]})
  {es1:Array (Int×Value)} {t2:SetTable} {ks:List Key} (he:ElemsOf (bH prog w) es1.toList) (hb:es1.size<scanBound) (hf:t2.fits es1.size=true) (ht:TabOk t2 (!ck w)) (hn:ks.Nodup) (hk:(es1.toList.map λe=>A2 e.2).Perm ks)
  {wasDummy:Bool} {R:Option Bool->Shared->Prop}
  (h:∀h' es' ep' t',Heap.SameBut a s.heap h'->fj prog w h' a ks es' ep' t'->R (some true) {s with heap:=h'}) :
  wpAny (model prog w) A (do
    storeSet a es1 t2
    if(!wasDummy&&t2.tooFull)=true then do
      g (relayAll t2 es1 (SetTable.grown es1.size)).2.2
      storeSet a (relayAll t2 es1 (SetTable.grown es1.size)).1 (relayAll t2 es1 (SetTable.grown es1.size)).2.1
      pure (some true)
     else pure (some true)) R E s:=by
 refine TZ (wpAny_storeSet_of ho rfl ?_ (fits_of_scanBound hb))
 have ho1:=yQ ho es1 t2
 have Qg:=Heap.SameBut.update s.heap a (Obj.putSet es1 t2)
 split
 ·have hp:=relayAll_perm t2 es1 (SetTable.grown es1.size)
  have hfr:=relayAll_fits t2 es1 (SetTable.grown es1.size)
  have hto:=uC ht es1 (SetTable.grown es1.size)
  generalize hRl:relayAll t2 es1 (SetTable.grown es1.size)=Rl at hp hfr hto⊢
  obtain⟨es2,t3,gave2⟩:=Rl
  dsimp only at hp hfr hto⊢
  have hsz:es2.size=es1.size:=by rw [←Array.length_toList,hp.length_eq,Array.length_toList]
  have hb2:es2.size<scanBound:=by rw [hsz]; exact hb
  refine TZ (hg _ _ _ ?_)
  refine TZ (wpAny_storeSet_of ho1 rfl ?_ (fits_of_scanBound hb2))
  exact T1 (h _ es2 _ t3 (Qg.trans (Heap.SameBut.update _ a _)) ⟨yQ ho1 es2 t3,he.perm hp,hb2,hfr,hto,hn,(hp.map _).trans hk⟩)
 ·exact T1 (h _ es1 _ t2 Qg ⟨ho1,he,hb,hf,ht,hn,hk⟩)
theorem wu{a:Addr}{ks:List Key}{es:Array (Int×Value)}{ep:Nat}{t:SetTable}{k:Key}{x:Value}{Q:Bool->Shared->Prop}(hkey:fL k x=true)(hsc:x.scannable=true)(hS:fj prog w s.heap a ks es ep t)
  (hroom:ks.length+1<scanBound)
  (h:∀b h' es' ep' t',Heap.SameBut a s.heap h'->fj prog w h' a (kN ks k) es' ep' t'->Q b {s with heap:=h'}) :
  wpAny (model prog w) A (setAddHashed a x ((bH prog w).hash k)) Q E s:=by
 have K6:es.size=ks.length:=by rw [←hS.keys.length_eq,Ua,Array.length_toList]
 have hkey':(bH prog w).is k x=true:=hkey
 have hel:=hS.els
 unfold setAddHashed setAddHashedIn
 refine UC (TZ (wpAny_setState_of hS.obj rfl hS.fits ?_))
 dsimp only
 rw [byScan_of hsc hS.few hel]
 simp only [↓reduceIte]
 unfold setAddByScan
 refine TZ ?_
 refine TZ (wpAny_rule ?_)
 refine TZ (wpAny_setScan_of hkey' hS.obj rfl hS.fits hel ?_)
 cases hr:List.findIdx? (λe=>(bH prog w).is k e.2) es.toList with
 | some j =>
  dsimp only
  obtain⟨hj,hpj,_⟩:=List.findIdx?_eq_some_iff_getElem.mp hr
  have hin:k∈ks:=hS.mem.mp ⟨es.toList[j],List.getElem_mem hj,hpj⟩
  refine T1 (T1 ?_)
  have e:s ={s with heap:=s.heap}:=by cases s; rfl
  have:=h false s.heap es ep t (Heap.SameBut.refl a s.heap) (by unfold kN; rw [if_pos hin]; exact hS)
  rw [e]
  exact this
 | none =>
  dsimp only
  have hout:k∉ks:=λhin=>by
   obtain⟨e,he,hp⟩:=hS.mem.mpr hin
   have:=List.findIdx?_eq_none_iff.mp hr e he
   rw [hp]at this
   exact Bool.noConfusion this
  have hgw:∀(b:Bool) {s₁:Shared} {Q':Unit->Shared->Prop},Q' () s₁->wpAny (model prog w) A (match b with | true=>rule "set.scan.the-table-gave-way" | false=>pure ()) Q' E s₁ :=
   λb s₁ Q' hq=>by cases b <;> first | exact T1 hq | exact wpAny_rule hq
  have hperm:=layNew_perm t es ((bH prog w).hash k) x
  have hfits:=layNew_fits t es ((bH prog w).hash k) x
  have htab:=AM hS.tab es ((bH prog w).hash k) x
  generalize hL:layNew t es ((bH prog w).hash k) x=L at hperm hfits htab⊢
  obtain⟨es1,t1,wasDummy,gave⟩:=L
  dsimp only at hperm hfits htab⊢
  rw [Array.toList_push]at hperm
  have hel1:ElemsOf (bH prog w) es1.toList:=(hel.push hkey' hsc).perm hperm
  have hb1':es1.size<scanBound:=by
   rw [←Array.length_toList,hperm.length_eq,Ub,Array.length_toList,K6]
   simpa using hroom
  have PX:kN ks k=ks++[k]:=by unfold kN; rw [if_neg hout]
  have zy:(kN ks k).Nodup:=by
   rw [PX,List.nodup_append]
   exact⟨hS.Nc,by simp,λx hx y hy e=>by simp at hy; subst hy; subst e; exact hout hx⟩
  have hkeys:(es1.toList.map λe=>A2 e.2).Perm (kN ks k):=by
   rw [PX]
   refine(hperm.map _).trans ?_
   rw [Uc]
   refine hS.keys.append ?_
   show [A2 x].Perm [k]
   rw [wm hkey]
  refine TZ (hgw _ ?_)
  split
  ·refine TZ ?_
   rw [hashByValue_scannable 8 hsc]
   refine T1 ?_
   refine vg (ks:=kN ks k) ?_ hS.obj hel1 hb1' ?_ ?_ zy hkeys ?_
   ·intro b s₁ Q' hq; cases b <;> first | exact T1 hq | exact wpAny_rule hq
   ·split
    ·exact hfits
    ·exact SetTable.fits_plain_off hfits
   ·split
    ·exact htab
    ·exact⟨htab.OP,htab.OI,htab.led⟩
   ·intro h' es' ep' t' hsb hS'; dsimp only; exact T1 (h true h' es' ep' t' hsb hS')
  ·refine TZ (T1 ?_)
   simp only [↓reduceIte]
   refine vg (ks:=kN ks k) ?_ hS.obj hel1 hb1' hfits htab zy hkeys ?_
   ·intro b s₁ Q' hq; cases b <;> first | exact T1 hq | exact wpAny_rule hq
   ·intro h' es' ep' t' hsb hS'; dsimp only; exact T1 (h true h' es' ep' t' hsb hS')
noncomputable def kq (key:Nat->Key):Nat->List Key
 | 0=>[]
 | i+1=>kN (kq key i) (key i)
theorem DV(ks:List Key)(k:Key):(kN ks k).length<=ks.length+1:=by
 unfold kN
 split
 ·omega
 ·simp
theorem oy(key:Nat->Key):∀i,(kq key i).length<=i
 | 0=>T7 _
 | i+1=>T8 (DV _ _) (Nat.succ_le_succ (oy key i))
theorem Cz{ks:List Key}{k x:Key}:x∈kN ks k↔x∈ks\/x=k:=by
 unfold kN
 split
 ·rename_i h
  exact⟨.inl,λq=>q.elim id λe=>e▸h⟩
 ·simp
theorem uJ{key:Nat->Key}{x:Key}:∀{i:Nat},x∈kq key i↔∃j,j<i/\key j=x
 | 0=>by simp [kq]
 | i+1=>by
  show x∈kN (kq key i) (key i)↔_
  rw [Cz,uJ]
  constructor
  ·rintro(⟨j,hj,e⟩ | e)
   ·exact⟨j,Nat.lt_succ_of_lt hj,e⟩
   ·exact⟨i,Nat.lt_succ_self _,e.symm⟩
  ·rintro⟨j,hj,e⟩
   rcases Nat.lt_succ_iff_lt_or_eq.mp hj with q | q
   ·exact .inl ⟨j,q,e⟩
   ·exact .inr (by rw [←e,q])
end
section
variable{prog:Program}{w:World}{A:Around}{R:Result->Shared->Prop}{I:Addr}{fp wr:List Addr}{G:Array GenState->Array GenState->Prop}{n:Nat}{P:Nat->Value->Prop}{St:Nat->Shared->Prop}
theorem Bq(W:WalksS prog w A.in1 I fp wr G n P St)(S:Addr)(hSf:S∉fp)(key:Nat->Key)(hval:∀i v,P i v->fL (key i) v=true/\v.scannable=true)(hb:n+1<scanBound) :
  ∀(k i:Nat) (s:Shared) (es:Array (Int×Value)) (ep:Nat) (t:SetTable),n-i=k->i<=n->St i s->fj prog w s.heap S (kq key i) es ep t->
   (∀s' es' ep' t',Moved (S::wr) G s s'->fj prog w s'.heap S (kq key n) es' ep' t'->R (.ok (.ret .none)) s')->
   codeAny (model prog w) A (.builtin "set.update.loop" ⟨[.ref S,.ref I],[]⟩) R s:=by
 have hSw:S∉wr:=λh=>hSf (W.sub _ h)
 have hsub:∀b∈wr,b∈S::wr:=λb hb=>Uj _ hb
 intro k
 induction k with
 | zero =>
  intro i s es ep t hk hi hst hS hR
  have hin:i=n:=by omega
  subst hin
  refine codeAny_builtin F.entry_set_update_loop ?_
  rw [Around.under_plainId F.plain_set_update_loop _]
  show wpAny _ A.in1 (pyNext (.ref I) >>= _) _ _ s
  refine TZ (W.done s _ _ hst λs' hm=>?_)
  show wpAny _ A.in1 (ret Value.none) _ _ s'
  exact T1 (hR s' es ep t (hm.mono hsub) (hS.keep λo e=>hm.heap S o hSw e))
 | succ k ih =>
  intro i s es ep t hk hi hst hS hR
  have hlt:i<n:=by omega
  refine codeAny_builtin F.entry_set_update_loop ?_
  rw [Around.under_plainId F.plain_set_update_loop _]
  show wpAny _ A.in1 (pyNext (.ref I) >>= _) _ _ s
  refine TZ (W.item i s _ _ hlt hst λv s' hP hst' hm=>?_)
  obtain⟨hv1,hv2⟩:=hval i v hP
  have hS':=hS.keep (h':=s'.heap) λo e=>hm.heap S o hSw e
  show wpAny _ A.in1 (holding [v] (setAdd S v) >>= _) _ _ s'
  refine TZ (UC ?_)
  unfold setAdd
  refine UC ?_
  refine TZ ((bH prog w).pyHash (k:=key i) hv1 ?_)
  have hroom:(kq key i).length+1<scanBound:=by have:=oy key i; omega
  refine wu (s:={s' with toks:=s'.toks+1}) hv1 hv2 hS' hroom λb h' es' ep' t' hsb hS2=>?_
  refine T1 ⟨plainId_quiet F.plain_set_update_loop _,ih (i+1) _ es' ep' t' (by omega) hlt (W.frame _ s' _ _ hst' (Nat.le_succ _) λb hb o e=>?_) hS2 λs'' es2 RU t2 hm'' hS''=>?_⟩
  ·rw [hsb.2 b (λh:b=S=>hSf (by rw [←h]; exact hb))]; exact e
  ·refine hR s'' es2 RU t2 (Moved.trans W.gtrans ((hm.mono hsub).then_heap (Nat.le_succ _) λb o hb e=>?_) hm'') hS''
   rw [hsb.2 b (λh:b=S=>hb (by rw [h]; exact UE))]; exact e
end
section
variable{prog:Program}{w:World}{A:Around}{E:Value->Shared->Prop}{s:Shared}
theorem vn(a:Value){Q₁:Value->Shared->Prop}
  (h:Q₁ (.ref s.heap.objs.size) {s with heap:=s.heap.push {cls:=.type "set",dict:=none,data:=.set #[] 0 (.fresh 0 0 (!ck w))}}) :
  codeAny (model prog w) A (.call (.builtin "set.__new__") ⟨[.type "set",a],[]⟩) (wants Q₁ E) s:=by
 refine codeAny_of_tree ?_
 show wpAny _ A.in1 (do checkBuiltinCall "set.__new__" ⟨[.type "set",a],[]⟩; again (.builtin "set.__new__" ⟨[.type "set",a],[]⟩)) _ _ s
 refine TZ (wpAny_of_eq (F.newCall_set_1 a) (T1 ⟨plainId_quiet F.plain_set_new _,codeAny_builtin F.entry_set_new ?_⟩))
 rw [Around.under_plainId F.plain_set_new _]
 unfold Builtin.«set.__new__» Builtin.Frozenset.newClass
 have hsub:=sub_set_self
 obtain⟨hp,g,d,tk,os⟩:=s
 dsimp only
 wp_walk
 refine wpAny_askSetting (T1 ?_)
 dsimp only
 simp only [newObj]
 refine TZ (wpAny_alloc (T1 ?_))
 exact T1 h
end
theorem sub_tuple_set:isSubtype (.type "tuple") (.type "set")=pure false:=by rw [isSubtype_type]; kernel_rfl
theorem sub_tuple_frozenset:isSubtype (.type "tuple") (.type "frozenset")=pure false:=by rw [isSubtype_type]; kernel_rfl
structure rK(prog:Program)(w:World)(T:String)(l:Addr)(items:Array Value):Prop where
 IL:isSubtype (.type T) (.type "set")=pure false
 HD:isSubtype (.type T) (.type "frozenset")=pure false
 nd:(Value.type T==Value.type "dict")=false
 it:∀(A:Around) (s:Shared) (o:Obj),A.handled=none->s.heap.get? l=some o->o.cls=.type T->(∃n,o.data=.seq items n)->∃(oI:Obj) (St:Nat->Heap->Prop),
  (∀(E:Value->Shared->Prop) (Q:Value->Shared->Prop),Q (.ref s.heap.objs.size) {s with heap:=s.heap.push oI}->wpAny (model prog w) A (pyIter (.ref l)) Q E s)/\
  Walks prog w A s.heap.objs.size [s.heap.objs.size,l] [s.heap.objs.size] items.size (λi v=>items[i]? = some v) St/\St 0 (s.heap.push oI)
theorem src_list{prog:Program}{w:World}{l:Addr}{items:Array Value}:rK prog w "list" l items where
 IL:=F.sub_list_set
 HD:=F.sub_list_frozenset
 nd:=by decide
 it:=λA s o hh ho hc hd=>by
  have hl:s.heap.IsList l items:=⟨o,ho,hc,hd⟩
  refine⟨_,_,λE Q q=>wpAny_pyIter_list hl q,Walks.list hh _ l (Ut (T5 ho)) items,⟨_,T6 _ rfl,rfl,rfl⟩,hl.push _⟩
theorem Ft{prog:Program}{w:World}{l:Addr}{items:Array Value}:rK prog w "tuple" l items where
 IL:=sub_tuple_set
 HD:=sub_tuple_frozenset
 nd:=by decide
 it:=λA s o hh ho hc hd=>by
  have hl:s.heap.IsTuple l items:=⟨o,ho,hc,hd⟩
  refine⟨_,_,λE Q q=>wpAny_pyIter_tuple hl q,Walks.tuple hh _ l (Ut (T5 ho)) items,⟨_,T6 _ rfl,rfl,rfl⟩,hl.push _⟩
section
variable{prog:Program}{w:World}{A:Around}{E:Value->Shared->Prop}{s:Shared}
theorem ui{T:String}{l:Addr}{items:Array Value}{o:Obj}{key:Nat->Key}{Q:Value->Shared->Prop}(src:rK prog w T l items)
  (hh:A.handled=none) (ho:s.heap.get? l=some o) (hc:o.cls=.type T) (hdt:∃n,o.data=.seq items n) (hi:∀i v,items[i]? = some v->fL (key i) v=true/\v.scannable=true) (hb:items.size+1<scanBound)
  (h:∀(h':Heap) (tk:Nat) es ep t,fj prog w h' s.heap.objs.size (kq key items.size) es ep t->(∀b o,s.heap.get? b=some o->h'.get? b=some o)->Q (.ref s.heap.objs.size) {s with heap:=h',toks:=tk}) :
  wpAny (model prog w) A (call (.type "set") [.ref l]) Q E s:=by
 obtain⟨c,tl,hmro⟩:=F.called_set.mro
 have hmade:=F.called_set.made
 have hsub:=F.called_set.sub
 refine wpAny_call (codeAny_of_tree ?_)
 show wpAny _ _ (callAny (.type "set") _) _ _ _
 refine T1 ⟨Code.quiet_builtin _ (by decide +kernel),codeAny_builtin F.entry_type_call ?_⟩
 rw [Around.under_plain (weight_type_call_type "set" [.ref l] []) rfl]
 have h1:=F.called_set.notType
 have h2:=F.called_set.canCreate
 have hct:=F.typeCall_set_1 (.ref l)
 repeat (any_goals (first | assumption | wp_step))
 refine codeAny_mono (vn (.ref l) (E:=E) (Q₁:=λobj s₁=>obj=.ref s.heap.objs.size/\s₁ ={s with heap:=s.heap.push {cls:=.type "set",dict:=none,data:=.set #[] 0 (.fresh 0 0 (!ck w))}}) ⟨rfl,rfl⟩) λr s₁ hr=>?_
 cases r with
 | error e=>exact hr
 | ok fl =>
  cases fl with
  | ret obj =>
   obtain⟨rfl,rfl⟩:=hr
   have hS:(s.heap.push {cls:=.type "set",dict:=none,data:=.set #[] 0 (.fresh 0 0 (!ck w))}).get? s.heap.objs.size=some {cls:=.type "set",dict:=none,data:=.set #[] 0 (.fresh 0 0 (!ck w))}:=T6 _ rfl
   have hT:Shared.TypeIs {s with heap:=s.heap.push {cls:=.type "set",dict:=none,data:=.set #[] 0 (.fresh 0 0 (!ck w))}} (.ref s.heap.objs.size) "set":=⟨_,hS,rfl⟩
   have hli:=F.called_set.init.lookup
   have hbi:=F.called_set.init.bind (.ref s.heap.objs.size)
   repeat (any_goals (first | assumption | wp_step))
   refine codeAny_mono (codeAny_call_builtin (R:=wants (λr s₂=>r=.none/\∃h' tk es ep t,s₂ ={s with heap:=h',toks:=tk}/\
     fj prog w h' s.heap.objs.size (kq key items.size) es ep t/\(∀b o,s.heap.get? b=some o->h'.get? b=some o)) E) F.called_set.init.plain F.entry_set_init (check_set_init_1 hT ?_)) λr₂ s₂ hr₂=>?_
   ·have ho':(s.heap.push {cls:=.type "set",dict:=none,data:=.set #[] 0 (.fresh 0 0 (!ck w))}).get? l=some o:=T4 _ ho
    have TF:Shared.TypeIs {s with heap:=s.heap.push {cls:=.type "set",dict:=none,data:=.set #[] 0 (.fresh 0 0 (!ck w))}} (.ref l) T:=⟨_,ho',hc⟩
    have hsls:=src.IL
    have hslf:=src.HD
    have hne:=src.nd
    obtain⟨oI,St,hit,W,st⟩:=src.it A.in1.in1.in1 {s with heap:=s.heap.push {cls:=.type "set",dict:=none,data:=.set #[] 0 (.fresh 0 0 (!ck w))}} o (by simpa using hh) ho' hc hdt
    unfold Builtin.«set.__init__» noKeywords Builtin.Frozenset.updateFrom
    generalize hPI:pyIter=PI
    wp_walk
    subst hPI
    refine wpAny_of_in1 (hit _ _ ?_)
    refine TZ (wpAny_runValue ?_)
    have hlS:l<s.heap.objs.size:=T5 ho
    have hsz:(s.heap.push {cls:=.type "set",dict:=none,data:=.set #[] 0 (.fresh 0 0 (!ck w))}).objs.size=s.heap.objs.size+1:=Heap.size_push _ _
    have hSf:s.heap.objs.size∉[(s.heap.push {cls:=.type "set",dict:=none,data:=.set #[] 0 (.fresh 0 0 (!ck w))}).objs.size,l]:=by
     rw [hsz]; simp only [Uq,List.not_mem_nil,or_false,not_or]
     exact⟨Ut (Nat.lt_succ_self _),Nat.ne_of_gt hlS⟩
    refine Bq W.toS s.heap.objs.size hSf key (λi v hv=>hi i v hv) hb (items.size-0) 0 _ #[] 0 (SetTable.fresh 0 0 (!ck w)) (by omega) (Uu _) st ?hS0 ?hR
    case hS0 =>
     have hget:=T4 oI hS
     exact⟨hget,λe he=>absurd he (by simp),by unfold scanBound; decide,by simp [SetTable.fits,SetTable.fresh,SetTable.fill],⟨List.Pairwise.nil,rfl,rfl⟩,List.nodup_nil,by simp [kq]⟩
    case hR =>
     intro s' es' ep' t' hm hS'
     obtain⟨h',g',d',tk',os'⟩:=s'
     have eg:g'=s.gens:=hm.gens
     have ed:d'=s.drawn:=hm.drawn
     have eo:os'=s.os:=hm.os
     subst eg; subst ed; subst eo
     show wpAny _ _ _ _ _ _
     refine T1 ?_
     show wpAny _ _ (ret Value.none) _ _ _
     refine T1 ⟨rfl,h',tk',es',ep',t',rfl,hS',λb o e=>?_⟩
     have hb1:b≠s.heap.objs.size:=Ut (T5 e)
     have hb2:b≠(s.heap.push {cls:=.type "set",dict:=none,data:=.set #[] 0 (.fresh 0 0 (!ck w))}).objs.size:=by
      rw [hsz]; exact Ut (Nat.lt_succ_of_lt (T5 e))
     exact hm.heap b o (by simp only [Uq,List.not_mem_nil,or_false,not_or]; exact⟨hb1,hb2⟩) (T4 _ (T4 _ e))
   ·cases r₂ with
    | error e=>exact hr₂
    | ok fl₂ =>
     cases fl₂ with
     | ret r =>
      obtain⟨rfl,h',tk,es,ep,t,rfl,hS',hk'⟩:=hr₂
      repeat (any_goals (first | assumption | wp_step))
      exact h _ _ es ep t hS' hk'
     | _=>exact hr₂.elim
  | _=>exact hr.elim
end
theorem mK:entryFor table "set.__iter__"=some Builtin.«frozenset.__iter__» :=
 entryFor_alias (id':="frozenset.__iter__") (by kernel_rfl) rfl (by decide +kernel) (by kernel_rfl)
theorem eR:Slot "set_iterator" "__next__" "set_iterator.__next__" :=
 .of (owner:="set_iterator") (n:="__next__") (by rw [typeLookup_type,builtinLookup_eq_fast]; kernel_rfl) (by decide +kernel) (by decide +kernel) (by decide +kernel)
  (by first | exact .inl (by decide +kernel) | exact .inr (by decide +kernel)) (by rw [isSubtype_type]; kernel_rfl)
theorem qj:entryFor table "set_iterator.__next__"=some Builtin.«set_iterator.__next__»:=entryFor_of_fast (by kernel_rfl)
theorem sI(a:Value):argsOk "set_iterator.__next__" ⟨[a],[]⟩:=by unfold argsOk; kernel_rfl
section
variable{prog:Program}{w:World}{A:Around}{E:Value->Shared->Prop}{s:Shared}
theorem zF{src:Source}{n:Nat}{Q:Nat->Shared->Prop}(hn:n≠0)(h:∀k d,k<n->Q k {s with drawn:=d}):wpAny (model prog w) A (choose src n) Q E s:=λ_ _ _ =>
 ⟨hn,h _ _ (Nat.mod_lt _ (Nat.pos_of_ne_zero hn))⟩
theorem gV{α:Type}:∀{xs:List α} {i:Nat} {x:α},xs[i]? = some x->(x::xs.eraseIdx i).Perm xs
 | [],i,x,h=>by simp at h
 | y::ys,0,x,h=>by
  have e:y=x:=by simpa using h
  subst e
  exact List.Perm.refl _
 | y::ys,i+1,x,h=>by
  have h':ys[i]? = some x:=by simpa using h
  exact(List.Perm.swap _ _ _).trans ((gV h').cons y)
theorem k_{α:Type}:∀(n:Nat) (xs:List α) (s:Shared) {Q:List α->Shared->Prop},xs.length=n->(∀ys d,ys.Perm xs->Q ys {s with drawn:=d})->wpAny (model prog w) A (drawOrder n xs) Q E s
 | 0,xs,s,Q,e,h=>by
  have:xs=[]:=List.length_eq_zero_iff.mp e
  subst this
  unfold drawOrder
  exact T1 (h [] s.drawn (List.Perm.refl _))
 | n+1,[],s,Q,e,h=>by cases e
 | n+1,x::xs,s,Q,e,h=>by
  unfold drawOrder
  refine TZ (zF (by simp) λk d hk=>?_)
  have hk':(x::xs)[k]? = some (x::xs)[k]:=Ug hk
  rw [hk']
  dsimp only
  refine TZ (k_ n _ _ (by rw [List.length_eraseIdx_of_lt hk,e]; rfl) λys d' hp=>?_)
  exact T1 (h _ d' ((hp.cons _).trans (gV hk')))
abbrev eU(first:Value)(i:Nat)(S:Addr)(n ep:Nat):Obj:={cls:=.type "set_iterator",data:=.fields #[first,.int i 0,.ref S,.int n 0,.int ep 0]}
def lG(es:Array (Int×Value))(t:SetTable):Bool:=!t.plain&&decide (es.size > 1)
theorem BO{S:Addr}{ks:List Key}{es:Array (Int×Value)}{ep:Nat}{t:SetTable}{Q:Value->Shared->Prop}(hS:fj prog w s.heap S ks es ep t)
  (h1:(!ck w&&lG es t)=false->Q (.ref s.heap.objs.size) {s with heap:=s.heap.push (eU (.int 0 0) 0 S es.size ep)})
  (h2:(!ck w&&lG es t)=true->∀(d:Drawn) (ps:List Nat),ps.Perm (List.range es.size)->Q (.ref (s.heap.objs.size+1)) {s with heap:=(s.heap.push {cls:=.type "tuple",data:=.seq (ps.map λ(i:Nat)=>Value.int i 0).toArray}).push (eU (.ref s.heap.objs.size) 0 S es.size ep),drawn:=d}) :
  wpAny (model prog w) A (pyIter (.ref S)) Q E s:=by
 have hT:s.TypeIs (.ref S) "set":=⟨_,hS.obj,rfl⟩
 have hz:es.size<=sizeLine:=fits_of_scanBound hS.few
 refine wpAny_pyIter_slot hT F.slot_set_iter (wpAny_call_entry F.slot_set_iter hT mK ?_ (F.args_set_iter_1 _))
 unfold Builtin.«frozenset.__iter__» Builtin.Frozenset.slot0 slotArgs
 simp only [List.isEmpty_nil,Bool.not_true,Bool.false_eq_true,↓reduceIte,bind_assoc,List.length_nil,bne_self_eq_false]
 unfold Builtin.Frozenset.addrOf Builtin.Frozenset.sizeOf
 refine TZ (T1 ?_)
 try dsimp only
 refine TZ (T1 ?_)
 refine TZ (TZ (wpAny_setEntries_of hS.obj rfl hS.fits (T1 ?_)))
 unfold setDrawn setsByText
 refine TZ (TZ (wpAny_setState_of hS.obj rfl hS.fits (TZ (TZ (wpAny_askSetting (T1 (T1 ?_)))))))
 show wpAny _ _ (if(!ck w&&lG es t)=true then _ else _) _ _ _
 cases hb:(!ck w&&lG es t)
 ·rw [if_neg (by simp)]
  refine TZ (T1 ?_)
  refine TZ (wpAny_setEpoch_of hS.obj rfl hS.fits ?_)
  refine TZ (UD (T1 ⟨_,rfl,"set_iterator",_,⟨_,T6 _ rfl,rfl⟩,eR.lookup,?_⟩))
  exact h1 hb
 ·rw [if_pos rfl]
  refine TZ (k_ es.size (List.range es.size) s (by simp) λps d hp=>?_)
  have hl:ps.length=es.size:=by rw [hp.length_eq]; simp
  refine TZ (wpAny_newTuple ?_ (by rw [Ua,hl]; exact hz))
  have hS2:=hS.keep (h':=s.heap.push {cls:=.type "tuple",data:=.seq (ps.map λ(i:Nat)=>rawInt i).toArray}) λo e=>T4 _ e
  refine TZ (wpAny_setEpoch_of hS2.obj rfl hS2.fits ?_)
  refine TZ (UD (T1 ⟨_,rfl,"set_iterator",_,⟨_,T6 _ rfl,rfl⟩,eR.lookup,?_⟩))
  have:=h2 hb d ps hp
  rw [size_push']
  exact this
theorem kL{I S:Addr}{first:Value}{i n ep:Nat}{Q:Option Value->Shared->Prop}(hI:s.heap.get? I=some (eU first i S n ep))
  (h:wpAny (model prog w) A.in1 (Builtin.«set_iterator.__next__» ⟨[.ref I],[]⟩) (λfin s'=>∃r,fin=.done (.ret r)/\Q (some r) s') (λe s'=>wpAny (model prog w) A (do if←isInstance e (.type "StopIteration")then pure none else throw e) Q E s') s) :
  wpAny (model prog w) A (pyNext (.ref I)) Q E s:=by
 have hT:s.TypeIs (.ref I) "set_iterator":=⟨_,hI,rfl⟩
 unfold pyNext
 refine TZ (wpAny_attempt (wpAny_callSpecial?_slot (name:=Str.ofString "__next__") hT eR (wpAny_call_entry eR hT qj ?_ (sI _))))
 refine UB h (λfin s' q=>?_) λe s' q=>?_
 ·obtain⟨r,rfl,q⟩:=q
  exact⟨_,rfl,T1 q⟩
 ·exact q
theorem kZ{I S:Addr}{first:Value}{i n ep:Nat}(hI:s.heap.get? I=some (eU first i S n ep)){first':Value}{i':Nat}{fs:Array Value}(k:Nat)(v:Value)(hk:k<5)(e:(#[first,.int i 0,.ref S,.int n 0,.int ep 0]:Array Value).setIfInBounds k v=fs) :
  (s.heap.update I (Obj.mapFields (·.setIfInBounds k v))).get? I=some {cls:=.type "set_iterator",data:=.fields fs}:=by
 have:=Heap.get?_update_self (Obj.mapFields (·.setIfInBounds k v)) hI (Obj.isFreed_of_fields (Obj.data_mapFields (o:=eU first i S n ep) rfl _))
 rw [this,←e]
 rfl
end
section
variable{prog:Program}{w:World}{A:Around}{E:Value->Shared->Prop}{s:Shared}
theorem uh{Q:Option Value->Shared->Prop}{h0:Heap}{I:Addr}(hh:A.handled=none)(hQ:∀h',Heap.ExtBut I h0 h'->Q none {s with heap:=h'})(hs:Heap.ExtBut I h0 s.heap) :
  wpAny (model prog w) A.in1 (newExc (.type "StopIteration") [] >>= λe=>(raiseNew e:Sem Fin)) (λfin s'=>∃r,fin=.done (.ret r)/\Q (some r) s') (λe s'=>wpAny (model prog w) A (do if←isInstance e (.type "StopIteration")then pure none else throw e) Q E s') s:=by
 refine TZ ?_
 simp only [newExc,newTuple]
 refine TZ (UD ?_ (by size_fits))
 refine TZ (m:=firstArgMember _ _) (wpAny_of_eq (a:=Value.none) (by first | rfl | (simp only [firstArgMember]; rfl)) ?_)
 refine UD ?_ (by size_fits)
 simp only [raiseNew]
 refine TZ (wpAny_handled ?_)
 rw [show A.in1.handled=none from hh]
 refine TZ (T1 (wpAny_throw ?_))
 refine TZ (wpAny_isInstance (T:="StopIteration") (b:=true) ⟨_,T6 _ rfl,rfl⟩ isSubtype_stop ?_)
 exact T1 (hQ _ ((hs.push _).push _))
theorem m7{I S:Addr}{ks:List Key}{es:Array (Int×Value)}{i ep:Nat}{t:SetTable}{first:Value}{R:Fin->Shared->Prop}{F:Value->Shared->Prop}(hI:s.heap.get? I=some (eU first i S es.size ep))(hS:fj prog w s.heap S ks es ep t)
  (h:wpAny (model prog w) A (if let .int slot _:=first then do
    match←setNext S slot.toNat i ep with
    | some (x,next) =>
     setField (.ref I) 0 (rawInt next)
     setField (.ref I) 1 (rawInt (i+1))
     ret x
    | none=>setField (.ref I) 2 .none; raiseNew (←newExc (.type "StopIteration") [])
   else do
    let some places←seqItems? first | unsupported "internal:set_iterator"
    match places[i]? with
    | some (.int place _) =>
     let x←setNextDrawn S place.toNat ep
     setField (.ref I) 1 (rawInt (i+1))
     ret x
    | some _=>unsupported "internal:set_iterator"
    | none=>setField (.ref I) 0 (rawInt 0); setField (.ref I) 2 .none; raiseNew (←newExc (.type "StopIteration") [])) R F s) :
  wpAny (model prog w) A (Builtin.«set_iterator.__next__» ⟨[.ref I],[]⟩) R F s:=by
 unfold Builtin.«set_iterator.__next__» slotArgs
 simp only [List.isEmpty_nil,Bool.not_true,Bool.false_eq_true,↓reduceIte,bind_assoc,List.length_nil,bne_self_eq_false]
 refine TZ (T1 ?_)
 try dsimp only
 refine TZ (wpAny_fieldsOf hI rfl ?_)
 dsimp only
 refine TZ (wpAny_setEntries_of hS.obj rfl hS.fits ?_)
 rw [if_neg (by simp)]
 exact h
theorem Fw{I S:Addr}{ks:List Key}{es:Array (Int×Value)}{i ep slot next:Nat}{t:SetTable}{v:Value}{Q:Option Value->Shared->Prop}(hI:s.heap.get? I=some (eU (.int slot 0) i S es.size ep))(hS:fj prog w s.heap S ks es ep t)
  (hn:∀(Q:Option (Value×Nat)->Shared->Prop) (E:Value->Shared->Prop),Q (some (v,next)) s->wpAny (model prog w) A.in1 (setNext S slot i ep) Q E s)
  (hQ:∀h',h'.get? I=some (eU (.int next 0) (i+1) S es.size ep)->(∀b,b≠I->h'.get? b=s.heap.get? b)->Q (some v) {s with heap:=h'}):wpAny (model prog w) A (pyNext (.ref I)) Q E s:=by
 refine kL hI (m7 hI hS ?_)
 dsimp only
 refine TZ (hn _ _ ?_)
 dsimp only
 refine TZ (wpAny_setField hI rfl (by simp) ?_)
 have h1:=kZ (s:=s) hI (first':=.none) (i':=0) (fs:=#[.int next 0,.int i 0,.ref S,.int es.size 0,.int ep 0]) 0 (rawInt next) (by decide) (by simp [rawInt])
 refine TZ (wpAny_setField h1 rfl (by simp) ?_)
 have h2:=kZ (s:={s with heap:=s.heap.update I (Obj.mapFields (·.setIfInBounds 0 (rawInt next)))}) (first:=.int next 0) (i:=i) (S:=S) (n:=es.size) (ep:=ep) h1 (first':=.none) (i':=0) (fs:=#[.int next 0,.int ((i+1:Nat):Int) 0,.ref S,.int es.size 0,.int ep 0]) 1 (rawInt ((i:Int)+1)) (by decide) (by simp [rawInt])
 refine T1 ⟨_,rfl,hQ _ h2 λb hb=>?_⟩
 exact((Heap.SameBut.update _ I _).2 b hb).trans ((Heap.SameBut.update _ I _).2 b hb)
theorem Jh{I S:Addr}{ks:List Key}{es:Array (Int×Value)}{i ep slot:Nat}{t:SetTable}{Q:Option Value->Shared->Prop}(hh:A.handled=none)(hI:s.heap.get? I=some (eU (.int slot 0) i S es.size ep))(hS:fj prog w s.heap S ks es ep t)
  (hn:∀(Q:Option (Value×Nat)->Shared->Prop) (E:Value->Shared->Prop),Q none s->wpAny (model prog w) A.in1 (setNext S slot i ep) Q E s)
  (hQ:∀h',Heap.ExtBut I s.heap h'->Q none {s with heap:=h'}):wpAny (model prog w) A (pyNext (.ref I)) Q E s:=by
 refine kL hI (m7 hI hS ?_)
 dsimp only
 refine TZ (hn _ _ ?_)
 dsimp only
 refine TZ (wpAny_setField hI rfl (by simp) ?_)
 exact uh (s:={s with heap:=s.heap.update I (Obj.mapFields (·.setIfInBounds 2 .none))}) (I:=I) (h0:=s.heap) hh hQ (Heap.SameBut.update ..).extBut
theorem Fd{I S T:Addr}{ks:List Key}{es:Array (Int×Value)}{i ep p:Nat}{t:SetTable}{ps:Array Value}{hv:Int}{v:Value}{Q:Option Value->Shared->Prop}(hI:s.heap.get? I=some (eU (.ref T) i S es.size ep))(hS:fj prog w s.heap S ks es ep t)
  (hT:s.heap.get? T=some {cls:=.type "tuple",data:=.seq ps}) (hp:ps[i]? = some (.int p 0)) (he:es[p]? = some (hv,v))
  (hQ:∀h',h'.get? I=some (eU (.ref T) (i+1) S es.size ep)->(∀b,b≠I->h'.get? b=s.heap.get? b)->Q (some v) {s with heap:=h'}):wpAny (model prog w) A (pyNext (.ref I)) Q E s:=by
 refine kL hI (m7 hI hS ?_)
 dsimp only
 unfold seqItems?
 refine TZ (TZ (wpAny_load hT (T1 ?_)))
 dsimp only
 rw [hp]
 dsimp only
 unfold setNextDrawn
 refine TZ (TZ (wpAny_setState_of hS.obj rfl hS.fits ?_))
 dsimp only
 rw [if_neg (by simp)]
 rw [show es[(p:Int).toNat]? = some (hv,v) from he]
 refine T1 ?_
 refine TZ (wpAny_setField hI rfl (by simp) ?_)
 have h2:=kZ (s:=s) hI (first':=.none) (i':=0) (fs:=#[.ref T,.int ((i+1:Nat):Int) 0,.ref S,.int es.size 0,.int ep 0]) 1 (rawInt ((i:Int)+1)) (by decide) (by simp [rawInt])
 exact T1 ⟨_,rfl,hQ _ h2 λb hb=>(Heap.SameBut.update _ I _).2 b hb⟩
theorem Jp{I S T:Addr}{ks:List Key}{es:Array (Int×Value)}{i ep:Nat}{t:SetTable}{ps:Array Value}{Q:Option Value->Shared->Prop}(hh:A.handled=none)(hI:s.heap.get? I=some (eU (.ref T) i S es.size ep))(hS:fj prog w s.heap S ks es ep t)
  (hT:s.heap.get? T=some {cls:=.type "tuple",data:=.seq ps}) (hp:ps[i]? = none)
  (hQ:∀h',Heap.ExtBut I s.heap h'->Q none {s with heap:=h'}):wpAny (model prog w) A (pyNext (.ref I)) Q E s:=by
 refine kL hI (m7 hI hS ?_)
 dsimp only
 unfold seqItems?
 refine TZ (TZ (wpAny_load hT (T1 ?_)))
 dsimp only
 rw [hp]
 dsimp only
 refine TZ (wpAny_setField hI rfl (by simp) ?_)
 have h1:=kZ (s:=s) hI (first':=.none) (i':=0) (fs:=#[.int 0 0,.int i 0,.ref S,.int es.size 0,.int ep 0]) 0 (rawInt 0) (by decide) (by simp [rawInt])
 refine TZ (wpAny_setField h1 rfl (by simp) ?_)
 refine uh (s:={s with heap:=(s.heap.update I (Obj.mapFields (·.setIfInBounds 0 (rawInt 0)))).update I (Obj.mapFields (·.setIfInBounds 2 .none))}) (I:=I) (h0:=s.heap) hh hQ ?_
 exact((Heap.SameBut.update s.heap I _).trans (Heap.SameBut.update _ I _)).extBut
end
theorem yC{α:Type}(next:Nat->Nat):∀(fuel k:Nat) (left:List α) (out:Array α),left.length=fuel->(pickOrder.go next fuel k left out).toList.Perm (out.toList++left)
 | 0,k,left,out,e=>by
  have:left=[]:=List.length_eq_zero_iff.mp e
  subst this
  unfold pickOrder.go
  simp
 | fuel+1,k,left,out,e=>by
  unfold pickOrder.go
  have hlt:next k % left.length<left.length:=Nat.mod_lt _ (by omega)
  have hg:left[next k % left.length]? = some left[next k % left.length]:=Ug hlt
  rw [hg]
  dsimp only
  refine(yC next fuel (k+1) _ _ (by rw [List.length_eraseIdx_of_lt hlt,e]; rfl)).trans ?_
  rw [Array.toList_push,List.append_assoc]
  refine List.Perm.append_left _ ?_
  exact gV hg
theorem rb{α:Type}(next:Nat->Nat)(xs:Array α):(pickOrder next xs).toList.Perm xs.toList:=by
 unfold pickOrder
 have:=yC next xs.size 0 xs.toList #[] (by simp)
 simpa using this
def EL(place:Array Nat):Nat->Nat
 | 0=>0
 | i+1=>(place[i]?.getD 0)+1
theorem xf{place:Array Nat}(h:CV place):∀{i:Nat},i<=place.size->SetTable.below place (EL place i)=i
 | 0,_=>by
  obtain⟨h1,h2,h3⟩:=kj h 0
  show SetTable.below place 0=0
  rcases Nat.eq_zero_or_pos (SetTable.below place 0)with q | q
  ·exact q
  ·have hz:0<place.size:=by omega
   have:=h2 0 _ q (UA hz)
   omega
 | i+1,hi=>by
  have hlt:i<place.size:=hi
  have eg:place[i]? = some place[i]:=UA hlt
  have es:EL place (i+1)=place[i]+1:=by show(place[i]?.getD 0)+1=_; rw [eg]; rfl
  rw [es]
  obtain⟨h1,h2,h3⟩:=kj h (place[i]+1)
  rcases Nat.lt_trichotomy (SetTable.below place (place[i]+1)) (i+1)with q | q | q
  ·have:=h3 i _ (by omega) eg
   omega
  ·exact q
  ·have hlt2:i+1<place.size:=by omega
   have e2:place[i+1]? = some place[i+1]:=UA hlt2
   have a:=h2 (i+1) _ q e2
   have b:=h.lt (Nat.lt_succ_self i) eg e2
   omega
section
variable{prog:Program}{w:World}
def Nx(prog:Program)(w:World)(S:Addr)(ks:List Key)(es:Array (Int×Value))(ep:Nat)(t:SetTable)(sl:Nat->Nat)(vs:List Value):Prop :=
 ∀(i:Nat) (s:Shared) (A:Around) (E:Value->Shared->Prop) (Q:Option (Value×Nat)->Shared->Prop),fj prog w s.heap S ks es ep t->i<=es.size->Q ((vs[i]?).map λv=>(v,sl (i+1))) s->wpAny (model prog w) A (setNext S (sl i) i ep) Q E s
theorem En{S:Addr}{ks:List Key}{es:Array (Int×Value)}{ep:Nat}{t:SetTable}(hb:ck w=true):Nx prog w S ks es ep t (λ_=>0) ((pickOrder (w.params.setOrder S ep) es).toList.map (·.2)):=by
 intro i s A E Q hS hi q
 unfold setNext setsByText
 refine TZ (wpAny_setState_of hS.obj rfl hS.fits ?_)
 dsimp only
 refine TZ (TZ (wpAny_askSetting (T1 ?_)))
 rw [if_pos (show(model prog w).w.params.followText "set-order"=true from hb),if_neg (by simp)]
 unfold setWalk setsByText
 refine TZ (TZ (wpAny_setState_of hS.obj rfl hS.fits ?_))
 dsimp only
 refine TZ (TZ (wpAny_askSetting (T1 ?_)))
 rw [if_pos (show(model prog w).w.params.followText "set-order"=true from hb)]
 refine TZ (wpAny_askSetting (T1 (T1 ?_)))
 rw [Uy,Option.map_map,Array.getElem?_toList]at q
 exact q
theorem A9{S:Addr}{ks:List Key}{es:Array (Int×Value)}{ep:Nat}{t:SetTable}(hb:ck w=false)(hd:lG es t=false):Nx prog w S ks es ep t (EL t.place) (es.toList.map (·.2)):=by
 intro i s A E Q hS hi q
 have hps:t.place.size=es.size:=by have:=hS.fits; simp [SetTable.fits]at this; exact this.1
 unfold setNext setsByText
 refine TZ (wpAny_setState_of hS.obj rfl hS.fits ?_)
 dsimp only
 refine TZ (TZ (wpAny_askSetting (T1 ?_)))
 rw [if_neg (show¬(model prog w).w.params.followText "set-order"=true by show¬ck w=true; rw [hb]; decide)]
 have Nz:t.led=true:=by rw [hS.tab.led,hb]; rfl
 show wpAny _ _ (if lG es t=true then _ else _) _ _ _
 rw [if_neg (by rw [hd]; decide)]
 show wpAny _ _ ((if(!t.led && !es.isEmpty)=true then unsupported _ else pure ()) >>= _) _ _ _
 rw [if_neg (by rw [Nz]; simp)]
 refine TZ (T1 (T1 ?_))
 rw [xf hS.tab.OP (by rw [hps]; exact hi)]
 rw [Uy,Option.map_map,Array.getElem?_toList]at q
 by_cases hlt:i<es.size
 ·rw [UA hlt]at q⊢
  have hp2:i<t.place.size:=by rw [hps]; exact hlt
  have e2:EL t.place (i+1)=t.place[i]+1:=by show(t.place[i]?.getD 0)+1=_; rw [UA hp2]; rfl
  rw [UA hp2]
  dsimp only [Option.map_some,Function.comp]at q⊢
  rw [e2]at q
  exact q
 ·rw [Array.getElem?_eq_none (by omega)]at q⊢
  exact q
theorem lb:Slot "set_iterator" "__iter__" "set_iterator.__iter__" :=
 .of (owner:="set_iterator") (n:="__iter__") (by rw [typeLookup_type,builtinLookup_eq_fast]; kernel_rfl) (by decide +kernel) (by decide +kernel) (by decide +kernel)
  (by first | exact .inl (by decide +kernel) | exact .inr (by decide +kernel)) (by rw [isSubtype_type]; kernel_rfl)
theorem p9:entryFor table "set_iterator.__iter__"=some Builtin.«dict_keyiterator.__iter__» :=
 entryFor_alias (id':="dict_keyiterator.__iter__") (by kernel_rfl) rfl (by decide +kernel) (by kernel_rfl)
theorem sG(a:Value):argsOk "set_iterator.__iter__" ⟨[a],[]⟩:=by unfold argsOk; kernel_rfl
theorem yq{A:Around}{E:Value->Shared->Prop}{s:Shared}{I S:Addr}{first:Value}{i n ep:Nat}{Q:Value->Shared->Prop}(hI:s.heap.get? I=some (eU first i S n ep))(h:Q (.ref I) s):wpAny (model prog w) A (pyIter (.ref I)) Q E s:=by
 have hT:s.TypeIs (.ref I) "set_iterator":=⟨_,hI,rfl⟩
 refine wpAny_pyIter_slot hT lb (wpAny_call_entry lb hT p9 ?_ (sG _))
 show wpAny _ _ (ret (.ref I)) _ _ s
 exact T1 ⟨_,rfl,"set_iterator",_,hT,eR.lookup,h⟩
theorem C9{A:Around}(hh:A.handled=none){I S:Addr}(hne:S≠I){ks:List Key}{es:Array (Int×Value)}{ep:Nat}{t:SetTable}{sl:Nat->Nat}{vs:List Value}(hv:vs.length=es.size)(hn:Nx prog w S ks es ep t sl vs) :
  Walks prog w A I [I,S] [I] es.size (λi v=>vs[i]? = some v) (λi h=>h.get? I=some (eU (.int (sl i) 0) i S es.size ep)/\fj prog w h S ks es ep t) where
 sub:=λb hb=>by simp at hb; simp [hb]
 frame:=λ_ _ _ st hk=>⟨hk I (by simp) _ st.1,st.2.keep λo e=>hk S (by simp) o e⟩
 item:=λi s Q E hi st hQ=>by
  have e:vs[i]? = some (vs[i]'(by omega)):=Ug (by omega)
  refine Fw (v:=vs[i]'(by omega)) (next:=sl (i+1)) st.1 st.2 (λQ E q=>hn i s _ E Q st.2 (Nat.le_of_lt hi) (by rw [e]; exact q)) λh' h1 h2=>?_
  exact hQ _ h' s.toks e ⟨h1,st.2.keep λo q=>(h2 S hne).trans q⟩ λb o hb q=>(h2 b (by simpa using hb)).trans q
 done:=λs Q E st hQ=>Jh hh st.1 st.2 (λQ E q=>hn es.size s _ E Q st.2 (T7 _) (by rw [List.getElem?_eq_none (by omega)]; exact q)) λh' he=>hQ h' s.toks λb o hb e=>he b o (λh=>hb (by simp [h])) e
 self:=λi s Q E st hQ=>yq st.1 hQ
theorem v5{A:Around}(hh:A.handled=none){I S T:Addr}(hne:S≠I)(hnt:T≠I){ks:List Key}{es:Array (Int×Value)}{ep:Nat}{t:SetTable}{ps:List Nat}(hp:ps.Perm (List.range es.size)) :
  Walks prog w A I [I,S,T] [I] es.size (λi v=>(ps.filterMap λj=>(es[j]?).map (·.2))[i]? = some v) (λi h=>h.get? I=some (eU (.ref T) i S es.size ep)/\fj prog w h S ks es ep t/\h.get? T=some {cls:=.type "tuple",data:=.seq (ps.map λ(i:Nat)=>Value.int i 0).toArray}) where
 sub:=λb hb=>by simp at hb; simp [hb]
 frame:=λ_ _ _ st hk=>⟨hk I (by simp) _ st.1,st.2.1.keep λo e=>hk S (by simp) o e,hk T (by simp) _ st.2.2⟩
 item:=λi s Q E hi st hQ=>by
  have hl:ps.length=es.size:=by rw [hp.length_eq]; simp
  have hlt:i<ps.length:=by omega
  have hpi:ps[i]<es.size:=List.mem_range.mp (hp.mem_iff.mp (List.getElem_mem hlt))
  have em:(ps.filterMap λj=>(es[j]?).map (·.2))=ps.map λj=>(es.getD j (0,.none)).2:=by
   have gen:∀l:List Nat,(∀j∈l,j<es.size)->(l.filterMap λj=>(es[j]?).map (·.2))=l.map λj=>(es.getD j (0,.none)).2:=by
    intro l
    induction l with
    | nil=>intro _; rfl
    | cons a l ih =>
     intro hl
     have ha:=hl a UE
     rw [List.filterMap_cons,ih λj hj=>hl j (Uj _ hj)]
     simp [Array.getD,ha]
   exact gen ps λj hj=>List.mem_range.mp (hp.mem_iff.mp hj)
  refine Fd (p:=ps[i]) (hv:=es[ps[i]].1) (v:=es[ps[i]].2) st.1 st.2.1 st.2.2 (by simp [hlt]) (by rw [UA hpi]) λh' h1 h2=>?_
  refine hQ _ h' s.toks ?_ ⟨h1,st.2.1.keep λo q=>(h2 S hne).trans q,(h2 T hnt).trans st.2.2⟩ λb o hb q=>(h2 b (by simpa using hb)).trans q
  rw [em,Uy,Ug hlt]
  simp [Array.getD,hpi]
 done:=λs Q E st hQ=>by
  have hl:ps.length=es.size:=by rw [hp.length_eq]; simp
  exact Jp hh st.1 st.2.1 st.2.2 (by simp [hl]) λh' he=>hQ h' s.toks λb o hb e=>he b o (λh=>hb (by simp [h])) e
 self:=λi s Q E st hQ=>yq st.1 hQ
end
section
variable{prog:Program}{w:World}{A:Around}{E:Value->Shared->Prop}{s:Shared}
theorem CI(hh:A.handled=none){S:Addr}{ks:List Key}{es:Array (Int×Value)}{ep:Nat}{t:SetTable}{Q:Value->Shared->Prop}(hS:fj prog w s.heap S ks es ep t)
  (h:∀(I:Addr) (h1:Heap) (d:Drawn) (fp:List Addr) (vs:List Value) (St:Nat->Heap->Prop),(∀b o,s.heap.get? b=some o->h1.get? b=some o)->s.heap.objs.size<=I->(∀b∈fp,b=S\/s.heap.objs.size<=b)->
   Walks prog w A I fp [I] es.size (λi v=>vs[i]? = some v) St->St 0 h1->vs.length=es.size->vs.Perm (es.toList.map (·.2))->Q (.ref I) {s with heap:=h1,drawn:=d}) :
  wpAny (model prog w) A (pyIter (.ref S)) Q E s:=by
 have hlt:S<s.heap.objs.size:=T5 hS.obj
 refine BO hS (λhb=>?_) λhb d ps hp=>?_
 ·have key:∀sl vs,sl 0=0->vs.length=es.size->vs.Perm (es.toList.map (·.2))->Nx prog w S ks es ep t sl vs->Q (.ref s.heap.objs.size) {s with heap:=s.heap.push (eU (.int 0 0) 0 S es.size ep)}:=λsl vs h0 hl hpm hn=>by
   have W:=C9 (A:=A) hh (I:=s.heap.objs.size) (S:=S) (Ut hlt) hl hn
   have:=h s.heap.objs.size (s.heap.push (eU (.int 0 0) 0 S es.size ep)) s.drawn _ vs _ (λb o e=>T4 _ e) (T7 _) (λb hb=>?_) W ⟨?_,hS.keep λo e=>T4 _ e⟩ hl hpm
   ·exact this
   ·simp only [Uq,List.not_mem_nil,or_false]at hb
    rcases hb with rfl | rfl
    ·exact .inr (T7 _)
    ·exact .inl rfl
   ·rw [h0]
    exact T6 _ rfl
  cases hbt:ck w with
  | true=>exact key _ _ rfl (by rw [Ua,(rb _ _).length_eq,Array.length_toList]) ((rb _ _).map _) (En hbt)
  | false =>
   rw [hbt]at hb
   exact key _ _ rfl (by rw [Ua,Array.length_toList]) (List.Perm.refl _) (A9 hbt (by simpa using hb))
 ·have hl:ps.length=es.size:=by rw [hp.length_eq]; simp
  have W:=v5 (prog:=prog) (w:=w) (A:=A) hh (I:=s.heap.objs.size+1) (S:=S) (T:=s.heap.objs.size) (Ut (Nat.lt_succ_of_lt hlt)) (Ut (Nat.lt_succ_self _)) (ks:=ks) (es:=es) (ep:=ep) (t:=t) hp
  have pm:(ps.filterMap λj=>(es[j]?).map (·.2)).Perm (es.toList.map (·.2)):=by
   refine(hp.filterMap _).trans ?_
   rw [←List.map_filterMap]
   rw [filterMap_getElem?_range]
  refine h (s.heap.objs.size+1) _ d _ _ _ (λb o e=>T4 _ (T4 _ e)) (Nat.le_succ _) (λb hb=>?_) W ⟨?_,hS.keep λo e=>T4 _ (T4 _ e),T4 _ (T6 _ rfl)⟩ (by rw [pm.length_eq,Ua,Array.length_toList]) pm
  ·simp only [Uq,List.not_mem_nil,or_false]at hb
   rcases hb with rfl | rfl | rfl
   ·exact .inr (Nat.le_succ _)
   ·exact .inl rfl
   ·exact .inr (T7 _)
  ·have:=T6 (s.heap.push {cls:=.type "tuple",data:=.seq (ps.map λ(i:Nat)=>Value.int i 0).toArray}) (o:=eU (.ref s.heap.objs.size) 0 S es.size ep) rfl
   rw [size_push']at this
   exact this
theorem Dh{r:Addr}{Q:Bool->Shared->Prop}(hT:s.TypeIs (.ref r) "set")(h:Q false s):wpAny (model prog w) A (Builtin.List.listLengthHint (.ref r)) Q E s:=by
 unfold Builtin.List.listLengthHint
 refine TZ (wpAny_specialOf hT PySem.F.slot_set_len.lookup ?_)
 generalize hid:("set.__len__" : String)=id0
 wp_delta
 rw [show splitId id0=some ("set","__len__") from by subst hid; decide +kernel]
 subst hid
 refine TZ (wpAny_isInstance (T:="set") (b:=true) hT (by rw [isSubtype_type]; kernel_rfl) ?_)
 refine wpAny_ite_split (λhab=>absurd hab (by decide)) (λ_=>?_)
 refine wpAny_ite_split (λ_=>?_) (λhab=>absurd (by decide +kernel) hab)
 refine TZ (wpAny_typeOf hT ?_)
 exact T1 h
theorem xI{S L:Addr}{ks:List Key}{es:Array (Int×Value)}{ep:Nat}{t:SetTable}{R:Result->Shared->Prop}(hh:A.handled=none)(hS:fj prog w s.heap S ks es ep t)(P4:L≠S)(res:Value)(c₀:Nat)(hL:s.heap.get? L=some {cls:=.type "list",data:=.seq #[] c₀})
  (hR:∀h' tk d acc' c',(∀b o,b≠L->s.heap.get? b=some o->h'.get? b=some o)->h'.get? L=some {cls:=.type "list",dict:=none,data:=.seq acc' c',slots:=#[]}->acc'.toList.Perm (es.toList.map (·.2))->R (.ok (.ret res)) {s with heap:=h',toks:=tk,drawn:=d}) :
  wpAny (model prog w) A.in1 (Builtin.List.listExtendWith (.ref L) (.ref S) res)
   (λfin s'=>match fin with | .done f=>R (.ok f) s' | .again c'=>c'.quiet=true/\codeAny (model prog w) A c' R s') (λe s'=>R (.error e) s') s:=by
 have hT:s.TypeIs (.ref S) "set":=⟨_,hS.obj,rfl⟩
 have hz:es.size<=sizeLine:=fits_of_scanBound hS.few
 unfold Builtin.List.listExtendWith
 refine TZ (wpAny_typeOf hT ?_)
 have h1:Builtin.List.listSameRef (.ref L) (.ref S)=false:=by simp [Builtin.List.listSameRef,P4]
 have h2:(Value.type "set"==Value.type "list")=false:=by decide
 have h3:(Value.type "set"==Value.type "tuple")=false:=by decide
 simp only [h1,h2,h3,Bool.or_false,Bool.false_eq_true,if_false]
 refine TZ (CI (A:=A.in1) hh hS λI h1 d fp vs St hk hI hfp W st hvl hpm=>?_)
 have hLlt:L<s.heap.objs.size:=T5 hL
 have hLI:L≠I:=Ut (Ue hLlt hI)
 have hLf:L∉fp:=λhb=>by
  rcases hfp L hb with e | e
  ·exact P4 e
  ·exact absurd hLlt (Nat.not_lt.mpr e)
 have key:∀(h:Heap) (c₁ tk:Nat),St 0 h->(∀b o,b≠L->s.heap.get? b=some o->h.get? b=some o)->
   h.get? L=some {cls:=.type "list",data:=.seq #[] c₁}->codeAny (model prog w) A (.builtin "list.extend.loop" ⟨[.ref L,.ref I,res],[]⟩) R {s with heap:=h,toks:=tk,drawn:=d}:=by
  intro h c₁ tk hst hkk hS₁
  refine codeAny_extend_loopS W.toS hz L hLf res es.size 0 _ #[] c₁ rfl (Uu _) hst hS₁ (ItemsOf.nil _) λs' acc' c' hm hS' hacc=>?_
  rw [Moved.eq_with hm]
  refine hR s'.heap s'.toks d acc' c' (λb o hb e=>hm.heap b o (λhmem=>?_) (hkk b o hb e)) hS' ?_
  ·rcases Uq.mp hmem with e' | hmem
   ·exact hb e'
   ·have:=Uo.mp hmem
    subst this
    exact absurd (T5 e) (Nat.not_lt.mpr hI)
  ·have ev:acc'.toList=vs:=by
    refine List.ext_getElem? λi=>?_
    rw [Array.getElem?_toList]
    by_cases hlt:i<es.size
    ·have:i<acc'.size:=by rw [hacc.1]; exact hlt
     rw [UA this]
     exact(hacc.2 i _ (UA this)).symm
    ·rw [Array.getElem?_eq_none (by rw [hacc.1]; omega),List.getElem?_eq_none (by omega)]
   rw [ev]
   exact hpm
 have hS₁:h1.get? L=some {cls:=.type "list",data:=.seq #[] c₀}:=hk _ _ hL
 refine TZ (UC (Dh (s:={s with heap:=h1,drawn:=d}) ⟨_,hk _ _ hS.obj,rfl⟩ ?_))
 refine wpAny_ite_split (λ_=>?_) (λ_=>T1 ⟨plainId_quiet PySem.F.plain_extend_loop _,key _ c₀ _ st (λb o _ e=>hk b o e) hS₁⟩)
 refine TZ (wpAny_rule ?_)
 refine TZ ?_
 show wpAny _ _ (updateSeq L (·.push .none) >>= λ_=>updateSeq L (·.pop)) _ _ _
 refine TZ (wpAny_updateSeq hS₁ rfl ?_)
 have hS₂:=Heap.get?_update_self (Obj.mapSeq (·.push Value.none)) hS₁ rfl
 refine wpAny_updateSeq (hz:=by seq_fits) hS₂ rfl ?_
 have hS₃:=Heap.get?_update_self (Obj.mapSeq (·.pop)) hS₂ rfl
 refine T1 ⟨plainId_quiet PySem.F.plain_extend_loop _,key _ _ _ ?_ (λb o hb e=>?_) hS₃⟩
 ·refine W.frame 0 _ _ st λb hb o e=>?_
  have hbS:b≠L:=λh=>hLf (h▸hb)
  exact(Heap.get?_update_other _ _ (Ne.symm hbS)).trans ((Heap.get?_update_other _ _ (Ne.symm hbS)).trans e)
 ·exact(Heap.get?_update_other _ _ (Ne.symm hb)).trans ((Heap.get?_update_other _ _ (Ne.symm hb)).trans (hk _ _ e))
theorem uU{S:Addr}{ks:List Key}{es:Array (Int×Value)}{ep:Nat}{t:SetTable}{R:List Value->Shared->Prop}(hh:A.handled=none)(hS:fj prog w s.heap S ks es ep t)
  (h:∀(h':Heap) (tk:Nat) (d:Drawn) (vs:List Value),s.heap.objs.size<=h'.objs.size->(∀b o,s.heap.get? b=some o->h'.get? b=some o)->vs.Perm (es.toList.map (·.2))->R vs {s with heap:=h',toks:=tk,drawn:=d}) :
  wpAny (model prog w) A (collect (.ref S)) R E s:=by
 have hlt:S<s.heap.objs.size:=T5 hS.obj
 unfold collect
 refine TZ (wpAny_runValue (codeAny_builtin entry_proto_collect' ?_))
 rw [Around.under_plainId PySem.F.plain_proto_collect _]
 show wpAny _ A.in1 (newList [] >>= λl=>again (.builtin "list.__iadd__" ⟨[l,.ref S],[]⟩)) _ _ s
 refine TZ (UD ?_)
 refine T1 ⟨plainId_quiet PySem.F.plain_list_iadd _,codeAny_builtin entry_list_iadd' ?_⟩
 rw [Around.under_plainId PySem.F.plain_list_iadd _]
 have hL:(s.heap.push {cls:=.type "list",data:=.seq ([]:List Value).toArray}).get? s.heap.objs.size=some {cls:=.type "list",data:=.seq #[]}:=T6 _ rfl
 show wpAny _ A.in1 (Builtin.List.listExtendWith (.ref s.heap.objs.size) (.ref S) (.ref s.heap.objs.size)) _ _ _
 have key:=xI (A:=A) (s:={s with heap:=s.heap.push {cls:=.type "list",data:=.seq ([]:List Value).toArray}})
  (R:=λ(q:Result) (s':Shared)=>∃(h':Heap) (tk:Nat) (d:Drawn) (acc':Array Value) (c':Nat),q=.ok (.ret (.ref s.heap.objs.size))/\s' ={s with heap:=h',toks:=tk,drawn:=d}/\
   (∀b o,s.heap.get? b=some o->h'.get? b=some o)/\h'.get? s.heap.objs.size=some {cls:=.type "list",dict:=none,data:=.seq acc' c',slots:=#[]}/\acc'.toList.Perm (es.toList.map (·.2)))
  hh (hS.keep λo e=>T4 _ e) (Nat.ne_of_gt hlt) (.ref s.heap.objs.size) 0 hL
  (λh' tk d acc' c' hk hS' hacc=>⟨h',tk,d,acc',c',rfl,rfl,λb o e=>hk b o (Ut (T5 e)) (T4 _ e),hS',hacc⟩)
 refine UB key (λfin s' x=>?_) λe s' x=>?_
 ·cases fin with
  | done f =>
   obtain⟨h',tk,d,acc',c',e,rfl,hk,hS',hacc⟩:=x
   cases e
   show wpAny _ A (load s.heap.objs.size >>= _) _ _ _
   refine TZ (wpAny_load hS' ?_)
   exact T1 (h h' tk d acc'.toList (Nat.le_of_lt (T5 hS')) hk hacc)
  | again c₁ =>
   refine⟨x.1,codeAny_mono x.2 λq s₂ y=>?_⟩
   obtain⟨h',tk,d,acc',c',rfl,rfl,hk,hS',hacc⟩:=y
   show wpAny _ A (load s.heap.objs.size >>= _) _ _ _
   refine TZ (wpAny_load hS' ?_)
   exact T1 (h h' tk d acc'.toList (Nat.le_of_lt (T5 hS')) hk hacc)
 ·obtain⟨_,_,_,_,_,e',_⟩:=x
  cases e'
theorem xY{S:Addr}{ks:List Key}{es:Array (Int×Value)}{ep:Nat}{t:SetTable}{Q:Value->Shared->Prop}(hh:A.handled=none)(hS:fj prog w s.heap S ks es ep t)
  (h:∀(h':Heap) (tk:Nat) (d:Drawn) (vs:List Value),s.heap.objs.size<=h'.objs.size->(∀b o,s.heap.get? b=some o->h'.get? b=some o)->vs.Perm (es.toList.map (·.2))->
   wpAny (model prog w) A.in1 (call (.builtin "list.sort") [.ref h'.objs.size]) (λ_ s'=>Q (.ref h'.objs.size) s') E {s with heap:=h'.push (seqObj "list" vs.toArray 0),toks:=tk,drawn:=d}) :
  wpAny (model prog w) A (call (.builtin "sorted") [.ref S]) Q E s:=by
 refine Calls.call_function_entry kind_sorted plain_sorted entry_sorted (args_sorted1 _) ?_
 unfold Builtin.«sorted»
 refine TZ (m:=checkCount "sorted" 1 1 _) (T1 ?_)
 refine TZ (uU (A:=A.in1) hh hS λh' tk d vs hz hk hp=>?_)
 have hl:vs.length<=sizeLine:=by rw [hp.length_eq,Ua,Array.length_toList]; exact fits_of_scanBound hS.few
 refine TZ (wpAny_newList ?_ hl)
 refine TZ (UC (UB (h h' tk d vs hz hk hp) (λ_ s' x=>?_) λ_ _ e=>e))
 exact T1 ⟨_,rfl,x⟩
end
def vW(x y:Str):Prop:=x.cps.toList<y.cps.toList
theorem Af:bootBuiltins "set"=some (.type "set"):=by kernel_rfl
theorem IU{x y:Str}(h:¬y.cps.toList<x.cps.toList)(n:x≠y):vW x y:=by
 unfold vW
 have hle:x.cps.toList<=y.cps.toList:=List.not_lt.mp h
 refine Decidable.byContradiction λh2=>n ?_
 have Pe:y.cps.toList<=x.cps.toList:=List.not_lt.mp h2
 have e:=List.le_antisymm hle Pe
 cases x; cases y
 simp at e
 subst e
 rfl
theorem E5{vs:List Value}{ss:List Str}(hS:StrsAre vs ss){xs:Array Keyed}(hp:xs.Perm (pairsOf vs))(hs:SortedToK strKind xs (pairsOf vs).size) :
  ∃ss',StrsAre (xs.map (·.2)).toList ss'/\ss'.Perm ss/\ss'.Pairwise λa b=>¬b.cps.toList<a.cps.toList:=by
 have hl:xs.toList.Perm (vs.zip vs):=by rw [←pairsOf_toList]; exact Array.perm_iff_toList_perm.mp hp
 have hmem:∀p,p∈xs.toList->p.1=p.2/\p.1∈vs:=λp hp'=>mem_zip_self (hl.mem_iff.mp hp')
 refine⟨xs.toList.map (λp=>strOf p.1),?_,?_,?_⟩
 ·have e:(xs.map (·.2)).toList=xs.toList.map (·.1):=by
   rw [Array.toList_map]; exact List.map_congr_left λp hp'=>(hmem p hp').1.symm
  rw [e]
  have h1:=strsAre_map (xs.toList.map (·.1)) (by
   intro v hv
   obtain⟨p,hp',rfl⟩:=Up.mp hv
   exact hS.all _ (hmem p hp').2)
  rwa [List.map_map]at h1
 ·have h1:=hl.map (λp=>strOf p.1)
  have e2:(vs.zip vs).map (λp=>strOf p.1)=ss:=by
   have:(vs.zip vs).map (λp=>strOf p.1)=((vs.zip vs).map Prod.fst).map strOf:=by rw [List.map_map]; rfl
   rw [this,List.map_fst_zip (T7 _),hS.strs]
  rwa [e2]at h1
 ·rw [List.pairwise_iff_getElem]
  intro i j hi hj hij
  have hi':i<xs.size:=by simpa using hi
  have hj':j<xs.size:=by simpa using hj
  have h1:=hs i j (Nat.le_of_lt hij) (by rw [←hp.size_eq]; exact hj')
  obtain⟨x,t,ex⟩:=hS.all _ (hmem xs[i] (by simp)).2
  obtain⟨y,u,ey⟩:=hS.all _ (hmem xs[j] (by simp)).2
  rw [KK_str hi' (x:=x) (t:=t) (q:=xs[i].2) (Prod.ext ex rfl),KK_str hj' (x:=y) (t:=u) (q:=xs[j].2) (Prod.ext ey rfl)]at h1
  change decide (y.cps.toList<x.cps.toList)=false at h1
  simp only [List.getElem_map,Array.getElem_toList]
  rw [show strOf xs[i].1=x by rw [ex]; rfl,show strOf xs[j].1=y by rw [ey]; rfl]
  exact of_decide_eq_false h1
section
variable{prog:Program}{w:World}{A:Around}{E:Value->Shared->Prop}{s:Shared}
theorem zE{a:Addr}{vs:List Value}{ns:List Int}{Q:Value->Shared->Prop}(ho:s.heap.get? a=some (seqObj "list" vs.toArray 0))(hI:IntsAre vs ns)(h64:vs.length<64)
  (h:∀(out:Array Value) (ns':List Int),IntsAre out.toList ns'->ns'.Perm ns->ns'.Pairwise (·<=·)->Q .none {s with heap:=sortedHeap s.heap a vs out}):wpAny (model prog w) A (call (.builtin "list.sort") [.ref a]) Q E s :=
 wpAny_call_entry slot_list_sort ⟨_,ho,rfl⟩ entry_list_sort (list_sort_tree ho hI h64 λout ns' a1 a2 a3=>⟨_,rfl,h out ns' a1 a2 a3⟩) (args_list_sort _)
theorem zI{a:Addr}{vs:List Value}{ss:List Str}{Q:Value->Shared->Prop}(ho:s.heap.get? a=some (seqObj "list" vs.toArray 0))(hS:StrsAre vs ss)(h64:vs.length<64)
  (h:∀(out:Array Value) (ss':List Str),StrsAre out.toList ss'->ss'.Perm ss->(ss'.Pairwise λa b=>¬b.cps.toList<a.cps.toList)->Q .none {s with heap:=sortedHeap s.heap a vs out}):wpAny (model prog w) A (call (.builtin "list.sort") [.ref a]) Q E s :=
 wpAny_call_entry slot_list_sort ⟨_,ho,rfl⟩ entry_list_sort (list_sort_treeK strKind_oneLt ho hS.keysOf (λv₁ v₂ rest e=>keyKind_strs (by rw [←e]; exact hS)) h64 λst' hp hs=>⟨_,rfl,by
  obtain⟨ss',h1,h2,h3⟩:=E5 hS hp hs
  exact h _ ss' h1 h2 h3⟩) (args_list_sort _)
end
def lu(xs ys:List V):Prop :=
 (∃ns ms:List Int,xs=ns.map V.int/\ys=ms.map V.int/\ms.Pairwise (· < ·)/\∀n,n∈ms↔n∈ns)\/∃ns ms:List Str,xs=ns.map V.str/\ys=ms.map V.str/\ms.Pairwise vW/\∀n,n∈ms↔n∈ns
def CK(K:UJ)(te:TE):TE:=λσ H Q=>te σ H λx H1=>∃a xs,x=.ref a/\(a_ K H1 a xs\/aH K H1 a xs)/\xs.length<64/\((∃ns:List Int,xs=ns.map V.int)\/∃ss:List Str,xs=ss.map V.str)/\
 ∀p ys,H1 p=none->lu xs ys->Q (.ref p) (upd H1 p (.lst ys))
theorem IX{ms ms':List Int}(h:ms.Pairwise (·<=·))(n:ms.Nodup):ms.Pairwise (· < ·):=by
 rw [List.pairwise_iff_getElem]at h⊢
 intro i j hi hj hij
 have h1:=h i j hi hj hij
 have h2:=List.pairwise_iff_getElem.mp n i j hi hj hij
 omega
theorem wH{ns:List Int}:∀{us:List Value},IntsAre us ns->Vals (ns.map V.int) us:=by
 induction ns with
 | nil=>intro us r; cases r; exact .nil
 | cons y ys ih=>intro us r; cases r with | cons _ t r=>exact .cons ⟨t,rfl⟩ (ih r)
theorem wG{ns:List Str}:∀{us:List Value},StrsAre us ns->Vals (ns.map V.str) us:=by
 induction ns with
 | nil=>intro us r; cases r; exact .nil
 | cons y ys ih=>intro us r; cases r with | cons _ t r=>exact .cons ⟨t,rfl⟩ (ih r)
def keyV:V->Key
 | .int n=>.inl n
 | .str x=>.inr x
 | _=>.inl 0
def i_(xs:List V)(i:Nat):Key:=((xs[i]?).map keyV).getD (.inl 0)
theorem jF{xs:List V}{k:Key}:k∈kq (i_ xs) xs.length↔∃x∈xs,keyV x=k:=by
 rw [uJ]
 constructor
 ·rintro⟨j,hj,e⟩
  refine⟨xs[j],List.getElem_mem hj,?_⟩
  unfold i_ at e
  rw [Ug hj]at e
  exact e
 ·rintro⟨x,hx,e⟩
  obtain⟨j,hj,rfl⟩:=List.mem_iff_getElem.mp hx
  refine⟨j,hj,?_⟩
  unfold i_
  rw [Ug hj]
  exact e
theorem BF{xs:List V}{its:List Value}(r:Vals xs its)(hx:∀x∈xs,(∃n,x=.int n)\/∃y,x=.str y)(i:Nat)(v:Value)(e:its.toArray[i]? = some v):fL (i_ xs i) v=true/\v.scannable=true:=by
 have e':its[i]? = some v:=by simpa using e
 have hl:=r.length
 have hi:i<xs.length:=by rw [hl]; exact(Um.mp e').1
 obtain⟨u,hu,ru⟩:=r.get (Ug hi)
 rw [e']at hu
 cases hu
 have ek:i_ xs i=keyV xs[i]:=by unfold i_; rw [Ug hi]; rfl
 rw [ek]
 rcases hx xs[i] (List.getElem_mem hi)with⟨n,q⟩ | ⟨y,q⟩
 ·rw [q]at ru⊢
  obtain⟨t,rfl⟩:=ru
  exact⟨lT n t,rfl⟩
 ·rw [q]at ru⊢
  obtain⟨t,rfl⟩:=ru
  exact⟨lR y t,rfl⟩
section
variable{X:Cx}{e:Expr}{te:TE}{p1 p2 pos pos2:Pos}
theorem vz{pins:List (Addr×Obj)}{σ:St}{H:Hp}{s:Shared}{Q:VK}{S:Addr}{xs:List V}{es:Array (Int×Value)}{ep:Nat}{t:SetTable}(hc:X.calm=true)(I:Inv X pins σ H s)(hS:fj X.prog X.w s.heap S (kq (i_ xs) xs.length) es ep t)(h64:xs.length<64)
  (hx:(∃ns:List Int,xs=ns.map V.int)\/∃ss:List Str,xs=ss.map V.str) (q:∀p ys,H p=none->lu xs ys->Q (.ref p) (upd H p (.lst ys))) :
  wpAny (model X.prog X.w) X.A (call (.builtin "sorted") [.ref S]) (EP X pins σ Q) X.xe s:=by
 refine xY (I.ok.hd hc) hS λh' tk d vs hz hk hp=>?_
 have hn:H h'.objs.size=none:=I.hok.fresh hz
 have hperm:(vs.map A2).Perm (kq (i_ xs) xs.length):=by
  refine(hp.map A2).trans ?_
  rw [List.map_map]
  exact hS.keys
 have hlen:vs.length<64:=by
  have h1:=hperm.length_eq
  have h2:=oy (i_ xs) xs.length
  rw [Ua]at h1
  omega
 have hel:∀v∈vs,∃k,fL k v=true/\k∈kq (i_ xs) xs.length:=λv hv=>by
  obtain⟨e,he,rfl⟩:=Up.mp (hp.mem_iff.mp hv)
  obtain⟨⟨k,hk',_⟩,_⟩:=hS.els e he
  exact⟨k,hk',hS.mem.mp ⟨e,he,hk'⟩⟩
 have hob:(h'.push (seqObj "list" vs.toArray 0)).get? h'.objs.size=some (seqObj "list" vs.toArray 0):=T6 _ rfl
 have fin:∀(ys:List V) (out:Array Value),Vals ys out.toList->ys.length<64->lu xs ys->EP X pins σ Q (.ref h'.objs.size) {s with heap:=sortedHeap (h'.push (seqObj "list" vs.toArray 0)) h'.objs.size vs out,toks:=tk,drawn:=d}:=λys out r hl so=>by
  have keep:∀b o,s.heap.get? b=some o->(sortedHeap (h'.push (seqObj "list" vs.toArray 0)) h'.objs.size vs out).get? b=some o:=λb o e=>by
   have hb:=hk b o e
   have hlt:=T5 hb
   rw [sortedHeap_old (Ut hlt) (by rw [size_push']; exact Nat.lt_succ_of_lt hlt)]
   exact T4 _ hb
  obtain⟨c,hat⟩ :∃c,(sortedHeap (h'.push (seqObj "list" vs.toArray 0)) h'.objs.size vs out).get? h'.objs.size=some (seqObj "list" out c):=sortedHeap_at hob
  have hobj:cq X.prog X.w (upd H h'.objs.size (.lst ys)) (sortedHeap (h'.push (seqObj "list" vs.toArray 0)) h'.objs.size vs out) h'.objs.size (.lst ys):=⟨by rw [sizeLine_eq]; omega,out.toList,c,r,by rw [hat]⟩
  refine⟨.ref h'.objs.size,upd H h'.objs.size (.lst ys),?_,rfl,q _ _ hn so⟩
  exact I.call' (s':={s with heap:=sortedHeap (h'.push (seqObj "list" vs.toArray 0)) h'.objs.size vs out,toks:=tk,drawn:=d}) (ch:=[]) rfl (Un.laid keep hz hn) (I.hok.laid keep hz hobj) I.bare λb hb=>absurd hb (by simp)
 rcases hx with⟨ns,rfl⟩ | ⟨ss,rfl⟩
 ·have hint:∀v∈vs,∃n t,v=Value.int n t:=λv hv=>by
   obtain⟨k,hk1,hk2⟩:=hel v hv
   obtain⟨x,hx,e⟩:=jF.mp hk2
   obtain⟨n,hn',rfl⟩:=Up.mp hx
   subst e
   rcases bC hk1 with⟨i,t,e1,e2⟩ | ⟨y,t,e1,e2⟩
   ·exact⟨i,t,e2⟩
   ·cases e1
  have hI:=intsAre_map vs hint
  refine zE hob hI hlen λout ns' a1 a2 a3=>?_
  have ek:vs.map A2=(vs.map numOf).map Sum.inl:=by
   rw [List.map_map]
   refine List.map_congr_left λv hv=>?_
   obtain⟨n,t,rfl⟩:=hint v hv
   rfl
  have zy:ns'.Nodup:=by
   refine a2.nodup_iff.mpr ?_
   have h1:=hperm.nodup_iff.mpr hS.Nc
   rw [ek]at h1
   exact(List.pairwise_map.mp h1).imp λhne e=>hne (congrArg _ e)
  refine fin (ns'.map V.int) out (wH a1) (by rw [Ua,a2.length_eq,Ua]; exact hlen) (.inl ⟨ns,ns',rfl,rfl,IX (ms':=[]) a3 zy,λn=>?_⟩)
  rw [a2.mem_iff]
  have:n∈vs.map numOf↔(Sum.inl n:Key)∈vs.map A2:=by
   rw [ek]
   constructor
   ·exact λh=>Up.mpr ⟨n,h,rfl⟩
   ·intro h
    obtain⟨m,hm,e⟩:=Up.mp h
    cases e
    exact hm
  rw [this,hperm.mem_iff,jF]
  constructor
  ·rintro⟨x,hx,e⟩
   obtain⟨m,hm,rfl⟩:=Up.mp hx
   cases e
   exact hm
  ·exact λh=>⟨.int n,Up.mpr ⟨n,h,rfl⟩,rfl⟩
 ·have hstr:∀v∈vs,∃n t,v=Value.str n t:=λv hv=>by
   obtain⟨k,hk1,hk2⟩:=hel v hv
   obtain⟨x,hx,e⟩:=jF.mp hk2
   obtain⟨n,hn',rfl⟩:=Up.mp hx
   subst e
   rcases bC hk1 with⟨i,t,e1,e2⟩ | ⟨y,t,e1,e2⟩
   ·cases e1
   ·exact⟨y,t,e2⟩
  have hI:=strsAre_map vs hstr
  refine zI hob hI hlen λout ns' a1 a2 a3=>?_
  have ek:vs.map A2=(vs.map strOf).map Sum.inr:=by
   rw [List.map_map]
   refine List.map_congr_left λv hv=>?_
   obtain⟨n,t,rfl⟩:=hstr v hv
   rfl
  have zy:ns'.Nodup:=by
   refine a2.nodup_iff.mpr ?_
   have h1:=hperm.nodup_iff.mpr hS.Nc
   rw [ek]at h1
   exact(List.pairwise_map.mp h1).imp λhne e=>hne (congrArg _ e)
  refine fin (ns'.map V.str) out (wG a1) (by rw [Ua,a2.length_eq,Ua]; exact hlen) (.inr ⟨ss,ns',rfl,rfl,?_,λn=>?_⟩)
  ·rw [List.pairwise_iff_getElem]at a3⊢
   intro i j hi hj hij
   exact IU (a3 i j hi hj hij) (List.pairwise_iff_getElem.mp zy i j hi hj hij)
  rw [a2.mem_iff]
  have:n∈vs.map strOf↔(Sum.inr n:Key)∈vs.map A2:=by
   rw [ek]
   constructor
   ·exact λh=>Up.mpr ⟨n,h,rfl⟩
   ·intro h
    obtain⟨m,hm,e⟩:=Up.mp h
    cases e
    exact hm
  rw [this,hperm.mem_iff,jF]
  constructor
  ·rintro⟨x,hx,e⟩
   obtain⟨m,hm,rfl⟩:=Up.mp hx
   cases e
   exact hm
  ·exact λh=>⟨.str n,Up.mpr ⟨n,h,rfl⟩,rfl⟩
theorem j9(hc:X.calm=true)(hg1:Gl X "sorted")(hm1:X.mg "sorted"=none)(hg2:Gl X "set")(hm2:X.mg "set"=none)(he:PE X e te)(hs1:starEach [e] X.env=[(false,eval e X.env)]:=by rfl)
  (hs2:starEach [Expr.Call (.Name "set" p2) [e] [] pos2] X.env=[(false,eval (.Call (.Name "set" p2) [e] [] pos2) X.env)]:=by rfl) :
  PE X (.Call (.Name "sorted" p1) [.Call (.Name "set" p2) [e] [] pos2] [] pos) (CK X.K te):=by
 intro pins s σ H Q I h
 refine wpAny_Call_Name_kw (iT I hg1 hm1 boot_sorted ?_ (by decide) (by decide))
 refine PyProof.Rows.callWith_builtin1 ?_ hs2 rfl
 rw [hs2]
 refine Calls.spliced_cons ?_
 refine wpAny_Call_Name_kw (iT I hg2 hm2 Af ?_ (by decide) (by decide))
 refine PyProof.Rows.callWith_type1 ?_ hs1 rfl
 rw [hs1]
 refine Calls.spliced_cons (b_ (he pins s σ H _ I h) λu s1 ⟨x,H1,I1,r1,a,xs,ex,Mw,h64,hx,q⟩=>?_)
 refine Calls.spliced_nil ?_
 subst ex
 cases r1
 have hx':∀x∈xs,(∃n,x=.int n)\/∃y,x=.str y:=λx QH=>by
  rcases hx with⟨ns,rfl⟩ | ⟨ss,rfl⟩
  ·obtain⟨n,_,rfl⟩:=Up.mp QH; exact .inl ⟨n,rfl⟩
  ·obtain⟨n,_,rfl⟩:=Up.mp QH; exact .inr ⟨n,rfl⟩
 have go:∀{T:String} {its:List Value} {o:Obj},rK X.prog X.w T a its.toArray->Vals xs its->s1.heap.get? a=some o->o.cls=.type T->(∃n,o.data=.seq its.toArray n)->
   wpAny (model X.prog X.w) X.A (call (.type "set") [.ref a]) (λv s2=>wpAny (model X.prog X.w) X.A (spliced []) (λvs s3=>wpAny (model X.prog X.w) X.A (call (.builtin "sorted") (v::vs)) (EP X pins σ Q) X.xe s3) X.xe s2) X.xe s1:=λ{T its o} src r ho hcl hd=>by
  have hl:=r.length
  refine ui (key:=i_ xs) src (I1.ok.hd hc) ho hcl hd (BF r hx') (by simp [scanBound]; omega) λh' tk es ep t hS hk=>?_
  refine Calls.spliced_nil ?_
  have S0:its.toArray.size=xs.length:=by rw [Ul,hl]
  rw [S0]at hS
  exact vz hc (I1.kept (t':=tk) hk) hS h64 hx q
 rcases Mw with Mw | Mw
 ·obtain⟨its,r,pl,_⟩:=I1.list Mw
  obtain⟨o,ho,hcl,hd⟩:=pl.isList
  exact go src_list r ho hcl hd
 ·obtain⟨its,r,pl,_⟩:=I1.tuple Mw
  obtain⟨o,ho,hcl,hd⟩:=pl
  exact go Ft r ho hcl hd
end
end L2
namespace CS
open PySem L2
theorem wQ{x:Str}(h:vW x x):False:=List.lt_irrefl _ h
theorem Bh{ws:List Str}(h:ws.Pairwise vW):ws.Nodup:=h.imp λhl e=>by subst e; exact wQ hl
end CS
namespace My
open PySem L2 CS
abbrev xt:Stmt:=top 56
abbrev wo:Stmt:=top 57
abbrev Jn:Stmt:=top 58
abbrev ub:Stmt:=top 59
abbrev nQ:Stmt:=top 60
abbrev wj:Stmt:=top 61
abbrev xH:Stmt:=top 62
abbrev tL:Stmt:=top 63
abbrev w8:Stmt:=top 64
abbrev rW:Stmt:=top 65
abbrev xr:Stmt:=top 66
theorem Gm:ay ["_law_pot_here","_law_sort"] ["_law_pot_here","_law_sort"] (ar xt):=fs
theorem EJ:ay ["_law_pot_here","_law_sort"] ["_law_pot_here","_law_sort"] (ar wo):=fs
theorem BV:ay ["_law_pot_here","_law_sort","_law_low","_law_some"] ["_law_pot_here","_law_sort"] (ar Jn):=fs
theorem DX:ay ["_law_pot_here","_law_head"] ["_law_pot_here","_law_head"] (ar ub):=fs
theorem Az:ay ["_law_pot_here","_law_head","_law_many_here"] ["_law_pot_here","_law_head","_law_many_here"] (ar nQ):=fs
theorem Fq:ay ["_law_pot_here"] ["_law_pot_here"] (ar xH):=fs
structure iR(mg:Str->Option Value):Prop where
 int:mg "int"=none
 min:mg "min"=none
 all:mg "all"=none
 sorted:mg "sorted"=none
 set:mg "set"=none
def dO(v:V):Prop:=(∃n,v=.int n)\/∃x,v=.str x
structure cU(K:UJ)(H:Hp)(a:Addr)(hs:List Str):Prop where
 tup:H a=some (.tup (hs.map V.str))
 pos:1<=hs.length
 few:hs.length<=6
theorem cU.grow{K:UJ}{p a:Addr}{H H1:Hp}{hs:List Str}(hP:dh H p)(g:bo p H H1)(h:cU K H a hs):cU K H1 a hs :=
 ⟨g.keep _ _ (λz=>by obtain⟨x,y,e,_⟩:=hP; have:=h.tup; rw [z,e]at this; cases this) h.tup,h.pos,h.few⟩
def tH:Sp:=λvs H Q _=>∃(p:Addr) (s:Str),vs=[.ref p,.str s]/\dh H p/\∀x H',bo p H H'->Q (.str x) H'
def sE:Sp:=λvs H Q _=>∃(p:Addr) (s:Str),vs=[.ref p,.str s]/\dh H p/\∀v H',bo p H H'->dO v->Q v H'
def hZ(K:UJ):Sp:=λvs H Q _=>∃(p a:Addr) (hs:List Str),vs=[.ref p,.ref a]/\dh H p/\cU K H a hs/\∀(n:Int) H',bo p H H'->1<=n->n<=12->Q (.int n) H'
def lV(K:UJ):Sp:=λvs H Q _=>∃(p a:Addr) (hs:List Str) (m:Int),vs=[.ref p,.ref a,.int m]/\dh H p/\cU K H a hs/\0<=m/\m<=10/\∀t (ns:List Int) H',bo p H H'->H' t=some (.tup (ns.map V.int))->ns.length=m.toNat->(∀n∈ns,1<=n)->Q (.ref t) H'
def rS:Sp:=λvs H Q _=>∃(p:Addr),vs=[.ref p]/\dh H p/\∀x H',bo p H H'->Q (.str x) H'
theorem rC{m:Int}(h0:0<m)(h1:m<=1000):m.natAbs.log2<9000:=Ud (Nat.log2_le_self _) (by omega)
theorem jQ{j:Int}(h:0<=j)(h1:j<=1000):-(2 ^ 62)<=j/\j<2 ^ 62:=by
 have e:((2:Int) ^ 62)=4611686018427387904:=by decide
 rw [e]; omega
variable{P:Program}{w:World}{K:UJ}{mg:Str->Option Value}{base:Heap}
theorem DR(B2:iR mg)(F:FA K mg "_law_a_sort" xt)(G:bc bf P w K mg base 1 "_law_draw" ["_law_pot_here","_law_many_here"] dm) :
  bc bf P w K mg base 2 "_law_a_sort" ["_law_pot_here","_law_sort"] tH:=by
 refine F.ok Gm λf cdv A outer s H vs Q E hr h=>?_
 obtain⟨p,x,rfl,hP,q⟩:=h
 refine⟨_,aq (dv (aW aP (ax G hr (ae (pv 0) (ae ai ah))) ai) (av (bj K (aQ (ae ao (ae ao ah))) (ax G hr (ae (pv 0) (ae ai ah))))) b9)
  (av (bj K (aQ (ae ao (ae (pv 1) ah))) (aV cz rfl B2.int PyProof.Rows.boot_int (ae (bU mz (pv 1) ao) ah)))),?_⟩
 refine⟨_,rfl,p,_,rfl,hP,by decide,by decide,λe1 H1 g1 a1 b1=>⟨rfl,_,rfl,?_⟩⟩
 refine cH (λ_=>?_) (λ_=>?_)
 ·refine⟨cJ,λD hD=>?_⟩
  have g2:=g1.new (o:=.lst [.str "n",.str "w"]) hD
  refine⟨_,rfl,p,_,rfl,g2.cf,by decide,by decide,λe2 H2 g3 a2 b2=>?_⟩
  have hd:e2=0\/e2=1:=by omega
  have hk:=g3.keep D _ (g1.ne hD) ag
  rcases hd with z | z <;> subst z
  ·exact⟨D,_,_,_,rfl,rfl,a_.of hk,rfl,q _ _ (g2.trans g3)⟩
  ·exact⟨D,_,_,_,rfl,rfl,a_.of hk,rfl,q _ _ (g2.trans g3)⟩
 ·refine⟨_,rfl,cJ,λD hD=>?_⟩
  have g2:=g1.new (o:=.lst [.str "n",.str x]) hD
  refine⟨_,rfl,rfl,.inr ⟨_,rfl,?_⟩⟩
  have pR:∃z:Str,i6 [V.str "n",V.str x] (if(!decide (V.str x=V.str "t"))=true then 1 else 0)=some (.str z):=by
   cases(!decide (V.str x=V.str "t"))
   ·exact⟨_,rfl⟩
   ·exact⟨_,rfl⟩
  obtain⟨z,hz⟩:=pR
  exact⟨D,_,_,_,rfl,rfl,a_.of ag,hz,q z _ g2⟩
theorem A4(F:FA K mg "_law_cell" wo)(G:bc bf P w K mg base 2 "_law_a_sort" ["_law_pot_here","_law_sort"] tH)(G3:bc bf P w K mg base 2 "_law_word" ["_law_pot_here"] tM)(G2:bc bf P w K mg base 2 "_law_number" ["_law_pot_here"] pG) :
  bc bf P w K mg base 3 "_law_cell" ["_law_pot_here","_law_sort"] sE:=by
 refine F.ok EJ λf cdv A outer s H vs Q E hr h=>?_
 obtain⟨p,x,rfl,hP,q⟩:=h
 refine⟨_,aq (dv (aW aP (ax G hr (ae (pv 0) (ae (pv 1) ah))) ao) (av (ax G3 hr (ae (pv 0) ah))) b9)
  (av (ax G2 hr (ae (pv 0) ah))),?_⟩
 refine⟨_,rfl,_,rfl,p,x,rfl,hP,λy H1 g1=>⟨rfl,_,rfl,?_⟩⟩
 refine cH (λ_=>?_) (λ_=>?_)
 ·exact⟨_,rfl,p,rfl,g1.cf,λz H2 g2 n1=>q _ _ (g1.trans g2) (.inr ⟨z,rfl⟩)⟩
 ·exact⟨_,rfl,p,rfl,g1.cf,λn H2 g2 n1 n2=>q _ _ (g1.trans g2) (.inl ⟨n,rfl⟩)⟩
theorem zD(B:jJ mg)(F:FA K mg "_law_column" ub)(G:bc bf P w K mg base 1 "_law_draw" ["_law_pot_here","_law_many_here"] dm) :
  bc bf P w K mg base 2 "_law_column" ["_law_pot_here","_law_head"] (hZ K):=by
 refine F.ok DX λf cdv A outer s H vs Q E hr h=>?_
 obtain⟨p,a,hs,rfl,hP,hh,q⟩:=h
 refine⟨_,aq (dv (aW aP (ax G hr (ae (pv 0) (ae ai ah))) ai) (av (aF cV ai (ax G hr (ae (pv 0) (ae ai ah))))) b9)
  (av (aF cV ai (ax G hr (ae (pv 0) (ae (aZ bF rfl B.len PySem.boot_len (ae (pv 1) ah)) ah))))),?_⟩
 refine⟨_,rfl,p,_,rfl,hP,by decide,by decide,λe1 H1 g1 a1 b1=>⟨rfl,_,rfl,?_⟩⟩
 refine cH (λ_=>?_) (λ_=>?_)
 ·exact⟨_,rfl,p,_,rfl,g1.cf,by decide,by decide,λe2 H2 g2 a2 b2=>⟨_,_,rfl,rfl,q _ _ (g1.trans g2) (by omega) (by omega)⟩⟩
 ·have h1:=hh.grow hP g1
  have hl:(hs.map V.str).length=hs.length:=Ua _
  have:=hh.pos
  have:=hh.few
  exact⟨_,rfl,_,rfl,a,_,rfl,.inr (aH.of h1.tup),p,_,rfl,g1.cf,by omega,rC (by omega) (by omega),λe2 H2 g2 a2 b2=>⟨_,_,rfl,rfl,q _ _ (g1.trans g2) (by omega) (by omega)⟩⟩
theorem xU(B:jJ mg)(F:FA K mg "_law_columns" nQ)(G:bc bf P w K mg base 2 "_law_column" ["_law_pot_here","_law_head"] (hZ K)) :
  bc bf P w K mg base 3 "_law_columns" ["_law_pot_here","_law_head","_law_many_here"] (lV K):=by
 refine F.ok Az λf cdv A outer s H vs Q E hr h=>?_
 obtain⟨p,a,hs,m,rfl,hP,hh,m0,m1,q⟩:=h
 refine⟨_,bK (BK (aV bB rfl B.tuple PyProof.Rows.boot_tuple (ae (bw (N':=["_law_k","_law_pot_here","_law_head"]) (src:=[none,some 0,some 1]) rfl (ba.jE (by kernel_rfl)) (dk rfl B.range (ae (pv 2) ah)) (λcl C s H fp=>el (i:=0)) (λcl C s H fp=>aX)
   (λcl C s H fp=>ax (hg:=xP) G hr (ae (yl 1) (ae (yl 2) ah)))) ah))),?_⟩
 have g0:=bo.refl hP
 refine⟨_,rfl,m,rfl,(jQ m0 (by omega)).1,(jQ m0 (by omega)).2,λD hD=>?_⟩
 have nD:=g0.ne hD
 refine iF (n:=m.toNat) (λi σ ys H'=>(∃o,σ=[o,some (.ref p),some (.ref a)])/\(∃ns:List Int,ys=ns.map V.int/\ns.length=i/\∀n∈ns,1<=n)/\H' D=some (.lst ys)/\bo p H H')
  ⟨⟨none,rfl⟩,⟨[],rfl,rfl,by simp⟩,ag,g0.new hD⟩ ?_ ?_ ?_ ?_
 ·rintro i σ ys H' _ ⟨_,⟨ns,rfl,rfl,_⟩,h,_⟩
  exact⟨h,by rw [Ua]; exact T7 _⟩
 ·exact T8 (show m.toNat<=10 by omega) (by decide)
 ·rintro i σ ys H' hi ⟨⟨o,rfl⟩,⟨ns,rfl,rfl,hp⟩,h,g⟩
  exact⟨_,rfl,_,rfl,p,a,hs,rfl,g.cf,hh.grow hP g,λn H2 g2 n1 n2=>⟨g2.keep D _ nD h,⟨_,rfl⟩,⟨ns++[n],by rw [Uc]; rfl,by rw [Ub]; rfl,λk hk=>by rcases Us.mp hk with z | z; exact hp k z; rw [Uo.mp z]; exact n1⟩,ag,g0.put hD nD (g.trans g2)⟩⟩
 ·rintro σ ys H' ⟨_,⟨ns,rfl,hn,hp⟩,h,g⟩
  exact⟨D,_,rfl,.inl ⟨a_.of h,λt ht=>q t ns _ (g.new ht) ag hn hp⟩⟩
theorem BH(F:FA K mg "_law_state" xH)(G:bc bf P w K mg base 2 "_law_draw" ["_law_pot_here","_law_many_here"] dm)(G3:bc bf P w K mg base 2 "_law_word" ["_law_pot_here"] tM) :
  bc bf P w K mg base 3 "_law_state" ["_law_pot_here"] rS:=by
 refine F.ok Fq λf cdv A outer s H vs Q E hr h=>?_
 obtain⟨p,rfl,hP,q⟩:=h
 refine⟨_,aq (dv (aW aP (ax G hr (ae (pv 0) (ae ai ah))) ai) (av (ax G3 hr (ae (pv 0) ah))) b9)
  (av (bj K (aQ (ae ao (ae ao (ae ao ah)))) (ax G hr (ae (pv 0) (ae ai ah))))),?_⟩
 refine⟨_,rfl,p,_,rfl,hP,by decide,by decide,λe1 H1 g1 a1 b1=>⟨rfl,_,rfl,?_⟩⟩
 refine cH (λ_=>?_) (λ_=>?_)
 ·exact⟨_,rfl,p,rfl,g1.cf,λz H2 g2 n1=>q _ _ (g1.trans g2)⟩
 ·refine⟨gq,λD hD=>?_⟩
  have g2:=g1.new (o:=.lst [.str "s",.str "t",.str "u"]) hD
  refine⟨_,rfl,p,_,rfl,g2.cf,by decide,by decide,λe2 H2 g3 a2 b2=>?_⟩
  have hd:e2=0\/e2=1\/e2=2:=by omega
  have hk:=g3.keep D _ (g1.ne hD) ag
  rcases hd with z | z | z <;> subst z
  ·exact⟨D,_,_,_,rfl,rfl,a_.of hk,rfl,q _ _ (g2.trans g3)⟩
  ·exact⟨D,_,_,_,rfl,rfl,a_.of hk,rfl,q _ _ (g2.trans g3)⟩
  ·exact⟨D,_,_,_,rfl,rfl,a_.of hk,rfl,q _ _ (g2.trans g3)⟩
end My
namespace My
open PySem L2
theorem hX{p a:Addr}{H H':Hp}{xs:List V}(hP:dh H p)(g:bo p H H')(e:H a=some (.tup xs)):H' a=some (.tup xs):=g.keep _ _ (λz=>by obtain⟨x,y,e2,_⟩:=hP; rw [z,e2]at e; cases e) e
def aE(H H':Hp):Prop:=∀a xs,H a=some (.tup xs)->H' a=some (.tup xs)
theorem aE.of{H H':Hp}(s:aM H H'):aE H H':=λ_ _ e=>s _ _ e
theorem aE.grow{p:Addr}{H H':Hp}(hP:dh H p)(g:bo p H H'):aE H H':=λa xs e=>hX hP g e
abbrev Hd:=List Str
theorem bq{H H':Hp}{D:Addr}{o:HO}(hD:H D=none)(s:aM H H'):aM H (upd H' D o):=λb u e=>by
 rw [aI (aU e hD)]; exact s _ _ e
theorem take_one{α:Type}{ws:List α}{i:Nat}{w:α}(h:ws[i]? = some w):ws.take (i+1)=ws.take i++[w]:=by
 rw [List.take_add_one,h]; rfl
theorem aG{D:Ends}{σ:St}{H:Hp}(h:D.nx σ H):DE D σ H:=h
def sW:V->Str
 | .str _=>"w"
 | _=>"n"
def bt(hd:Hd)(c:Int):Str:=hd.getD (c-1).toNat ""
inductive W1 where
 | keep (c:Int) (t:Str)
 | same (c d:Int)
 | cut (cs:List Int)
 | turn (c:Int) (ps:List (V×V))
 | must (c:Int) (ps:List (V×V))
 | walk (c:Int) (mv:List V)
 | sort (cs:List Int)
 | apart
 | count (cs:List Int)
 | sum (cs:List Int) (c:Int)
 | number
 | first (n:Int)
inductive Wk where
 | one (x:W1)
 | both (p q:List Wk)
 | meet (c d:Int) (p q:List Wk)
def W1.nm:W1->Str
 | .keep ..=>"keep"
 | .same ..=>"same"
 | .cut ..=>"cut"
 | .turn ..=>"turn"
 | .must ..=>"must"
 | .walk ..=>"walk"
 | .sort ..=>"sort"
 | .apart=>"apart"
 | .count ..=>"count"
 | .sum ..=>"sum"
 | .number=>"number"
 | .first ..=>"first"
def Wk.nm:Wk->Str
 | .one x=>x.nm
 | .both ..=>"both"
 | .meet ..=>"meet"
structure bO{α:Type}(At:Hp->Addr->α->Prop)(H:Hp)(p:Addr)(bs:List Addr)(xs:List α):Prop where
 tup:H p=some (.tup (bs.map V.ref))
 len:bs.length=xs.length
 at_:∀(i:Nat) a x,bs[i]? = some a->xs[i]? = some x->At H a x
theorem bO.keep{α:Type}{At:Hp->Addr->α->Prop}{H H':Hp}{p:Addr}{bs:List Addr}{xs:List α}(k:aE H H')(kA:∀a x,At H a x->At H' a x)(h:bO At H p bs xs):bO At H' p bs xs:=⟨k _ _ h.tup,h.len,λi a x e1 e2=>kA _ _ (h.at_ i a x e1 e2)⟩
theorem bO.get{α:Type}{At:Hp->Addr->α->Prop}{H:Hp}{p:Addr}{bs:List Addr}{xs:List α}(h:bO At H p bs xs){i:Nat}{x:V}(hx:(bs.map V.ref)[i]? = some x):∃(a:Addr) (y:α),x=.ref a/\xs[i]? = some y/\At H a y:=by
 rw [Uy]at hx
 cases e:bs[i]? with
 | none=>rw [e]at hx; cases hx
 | some b =>
  rw [e]at hx
  have hx':V.ref b=x:=Uv hx
  subst hx'
  have hi:i<xs.length:=by rw [←h.len]; exact(Um.mp e).1
  have er:xs[i]? = some xs[i]:=Ug hi
  exact⟨b,xs[i],rfl,er,h.at_ i b _ e er⟩
abbrev j6(H:Hp)(a:Addr)(p:V×V):Prop:=H a=some (.tup [p.1,p.2])
def AK(H:Hp)(a:Addr)(v:V):Prop:=∃s t,H a=some (.tup [.str s,v,.str t])
def zL(H:Hp)(a:Addr)(c:Int):Prop:=∃b,H a=some (.tup [.int c,.bl b])
def jP(H:Hp)(a:Addr):W1->Prop
 | .keep c t=>∃s xs,H a=some (.tup [.str "keep",.int c,.ref s])/\H s=some (.tup (.str t::xs))
 | .same c d=>H a=some (.tup [.str "same",.int c,.int d])
 | .cut cs=>∃t,H a=some (.tup [.str "cut",.ref t])/\H t=some (.tup (cs.map V.int))
 | .turn c ps=>∃t bs,H a=some (.tup [.str "turn",.int c,.ref t])/\bO j6 H t bs ps
 | .must c ps=>∃t bs,H a=some (.tup [.str "must",.int c,.ref t])/\bO j6 H t bs ps
 | .walk c mv=>∃s t bs,H a=some (.tup [.str "walk",.int c,.str s,.ref t])/\bO AK H t bs mv
 | .sort cs=>∃t bs,H a=some (.tup [.str "sort",.ref t])/\bO zL H t bs cs
 | .apart=>H a=some (.tup [.str "apart"])
 | .count cs=>∃t,H a=some (.tup [.str "count",.ref t])/\H t=some (.tup (cs.map V.int))
 | .sum cs c=>∃t,H a=some (.tup [.str "sum",.ref t,.int c])/\H t=some (.tup (cs.map V.int))
 | .number=>H a=some (.tup [.str "number"])
 | .first n=>H a=some (.tup [.str "first",.int n])
theorem AK.keep{H H':Hp}(k:aE H H'){a:Addr}{v:V}(h:AK H a v):AK H' a v:=by
 obtain⟨s,t,h⟩:=h; exact⟨s,t,k _ _ h⟩
theorem zL.keep{H H':Hp}(k:aE H H'){a:Addr}{c:Int}(h:zL H a c):zL H' a c:=by
 obtain⟨b,h⟩:=h; exact⟨b,k _ _ h⟩
theorem jP.keep{H H':Hp}{a:Addr}{x:W1}(k:aE H H')(h:jP H a x):jP H' a x:=by
 cases x with
 | keep c t=>obtain⟨s,xs,h1,h2⟩:=h; exact⟨s,xs,k _ _ h1,k _ _ h2⟩
 | same c d=>exact k _ _ h
 | cut cs=>obtain⟨t,h1,h2⟩:=h; exact⟨t,k _ _ h1,k _ _ h2⟩
 | turn c ps=>obtain⟨t,bs,h1,h2⟩:=h; exact⟨t,bs,k _ _ h1,h2.keep k λ_ _ z=>k _ _ z⟩
 | must c ps=>obtain⟨t,bs,h1,h2⟩:=h; exact⟨t,bs,k _ _ h1,h2.keep k λ_ _ z=>k _ _ z⟩
 | walk c mv=>obtain⟨s,t,bs,h1,h2⟩:=h; exact⟨s,t,bs,k _ _ h1,h2.keep k λ_ _ z=>z.keep k⟩
 | sort cs=>obtain⟨t,bs,h1,h2⟩:=h; exact⟨t,bs,k _ _ h1,h2.keep k λ_ _ z=>z.keep k⟩
 | apart=>exact k _ _ h
 | count cs=>obtain⟨t,h1,h2⟩:=h; exact⟨t,k _ _ h1,k _ _ h2⟩
 | sum cs c=>obtain⟨t,h1,h2⟩:=h; exact⟨t,k _ _ h1,k _ _ h2⟩
 | number=>exact k _ _ h
 | first n=>exact k _ _ h
theorem jP.first{H:Hp}{a:Addr}{x:W1}(h:jP H a x):∃xs,H a=some (.tup (.str x.nm::xs)):=by
 cases x with
 | keep c t=>obtain⟨s,xs,h1,h2⟩:=h; exact⟨_,h1⟩
 | same c d=>exact⟨_,h⟩
 | cut cs=>obtain⟨t,h1,h2⟩:=h; exact⟨_,h1⟩
 | turn c ps=>obtain⟨t,bs,h1,h2⟩:=h; exact⟨_,h1⟩
 | must c ps=>obtain⟨t,bs,h1,h2⟩:=h; exact⟨_,h1⟩
 | walk c mv=>obtain⟨s,t,bs,h1,h2⟩:=h; exact⟨_,h1⟩
 | sort cs=>obtain⟨t,bs,h1,h2⟩:=h; exact⟨_,h1⟩
 | apart=>exact⟨_,h⟩
 | count cs=>obtain⟨t,h1,h2⟩:=h; exact⟨_,h1⟩
 | sum cs c=>obtain⟨t,h1,h2⟩:=h; exact⟨_,h1⟩
 | number=>exact⟨_,h⟩
 | first n=>exact⟨_,h⟩
def dj:Nat->Hp->Addr->Wk->Prop
 | _,H,a,.one x=>jP H a x
 | 0,_,_,_=>False
 | n+1,H,a,.both p q=>∃b c bs cs,H a=some (.tup [.str "both",.ref b,.ref c])/\bO (dj n) H b bs p/\bO (dj n) H c cs q
 | n+1,H,a,.meet c d p q=>∃b e bs es,H a=some (.tup [.str "meet",.int c,.int d,.ref b,.ref e])/\bO (dj n) H b bs p/\bO (dj n) H e es q
abbrev jf(n:Nat)(H:Hp)(p:Addr)(ws:List Wk):Prop:=∃bs,bO (dj n) H p bs ws
theorem dj.keep{H H':Hp}(k:aE H H'):∀{n:Nat} {a:Addr} {x:Wk},dj n H a x->dj n H' a x
 | 0,a,.one x,h=>jP.keep k h
 | n+1,a,.one x,h=>jP.keep k h
 | n+1,a,.both p q,h=>by
  obtain⟨b,c,bs,cs,h1,h2,h3⟩:=h
  exact⟨b,c,bs,cs,k _ _ h1,h2.keep k λ_ _ z=>z.keep k,h3.keep k λ_ _ z=>z.keep k⟩
 | n+1,a,.meet c d p q,h=>by
  obtain⟨b,e,bs,es,h1,h2,h3⟩:=h
  exact⟨b,e,bs,es,k _ _ h1,h2.keep k λ_ _ z=>z.keep k,h3.keep k λ_ _ z=>z.keep k⟩
theorem dj.first{H:Hp}:∀{n:Nat} {a:Addr} {x:Wk},dj n H a x->∃xs,H a=some (.tup (.str x.nm::xs))
 | 0,a,.one x,h=>jP.first h
 | n+1,a,.one x,h=>jP.first h
 | n+1,a,.both p q,h=>by obtain⟨b,c,bs,cs,h1,_⟩:=h; exact⟨_,h1⟩
 | n+1,a,.meet c d p q,h=>by obtain⟨b,e,bs,es,h1,_⟩:=h; exact⟨_,h1⟩
theorem jf.keep{n:Nat}{H H':Hp}{p:Addr}{ws:List Wk}(k:aE H H')(h:jf n H p ws):jf n H' p ws:=by
 obtain⟨bs,h⟩:=h
 exact⟨bs,h.keep k λ_ _ z=>z.keep k⟩
abbrev dQ(H:Hp)(a:Addr)(h:Hd):Prop:=H a=some (.tup (h.map V.str))
structure fW(H:Hp)(l:Addr)(as:List Addr)(hs:List Hd):Prop where
 lst:H l=some (.lst (as.map V.ref))
 len:as.length=hs.length
 at_:∀(i:Nat) a h,as[i]? = some a->hs[i]? = some h->dQ H a h
theorem fW.same{H H':Hp}{l:Addr}{as:List Addr}{hs:List Hd}(s:aM H H')(h:fW H l as hs):fW H' l as hs:=⟨s _ _ h.lst,h.len,λi a r e1 e2=>s _ _ (h.at_ i a r e1 e2)⟩
theorem fW.nth{H:Hp}{l:Addr}{as:List Addr}{hs:List Hd}{i:Nat}{h:Hd}(x:fW H l as hs)(e:hs[i]? = some h):∃a,(as.map V.ref)[i]? = some (.ref a)/\dQ H a h:=by
 have hi:i<as.length:=by rw [x.len]; exact(Um.mp e).1
 exact⟨as[i],by rw [Uy,Ug hi]; rfl,x.at_ i _ _ (Ug hi) e⟩
theorem dD{hd:List Str}{c:Int}(h:1<=c/\c<=hd.length):i6 (hd.map V.str) (c-1)=some (.str (bt hd c)):=by
 have hi:(c-1).toNat<hd.length:=by omega
 have e:(((c-1).toNat:Nat):Int)=c-1:=by omega
 have:=au (xs:=hd.map V.str) (j:=(c-1).toNat) (v:=.str (bt hd c)) (by
  rw [Uy,Ug hi]
  unfold bt
  rw [List.getD_eq_getElem?_getD,Ug hi]
  rfl)
 rw [e]at this
 exact this
def c7:W1->List Int
 | .keep c _=>[c]
 | .same c d=>[c,d]
 | .cut cs=>cs
 | .turn c _=>[c]
 | .must c _=>[c]
 | .walk c _=>[c]
 | .sort cs=>cs
 | .count cs=>cs
 | .sum cs c=>cs++[c]
 | _=>[]
def oY:W1->Prop
 | .cut cs=>cs.length<=1000
 | .sort cs=>cs.length<=1000
 | .count cs=>cs.length<=1000
 | .sum cs _=>cs.length<=1000
 | .turn _ ps=>ps.length<=1000
 | .must _ ps=>ps.length<=1000
 | .walk _ mv=>mv.length<=1000
 | _=>True
def Hx:W1->Prop
 | .turn _ ps=>∀p∈ps,dO p.1/\dO p.2
 | .must _ ps=>∀p∈ps,dO p.1/\dO p.2
 | .walk _ mv=>∀v∈mv,v=.non\/dO v
 | _=>True
def ne1:W1->Prop
 | .turn _ ps=>ps≠[]/\ps.length<=50
 | .must _ ps=>ps≠[]/\ps.length<=50
 | .walk _ mv=>mv.length<=50
 | .cut cs=>cs≠[]
 | _=>True
structure CU(x:W1):Prop where
 sm:oY x
 good:Hx x
 ne:ne1 x
 pos:∀c∈c7 x,1<=c
end My
namespace CS
open PySem L2
theorem uP{α:Type} [DecidableEq α]:∀{ms ns:List α},ms.Nodup->(∀m∈ms,m∈ns)->ms.length<=ns.length
 | [],_,_,_=>Uu _
 | m::ms,ns,nd,h=>by
  have PV:=List.nodup_cons.mp nd
  have hm:=h m UE
  have ih:=uP (ms:=ms) (ns:=ns.erase m) PV.2 λx hx=>(List.mem_erase_of_ne (λe=>PV.1 (by rw [←e]; exact hx))).mpr (h x (Uj _ hx))
  rw [List.length_erase_of_mem hm]at ih
  have:0<ns.length:=List.length_pos_of_mem hm
  rw [UG]
  omega
theorem sorted_strs{ns:List Str}{ys:List V}(h:lu (ns.map V.str) ys):∃ms:List Str,ys=ms.map V.str/\ms.Pairwise vW/\(∀n∈ms,n∈ns)/\ms.length<=ns.length:=by
 rcases h with⟨ss,ms,e1,e2,h1,h2⟩ | ⟨ns',ms,e1,e2,h1,h2⟩
 ·cases ns with
  | nil =>
   cases ss with
   | nil =>
    cases ms with
    | nil=>exact⟨[],e2,.nil,by simp,T7 _⟩
    | cons m ms=>exact absurd ((h2 m).mp UE) (by simp)
   | cons s ss=>cases e1
  | cons n ns =>
   cases ss with
   | nil=>cases e1
   | cons s ss=>simp at e1
 ·have:ns=ns':=by
   have:=congrArg (List.map λv=>match v with | V.str n=>n | _=>"") e1
   simpa [List.map_map,Function.comp_def] using this
  subst this
  exact⟨ms,e2,h1,λn hn=>(h2 n).mp hn,uP (Bh h1) λn hn=>(h2 n).mp hn⟩
end CS
namespace My
open PySem L2 CS
theorem ak{i:Nat}{v:V}{σ:St}{H:Hp}{k:St->Hp->Prop}(h:k (σ.set i (some v)) H):bz i v σ H k:=h
def Cn(K:UJ):Sp:=λvs H Q _=>∃(p:Addr) (s:Str),vs=[.ref p,.str s]/\dh H p/\∀(a:Addr) (t:Str) (xs:List V) H',bo p H H'->H' a=some (.tup (.str t::xs))->Q (.ref a) H'
theorem lK{K:UJ}{H:Hp}:∀ws:List Str,bD K H (ws.map D.str) (ws.map V.str)
 | []=>bD.nil
 | w::ws=>bD.cons (gx w) (lK ws)
variable{P:Program}{w:World}{K:UJ}{mg:Str->Option Value}{base:Heap}
theorem HP(B:jJ mg)(B2:iR mg)(F:FA K mg "_law_set" Jn)(GA:bc bf P w K mg base 2 "_law_a_sort" ["_law_pot_here","_law_sort"] tH)(G:bc bf P w K mg base 2 "_law_draw" ["_law_pot_here","_law_many_here"] dm)(G3:bc bf P w K mg base 2 "_law_word" ["_law_pot_here"] tM)(G2:bc bf P w K mg base 2 "_law_number" ["_law_pot_here"] pG) :
  bc bf P w K mg base 3 "_law_set" ["_law_pot_here","_law_sort"] (Cn K):=by
 refine F.ok BV λf cdv A outer s H vs Q E hr h=>?_
 obtain⟨p,x,rfl,hP,q⟩:=h
 refine⟨_,aq (dv (aW aP (ax GA hr (ae (pv 0) (ae (pv 1) ah))) ao)
   (av (aJ (ae ao (ae (bU aP (ax G hr (ae (pv 0) (ae ai ah))) ai) (ae (aV bB rfl B.tuple PyProof.Rows.boot_tuple (ae (j9 rfl rfl B2.sorted rfl B2.set
    (bw (N':=["_law_k","_law_pot_here"]) (src:=[none,some 0]) rfl (ba.jE (by kernel_rfl)) (dk rfl B.range (ae (ax G hr (ae (pv 0) (ae ai ah))) ah)) (λcl C s H fp=>el (i:=0)) (λcl C s H fp=>aX)
     (λcl C s H fp=>ax (hg:=xP) G3 hr (ae (yl 1) ah)))) ah)) ah))))) b9)
  (aq (aL (i:=2) BV.nd rfl (Or.inl rfl) (aZ (qO rfl) rfl B2.min PyProof.Rows.boot_min (ae (ax G2 hr (ae (pv 0) ah)) (ae (aF bJ (aF lH ai ai) ai) ah))))
  (aq (aL (i:=3) BV.nd rfl (Or.inl rfl) (aQ (ae (aJ ah) (ae (aJ (ae (aJ (ae iz (ae iz ah))) ah)) (ae (aJ (ae (aJ (ae (pv 2) (ae (aF cV (pv 2) (ax G hr (ae (pv 0) (ae ai ah)))) ah))) ah))
    (ae (aJ (ae (aJ (ae iz (ae (pv 2) ah))) ah)) (ae (aJ (ae (aJ (ae (pv 2) (ae iz ah))) ah)) ah)))))))
  (av (aJ (ae ao (ae (bj K (aF pk (pv 3) (aQ (ae (aJ (ae (aJ (ae (pv 2) (ae (pv 2) ah))) (ae (aJ (ae (aF cV (pv 2) ai) (ae (aF cV (pv 2) ai) ah))) ah))) ah))) (ax G hr (ae (pv 0) (ae ai ah)))) ah)))))),?_⟩
 refine⟨_,rfl,_,rfl,p,x,rfl,hP,λy H1 g1=>⟨rfl,_,rfl,?_⟩⟩
 refine cH (λ_=>?_) (λ_=>?_)
 ·refine⟨_,rfl,p,_,rfl,g1.cf,by decide,by decide,λe2 H2 g2 a2 b2=>⟨rfl,_,rfl,p,_,rfl,g2.cf,by decide,by decide,λj H3 g3 j0 j1=>?_⟩⟩
  have gg:=(g1.trans g2).trans g3
  refine⟨j,rfl,(jQ j0 (by omega)).1,(jQ j0 (by omega)).2,λDw hD=>?_⟩
  have nD:Dw≠p:=gg.ne hD
  refine iF (n:=j.toNat) (λi σ ys H'=>∃(o:Option V) (ns:List Str),σ=[o,some (.ref p)]/\ys=ns.map V.str/\ns.length=i/\H' Dw=some (.lst ys)/\bo p H H')
   ⟨none,[],rfl,rfl,rfl,ag,gg.new hD⟩ ?_ ?_ ?_ ?_
  ·rintro i σ ys H' _ ⟨o,ns,_,rfl,rfl,h,_⟩
   exact⟨h,by rw [Ua]; exact T7 _⟩
  ·exact T8 (show j.toNat<=40 by omega) (by decide)
  ·rintro i σ ys H' hi ⟨o,ns,rfl,rfl,rfl,h,g'⟩
   exact⟨_,rfl,p,rfl,g'.cf,λn H4 g4 n1=>⟨g4.keep Dw _ nD h,some (.int (0+(ns.length:Nat))),ns++[n],rfl,by rw [Uc]; rfl,by rw [Ub]; rfl,ag,gg.put hD nD (g'.trans g4)⟩⟩
  rintro qC Nt H4 ⟨o0,ns,_,rfl,hns,RA,g4⟩
  refine⟨Dw,_,rfl,.inl (a_.of RA),by rw [Ua]; omega,.inr ⟨ns,rfl⟩,λSA ys Tq hso=>?_⟩
  obtain⟨ms,rfl,hms,hsub,Pw⟩:=sorted_strs hso
  refine⟨SA,_,rfl,.inl ⟨a_.of ag,λt ht=>⟨gq,λa ha=>?_⟩⟩⟩
  have gf:=((g4.new (o:=.lst (ms.map V.str)) Tq).new (o:=.tup (ms.map V.str)) ht).new (o:=.tup [.str "w",.bl (decide (V.int e2=V.int 0)),.ref t]) ha
  exact q a "w" _ _ gf ag
 ·refine⟨_,rfl,p,rfl,g1.cf,λn H2 g2 n1 n2=>⟨_,_,rfl,rfl,⟨by decide,by decide,by decide⟩,_,_,rfl,rfl,_,_,rfl,?_⟩⟩
  have gg:=g1.trans g2
  generalize (if _<n then _ else n:Int)=low
  refine⟨Uu _,λt0 h0=>⟨cJ,λt1 h1=>⟨dP,λt2 h2=>?_⟩⟩⟩
  have k0:=gg.new (o:=.tup []) h0
  have k1:=k0.new (o:=.tup [.non,.non]) h1
  have k2:=k1.new (o:=.tup [.ref t1]) h2
  refine⟨_,rfl,_,rfl,_,rfl,p,_,rfl,k2.cf,by decide,by decide,λe3 H3 g3 a3 b3=>?_⟩
  have k3:=k2.trans g3
  refine⟨_,_,rfl,rfl,cJ,λt3 h3=>⟨dP,λt4 h4=>?_⟩⟩
  refine⟨_,rfl,cJ,λt5 h5=>⟨dP,λt6 h6=>?_⟩⟩
  refine⟨_,rfl,cJ,λt7 h7=>⟨dP,λt8 h8=>?_⟩⟩
  refine⟨r8,λL hL=>?_⟩
  have k5:=k3.new (o:=.tup [.int low,.int (low+e3)]) h3
  have k6:=k5.new (o:=.tup [.ref t3]) h4
  have k7:=k6.new (o:=.tup [.non,.int low]) h5
  have k8:=k7.new (o:=.tup [.ref t5]) h6
  have k9:=k8.new (o:=.tup [.int low,.non]) h7
  have k10:=k9.new (o:=.tup [.ref t7]) h8
  have k11:=k10.new (o:=.lst [.ref t0,.ref t2,.ref t4,.ref t6,.ref t8]) hL
  have nL:=k10.ne hL
  refine ak ?_
  dsimp only
  refine⟨_,rfl,_,rfl,_,rfl,cJ,λt9 h9=>?_⟩
  refine⟨_,rfl,_,_,rfl,rfl,_,rfl,_,_,rfl,rfl,cJ,λPx h10=>⟨cJ,λMW h11=>⟨dP,λL2 hL2=>?_⟩⟩⟩
  have k12:=k11.new (o:=.tup [.int low,.int low]) h9
  have k13:=k12.new (o:=.tup [.int (low+2),.int (low+5)]) h10
  have k14:=k13.new (o:=.tup [.ref t9,.ref Px]) h11
  have Qf:=k14.new (o:=.lst [.ref MW]) hL2
  have s12:=(aj h9 (.tup [.int low,.int low])).trans ((aj h10 (.tup [.int (low+2),.int (low+5)])).trans ((aj h11 (.tup [.ref t9,.ref Px])).trans (aj hL2 (.lst [.ref MW]))))
  refine⟨L,L2,_,_,rfl,rfl,s12 _ _ ag,ag,Mu,λL3 Kk=>?_⟩
  have Qq:=Qf.new (o:=.lst ([.ref t0,.ref t2,.ref t4,.ref t6,.ref t8]++[.ref MW])) Kk
  have SU:=Qf.ne Kk
  refine⟨_,rfl,p,_,rfl,Qq.cf,by decide,by decide,λe4 H4 g4 a4 b4=>?_⟩
  have Ts:=g4.keep L3 _ SU ag
  have pR:∃v,i6 ([V.ref t0,.ref t2,.ref t4,.ref t6,.ref t8]++[.ref MW]) e4=some v:=by
   have hd:e4=0\/e4=1\/e4=2\/e4=3\/e4=4\/e4=5:=by omega
   rcases hd with z | z | z | z | z | z <;> rw [z] <;> exact⟨_,rfl⟩
  obtain⟨v,hv⟩:=pR
  refine⟨L3,_,_,v,rfl,rfl,a_.of Ts,hv,cJ,λa ha=>?_⟩
  exact q a "n" _ _ ((Qq.trans g4).new ha) ag
theorem m_:ay ["_law_pot_here","_law_here","_law_there","_law_pairs_here","_law_k","_law_pair"] ["_law_pot_here","_law_here","_law_there"] (ar wj):=fs
theorem nu:ay ["_law_pot_here","_law_head","_law_order_here","_law_k","_law_column_here"] ["_law_pot_here","_law_head"] (ar w8):=fs
def yk:Sp:=λvs H Q _=>∃(p:Addr) (s1 s2:Str),vs=[.ref p,.str s1,.str s2]/\dh H p/\∀t bs (ps:List (V×V)) H',bo p H H'->bO j6 H' t bs ps->ps≠[]->ps.length<=8->(∀q∈ps,dO q.1/\dO q.2)->Q (.ref t) H'
def yr(K:UJ):Sp:=λvs H Q _=>∃(p a:Addr) (hs:List Str),vs=[.ref p,.ref a]/\cU K H a hs/\dh H p/\∀t bs (cs:List Int) H',bo p H H'->bO zL H' t bs cs->cs.length<=8->(∀c∈cs,1<=c)->Q (.ref t) H'
structure d9{α:Type}(At:Hp->Addr->α->Prop)(H:Hp)(bs:List Addr)(xs:List α):Prop where
 len:bs.length=xs.length
 at_:∀(i:Nat) a x,bs[i]? = some a->xs[i]? = some x->At H a x
theorem d9.nil{α:Type}{At:Hp->Addr->α->Prop}{H:Hp}:d9 At H [] []:=⟨rfl,λi a x e=>by cases e⟩
theorem d9.keep{α:Type}{At:Hp->Addr->α->Prop}{H H':Hp}{bs:List Addr}{xs:List α}(k:∀a x,At H a x->At H' a x)(h:d9 At H bs xs):d9 At H' bs xs:=⟨h.len,λi a x e1 e2=>k _ _ (h.at_ i a x e1 e2)⟩
theorem d9.snoc{α:Type}{At:Hp->Addr->α->Prop}{H:Hp}{bs:List Addr}{xs:List α}{b:Addr}{x:α}(h:d9 At H bs xs)(hx:At H b x):d9 At H (bs++[b]) (xs++[x]):=by
 refine⟨by rw [Ub,Ub,h.len]; rfl,λi a y e1 e2=>?_⟩
 by_cases hi:i<bs.length
 ·rw [Ux hi]at e1
  rw [Ux (by rw [←h.len]; exact hi)]at e2
  exact h.at_ i a y e1 e2
 ·have hi':i=bs.length:=by
   have:=(Um.mp e1).1
   rw [Ub]at this
   simp at this
   omega
  rw [hi',Uw (T7 _),Nat.sub_self]at e1
  rw [hi',h.len,Uw (T7 _),Nat.sub_self]at e2
  cases e1
  cases e2
  exact hx
theorem d9.get{α:Type}{At:Hp->Addr->α->Prop}{H:Hp}{bs:List Addr}{xs:List α}(h:d9 At H bs xs){i:Nat}{v:V}(hx:(bs.map V.ref)[i]? = some v):∃(a:Addr) (y:α),v=.ref a/\xs[i]? = some y/\At H a y:=by
 rw [Uy]at hx
 cases e:bs[i]? with
 | none=>rw [e]at hx; cases hx
 | some b =>
  rw [e]at hx
  have hx':V.ref b=v:=Uv hx
  subst hx'
  have hi:i<xs.length:=by rw [←h.len]; exact(Um.mp e).1
  have er:xs[i]? = some xs[i]:=Ug hi
  exact⟨b,xs[i],rfl,er,h.at_ i b _ e er⟩
theorem r_{v:V}(h:dO v):fo v=true:=by rcases h with⟨n,rfl⟩ | ⟨x,rfl⟩ <;> rfl
theorem DD(B:jJ mg)(B2:iR mg)(F:FA K mg "_law_pairs" wj)(G:bc bf P w K mg base 3 "_law_draw" ["_law_pot_here","_law_many_here"] dm)(G2:bc bf P w K mg base 3 "_law_cell" ["_law_pot_here","_law_sort"] sE) :
  bc bf P w K mg base 4 "_law_pairs" ["_law_pot_here","_law_here","_law_there"] yk:=by
 refine F.ok m_ λf cdv A outer s H vs Q E hr h=>?_
 obtain⟨p,s1,s2,rfl,hP,q⟩:=h
 refine⟨_,aq (aL (i:=3) m_.nd rfl (Or.inl rfl) (aQ ah))
  (aq (gF PassesOwn.never rfl (dk rfl B.range (ae (bj K (aQ (ae (aF cV ai (ax G hr (ae (pv 0) (ae ai ah)))) (ae ai ah))) (aV cz rfl B2.int PyProof.Rows.boot_int (ae (bU aP (ax G hr (ae (pv 0) (ae ai ah))) ai) ah))) ah)) (bT (i:=4) m_.nd rfl (Or.inl rfl))
   (aq (aL (i:=5) m_.nd rfl (Or.inl rfl) (aJ (ae (ax G2 hr (ae (pv 0) (ae (pv 1) ah))) (ae (ax G2 hr (ae (pv 0) (ae (pv 2) ah))) ah))))
   (bK (dv (dc iH (J7 (pv 5) ai (λ_ _=>rfl)) (bw (N':=["_law_a","_law_b"]) (src:=[none,none]) rfl (ba.jE (by kernel_rfl)) (fh (pv 3))
     (g:=iu K 2 (bP (bz 0) (bP (bz 1) iJ))) (λcl C s H fp=>cB rfl (aA (el (i:=0)) (aA (el (i:=1)) bS))) (λcl C s H fp=>aX) (λcl C s H fp=>iX 0)) rfl)
    (bK (fG (ll PySem.F.plainAttrs_list PySem.F.slot_list_append PySem.F.type_list_append cX (pv 3) (ae (pv 5) ah)))) b9))))
  (av (aV bB rfl B.tuple PyProof.Rows.boot_tuple (ae (pv 3) ah)))),?_⟩
 have g0:=bo.refl hP
 refine⟨Uu _,λL hL=>?_⟩
 have nL:=g0.ne hL
 have gL:=g0.new (o:=.lst []) hL
 refine⟨_,rfl,p,_,rfl,gL.cf,by decide,by decide,λe1 H1 g1 a1 b1=>⟨_,_,rfl,rfl,cJ,λR hR=>?_⟩⟩
 have k1:=gL.trans g1
 have k2:=k1.new (o:=.lst [.int (1+e1),.int 8]) hR
 refine⟨_,rfl,p,_,rfl,k2.cf,by decide,by decide,λe2 H2 g2 a2 b2=>⟨rfl,.inr ⟨_,rfl,?_⟩⟩⟩
 have k3:=k2.trans g2
 have pR:∃m:Int,i6 [V.int (1+e1),V.int 8] (if decide (V.int e2=V.int 8)=true then 1 else 0)=some (.int m)/\1<=m/\m<=8:=by
  cases decide (V.int e2=V.int 8)
  ·exact⟨_,rfl,by omega,by omega⟩
  ·exact⟨_,rfl,by decide,by decide⟩
 obtain⟨m,hm,m0,m1⟩:=pR
 refine⟨R,_,_,_,rfl,rfl,a_.of (g2.keep R _ (k1.ne hR) ag),hm,m,rfl,(jQ (by omega) (by omega)).1,(jQ (by omega) (by omega)).2,?_⟩
 have Kk:=g2.keep L _ nL ((aj hR (.lst [.int (1+e1),.int 8])) _ _ (g1.keep L _ nL ag))
 refine fH (n:=m.toNat) (λi σ H'=>(∃o4 o5,σ=[some (.ref p),some (.str s1),some (.str s2),some (.ref L),o4,o5])/\(∃(bs:List Addr) (ps:List (V×V)),H' L=some (.lst (bs.map V.ref))/\ps.length<=i/\d9 j6 H' bs ps/\(∀q∈ps,dO q.1/\dO q.2)/\(1<=i->ps≠[]))/\bo p H H')
  ⟨⟨none,none,rfl⟩,⟨[],[],Kk,T7 _,d9.nil,by simp,λz=>absurd z (by decide)⟩,k3⟩ ?_ ?_
 ·rintro i σ H' hi ⟨⟨o4,o5,rfl⟩,⟨bs,ps,hv,hl,hp,hcl,hne⟩,g⟩
  refine⟨_,rfl,_,rfl,p,s1,rfl,g.cf,λx H4 g4 cx=>?_⟩
  refine⟨_,rfl,_,rfl,p,s2,rfl,g4.cf,λy H5 g5 cy=>⟨cJ,λT hT=>?_⟩⟩
  have sT:=aj hT (.tup [x,y])
  have Kb:=g4.trans g5
  have gT:=(g.trans Kb).new (o:=.tup [x,y]) hT
  have AY:=sT _ _ (Kb.keep L _ nL hv)
  have JU:d9 j6 (upd H5 T (.tup [x,y])) bs ps:=hp.keep λ_ _ e=>sT _ _ (hX g.cf Kb e)
  have hlb:(bs.map V.ref).length=ps.length:=by rw [Ua,hp.len]
  refine⟨_,rfl,T,_,_,_,rfl,rfl,aH.of ag,rfl,?_⟩
  refine⟨_,rfl,L,rfl,⟨_,a_.of AY⟩,λDc F_=>?_⟩
  refine dG (xs:=bs.map V.ref) (λi σ ys H'=>(∃o o',σ=[o,o'])/\ys.length=i/\ys.all fo=true/\H' Dc=some (.lst ys)/\aM (upd H5 T (.tup [x,y])) H')
   ⟨⟨none,none,rfl⟩,rfl,rfl,ag,aj F_ _⟩ ?_ ?_ ?_ ?_ ?_
  ·rintro i σ ys H' _ ⟨_,hl,_,h,_⟩
   exact⟨h,Nat.le_of_eq hl⟩
  ·rintro i σ ys H' _ ⟨_,_,_,_,sm⟩
   exact a_.of (sm _ _ AY)
  ·rw [hlb]; exact T8 (show ps.length<=1000 by omega) (by decide)
  ·rintro i v σ ys H' hv ⟨⟨o,o',rfl⟩,hl,hf,h,sm⟩
   obtain⟨t,q',rfl,eq',ht⟩:=JU.get hv
   have fx:=r_ (hcl q' (Ui eq')).1
   refine⟨t,_,rfl,aH.of (sm _ _ ht),rfl,_,_,rfl,_,_,rfl,rfl,_,rfl,h,⟨_,_,rfl⟩,by rw [Ub,hl]; rfl,?_,ag,λb u eb=>?_⟩
   ·rw [List.all_append,hf]; simp [fx]
   ·by_cases hb:b=Dc
    ·subst hb; exact absurd eb (by rw [F_]; simp)
    ·rw [aI hb]; exact sm _ _ eb
  ·rintro σ ys H6 ⟨_,hyl,hf,h,sm⟩
   refine⟨Dc,_,rfl,.inl (a_.of h),r_ cx,hf,_,rfl,?_⟩
   have gS:=gT.trans (bo.same gT.cf sm)
   refine cH (λ_=>?_) (λc=>?_)
   ·refine⟨_,rfl,.inl ⟨rfl,_,a_.of (sm _ _ AY)⟩,_,rfl,L,_,_,rfl,rfl,sm _ _ AY,by rw [hlb]; exact Ud (show ps.length<=1000 by omega) (by decide),?_⟩
    have kk:∀a xs,upd H5 T (.tup [x,y]) a=some (.tup xs)->upd H6 L (.lst (bs.map V.ref++[.ref T])) a=some (.tup xs):=λa xs e=>by
     rw [aI (λz=>by rw [z,AY]at e; cases e)]; exact sm _ _ e
    refine⟨⟨_,_,rfl⟩,⟨bs++[T],ps++[(x,y)],by rw [ag,Uc]; rfl,by rw [Ub]; exact Nat.add_le_add_right hl 1,(JU.keep λ_ _ e=>kk _ _ e).snoc (kk _ _ ag),λq' hq'=>?_,λ_=>by simp⟩,g0.put hL nL gS⟩
    rcases Us.mp hq' with z | z
    ·exact hcl q' z
    ·rw [Uo.mp z]; exact⟨cx,cy⟩
   ·refine⟨⟨_,_,rfl⟩,⟨bs,ps,sm _ _ AY,Nat.le_succ_of_le hl,JU.keep λ_ _ e=>sm _ _ e,hcl,λ_=>?_⟩,gS⟩
    rintro rfl
    have:ys=[]:=List.eq_nil_of_length_eq_zero (by rw [hyl,hlb]; rfl)
    subst this
    exact c rfl
 ·rintro σ H' ⟨⟨o4,o5,rfl⟩,⟨bs,ps,hv,hl,hp,hcl,hne⟩,g⟩
  refine⟨_,rfl,L,_,rfl,.inl ⟨a_.of hv,λt ht=>?_⟩⟩
  have st:=aj ht (.tup (bs.map V.ref))
  exact q t bs ps _ (g.new ht) ⟨ag,hp.len,λi a x e1 e2=>st _ _ (hp.at_ i a x e1 e2)⟩ (hne (by omega)) (by omega) hcl
theorem d9.cons{α:Type}{At:Hp->Addr->α->Prop}{H:Hp}{bs:List Addr}{xs:List α}{b:Addr}{x:α}(hx:At H b x)(h:d9 At H bs xs):d9 At H (b::bs) (x::xs) :=
 ⟨by rw [UG,UG,h.len],λi a y e1 e2=>by
  cases i with
  | zero=>cases e1; cases e2; exact hx
  | succ i=>exact h.at_ i a y e1 e2⟩
def Kf(H:Hp)(v:V):Prop:=∃t n b,v=.ref t/\H t=some (.tup [.int n,.bl b])/\1<=n
theorem Kf.keep{H H':Hp}{v:V}(k:∀a xs,H a=some (.tup xs)->H' a=some (.tup xs))(h:Kf H v):Kf H' v:=by
 obtain⟨t,x,y,e,h1,h2⟩:=h
 exact⟨t,x,y,e,k _ _ h1,h2⟩
theorem rB{H:Hp}:∀{vs:List V},(∀v∈vs,Kf H v)->∃(bs:List Addr) (cs:List Int),vs=bs.map V.ref/\d9 zL H bs cs/\∀c∈cs,1<=c
 | [],_=>⟨[],[],rfl,d9.nil,by simp⟩
 | v::vs,h=>by
  obtain⟨bs,cs,rfl,h1,h2⟩:=rB (vs:=vs) λw hw=>h w (Uj _ hw)
  obtain⟨t,n,b,rfl,ht,hn⟩:=h v (UE ..)
  refine⟨t::bs,n::cs,rfl,h1.cons ⟨b,ht⟩,λc hc=>?_⟩
  rcases Uq.mp hc with rfl | z
  ·exact hn
  ·exact h2 c z
theorem DF(B:jJ mg)(F:FA K mg "_law_order" w8)(G:bc bf P w K mg base 2 "_law_draw" ["_law_pot_here","_law_many_here"] dm)(G2:bc bf P w K mg base 2 "_law_column" ["_law_pot_here","_law_head"] (hZ K)) :
  bc bf P w K mg base 3 "_law_order" ["_law_pot_here","_law_head"] (yr K):=by
 refine F.ok nu λf cdv A outer s H vs Q E hr h=>?_
 obtain⟨p,a,hs,rfl,hh,hP,q⟩:=h
 refine⟨_,aq (aL (i:=2) nu.nd rfl (Or.inl rfl) (aQ ah))
  (aq (gF PassesOwn.never rfl (dk rfl B.range (ae (aF cV ai (ax G hr (ae (pv 0) (ae ai ah)))) ah)) (bT (i:=3) nu.nd rfl (Or.inl rfl))
   (aq (aL (i:=4) nu.nd rfl (Or.inl rfl) (ax G2 hr (ae (pv 0) (ae (pv 1) ah))))
   (bK (dv (dc iH (pv 4) (bw (N':=["_law_other_here","_law_is_falling"]) (src:=[none,none]) rfl (ba.jE (by kernel_rfl)) (fh (pv 2))
     (g:=iu K 2 (bP (bz 0) (bP (bz 1) iJ))) (λcl C s H fp=>cB rfl (aA (el (i:=0)) (aA (el (i:=1)) bS))) (λcl C s H fp=>aX) (λcl C s H fp=>iX 0)) rfl)
    (bK (fG (ll PySem.F.plainAttrs_list PySem.F.slot_list_append PySem.F.type_list_append cX (pv 2) (ae (aJ (ae (pv 4) (ae (bU aP (ax G hr (ae (pv 0) (ae ai ah))) ai) ah))) ah)))) b9))))
  (av (aV bB rfl B.tuple PyProof.Rows.boot_tuple (ae (pv 2) ah)))),?_⟩
 have g0:=bo.refl hP
 refine⟨Uu _,λL hL=>?_⟩
 have nL:=g0.ne hL
 have gL:=g0.new (o:=.lst []) hL
 refine⟨_,rfl,p,_,rfl,gL.cf,by decide,by decide,λe1 H1 g1 a1 b1=>⟨_,_,rfl,rfl,1+e1,rfl,(jQ (by omega) (by omega)).1,(jQ (by omega) (by omega)).2,?_⟩⟩
 have k1:=gL.trans g1
 have hL1:=g1.keep L _ nL ag
 refine fH (n:=(1+e1).toNat) (λi σ H'=>(∃o4 o5,σ=[some (.ref p),some (.ref a),some (.ref L),o4,o5])/\(∃vs,H' L=some (.lst vs)/\vs.length<=i/\∀v∈vs,Kf H' v)/\bo p H H')
  ⟨⟨none,none,rfl⟩,⟨[],hL1,T7 _,by simp⟩,k1⟩ ?_ ?_
 ·rintro i σ H' hi ⟨⟨o4,o5,rfl⟩,⟨vs,hv,hl,hp⟩,g⟩
  refine⟨_,rfl,_,rfl,p,a,hs,rfl,g.cf,hh.grow hP g,λn H5 g5 n1 n2=>?_⟩
  refine ak ?_
  dsimp only
  have AY:=g5.keep L _ nL hv
  have JU:∀v∈vs,Kf H5 v:=λv h=>(hp v h).keep λa xs e=>hX g.cf g5 e
  refine⟨_,rfl,_,rfl,L,rfl,⟨_,a_.of AY⟩,λDc F_=>?_⟩
  refine dG (xs:=vs) (λi σ ys H'=>(∃o o',σ=[o,o'])/\ys.length<=i/\ys.all fo=true/\H' Dc=some (.lst ys)/\aM H5 H')
   ⟨⟨none,none,rfl⟩,T7 _,rfl,ag,aj F_ _⟩ ?_ ?_ ?_ ?_ ?_
  ·rintro i σ ys H' _ ⟨_,hl,_,h,_⟩
   exact⟨h,hl⟩
  ·rintro i σ ys H' _ ⟨_,_,_,_,sm⟩
   exact a_.of (sm _ _ AY)
  ·exact T8 (show vs.length<=1000 by omega) (by decide)
  ·rintro i v σ ys H' hv ⟨⟨o,o',rfl⟩,hl,hf,h,sm⟩
   obtain⟨t,x',y',rfl,ht,_⟩:=JU v (Ui hv)
   refine⟨t,_,rfl,aH.of (sm _ _ ht),rfl,_,_,rfl,_,_,rfl,rfl,_,rfl,h,⟨_,_,rfl⟩,by rw [Ub]; exact Nat.add_le_add_right hl 1,?_,ag,λb u eb=>?_⟩
   ·rw [List.all_append,hf]; rfl
   ·by_cases hb:b=Dc
    ·subst hb; exact absurd eb (by rw [F_]; simp)
    ·rw [aI hb]; exact sm _ _ eb
  ·rintro σ ys H6 ⟨_,_,hf,h,sm⟩
   refine⟨Dc,_,rfl,.inl (a_.of h),rfl,hf,_,rfl,?_⟩
   have P1:=g.trans g5
   have gS:=P1.trans (bo.same P1.cf sm)
   refine cH (λ_=>?_) (λ_=>?_)
   ·refine⟨_,rfl,.inl ⟨rfl,_,a_.of (sm _ _ AY)⟩,_,rfl,_,rfl,p,_,rfl,gS.cf,by decide,by decide,λe7 H7 g7 a7 b7=>⟨rfl,cJ,λT hT=>?_⟩⟩
    have sT:=aj hT (.tup [.int n,.bl (decide (V.int e7=V.int 0))])
    have Fv:=sT _ _ (g7.keep L _ nL (sm _ _ AY))
    refine⟨L,_,_,rfl,rfl,Fv,Ud (show vs.length<=1000 by omega) (by decide),?_⟩
    refine⟨⟨_,_,rfl⟩,⟨vs++[.ref T],ag,by rw [Ub]; exact Nat.add_le_add_right hl 1,λv hv=>?_⟩,g0.put hL nL ((gS.trans g7).new hT)⟩
    have kk:∀a xs,upd H7 T (.tup [.int n,.bl (decide (V.int e7=V.int 0))]) a=some (.tup xs)->upd (upd H7 T (.tup [.int n,.bl (decide (V.int e7=V.int 0))])) L (.lst (vs++[.ref T])) a=some (.tup xs):=λa xs e=>by
     rw [aI (λz=>by rw [z,Fv]at e; cases e)]; exact e
    rcases Us.mp hv with z | z
    ·exact(JU v z).keep λa xs e=>kk _ _ (sT _ _ (hX gS.cf g7 (sm _ _ e)))
    ·rw [Uo.mp z]; exact⟨T,n,_,rfl,kk _ _ ag,n1⟩
   ·exact⟨⟨_,_,rfl⟩,⟨vs,sm _ _ AY,Nat.le_succ_of_le hl,λv hv=>(JU v hv).keep λa xs e=>sm _ _ e⟩,gS⟩
 ·rintro σ H' ⟨⟨o4,o5,rfl⟩,⟨vs,hv,hl,hp⟩,g⟩
  refine⟨_,rfl,L,_,rfl,.inl ⟨a_.of hv,λt ht=>?_⟩⟩
  have st:=aj ht (.tup vs)
  obtain⟨bs,cs,rfl,h1,h2⟩:=rB hp
  exact q t bs cs _ (g.new ht) ⟨ag,h1.len,λi a x e1 e2=>by obtain⟨b,hb⟩:=h1.at_ i a x e1 e2; exact⟨b,st _ _ hb⟩⟩ (by rw [←h1.len]; rw [Ua]at hl; omega) h2
theorem mY:ay ["_law_pot_here","_law_sort","_law_moves_here","_law_k","_law_move"] ["_law_pot_here","_law_sort"] (ar tL):=fs
def yy:Sp:=λvs H Q _=>∃(p:Addr) (s1:Str),vs=[.ref p,.str s1]/\dh H p/\∀t bs (mv:List V) H',bo p H H'->bO AK H' t bs mv->mv.length<=16->(∀v∈mv,v=.non\/dO v)->Q (.ref t) H'
def uu(H:Hp)(v:V):Prop:=∃t x y,v=.ref t/\H t=some (.tup [x,y])/\fo x=true/\fo y=true
theorem uu.keep{H H':Hp}{v:V}(k:∀a xs,H a=some (.tup xs)->H' a=some (.tup xs))(h:uu H v):uu H' v:=by
 obtain⟨t,x,y,e,h1,h2,h3⟩:=h
 exact⟨t,x,y,e,k _ _ h1,h2,h3⟩
def Kg:V->D
 | .int i=>.int i
 | .str x=>.str x
 | .bl b=>.bl b
 | _=>.non
theorem ow{K:UJ}{H:Hp}{v:V}(h:fo v=true):aY K H (Kg v) v:=by
 cases v <;> first | (first | exact yo _ | exact gx _ | exact IY _ | exact EH) | (simp [fo]at h)
def nU(H:Hp)(v:V):Prop:=∃t x y z,v=.ref t/\H t=some (.tup [.str x,y,.str z])/\(y=.non\/dO y)
theorem nU.keep{H H':Hp}{v:V}(k:∀a xs,H a=some (.tup xs)->H' a=some (.tup xs))(h:nU H v):nU H' v:=by
 obtain⟨t,x,y,z,e,h1,h2⟩:=h
 exact⟨t,x,y,z,e,k _ _ h1,h2⟩
theorem ma{H:Hp}:∀{vs:List V},(∀v∈vs,nU H v)->∃(bs:List Addr) (mv:List V),vs=bs.map V.ref/\d9 AK H bs mv/\∀c∈mv,c=.non\/dO c
 | [],_=>⟨[],[],rfl,d9.nil,by simp⟩
 | v::vs,h=>by
  obtain⟨bs,cs,rfl,h1,h2⟩:=ma (vs:=vs) λw hw=>h w (Uj _ hw)
  obtain⟨t,x,y,z,rfl,ht,hn⟩:=h v (UE ..)
  refine⟨t::bs,y::cs,rfl,h1.cons ⟨x,z,ht⟩,λc hc=>?_⟩
  rcases Uq.mp hc with rfl | z
  ·exact hn
  ·exact h2 c z
theorem uL{y:V}(h:y=.non\/dO y):fo y=true:=by
 rcases h with rfl | h
 ·rfl
 ·exact r_ h
theorem zm(v:V):(Kg v).depth=0:=by cases v <;> simp [Kg,D.depth]
theorem ot{K:UJ}{H:Hp}:∀{vs:List V},(∀v∈vs,uu H v)->∃ds,bD K H ds vs/\cw ds<=1
 | [],_=>⟨[],bD.nil,by simp [cw]⟩
 | v::vs,h=>by
  obtain⟨ds,h1,h2⟩:=ot (K:=K) (vs:=vs) λw hw=>h w (Uj _ hw)
  obtain⟨t,x,y,rfl,ht,fx,fy⟩:=h v (UE ..)
  refine⟨.tup [Kg x,Kg y]::ds,bD.cons (iE ht (bD.cons (ow fx) (bD.cons (ow fy) bD.nil))) h1,?_⟩
  simp only [cw,D.depth,zm]; omega
theorem Dt(B:jJ mg)(B2:iR mg)(F:FA K mg "_law_moves" tL)(G:bc bf P w K mg base 3 "_law_draw" ["_law_pot_here","_law_many_here"] dm)(G3:bc bf P w K mg base 3 "_law_state" ["_law_pot_here"] rS)(G2:bc bf P w K mg base 3 "_law_cell" ["_law_pot_here","_law_sort"] sE) :
  bc bf P w K mg base 4 "_law_moves" ["_law_pot_here","_law_sort"] yy:=by
 refine F.ok mY λf cdv A outer s H vs Q E hr h=>?_
 obtain⟨p,s1,rfl,hP,q⟩:=h
 have hu:(A.deeper (PyProof.Rows.envOfC "_law_moves" (ar tL) s.heap.objs.size f cdv)).units+1+1<cLine:=by have:=hr.units; omega
 refine⟨_,aq (aL (i:=2) mY.nd rfl (Or.inl rfl) (aQ ah))
  (aq (gF PassesOwn.never rfl (dk rfl B.range (ae (bj K (aQ (ae (ax G hr (ae (pv 0) (ae ai ah))) (ae ai ah))) (aV cz rfl B2.int PyProof.Rows.boot_int (ae (bU aP (ax G hr (ae (pv 0) (ae ai ah))) ai) ah))) ah)) (bT (i:=3) mY.nd rfl (Or.inl rfl))
   (aq (aL (i:=4) mY.nd rfl (Or.inl rfl) (aJ (ae (ax G3 hr (ae (pv 0) ah)) (ae (bj K (aQ (ae (ax G2 hr (ae (pv 0) (ae (pv 1) ah))) (ae iz ah))) (aV cz rfl B2.int PyProof.Rows.boot_int (ae (bU aP (ax G hr (ae (pv 0) (ae ai ah))) ai) ah))) (ae (ax G3 hr (ae (pv 0) ah)) ah)))))
   (bK (dv (dc rA (cu DN (pv 4) dy (cA ai)) (bw (N':=["_law_state_here","_law_cell_here","_law_after"]) (src:=[none,none,none]) rfl (ba.jE (by kernel_rfl)) (fh (pv 2))
     (g:=iu K 3 (bP (bz 0) (bP (bz 1) (bP (bz 2) iJ)))) (λcl C s H fp=>cB rfl (aA (el (i:=0)) (aA (el (i:=1)) (aA (el (i:=2)) bS)))) (λcl C s H fp=>aX) (λcl C s H fp=>aJ (ae (iX 0) (ae (iX 1) ah)))) rfl)
    (bK (fG (ll PySem.F.plainAttrs_list PySem.F.slot_list_append PySem.F.type_list_append cX (pv 2) (ae (pv 4) ah)))) b9))))
  (av (aV bB rfl B.tuple PyProof.Rows.boot_tuple (ae (pv 2) ah)))),?_⟩
 have g0:=bo.refl hP
 refine⟨Uu _,λL hL=>?_⟩
 have nL:=g0.ne hL
 have gL:=g0.new (o:=.lst []) hL
 refine⟨_,rfl,p,_,rfl,gL.cf,by decide,by decide,λe1 H1 g1 a1 b1=>⟨cJ,λR hR=>?_⟩⟩
 have k1:=gL.trans g1
 have k2:=k1.new (o:=.lst [.int e1,.int 16]) hR
 refine⟨_,rfl,p,_,rfl,k2.cf,by decide,by decide,λe2 H2 g2 a2 b2=>⟨rfl,.inr ⟨_,rfl,?_⟩⟩⟩
 have k3:=k2.trans g2
 have pR:∃m:Int,i6 [V.int e1,V.int 16] (if decide (V.int e2=V.int 8)=true then 1 else 0)=some (.int m)/\0<=m/\m<=16:=by
  cases decide (V.int e2=V.int 8)
  ·exact⟨_,rfl,by omega,by omega⟩
  ·exact⟨_,rfl,by decide,by decide⟩
 obtain⟨m,hm,m0,m1⟩:=pR
 refine⟨R,_,_,_,rfl,rfl,a_.of (g2.keep R _ (k1.ne hR) ag),hm,m,rfl,(jQ m0 (by omega)).1,(jQ m0 (by omega)).2,?_⟩
 have Kk:=g2.keep L _ nL ((aj hR (.lst [.int e1,.int 16])) _ _ (g1.keep L _ nL ag))
 refine fH (n:=m.toNat) (λi σ H'=>(∃o4 o5,σ=[some (.ref p),some (.str s1),some (.ref L),o4,o5])/\(∃vs,H' L=some (.lst vs)/\vs.length<=i/\∀v∈vs,nU H' v)/\bo p H H')
  ⟨⟨none,none,rfl⟩,⟨[],Kk,T7 _,by simp⟩,k3⟩ ?_ ?_
 ·rintro i σ H' hi ⟨⟨o4,o5,rfl⟩,⟨vs,hv,hl,hp⟩,g⟩
  refine⟨_,rfl,p,rfl,g.cf,λx H3 g3=>?_⟩
  refine⟨_,rfl,_,rfl,p,s1,rfl,g3.cf,λy H4 g4 cy=>⟨cJ,λR2 yE=>?_⟩⟩
  have l1:=(g3.trans g4).new (o:=.lst [y,.non]) yE
  refine⟨_,rfl,p,_,rfl,l1.cf,by decide,by decide,λe5 H5 g5 a5 b5=>⟨rfl,.inr ⟨_,rfl,?_⟩⟩⟩
  have Dq:∃y2:V,i6 [y,V.non] (if decide (V.int e5=V.int 0)=true then 1 else 0)=some y2/\(y2=.non\/dO y2):=by
   cases decide (V.int e5=V.int 0)
   ·exact⟨_,rfl,.inr cy⟩
   ·exact⟨_,rfl,.inl rfl⟩
  obtain⟨y2,hy2,P8⟩:=Dq
  have S5:=uL P8
  refine⟨R2,_,_,_,rfl,rfl,a_.of (g5.keep R2 _ ((g3.trans g4).ne yE) ag),hy2,?_⟩
  have l2:=l1.trans g5
  refine⟨_,rfl,p,rfl,l2.cf,λz H6 g6=>⟨gq,λT hT=>?_⟩⟩
  have l3:=l2.trans g6
  have sT:=aj hT (.tup [.str x,y2,.str z])
  have QS:=sT _ _ (l3.keep L _ nL hv)
  have SW:∀v∈vs,nU (upd H6 T (.tup [.str x,y2,.str z])) v:=λv h=>(hp v h).keep λa xs e=>sT _ _ (hX g.cf l3 e)
  have gT:=(g.trans l3).new (o:=.tup [.str x,y2,.str z]) hT
  refine ak ?_
  dsimp only
  refine⟨_,rfl,_,rfl,T,_,rfl,aH.of ag,(by show¬(HT.dH 3 0 none=0/\HT.dH 3 3 (some 2)=3); decide),λr hr=>?_⟩
  have sr:=aj hr (.tup [.str x,y2])
  have Fv:=sr _ _ QS
  have Fx:∀v∈vs,nU (upd (upd H6 T (.tup [.str x,y2,.str z])) r (.tup [.str x,y2])) v:=λv h=>(SW v h).keep λa xs e=>sr _ _ e
  have SG:=sr _ _ (ag (H:=H6) (a:=T) (o:=.tup [.str x,y2,.str z]))
  have Tf:=ag (H:=upd H6 T (.tup [.str x,y2,.str z])) (a:=r) (o:=.tup [.str x,y2])
  have gr:=gT.trans (bo.same gT.cf sr)
  refine⟨_,rfl,L,rfl,⟨_,a_.of Fv⟩,λDc F_=>?_⟩
  rw [show gb [V.str x,y2,V.str z] none (some 2)=[V.str x,y2] from rfl]at F_⊢
  generalize upd (upd H6 T (.tup [.str x,y2,.str z])) r (.tup [.str x,y2])=H7 at *
  refine dG (xs:=vs) (λi σ ys H'=>(∃o o' PJ,σ=[o,o',PJ])/\ys.length<=i/\(∀v∈ys,uu H' v)/\H' Dc=some (.lst ys)/\aM H7 H')
   ⟨⟨none,none,none,rfl⟩,T7 _,by simp,ag,aj F_ _⟩ ?_ ?_ ?_ ?_ ?_
  ·rintro i σ ys H' _ ⟨_,hl,_,h,_⟩
   exact⟨h,hl⟩
  ·rintro i σ ys H' _ ⟨_,_,_,_,sm⟩
   exact a_.of (sm _ _ Fv)
  ·exact T8 (show vs.length<=1000 by omega) (by decide)
  ·rintro i v σ ys H' hv ⟨⟨o,o',PJ,rfl⟩,hl,hf,h,sm⟩
   obtain⟨t,x',y',z',rfl,ht,R8⟩:=Fx v (Ui hv)
   refine⟨t,_,rfl,aH.of (sm _ _ ht),rfl,_,_,rfl,_,_,rfl,_,_,rfl,rfl,_,rfl,_,rfl,cJ,λU hU=>?_⟩
   have sU:=aj hU (.tup [.str x',y'])
   have Py:=sU _ _ h
   refine⟨Py,⟨_,_,_,rfl⟩,by rw [Ub]; exact Nat.add_le_add_right hl 1,λv hv=>?_,ag,λb u eb=>?_⟩
   ·have kk:∀a xs,upd H' U (.tup [.str x',y']) a=some (.tup xs)->upd (upd H' U (.tup [.str x',y'])) Dc (.lst (ys++[.ref U])) a=some (.tup xs):=λa xs e=>by
     rw [aI (λz=>by rw [z,Py]at e; cases e)]; exact e
    rcases Us.mp hv with z | z
    ·exact(hf v z).keep λa xs e=>kk _ _ (sU _ _ e)
    ·rw [Uo.mp z]; exact⟨U,.str x',y',rfl,kk _ _ ag,rfl,uL R8⟩
   ·by_cases hb:b=Dc
    ·subst hb; exact absurd eb (by rw [F_]; simp)
    ·rw [aI hb]; exact sU _ _ (sm _ _ eb)
  ·rintro σ ys H8 ⟨_,_,hf,h,sm⟩
   obtain⟨es,h1,h2⟩:=ot (K:=K) hf
   refine⟨.tup [.str x,Kg y2],es,Dc,ys,rfl,.inl (a_.of h),iE (sm _ _ Tf) (bD.cons (gx _) (bD.cons (ow S5) bD.nil)),h1,?_,_,rfl,?_⟩
   ·exact Ud (Nat.add_le_add_left h2 _) hu
   have gS:=gr.trans (bo.same gr.cf sm)
   refine cH (λ_=>?_) (λ_=>?_)
   ·refine⟨_,rfl,.inl ⟨rfl,_,a_.of (sm _ _ Fv)⟩,_,rfl,L,_,_,rfl,rfl,sm _ _ Fv,Ud (show vs.length<=1000 by omega) (by decide),?_⟩
    refine⟨⟨_,_,rfl⟩,⟨vs++[.ref T],ag,by rw [Ub]; exact Nat.add_le_add_right hl 1,λv hv=>?_⟩,g0.put hL nL gS⟩
    have kk:∀a xs,H7 a=some (.tup xs)->upd H8 L (.lst (vs++[.ref T])) a=some (.tup xs):=λa xs e=>by
     rw [aI (λz=>by rw [z,Fv]at e; cases e)]; exact sm _ _ e
    rcases Us.mp hv with z | z
    ·exact(Fx v z).keep kk
    ·rw [Uo.mp z]; exact⟨T,_,_,_,rfl,kk _ _ SG,P8⟩
   ·exact⟨⟨_,_,rfl⟩,⟨vs,sm _ _ Fv,Nat.le_succ_of_le hl,λv hv=>(Fx v hv).keep λa xs e=>sm _ _ e⟩,gS⟩
 ·rintro σ H' ⟨⟨o4,o5,rfl⟩,⟨vs,hv,hl,hp⟩,g⟩
  refine⟨_,rfl,L,_,rfl,.inl ⟨a_.of hv,λt ht=>?_⟩⟩
  have st:=aj ht (.tup vs)
  obtain⟨bs,mv,rfl,h1,h2⟩:=ma hp
  exact q t bs mv _ (g.new ht) ⟨ag,h1.len,λi a x e1 e2=>by obtain⟨b,c,hb⟩:=h1.at_ i a x e1 e2; exact⟨b,c,st _ _ hb⟩⟩ (by rw [←h1.len]; rw [Ua]at hl; omega) h2
end My
namespace L2
open PySem PySem.Spec PyProof.Rows
theorem fM:fillsNumberSlot (.type "tuple") "mul"=pure false:=PySem.fillsNumberSlot_seq (id:="tuple.__mul__") (r:=some (.builtin "tuple.__rmul__")) F.slot_tuple_mul.lookup (by decide +kernel) F.slot_tuple_rmul.lookup (by decide +kernel)
theorem sJ:seqRepeat? (.type "tuple")=pure (some (.builtin "tuple.__mul__")):=by
 unfold seqRepeat?
 rw [PySem.seqSlot_of (T:="tuple") (name:="__mul__") F.slot_tuple_mul.lookup (by decide +kernel),PySem.seqSlot_of (T:="tuple") (name:="__rmul__") F.slot_tuple_rmul.lookup (by decide +kernel)]
 rfl
theorem iL(a:Int)(t:Tok)(l:Addr)(items:Array Value)(n:Nat)(dd:Option Addr)(sl:Array (Option Value)):Meets (Builtin.«int.__rmul__» ⟨[.int a t,.ref l],[]⟩) (λ_ R s=>s.heap.get? l=some ⟨.type "tuple",dd,.seq items n,sl⟩/\R (.ok (.ret Value.notImplemented)) s) :=
 .of_wp λprog w A R s h=>by
  obtain⟨hp,g,d,tk,os⟩:=s; obtain⟨hl,h⟩:=h
  wp_walk
  exact⟨_,rfl,h⟩
theorem Ey(l:Addr)(items:Array Value)(n:Nat)(dd:Option Addr)(sl:Array (Option Value))(k:Int)(t:Tok)(h1:2<=k)(h2:k<1000)(hi:items.isEmpty=false)(hz:items.size*k.toNat<=10000) :
  Meets (Builtin.«tuple.__mul__» ⟨[.ref l,.int k t],[]⟩) (λ_ R s=>s.heap.get? l=some ⟨.type "tuple",dd,.seq items n,sl⟩/\
   R (.ok (.ret (.ref s.heap.objs.size))) {s with heap:=s.heap.push {cls:=.type "tuple",data:=.seq ((List.replicate k.toNat items).foldl (· ++ ·) #[])}}) :=
 .of_wp λprog w A R s h=>by
  obtain⟨hp,g,d,tk,os⟩:=s; obtain⟨hl,h⟩:=h
  have PY:(2:Int) ^ 63=9223372036854775808:=by decide
  have hsk:(items.size:Int)*k<=10000:=by
   have:((items.size*k.toNat:Nat):Int)<=10000:=by exact_mod_cast hz
   rw [Int.natCast_mul,Int.toNat_of_nonneg (by omega)]at this
   exact this
  have c1:¬(decide (k < -2 ^ 63)||decide (k≥2 ^ 63))=true:=by
   rw [PY]; simp; omega
  have c2:¬(items.isEmpty||k==1)=true:=by
   rw [hi,Bool.false_or]; simp; omega
  have c3:¬(decide (k<=0)||items.isEmpty)=true:=by
   rw [hi,Bool.or_false]; simp; omega
  have c4:¬(items.size:Int)*k > (2 ^ 63-1) / 8:=by
   rw [PY]; omega
  have c5:¬Builtin.Tuple.tupleTooMany ((items.size:Int)*k)=true:=by
   unfold Builtin.Tuple.tupleTooMany
   have:((sizeLine:Nat):Int)≥10000:=by decide
   simp; omega
  have c6:¬(List.foldl (λx1 x2=>x1++x2) #[] (List.replicate k.toNat items)).size > sizeLine:=by
   have e:List.foldl (λx1 x2=>x1++x2) #[] (List.replicate k.toNat items)=(List.replicate k.toNat items.toList).flatten.toArray:=by
    have:=foldl_rep items.toList k.toNat []
    rw [List.nil_append]at this
    exact this
   rw [e,Ul,len_rep,Array.length_toList,Nat.mul_comm]
   have:10000<=sizeLine:=by decide
   omega
  wp_walk
  rw [if_neg c1]
  wp_walk
  rw [if_neg c2]
  wp_walk
  rw [if_neg c3]
  wp_walk
  rw [if_neg c4]
  wp_walk
  exact⟨_,rfl,h⟩
section
variable{X:Cx}
def Hu(K:UJ):R2:=λx y H Q=>∃l k xs,x=.ref l/\y=.int k/\aH K H l xs/\xs≠[]/\2<=k/\k<1000/\xs.length*k.toNat<=10000/\
 ∀p,H p=none->Q (.ref p) (upd H p (.tup (List.replicate k.toNat xs).flatten))
theorem yV:i3 X (binaryOp .Mult) (Hu X.K):=by
 intro pins s σ H x y v u Q I rx ry h
 obtain⟨l,k,xs,rfl,rfl,hq,hx,h1,h2,hz,q⟩:=h
 cases rx
 obtain⟨t,rfl⟩:=ry
 obtain⟨its,r,⟨o,e,hc,n,hd⟩,_⟩:=I.tuple hq
 obtain⟨c,dd,da,sl⟩:=o
 cases(show c=.type "tuple" from hc)
 cases(show da=.seq its.toArray n from hd)
 have hl:=r.length
 have hi:its.toArray.isEmpty=false:=by
  cases its with
  | nil=>exact absurd (List.eq_nil_of_length_eq_zero (by rw [hl]; rfl)) hx
  | cons a r=>rfl
 have hnew:List.foldl (λx1 x2=>x1++x2) #[] (List.replicate k.toNat its.toArray)=(List.replicate k.toNat its).flatten.toArray:=by
  have:=foldl_rep its k.toNat []
  rw [List.nil_append]at this
  exact this
 refine wpAny_binaryOp_repeat_ref (T:="tuple") (U:="int") (by decide) ⟨_,e,rfl⟩ (λs'=>typeIs_int s' k t) fM F.fills_int_mul F.slot_int_rmul sJ F.slot_int_index.lookup
  (call_meets F.slot_int_rmul (typeIs_int s k t) F.entry_int_rmul (F.args_int_rmul_2 _ _) (iL k t l its.toArray n dd sl)
   ⟨e,rfl,⟨_,e,rfl⟩,call_meets F.slot_tuple_mul ⟨_,e,rfl⟩ F.entry_tuple_mul (F.args_tuple_mul_2 _ _) (Ey l its.toArray n dd sl k t h1 h2 hi (by rw [Ul,←hl]; exact hz)) ⟨e,?_⟩⟩)
 rw [hnew]
 refine⟨.ref s.heap.objs.size,_,I.laid (t':=s.toks) (o:=.tup (List.replicate k.toNat xs).flatten) (λb ob q=>T4 _ q) (T7 _) ?_,rfl,q _ (I.hok.fresh (T7 _))⟩
 exact⟨by rw [len_rep,Nat.mul_comm]; exact T8 hz (by decide),_,r.rep k.toNat,gN.new _ _⟩
end
end L2
namespace My
open PySem L2 CS
theorem nX:ay ["_law_pot_here","_law_head","_law_word_here","_law_column_here","_law_sort"] ["_law_pot_here","_law_head","_law_word_here"] (ar rW):=fs
theorem yJ:ay ["_law_pot_here","_law_head","_law_word_here","_law_column_here"] ["_law_pot_here","_law_head","_law_word_here"] (ar xr):=fs
def nj(K:UJ)(ok:Str->Prop):Sp:=λvs H Q _=>∃(p a:Addr) (hs:List Str) (wd:Str),vs=[.ref p,.ref a,.str wd]/\dh H p/\cU K H a hs/\ok wd/\∀t (x:W1) H',bo p H H'->jP H' t x->CU x->x.nm=wd->Q (.ref t) H'
def IA(s:Str):Prop:=s="keep"\/s="same"\/s="cut"\/s="turn"\/s="must"
def D7(s:Str):Prop:=s="walk"\/s="sort"\/s="apart"\/s="count"\/s="sum"\/s="number"\/s="first"
theorem yO{K:UJ}{H:Hp}{p a:Addr}{hs:List Str}{σ:St}{Q:VK}{c:Int}{i j:Nat}(hP:dh H p)(hh:cU K H a hs)(e1:σ[i]? = some (some (.ref a)))(e2:σ[j]? = some (some (.int c)))(c1:1<=c)(c2:c<=12)(q:∀x H',bo p H H'->Q (.str x) H') :
  gB (sj K) (gB (GU K) (bx i) (gB (Hu K) (Gg (bp (tC (.str "n")) fz)) (tC (.int 12)))) (gB (zi λi j=>.int (i-j)) (bx j) (tC (.int 1))) σ H Q:=by
 refine⟨_,e1,dP,λt ht=>⟨t,12,_,rfl,rfl,aH.of ag,by simp,by decide,by decide,by decide,λu hu=>?_⟩⟩
 have g0:=bo.refl hP
 have g1:=g0.new (o:=.tup [.str "n"]) ht
 have g2:=g1.new (o:=.tup (List.replicate (12:Int).toNat [V.str "n"]).flatten) hu
 have h2:=hh.grow hP g2
 have hp1:=hh.pos
 have hf:=hh.few
 refine⟨a,u,_,_,rfl,rfl,aH.of h2.tup,aH.of ag,?_,?_,λz=>absurd z (by decide),λ_ w hw=>?_⟩
 ·intro z
  rw [List.map_eq_nil_iff.mp z]at hp1
  exact absurd hp1 (by decide)
 ·rw [Ua]
  exact T8 (show hs.length+12<=18 by omega) (by decide)
 have hl:(hs.map V.str++(List.replicate (12:Int).toNat [V.str "n"]).flatten).length=hs.length+12:=by rw [Ub,Ua]; rfl
 have hi:(c-1).toNat<(hs.map V.str++(List.replicate (12:Int).toNat [V.str "n"]).flatten).length:=by rw [hl]; omega
 have hv:i6 (hs.map V.str++(List.replicate (12:Int).toNat [V.str "n"]).flatten) (c-1)=some ((hs.map V.str++(List.replicate (12:Int).toNat [V.str "n"]).flatten)[(c-1).toNat]):=by
  have:=au (j:=(c-1).toNat) (Ug hi)
  rw [show(((c-1).toNat:Nat):Int)=c-1 by omega]at this
  exact this
 have hm:=List.getElem_mem hi
 have hx:∃x:Str,(hs.map V.str++(List.replicate (12:Int).toNat [V.str "n"]).flatten)[(c-1).toNat]=.str x:=by
  rcases Us.mp hm with z | z
  ·obtain⟨x,_,e⟩:=Up.mp z
   exact⟨x,e.symm⟩
  ·obtain⟨l,hl,hz⟩:=List.mem_flatten.mp z
   rw [List.eq_of_mem_replicate hl]at hz
   exact⟨"n",Uo.mp hz⟩
 obtain⟨x,ex⟩:=hx
 rw [ex]at hv
 exact⟨_,e2,_,_,rfl,rfl,w,_,_,_,rfl,rfl,aH.of ag,hv,q x _ (g2.new hw)⟩
variable{P:Program}{w:World}{K:UJ}{mg:Str->Option Value}{base:Heap}
theorem zU(B2:iR mg)(F:FA K mg "_law_one_row" rW)(GC:bc bf P w K mg base 4 "_law_column" ["_law_pot_here","_law_head"] (hZ K))(MT:bc bf P w K mg base 4 "_law_columns" ["_law_pot_here","_law_head","_law_many_here"] (lV K))(GD:bc bf P w K mg base 4 "_law_draw" ["_law_pot_here","_law_many_here"] dm)(GS:bc bf P w K mg base 4 "_law_set" ["_law_pot_here","_law_sort"] (Cn K))(GP:bc bf P w K mg base 4 "_law_pairs" ["_law_pot_here","_law_here","_law_there"] yk) :
  bc bf P w K mg base 5 "_law_one_row" ["_law_pot_here","_law_head","_law_word_here"] (nj K IA):=by
 refine F.ok nX λf cdv A outer s H vs Q E hr h=>?_
 obtain⟨p,a,hs,wd,rfl,hP,hh,Gz,q⟩:=h
 refine⟨_,aq (dv (aW aP (pv 2) ao) (av (aJ (ae ao (ae (ax GC hr (ae (pv 0) (ae (pv 1) ah))) (ae (ax GC hr (ae (pv 0) (ae (pv 1) ah))) ah))))) b9)
  (aN (aW aP (pv 2) ao) (aJ (ae ao (ae (ax MT hr (ae (pv 0) (ae (pv 1) (ae (aF cV ai (ax GD hr (ae (pv 0) (ae ai ah)))) ah)))) ah)))
  (aq (aL (i:=3) nX.nd rfl (Or.inl rfl) (ax GC hr (ae (pv 0) (ae (pv 1) ah))))
  (aq (aL (i:=4) nX.nd rfl (Or.inl rfl) (az K (aF rJ (pv 1) (aF yV (aJ (ae ao ah)) ai)) (aF bJ (pv 3) ai)))
  (aN (aW aP (pv 2) ao) (aJ (ae ao (ae (pv 3) (ae (ax GS hr (ae (pv 0) (ae (pv 4) ah))) ah))))
  (av (aJ (ae (pv 2) (ae (pv 3) (ae (ax GP hr (ae (pv 0) (ae (pv 4) (ae (bj K (aQ (ae (pv 4) (ae (bj K (aQ (ae ao (ae ao ah))) (ax GD hr (ae (pv 0) (ae ai ah)))) ah))) (aV cz rfl B2.int PyProof.Rows.boot_int (ae (bU aP (pv 2) ao) ah))) ah)))) ah))))))))),?_⟩
 refine⟨_,rfl,rfl,_,rfl,?_⟩
 refine cH (λc=>?_) (λns=>?_)
 ·have e:wd="same":=by have:=UI c; injection this
  subst e
  refine⟨_,rfl,_,rfl,p,a,hs,rfl,hP,hh,λn H1 g1 n1 _=>?_⟩
  refine⟨_,rfl,_,rfl,p,a,hs,rfl,g1.cf,hh.grow hP g1,λm H2 g2 m1 _=>⟨gq,λt ht=>?_⟩⟩
  exact q t (.same n m) _ ((g1.trans g2).new ht) ag ⟨trivial,trivial,trivial,λc hc=>by rcases Uq.mp hc with rfl | z; exact n1; rw [Uo.mp z]; exact m1⟩ rfl
 refine⟨_,rfl,rfl,_,rfl,?_⟩
 refine cH (λc=>?_) (λnc=>?_)
 ·have e:wd="cut":=by have:=UI c; injection this
  subst e
  refine⟨_,rfl,_,rfl,_,rfl,p,_,rfl,hP,by decide,by decide,λd H1 g1 a1 b1=>⟨_,_,rfl,rfl,?_⟩⟩
  refine⟨p,a,hs,_,rfl,g1.cf,hh.grow hP g1,by omega,by omega,λt2 ns H2 g2 h2 hn hp=>⟨cJ,λt ht=>?_⟩⟩
  exact q t (.cut ns) _ ((g1.trans g2).new ht) ⟨t2,ag,aj ht _ _ _ h2⟩ ⟨by show ns.length<=1000; omega,trivial,by rintro rfl; rw [List.length_nil]at hn; omega,hp⟩ rfl
 refine⟨_,rfl,_,rfl,p,a,hs,rfl,hP,hh,λn H1 g1 n1 n2=>?_⟩
 refine ak ?_
 dsimp only
 have hh1:=hh.grow hP g1
 refine yO g1.cf hh1 rfl rfl n1 n2 λx H2 g2=>?_
 have gg:=g1.trans g2
 refine ak ?_
 dsimp only
 refine⟨_,rfl,rfl,_,rfl,?_⟩
 refine cH (λc=>?_) (λnk=>?_)
 ·have e:wd="keep":=by have:=UI c; injection this
  subst e
  refine⟨_,rfl,_,rfl,_,rfl,p,x,rfl,gg.cf,λv d xs H3 g3 hd=>⟨gq,λt ht=>?_⟩⟩
  have st:=aj ht (.tup [.str "keep",.int n,.ref v])
  exact q t (.keep n d) _ ((gg.trans g3).new ht) ⟨v,xs,ag,st _ _ hd⟩ ⟨trivial,trivial,trivial,λc hc=>by rw [Uo.mp hc]; exact n1⟩ rfl
 refine⟨_,rfl,_,rfl,_,rfl,_,rfl,_,rfl,cJ,λR hR=>?_⟩
 have k1:=gg.new (o:=.lst [.str "n",.str "w"]) hR
 refine⟨_,rfl,p,_,rfl,k1.cf,by decide,by decide,λd H3 g3 a3 b3=>?_⟩
 have hk:=g3.keep R _ (gg.ne hR) ag
 have Cd:∃y:Str,i6 [V.str "n",V.str "w"] d=some (.str y):=by
  have hd:d=0\/d=1:=by omega
  rcases hd with z | z <;> rw [z]
  ·exact⟨_,rfl⟩
  ·exact⟨_,rfl⟩
 obtain⟨y,hy⟩:=Cd
 refine⟨R,_,_,_,rfl,rfl,a_.of hk,hy,cJ,λR2 yE=>?_⟩
 have k2:=(k1.trans g3).new (o:=.lst [.str x,.str y]) yE
 refine⟨_,rfl,rfl,.inr ⟨_,rfl,?_⟩⟩
 have Dq:∃z:Str,i6 [V.str x,V.str y] (if decide (V.str wd=V.str "must")=true then 1 else 0)=some (.str z):=by
  cases decide (V.str wd=V.str "must")
  ·exact⟨_,rfl⟩
  ·exact⟨_,rfl⟩
 obtain⟨z,hz⟩:=Dq
 refine⟨R2,_,_,_,rfl,rfl,a_.of ag,hz,?_⟩
 refine⟨p,x,z,rfl,k2.cf,λt2 bs ps H4 g4 hI hne hz8 hcl=>⟨gq,λt ht=>?_⟩⟩
 have st:=aj ht (.tup [.str wd,.int n,.ref t2])
 have hI':bO j6 (upd H4 t (.tup [.str wd,.int n,.ref t2])) t2 bs ps:=hI.keep (aE.of st) λ_ _ e=>st _ _ e
 have hpos:∀c∈[n],1<=c:=λc hc=>by rw [Uo.mp hc]; exact n1
 rcases Gz with e | e | e | e | e
 ·exact absurd (by rw [e]; rfl) nk
 ·exact absurd (by rw [e]; rfl) ns
 ·exact absurd (by rw [e]; rfl) nc
 ·subst e
  exact q t (.turn n ps) _ ((k2.trans g4).new ht) ⟨t2,bs,ag,hI'⟩ ⟨by show ps.length<=1000; omega,hcl,⟨hne,by omega⟩,hpos⟩ rfl
 ·subst e
  exact q t (.must n ps) _ ((k2.trans g4).new ht) ⟨t2,bs,ag,hI'⟩ ⟨by show ps.length<=1000; omega,hcl,⟨hne,by omega⟩,hpos⟩ rfl
theorem C7(F:FA K mg "_law_other" xr)(GC:bc bf P w K mg base 4 "_law_column" ["_law_pot_here","_law_head"] (hZ K))(GT:bc bf P w K mg base 4 "_law_state" ["_law_pot_here"] rS)(GM:bc bf P w K mg base 4 "_law_moves" ["_law_pot_here","_law_sort"] yy)(GO:bc bf P w K mg base 4 "_law_order" ["_law_pot_here","_law_head"] (yr K))(MT:bc bf P w K mg base 4 "_law_columns" ["_law_pot_here","_law_head","_law_many_here"] (lV K))(GD:bc bf P w K mg base 4 "_law_draw" ["_law_pot_here","_law_many_here"] dm) :
  bc bf P w K mg base 5 "_law_other" ["_law_pot_here","_law_head","_law_word_here"] (nj K D7):=by
 refine F.ok yJ λf cdv A outer s H vs Q E hr h=>?_
 obtain⟨p,a,hs,wd,rfl,hP,hh,Gz,q⟩:=h
 refine⟨_,aq (dv (aW aP (pv 2) ao) (aq (aL (i:=3) yJ.nd rfl (Or.inl rfl) (ax GC hr (ae (pv 0) (ae (pv 1) ah))))
   (av (aJ (ae ao (ae (pv 3) (ae (ax GT hr (ae (pv 0) ah)) (ae (ax GM hr (ae (pv 0) (ae (az K (aF rJ (pv 1) (aF yV (aJ (ae ao ah)) ai)) (aF bJ (pv 3) ai)) ah))) ah))))))) b9)
  (aN (aW aP (pv 2) ao) (aJ (ae ao (ae (ax GO hr (ae (pv 0) (ae (pv 1) ah))) ah)))
  (aN (aW aP (pv 2) ao) (aJ (ae ao (ae (ax MT hr (ae (pv 0) (ae (pv 1) (ae (ax GD hr (ae (pv 0) (ae ai ah))) ah)))) ah)))
  (aN (aW aP (pv 2) ao) (aJ (ae ao (ae (ax MT hr (ae (pv 0) (ae (pv 1) (ae (ax GD hr (ae (pv 0) (ae ai ah))) ah)))) (ae (ax GC hr (ae (pv 0) (ae (pv 1) ah))) ah))))
  (aN (aW aP (pv 2) ao) (aJ (ae ao (ae (bj K (aQ (ae (ax GD hr (ae (pv 0) (ae ai ah))) (ae (ax GD hr (ae (pv 0) (ae ai ah))) ah))) (ax GD hr (ae (pv 0) (ae ai ah)))) ah)))
  (av (aJ (ae (pv 2) ah))))))),?_⟩
 refine⟨_,rfl,rfl,_,rfl,?_⟩
 refine cH (λc=>?_) (λn1=>?_)
 ·have e:wd="walk":=by have:=UI c; injection this
  subst e
  refine⟨_,rfl,_,rfl,p,a,hs,rfl,hP,hh,λn H1 g1 n1 n2=>?_⟩
  refine ak ?_
  dsimp only
  refine⟨_,rfl,_,rfl,p,rfl,g1.cf,λst H2 g2=>?_⟩
  have gg:=g1.trans g2
  refine⟨_,rfl,yO gg.cf (hh.grow hP gg) rfl rfl n1 n2 λx H3 g3=>?_⟩
  have g5:=gg.trans g3
  refine⟨p,x,rfl,g5.cf,λt2 bs mv H4 g4 hI RH hcl=>⟨Mo,λt ht=>?_⟩⟩
  have sn:=aj ht (.tup [.str "walk",.int n,.str st,.ref t2])
  exact q t (.walk n mv) _ ((g5.trans g4).new ht) ⟨st,t2,bs,ag,hI.keep (aE.of sn) λ_ _ e=>e.keep (aE.of sn)⟩ ⟨by show mv.length<=1000; omega,hcl,by show mv.length<=50; omega,λc hc=>by rw [Uo.mp hc]; exact n1⟩ rfl
 refine⟨_,rfl,rfl,_,rfl,?_⟩
 refine cH (λc=>?_) (λn2=>?_)
 ·have e:wd="sort":=by have:=UI c; injection this
  subst e
  refine⟨_,rfl,_,rfl,p,a,hs,rfl,hh,hP,λt2 bs cs H4 g4 hI Pa hcp=>⟨cJ,λt ht=>?_⟩⟩
  have sn:=aj ht (.tup [.str "sort",.ref t2])
  exact q t (.sort cs) _ (g4.new ht) ⟨t2,bs,ag,hI.keep (aE.of sn) λ_ _ e=>e.keep (aE.of sn)⟩ ⟨by show cs.length<=1000; omega,trivial,trivial,hcp⟩ rfl
 refine⟨_,rfl,rfl,_,rfl,?_⟩
 refine cH (λc=>?_) (λn3=>?_)
 ·have e:wd="count":=by have:=UI c; injection this
  subst e
  refine⟨_,rfl,_,rfl,_,rfl,p,_,rfl,hP,by decide,by decide,λd H1 g1 a1 b1=>?_⟩
  refine⟨p,a,hs,_,rfl,g1.cf,hh.grow hP g1,by omega,by omega,λt2 ns H2 g2 h2 hn hp=>⟨cJ,λt ht=>?_⟩⟩
  exact q t (.count ns) _ ((g1.trans g2).new ht) ⟨t2,ag,aj ht _ _ _ h2⟩ ⟨by show ns.length<=1000; omega,trivial,trivial,hp⟩ rfl
 refine⟨_,rfl,rfl,_,rfl,?_⟩
 refine cH (λc=>?_) (λn4=>?_)
 ·have e:wd="sum":=by have:=UI c; injection this
  subst e
  refine⟨_,rfl,_,rfl,_,rfl,p,_,rfl,hP,by decide,by decide,λd H1 g1 a1 b1=>?_⟩
  refine⟨p,a,hs,_,rfl,g1.cf,hh.grow hP g1,by omega,by omega,λt2 ns H2 g2 h2 hn hp=>?_⟩
  have gg:=g1.trans g2
  refine⟨_,rfl,_,rfl,p,a,hs,rfl,gg.cf,hh.grow hP gg,λn H3 g3 n1 n2=>⟨gq,λt ht=>?_⟩⟩
  have h3:=hX gg.cf g3 h2
  exact q t (.sum ns n) _ ((gg.trans g3).new ht) ⟨t2,ag,aj ht _ _ _ h3⟩ ⟨by show ns.length<=1000; omega,trivial,trivial,λc hc=>by rcases Us.mp hc with z | z; exact hp c z; rw [Uo.mp z]; exact n1⟩ rfl
 refine⟨_,rfl,rfl,_,rfl,?_⟩
 refine cH (λc=>?_) (λn5=>?_)
 ·have e:wd="first":=by have:=UI c; injection this
  subst e
  refine⟨_,rfl,p,_,rfl,hP,by decide,by decide,λd H1 g1 a1 b1=>?_⟩
  refine⟨_,rfl,p,_,rfl,g1.cf,by decide,by decide,λd2 H2 g2 a2 b2=>⟨cJ,λR hR=>?_⟩⟩
  have gg:=(g1.trans g2).new (o:=.lst [.int d,.int d2]) hR
  refine⟨_,rfl,p,_,rfl,gg.cf,by decide,by decide,λd3 H3 g3 a3 b3=>?_⟩
  have hk:=g3.keep R _ ((g1.trans g2).ne hR) ag
  have Cd:∃y:Int,i6 [V.int d,V.int d2] d3=some (.int y):=by
   have hd:d3=0\/d3=1:=by omega
   rcases hd with z | z <;> rw [z]
   ·exact⟨_,rfl⟩
   ·exact⟨_,rfl⟩
  obtain⟨y,hy⟩:=Cd
  refine⟨R,_,_,_,rfl,rfl,a_.of hk,hy,cJ,λt ht=>?_⟩
  exact q t (.first y) _ ((gg.trans g3).new ht) ag ⟨trivial,trivial,trivial,λc hc=>by cases hc⟩ rfl
 refine⟨_,rfl,dP,λt ht=>?_⟩
 have g9:=(bo.refl hP).new (o:=.tup [.str wd]) ht
 rcases Gz with e | e | e | e | e | e | e
 ·exact absurd (by rw [e]; rfl) n1
 ·exact absurd (by rw [e]; rfl) n2
 ·subst e
  exact q t .apart _ g9 ag ⟨trivial,trivial,trivial,λc hc=>by cases hc⟩ rfl
 ·exact absurd (by rw [e]; rfl) n3
 ·exact absurd (by rw [e]; rfl) n4
 ·subst e
  exact q t .number _ g9 ag ⟨trivial,trivial,trivial,λc hc=>by cases hc⟩ rfl
 ·exact absurd (by rw [e]; rfl) n5
end My
namespace L2
open PySem
def LX(K:UJ):List V->Hp->VK->Prop:=λxs H Q=>∃p ys,xs=[.ref p]/\(a_ K H p ys\/aH K H p ys)/\Q (.int ys.length) H
variable{X:Cx}
theorem zK:fk X (.builtin "len") (LX X.K):=bF
end L2
namespace L2
open PySem PySem.Spec PyProof.Rows
variable{X:Cx}
def Mq(K:UJ)(n:String):List V->Hp->VK->Prop:=λxs H Q=>∃x t b,xs=[x,.ty n]/\kc K H x t/\PySem.W.kitOne K t (.type n)=some b/\Q (.bl b) H
theorem uE{n:String}:fk X (.builtin "isinstance") (Mq X.K n):=by
 intro pins s σ H xs us Q I r h
 obtain⟨x,t,b,rfl,ty,e,q⟩:=h
 obtain⟨u,w',rfl,r1,r2⟩:=vals2 r
 cases(show w'=Value.type n from r2)
 exact rz I r1 ty e λtk=>⟨.bl b,H,I.tok _,rfl,q⟩
def OY(K:UJ)(ta tb:TE):TE:=λσ H Q=>ta σ H λx H1=>∃k,Kw K x H1 k/\if k=true then Q x H1 else tb σ H1 Q
theorem JG{a b:Expr}{ta tb:TE}{pos:Pos}(ha:PE X a ta)(hb:PE X b tb):PE X (.BoolOp .Or [a,b] pos) (OY X.K ta tb):=by
 intro pins s σ H Q I h
 refine BoolOp_or (b_ (ha pins s σ H _ I h) λv s1 ⟨x,H1,I1,r1,k,hk,q1⟩=>?_)
 refine b_ (Je pins s1 σ H1 x v (λb H2=>b=k/\H2=H1) I1 r1 ⟨k,hk,rfl,rfl⟩) λb s2 ⟨H2,I2,e1,e2⟩=>?_
 subst e1 e2
 cases b with
 | false=>exact cT hb pins s2 σ _ Q I2 q1
 | true=>exact⟨x,_,I2,r1,q1⟩
end L2
namespace L2
open PySem
def GG:R2:=λx y H Q=>∃a b xs ys,x=.ref a/\y=.ref b/\H a=some (.tup xs)/\H b=some (.tup ys)/\xs.length+ys.length<=sizeLine/\∀t H',aM H H'->H' t=some (.tup (xs++ys))->Q (.ref t) H'
theorem cb{X:Cx}:i3 X (binaryOp .Add) GG:=by
 intro pins s σ H x y v u Q I rx ry h
 obtain⟨a,b,xs,ys,rfl,rfl,ha,hb,hz,q⟩:=h
 by_cases hx:xs=[]
 ·subst hx
  exact Du pins s σ H _ _ v u Q I rx ry ⟨a,b,ys,rfl,rfl,aH.of ha,aH.of hb,q b H (aM.refl _) hb⟩
 ·exact rJ pins s σ H _ _ v u Q I rx ry ⟨a,b,xs,ys,rfl,rfl,aH.of ha,aH.of hb,hx,hz,λz=>q a H (aM.refl _) (by rw [z,List.append_nil]; exact ha),λ_ p hp=>q p _ (λb' u' e=>by rw [aI (aU e hp)]; exact e) ag⟩
def Pg:V->Option Int->Option Int->Hp->VK->Prop:=λx lo hi H Q=>∃a xs,x=.ref a/\H a=some (.tup xs)/\∀t H',aM H H'->H' t=some (.tup (gb xs lo hi))->Q (.ref t) H'
theorem c8{X:Cx}:EK X Pg:=by
 intro pins s σ H x v vl vu lo hi sl Q I rx hs pl pu h
 obtain⟨a,xs,rfl,hx,q⟩:=h
 exact(DN.or F1) pins s σ H _ v vl vu lo hi sl Q I rx hs pl pu (Gj rfl (aH.of hx) (λz=>q a H (aM.refl _) (by rw [z]; exact hx)) λp hp=>q p _ (λb' u' e=>by rw [aI (aU e hp)]; exact e) ag)
theorem ya{xs:List V}{n:Nat}(h:n<=xs.length):gb xs none (some (n:Int))=xs.take n:=by
 unfold gb
 rw [HT.yR,HT.pB]
 simp [Nat.min_eq_left h]
theorem Dx{xs:List V}{n:Nat}(h:n<=xs.length):gb xs (some (n:Int)) none=xs.drop n:=by
 unfold gb
 rw [HT.yR,HT.pB,Nat.min_eq_left h]
 exact List.take_of_length_le (by rw [List.length_drop]; exact T7 _)
structure EO(X:Cx)(e:Expr)(t:TE):Prop where
 h:PE X e t
structure AO(X:Cx)(es:List Expr)(t:TA):Prop where
 h:PA X es t
structure SO(X:Cx)(sts:List Stmt)(t:TS):Prop where
 h:pL X sts t
section
variable{X:Cx}{a b e:Expr}{es:List Expr}{ta tb te:TE}{t:TA}{pos pos':Pos}
theorem J8:AO X [] fz:=⟨ah⟩
theorem dY(ha:EO X e te)(hr:AO X es t)(hs:starEach (e::es) X.env=(false,eval e X.env)::starEach es X.env:=by rfl):AO X (e::es) (bp te t):=⟨ae ha.h hr.h hs⟩
theorem HJ(h:AO X es t):EO X (.List es pos) (x5 t):=⟨aQ h.h⟩
theorem I0{i:Nat}{x:Str}{rest:List Stmt}{u:TS}(hN:X.N.Nodup)(hi:X.N[i]? = some x)(hx:Loc X.env.scope x)(he:EO X e te)(h2:SO X rest u)(hs:swapsWith e (some (.Name x pos')) pos.line X.env=pure false:=by rfl)(hf:X.fn x=true\/X.env.scope.names.lookup x=some .local:=by first | exact .inl rfl | exact .inr rfl | assumption) :
  SO X (.Assign [.Name x pos'] e pos::rest) (Fy (C8 te (bz i)) u):=⟨aq (aL hN hi hx he.h hs hf) h2.h⟩
end
theorem Mv{X:Cx}{sts:List Stmt}{t:TS}{R:TS->Prop}(h:SO X sts t)(r:R t):∃t,pL X sts t/\R t:=⟨t,h.h,r⟩
end L2
namespace L2
open PySem PySem.Spec PyProof.Rows
def dA(K:UJ)(d:Addr)(key:Str)(f:Addr):Prop :=
 ∃(es:Array DictEntry) (ep:Nat) (i:Nat) (x:Int) (t:Tok),K.lookup d=some ⟨.type "dict",none,.dict es ep,#[]⟩/\es.all (λe=>isExactStrKey e.key)=true/\es.findIdx? (λe=>e.key.isStr key)=some i/\es[i]? = some ⟨x,.str key t,.ref f⟩
def FZ(K:UJ):R2:=λx y H Q=>∃d k f,x=.ref d/\y=.str k/\dA K d k f/\Q (.ref f) H
section
variable{X:Cx}
theorem pV:Mg X (FZ X.K):=by
 intro value slice pins s σ H x y v u Q I rx ry h hs
 obtain⟨d,k,f,rfl,rfl,⟨es,ep,i,hx,te,lk,ha,hi,he⟩,q⟩:=h
 cases rx
 obtain⟨t,rfl⟩:=ry
 have ho:s.heap.get? d=some ⟨.type "dict",none,.dict es ep,#[]⟩:=I.jI _ _ lk
 have hT:s.TypeIs (.ref d) "dict":=⟨_,ho,rfl⟩
 have fin:EP X pins σ Q (.ref f) {s with toks:=s.toks+1}:=⟨.ref f,H,I.kept (h':=s.heap) (t':=s.toks+1) λ_ _ e=>e,rfl,q⟩
 refine subscriptTail_builtinR (x:=.ref f) hT slot_dict_getitem.lookup ?_ hs
 unfold getItem
 try with_reducible refine UC ?_
 refine TZ (wpAny_sequenceKey hT (by decide) ?_)
 refine TZ (wpAny_callSpecial?_slot (name:=Str.ofString "__getitem__") hT slot_dict_getitem
  (wpAny_call_entry slot_dict_getitem hT entry_dict_getitem ?_ (args_dict_getitem _ _)))
 show wpAny _ _ (dictGet d (.str k t) >>= _) _ _ s
 refine TZ ?_
 unfold dictGet
 try with_reducible refine UC ?_
 refine TZ (wpAny_pyHash_str ?_)
 unfold dictFind
 refine TZ ?_
 try with_reducible refine UC ?_
 refine TZ (wpAny_dictEntries (s:={s with toks:=s.toks+1}) ho rfl ?_)
 dsimp only
 rw [if_pos ha]
 unfold foundByValue
 rw [hi]
 dsimp only
 rw [he]
 dsimp only
 refine TZ (wpAny_dictEpoch (s:={s with toks:=s.toks+1}) ho rfl ?_)
 refine TZ (wpAny_eqBool_str ?_)
 refine TZ (wpAny_dictEpoch (s:={s with toks:=s.toks+1}) ho rfl ?_)
 rw [if_neg (by simp),T_ rfl]
 refine TZ (wpAny_rule (T1 ?_))
 refine TZ (wpAny_dictEntries (s:={s with toks:=s.toks+1}) ho rfl (T1 ?_))
 rw [he]
 refine T1 ⟨.ref f,rfl,T1 ⟨rfl,fin⟩⟩
def JQ(X:Cx)(CX:q5)(k:Nat)(E:XK)(te:TE)(t:TA):TE:=λσ H Q=>te σ H λv H1=>∃f fd ps sp,v=.ref f/\eZ X.prog X.w X.K X.mg X.base CX k f fd ps sp/\PySem.W.keepIn X.K (.ref f)=true/\Binds X.K fd ps []/\t σ H1 λvs H2=>sp vs H2 Q E
variable{CX:q5}{k:Nat}{E:XK}{x:Str}{p pos:Pos}{e:Expr}{es:List Expr}{te:TE}{t:TA}
theorem oX(hn:PE X (.Name x p) te)(hr:eJ k X.A)(hx:Passes CX X E)(ha:PA X (e::es) t)
  (he:starEach (e::es) X.env=(false,eval e X.env)::starEach es X.env:=by rfl) (hpl:(backTo pos (starEach es X.env)).any (·.1)=false:=by rfl) :
  PE X (.Call (.Name x p) (e::es) [] pos) (JQ X CX k E te t):=by
 intro pins s σ H Q I h
 refine wpAny_Call_Name_kw (b_ (hn pins s σ H _ I h) λu s1 ⟨v,H1,I1,rv,f,fd,ps,sp,ev,F,hk,hb,q⟩=>?_)
 subst ev
 cases rv
 refine PySem.W.callWith_K (h₀:=X.base) I1.ok.mod.Ko hk (b_ (ha pos pins s1 σ H1 _ I1 q) λus s2 ⟨vs,H2,I2,r,q2⟩=>⟨I2.jI,?_⟩) he hpl
 exact DY F hr hb .nil hx I2 r (by rw [List.append_nil]; exact q2)
end
end L2
namespace My
open PySem L2
structure zv(mg:Str->Option Value):Prop where
 str:mg "str"=none
 any:mg "any"=none
 zip:mg "zip"=none
 enumerate:mg "enumerate"=none
theorem vI{K:UJ}{t:Value}(h:(t==t)=true):PySem.W.kitOne K t t=some true:=by
 unfold PySem.W.kitOne
 exact if_pos h
def gj:Sp:=λvs H Q _=>∃v,vs=[v]/\dO v/\Q (.str (sW v)) H
abbrev l7:Stmt:=top 8
theorem wq:ay ["cell"] ["cell"] (ar l7):=fs
variable{P:Program}{w:World}{K:UJ}{mg:Str->Option Value}{base:Heap}
theorem An(B:jJ mg)(B3:zv mg)(Ki:PySem.W.kitOne K (.type "int") (.type "str")=some false)(F:FA K mg "sort_of" l7) :
  bc bf P w K mg base 1 "sort_of" ["cell"] gj:=by
 refine F.ok wq λf cdv A outer s H vs Q E hr h=>?_
 obtain⟨v,rfl,hv,q⟩:=h
 refine⟨_,(av (eK (ft (aZ (uE (n:="str")) rfl B.isinstance PyProof.Rows.boot_isinstance (ae (pv 0) (ae (xl (n:="str") rfl B3.str (by decide +kernel)) ah)))) ao ao)),?_⟩
 rcases hv with⟨n,rfl⟩ | ⟨x,rfl⟩
 ·exact⟨_,rfl,_,_,false,rfl,.int n,Ki,_,rfl,bA q⟩
 ·exact⟨_,rfl,_,_,true,rfl,.str x,vI (by decide),_,rfl,bZ q⟩
def eN(ok:W1->Prop):Sp:=λvs H Q _=>∃(a:Addr) (x:W1),vs=[.ref a]/\jP H a x/\ok x/\oY x/\∀(u:Addr) (H':Hp),aM H H'->H' u=some (.tup ((c7 x).map V.int))->Q (.ref u) H'
def OS(x:W1):Prop:=x=.apart\/x=.number\/∃n,x=.first n
def y8:Sp:=λvs H Q _=>∃v,vs=[v]/\∀(u:Addr) (H':Hp),aM H H'->H' u=some (.tup [])->Q (.ref u) H'
abbrev iN:Stmt:=top 12
theorem qH:ay ["worker"] ["worker"] (ar iN):=fs
theorem Aw(F:FA K mg "no_columns" iN) :
  bc bf P w K mg base 1 "no_columns" ["worker"] y8:=by
 refine F.ok qH λf cdv A outer s H vs Q E hr h=>?_
 have hu:=iM hr
 obtain⟨v,rfl,q⟩:=h
 refine⟨_,(av (aJ ah)),?_⟩
 exact⟨Uu _,λu hu=>q u _ (aj hu _) ag⟩
theorem B7:∀vs H Q E,eN OS vs H Q E->y8 vs H Q E:=by
 rintro vs H Q E ⟨a,x,rfl,_,ho,_,q⟩
 refine⟨_,rfl,λu H' s hu=>q u H' s ?_⟩
 rw [hu]
 rcases ho with rfl | rfl | ⟨n,rfl⟩ <;> rfl
def vR(x:W1):Prop:=∃c,(∃t,x=.keep c t)\/(∃ps,x=.turn c ps)\/(∃ps,x=.must c ps)\/∃mv,x=.walk c mv
theorem vR.at_{x:W1}{H:Hp}{a:Addr}(h:vR x)(ha:jP H a x):∃c y ys,H a=some (.tup (y :: .int c::ys))/\c7 x=[c]:=by
 obtain⟨c,⟨t,rfl⟩ | ⟨ps,rfl⟩ | ⟨ps,rfl⟩ | ⟨mv,rfl⟩⟩:=h
 ·obtain⟨s,xs,h1,h2⟩:=ha; exact⟨c,_,_,h1,rfl⟩
 ·obtain⟨t,bs,h1,h2⟩:=ha; exact⟨c,_,_,h1,rfl⟩
 ·obtain⟨t,bs,h1,h2⟩:=ha; exact⟨c,_,_,h1,rfl⟩
 ·obtain⟨s,t,bs,h1,h2⟩:=ha; exact⟨c,_,_,h1,rfl⟩
abbrev iV:Stmt:=top 13
theorem qi:ay ["worker"] ["worker"] (ar iV):=fs
theorem Ag(F:FA K mg "one_column" iV) :
  bc bf P w K mg base 1 "one_column" ["worker"] (eN vR):=by
 refine F.ok qi λf cdv A outer s H vs Q E hr h=>?_
 have hu:=iM hr
 obtain⟨a,x,rfl,ha,ho,hs,q⟩:=h
 refine⟨_,(av (aJ (ae (az K (pv 0) ai) ah))),?_⟩
 obtain⟨c,y,ys,h1,hc⟩:=ho.at_ ha
 refine⟨_,rfl,a,_,1,_,rfl,rfl,aH.of h1,au (j:=1) rfl,dP,λu hu=>q u _ (aj hu _) ?_⟩
 rw [ag,hc]
 rfl
def Hf(x:W1):Prop:=∃c d,x=.same c d
abbrev gE:Stmt:=top 14
theorem pq:ay ["worker"] ["worker"] (ar gE):=fs
theorem xX(F:FA K mg "two_columns" gE) :
  bc bf P w K mg base 1 "two_columns" ["worker"] (eN Hf):=by
 refine F.ok pq λf cdv A outer s H vs Q E hr h=>?_
 obtain⟨a,x,rfl,ha,ho,hs,q⟩:=h
 refine⟨_,(av (cu c8 (pv 0) (cA ai) (cA ai))),?_⟩
 obtain⟨c,d,rfl⟩:=ho
 have h1:H a=some (.tup [.str "same",.int c,.int d]):=ha
 exact⟨_,rfl,_,rfl,_,rfl,a,_,rfl,h1,λt H' s' ht=>q t H' s' (by rw [ht]; rfl)⟩
def vY(x:W1):Prop:=∃cs,x=.cut cs\/x=.count cs
abbrev eY:Stmt:=top 15
theorem kS:ay ["worker"] ["worker"] (ar eY):=fs
theorem u_(F:FA K mg "listed_columns" eY) :
  bc bf P w K mg base 1 "listed_columns" ["worker"] (eN vY):=by
 refine F.ok kS λf cdv A outer s H vs Q E hr h=>?_
 obtain⟨a,x,rfl,ha,ho,hs,q⟩:=h
 refine⟨_,(av (az K (pv 0) ai)),?_⟩
 obtain⟨cs,rfl | rfl⟩:=ho
 ·obtain⟨t,h1,h2⟩:=ha
  exact⟨_,rfl,a,_,1,_,rfl,rfl,aH.of h1,rfl,q t H (aM.refl _) h2⟩
 ·obtain⟨t,h1,h2⟩:=ha
  exact⟨_,rfl,a,_,1,_,rfl,rfl,aH.of h1,rfl,q t H (aM.refl _) h2⟩
def A5(x:W1):Prop:=∃cs,x=.sort cs
abbrev f9:Stmt:=top 16
theorem mO:ay ["worker"] ["worker"] (ar f9):=fs
theorem uN(B:jJ mg)(F:FA K mg "sort_columns" f9) :
  bc bf P w K mg base 1 "sort_columns" ["worker"] (eN A5):=by
 refine F.ok mO λf cdv A outer s H vs Q E hr h=>?_
 have hu:=iM hr
 obtain⟨a,x,rfl,ha,ho,hs,q⟩:=h
 refine⟨_,(av (aV bB rfl B.tuple PyProof.Rows.boot_tuple (ae (bw (N':=["column","greatest_first"]) (src:=[none,none]) rfl (ba.jE (by kernel_rfl)) (cI (az K (pv 0) ai)) (g:=(iu K 2 (bP (bz 0) (bP (bz 1) iJ)))) (λcl C s H fp=>(cB rfl (aA (el (i:=0)) (aA (el (i:=1)) bS)))) (λcl C s H fp=>aX) (te:=(bx 0)) (λcl C s H fp=>(iX 0))) ah))),?_⟩
 obtain⟨cs,rfl⟩:=ho
 obtain⟨t,bs,h1,hI⟩:=ha
 have hs:cs.length<=1000:=hs
 have hl:(bs.map V.ref).length=cs.length:=by rw [Ua,hI.len]
 refine⟨_,rfl,a,_,1,_,rfl,rfl,aH.of h1,rfl,t,rfl,⟨_,aH.of hI.tup⟩,λD hD=>?_⟩
 refine cE (xs:=bs.map V.ref) (λi σ ys H'=>(∃o1 o2,σ=[o1,o2])/\ys=(cs.take i).map V.int/\ys.length=i/\H' D=some (.lst ys)/\aM H H') ⟨⟨none,none,rfl⟩,rfl,rfl,ag,aj hD _⟩ ?_ ?_ ?_ ?_ ?_
 ·rintro i σ ys H' _ ⟨_,_,hi,h,_⟩
  exact⟨h,Nat.le_of_eq hi⟩
 ·rintro i σ ys H' _ ⟨_,_,_,_,sm⟩
  exact aH.of (sm _ _ hI.tup)
 ·rw [hl]; exact T8 hs (by decide)
 ·rintro i x σ ys H' hx ⟨⟨o1,o2,rfl⟩,rfl,hi,h,sm⟩
  obtain⟨b,c,rfl,ec,bb,hb⟩:=hI.get hx
  refine⟨b,_,rfl,aH.of (sm _ _ hb),rfl,_,_,rfl,ak ⟨_,_,rfl,ak ⟨rfl,?_⟩⟩⟩
  refine⟨_,rfl,h,⟨_,_,rfl⟩,?_,?_,ag,bq hD sm⟩
  ·rw [List.take_add_one,ec,Uc]; rfl
  ·rw [Ub,hi]; rfl
 ·rintro σ ys H' ⟨_,rfl,_,h,sm⟩
  rw [hl,List.take_length]at h
  exact⟨D,_,rfl,.inl ⟨a_.of h,λu hu=>q u _ (sm.trans (aj hu _)) ag⟩⟩
def GK(x:W1):Prop:=∃cs c,x=.sum cs c
abbrev gK:Stmt:=top 17
theorem nJ:ay ["worker"] ["worker"] (ar gK):=fs
theorem xQ(F:FA K mg "sum_columns" gK) :
  bc bf P w K mg base 1 "sum_columns" ["worker"] (eN GK):=by
 refine F.ok nJ λf cdv A outer s H vs Q E hr h=>?_
 have hu:=iM hr
 obtain⟨a,x,rfl,ha,ho,hs,q⟩:=h
 refine⟨_,(av (aF cb (az K (pv 0) ai) (aJ (ae (az K (pv 0) ai) ah)))),?_⟩
 obtain⟨cs,c,rfl⟩:=ho
 obtain⟨t,h1,h2⟩:=ha
 have hs:cs.length<=1000:=hs
 refine⟨_,rfl,a,_,1,_,rfl,rfl,aH.of h1,rfl,_,rfl,a,_,2,_,rfl,rfl,aH.of h1,rfl,dP,λu hu=>?_⟩
 have su:=aj hu (.tup [.int c])
 refine⟨t,u,_,_,rfl,rfl,su _ _ h2,ag,?_,λt' H' s' ht'=>q t' H' (su.trans s') ?_⟩
 ·rw [Ua]
  exact T8 (show cs.length+1<=1001 by omega) (by decide)
 ·rw [ht']
  show _=some (HO.tup ((cs++[c]).map V.int))
  rw [Uc]
  rfl
def there(c:Int)(h:Hd):Bool:=decide (1<=c)&&decide (c<=(h.length:Nat))
def sF:Sp:=λvs H Q _=>∃(c:Int) (a:Addr) (h:Hd),vs=[.int c,.ref a]/\dQ H a h/\Q (.bl (there c h)) H
abbrev j8:Stmt:=top 19
theorem vf:ay ["column","head"] ["column","head"] (ar j8):=fs
theorem C5(B:jJ mg)(F:FA K mg "is_there" j8) :
  bc bf P w K mg base 1 "is_there" ["column","head"] sF:=by
 refine F.ok vf λf cdv A outer s H vs Q E hr h=>?_
 obtain⟨c,a,h,rfl,ha,q⟩:=h
 refine⟨_,(av (C1 C_ C_ ai (pv 0) (aZ bF rfl B.len PySem.boot_len (ae (pv 1) ah)))),?_⟩
 refine⟨_,rfl,_,_,rfl,rfl,_,rfl,?_⟩
 unfold there at q
 refine cH (λk=>?_) (λk=>?_)
 ·rw [k]at q
  refine⟨_,rfl,a,_,rfl,.inr (aH.of ha),_,_,rfl,rfl,?_⟩
  rw [Ua]
  rw [Bool.true_and]at q
  exact q
 ·rw [Ur.mpr k]at q
  exact q
def c9:Wk->List Hd->Bool
 | .one x,hs=>(c7 x).all λc=>there c (hs.headD [])
 | .both ..,_=>true
 | .meet c d _ _,hs=>there c (hs.headD [])&&there d (hs.getD 1 [])
def D9:Wk->Nat
 | .one _=>1
 | _=>2
def km:Wk->Prop
 | .one x=>oY x
 | _=>True
def dC(n:Nat)(F:Wk->List Hd->Bool)(ok:Wk->List Hd->Prop):Sp:=λvs H Q _=>∃(a l:Addr) (x:Wk) (as:List Addr) (hs:List Hd),vs=[.ref a,.ref l]/\dj n H a x/\fW H l as hs/\hs.length=D9 x/\km x/\ok x hs/\∀H',aM H H'->Q (.bl (F x hs)) H'
def GF(P:Program)(w:World)(K:UJ)(mg:Str->Option Value)(base:Heap)(aR:Addr)(L:Nat)(x:W1):Prop :=
 ∃(f:Addr) (fd:FuncData),dA K aR x.nm f/\eZ P w K mg base bf L f fd ["worker"] (eN λy=>y=x)/\PySem.W.keepIn K (.ref f)=true/\Binds K fd ["worker"] []
theorem cC{ok ok':W1->Prop}(h:∀x,ok' x->ok x):∀vs H Q E,eN ok' vs H Q E->eN ok vs H Q E:=by
 rintro vs H Q E ⟨a,x,h1,h2,h3,h4⟩
 exact⟨a,x,h1,h2,h x h3,h4⟩
theorem Aq{aR:Addr}{f1 f2 f3 f4 f5 f6:Addr}
  (tk:dA K aR "keep" f2) (ts:dA K aR "same" f3) (tc:dA K aR "cut" f4) (tt:dA K aR "turn" f2) (tm:dA K aR "must" f2) (tw:dA K aR "walk" f2) (to:dA K aR "sort" f5) (ta:dA K aR "apart" f1) (tn:dA K aR "count" f4) (tu:dA K aR "sum" f6) (tb:dA K aR "number" f1) (tf:dA K aR "first" f1)
  (G0:FnAt P w K mg base 1 f1 ["worker"] y8) (G2:FnAt P w K mg base 1 f2 ["worker"] (eN vR)) (G3:FnAt P w K mg base 1 f3 ["worker"] (eN Hf)) (G4:FnAt P w K mg base 1 f4 ["worker"] (eN vY)) (G5:FnAt P w K mg base 1 f5 ["worker"] (eN A5)) (G6:FnAt P w K mg base 1 f6 ["worker"] (eN GK)):∀x,GF P w K mg base aR 1 x:=by
 obtain⟨d1,G0,b1,k1⟩:=G0
 obtain⟨d2,G2,b2,k2⟩:=G2
 obtain⟨d3,G3,b3,k3⟩:=G3
 obtain⟨d4,G4,b4,k4⟩:=G4
 obtain⟨d5,G5,b5,k5⟩:=G5
 obtain⟨d6,G6,b6,k6⟩:=G6
 have G1:=G0.imp B7
 intro x
 cases x with
 | keep c t=>exact⟨f2,d2,tk,G2.imp (cC λ_ e=>⟨c,.inl ⟨t,e⟩⟩),k2,b2⟩
 | same c d=>exact⟨f3,d3,ts,G3.imp (cC λ_ e=>⟨c,d,e⟩),k3,b3⟩
 | cut cs=>exact⟨f4,d4,tc,G4.imp (cC λ_ e=>⟨cs,.inl e⟩),k4,b4⟩
 | turn c ps=>exact⟨f2,d2,tt,G2.imp (cC λ_ e=>⟨c,.inr (.inl ⟨ps,e⟩)⟩),k2,b2⟩
 | must c ps=>exact⟨f2,d2,tm,G2.imp (cC λ_ e=>⟨c,.inr (.inr (.inl ⟨ps,e⟩))⟩),k2,b2⟩
 | walk c mv=>exact⟨f2,d2,tw,G2.imp (cC λ_ e=>⟨c,.inr (.inr (.inr ⟨mv,e⟩))⟩),k2,b2⟩
 | sort cs=>exact⟨f5,d5,to,G5.imp (cC λ_ e=>⟨cs,e⟩),k5,b5⟩
 | apart=>exact⟨f1,d1,ta,G1.imp (cC λ_ e=>.inl e),k1,b1⟩
 | count cs=>exact⟨f4,d4,tn,G4.imp (cC λ_ e=>⟨cs,.inr e⟩),k4,b4⟩
 | sum cs c=>exact⟨f6,d6,tu,G6.imp (cC λ_ e=>⟨cs,c,e⟩),k6,b6⟩
 | number=>exact⟨f1,d1,tb,G1.imp (cC λ_ e=>.inr (.inl e)),k1,b1⟩
 | first n=>exact⟨f1,d1,tf,G1.imp (cC λ_ e=>.inr (.inr ⟨n,e⟩)),k1,b1⟩
theorem df{x:W1}{hs:List Hd}(h:hs.length=D9 (.one x)):∃hd,hs=[hd]:=by
 cases hs with
 | nil=>cases h
 | cons hd r =>
  cases r with
  | nil=>exact⟨hd,rfl⟩
  | cons _ _=>cases h
theorem dF{hs:List Hd}(h:hs.length=2):∃h1 h2,hs=[h1,h2]:=by
 match hs,h with
 | [h1,h2],_=>exact⟨h1,h2,rfl⟩
theorem AB{x:W1}(h:oY x):(c7 x).length<=1001:=by
 cases x <;> simp only [c7,Ub,UG,List.length_nil] <;> first | omega | (simp only [oY]at h; omega)
theorem LN{x:W1}:x.nm≠"meet"/\x.nm≠"both":=by cases x <;> (simp only [W1.nm]; decide +kernel)
def gy:Wk->List Int
 | .one x=>c7 x
 | _=>[]
def yZ(n:Nat)(x:Wk):Sp:=λvs H Q _=>∃(a:Addr),vs=[.ref a]/\dj n H a x/\km x/\∀(u:Addr) (H':Hp),aM H H'->H' u=some (.tup ((gy x).map V.int))->Q (.ref u) H'
def DQ(P:Program)(w:World)(K:UJ)(mg:Str->Option Value)(base:Heap)(aR:Addr)(n:Nat)(x:Wk):Prop :=
 ∃(f:Addr) (fd:FuncData),dA K aR x.nm f/\eZ P w K mg base bf 1 f fd ["worker"] (yZ n x)/\PySem.W.keepIn K (.ref f)=true/\Binds K fd ["worker"] []
theorem bW{n:Nat}{H:Hp}{a:Addr}{x:W1}:dj n H a (.one x)↔jP H a x:=by cases n <;> exact Iff.rfl
theorem HE{P:Program}{w:World}{K:UJ}{mg:Str->Option Value}{base:Heap}{aR f:Addr}{n:Nat}(h:∀x,GF P w K mg base aR 1 x)(tb:dA K aR "both" f)(G:FnAt P w K mg base 1 f ["worker"] y8) :
  ∀x:Wk,x.nm≠"meet"->DQ P w K mg base aR n x:=by
 obtain⟨fd,G,b,k⟩:=G
 intro x hx
 cases x with
 | one x =>
  obtain⟨g,gd,h1,h2,h3⟩:=h x
  refine⟨g,gd,h1,h2.imp ?_,h3⟩
  rintro vs H Q E ⟨a,rfl,ha,hs,q⟩
  exact⟨a,x,rfl,bW.mp ha,rfl,hs,q⟩
 | both p q =>
  refine⟨f,fd,tb,G.imp ?_,k,b⟩
  rintro vs H Q E ⟨a,rfl,ha,hs,q⟩
  exact⟨_,rfl,q⟩
 | meet c d p q=>exact absurd rfl hx
theorem qV{x:Wk}(h:km x):(gy x).length<=1001:=by
 cases x with
 | one x=>exact AB h
 | both p q=>exact Uu _
 | meet c d p q=>exact Uu _
abbrev gY:Stmt:=top 20
theorem jk:ay ["worker","heads","columns_of"] ["worker","heads"] (ar gY):=fs
theorem Aj{n:Nat}{aC:Addr}(B:jJ mg)(B2:iR mg)(mC:mg "COLUMNS_OF"=some (.ref aC))(GC:∀x:Wk,x.nm≠"meet"->DQ P w K mg base aC n x)(F:FA K mg "columns_fit" gY)
  (kD:bc bf P w K mg base 1 "is_there" ["column","head"] sF) :
  bc bf P w K mg base 2 "columns_fit" ["worker","heads"] (dC n c9 (λ_ _=>True)):=by
 refine F.ok jk λf cdv A outer s H vs Q E hr h=>?_
 have hu:=iM hr
 have hu1:=jY hr
 obtain⟨a,l,x,as,hs,rfl,ha,hL,hn,hsm,Tz,q⟩:=h
 refine⟨_,(aN (aW aP (az K (pv 0) ai) ao) (nI (ax kD hr (ae (az K (pv 0) ai) (ae (bj K (pv 1) ai) ah))) (cT (ax kD hr (ae (az K (pv 0) ai) (ae (bj K (pv 1) ai) ah)))))
   (aq (aL (i:=2) jk.nd rfl (Or.inl rfl) (fX (r:=FZ K) pV (cQ rfl mC (show RelV (.ref aC) (.ref aC) from rfl)) (az K (pv 0) ai) (λ_ _=>rfl)))
   (av (aZ (iq rfl) rfl B2.all PyProof.Rows.boot_all (ae (bw (N':=["column","heads"]) (src:=[none,some 1]) rfl (ba.jE (by kernel_rfl)) (cI (oX (k:=1) (pv 2) hr uv (ae (pv 0) ah))) (λcl C s H fp=>(el (i:=0))) (λcl C s H fp=>aX) (te:=(iW sF [] E0 (bp (bx 0) (bp (gB (xJ K) (bx 1) (tC (.int 0))) fz)))) (λcl C s H fp=>(ax (hg:=xP) kD hr (ae (iX 0) (ae (bj K (yl 1) ai) ah))))) ah))))),?_⟩
 obtain⟨xs,h1⟩:=ha.first
 refine⟨_,rfl,a,_,0,_,rfl,rfl,aH.of h1,au (j:=0) rfl,rfl,_,rfl,cH (λk=>?_) (λk=>aG ?_)⟩
 ·have k:V.str x.nm=V.str "meet":=UI k
  injection k with k
  cases x with
  | one x=>exact absurd k LN.1
  | both p q=>exact absurd k (by show("both" : Str)≠"meet"; decide +kernel)
  | meet c d p q' =>
  obtain⟨h0,h2,rfl⟩:=dF hn
  obtain⟨a0,e0,gm⟩:=hL.nth (i:=0) rfl
  obtain⟨a1,e1,ve⟩:=hL.nth (i:=1) rfl
  cases n with
  | zero=>exact False.elim ha
  | succ n =>
  obtain⟨b,e,bs,es,h1,_⟩:=ha
  refine⟨_,rfl,a,_,1,_,rfl,rfl,aH.of h1,rfl,_,rfl,l,_,0,_,rfl,rfl,a_.of hL.lst,au (j:=0) e0,c,a0,h0,rfl,gm,_,rfl,?_⟩
  have q:=q H (aM.refl _)
  have q:Q (.bl (there c h0&&there d h2)) H:=q
  refine cH (λk=>?_) (λk=>?_)
  ·rw [k,Bool.true_and]at q
   exact⟨_,rfl,a,_,2,_,rfl,rfl,aH.of h1,rfl,_,rfl,l,_,1,_,rfl,rfl,a_.of hL.lst,au (j:=1) e1,d,a1,h2,rfl,ve,q⟩
  ·rw [Ur.mpr k]at q
   exact q
 ·have hx:x.nm≠"meet":=λe=>k (T_ (by rw [e]))
  obtain⟨g,gd,JS,FG,kG,bG⟩:=GC x hx
  refine⟨_,rfl,a,_,0,_,rfl,rfl,aH.of h1,au (j:=0) rfl,aC,x.nm,g,rfl,rfl,JS,ak ?_⟩
  dsimp only
  refine⟨_,rfl,g,gd,_,yZ n x,rfl,FG,kG,bG,_,rfl,a,rfl,ha,hsm,λu H1 s1 hu1=>⟨u,rfl,⟨_,aH.of hu1⟩,λD hD=>?_⟩⟩
  have hh:∃h0,hs[0]? = some h0/\hs.headD []=h0:=by
   cases hs with
   | nil=>cases x <;> cases hn
   | cons h0 r=>exact⟨h0,rfl,rfl⟩
  obtain⟨h0,Rn,eh⟩:=hh
  obtain⟨a0,e0,gm⟩:=hL.nth Rn
  refine cE (xs:=(gy x).map V.int) (λi σ ys H'=>(∃o,σ=[o,some (.ref l)])/\ys=(((gy x).take i).map λc=>there c h0).map V.bl/\ys.length=i/\H' D=some (.lst ys)/\aM H1 H') ⟨⟨none,rfl⟩,rfl,rfl,ag,aj hD _⟩ ?_ ?_ ?_ ?_ ?_
  ·rintro i σ ys H' _ ⟨_,_,hi,h,_⟩
   exact⟨h,Nat.le_of_eq hi⟩
  ·rintro i σ ys H' _ ⟨_,_,_,_,sm⟩
   exact aH.of (sm _ _ hu1)
  ·rw [Ua]; exact T8 (qV hsm) (by decide)
  ·rintro i v σ ys H' hv ⟨⟨o,rfl⟩,rfl,hi,h,sm⟩
   rw [Uy]at hv
   cases ec:(gy x)[i]? with
   | none=>rw [ec]at hv; cases hv
   | some c =>
    rw [ec]at hv
    have hv:V.int c=v:=Uv hv
    subst hv
    have s2:=s1.trans sm
    refine⟨_,rfl,_,rfl,l,_,0,_,rfl,rfl,a_.of (s2 _ _ hL.lst),au (j:=0) e0,c,a0,h0,rfl,s2 _ _ gm,h,⟨_,rfl⟩,?_,?_,ag,bq hD sm⟩
    ·rw [take_one ec,Uc,Uc]; rfl
    ·rw [Ub,hi]; rfl
  ·rintro σ ys H' ⟨_,rfl,_,h,sm⟩
   rw [Ua,List.take_length]at h
   refine⟨D,_,rfl,a_.of h,?_⟩
   have e:c9 x hs=((gy x).map λc=>there c h0).all id:=by
    cases x with
    | one x =>
     show(c7 x).all (λc=>there c (hs.headD []))=_
     rw [eh,List.all_map]
     rfl
    | both p q=>rfl
    | meet c d p q=>exact absurd rfl hx
   rw [←e]
   exact q H' (s1.trans sm)
end My
namespace L2
open PySem
section
variable{g g2:TG}{tc sN:TT}{te:TE}{wi2:TI}{D:Addr}{Q:VK}{N:St->List V->Hp->Prop}{qC:St}{H0:Hp}{Nt:List V}{K:UJ}{a:Addr}{xs:List V}
theorem wc(Pv:Nat->St->List V->Hp->Prop)(h0:Pv 0 qC [] H0)(hD:∀i σ ys H,i<=xs.length->Pv i σ ys H->H D=some (.lst ys))(hl:∀i σ ys H,i<=xs.length->Pv i σ ys H->a_ K H a xs)
  (hs:∀i x σ ys H,xs[i]? = some x->Pv i σ ys H->g x σ H λde H2=>tc de H2 λb H3=>if b=true then wi2 de H3 λJ2 H4=>∃W2:Nat->Nat->St->List V->Hp->Prop,(∃m,W2 0 m de ys H4)/\oA J2 g2 sN te D (Pv (i+1)) W2 else Pv (i+1) de ys H3)
  (hd:∀σ ys H,Pv xs.length σ ys H->Q (.ref D) H):∃W:Nat->Nat->St->List V->Hp->Prop,(∃m,W 0 m qC [] H0)/\rT (MX K a) g tc wi2 g2 sN te D Q W:=by
 refine⟨λi m σ ys H=>m=xs.length-i/\i<=xs.length/\Pv i σ ys H,⟨xs.length,by simp,Uu _,h0⟩,?_⟩
 rintro i m σ ys H ⟨rfl,hi,p⟩
 have q:=hl i σ ys H hi p
 refine⟨hD i σ ys H hi p,?_⟩
 by_cases hlt:i<xs.length
 ·refine .inr ⟨⟨xs,xs[i],q,by simp [hlt]⟩,Pv (i+1),λσ' ys' H' p'=>⟨xs.length-(i+1),by omega,rfl,hlt,p'⟩,λx H' y=>?_⟩
  obtain⟨e,y⟩:=y
  subst e
  exact hs i x σ ys _ (y xs q) p
 ·have e:i=xs.length:=by omega
  subst e
  exact .inl ⟨⟨xs,q,T7 _⟩,hd σ ys H p⟩
end
end L2
namespace My
open PySem L2
def alike(s t:Str):Bool:=decide (s=t) && !decide (s="t")
def sf:Sp:=λvs H Q _=>∃s t:Str,vs=[.str s,.str t]/\Q (.bl (alike s t)) H
theorem bM(s t:Str):decide (V.str s=V.str t)=decide (s=t):=by
 by_cases e:s=t
 ·rw [e]; simp
 ·rw [T9 e,T9 (λz=>e (V.str.inj z))]
abbrev fw:Stmt:=top 21
theorem lP:ay ["one","other"] ["one","other"] (ar fw):=fs
variable{P:Program}{w:World}{K:UJ}{mg:Str->Option Value}{base:Heap}
theorem A_{tk:Tok}(mT:mg "TALLY"=some (.str "t" tk))(F:FA K mg "are_same_sort" fw) :
  bc bf P w K mg base 1 "are_same_sort" ["one","other"] sf:=by
 refine F.ok lP λf cdv A outer s H vs Q E hr h=>?_
 obtain⟨s1,t1,rfl,q⟩:=h
 refine⟨_,(av (nI (bU aP (pv 0) (pv 1)) (cT (bU mz (pv 0) (cQ (v:=.str "t") rfl mT ⟨_,rfl⟩))))),?_⟩
 unfold alike at q
 refine⟨_,rfl,_,rfl,rfl,_,rfl,?_⟩
 rw [bM]
 refine cH (λk=>?_) (λk=>?_)
 ·rw [k,Bool.true_and,←bM]at q
  exact⟨_,rfl,rfl,q⟩
 ·rw [Ur.mpr k]at q
  exact q
def cS(vs:List V)(t:Str):Bool:=!decide (t="t")&&vs.all λv=>decide (sW v=t)
def iS:Sp:=λvs H Q _=>∃(l:Addr) (us:List V) (t:Str),vs=[.ref l,.str t]/\H l=some (.lst us)/\us.length<=100000/\(∀v∈us,dO v)/\∀H',aM H H'->Q (.bl (cS us t)) H'
abbrev jx:Stmt:=top 22
theorem rQ:ay ["cells","column_sort"] ["cells","column_sort"] (ar jx):=fs
theorem uq{tk:Tok}(B2:iR mg)(mT:mg "TALLY"=some (.str "t" tk))(F:FA K mg "cells_fit" jx)
  (g_:bc bf P w K mg base 1 "sort_of" ["cell"] gj) :
  bc bf P w K mg base 2 "cells_fit" ["cells","column_sort"] iS:=by
 refine F.ok rQ λf cdv A outer s H vs Q E hr h=>?_
 obtain⟨l,us,t,rfl,hl,hz,hc,q⟩:=h
 refine⟨_,(av (nI (bU mz (pv 1) (cQ (v:=.str "t") rfl mT ⟨_,rfl⟩)) (cT (aZ (iq rfl) rfl B2.all PyProof.Rows.boot_all (ae (bw (N':=["cell","column_sort"]) (src:=[none,some 1]) rfl (ba.jE (by kernel_rfl)) (fh (pv 0)) (λcl C s H fp=>(el (i:=0))) (λcl C s H fp=>aX) (te:=(gB Hv (iW gj [] E0 (bp (bx 0) fz)) (bx 1))) (λcl C s H fp=>(bU aP (ax (hg:=xP) g_ hr (ae (iX 0) ah)) (yl 1)))) ah))))),?_⟩
 unfold cS at q
 refine⟨_,rfl,rfl,_,rfl,?_⟩
 rw [bM]
 refine cH (λk=>?_) (λk=>?_)
 ·rw [k,Bool.true_and]at q
  refine⟨_,rfl,l,rfl,⟨_,a_.of hl⟩,λD hD=>?_⟩
  refine dG (xs:=us) (λi σ ys H'=>(∃o,σ=[o,some (.str t)])/\ys=((us.take i).map λv=>decide (sW v=t)).map V.bl/\ys.length=i/\H' D=some (.lst ys)/\aM H H') ⟨⟨none,rfl⟩,rfl,rfl,ag,aj hD _⟩ ?_ ?_ ?_ ?_ ?_
  ·rintro i σ ys H' _ ⟨_,_,hi,h,_⟩
   exact⟨h,Nat.le_of_eq hi⟩
  ·rintro i σ ys H' _ ⟨_,_,_,_,sm⟩
   exact a_.of (sm _ _ hl)
  ·exact T8 hz (by decide)
  ·rintro i v σ ys H' hv ⟨⟨o,rfl⟩,rfl,hi,h,sm⟩
   refine⟨_,rfl,v,rfl,hc v (Ui hv),_,rfl,rfl,h,⟨_,rfl⟩,?_,?_,ag,bq hD sm⟩
   ·rw [take_one hv,Uc,Uc,bM]; rfl
   ·rw [Ub,hi]; rfl
  ·rintro σ ys H' ⟨_,rfl,_,h,sm⟩
   rw [List.take_length]at h
   refine⟨D,_,rfl,a_.of h,?_⟩
   have e:(us.all λv=>decide (sW v=t))=(us.map λv=>decide (sW v=t)).all id:=by rw [List.all_map]; rfl
   rw [←e]
   exact q H' sm
 ·rw [Ur.mpr k]at q
  exact q H (aM.refl _)
def goodW:Wk->Prop
 | .one x=>Hx x
 | _=>True
def cP(ss:List Str):Bool:=ss.all λs=>decide (s=ss.headD "")
def fV(t:Str):Str:=if t="t" then "n" else t
def bg:Wk->List Hd->Bool
 | .one (.keep c t),hs=>decide (t=fV (bt (hs.headD []) c))
 | .one (.same c d),hs=>alike (bt (hs.headD []) c) (bt (hs.headD []) d)
 | .one (.turn c ps),hs=>cS (ps.flatMap λp=>[p.1,p.2]) (bt (hs.headD []) c)
 | .one (.must c ps),hs=>cP (ps.map λp=>sW p.2)&&cS (ps.map λp=>p.1) (bt (hs.headD []) c)
 | .one (.walk c mv),hs=>cS (mv.filter λv=>!decide (v=.non)) (bt (hs.headD []) c)
 | .one (.sum _ c),hs=>!decide (bt (hs.headD []) c="w")
 | .both ..,hs=>decide (hs.headD []=hs.getD 1 [])
 | .meet c d _ _,hs=>alike (bt (hs.headD []) c) (bt (hs.getD 1 []) d)
 | _,_=>true
def ql(k:Wk->Prop)(x:Wk)(hs:List Hd):Prop:=k x/\c9 x hs=true/\goodW x
theorem eV{c:Int}{h:Hd}(e:there c h=true):1<=c/\c<=h.length:=by
 unfold there at e
 simp only [UH,decide_eq_true_eq]at e
 exact e
theorem cF{x:W1}{h:Hd}{c:Int}(e:c9 (.one x) [h]=true)(hc:c∈c7 x):1<=c/\c<=h.length:=eV (List.all_eq_true.mp e c hc)
abbrev i8:Stmt:=top 23
theorem lr:ay ["worker","heads","column_sort"] ["worker","heads"] (ar i8):=fs
theorem uK{n:Nat}{tk:Tok}(mT:mg "TALLY"=some (.str "t" tk))(F:FA K mg "keep_fits" i8) :
  bc bf P w K mg base 1 "keep_fits" ["worker","heads"] (dC n bg (ql λx=>∃c t,x=.one (.keep c t))):=by
 refine F.ok lr λf cdv A outer s H vs Q E hr h=>?_
 obtain⟨a,l,x,as,hs,rfl,ha,hL,hn,hsm,ho,q⟩:=h
 refine⟨_,(aq (aL (i:=2) lr.nd rfl (Or.inl rfl) (az K (bj K (pv 1) ai) (aF bJ (az K (pv 0) ai) ai)))
   (av (bU aP (az K (az K (pv 0) ai) ai) (eK (aW aP (pv 2) (cQ (v:=.str "t") rfl mT ⟨_,rfl⟩)) ao (pv 2))))),?_⟩
 obtain⟨⟨c,t,rfl⟩,hf,hg⟩:=ho
 obtain⟨hd,rfl⟩:=df hn
 obtain⟨a0,e0,gm⟩:=hL.nth (i:=0) rfl
 obtain⟨st,xs,h1,h2⟩:=bW.mp ha
 have hc:=cF hf (c:=c) (by simp [c7])
 refine⟨_,rfl,l,_,0,_,rfl,rfl,a_.of hL.lst,au (j:=0) e0,_,rfl,a,_,1,_,rfl,rfl,aH.of h1,rfl,_,_,rfl,rfl,a0,_,_,_,rfl,rfl,aH.of gm,dD hc,ak ?_⟩
 dsimp only
 refine⟨_,rfl,a,_,2,_,rfl,rfl,aH.of h1,rfl,st,_,0,_,rfl,rfl,aH.of h2,au (j:=0) rfl,_,rfl,rfl,_,rfl,?_⟩
 have q:=q H (aM.refl _)
 have q:Q (.bl (decide (t=fV (bt hd c)))) H:=q
 unfold fV at q
 rw [bM]
 refine cH (λk=>?_) (λk=>?_)
 ·rw [if_pos (UI k),←bM]at q
  exact⟨rfl,q⟩
 ·rw [if_neg (λe=>k (T_ e)),←bM]at q
  exact⟨_,rfl,rfl,q⟩
abbrev jn:Stmt:=top 24
theorem se:ay ["worker","heads"] ["worker","heads"] (ar jn):=fs
theorem vF{n:Nat}(F:FA K mg "same_fits" jn)
  (fu:bc bf P w K mg base 1 "are_same_sort" ["one","other"] sf) :
  bc bf P w K mg base 2 "same_fits" ["worker","heads"] (dC n bg (ql λx=>∃c d,x=.one (.same c d))):=by
 refine F.ok se λf cdv A outer s H vs Q E hr h=>?_
 obtain⟨a,l,x,as,hs,rfl,ha,hL,hn,hsm,ho,q⟩:=h
 refine⟨_,(av (ax fu hr (ae (az K (bj K (pv 1) ai) (aF bJ (az K (pv 0) ai) ai)) (ae (az K (bj K (pv 1) ai) (aF bJ (az K (pv 0) ai) ai)) ah)))),?_⟩
 obtain⟨⟨c,d,rfl⟩,hf,hg⟩:=ho
 obtain⟨hd,rfl⟩:=df hn
 obtain⟨a0,e0,gm⟩:=hL.nth (i:=0) rfl
 have h1:H a=some (.tup [.str "same",.int c,.int d]):=bW.mp ha
 have hc:=cF hf (c:=c) (by simp [c7])
 have hc2:=cF hf (c:=d) (by simp [c7])
 refine⟨_,rfl,l,_,0,_,rfl,rfl,a_.of hL.lst,au (j:=0) e0,_,rfl,a,_,1,_,rfl,rfl,aH.of h1,rfl,_,_,rfl,rfl,a0,_,_,_,rfl,rfl,aH.of gm,dD hc,?_⟩
 exact⟨_,rfl,l,_,0,_,rfl,rfl,a_.of hL.lst,au (j:=0) e0,_,rfl,a,_,2,_,rfl,rfl,aH.of h1,rfl,_,_,rfl,rfl,a0,_,_,_,rfl,rfl,aH.of gm,dD hc2,_,_,rfl,q H (aM.refl _)⟩
abbrev j3:Stmt:=top 28
theorem vx:ay ["worker","heads"] ["worker","heads"] (ar j3):=fs
theorem xk{n:Nat}(F:FA K mg "sum_fits" j3) :
  bc bf P w K mg base 1 "sum_fits" ["worker","heads"] (dC n bg (ql λx=>∃cs c,x=.one (.sum cs c))):=by
 refine F.ok vx λf cdv A outer s H vs Q E hr h=>?_
 obtain⟨a,l,x,as,hs,rfl,ha,hL,hn,hsm,ho,q⟩:=h
 refine⟨_,(av (bU mz (az K (bj K (pv 1) ai) (aF bJ (az K (pv 0) ai) ai)) ao)),?_⟩
 obtain⟨⟨cs,c,rfl⟩,hf,hg⟩:=ho
 obtain⟨hd,rfl⟩:=df hn
 obtain⟨a0,e0,gm⟩:=hL.nth (i:=0) rfl
 obtain⟨t,h1,h2⟩:=bW.mp ha
 have hc:=cF hf (c:=c) (by simp [c7])
 have q:=q H (aM.refl _)
 have q:Q (.bl (!decide (bt hd c="w"))) H:=q
 rw [←bM]at q
 exact⟨_,rfl,l,_,0,_,rfl,rfl,a_.of hL.lst,au (j:=0) e0,_,rfl,a,_,2,_,rfl,rfl,aH.of h1,rfl,_,_,rfl,rfl,a0,_,_,_,rfl,rfl,aH.of gm,dD hc,rfl,q⟩
abbrev jC:Stmt:=top 30
theorem sx:ay ["worker","heads"] ["worker","heads"] (ar jC):=fs
theorem vp{n:Nat}(F:FA K mg "meet_fits" jC)
  (fu:bc bf P w K mg base 1 "are_same_sort" ["one","other"] sf) :
  bc bf P w K mg base 2 "meet_fits" ["worker","heads"] (dC n bg (ql λx=>∃c d p q,x=.meet c d p q)):=by
 refine F.ok sx λf cdv A outer s H vs Q E hr h=>?_
 obtain⟨a,l,x,as,hs,rfl,ha,hL,hn,hsm,ho,q⟩:=h
 refine⟨_,(av (ax fu hr (ae (az K (bj K (pv 1) ai) (aF bJ (az K (pv 0) ai) ai)) (ae (az K (bj K (pv 1) ai) (aF bJ (az K (pv 0) ai) ai)) ah)))),?_⟩
 obtain⟨⟨c,d,p1,p2,rfl⟩,hf,hg⟩:=ho
 obtain⟨h0,h2,rfl⟩:=dF hn
 obtain⟨a0,e0,gm⟩:=hL.nth (i:=0) rfl
 obtain⟨a1,e1,ve⟩:=hL.nth (i:=1) rfl
 cases n with
 | zero=>exact False.elim ha
 | succ n =>
 obtain⟨b,e,bs,es,h1,_⟩:=ha
 have hf:(there c h0&&there d h2)=true:=hf
 rw [UH]at hf
 refine⟨_,rfl,l,_,0,_,rfl,rfl,a_.of hL.lst,au (j:=0) e0,_,rfl,a,_,1,_,rfl,rfl,aH.of h1,rfl,_,_,rfl,rfl,a0,_,_,_,rfl,rfl,aH.of gm,dD (eV hf.1),?_⟩
 exact⟨_,rfl,l,_,1,_,rfl,rfl,a_.of hL.lst,au (j:=1) e1,_,rfl,a,_,2,_,rfl,rfl,aH.of h1,rfl,_,_,rfl,rfl,a1,_,_,_,rfl,rfl,aH.of ve,dD (eV hf.2),_,_,rfl,q H (aM.refl _)⟩
theorem oH(s t:List Str):cM (.tup (s.map D.str)) (.tup (t.map D.str))=decide (s=t):=by
 have gen:∀s t:List Str,ib (s.map D.str) (t.map D.str)=decide (s=t):=by
  intro s
  induction s with
  | nil=>intro t; cases t <;> simp [ib]
  | cons x s ih =>
   intro t
   cases t with
   | nil=>simp [ib]
   | cons y t =>
    rw [List.map_cons,List.map_cons,ib,ih t]
    by_cases e1:x=y <;> by_cases e2:s=t <;> simp [cM,e1,e2]
 rw [cM,gen]
theorem yT{K:UJ}{H:Hp}{a:Addr}{h:Hd}(e:dQ H a h):aY K H (.tup (h.map D.str)) (.ref a):=iE e (lK h)
theorem kB(h:List Str):(D.tup (h.map D.str)).depth<=1:=by
 rw [D.depth]
 have:cw (h.map D.str)<=0:=by
  induction h with
  | nil=>rw [List.map_nil,cw]; exact T7 _
  | cons x h ih=>rw [List.map_cons,cw]; exact Nat.max_le.mpr ⟨by simp [D.depth],ih⟩
 omega
abbrev jB:Stmt:=top 29
theorem tP:ay ["worker","heads"] ["worker","heads"] (ar jB):=fs
theorem vK{n:Nat}(F:FA K mg "both_fits" jB) :
  bc bf P w K mg base 1 "both_fits" ["worker","heads"] (dC n bg (ql λx=>∃p q,x=.both p q)):=by
 refine F.ok tP λf cdv A outer s H vs Q E hr h=>?_
 have hu:=iM hr
 obtain⟨a,l,x,as,hs,rfl,ha,hL,hn,hsm,ho,q⟩:=h
 refine⟨_,(av (bU ID (bj K (pv 1) ai) (bj K (pv 1) ai))),?_⟩
 obtain⟨⟨p1,p2,rfl⟩,hf,hg⟩:=ho
 obtain⟨h0,h2,rfl⟩:=dF hn
 obtain⟨a0,e0,gm⟩:=hL.nth (i:=0) rfl
 obtain⟨a1,e1,ve⟩:=hL.nth (i:=1) rfl
 refine⟨_,rfl,l,_,0,_,rfl,rfl,a_.of hL.lst,au (j:=0) e0,_,rfl,l,_,1,_,rfl,rfl,a_.of hL.lst,au (j:=1) e1,_,_,yT gm,yT ve,?_,?_⟩
 ·exact Ud (Nat.add_le_add_left (T8 (kB h0) (by decide:1<=8)) _) hu
 ·rw [oH]
  exact q H (aM.refl _)
end My
namespace L2
open PySem
section
variable{g g2:TG}{tc sN:TT}{te:TE}{wi2:TI}{D:Addr}{Q:VK}{N:St->List V->Hp->Prop}{qC:St}{H0:Hp}{Nt:List V}{K:UJ}{a:Addr}{xs:List V}
theorem qZ(Pv:Nat->St->List V->Hp->Prop)(h0:Pv 0 qC [] H0)(hD:∀i σ ys H,i<=xs.length->Pv i σ ys H->H D=some (.lst ys))(hl:∀i σ ys H,i<=xs.length->Pv i σ ys H->aH K H a xs)
  (hs:∀i x σ ys H,xs[i]? = some x->Pv i σ ys H->g x σ H λde H2=>tc de H2 λb H3=>if b=true then wi2 de H3 λJ2 H4=>∃W2:Nat->Nat->St->List V->Hp->Prop,(∃m,W2 0 m de ys H4)/\oA J2 g2 sN te D (Pv (i+1)) W2 else Pv (i+1) de ys H3)
  (hd:∀σ ys H,Pv xs.length σ ys H->Q (.ref D) H):∃W:Nat->Nat->St->List V->Hp->Prop,(∃m,W 0 m qC [] H0)/\rT (Gq K a) g tc wi2 g2 sN te D Q W:=by
 refine⟨λi m σ ys H=>m=xs.length-i/\i<=xs.length/\Pv i σ ys H,⟨xs.length,by simp,Uu _,h0⟩,?_⟩
 rintro i m σ ys H ⟨rfl,hi,p⟩
 have q:=hl i σ ys H hi p
 refine⟨hD i σ ys H hi p,?_⟩
 by_cases hlt:i<xs.length
 ·refine .inr ⟨⟨xs,xs[i],q,by simp [hlt]⟩,Pv (i+1),λσ' ys' H' p'=>⟨xs.length-(i+1),by omega,rfl,hlt,p'⟩,λx H' y=>?_⟩
  obtain⟨e,y⟩:=y
  subst e
  exact hs i x σ ys _ (y xs q) p
 ·have e:i=xs.length:=by omega
  subst e
  exact .inl ⟨⟨xs,q,T7 _⟩,hd σ ys H p⟩
theorem lF(Pv:Nat->St->List V->Hp->Prop)(h0:Pv 0 qC Nt H0)(hD:∀i σ ys H,i<=xs.length->Pv i σ ys H->H D=some (.lst ys)/\(i<xs.length->ys.length<sizeLine))(hl:∀i σ ys H,i<=xs.length->Pv i σ ys H->aH K H a xs)
  (hs:∀i x σ ys H,xs[i]? = some x->Pv i σ ys H->g x σ H λde H2=>tc de H2 λb H3=>if b=true then te de H3 λv H4=>H4 D=some (.lst ys)/\Pv (i+1) de (ys++[v]) (upd H4 D (.lst (ys++[v])))else Pv (i+1) de ys H3)
  (hd:∀σ ys H,Pv xs.length σ ys H->N σ ys H):∃W:Nat->Nat->St->List V->Hp->Prop,(∃m,W 0 m qC Nt H0)/\oA (Gq K a) g tc te D N W:=by
 refine⟨λi m σ ys H=>m=xs.length-i/\i<=xs.length/\Pv i σ ys H,⟨xs.length,by simp,Uu _,h0⟩,?_⟩
 rintro i m σ ys H ⟨rfl,hi,p⟩
 have q:=hl i σ ys H hi p
 refine⟨(hD i σ ys H hi p).1,?_⟩
 by_cases hlt:i<xs.length
 ·refine .inr ⟨⟨xs,xs[i],q,by simp [hlt]⟩,(hD i σ ys H hi p).2 hlt,Pv (i+1),λσ' ys' H' p'=>⟨xs.length-(i+1),by omega,rfl,hlt,p'⟩,λx H' y=>?_⟩
  obtain⟨e,y⟩:=y
  subst e
  exact hs i x σ ys _ (y xs q) p
 ·have e:i=xs.length:=by omega
  subst e
  exact .inl ⟨⟨xs,q,T7 _⟩,hd σ ys H p⟩
end
end L2
namespace My
open PySem L2
abbrev ja:Stmt:=top 25
theorem rN:ay ["worker","heads"] ["worker","heads"] (ar ja):=fs
variable{P:Program}{w:World}{K:UJ}{mg:Str->Option Value}{base:Heap}
theorem vB{n:Nat}(F:FA K mg "turn_fits" ja)
  (fm:bc bf P w K mg base 2 "cells_fit" ["cells","column_sort"] iS) :
  bc bf P w K mg base 3 "turn_fits" ["worker","heads"] (dC n bg (ql λx=>∃c ps,x=.one (.turn c ps))):=by
 refine F.ok rN λf cdv A outer s H vs Q E hr h=>?_
 have hu:=iM hr
 obtain⟨a,l,x,as,hs,rfl,ha,hL,hn,hsm,ho,q⟩:=h
 refine⟨_,(av (ax fm hr (ae (qR (N':=["pair","cell"]) (src:=[none,none]) rfl (ba.jE (by kernel_rfl)) (cI (az K (pv 0) ai)) (λcl C s H fp=>(el (i:=0))) (λcl C s H fp=>aX) (wi2:=(Fm K (bx 0))) (λcl C s H fp=>(cI (iX 0))) (λcl C s H fp=>(el (i:=1))) (λcl C s H fp=>aX) (te:=(bx 1)) (λcl C s H fp=>(iX 1))) (ae (az K (bj K (pv 1) ai) (aF bJ (az K (pv 0) ai) ai)) ah)))),?_⟩
 obtain⟨⟨c,ps,rfl⟩,hf,hg⟩:=ho
 obtain⟨hd,rfl⟩:=df hn
 obtain⟨a0,e0,gm⟩:=hL.nth (i:=0) rfl
 obtain⟨t,bs,h1,hI⟩:=bW.mp ha
 have hc:=cF hf (c:=c) (by simp [c7])
 have hz:ps.length<=1000:=hsm
 have hg:∀p∈ps,dO p.1/\dO p.2:=hg
 have hlb:(bs.map V.ref).length=ps.length:=by rw [Ua,hI.len]
 refine⟨_,rfl,a,_,2,_,rfl,rfl,aH.of h1,rfl,t,rfl,⟨_,aH.of hI.tup⟩,λD hD=>?_⟩
 refine qZ (xs:=bs.map V.ref) (λi σ ys H'=>(∃o1 o2,σ=[o1,o2])/\ys=(ps.take i).flatMap (λp=>[p.1,p.2])/\ys.length=2*i/\H' D=some (.lst ys)/\aM H H') ⟨⟨none,none,rfl⟩,rfl,rfl,ag,aj hD _⟩ ?_ ?_ ?_ ?_
 ·rintro i σ ys H' _ ⟨_,_,_,h,_⟩
  exact h
 ·rintro i σ ys H' _ ⟨_,_,_,_,sm⟩
  exact aH.of (sm _ _ hI.tup)
 ·rintro i v σ ys H' hv ⟨⟨o1,o2,rfl⟩,rfl,hi,h,sm⟩
  obtain⟨b,p,rfl,ep,hb⟩:=hI.get hv
  have hib:i<1000:=by have:=(Um.mp ep).1; omega
  refine ak ⟨_,rfl,b,rfl,⟨_,aH.of (sm _ _ hb)⟩,?_⟩
  refine lF (xs:=[p.1,p.2]) (λj σ zs H2=>(∃o,σ=[some (.ref b),o])/\zs=(ps.take i).flatMap (λp=>[p.1,p.2])++[p.1,p.2].take j/\zs.length=2*i+j/\H2 D=some (.lst zs)/\aM H H2) ⟨⟨o2,rfl⟩,by rw [List.take_zero,List.append_nil],hi,h,sm⟩ ?_ ?_ ?_ ?_
  ·rintro j σ zs H2 hj ⟨_,_,Ms,h2,_⟩
   refine⟨h2,λ_=>?_⟩
   rw [Ms]
   exact Ud (show 2*i+j<=3000 by have:j<=2:=hj; omega) (by decide)
  ·rintro j σ zs H2 _ ⟨_,_,_,_,s2⟩
   exact aH.of (s2 _ _ hb)
  ·rintro j u σ zs H2 hu' ⟨⟨o,rfl⟩,rfl,Ms,h2,s2⟩
   refine ak ⟨_,rfl,h2,⟨_,rfl⟩,?_,?_,ag,bq hD s2⟩
   ·rw [take_one hu',List.append_assoc]
   ·rw [Ub,Ms]; rfl
  ·rintro σ zs H2 ⟨⟨o,rfl⟩,rfl,Ms,h2,s2⟩
   refine⟨⟨_,_,rfl⟩,?_,by rw [Ms]; show 2*i+2=_; omega,h2,s2⟩
   rw [take_one ep,List.flatMap_append]
   rfl
 ·rintro σ ys H1 ⟨_,rfl,hyl,h,sm⟩
  rw [hlb,List.take_length]at h hyl
  refine⟨_,rfl,l,_,0,_,rfl,rfl,a_.of (sm _ _ hL.lst),au (j:=0) e0,_,rfl,a,_,1,_,rfl,rfl,aH.of (sm _ _ h1),rfl,_,_,rfl,rfl,a0,_,_,_,rfl,rfl,aH.of (sm _ _ gm),dD hc,?_⟩
  refine⟨D,_,_,rfl,h,by omega,λv hv=>?_,λH' s'=>q H' (sm.trans s')⟩
  obtain⟨p,hp,hv⟩:=List.mem_flatMap.mp hv
  simp only [Uq,List.not_mem_nil,or_false]at hv
  rcases hv with rfl | rfl
  ·exact(hg p hp).1
  ·exact(hg p hp).2
abbrev jz:Stmt:=top 27
theorem lg:ay ["worker","heads","cells"] ["worker","heads"] (ar jz):=fs
theorem uw{n:Nat}(F:FA K mg "walk_fits" jz)
  (fm:bc bf P w K mg base 2 "cells_fit" ["cells","column_sort"] iS) :
  bc bf P w K mg base 3 "walk_fits" ["worker","heads"] (dC n bg (ql λx=>∃c mv,x=.one (.walk c mv))):=by
 refine F.ok lg λf cdv A outer s H vs Q E hr h=>?_
 obtain⟨a,l,x,as,hs,rfl,ha,hL,hn,hsm,ho,q⟩:=h
 refine⟨_,(aq (j7 (i:=2) (N':=["state","cell","after"]) (src:=[none,none,none]) lg.nd rfl (Or.inl rfl) rfl rfl (ba.jE (by kernel_rfl)) (cI (az K (pv 0) ai)) (g:=(iu K 3 (bP (bz 0) (bP (bz 1) (bP (bz 2) iJ))))) (λcl C s H fp=>(cB rfl (aA (el (i:=0)) (aA (el (i:=1)) (aA (el (i:=2)) bS))))) (tc:=(qK (gB (λx y H Q=>y=.non/\Q (.bl (!decide (x=.non))) H) (bx 1) (tC .non)))) (λcl C s H fp=>oO (aW tj (iX 1) iz)) (te:=(bx 1)) (λcl C s H fp=>(iX 1)))
   (av (ax fm hr (ae (pv 2) (ae (az K (bj K (pv 1) ai) (aF bJ (az K (pv 0) ai) ai)) ah))))),?_⟩
 obtain⟨⟨c,mv,rfl⟩,hf,hg⟩:=ho
 obtain⟨hd,rfl⟩:=df hn
 obtain⟨a0,e0,gm⟩:=hL.nth (i:=0) rfl
 obtain⟨st,t,bs,h1,hI⟩:=bW.mp ha
 have hc:=cF hf (c:=c) (by simp [c7])
 have hz:mv.length<=1000:=hsm
 have hg:∀v∈mv,v=.non\/dO v:=hg
 have hlb:(bs.map V.ref).length=mv.length:=by rw [Ua,hI.len]
 refine⟨_,rfl,a,_,3,_,rfl,rfl,aH.of h1,rfl,t,rfl,⟨_,aH.of hI.tup⟩,λD hD=>?_⟩
 refine cE (xs:=bs.map V.ref) (λi σ ys H'=>(∃o1 o2 o3,σ=[o1,o2,o3])/\ys=(mv.take i).filter (λv=>!decide (v=.non))/\ys.length<=i/\H' D=some (.lst ys)/\aM H H') ⟨⟨none,none,none,rfl⟩,rfl,T7 _,ag,aj hD _⟩ ?_ ?_ ?_ ?_ ?_
 ·rintro i σ ys H' _ ⟨_,_,hi,h,_⟩
  exact⟨h,hi⟩
 ·rintro i σ ys H' _ ⟨_,_,_,_,sm⟩
  exact aH.of (sm _ _ hI.tup)
 ·rw [hlb]; exact T8 hz (by decide)
 ·rintro i v σ ys H' hv ⟨⟨o1,o2,o3,rfl⟩,rfl,hi,h,sm⟩
  obtain⟨b,u,rfl,eu,s1,t1,hb⟩:=hI.get hv
  refine⟨b,_,rfl,aH.of (sm _ _ hb),rfl,_,_,rfl,ak ⟨_,_,rfl,ak ⟨_,_,rfl,ak ⟨rfl,?_⟩⟩⟩⟩
  refine⟨_,rfl,rfl,_,rfl,?_⟩
  refine cH (λk=>?_) (λk=>?_)
  ·refine⟨_,rfl,h,⟨_,_,_,rfl⟩,?_,by rw [Ub]; simp only [List.length_singleton]; omega,ag,bq hD sm⟩
   rw [take_one eu,List.filter_append,List.filter_cons,if_pos k]
   rfl
  ·refine⟨⟨_,_,_,rfl⟩,?_,by omega,h,sm⟩
   rw [take_one eu,List.filter_append,List.filter_cons,if_neg k]
   simp
 ·rintro σ ys H1 ⟨_,rfl,hyl,h,sm⟩
  rw [hlb,List.take_length]at h hyl
  refine ak ?_
  dsimp only
  refine⟨_,rfl,_,rfl,l,_,0,_,rfl,rfl,a_.of (sm _ _ hL.lst),au (j:=0) e0,_,rfl,a,_,1,_,rfl,rfl,aH.of (sm _ _ h1),rfl,_,_,rfl,rfl,a0,_,_,_,rfl,rfl,aH.of (sm _ _ gm),dD hc,?_⟩
  refine⟨D,_,_,rfl,h,by omega,λv hv=>?_,λH' s'=>q H' (sm.trans s')⟩
  obtain⟨hm,hk⟩:=List.mem_filter.mp hv
  rcases hg v hm with rfl | z
  ·simp at hk
  ·exact z
end My
namespace L2
open PySem PySem.Spec PyProof.Rows
open Classical in
noncomputable def lz (ks:List Key) (k:Key):Bool:=decide (k∈ks)
open Classical in
theorem f_{ks:List Key}{k:Key}:lz ks k=true↔k∈ks:=by
 unfold lz
 exact decide_eq_true_iff
noncomputable def fD (ks:List Key) (k:Key):List Key:=if lz ks k=true then ks else ks++[k]
theorem BB(ks:List Key)(k k':Key):lz (fD ks k) k'=(lz ks k'||decide (k'=k)):=by
 rw [Bool.eq_iff_iff,Bool.or_eq_true,decide_eq_true_eq,f_,f_]
 unfold fD
 by_cases h:lz ks k=true
 ·rw [if_pos h]
  exact⟨.inl,λz=>z.elim id λe=>by rw [e]; exact f_.mp h⟩
 ·rw [if_neg h,Us,Uo]
def xT(J:It)(g:TG)(te:TE)(Q:VK)(W:Nat->Nat->St->List Key->Hp->Prop):Prop :=
 ∀i m σ ks H,W i m σ ks H->ks.length+1<scanBound/\((J.stop i H/\Q (.int (ks.length:Nat)) H)\/(J.go i H/\∃N:St->List Key->Hp->Prop,(∀σ' ks' H',N σ' ks' H'->∃m',m'<m/\W (i+1) m' σ' ks' H')/\
  ∀x H',J.E6 i H x H'->g x σ H' λde H2=>te de H2 λv H3=>∃k,v=kV k/\N de (fD ks k) H3))
def FH(src:List (Option Nat))(wi:TI)(g:TG)(te:TE):TE:=λσ H Q=>wi σ H λJ H1=>∃W:Nat->Nat->St->List Key->Hp->Prop,(∃m,W 0 m (jM src σ) [] H1)/\xT J g te Q W
section
variable{prog:Program}{w:World}{A:Around}{s:Shared}{R:Result->Shared->Prop}{elt target iter:Expr}{sc:Scope}{pos:Pos}{it acc:Value}{env:Env}
theorem zJ:compTurn (.SetComp elt [⟨target,iter,[],0⟩] sc pos) 0 it acc env=(standAt iter.pos >>= λ_=>pyNext it >>= λr=>match r with
   | none=>pure (.done .next)
   | some v=>letOwnedTupleGo target it v >>= λ_=>assign target env v >>= λ_=>(eval elt env >>= λx=>standAt elt.pos >>= λ_=>call (.builtin "set.add") [acc,x] >>= λ_=>pure ()) >>= λ_=>again (.compLoop (.SetComp elt [⟨target,iter,[],0⟩] sc pos) 0 it acc env)):=by rfl
theorem yb(h0:codeAny (model prog w) A (.compLoop (.SetComp elt [⟨target,iter,[],0⟩] sc pos) 0 it acc env) R s)
  (h:wpAny (model prog w) A (pyIter it) (λit' s'=>codeAny (model prog w) A (.compLoop (.SetComp elt [⟨target,iter,[],0⟩] sc pos) 0 it' acc env) R s') (notedBy (model prog w) A env λx s'=>R (.error x) s') s) :
  codeAny (model prog w) A (.compStart (.SetComp elt [⟨target,iter,[],0⟩] sc pos) 0 it acc env) R s:=by
 refine codeAny_of_tree (show wpAny _ _ ((compStart (.SetComp elt [⟨target,iter,[],0⟩] sc pos) 0 it acc env).onRaise (λx=>do noteFrame x env; standAt theWindowsPlace)) _ _ s from wpAny_notedAt ?_)
 unfold compStart
 refine show wpAny _ _ (ask >>= _) _ _ s from TZ (wpAny_askSetting (wpAny_ite ?_))
 split
 ·first | exact TZ (T1 (T1 ⟨rfl,h0⟩)) | exact T1 ⟨rfl,h0⟩
 ·refine TZ (wpAny_rule (show wpAny _ _ (standAt iter.pos >>= _) _ _ s from ?_))
  exact TZ (wpAny_standAt (TZ (b_ h λit' s' h'=>T1 ⟨rfl,h'⟩)))
theorem zN(Iv:Nat->Shared->Prop)
  (turn:∀n s,Iv n s->wpAny (model prog w) A (pyNext it) (λr s₁=>match r with
   | none=>R (.ok .next) s₁
   | some v=>wpAny (model prog w) A (letOwnedTupleGo target it v) (λ_ s₁'=>wpAny (model prog w) A (assign target env v) (λ_ s₂=>wpAny (model prog w) A (eval elt env) (λx s₄ =>
       wpAny (model prog w) A (call (.builtin "set.add") [acc,x]) (λ_ s₅=>∃m,m<n/\Iv m s₅) (λ_ _=>False) s₄) (λ_ _=>False) s₂) (λ_ _=>False) s₁') (λ_ _=>False) s₁) (λ_ _=>False) s)
  (n:Nat) (h:Iv n s):codeAny (model prog w) A (.compLoop (.SetComp elt [⟨target,iter,[],0⟩] sc pos) 0 it acc env) R s:=by
 refine codeAny_loop rfl Iv (λn s hI=>?_) n h
 show wpAny _ A ((compTurn (.SetComp elt [⟨target,iter,[],0⟩] sc pos) 0 it acc env).onRaise (λx=>do noteFrame x env; theTreesLotGoes x)) _ _ s
 refine wpAny_noted ?_
 rw [zJ]
 refine TZ (wpAny_standAt (TZ (UB (turn n s hI) (λr s₁ h₁=>?_) λ_ _ h'=>h'.elim)))
 cases r with
 | none=>exact T1 h₁
 | some v =>
  refine TZ (UB h₁ (λ_ s₁' h₁'=>TZ (UB h₁' (λ_ s₂ h₂=>?_) λ_ _ h'=>h'.elim)) λ_ _ h'=>h'.elim)
  exact TZ (TZ (UB h₂ (λx s₄ h₄=>TZ (wpAny_standAt (TZ (UB h₄ (λ_ s₅ h₅=>T1 (T1 ⟨rfl,h₅⟩)) λ_ _ h'=>h'.elim)))) λ_ _ h'=>h'.elim))
end
theorem Jb{k:Key}{u:Value}(r:RelV (kV k) u):fL k u=true/\u.scannable=true:=by
 cases k with
 | inl i=>obtain⟨t,rfl⟩:=r; exact⟨lT _ _,rfl⟩
 | inr x=>obtain⟨t,rfl⟩:=r; exact⟨lR _ _,rfl⟩
section
variable{X:Cx}{elt target iter:Expr}{sc:Scope}{pos:Pos}{wi:TI}{g:TG}{te:TE}{N':List Str}{src:List (Option Nat)}
abbrev rR(h:Heap)(prog:Program)(w:World)(S:Addr)(ks:List Key):Prop:=h.SetOf (bH prog w) S (λk=>lz ks k) ks.length
theorem CA{h:Heap}{prog:Program}{w:World}{S:Addr}{ks:List Key}(x:rR h prog w S ks):∃o,h.get? S=some o/\∀v,o.data≠ .cell v:=by
 obtain⟨o,es,ep,t,ho,_,hd,_⟩:=x
 exact⟨o,ho,λv z=>by rw [hd]at z; cases z⟩
theorem jD{h h':Heap}{prog:Program}{w:World}{S:Addr}{ks:List Key}(x:rR h prog w S ks)(k:∀o,h.get? S=some o->h'.get? S=some o):rR h' prog w S ks:=by
 obtain⟨o,es,ep,t,ho,z⟩:=x
 exact⟨o,es,ep,t,k _ ho,z⟩
theorem yd{pins:List (Addr×Obj)}{σ:St}{H2:Hp}{s2:Shared}{it:Addr}{fp:List Addr}{tn:Nat->Heap->Prop}{J:It}{Q:VK}{E:Value->Shared->Prop}{RR:Value->Addr->Result->Shared->Prop}
  (hc:X.calm=true) (S:ba X.env.scope X.N N' src sc)
  (hg:∀cl C s H fp,PG (aK X N' sc cl C s H fp) target g) (he:∀cl C s H fp,PE (aK X N' sc cl C s H fp) elt te)
  (I2:Inv X pins σ H2 s2) (T:Turn X.prog X.w X.K target J fp it tn) (st2:tn 0 s2.heap) (f2:∀b∈fp,dz X pins H2 b)
  (hW:∃W:Nat->Nat->St->List Key->Hp->Prop,(∃m,W 0 m (jM src σ) [] H2)/\xT J g te Q W)
  (hRR:∀D C s5 H' m ks,Inv X pins σ H' s5->s5.heap.Ns C m->dz X pins H' C->C≠D->rR s5.heap X.prog X.w D ks->Q (.int (ks.length:Nat)) H'->RR (.ref D) C (.ok .next) s5) :
  wpAny (model X.prog X.w) X.A (newSet (.type "set")) (λacc s₃=>wpAny (model X.prog X.w) X.A (newFunctionEnv sc X.env.globals (bL X.env.cells sc.names []) [] X.env.qual none .none (some X.env)) (λcenv s₄ =>
   codeAny (model X.prog X.w) X.A (.compStart (.SetComp elt [⟨target,iter,[],0⟩] sc pos) 0 (.ref it) acc {cenv with scope:=relabel sc X.env}) (RR acc cenv.locals) s₄) E s₃) E s2:=by
 have o2:∀b∈fp,b<s2.heap.objs.size:=λb hb=>by
  obtain⟨o,e,_⟩:=T.obj 0 _ st2 b hb
  exact T5 e
 refine wpAny_newSet_of (knd:=bH X.prog X.w) λled hS=>?_
 have Jz:H2 s2.heap.objs.size=none:=I2.hok.fresh (T7 _)
 obtain⟨W,⟨m0,w0⟩,turn⟩:=hW
 have Gx:∀b o,s2.heap.get? b=some o->(s2.heap.push {cls:=.type "set",dict:=none,data:=.set #[] 0 (.fresh 0 0 led)}).get? b=some o:=λb o e=>T4 _ e
 have I3:Inv X pins σ H2 {s2 with heap:=s2.heap.push {cls:=.type "set",dict:=none,data:=.set #[] 0 (.fresh 0 0 led)}}:=I2.kept (t':=s2.toks) Gx
 have fS:dz X pins H2 s2.heap.objs.size:=I2.lZ (T7 _) Jz
 have st3:tn 0 (s2.heap.push {cls:=.type "set",dict:=none,data:=.set #[] 0 (.fresh 0 0 led)}):=T.keep 0 _ _ st2 λb hb o e=>Gx b o e
 generalize hs3:({s2 with heap:=s2.heap.push {cls:=.type "set",dict:=none,data:=.set #[] 0 (.fresh 0 0 led)}}:Shared)=s3 at I3
 have hh3:s3.heap=s2.heap.push {cls:=.type "set",dict:=none,data:=.set #[] 0 (.fresh 0 0 led)}:=by rw [←hs3]
 have Eb:s2.heap.objs.size<s3.heap.objs.size:=by rw [hh3,Heap.size_push]; exact Nat.lt_succ_self _
 generalize TH:s2.heap.objs.size=Sa at *
 have o3:∀b∈Sa::fp,b<s3.heap.objs.size:=λb hb=>by
  rcases Uq.mp hb with rfl | hb
  ·exact Eb
  ·exact Nat.lt_trans (o2 b hb) Eb
 have nS:∀b∈fp,b≠Sa:=λb hb=>Ut (o2 b hb)
 have f3:∀b∈Sa::fp,dz X pins H2 b:=λb hb=>by
  rcases Uq.mp hb with rfl | hb
  ·exact fS
  ·exact f2 b hb
 rw [←hh3]at st3 hS
 refine wpAny_newFunctionEnv S.oP (by intro y hy; simp at hy) (λh1 hns hsb=>?_) S.kind
 have hsb':Heap.SameBut s3.heap.objs.size (s3.heap.push {cls:=.type "dict",data:=.dict #[]}) h1:=hsb
 have I4:Inv (aK X N' sc (bL X.env.cells sc.names []) s3.heap.objs.size s3 H2 (Sa::fp)) [] (jM src σ) H2 {s3 with heap:=h1,toks:=s3.toks+([]:List (Str×Value)).length} :=
  iI S I3 f3 o3 hns hsb'
 have k4:∀b o,b<s3.heap.objs.size->s3.heap.get? b=some o->h1.get? b=some o:=λb o hb e=>(hsb'.2 b (Ut hb)).trans (T4 _ e)
 have BC:tn 0 h1:=T.keep 0 _ _ st3 λb hb o e=>k4 b o (o3 b (Uj _ hb)) e
 have e0:(λk:Key=>lz [] k) = λ_=>false:=by
  funext k
  exact Ur.mpr λz=>by cases f_.mp z
 have SM:rR s3.heap X.prog X.w Sa []:=by
  show Heap.SetOf _ _ _ (λk=>lz [] k) _
  rw [e0]
  exact hS
 have Rg:rR h1 X.prog X.w Sa []:=jD SM λo e=>k4 _ o Eb e
 have fC:∀(H':Hp),H' s3.heap.objs.size=none->dz X pins H' s3.heap.objs.size:=λH' hn=>I3.lZ (T7 _) hn
 generalize hY:aK X N' sc (bL X.env.cells sc.names []) s3.heap.objs.size s3 H2 (Sa::fp)=Y at I4
 have MU:Y.prog=X.prog:=by rw [←hY]
 have MM:Y.w=X.w:=by rw [←hY]
 have Qy:Y.K=X.K:=by rw [←hY]
 have QG:Y.calm=X.calm:=by rw [←hY]
 have MN:Y.A=X.A:=by rw [←hY]
 have Qm:Y.env=compEnvC sc (bL X.env.cells sc.names []) s3.heap.objs.size X.env:=by rw [←hY]
 have MP:Y.ex=Sa::fp:=by rw [←hY]
 have Pq:Y.xe = λ_ _=>False:=by rw [←hY]
 have Sn:Y.pn=[]:=by rw [←hY]
 have O5:PG Y target g:=by rw [←hY]; exact hg _ _ _ _ _
 have NT:PE Y elt te:=by rw [←hY]; exact he _ _ _ _ _
 have stat:∀{pl:List (Addr×Obj)} {H':Hp} {b:Addr},H' b=none->b∈Sa::fp->(∀p∈pl,p.1≠b)->dz Y pl H' b:=λ{pl H' b} hn hb hp =>
  ⟨hn,(I4.ok.Ak b (by rw [MP]; exact hb)).1,I4.ok.oj b (by rw [MP]; exact hb),.inl (by rw [MP]; exact hb),(I4.ok.Ak b (by rw [MP]; exact hb)).2,λp h=>hp p (by rw [Sn]at h; exact h)⟩
 have L6:∀{σ':St} {H':Hp} {s':Shared} {pl:List (Addr×Obj)} {o:Obj},Inv Y pl σ' H' s'->s'.heap.get? Sa=some o->(∀v,o.data≠ .cell v)->H' Sa=none->Inv Y [(Sa,o)] σ' H' s':=λ{σ' H' s' pl o} J e d hn =>
  J.iQ λp hp=>by
   have:p=(Sa,o):=by simpa using hp
   subst this
   exact⟨e,hn,(stat (pl:=[]) hn UE λ_ z=>nomatch z).2.1,(stat (pl:=[]) hn UE λ_ z=>nomatch z).2.2.1,d⟩
 have loop:codeAny (model X.prog X.w) X.A (.compLoop (.SetComp elt [⟨target,iter,[],0⟩] sc pos) 0 (.ref it) (.ref Sa) (compEnvC sc (bL X.env.cells sc.names []) s3.heap.objs.size X.env))
   (RR (.ref Sa) s3.heap.objs.size) {s3 with heap:=h1,toks:=s3.toks+([]:List (Str×Value)).length}:=by
  refine zN (λn s'=>∃i σ' ks H',Inv Y [] σ' H' s'/\tn i s'.heap/\(∀b∈Sa::fp,H' b=none)/\rR s'.heap X.prog X.w Sa ks/\W i n σ' ks H') ?_ m0
   ⟨0,_,[],_,I4,BC,λb hb=>(f3 b hb).1,Rg,w0⟩
  rintro n s5 ⟨i,mR,ks,H5,I5,uc,vX,NJ,w5⟩
  obtain⟨hroom,alt⟩:=turn i n mR ks H5 w5
  obtain⟨oS,eS,dS⟩:=CA NJ
  have Pr:=L6 I5 eS dS (vX _ UE)
  have Di:∀{H':Hp},(∀b∈fp,H' b=none)->∀b∈fp,dz Y [(Sa,oS)] H' b:=λhn b hb=>stat (hn b hb) (Uj _ hb) λp hp=>by
   have:p=(Sa,oS):=by simpa using hp
   subst this
   exact(nS b hb).symm
  have PC:∀b∈fp,H5 b=none:=λb hb=>vX b (Uj _ hb)
  rcases alt with⟨stop,qn⟩ | ⟨go,N,hN,step⟩
  ·have:=T.done Y MU MM Qy (by rw [QG]; exact hc) i [(Sa,oS)] s5 mR H5 (λ_ _=>False) Pr (Di PC) uc stop
   rw [MN]at this
   refine b_ this λr s6 ⟨hr,I6⟩=>?_
   subst hr
   have Rc:rR s6.heap X.prog X.w Sa ks:=jD NJ λo e=>by
    rw [eS]at e; cases e
    exact(I6.pin (Sa,oS) (Uh _ (.head _))).1
   subst hY
   obtain⟨m6,n6,_⟩:=id I6.loc
   exact hRR _ _ s6 H5 m6 ks (I3.call' I6.os I6.base I6.hok I6.bare λb hb=>⟨(f3 b hb).2.2.2.1,(f3 b hb).2.1,(f3 b hb).2.2.2.2.1,(f3 b hb).2.2.2.2.2⟩) n6 (fC _ I6.free) (Nat.ne_of_gt Eb) Rc qn
  ·have:=T.item Y MU MM Qy (by rw [QG]; exact hc) i [(Sa,oS)] s5 mR H5 (λ_ _=>False) Pr (Di PC) uc go
   rw [MN]at this
   refine b_ this λr s6 ⟨u,hr,h6⟩=>?_
   subst hr
   refine b_ h6 λ_ s7 ⟨x,H7,I7,r7,y7,rP,F9⟩=>?_
   have Fh:=I7.pinned (Di F9) (T.obj _ _ rP)
   have Qw:=O5 _ s7 mR H7 x u _ Fh r7 (step x H7 y7)
   rw [MU,MM,MN,Qm,Pq]at Qw
   refine b_ Qw λ_ s8 ⟨ue,H8,I8,q8⟩=>?_
   have Qd:=NT _ s8 ue H8 _ I8 q8
   rw [MU,MM,MN,Qm,Pq]at Qd
   refine b_ Qd λxv s9 ⟨v,H9,I9,r9,k,ek,w9⟩=>?_
   subst ek
   obtain⟨hk1,hk2⟩:=Jb r9
   have pS:=I9.pin (Sa,oS) (Uh _ (List.mem_append_left _ (.head _)))
   have R7:rR s9.heap X.prog X.w Sa ks:=jD NJ λo e=>by
    rw [eS]at e; cases e
    exact pS.1
   refine call_set_add (knd:=bH X.prog X.w) (k:=k) hk1 hk2 R7 hroom λh' hsb hS'=>?_
   obtain⟨m',hm,w'⟩:=hN _ _ _ w9
   have Hg:∀b∈fp,∀o,s7.heap.get? b=some o->s9.heap.get? b=some o/\H9 b=none:=λb hb o e=>by
    have:=I9.pin (b,o) (Uh _ (Uh _ (cL hb e)))
    exact⟨this.1,this.2.1⟩
   have QP:Inv Y [] ue H9 s9:=I9.iQ λp hp=>nomatch hp
   have Mi:=stat (pl:=[]) (H':=H9) (b:=Sa) pS.2.1 UE λ_ z=>nomatch z
   refine⟨m',hm,i+1,ue,fD ks k,H9,QP.turned (t':=s9.toks+1) (λb o hb e=>(hsb.2 b hb).trans e) Mi.1 Mi.2.1 Mi.2.2.2.1 Mi.2.2.2.2.1 Mi.2.2.2.2.2,T.keep _ _ _ rP λb hb o e=>(hsb.2 b (nS b hb)).trans (Hg b hb o e).1,λb hb=>?_,?_,w'⟩
   ·rcases Uq.mp hb with rfl | hb
    ·exact pS.2.1
    ·obtain⟨o,e,_⟩:=T.obj _ _ rP b hb
     exact(Hg b hb o e).2
   ·have e1:(λk'=>lz ks k'||decide (k'=k)) = λk'=>lz (fD ks k) k':=by
     funext k'
     exact(BB ks k k').symm
    have e2:(if lz ks k=true then ks.length else ks.length+1)=(fD ks k).length:=by
     unfold fD
     by_cases h:lz ks k=true
     ·rw [if_pos h,if_pos h]
     ·rw [if_neg h,if_neg h,Ub]; rfl
    show h'.SetOf (bH X.prog X.w) Sa (λk'=>lz (fD ks k) k') (fD ks k).length
    rw [←e1,←e2]
    exact hS'
 exact yb loop (T.self _ 0 _ _ _ BC loop)
theorem wW{np lp:Pos}(hc:X.calm=true)(Ru:Gl X "len")(Pw:X.mg "len"=none)(S:ba X.env.scope X.N N' src sc)(hi:PI X target iter wi)
  (hg:∀cl C s H fp,PG (aK X N' sc cl C s H fp) target g) (he:∀cl C s H fp,PE (aK X N' sc cl C s H fp) elt te)
  (hs:∀x,foldedSetIterable iter X.env x=pure x:=by intro _; rfl) (hs1:starEach [Expr.SetComp elt [⟨target,iter,[],0⟩] sc pos] X.env=[(false,eval (.SetComp elt [⟨target,iter,[],0⟩] sc pos) X.env)]:=by rfl) :
  PE X (.Call (.Name "len" np) [.SetComp elt [⟨target,iter,[],0⟩] sc pos] [] lp) (FH src wi g te):=by
 intro pins s σ H Q I h
 refine wpAny_Call_Name_kw (iT I Ru Pw PySem.boot_len ?_ (by decide) (by decide))
 refine PyProof.Rows.callWith_builtin1 ?_ hs1 rfl
 rw [hs1]
 refine Calls.spliced_cons ?_
 rw [arm_eval_SetComp]
 refine wpAny_comprehension_free (use:=none) (e:=.SetComp elt [⟨target,iter,[],0⟩] sc pos) (g:=⟨target,iter,[],0⟩) (gs:=[]) rfl hs (cY λy hy hk=>I.ok.has y.1 (S.free y hy hk)) S.kind (λy hy hl=>by rw [←hl]; exact S.uniq y hy) ?_
 refine b_ (hi pins s σ H _ I h) λv s1 h1=>b_ h1 λitv s2 h2=>?_
 obtain⟨it,fp,tn,J,H2,e,I2,T,st2,f2,hW⟩:=h2
 subst e
 refine yd (Q:=Q) (RR:=λacc C=>compPost (model X.prog X.w) X.A X.xe none (λv s2=>wpAny (model X.prog X.w) X.A (spliced []) (λvs s3=>wpAny (model X.prog X.w) X.A (call (.builtin "len") (v::vs)) (EP X pins σ Q) X.xe s3) X.xe s2) acc C) hc S hg he I2 T st2 f2 hW ?_
 intro D C s5 H' m ks I5 n5 fC hCD hS q
 refine⟨m,n5,λh' sb=>Calls.spliced_nil ?_⟩
 have I6:=I5.turned (t':=s5.toks) (λb o hb e=>(sb.2 b hb).trans e) fC.1 fC.2.1 fC.2.2.2.1 fC.2.2.2.2.1 fC.2.2.2.2.2
 obtain⟨o,es,ep,t,ho,hex,hd,hel,_,hb,hf,hn⟩:=jD (h':=h') hS λo e=>(sb.2 _ hCD.symm).trans e
 have hsc:(scanBound:Int)<2 ^ 63:=by decide
 have hlt:((es.size:Nat):Int)<2 ^ 63:=Int.lt_trans (Int.ofNat_lt.mpr hb) hsc
 refine call_len_set (s:={s5 with heap:=h',toks:=s5.toks}) ho hex hd hf hlt ?_
 exact⟨.int (ks.length:Nat),H',I6.kept (h':=h') (t':=s5.toks+1+1) λ_ _ e=>e,⟨_,by rw [hn]⟩,q⟩
end
end L2
namespace L2
open PySem
theorem ye{K:UJ}{a:Addr}{xs:List V}{g:TG}{te:TE}{Q:VK}{qC:St}{H0:Hp}(Pv:Nat->St->List Key->Hp->Prop)(h0:Pv 0 qC [] H0)(hb:∀i σ ks H,i<=xs.length->Pv i σ ks H->ks.length+1<scanBound)(hl:∀i σ ks H,i<=xs.length->Pv i σ ks H->aH K H a xs)
  (hs:∀i x σ ks H,xs[i]? = some x->Pv i σ ks H->g x σ H λde H2=>te de H2 λv H3=>∃k,v=kV k/\Pv (i+1) de (fD ks k) H3)
  (hd:∀σ ks H,Pv xs.length σ ks H->Q (.int (ks.length:Nat)) H):∃W:Nat->Nat->St->List Key->Hp->Prop,(∃m,W 0 m qC [] H0)/\xT (Gq K a) g te Q W:=by
 refine⟨λi m σ ks H=>m=xs.length-i/\i<=xs.length/\Pv i σ ks H,⟨xs.length,by simp,Uu _,h0⟩,?_⟩
 rintro i m σ ks H ⟨rfl,hi,p⟩
 have q:=hl i σ ks H hi p
 refine⟨hb i σ ks H hi p,?_⟩
 by_cases hlt:i<xs.length
 ·refine .inr ⟨⟨xs,xs[i],q,by simp [hlt]⟩,Pv (i+1),λσ' ks' H' p'=>⟨xs.length-(i+1),by omega,rfl,hlt,p'⟩,λx H' y=>?_⟩
  obtain⟨e,y⟩:=y
  subst e
  exact hs i x σ ks _ (y xs q) p
 ·have e:i=xs.length:=by omega
  subst e
  exact .inl ⟨⟨xs,q,T7 _⟩,hd σ ks H p⟩
theorem Df(ks:List Key)(k:Key):ks.length<=(fD ks k).length/\(fD ks k).length<=ks.length+1:=by
 unfold fD
 split
 ·exact⟨T7 _,Nat.le_succ _⟩
 ·rw [Ub]; simp
end L2
namespace My
open PySem L2
noncomputable def gp (acc:List Key) (ss:List Str):List Key:=ss.foldl (λacc s=>fD acc (.inr s)) acc
theorem pA:∀(ss:List Str) (acc:List Key),acc.length<=(gp acc ss).length/\(gp acc ss).length<=acc.length+ss.length
 | [],acc=>⟨T7 _,T7 _⟩
 | s::ss,acc=>by
  have h1:=pA ss (fD acc (.inr s))
  have h2:=Df acc (.inr s)
  show acc.length<=(gp (fD acc (.inr s)) ss).length/\(gp (fD acc (.inr s)) ss).length<=acc.length+(ss.length+1)
  omega
theorem vN(s0:Str):∀ss:List Str,((gp [.inr s0] ss).length > 1) =¬(∀s∈ss,s=s0)
 | []=>by simp [gp]
 | s::ss=>by
  by_cases e:s=s0
  ·have:gp [.inr s0] (s::ss)=gp [.inr s0] ss:=by
    show gp (fD [.inr s0] (.inr s)) ss=_
    unfold fD
    rw [if_pos (f_.mpr (by rw [e]; exact Uo.mpr rfl))]
   rw [this,vN s0 ss]
   simp [e]
  ·have:gp [.inr s0] (s::ss)=gp [.inr s0,.inr s] ss:=by
    show gp (fD [.inr s0] (.inr s)) ss=_
    unfold fD
    rw [if_neg (λz=>e (by have:=Uo.mp (f_.mp z); injection this))]
    rfl
   have hl:=(pA ss [.inr s0,.inr s]).1
   rw [this]
   simp only [UG,List.length_nil]at hl
   simp [e]
   omega
theorem zR(ss:List Str):decide ((1:Int)<((gp [] ss).length:Nat)) = !cP ss:=by
 cases ss with
 | nil=>simp [gp,cP]
 | cons s ss =>
  have:gp [] (s::ss)=gp [.inr s] ss:=by
   show gp (fD [] (.inr s)) ss=_
   unfold fD
   rw [if_neg (λz=>by cases f_.mp z)]
   rfl
  rw [this]
  have h:=vN s ss
  have e:cP (s::ss)=decide (∀x∈ss,x=s):=by
   unfold cP
   rw [Bool.eq_iff_iff,List.all_eq_true,decide_eq_true_eq]
   constructor
   ·intro z x hx
    exact UI (z x (Uj _ hx))
   ·intro z x hx
    rcases Uq.mp hx with rfl | hx
    ·exact T_ rfl
    ·exact T_ (z x hx)
  rw [e,←decide_not,decide_eq_decide]
  constructor
  ·intro z
   have:(gp [.inr s] ss).length > 1:=by omega
   rwa [h]at this
  ·intro z
   rw [←h]at z
   omega
theorem zY{ss:List Str}{i:Nat}{s:Str}(h:ss[i]? = some s):gp [] (ss.take (i+1))=fD (gp [] (ss.take i)) (.inr s):=by
 unfold gp
 rw [take_one h,List.foldl_append]
 rfl
abbrev jc:Stmt:=top 26
theorem tE:ay ["worker","heads"] ["worker","heads"] (ar jc):=fs
variable{P:Program}{w:World}{K:UJ}{mg:Str->Option Value}{base:Heap}
theorem uT{n:Nat}(B:jJ mg)(F:FA K mg "must_fits" jc)
  (g_:bc bf P w K mg base 1 "sort_of" ["cell"] gj)
  (fm:bc bf P w K mg base 2 "cells_fit" ["cells","column_sort"] iS) :
  bc bf P w K mg base 3 "must_fits" ["worker","heads"] (dC n bg (ql λx=>∃c ps,x=.one (.must c ps))):=by
 refine F.ok tE λf cdv A outer s H vs Q E hr h=>?_
 obtain⟨a,l,x,as,hs,rfl,ha,hL,hn,hsm,ho,q⟩:=h
 refine⟨_,(aN (aW il (wW (N':=["old","new"]) (src:=[none,none]) rfl rfl B.len (ba.jE (by kernel_rfl)) (cI (az K (pv 0) ai)) (g:=iu K 2 (bP (bz 0) (bP (bz 1) iJ))) (λcl C s H fp=>(cB rfl (aA (el (i:=0)) (aA (el (i:=1)) bS)))) (te:=(iW gj [] E0 (bp (bx 1) fz))) (λcl C s H fp=>(ax (hg:=xP) g_ hr (ae (iX 1) ah)))) ai) fQ
   (av (ax fm hr (ae (bw (N':=["old","new"]) (src:=[none,none]) rfl (ba.jE (by kernel_rfl)) (cI (az K (pv 0) ai)) (g:=(iu K 2 (bP (bz 0) (bP (bz 1) iJ)))) (λcl C s H fp=>(cB rfl (aA (el (i:=0)) (aA (el (i:=1)) bS)))) (λcl C s H fp=>aX) (te:=(bx 0)) (λcl C s H fp=>(iX 0))) (ae (az K (bj K (pv 1) ai) (aF bJ (az K (pv 0) ai) ai)) ah))))),?_⟩
 obtain⟨⟨c,ps,rfl⟩,hf,hg⟩:=ho
 obtain⟨hd,rfl⟩:=df hn
 obtain⟨a0,e0,gm⟩:=hL.nth (i:=0) rfl
 obtain⟨t,bs,h1,hI⟩:=bW.mp ha
 have hc:=cF hf (c:=c) (by simp [c7])
 have hz:ps.length<=1000:=hsm
 have hg:∀p∈ps,dO p.1/\dO p.2:=hg
 have hlb:(bs.map V.ref).length=ps.length:=by rw [Ua,hI.len]
 have hls:(ps.map λp=>sW p.2).length=ps.length:=Ua _
 refine⟨_,rfl,a,_,2,_,rfl,rfl,aH.of h1,rfl,t,rfl,⟨_,aH.of hI.tup⟩,?_⟩
 refine ye (xs:=bs.map V.ref) (λi σ ks H'=>(∃o1 o2,σ=[o1,o2])/\ks=gp [] ((ps.map λp=>sW p.2).take i)/\H'=H) ⟨⟨none,none,rfl⟩,rfl,rfl⟩ ?_ ?_ ?_ ?_
 ·rintro i σ ks H' hi ⟨_,rfl,_⟩
  have:=(pA ((ps.map λp=>sW p.2).take i) []).2
  rw [Uz,List.length_nil]at this
  exact Ud (show _<=1001 by omega) (by decide)
 ·rintro i σ ks H' _ ⟨_,_,rfl⟩
  exact aH.of hI.tup
 ·rintro i v σ ks H' hv ⟨⟨o1,o2,rfl⟩,rfl,rfl⟩
  obtain⟨b,p,rfl,ep,hb⟩:=hI.get hv
  refine⟨b,_,rfl,aH.of hb,rfl,_,_,rfl,ak ⟨_,_,rfl,ak ⟨rfl,?_⟩⟩⟩
  refine⟨_,rfl,p.2,rfl,(hg p (Ui ep)).2,.inr (sW p.2),rfl,⟨_,_,rfl⟩,?_,rfl⟩
  rw [zY (by rw [Uy,ep]; rfl)]
 ·rintro σ ks H' ⟨_,rfl,rfl⟩
  rw [hlb,←hls,List.take_length]
  refine⟨_,_,rfl,rfl,_,rfl,?_⟩
  have q:∀Iq,aM H' Iq->Q (.bl (cP (ps.map λp=>sW p.2)&&cS (ps.map λp=>p.1) (bt hd c))) Iq:=q
  rw [zR]
  cases hO:cP (ps.map λp=>sW p.2)with
  | false =>
   rw [hO]at q
   exact bZ (q H' (aM.refl _))
  | true =>
   rw [hO]at q
   refine bA (aG ⟨_,rfl,a,_,2,_,rfl,rfl,aH.of h1,rfl,t,rfl,⟨_,aH.of hI.tup⟩,λD hD=>?_⟩)
   refine cE (xs:=bs.map V.ref) (λi σ ys H2=>(∃o1 o2,σ=[o1,o2])/\ys=(ps.take i).map (λp=>p.1)/\ys.length=i/\H2 D=some (.lst ys)/\aM H' H2) ⟨⟨none,none,rfl⟩,rfl,rfl,ag,aj hD _⟩ ?_ ?_ ?_ ?_ ?_
   ·rintro i σ ys H2 _ ⟨_,_,hi,h,_⟩
    exact⟨h,Nat.le_of_eq hi⟩
   ·rintro i σ ys H2 _ ⟨_,_,_,_,sm⟩
    exact aH.of (sm _ _ hI.tup)
   ·rw [hlb]; exact T8 hz (by decide)
   ·rintro i v σ ys H2 hv ⟨⟨o1,o2,rfl⟩,rfl,hi,h,sm⟩
    obtain⟨b,p,rfl,ep,hb⟩:=hI.get hv
    refine⟨b,_,rfl,aH.of (sm _ _ hb),rfl,_,_,rfl,ak ⟨_,_,rfl,ak ⟨rfl,?_⟩⟩⟩
    refine⟨_,rfl,h,⟨_,_,rfl⟩,?_,?_,ag,bq hD sm⟩
    ·rw [take_one ep,Uc]; rfl
    ·rw [Ub,hi]; rfl
   ·rintro σ ys H2 ⟨_,rfl,hyl,h,sm⟩
    rw [hlb,List.take_length]at h hyl
    refine⟨_,rfl,l,_,0,_,rfl,rfl,a_.of (sm _ _ hL.lst),au (j:=0) e0,_,rfl,a,_,1,_,rfl,rfl,aH.of (sm _ _ h1),rfl,_,_,rfl,rfl,a0,_,_,_,rfl,rfl,aH.of (sm _ _ gm),dD hc,?_⟩
    refine⟨D,_,_,rfl,h,by omega,λv hv=>?_,λH3 s'=>q H3 (sm.trans s')⟩
    obtain⟨p,hp,rfl⟩:=Up.mp hv
    exact(hg p hp).1
end My
namespace L2
open PySem PySem.Spec PyProof.Rows
def jd(K:UJ)(d:Addr)(key:Str):Prop :=
 (d==sysModules)=false/\∃(es:Array DictEntry) (ep:Nat),K.lookup d=some ⟨.type "dict",none,.dict es ep,#[]⟩/\es.all (λe=>isExactStrKey e.key)=true/\es.findIdx? (λe=>e.key.isStr key)=none
def Fc(K:UJ):R2:=λx y H Q=>∃d k,x=.str k/\y=.ref d/\(((∃f,dA K d k f)/\Q (.bl false) H)\/(jd K d k/\Q (.bl true) H))
section
variable{X:Cx}
theorem rd:i3 X (compareOp .NotIn) (Fc X.K):=by
 intro pins s σ H x y v u Q I rx ry h
 obtain⟨d,k,rfl,rfl,h⟩:=h
 cases ry
 obtain⟨t,rfl⟩:=rx
 rcases h with⟨⟨f,es,ep,i,hx,te,lk,ha,hi,he⟩,q⟩ | ⟨⟨hd,es,ep,lk,ha,hi⟩,q⟩
 ·have ho:s.heap.get? d=some ⟨.type "dict",none,.dict es ep,#[]⟩:=I.jI _ _ lk
  have hT:s.TypeIs (.ref d) "dict":=⟨_,ho,rfl⟩
  have fin:EP X pins σ Q (.bool false) {s with toks:=s.toks+1}:=⟨.bl false,H,I.kept (h':=s.heap) (t':=s.toks+1) λ_ _ e=>e,rfl,q⟩
  show wpAny _ _ (do return Value.bool (!(←contains (.ref d) (.str k t)))) (EP X pins σ Q) X.xe s
  refine TZ (wpAny_contains_slot hT slot_dict_contains (wpAny_call_entry slot_dict_contains hT entry_dict_contains ?_ (args_dict_contains _ _)))
  show wpAny _ _ (dictGet d (.str k t) >>= _) _ _ s
  refine TZ ?_
  unfold dictGet
  try with_reducible refine UC ?_
  refine TZ (wpAny_pyHash_str ?_)
  unfold dictFind
  refine TZ ?_
  try with_reducible refine UC ?_
  refine TZ (wpAny_dictEntries (s:={s with toks:=s.toks+1}) ho rfl ?_)
  dsimp only
  rw [if_pos ha]
  unfold foundByValue
  rw [hi]
  dsimp only
  rw [he]
  dsimp only
  refine TZ (wpAny_dictEpoch (s:={s with toks:=s.toks+1}) ho rfl ?_)
  refine TZ (wpAny_eqBool_str ?_)
  refine TZ (wpAny_dictEpoch (s:={s with toks:=s.toks+1}) ho rfl ?_)
  rw [if_neg (by simp),T_ rfl]
  refine TZ (wpAny_rule (T1 ?_))
  refine TZ (wpAny_dictEntries (s:={s with toks:=s.toks+1}) ho rfl (T1 ?_))
  rw [he]
  show wpAny _ _ (ret (.bool true)) _ _ _
  exact T1 ⟨_,rfl,wpAny_truthy_bool (T1 fin)⟩
 ·have ho:s.heap.get? d=some ⟨.type "dict",none,.dict es ep,#[]⟩:=I.jI _ _ lk
  have hT:s.TypeIs (.ref d) "dict":=⟨_,ho,rfl⟩
  have fin:EP X pins σ Q (.bool true) {s with toks:=s.toks+1}:=⟨.bl true,H,I.kept (h':=s.heap) (t':=s.toks+1) λ_ _ e=>e,rfl,q⟩
  show wpAny _ _ (do return Value.bool (!(←contains (.ref d) (.str k t)))) (EP X pins σ Q) X.xe s
  refine TZ (wpAny_contains_slot hT slot_dict_contains (wpAny_call_entry slot_dict_contains hT entry_dict_contains ?_ (args_dict_contains _ _)))
  show wpAny _ _ (dictGet d (.str k t) >>= _) _ _ s
  refine TZ ?_
  unfold dictGet
  try with_reducible refine UC ?_
  refine TZ (wpAny_pyHash_str ?_)
  unfold dictFind
  refine TZ ?_
  try with_reducible refine UC ?_
  refine TZ (wpAny_dictEntries (s:={s with toks:=s.toks+1}) ho rfl ?_)
  dsimp only
  rw [if_pos ha]
  unfold foundByValue
  rw [hi]
  dsimp only
  refine T1 ?_
  show wpAny _ _ (pure none) _ _ _
  refine T1 ?_
  show wpAny _ _ (Builtin.Dict.pendingKey? d _ >>= _) _ _ _
  exact TZ (wpAny_pendingKey_other hd (T1 ⟨_,rfl,wpAny_truthy_bool (T1 fin)⟩))
end
end L2
namespace My
open PySem L2
def He(P:Program)(w:World)(K:UJ)(mg:Str->Option Value)(base:Heap)(aS:Addr)(n:Nat)(x:Wk):Prop :=
 (∃(f:Addr) (fd:FuncData),dA K aS x.nm f/\eZ P w K mg base bf 3 f fd ["worker","heads"] (dC n bg (ql λy=>y=x))/\PySem.W.keepIn K (.ref f)=true/\Binds K fd ["worker","heads"] [])\/(jd K aS x.nm/\∀hs,bg x hs=true)
theorem d_{n:Nat}{F:Wk->List Hd->Bool}{k k':Wk->Prop}(h:∀x,k' x->k x):∀vs H Q E,dC n F (ql k') vs H Q E->dC n F (ql k) vs H Q E:=by
 rintro vs H Q E ⟨a,l,x,as,hs,h1,h2,h3,h4,h5,⟨h6,h7⟩,h8⟩
 exact⟨a,l,x,as,hs,h1,h2,h3,h4,h5,⟨h x h6,h7⟩,h8⟩
variable{P:Program}{w:World}{K:UJ}{mg:Str->Option Value}{base:Heap}
theorem AW{n:Nat}{aS:Addr}{f1 f2 f3 f4 f5 f6 f7 f8:Addr}
  (t1:dA K aS "keep" f1) (t2:dA K aS "same" f2) (t3:dA K aS "turn" f3) (t4:dA K aS "must" f4) (t5:dA K aS "walk" f5) (t6:dA K aS "sum" f6) (t7:dA K aS "both" f7) (t8:dA K aS "meet" f8)
  (u1:jd K aS "cut") (u2:jd K aS "sort") (u3:jd K aS "apart") (u4:jd K aS "count") (u5:jd K aS "number") (u6:jd K aS "first")
  (G1:FnAt P w K mg base 1 f1 ["worker","heads"] (dC n bg (ql λx=>∃c t,x=.one (.keep c t)))) (G2:FnAt P w K mg base 2 f2 ["worker","heads"] (dC n bg (ql λx=>∃c d,x=.one (.same c d)))) (G3:FnAt P w K mg base 3 f3 ["worker","heads"] (dC n bg (ql λx=>∃c ps,x=.one (.turn c ps)))) (G4:FnAt P w K mg base 3 f4 ["worker","heads"] (dC n bg (ql λx=>∃c ps,x=.one (.must c ps))))
  (G5:FnAt P w K mg base 3 f5 ["worker","heads"] (dC n bg (ql λx=>∃c mv,x=.one (.walk c mv)))) (G6:FnAt P w K mg base 1 f6 ["worker","heads"] (dC n bg (ql λx=>∃cs c,x=.one (.sum cs c)))) (G7:FnAt P w K mg base 1 f7 ["worker","heads"] (dC n bg (ql λx=>∃p q,x=.both p q))) (G8:FnAt P w K mg base 2 f8 ["worker","heads"] (dC n bg (ql λx=>∃c d p q,x=.meet c d p q))):∀x,He P w K mg base aS n x:=by
 obtain⟨d1,G1,b1,k1⟩:=G1
 obtain⟨d2,G2,b2,k2⟩:=G2
 obtain⟨d3,G3,b3,k3⟩:=G3
 obtain⟨d4,G4,b4,k4⟩:=G4
 obtain⟨d5,G5,b5,k5⟩:=G5
 obtain⟨d6,G6,b6,k6⟩:=G6
 obtain⟨d7,G7,b7,k7⟩:=G7
 obtain⟨d8,G8,b8,k8⟩:=G8
 intro x
 match x with
 | .one (.keep c t)=>exact .inl ⟨f1,d1,t1,(G1.imp (d_ λ_ e=>⟨c,t,e⟩)).mono (by omega),k1,b1⟩
 | .one (.same c d)=>exact .inl ⟨f2,d2,t2,(G2.imp (d_ λ_ e=>⟨c,d,e⟩)).mono (by omega),k2,b2⟩
 | .one (.turn c ps)=>exact .inl ⟨f3,d3,t3,G3.imp (d_ λ_ e=>⟨c,ps,e⟩),k3,b3⟩
 | .one (.must c ps)=>exact .inl ⟨f4,d4,t4,G4.imp (d_ λ_ e=>⟨c,ps,e⟩),k4,b4⟩
 | .one (.walk c mv)=>exact .inl ⟨f5,d5,t5,G5.imp (d_ λ_ e=>⟨c,mv,e⟩),k5,b5⟩
 | .one (.sum cs c)=>exact .inl ⟨f6,d6,t6,(G6.imp (d_ λ_ e=>⟨cs,c,e⟩)).mono (by omega),k6,b6⟩
 | .both p q=>exact .inl ⟨f7,d7,t7,(G7.imp (d_ λ_ e=>⟨p,q,e⟩)).mono (by omega),k7,b7⟩
 | .meet c d p q=>exact .inl ⟨f8,d8,t8,(G8.imp (d_ λ_ e=>⟨c,d,p,q,e⟩)).mono (by omega),k8,b8⟩
 | .one (.cut _)=>exact .inr ⟨u1,λ_=>rfl⟩
 | .one (.sort _)=>exact .inr ⟨u2,λ_=>rfl⟩
 | .one .apart=>exact .inr ⟨u3,λ_=>rfl⟩
 | .one (.count _)=>exact .inr ⟨u4,λ_=>rfl⟩
 | .one .number=>exact .inr ⟨u5,λ_=>rfl⟩
 | .one (.first _)=>exact .inr ⟨u6,λ_=>rfl⟩
abbrev je:Stmt:=top 32
theorem kY:ay ["worker","heads","fit"] ["worker","heads"] (ar je):=fs
theorem uZ{n:Nat}{aS:Addr}(mS:mg "SORTS_FIT"=some (.ref aS))(GS:∀x:Wk,He P w K mg base aS n x)(F:FA K mg "sorts_fit" je) :
  bc bf P w K mg base 4 "sorts_fit" ["worker","heads"] (dC n bg (ql λ_=>True)):=by
 refine F.ok kY λf cdv A outer s H vs Q E hr h=>?_
 obtain⟨a,l,x,as,hs,rfl,ha,hL,hn,hsm,ho,q⟩:=h
 refine⟨_,(aN (dc rd (az K (pv 0) ai) (cQ rfl mS (show RelV (.ref aS) (.ref aS) from rfl)) rfl) fQ
   (aq (aL (i:=2) kY.nd rfl (Or.inl rfl) (fX (r:=FZ K) pV (cQ rfl mS (show RelV (.ref aS) (.ref aS) from rfl)) (az K (pv 0) ai) (λ_ _=>rfl)))
   (av (oX (k:=3) (pv 2) hr uv (ae (pv 0) (ae (pv 1) ah)))))),?_⟩
 obtain⟨xs,h1⟩:=ha.first
 obtain⟨_,hf,hg⟩:=ho
 refine⟨_,rfl,a,_,0,_,rfl,rfl,aH.of h1,au (j:=0) rfl,aS,x.nm,rfl,rfl,?_⟩
 rcases GS x with⟨g,gd,JS,FG,kG,bG⟩ | ⟨hno,he⟩
 ·refine .inl ⟨⟨g,JS⟩,_,rfl,bA (aG ?_)⟩
  refine⟨_,rfl,a,_,0,_,rfl,rfl,aH.of h1,au (j:=0) rfl,aS,x.nm,g,rfl,rfl,JS,ak ?_⟩
  dsimp only
  exact⟨_,rfl,g,gd,_,_,rfl,FG,kG,bG,_,rfl,_,rfl,a,l,x,as,hs,rfl,ha,hL,hn,hsm,⟨rfl,hf,hg⟩,q⟩
 ·refine .inr ⟨hno,_,rfl,bZ ?_⟩
  have q:=q H (aM.refl _)
  rw [he hs]at q
  exact q
def xZ(h:Hd)(cs:List Int):Prop:=∀c∈cs,1<=c/\c<=h.length
def oK:Sp:=λvs H Q _=>∃(a b:Addr) (h:Hd) (cs:List Int),vs=[.ref a,.ref b]/\dQ H a h/\H b=some (.tup (cs.map V.int))/\cs.length<=1000/\xZ h cs/\∀(u:Addr) (H':Hp),aM H H'->dQ H' u (cs.map (bt h))->Q (.ref u) H'
abbrev oR:Stmt:=top 33
theorem Ap:ay ["head","columns"] ["head","columns"] (ar oR):=fs
theorem zV(B:jJ mg)(F:FA K mg "picked" oR) :
  bc bf P w K mg base 1 "picked" ["head","columns"] oK:=by
 refine F.ok Ap λf cdv A outer s H vs Q E hr h=>?_
 have hu:=iM hr
 obtain⟨a,b,h,cs,rfl,ha,hb,hz,ht,q⟩:=h
 refine⟨_,(av (aV bB rfl B.tuple PyProof.Rows.boot_tuple (ae (bw (N':=["column","head"]) (src:=[none,some 0]) rfl (ba.jE (by kernel_rfl)) (cI (pv 1)) (λcl C s H fp=>(el (i:=0))) (λcl C s H fp=>aX) (te:=(gB (sj K) (bx 1) (gB (zi λi j=>V.int (i-j)) (bx 0) (tC (.int 1))))) (λcl C s H fp=>(az K (yl 1) (aF bJ (iX 0) ai)))) ah))),?_⟩
 refine⟨_,rfl,b,rfl,⟨_,aH.of hb⟩,λD hD=>?_⟩
 refine cE (xs:=cs.map V.int) (λi σ ys H'=>(∃o,σ=[o,some (.ref a)])/\ys=((cs.take i).map (bt h)).map V.str/\ys.length=i/\H' D=some (.lst ys)/\aM H H') ⟨⟨none,rfl⟩,rfl,rfl,ag,aj hD _⟩ ?_ ?_ ?_ ?_ ?_
 ·rintro i σ ys H' _ ⟨_,_,hi,h,_⟩
  exact⟨h,Nat.le_of_eq hi⟩
 ·rintro i σ ys H' _ ⟨_,_,_,_,sm⟩
  exact aH.of (sm _ _ hb)
 ·rw [Ua]; exact T8 hz (by decide)
 ·rintro i v σ ys H' hv ⟨⟨o,rfl⟩,rfl,hi,hh,sm⟩
  rw [Uy]at hv
  cases ec:cs[i]? with
  | none=>rw [ec]at hv; cases hv
  | some c =>
   rw [ec]at hv
   have hv:V.int c=v:=Uv hv
   subst hv
   refine⟨_,rfl,_,rfl,_,_,rfl,rfl,a,_,_,_,rfl,rfl,aH.of (sm _ _ ha),dD (ht c (Ui ec)),hh,⟨_,rfl⟩,?_,?_,ag,bq hD sm⟩
   ·rw [take_one ec,Uc,Uc]; rfl
   ·rw [Ub,hi]; rfl
 ·rintro σ ys H' ⟨_,rfl,_,hh,sm⟩
  rw [Ua,List.take_length]at hh
  exact⟨D,_,rfl,.inl ⟨a_.of hh,λu hu=>q u _ (sm.trans (aj hu _)) ag⟩⟩
theorem nq{ts:List Str}{c:Int}(h1:1<=c)(h2:c<=ts.length):gb (ts.map V.str) none (some (c-1))=(ts.take (c-1).toNat).map V.str:=by
 have:=ya (xs:=ts.map V.str) (n:=(c-1).toNat) (by rw [Ua]; omega)
 rw [show(((c-1).toNat:Nat):Int)=c-1 by omega]at this
 rw [this,List.map_take]
theorem jH{ts:List Str}{c:Int}(h1:1<=c)(h2:c<=ts.length):gb (ts.map V.str) (some c) none=(ts.drop c.toNat).map V.str:=by
 have:=Dx (xs:=ts.map V.str) (n:=c.toNat) (by rw [Ua]; omega)
 rw [show((c.toNat:Nat):Int)=c by omega]at this
 rw [this,List.map_drop]
def bE:Wk->List Hd->Hd
 | .one (.cut cs),hs=>cs.map (bt (hs.headD []))
 | .one (.must c ps),hs=>(hs.headD []).take (c-1).toNat++(ps.take 1).map (λp=>sW p.2)++(hs.headD []).drop c.toNat
 | .one (.walk _ _),hs=>hs.headD []++(["w"]:Hd)
 | .one (.count cs),hs=>cs.map (bt (hs.headD []))++(["t"]:Hd)
 | .one (.sum cs _),hs=>cs.map (bt (hs.headD []))++(["t"]:Hd)
 | .one .number,hs=>hs.headD []++(["t"]:Hd)
 | .meet _ d _ _,hs=>hs.headD []++(hs.getD 1 []).take (d-1).toNat++(hs.getD 1 []).drop d.toNat
 | _,hs=>hs.headD []
def PD:Wk->Prop
 | .one (.must _ ps)=>ps≠[]
 | _=>True
structure Nw(k:Wk->Prop)(x:Wk)(hs:List Hd):Prop where
 k:k x
 fit:c9 x hs=true
 good:goodW x
 ne:PD x
 sm:∀h∈hs,h.length<=1000
def dn(n:Nat)(k:Wk->Prop):Sp:=λvs H Q _=>∃(a l:Addr) (x:Wk) (as:List Addr) (hs:List Hd),vs=[.ref a,.ref l]/\dj n H a x/\fW H l as hs/\hs.length=D9 x/\km x/\Nw k x hs/\∀u H',aM H H'->dQ H' u (bE x hs)->Q (.ref u) H'
theorem eO{a b:Addr}{xs ys:Hd}{H:Hp}{Q:VK}(h1:dQ H a xs)(h2:dQ H b ys)(hz:xs.length+ys.length<=100000)(q:∀t H',aM H H'->dQ H' t (xs++ys)->Q (.ref t) H'):GG (.ref a) (.ref b) H Q :=
 ⟨a,b,_,_,rfl,rfl,h1,h2,by rw [Ua,Ua]; exact T8 hz (by decide),λt H' s' ht=>q t H' s' (by rw [dQ,Uc]; exact ht)⟩
abbrev fU:Stmt:=top 36
theorem mG:ay ["worker","heads"] ["worker","heads"] (ar fU):=fs
theorem Bz{n:Nat}(F:FA K mg "head_of_walk" fU) :
  bc bf P w K mg base 1 "head_of_walk" ["worker","heads"] (dn n (λx=>∃c mv,x=.one (.walk c mv))):=by
 refine F.ok mG λf cdv A outer s H vs Q E hr h=>?_
 have hu:=iM hr
 obtain⟨a,l,x,as,hs,rfl,ha,hL,hn,hsm,ho,q⟩:=h
 refine⟨_,(av (aF cb (bj K (pv 1) ai) (aJ (ae ao ah)))),?_⟩
 obtain⟨c,mv,rfl⟩:=ho.k
 obtain⟨hd,rfl⟩:=df hn
 obtain⟨a0,e0,gm⟩:=hL.nth (i:=0) rfl
 have hz:=ho.sm hd (by simp)
 refine⟨_,rfl,l,_,0,_,rfl,rfl,a_.of hL.lst,au (j:=0) e0,dP,λu hu=>?_⟩
 have su:=aj hu (.tup [.str "w"])
 exact eO (ys:=["w"]) (su _ _ gm) ag (by show _+1<=_; omega) λt H' s' ht=>q t H' (su.trans s') ht
abbrev e9:Stmt:=top 38
theorem kO:ay ["worker","heads"] ["worker","heads"] (ar e9):=fs
theorem xj{n:Nat}{tk:Tok}(mT:mg "TALLY"=some (.str "t" tk))(F:FA K mg "head_of_number" e9) :
  bc bf P w K mg base 1 "head_of_number" ["worker","heads"] (dn n (λx=>x=.one .number)):=by
 refine F.ok kO λf cdv A outer s H vs Q E hr h=>?_
 have hu:=iM hr
 obtain⟨a,l,x,as,hs,rfl,ha,hL,hn,hsm,ho,q⟩:=h
 refine⟨_,(av (aF cb (bj K (pv 1) ai) (aJ (ae (cQ (v:=.str "t") rfl mT ⟨_,rfl⟩) ah)))),?_⟩
 cases ho.k
 obtain⟨hd,rfl⟩:=df hn
 obtain⟨a0,e0,gm⟩:=hL.nth (i:=0) rfl
 have hz:=ho.sm hd (by simp)
 refine⟨_,rfl,l,_,0,_,rfl,rfl,a_.of hL.lst,au (j:=0) e0,dP,λu hu=>?_⟩
 have su:=aj hu (.tup [.str "t"])
 exact eO (ys:=["t"]) (su _ _ gm) ag (by show _+1<=_; omega) λt H' s' ht=>q t H' (su.trans s') ht
abbrev gA:Stmt:=top 34
theorem pP:ay ["worker","heads"] ["worker","heads"] (ar gA):=fs
theorem Fe{n:Nat}(F:FA K mg "head_of_cut" gA)
  (n_:bc bf P w K mg base 1 "picked" ["head","columns"] oK) :
  bc bf P w K mg base 2 "head_of_cut" ["worker","heads"] (dn n (λx=>∃cs,x=.one (.cut cs))):=by
 refine F.ok pP λf cdv A outer s H vs Q E hr h=>?_
 obtain⟨a,l,x,as,hs,rfl,ha,hL,hn,hsm,ho,q⟩:=h
 refine⟨_,(av (ax n_ hr (ae (bj K (pv 1) ai) (ae (az K (pv 0) ai) ah)))),?_⟩
 obtain⟨cs,rfl⟩:=ho.k
 obtain⟨hd,rfl⟩:=df hn
 obtain⟨a0,e0,gm⟩:=hL.nth (i:=0) rfl
 obtain⟨t,h1,h2⟩:=bW.mp ha
 exact⟨_,rfl,l,_,0,_,rfl,rfl,a_.of hL.lst,au (j:=0) e0,_,rfl,a,_,1,_,rfl,rfl,aH.of h1,rfl,a0,t,hd,cs,rfl,gm,h2,hsm,λc hc=>cF ho.fit hc,q⟩
abbrev eE:Stmt:=top 37
theorem j_:ay ["worker","heads"] ["worker","heads"] (ar eE):=fs
theorem BA{n:Nat}{tk:Tok}(mT:mg "TALLY"=some (.str "t" tk))(F:FA K mg "head_of_tallied" eE)
  (n_:bc bf P w K mg base 1 "picked" ["head","columns"] oK) :
  bc bf P w K mg base 2 "head_of_tallied" ["worker","heads"] (dn n (λx=>∃cs,x=.one (.count cs)\/∃c,x=.one (.sum cs c))):=by
 refine F.ok j_ λf cdv A outer s H vs Q E hr h=>?_
 have hu:=iM hr
 have hu1:=jY hr
 obtain⟨a,l,x,as,hs,rfl,ha,hL,hn,hsm,ho,q⟩:=h
 refine⟨_,(av (aF cb (ax n_ hr (ae (bj K (pv 1) ai) (ae (az K (pv 0) ai) ah))) (aJ (ae (cQ (v:=.str "t") rfl mT ⟨_,rfl⟩) ah)))),?_⟩
 have key:∃(cs:List Int) (hd:Hd) (t y:Addr) (v:V) (vs:List V),hs=[hd]/\H a=some (.tup (v :: .ref t::vs))/\H t=some (.tup (cs.map V.int))/\cs.length<=1000/\xZ hd cs/\bE x hs=cs.map (bt hd)++(["t"]:Hd):=by
  obtain⟨cs,rfl | ⟨c,rfl⟩⟩:=ho.k
  ·obtain⟨hd,rfl⟩:=df hn
   obtain⟨t,h1,h2⟩:=bW.mp ha
   exact⟨cs,hd,t,t,_,_,rfl,h1,h2,hsm,λc hc=>cF ho.fit hc,rfl⟩
  ·obtain⟨hd,rfl⟩:=df hn
   obtain⟨t,h1,h2⟩:=bW.mp ha
   exact⟨cs,hd,t,t,_,_,rfl,h1,h2,hsm,λc hc=>cF ho.fit (List.mem_append_left _ hc),rfl⟩
 obtain⟨cs,hd,t,_,v,vs,rfl,h1,h2,hz,hth,eh⟩:=key
 obtain⟨a0,e0,gm⟩:=hL.nth (i:=0) rfl
 refine⟨_,rfl,l,_,0,_,rfl,rfl,a_.of hL.lst,au (j:=0) e0,_,rfl,a,_,1,_,rfl,rfl,aH.of h1,au (j:=1) rfl,a0,t,hd,cs,rfl,gm,h2,hz,hth,λu1 H1 s1 hu1=>?_⟩
 refine⟨dP,λu hu=>?_⟩
 have su:=aj hu (.tup [.str "t"])
 refine eO (ys:=["t"]) (su _ _ hu1) ag ?_ λt' H' s' ht=>q t' H' (s1.trans (su.trans s')) (by rw [eh]; exact ht)
 rw [Ua]
 show _+1<=_
 omega
abbrev fR:Stmt:=top 39
theorem mM:ay ["worker","heads"] ["worker","heads"] (ar fR):=fs
theorem Cs{n:Nat}(F:FA K mg "head_of_meet" fR) :
  bc bf P w K mg base 1 "head_of_meet" ["worker","heads"] (dn n (λx=>∃c d p q,x=.meet c d p q)):=by
 refine F.ok mM λf cdv A outer s H vs Q E hr h=>?_
 obtain⟨a,l,x,as,hs,rfl,ha,hL,hn,hsm,ho,q⟩:=h
 refine⟨_,(av (aF cb (aF cb (bj K (pv 1) ai) (cu c8 (bj K (pv 1) ai) dy (cA (aF bJ (az K (pv 0) ai) ai)))) (cu c8 (bj K (pv 1) ai) (cA (az K (pv 0) ai)) dy))),?_⟩
 obtain⟨c,d,p,q',rfl⟩:=ho.k
 obtain⟨h0,h2,rfl⟩:=dF hn
 obtain⟨a0,e0,gm⟩:=hL.nth (i:=0) rfl
 obtain⟨a1,e1,ve⟩:=hL.nth (i:=1) rfl
 have hz0:=ho.sm h0 (by simp)
 have hz1:=ho.sm h2 (by simp)
 have hf:(there c h0&&there d h2)=true:=ho.fit
 rw [UH]at hf
 obtain⟨d1,d2⟩:=eV hf.2
 cases n with
 | zero=>exact False.elim ha
 | succ n =>
 obtain⟨b,e,bs,es,h1,_⟩:=ha
 refine⟨_,rfl,l,_,0,_,rfl,rfl,a_.of hL.lst,au (j:=0) e0,_,rfl,l,_,1,_,rfl,rfl,a_.of hL.lst,au (j:=1) e1,?_⟩
 refine⟨_,rfl,a,_,2,_,rfl,rfl,aH.of h1,rfl,_,_,rfl,rfl,_,rfl,a1,_,rfl,ve,λt1 H1 s1 ht1=>?_⟩
 rw [nq d1 d2]at ht1
 refine eO (s1 _ _ gm) ht1 (by rw [Uz]; omega) λt2 H2 s2 Dn=>?_
 have s12:=s1.trans s2
 refine⟨_,rfl,l,_,1,_,rfl,rfl,a_.of (s12 _ _ hL.lst),au (j:=1) e1,_,rfl,a,_,2,_,rfl,rfl,aH.of (s12 _ _ h1),rfl,_,rfl,a1,_,rfl,s12 _ _ ve,λt3 H3 s3 Ee=>?_⟩
 rw [jH d1 d2]at Ee
 refine eO (s3 _ _ Dn) Ee (by rw [Ub,Uz,List.length_drop]; omega) λt4 H4 s4 A3=>q t4 H4 (s12.trans (s3.trans s4)) A3
abbrev fZ:Stmt:=top 35
theorem fv:ay ["worker","heads","column","pairs","told"] ["worker","heads"] (ar fZ):=fs
theorem C6{n:Nat}(B:jJ mg)(F:FA K mg "head_of_must" fZ)
  (g_:bc bf P w K mg base 1 "sort_of" ["cell"] gj) :
  bc bf P w K mg base 2 "head_of_must" ["worker","heads"] (dn n (λx=>∃c ps,x=.one (.must c ps))):=by
 refine F.ok fv λf cdv A outer s H vs Q E hr h=>?_
 have hu:=iM hr
 obtain⟨a,l,x,as,hs,rfl,ha,hL,hn,hsm,ho,q⟩:=h
 refine⟨_,(aq (IW (i:=2) (j:=3) rfl fv.nd rfl rfl (by decide) rfl rfl (ae (az K (pv 0) ai) (ae (az K (pv 0) ai) ah)) rfl)
   (aq (j7 (i:=4) (N':=["old","new"]) (src:=[none,none]) fv.nd rfl (Or.inl rfl) rfl rfl (ba.jE (by kernel_rfl)) (cI (cu c8 (pv 3) dy (cA ai))) (g:=(iu K 2 (bP (bz 0) (bP (bz 1) iJ)))) (λcl C s H fp=>(cB rfl (aA (el (i:=0)) (aA (el (i:=1)) bS)))) (λcl C s H fp=>aX) (te:=(iW gj [] E0 (bp (bx 1) fz))) (λcl C s H fp=>(ax (hg:=xP) g_ hr (ae (iX 1) ah))))
   (av (aF cb (aF cb (cu c8 (bj K (pv 1) ai) dy (cA (aF bJ (pv 2) ai))) (JG (aV bB rfl B.tuple PyProof.Rows.boot_tuple (ae (pv 4) ah)) (cu c8 (bj K (pv 1) ai) (cA (aF bJ (pv 2) ai)) (cA (pv 2))))) (cu c8 (bj K (pv 1) ai) (cA (pv 2)) dy))))),?_⟩
 obtain⟨c,ps,rfl⟩:=ho.k
 obtain⟨hd,rfl⟩:=df hn
 obtain⟨a0,e0,gm⟩:=hL.nth (i:=0) rfl
 obtain⟨t,bs,h1,hI⟩:=bW.mp ha
 obtain⟨c1,c2⟩:=cF ho.fit (c:=c) (by simp [c7])
 have hz:=ho.sm hd (by simp)
 have hne:ps≠[]:=ho.ne
 have hg:∀p∈ps,dO p.1/\dO p.2:=ho.good
 have O4:gb (bs.map V.ref) none (some 1)=(bs.take 1).map V.ref:=by
  have e:=ya (xs:=bs.map V.ref) (n:=1) (by rw [Ua,hI.len]; cases ps with | nil=>exact absurd rfl hne | cons _ _=>simp)
  rw [List.map_take]
  exact e
 refine⟨_,rfl,a,_,1,_,rfl,rfl,aH.of h1,rfl,_,rfl,a,_,2,_,rfl,rfl,aH.of h1,rfl,_,_,rfl,?_⟩
 dsimp only
 refine⟨_,rfl,_,rfl,t,_,rfl,hI.tup,λt1 H1 s1 ht1=>?_⟩
 rw [O4]at ht1
 refine⟨t1,rfl,⟨_,aH.of ht1⟩,λD hD=>?_⟩
 have hl1:((bs.take 1).map V.ref).length=1:=by
  rw [Ua,Uz,hI.len]; cases ps with | nil=>exact absurd rfl hne | cons _ _=>simp
 refine cE (xs:=(bs.take 1).map V.ref) (λi σ ys H'=>(∃o1 o2,σ=[o1,o2])/\ys=((ps.take i).map λp=>sW p.2).map V.str/\ys.length=i/\H' D=some (.lst ys)/\aM H1 H') ⟨⟨none,none,rfl⟩,rfl,rfl,ag,aj hD _⟩ ?_ ?_ ?_ ?_ ?_
 ·rintro i σ ys H' _ ⟨_,_,hi,h,_⟩
  exact⟨h,Nat.le_of_eq hi⟩
 ·rintro i σ ys H' _ ⟨_,_,_,_,sm⟩
  exact aH.of (sm _ _ ht1)
 ·rw [hl1]; decide
 ·rintro i v σ ys H' hv ⟨⟨o1,o2,rfl⟩,rfl,hi,h,sm⟩
  have hv':(bs.map V.ref)[i]? = some v:=by
   rw [List.map_take,List.getElem?_take]at hv
   split at hv
   ·exact hv
   ·cases hv
  obtain⟨b,p,rfl,ep,hb⟩:=hI.get hv'
  refine⟨b,_,rfl,aH.of (sm _ _ (s1 _ _ hb)),rfl,_,_,rfl,ak ⟨_,_,rfl,ak ⟨rfl,?_⟩⟩⟩
  refine⟨_,rfl,p.2,rfl,(hg p (Ui ep)).2,h,⟨_,_,rfl⟩,?_,?_,ag,bq hD sm⟩
  ·rw [take_one ep,Uc,Uc]; rfl
  ·rw [Ub,hi]; rfl
 ·rintro σ ys H' ⟨_,rfl,hi,h,sm⟩
  rw [hl1]at h hi
  have s2:=s1.trans sm
  refine ak ?_
  dsimp only
  refine⟨_,rfl,l,_,0,_,rfl,rfl,a_.of (s2 _ _ hL.lst),au (j:=0) e0,_,rfl,_,_,rfl,rfl,_,rfl,a0,_,rfl,s2 _ _ gm,λt3 H3 s3 Ee=>?_⟩
  rw [nq c1 c2]at Ee
  refine⟨_,rfl,D,_,rfl,.inl ⟨a_.of (s3 _ _ h),λu hu=>⟨true,.inr (.inl ⟨_,aH.of ag,?_⟩),bZ ?_⟩⟩⟩
  ·cases ps with | nil=>exact absurd rfl hne | cons _ _=>rfl
  have su:=aj hu (.tup (((ps.take 1).map λp=>sW p.2).map V.str))
  refine eO (su _ _ Ee) ag (by rw [Uz,Ua,Uz]; omega) λt4 H4 s4 A3=>?_
  have s5:=s2.trans (s3.trans (su.trans s4))
  refine⟨_,rfl,l,_,0,_,rfl,rfl,a_.of (s5 _ _ hL.lst),au (j:=0) e0,_,rfl,_,rfl,a0,_,rfl,s5 _ _ gm,λt6 H6 s6 Ho=>?_⟩
  rw [jH c1 c2]at Ho
  refine eO (s6 _ _ A3) Ho (by rw [Ub,Uz,Ua,Uz,List.length_drop]; omega) λt7 H7 s7 Kl=>q t7 H7 (s5.trans (s6.trans s7)) Kl
def D5(P:Program)(w:World)(K:UJ)(mg:Str->Option Value)(base:Heap)(aT:Addr)(n:Nat)(x:Wk):Prop :=
 (∃(f:Addr) (fd:FuncData),dA K aT x.nm f/\eZ P w K mg base bf 2 f fd ["worker","heads"] (dn n λy=>y=x)/\PySem.W.keepIn K (.ref f)=true/\Binds K fd ["worker","heads"] [])\/(jd K aT x.nm/\∀hs,bE x hs=hs.headD [])
theorem d0{n:Nat}{k k':Wk->Prop}(h:∀x,k' x->k x):∀vs H Q E,dn n k' vs H Q E->dn n k vs H Q E:=by
 rintro vs H Q E ⟨a,l,x,as,hs,h1,h2,h3,h4,h5,⟨h6,h7,h8,h9,h10⟩,h11⟩
 exact⟨a,l,x,as,hs,h1,h2,h3,h4,h5,⟨h x h6,h7,h8,h9,h10⟩,h11⟩
theorem xg{n:Nat}{aT:Addr}{f1 f2 f3 f4 f5 f6:Addr}
  (t1:dA K aT "cut" f1) (t2:dA K aT "must" f2) (t3:dA K aT "walk" f3) (t4:dA K aT "count" f4) (Sg:dA K aT "sum" f4) (t5:dA K aT "number" f5) (t6:dA K aT "meet" f6)
  (u1:jd K aT "keep") (u2:jd K aT "same") (u3:jd K aT "turn") (u4:jd K aT "sort") (u5:jd K aT "apart") (u6:jd K aT "first") (u7:jd K aT "both")
  (G1:FnAt P w K mg base 2 f1 ["worker","heads"] (dn n λx=>∃cs,x=.one (.cut cs))) (G2:FnAt P w K mg base 2 f2 ["worker","heads"] (dn n λx=>∃c ps,x=.one (.must c ps))) (G3:FnAt P w K mg base 1 f3 ["worker","heads"] (dn n λx=>∃c mv,x=.one (.walk c mv))) (G4:FnAt P w K mg base 2 f4 ["worker","heads"] (dn n λx=>∃cs,x=.one (.count cs)\/∃c,x=.one (.sum cs c)))
  (G5:FnAt P w K mg base 1 f5 ["worker","heads"] (dn n λx=>x=.one .number)) (G6:FnAt P w K mg base 1 f6 ["worker","heads"] (dn n λx=>∃c d p q,x=.meet c d p q)):∀x,D5 P w K mg base aT n x:=by
 obtain⟨d1,G1,b1,k1⟩:=G1
 obtain⟨d2,G2,b2,k2⟩:=G2
 obtain⟨d3,G3,b3,k3⟩:=G3
 obtain⟨d4,G4,b4,k4⟩:=G4
 obtain⟨d5,G5,b5,k5⟩:=G5
 obtain⟨d6,G6,b6,k6⟩:=G6
 intro x
 match x with
 | .one (.cut cs)=>exact .inl ⟨f1,d1,t1,G1.imp (d0 λ_ e=>⟨cs,e⟩),k1,b1⟩
 | .one (.must c ps)=>exact .inl ⟨f2,d2,t2,G2.imp (d0 λ_ e=>⟨c,ps,e⟩),k2,b2⟩
 | .one (.walk c mv)=>exact .inl ⟨f3,d3,t3,(G3.imp (d0 λ_ e=>⟨c,mv,e⟩)).mono (by omega),k3,b3⟩
 | .one (.count cs)=>exact .inl ⟨f4,d4,t4,G4.imp (d0 λ_ e=>⟨cs,.inl e⟩),k4,b4⟩
 | .one (.sum cs c)=>exact .inl ⟨f4,d4,Sg,G4.imp (d0 λ_ e=>⟨cs,.inr ⟨c,e⟩⟩),k4,b4⟩
 | .one .number=>exact .inl ⟨f5,d5,t5,(G5.imp (d0 λ_ e=>e)).mono (by omega),k5,b5⟩
 | .meet c d p q=>exact .inl ⟨f6,d6,t6,(G6.imp (d0 λ_ e=>⟨c,d,p,q,e⟩)).mono (by omega),k6,b6⟩
 | .one (.keep _ _)=>exact .inr ⟨u1,λ_=>rfl⟩
 | .one (.same _ _)=>exact .inr ⟨u2,λ_=>rfl⟩
 | .one (.turn _ _)=>exact .inr ⟨u3,λ_=>rfl⟩
 | .one (.sort _)=>exact .inr ⟨u4,λ_=>rfl⟩
 | .one .apart=>exact .inr ⟨u5,λ_=>rfl⟩
 | .one (.first _)=>exact .inr ⟨u6,λ_=>rfl⟩
 | .both _ _=>exact .inr ⟨u7,λ_=>rfl⟩
theorem BU{x:Wk}{hs:List Hd}(hn:hs.length=D9 x):∃h0,hs[0]? = some h0/\hs.headD []=h0:=by
 cases hs with
 | nil=>cases x <;> cases hn
 | cons h0 r=>exact⟨h0,rfl,rfl⟩
abbrev jv:Stmt:=top 41
theorem la:ay ["worker","heads","head_of_told"] ["worker","heads"] (ar jv):=fs
theorem vw{n:Nat}{aT:Addr}(mH:mg "HEADS_TOLD"=some (.ref aT))(GH:∀x:Wk,D5 P w K mg base aT n x)(F:FA K mg "head_told" jv) :
  bc bf P w K mg base 3 "head_told" ["worker","heads"] (dn n (λ_=>True)):=by
 refine F.ok la λf cdv A outer s H vs Q E hr h=>?_
 obtain⟨a,l,x,as,hs,rfl,ha,hL,hn,hsm,ho,q⟩:=h
 refine⟨_,(aN (dc rd (az K (pv 0) ai) (cQ rfl mH (show RelV (.ref aT) (.ref aT) from rfl)) rfl) (bj K (pv 1) ai)
   (aq (aL (i:=2) la.nd rfl (Or.inl rfl) (fX (r:=FZ K) pV (cQ rfl mH (show RelV (.ref aT) (.ref aT) from rfl)) (az K (pv 0) ai) (λ_ _=>rfl)))
   (av (oX (k:=2) (pv 2) hr uv (ae (pv 0) (ae (pv 1) ah)))))),?_⟩
 obtain⟨xs,h1⟩:=ha.first
 refine⟨_,rfl,a,_,0,_,rfl,rfl,aH.of h1,au (j:=0) rfl,aT,x.nm,rfl,rfl,?_⟩
 rcases GH x with⟨g,gd,JS,FG,kG,bG⟩ | ⟨hno,he⟩
 ·refine .inl ⟨⟨g,JS⟩,_,rfl,bA (aG ?_)⟩
  refine⟨_,rfl,a,_,0,_,rfl,rfl,aH.of h1,au (j:=0) rfl,aT,x.nm,g,rfl,rfl,JS,ak ?_⟩
  dsimp only
  exact⟨_,rfl,g,gd,_,_,rfl,FG,kG,bG,_,rfl,_,rfl,a,l,x,as,hs,rfl,ha,hL,hn,hsm,⟨rfl,ho.fit,ho.good,ho.ne,ho.sm⟩,q⟩
 ·refine .inr ⟨hno,_,rfl,bZ ?_⟩
  obtain⟨h0,e0,eh⟩:=BU hn
  obtain⟨a0,e0,gm⟩:=hL.nth e0
  refine⟨_,rfl,l,_,0,_,rfl,rfl,a_.of hL.lst,au (j:=0) e0,q a0 H (aM.refl _) ?_⟩
  rw [he hs,eh]
  exact gm
def dE:Wk->List (List Wk)
 | .one _=>[]
 | .both p q=>[p,q]
 | .meet _ _ p q=>[p,q]
def BQ(n:Nat):Sp:=λvs H Q _=>∃(a:Addr) (x:Wk),vs=[.ref a]/\dj n H a x/\∀(u:Addr) (bs:List Addr) (H':Hp),aM H H'->bO (jf (n-1)) H' u bs (dE x)->Q (.ref u) H'
def DH:List V:=[.str "both",.str "meet"]
def mF:List V:=[.str "keep",.str "same",.str "cut",.str "turn",.str "must"]
structure ER(K:UJ)(mg:Str->Option Value)(nm:Str)(a:Addr)(vs:List V):Prop where
 m:mg nm=some (.ref a)
 t:∀H,aH K H a vs
theorem sD{x y:Str}:EV (.str x) (.str y)=decide (y=x):=by
 show(x==y)=_
 by_cases h:x=y
 ·rw [h]; simp
 ·rw [T9 (λe=>h e.symm)]
  exact beq_false_of_ne h
def bX:Wk->Bool
 | .one _=>false
 | _=>true
def cD(s:Str):Bool:=inV (.str s) mF
theorem yN{x:Wk}:inV (.str x.nm) DH=bX x:=by
 cases x with
 | one x=>cases x <;> (simp only [Wk.nm,W1.nm,bX]; decide +kernel)
 | both p q=>simp only [Wk.nm,bX]; decide +kernel
 | meet c d p q=>simp only [Wk.nm,bX]; decide +kernel
theorem vk{us:List V}{a b:V}:gb (us++[a,b]) (some (-2)) none=[a,b]:=by
 unfold gb HT.dH
 have hl:(us++[a,b]).length=us.length+2:=by simp
 rw [hl]
 show List.take (us.length+2-(if(-2:Int)<0 then((-2:Int)+((us.length+2:Nat):Int)).toNat else _)) (List.drop (if(-2:Int)<0 then((-2:Int)+((us.length+2:Nat):Int)).toNat else _) (us++[a,b]))=_
 rw [if_pos (by decide)]
 have:((-2:Int)+((us.length+2:Nat):Int)).toNat=us.length:=by omega
 rw [this,List.drop_left]
 simp
abbrev gH:Stmt:=top 2
theorem oM:ay ["worker"] ["worker"] (ar gH):=fs
theorem Il{n:Nat}{aB:Addr}(Cb:ER K mg "BRANCHED" aB DH)(F:FA K mg "branches_of" gH) :
  bc bf P w K mg base 1 "branches_of" ["worker"] (BQ n):=by
 refine F.ok oM λf cdv A outer s H vs Q E hr h=>?_
 obtain⟨a,x,rfl,ha,q⟩:=h
 refine⟨_,(av (eK (dc cp (az K (pv 0) ai) (cQ (v:=.ref aB) rfl Cb.m rfl) rfl) (cu c8 (pv 0) (cA (rm lM ai)) dy) (aJ ah))),?_⟩
 obtain⟨xs,h1⟩:=ha.first
 refine⟨_,rfl,a,_,0,_,rfl,rfl,aH.of h1,au (j:=0) rfl,aB,DH,rfl,.inr (Cb.t _),rfl,rfl,_,rfl,?_⟩
 show if inV (.str x.nm) DH=true then _ else _
 rw [yN]
 cases x with
 | one x =>
  refine bA ⟨xy,λp hp=>q p [] _ (aj hp _) ⟨ag,rfl,λi a x e=>by cases e⟩⟩
 | both p q' =>
  cases n with
  | zero=>exact False.elim ha
  | succ n =>
  obtain⟨b,c,bs,cs,h1,h2,h3⟩:=ha
  refine bZ ⟨_,rfl,_,rfl,_,rfl,a,_,rfl,h1,λt H' s' ht=>?_⟩
  rw [show [V.str "both",.ref b,.ref c]=[V.str "both"]++[.ref b,.ref c] from rfl,vk]at ht
  refine q t [b,c] H' s' ⟨ht,rfl,λi a x e1 e2=>?_⟩
  have k:=aE.of s'
  match i with
  | 0=>cases e1; cases e2; exact jf.keep k ⟨bs,h2⟩
  | 1=>cases e1; cases e2; exact jf.keep k ⟨cs,h3⟩
  | i+2=>cases e1
 | meet c d p q' =>
  cases n with
  | zero=>exact False.elim ha
  | succ n =>
  obtain⟨b,e,bs,es,h1,h2,h3⟩:=ha
  refine bZ ⟨_,rfl,_,rfl,_,rfl,a,_,rfl,h1,λt H' s' ht=>?_⟩
  rw [show [V.str "meet",.int c,.int d,.ref b,.ref e]=[V.str "meet",.int c,.int d]++[.ref b,.ref e] from rfl,vk]at ht
  refine q t [b,e] H' s' ⟨ht,rfl,λi a x e1 e2=>?_⟩
  have k:=aE.of s'
  match i with
  | 0=>cases e1; cases e2; exact jf.keep k ⟨bs,h2⟩
  | 1=>cases e1; cases e2; exact jf.keep k ⟨es,h3⟩
  | i+2=>cases e1
def aD:Wk->Str
 | .one (.first n)=>if n<=0 then "first 0" else "first"
 | x=>x.nm
def xS(n:Nat):Sp:=λvs H Q _=>∃(a:Addr) (x:Wk),vs=[.ref a]/\dj n H a x/\Q (.str (aD x)) H
theorem kK{x:Wk}(h:x.nm="first"):∃n,x=.one (.first n):=by
 revert h
 cases x with
 | one x=>cases x <;> simp only [Wk.nm,W1.nm] <;> first | (intro h; exact⟨_,rfl⟩) | (intro h; exact absurd h (by decide +kernel))
 | both p q=>simp only [Wk.nm]; intro h; exact absurd h (by decide +kernel)
 | meet c d p q=>simp only [Wk.nm]; intro h; exact absurd h (by decide +kernel)
theorem lj{x:Wk}(h:x.nm≠"first"):aD x=x.nm:=by
 cases x with
 | one x=>cases x <;> first | rfl | exact absurd rfl h
 | both p q=>rfl
 | meet c d p q=>rfl
abbrev gO:Stmt:=top 42
theorem oo:ay ["worker"] ["worker"] (ar gO):=fs
theorem Fi{n:Nat}(F:FA K mg "name_passed" gO) :
  bc bf P w K mg base 1 "name_passed" ["worker"] (xS n):=by
 refine F.ok oo λf cdv A outer s H vs Q E hr h=>?_
 obtain⟨a,x,rfl,ha,q⟩:=h
 refine⟨_,(aN (PW.pt (kC (aW aP (az K (pv 0) ai) ao) (iG (aW C_ (az K (pv 0) ai) ai)))) ao
   (av (az K (pv 0) ai))),?_⟩
 obtain⟨xs,h1⟩:=ha.first
 refine⟨_,rfl,a,_,0,_,rfl,rfl,aH.of h1,au (j:=0) rfl,rfl,_,rfl,?_⟩
 rw [bM]
 by_cases e:x.nm="first"
 ·rw [T_ e]
  obtain⟨m,rfl⟩:=kK e
  have h1:H a=some (.tup [.str "first",.int m]):=bW.mp ha
  refine bZ ⟨_,rfl,a,_,1,_,rfl,rfl,aH.of h1,rfl,_,_,rfl,rfl,_,rfl,?_⟩
  have q:Q (.str (if m<=0 then "first 0" else "first")) H:=q
  refine cH (λk=>?_) (λk=>aG ?_)
  ·rw [if_pos (UI k)]at q
   exact q
  ·rw [if_neg (λz=>k (T_ z))]at q
   exact⟨_,rfl,a,_,0,_,rfl,rfl,aH.of h1,rfl,q⟩
 ·rw [T9 e]
  rw [lj e]at q
  exact bA (bA (aG ⟨_,rfl,a,_,0,_,rfl,rfl,aH.of h1,au (j:=0) rfl,q⟩))
structure Kn where
 hd:Hd
 ps:List Str
 lo:Bool
def gn(H:Hp)(a:Addr)(k:Kn):Prop:=∃h p,H a=some (.tup [.ref h,.ref p,.bl k.lo])/\dQ H h k.hd/\dQ H p k.ps
theorem gn.same{H H':Hp}{a:Addr}{k:Kn}(s:aM H H')(h:gn H a k):gn H' a k:=by
 obtain⟨u,p,h1,h2,h3⟩:=h
 exact⟨u,p,s _ _ h1,s _ _ h2,s _ _ h3⟩
def jG:Wk->List Str->Bool
 | .one (.walk _ _),ps=>ps.all cD
 | .meet _ _ p q,_=>(p++q).all λw=>cD w.nm
 | _,_=>true
def DA(x:Wk):Prop:=∀p∈dE x,p.length<=1000
def Cr(n:Nat):Sp:=λvs H Q _=>∃(a b:Addr) (x:Wk) (k:Kn),vs=[.ref a,.ref b]/\dj n H a x/\gn H b k/\k.ps.length<=1000/\DA x/\∀H',aM H H'->Q (.bl (jG x k.ps)) H'
theorem yH{x:Wk}(h:x.nm="walk"):∃c mv,x=.one (.walk c mv):=by
 revert h
 cases x with
 | one x=>cases x <;> simp only [Wk.nm,W1.nm] <;> first | (intro h; exact⟨_,_,rfl⟩) | (intro h; exact absurd h (by decide +kernel))
 | both p q=>simp only [Wk.nm]; intro h; exact absurd h (by decide +kernel)
 | meet c d p q=>simp only [Wk.nm]; intro h; exact absurd h (by decide +kernel)
theorem iB{x:Wk}(h:x.nm="meet"):∃c d p q,x=.meet c d p q:=by
 revert h
 cases x with
 | one x=>cases x <;> simp only [Wk.nm,W1.nm] <;> (intro h; exact absurd h (by decide +kernel))
 | both p q=>simp only [Wk.nm]; intro h; exact absurd h (by decide +kernel)
 | meet c d p q=>intro h; exact⟨_,_,_,_,rfl⟩
theorem BL{x:Wk}{ps:List Str}(h:x.nm≠"walk")(h2:x.nm≠"meet"):jG x ps=true:=by
 cases x with
 | one x=>cases x <;> first | rfl | exact absurd rfl h
 | both p q=>rfl
 | meet c d p q=>exact absurd rfl h2
abbrev ky:Stmt:=top 43
theorem vt:ay ["worker","known"] ["worker","known"] (ar ky):=fs
theorem wJ{n:Nat}{aO:Addr}(B2:iR mg)(Co:ER K mg "ONE_ROW" aO mF)(F:FA K mg "rows_fit" ky)
  (gD:bc bf P w K mg base 1 "branches_of" ["worker"] (BQ n)) :
  bc bf P w K mg base 2 "rows_fit" ["worker","known"] (Cr n):=by
 refine F.ok vt λf cdv A outer s H vs Q E hr h=>?_
 have hu:=iM hr
 obtain⟨a,b,x,k,rfl,ha,hk,hps,Gz,q⟩:=h
 refine⟨_,(aN (aW aP (az K (pv 0) ai) ao) (aZ (iq rfl) rfl B2.all PyProof.Rows.boot_all (ae (bw (N':=["name"]) (src:=[none]) rfl (ba.jE (by kernel_rfl)) (cI (az K (pv 1) ai)) (λcl C s H fp=>(el (i:=0))) (λcl C s H fp=>aX) (te:=(gB (GB K false) (bx 0) (tC (.ref aO)))) (λcl C s H fp=>(fF cp (iX 0) (cQ (v:=.ref aO) xP Co.m rfl) rfl))) ah))
   (aN (aW aP (az K (pv 0) ai) ao) (aZ (iq rfl) rfl B2.all PyProof.Rows.boot_all (ae (qR (N':=["branch","inner"]) (src:=[none,none]) rfl (ba.jE (by kernel_rfl)) (cI (ax gD hr (ae (pv 0) ah))) (λcl C s H fp=>(el (i:=0))) (λcl C s H fp=>aX) (wi2:=(Fm K (bx 0))) (λcl C s H fp=>(cI (iX 0))) (λcl C s H fp=>(el (i:=1))) (λcl C s H fp=>aX) (te:=(gB (GB K false) (gB (sj K) (bx 1) (tC (.int 0))) (tC (.ref aO)))) (λcl C s H fp=>(fF cp (az K (iX 1) ai) (cQ (v:=.ref aO) xP Co.m rfl) rfl))) ah))
   (av fQ))),?_⟩
 obtain⟨xs,h1⟩:=ha.first
 refine⟨_,rfl,a,_,0,_,rfl,rfl,aH.of h1,au (j:=0) rfl,rfl,_,rfl,?_⟩
 rw [bM]
 by_cases e:x.nm="walk"
 ·rw [T_ e]
  obtain⟨c,mv,rfl⟩:=yH e
  obtain⟨hh,p,hk1,hk2,hk3⟩:=hk
  refine bZ ⟨_,rfl,b,_,1,_,rfl,rfl,aH.of hk1,rfl,p,rfl,⟨_,aH.of hk3⟩,λD hD=>?_⟩
  refine cE (xs:=k.ps.map V.str) (λi σ ys H'=>(∃o,σ=[o])/\ys=((k.ps.take i).map cD).map V.bl/\ys.length=i/\H' D=some (.lst ys)/\aM H H') ⟨⟨none,rfl⟩,rfl,rfl,ag,aj hD _⟩ ?_ ?_ ?_ ?_ ?_
  ·rintro i σ ys H' _ ⟨_,_,hi,h,_⟩
   exact⟨h,Nat.le_of_eq hi⟩
  ·rintro i σ ys H' _ ⟨_,_,_,_,sm⟩
   exact aH.of (sm _ _ hk3)
  ·rw [Ua]; exact T8 hps (by decide)
  ·rintro i v σ ys H' hv ⟨⟨o,rfl⟩,rfl,hi,h,sm⟩
   rw [Uy]at hv
   cases ec:k.ps[i]? with
   | none=>rw [ec]at hv; cases hv
   | some s0 =>
    rw [ec]at hv
    have hv:V.str s0=v:=Uv hv
    subst hv
    refine⟨_,rfl,aO,mF,rfl,.inr (Co.t _),rfl,rfl,h,⟨_,rfl⟩,?_,?_,ag,bq hD sm⟩
    ·rw [take_one ec,Uc,Uc]; rfl
    ·rw [Ub,hi]; rfl
  ·rintro σ ys H' ⟨_,rfl,_,h,sm⟩
   rw [Ua,List.take_length]at h
   refine⟨D,_,rfl,a_.of h,?_⟩
   rw [show(k.ps.map cD).all id=k.ps.all cD by rw [List.all_map]; rfl]
   exact q H' sm
 ·rw [T9 e]
  refine bA (aG ⟨_,rfl,a,_,0,_,rfl,rfl,aH.of h1,au (j:=0) rfl,rfl,_,rfl,?_⟩)
  rw [bM]
  by_cases e2:x.nm="meet"
  ·rw [T_ e2]
   obtain⟨c,d,p1,p2,rfl⟩:=iB e2
   refine bZ ⟨_,rfl,a,_,rfl,ha,λu bs H1 s1 hI=>⟨u,rfl,⟨_,aH.of hI.tup⟩,λD hD=>?_⟩⟩
   let ws:Nat->List Wk:=λi=>(([p1,p2]:List (List Wk)).take i).flatten
   have hw1:p1.length<=1000:=Gz p1 (by simp [dE])
   have hw2:p2.length<=1000:=Gz p2 (by simp [dE])
   have hlb:(bs.map V.ref).length=2:=by rw [Ua,hI.len]; rfl
   have hws:∀i,(ws i).length<=2000:=by
    intro i
    match i with
    | 0=>exact Uu _
    | 1=>show(p1++[]).length<=_; rw [List.append_nil]; omega
    | i+2=>show((p1::p2::List.take i []).flatten).length<=_; rw [List.take_nil]; show(p1++(p2++[])).length<=_; rw [List.append_nil,Ub]; omega
   refine qZ (xs:=bs.map V.ref) (λi σ ys H'=>(∃o1 o2,σ=[o1,o2])/\ys=(ws i).map (λw=>V.bl (cD w.nm))/\H' D=some (.lst ys)/\aM H1 H') ⟨⟨none,none,rfl⟩,rfl,ag,aj hD _⟩ ?_ ?_ ?_ ?_
   ·rintro i σ ys H' _ ⟨_,_,h,_⟩
    exact h
   ·rintro i σ ys H' _ ⟨_,_,_,sm⟩
    exact aH.of (sm _ _ hI.tup)
   ·rintro i v σ ys H' hv ⟨⟨o1,o2,rfl⟩,rfl,h,sm⟩
    obtain⟨b',pp,rfl,ep,cs,hJ⟩:=hI.get hv
    have hpl:pp.length<=1000:=Gz pp (Ui ep)
    refine ak ⟨_,rfl,b',rfl,⟨_,aH.of (sm _ _ hJ.tup)⟩,?_⟩
    refine lF (xs:=cs.map V.ref) (λj σ zs H2=>(∃o,σ=[some (.ref b'),o])/\zs=(ws i).map (λw=>V.bl (cD w.nm))++(pp.take j).map (λw=>V.bl (cD w.nm))/\H2 D=some (.lst zs)/\aM H1 H2) ⟨⟨o2,rfl⟩,by rw [List.take_zero,List.map_nil,List.append_nil],h,sm⟩ ?_ ?_ ?_ ?_
    ·rintro j σ zs H2 hj ⟨_,rfl,h2,_⟩
     refine⟨h2,λ_=>?_⟩
     rw [Ub,Ua,Ua,Uz]
     have:=hws i
     exact Ud (show _<=3000 by omega) (by decide)
    ·rintro j σ zs H2 _ ⟨_,_,_,s2⟩
     exact aH.of (s2 _ _ hJ.tup)
    ·rintro j v2 σ zs H2 hu' ⟨⟨o,rfl⟩,rfl,h2,s2⟩
     obtain⟨c',wk,rfl,ew,hW⟩:=hJ.get hu'
     obtain⟨ys',hW⟩:=hW.first
     refine ak ⟨_,rfl,c',_,0,_,rfl,rfl,aH.of (s2 _ _ hW),au (j:=0) rfl,aO,mF,rfl,.inr (Co.t _),rfl,rfl,h2,⟨_,rfl⟩,?_,ag,bq hD s2⟩
     rw [take_one ew,Uc,List.append_assoc]; rfl
    ·rintro σ zs H2 ⟨⟨o,rfl⟩,rfl,h2,s2⟩
     refine⟨⟨_,_,rfl⟩,?_,h2,s2⟩
     rw [Ua,hJ.len,List.take_length,←Uc]
     congr 1
     show _=((dE (.meet c d p1 p2)).take (i+1)).flatten
     rw [take_one ep,List.flatten_append]
     show _=_++(pp++[])
     rw [List.append_nil]
     rfl
   ·rintro σ ys H' ⟨_,rfl,h,sm⟩
    rw [hlb]at h
    refine⟨D,(p1++p2).map λw=>cD w.nm,rfl,a_.of ?_,?_⟩
    ·rw [h,List.map_map]
     show some (HO.lst ((p1++(p2++[])).map _))=_
     rw [List.append_nil]
     rfl
    ·rw [List.all_map]
     exact q H' (s1.trans sm)
  ·rw [T9 e2]
   rw [BL e e2]at q
   exact bA (aG (q H (aM.refl _)))
theorem qL(ss:List Str):(ss.map V.str).all fo=true:=by
 rw [List.all_eq_true]
 intro v hv
 obtain⟨s,_,rfl⟩:=Up.mp hv
 rfl
def kE(ps:List Str)(s:Str):Bool:=inV (.str s) (ps.map V.str)
theorem Gd{ps:List Str}{s:Str}:kE ps s=true↔s∈ps:=by
 unfold kE inV
 rw [List.any_eq_true]
 constructor
 ·rintro⟨v,hv,e⟩
  obtain⟨t,ht,rfl⟩:=Up.mp hv
  rw [sD]at e
  rw [UI e]
  exact ht
 ·intro h
  exact⟨.str s,Up.mpr ⟨s,h,rfl⟩,by rw [sD]; exact T_ rfl⟩
def e_:Wk->Kn->Bool
 | .one (.keep c _),k=>decide (bt k.hd c="t")
 | .one (.first n),k=>decide (¬n<=0)&&(kE k.ps "walk"||kE k.ps "both"||kE k.ps "meet")
 | .meet ..,k=>kE k.ps "walk"||kE k.ps "first"
 | _,_=>false
def keepIn(x:Wk)(h:Hd):Prop:=∀c t,x=.one (.keep c t)->1<=c/\c<=h.length
def yW(n:Nat):Sp:=λvs H Q _=>∃(a b:Addr) (x:Wk) (k:Kn),vs=[.ref a,.ref b]/\dj n H a x/\gn H b k/\keepIn x k.hd/\∀H',aM H H'->Q (.bl (e_ x k)) H'
theorem rZ{x:Wk}(h:x.nm="keep"):∃c t,x=.one (.keep c t):=by
 revert h
 cases x with
 | one x=>cases x <;> simp only [Wk.nm,W1.nm] <;> first | (intro h; exact⟨_,_,rfl⟩) | (intro h; exact absurd h (by decide +kernel))
 | both p q=>simp only [Wk.nm]; intro h; exact absurd h (by decide +kernel)
 | meet c d p q=>simp only [Wk.nm]; intro h; exact absurd h (by decide +kernel)
theorem pY{x:Wk}:aD x="first"↔∃n,¬n<=(0:Int)/\x=.one (.first n):=by
 constructor
 ·intro h
  by_cases e:x.nm="first"
  ·obtain⟨n,rfl⟩:=kK e
   refine⟨n,λz=>?_,rfl⟩
   have h:(if n<=0 then("first 0" : Str)else "first")="first":=h
   rw [if_pos z]at h
   exact absurd h (by decide +kernel)
  ·rw [lj e]at h
   exact absurd h e
 ·rintro⟨n,h,rfl⟩
  show(if n<=0 then("first 0" : Str)else "first")="first"
  rw [if_neg h]
theorem Am{x:Wk}{k:Kn}(h1:x.nm≠"keep")(h2:aD x≠"first")(h3:x.nm≠"meet"):e_ x k=false:=by
 match x with
 | .one (.keep _ _)=>exact absurd rfl h1
 | .one (.first n) =>
  have:n<=0:=by
   by_cases z:n<=0
   ·exact z
   ·exact absurd (pY.mpr ⟨n,z,rfl⟩) h2
  show(decide (¬n<=0)&&_)=false
  rw [T9 (λz=>z this)]
  rfl
 | .meet ..=>exact absurd rfl h3
 | .both ..=>rfl
 | .one (.same ..)=>rfl
 | .one (.cut ..)=>rfl
 | .one (.turn ..)=>rfl
 | .one (.must ..)=>rfl
 | .one (.walk ..)=>rfl
 | .one (.sort ..)=>rfl
 | .one .apart=>rfl
 | .one (.count ..)=>rfl
 | .one (.sum ..)=>rfl
 | .one .number=>rfl
abbrev gJ:Stmt:=top 45
theorem eQ:ay ["worker","known","head","passed","loose"] ["worker","known"] (ar gJ):=fs
theorem Bn{n:Nat}{tk:Tok}(B3:zv mg)(mT:mg "TALLY"=some (.str "t" tk))(F:FA K mg "makes_loose" gJ)
  (gW:bc bf P w K mg base 1 "name_passed" ["worker"] (xS n)) :
  bc bf P w K mg base 2 "makes_loose" ["worker","known"] (yW n):=by
 refine F.ok eQ λf cdv A outer s H vs Q E hr h=>?_
 have hu:=iM hr
 have hu1:=jY hr
 obtain⟨a,b,x,k,rfl,ha,hk,hkp,q⟩:=h
 refine⟨_,(aq (pQ (pv 1) (cB rfl (aA (bT (i:=2) eQ.nd rfl (Or.inl rfl)) (aA (bT (i:=3) eQ.nd rfl (Or.inr rfl)) (aA (bT (i:=4) eQ.nd rfl (Or.inl rfl)) bS)))))
   (aN (aW aP (az K (pv 0) ai) ao) (bU aP (az K (pv 2) (aF bJ (az K (pv 0) ai) ai)) (cQ (v:=.str "t") rfl mT ⟨_,rfl⟩))
   (aN (aW aP (ax gW hr (ae (pv 0) ah)) ao) (aZ (lQ rfl) rfl B3.any PyProof.Rows.boot_any (ae (bw (N':=["name","passed"]) (src:=[none,some 3]) rfl (ba.jE (by kernel_rfl)) (cI (aJ (ae ao (ae ao (ae ao ah))))) (λcl C s H fp=>(el (i:=0))) (λcl C s H fp=>aX) (te:=(gB (GB K false) (bx 0) (bx 1))) (λcl C s H fp=>(fF cp (iX 0) (yl 1) rfl))) ah))
   (aN (aW aP (az K (pv 0) ai) ao) (aZ (lQ rfl) rfl B3.any PyProof.Rows.boot_any (ae (bw (N':=["name","passed"]) (src:=[none,some 3]) rfl (ba.jE (by kernel_rfl)) (cI (aJ (ae ao (ae ao ah)))) (λcl C s H fp=>(el (i:=0))) (λcl C s H fp=>aX) (te:=(gB (GB K false) (bx 0) (bx 1))) (λcl C s H fp=>(fF cp (iX 0) (yl 1) rfl))) ah))
   (av fQ))))),?_⟩
 obtain⟨xs,h1⟩:=ha.first
 obtain⟨hh,p,hk1,hk2,hk3⟩:=hk
 refine⟨_,rfl,b,_,rfl,aH.of hk1,rfl,_,_,rfl,ak ⟨_,_,rfl,ak ⟨_,_,rfl,ak ⟨rfl,?_⟩⟩⟩⟩
 dsimp only
 refine⟨_,rfl,a,_,0,_,rfl,rfl,aH.of h1,au (j:=0) rfl,rfl,_,rfl,?_⟩
 rw [bM]
 by_cases e:x.nm="keep"
 ·rw [T_ e]
  obtain⟨c,t,rfl⟩:=rZ e
  obtain⟨st,ys,hx1,hx2⟩:=bW.mp ha
  refine bZ ⟨_,rfl,_,rfl,a,_,1,_,rfl,rfl,aH.of hx1,rfl,_,_,rfl,rfl,hh,_,_,_,rfl,rfl,aH.of hk2,dD (hkp c t rfl),rfl,?_⟩
  rw [bM]
  exact q H (aM.refl _)
 rw [T9 e]
 refine bA (aG ⟨_,rfl,a,x,rfl,ha,rfl,_,rfl,?_⟩)
 rw [bM]
 by_cases e2:aD x="first"
 ·rw [T_ e2]
  obtain⟨m,hm,rfl⟩:=pY.mp e2
  refine bZ ⟨gq,λu hu=>?_⟩
  have su:=aj hu (.tup [V.str "walk",.str "both",.str "meet"])
  have hu1:upd H u (.tup [V.str "walk",.str "both",.str "meet"]) u=_:=ag
  revert su hu1
  generalize upd H u (.tup [V.str "walk",.str "both",.str "meet"])=H1
  intro su hu1
  refine⟨u,rfl,⟨_,aH.of hu1⟩,λD hD=>?_⟩
  refine cE (xs:=(["walk","both","meet"]:List Str).map V.str) (λi σ ys H'=>(∃o,σ=[o,some (.ref p)])/\ys=(((["walk","both","meet"]:List Str).take i).map (kE k.ps)).map V.bl/\ys.length=i/\H' D=some (.lst ys)/\aM H1 H') ⟨⟨none,rfl⟩,rfl,rfl,ag,aj hD _⟩ ?_ ?_ ?_ ?_ ?_
  ·rintro i σ ys H' _ ⟨_,_,hi,h,_⟩
   exact⟨h,Nat.le_of_eq hi⟩
  ·rintro i σ ys H' _ ⟨_,_,_,_,sm⟩
   exact aH.of (sm _ _ hu1)
  ·decide
  ·rintro i v σ ys H' hv ⟨⟨o,rfl⟩,rfl,hi,h,sm⟩
   rw [Uy]at hv
   cases ec:(["walk","both","meet"]:List Str)[i]? with
   | none=>rw [ec]at hv; cases hv
   | some s0 =>
    rw [ec]at hv
    have hv:V.str s0=v:=Uv hv
    subst hv
    refine⟨_,rfl,_,rfl,p,_,rfl,.inr (aH.of (sm _ _ (su _ _ hk3))),rfl,qL _,h,⟨_,rfl⟩,?_,?_,ag,bq hD sm⟩
    ·rw [take_one ec,Uc,Uc]; rfl
    ·rw [Ub,hi]; rfl
  ·rintro σ ys H' ⟨_,rfl,_,h,sm⟩
   refine⟨D,_,rfl,a_.of h,?_⟩
   have q:=q H' (su.trans sm)
   have q:Q (.bl (decide (¬m<=0)&&(kE k.ps "walk"||kE k.ps "both"||kE k.ps "meet"))) H':=q
   rw [T_ hm,Bool.true_and]at q
   show Q (.bl (kE k.ps "walk"||(kE k.ps "both"||(kE k.ps "meet"||false)))) H'
   rw [Bool.or_false,←Bool.or_assoc]
   exact q
 rw [T9 e2]
 refine bA (aG ⟨_,rfl,a,_,0,_,rfl,rfl,aH.of h1,au (j:=0) rfl,rfl,_,rfl,?_⟩)
 rw [bM]
 by_cases e3:x.nm="meet"
 ·rw [T_ e3]
  obtain⟨c,d,p1,p2,rfl⟩:=iB e3
  refine bZ ⟨cJ,λu hu=>?_⟩
  have su:=aj hu (.tup [V.str "walk",.str "first"])
  have hu1:upd H u (.tup [V.str "walk",.str "first"]) u=_:=ag
  revert su hu1
  generalize upd H u (.tup [V.str "walk",.str "first"])=H1
  intro su hu1
  refine⟨u,rfl,⟨_,aH.of hu1⟩,λD hD=>?_⟩
  refine cE (xs:=(["walk","first"]:List Str).map V.str) (λi σ ys H'=>(∃o,σ=[o,some (.ref p)])/\ys=(((["walk","first"]:List Str).take i).map (kE k.ps)).map V.bl/\ys.length=i/\H' D=some (.lst ys)/\aM H1 H') ⟨⟨none,rfl⟩,rfl,rfl,ag,aj hD _⟩ ?_ ?_ ?_ ?_ ?_
  ·rintro i σ ys H' _ ⟨_,_,hi,h,_⟩
   exact⟨h,Nat.le_of_eq hi⟩
  ·rintro i σ ys H' _ ⟨_,_,_,_,sm⟩
   exact aH.of (sm _ _ hu1)
  ·decide
  ·rintro i v σ ys H' hv ⟨⟨o,rfl⟩,rfl,hi,h,sm⟩
   rw [Uy]at hv
   cases ec:(["walk","first"]:List Str)[i]? with
   | none=>rw [ec]at hv; cases hv
   | some s0 =>
    rw [ec]at hv
    have hv:V.str s0=v:=Uv hv
    subst hv
    refine⟨_,rfl,_,rfl,p,_,rfl,.inr (aH.of (sm _ _ (su _ _ hk3))),rfl,qL _,h,⟨_,rfl⟩,?_,?_,ag,bq hD sm⟩
    ·rw [take_one ec,Uc,Uc]; rfl
    ·rw [Ub,hi]; rfl
  ·rintro σ ys H' ⟨_,rfl,_,h,sm⟩
   refine⟨D,_,rfl,a_.of h,?_⟩
   have q:=q H' (su.trans sm)
   have q:Q (.bl (kE k.ps "walk"||kE k.ps "first")) H':=q
   show Q (.bl (kE k.ps "walk"||(kE k.ps "first"||false))) H'
   rw [Bool.or_false]
   exact q
 rw [T9 e3]
 rw [Am e e2 e3]at q
 exact bA (aG (q H (aM.refl _)))
def jr:Wk->Bool
 | .one (.must ..)=>true
 | _=>false
def sC(x:Wk)(k:Kn)(hs:List Hd):Option Str :=
 if c9 x hs=true then
  if bg x hs=true then
   if(bE x hs).length<=6 then
    if jG x k.ps=true then
     if(jr x&&k.lo)=true then some "loose" else none
    else some "rows"
   else some "wide"
  else some "sort"
 else some "column"
def wV:Option Str->V
 | none=>.non
 | some s=>.str s
structure z_(x:Wk):Prop where
 sm:km x
 good:goodW x
 ne:PD x
 wide:DA x
def GV(n:Nat):Sp:=λvs H Q _=>∃(a b l:Addr) (x:Wk) (k:Kn) (as:List Addr) (hs:List Hd),vs=[.ref a,.ref b,.ref l]/\dj n H a x/\gn H b k/\fW H l as hs/\hs.length=D9 x/\z_ x/\k.ps.length<=1000/\(∀h∈hs,h.length<=1000)/\∀H',aM H H'->Q (wV (sC x k hs)) H'
theorem yU{x:Wk}:decide (x.nm="must")=jr x:=by
 cases x with
 | one x=>cases x <;> (simp only [Wk.nm,W1.nm,jr]; first | exact T_ rfl | decide +kernel | exact T9 (by decide +kernel))
 | both p q=>simp only [Wk.nm,jr]; exact T9 (by decide +kernel)
 | meet c d p q=>simp only [Wk.nm,jr]; exact T9 (by decide +kernel)
abbrev lX:Stmt:=top 44
theorem x9:ay ["worker","known","heads"] ["worker","known","heads"] (ar lX):=fs
theorem AN{n:Nat}(B:jJ mg){tw:Tok}(mW:mg "WIDEST_ROW"=some (.int 6 tw))(F:FA K mg "why_not" lX)
  (qF:bc bf P w K mg base 2 "columns_fit" ["worker","heads"] (dC n c9 λ_ _=>True))
  (vh:bc bf P w K mg base 4 "sorts_fit" ["worker","heads"] (dC n bg (ql λ_=>True)))
  (jw:bc bf P w K mg base 3 "head_told" ["worker","heads"] (dn n λ_=>True))
  (wX:bc bf P w K mg base 2 "rows_fit" ["worker","known"] (Cr n)) :
  bc bf P w K mg base 5 "why_not" ["worker","known","heads"] (GV n):=by
 refine F.ok x9 λf cdv A outer s H vs Q E hr h=>?_
 have hu:=iM hr
 obtain⟨a,b,l,x,k,as,hs,rfl,ha,hk,hL,hn,hok,hps,RF,q⟩:=h
 refine⟨_,(aN (sP (ft (ax qF hr (ae (pv 0) (ae (pv 2) ah))))) ao
   (aN (sP (ft (ax vh hr (ae (pv 0) (ae (pv 2) ah))))) ao
   (aN (aW il (aZ bF rfl B.len PySem.boot_len (ae (ax jw hr (ae (pv 0) (ae (pv 2) ah))) ah)) (cQ (v:=.int 6) rfl mW ⟨_,rfl⟩)) ao
   (aN (sP (ft (ax wX hr (ae (pv 0) (ae (pv 1) ah))))) ao
   (aN (PW.pt (kC (aW aP (az K (pv 0) ai) ao) (iG (ft (az K (pv 1) ai))))) ao
   (av iz)))))),?_⟩
 unfold sC at q
 refine⟨_,rfl,_,rfl,a,l,x,as,hs,rfl,ha,hL,hn,hok.sm,trivial,λH1 s1=>⟨_,rfl,?_⟩⟩
 by_cases e1:c9 x hs=false
 ·rw [e1]
  rw [if_neg (by rw [e1]; decide)]at q
  exact bZ (q H1 s1)
 have e1:c9 x hs=true:=by simpa using e1
 rw [e1]
 rw [if_pos e1]at q
 have ha1:=ha.keep (aE.of s1)
 refine bA (aG ⟨_,rfl,_,rfl,a,l,x,as,hs,rfl,ha1,hL.same s1,hn,hok.sm,⟨trivial,e1,hok.good⟩,λH2 s2=>⟨_,rfl,?_⟩⟩)
 have s12:=s1.trans s2
 by_cases e2:bg x hs=false
 ·rw [e2]
  rw [if_neg (by rw [e2]; decide)]at q
  exact bZ (q H2 s12)
 have e2:bg x hs=true:=by simpa using e2
 rw [e2]
 rw [if_pos e2]at q
 have ha2:=ha.keep (aE.of s12)
 refine bA (aG ⟨_,rfl,_,rfl,a,l,x,as,hs,rfl,ha2,hL.same s12,hn,hok.sm,⟨trivial,e1,hok.good,hok.ne,RF⟩,λu H3 s3 hu=>?_⟩)
 have p6:=s12.trans s3
 refine⟨u,_,rfl,.inr (aH.of hu),_,_,rfl,rfl,_,rfl,?_⟩
 rw [Ua]
 by_cases e3:¬(bE x hs).length<=6
 ·rw [if_neg e3]at q
  rw [T_ (show(6:Int)<((bE x hs).length:Nat) by omega)]
  exact bZ (q H3 p6)
 have e3:(bE x hs).length<=6:=by omega
 rw [if_pos e3]at q
 rw [T9 (show¬(6:Int)<((bE x hs).length:Nat) by omega)]
 have ha3:=ha.keep (aE.of p6)
 refine bA (aG ⟨_,rfl,_,rfl,a,b,x,k,rfl,ha3,hk.same p6,hps,hok.wide,λH4 s4=>⟨_,rfl,?_⟩⟩)
 have qp:=p6.trans s4
 by_cases e4:jG x k.ps=false
 ·rw [e4]
  rw [if_neg (by rw [e4]; decide)]at q
  exact bZ (q H4 qp)
 have e4:jG x k.ps=true:=by simpa using e4
 rw [e4]
 rw [if_pos e4]at q
 have Sq:=ha.keep (aE.of qp)
 obtain⟨xs,h1⟩:=Sq.first
 refine bA (aG ⟨_,rfl,a,_,0,_,rfl,rfl,aH.of h1,au (j:=0) rfl,rfl,_,rfl,?_⟩)
 rw [bM,yU]
 cases e5:jr x with
 | false =>
  rw [e5]at q
  exact bA (bA (aG (q H4 qp)))
 | true =>
  rw [e5,Bool.true_and]at q
  obtain⟨hh,p,hk1,_⟩:=hk.same qp
  refine bZ ⟨_,rfl,b,_,2,_,rfl,rfl,aH.of hk1,rfl,_,rfl,?_⟩
  refine cH (λz=>?_) (λz=>aG ?_)
  ·rw [if_pos z]at q
   exact q H4 qp
  ·rw [if_neg z]at q
   exact q H4 qp
end My
namespace L2
open PySem PySem.Spec PyProof.Rows
section
variable{X:Cx}{N':List Str}{src:List (Option Nat)}{sc:Scope}{elt t1 i1 t2 i2:Expr}{f1 f2:List Expr}{pos:Pos}{wi wi2:TI}{g g2:TG}{tc sN:TT}{te:TE}
theorem uD{i:Nat}{x:Str}{pos' spos:Pos}(hN:X.N.Nodup)(hi':X.N[i]? = some x)(hx:Loc X.env.scope x)(hsw:swapsWith (qm elt t1 i1 f1 t2 i2 f2 sc pos) (some (.Name x pos')) spos.line X.env=pure true)
  (hc:X.calm=true) (S:ba X.env.scope X.N N' src sc) (hi:PI X t1 i1 wi)
  (hg:∀cl C s H fp,PG (aK X N' sc cl C s H fp) t1 g) (ht:∀cl C s H fp,i4 (aK X N' sc cl C s H fp) f1 tc)
  (hi2:∀cl C s H fp,PI (aK X N' sc cl C s H fp) t2 i2 wi2) (hg2:∀cl C s H fp,PG (aK X N' sc cl C s H fp) t2 g2) (Dn:∀cl C s H fp,i4 (aK X N' sc cl C s H fp) f2 sN)
  (he:∀cl C s H fp,PE (aK X N' sc cl C s H fp) elt te)
  (hf:X.fn x=true\/X.env.scope.names.lookup x=some .local:=by first | exact .inl rfl | exact .inr rfl | assumption)
  (hs:∀x,foldedSetIterable i1 X.env x=pure x:=by intro _; rfl) (hs2:∀(env:Env) x,foldedSetIterable i2 env x=pure x:=by intro _ _; rfl) :
  PS X (.Assign [.Name x pos'] (qm elt t1 i1 f1 t2 i2 f2 sc pos) spos) (C8 (DL src wi g tc wi2 g2 sN te) (bz i)):=by
 intro pins s σ H D I h
 rw [exec_Assign_Name_used _ _ _ _ hsw]
 refine TZ (wpAny_standAt (TZ ?_))
 show wpAny _ _ (comprehension _ _ _ _ _ _ _ _ >>= _) _ _ s
 refine TZ (wpAny_comprehension_free (use:=some (assign (.Name x pos') X.env)) rfl hs (cY λy hy hk=>I.ok.has y.1 (S.free y hy hk)) S.kind (λy hy hl=>by rw [←hl]; exact S.uniq y hy) ?_)
 refine b_ (hi pins s σ H _ I h) λv s1 h1=>b_ h1 λitv s2 h2=>?_
 obtain⟨it,fp,tn,J,H2,e,I2,T,st2,Km,hW⟩:=h2
 subst e
 refine mw (Q:=λy H'=>D.nx (σ.set i (some y)) H') (RR:=λacc C=>compPost (model X.prog X.w) X.A X.xe (some (assign (.Name x pos') X.env)) _ acc C) hc S hg ht hi2 hg2 Dn he hs2 I2 T st2 Km hW ?_
 intro D' C s5 H' m I5 n5 fC q
 refine wpAny_assign_Name (lD I5 hN hi' hx (show RelV (.ref D') (.ref D') from rfl) (λs6 I6 hsb=>?_) hf)
 obtain⟨a,sb,ha⟩:=hsb
 have OG:C≠a:=by
  rcases ha with z | z
  ·rw [z]; exact fC.2.1
  ·exact λe=>fC.2.2.2.2.1 x a z e.symm
 refine⟨m,n5.sameBut sb OG,λh' NS=>?_⟩
 refine T1 (T1 ?_)
 exact⟨_,H',I6.turned (t':=s6.toks) (λb o hb e=>(NS.2 b hb).trans e) fC.1 fC.2.1 fC.2.2.2.1 fC.2.2.2.2.1 fC.2.2.2.2.2,q⟩
end
end L2
namespace My
open PySem L2
structure jg(H:Hp)(l:Addr)(as:List Addr)(ks:List Kn):Prop where
 lst:H l=some (.lst (as.map V.ref))
 len:as.length=ks.length
 at_:∀(i:Nat) a k,as[i]? = some a->ks[i]? = some k->gn H a k
theorem jg.same{H H':Hp}{l:Addr}{as:List Addr}{ks:List Kn}(s:aM H H')(h:jg H l as ks):jg H' l as ks:=⟨s _ _ h.lst,h.len,λi a k e1 e2=>(h.at_ i a k e1 e2).same s⟩
theorem jg.get{H:Hp}{l:Addr}{as:List Addr}{ks:List Kn}(h:jg H l as ks){i:Nat}{x:V}(hx:(as.map V.ref)[i]? = some x):∃(a:Addr) (k:Kn),x=.ref a/\ks[i]? = some k/\gn H a k:=by
 rw [Uy]at hx
 cases e:as[i]? with
 | none=>rw [e]at hx; cases hx
 | some b =>
  rw [e]at hx
  have hx':V.ref b=x:=Uv hx
  subst hx'
  have hi:i<ks.length:=by rw [←h.len]; exact(Um.mp e).1
  have er:ks[i]? = some ks[i]:=Ug hi
  exact⟨b,ks[i],rfl,er,h.at_ i b _ e er⟩
def zt(ps ns:List Str):Prop:=ps.Pairwise vW/\∀s,s∈ps↔s∈ns
def jO(ks:List Kn):List Hd:=ks.map λk=>k.hd
structure OD(x:Wk)(k:Kn)(ks:List Kn):Prop where
 n:ks.length=D9 x
 ok:z_ x
 fit:c9 x (jO ks)=true
 keep:keepIn x k.hd
 hd:∀k∈ks,k.hd.length<=1000
 ps:∀k∈ks,k.ps.length<=20
def vo(n:Nat):Sp:=λvs H Q _=>∃(a b l:Addr) (x:Wk) (k:Kn) (as:List Addr) (ks:List Kn),vs=[.ref a,.ref b,.ref l]/\dj n H a x/\gn H b k/\jg H l as ks/\OD x k ks/\
 ∀(u:Addr) (k':Kn) (H':Hp),aM H H'->gn H' u k'->k'.hd=bE x (jO ks)->zt k'.ps (ks.flatMap (λk=>k.ps)++[aD x])->k'.lo=(e_ x k||ks.any λk=>k.lo)->Q (.ref u) H'
theorem Bt{x:Wk}:D9 x<=2:=by cases x <;> simp [D9]
theorem BZ{ks:List Kn}{m:Nat}(hl:ks.length<=m)(h:∀k∈ks,k.ps.length<=20):(ks.flatMap λk=>k.ps).length<=20*m:=by
 induction ks generalizing m with
 | nil=>exact Uu _
 | cons k ks ih =>
  rw [List.flatMap_cons,Ub]
  have h1:=h k (by simp)
  have h2:=ih (m:=m-1) (by simp at hl; omega) λk hk=>h k (by simp [hk])
  simp at hl
  omega
theorem yA{H:Hp}{D:Addr}{ks:List Kn}{bs:List Addr}(h:H D=some (.lst (bs.map V.ref)))(hl:bs.length=ks.length)(ha:∀(i:Nat) a k,bs[i]? = some a->ks[i]? = some k->dQ H a k.hd):fW H D bs (jO ks):=by
 refine⟨h,by rw [hl,jO,Ua],λi a r e1 e2=>?_⟩
 rw [jO,Uy]at e2
 cases ek:ks[i]? with
 | none=>rw [ek]at e2; cases e2
 | some k =>
  rw [ek]at e2
  cases e2
  exact ha i a k e1 ek
abbrev fY:Stmt:=top 46
theorem iY:ay ["worker","known","told","names"] ["worker","known","told"] (ar fY):=fs
variable{P:Program}{w:World}{K:UJ}{mg:Str->Option Value}{base:Heap}
theorem AV{n:Nat}(B:jJ mg)(B2:iR mg)(B3:zv mg)(F:FA K mg "known_behind" fY)
  (jw:bc bf P w K mg base 3 "head_told" ["worker","heads"] (dn n λ_=>True))
  (gW:bc bf P w K mg base 1 "name_passed" ["worker"] (xS n))
  (qv:bc bf P w K mg base 2 "makes_loose" ["worker","known"] (yW n)) :
  bc bf P w K mg base 4 "known_behind" ["worker","known","told"] (vo n):=by
 refine F.ok iY λf cdv A outer s H vs Q E hr h=>?_
 have hu:=iM hr
 have hu1:=jY hr
 obtain⟨a,b,l,x,k,as,ks,rfl,ha,hk,hL,ho,q⟩:=h
 refine⟨_,(aq (uD (i:=3) (N':=["head","passed","loose","name"]) (src:=[none,none,none,none]) iY.nd rfl (Or.inl rfl) rfl rfl (ba.jE (by kernel_rfl)) (fh (pv 2)) (g:=(iu K 3 (bP (bz 0) (bP (bz 1) (bP (bz 2) iJ))))) (λcl C s H fp=>(cB rfl (aA (el (i:=0)) (aA (el (i:=1)) (aA (el (i:=2)) bS))))) (λcl C s H fp=>aX) (wi2:=(Fm K (bx 1))) (λcl C s H fp=>(cI (iX 1))) (λcl C s H fp=>(el (i:=3))) (λcl C s H fp=>aX) (te:=(bx 3)) (λcl C s H fp=>(iX 3)))
   (av (aJ (ae (ax jw hr (ae (pv 0) (ae (bw (N':=["head","passed","loose"]) (src:=[none,none,none]) rfl (ba.jE (by kernel_rfl)) (fh (pv 2)) (g:=(iu K 3 (bP (bz 0) (bP (bz 1) (bP (bz 2) iJ))))) (λcl C s H fp=>(cB rfl (aA (el (i:=0)) (aA (el (i:=1)) (aA (el (i:=2)) bS))))) (λcl C s H fp=>aX) (te:=(bx 0)) (λcl C s H fp=>(iX 0))) ah))) (ae (aV bB rfl B.tuple PyProof.Rows.boot_tuple (ae (j9 rfl rfl B2.sorted rfl B2.set (aF pk (pv 3) (aQ (ae (ax gW hr (ae (pv 0) ah)) ah)))) ah)) (ae (fJ (ax qv hr (ae (pv 0) (ae (pv 1) ah))) (cT (aZ (lQ rfl) rfl B3.any PyProof.Rows.boot_any (ae (bw (N':=["head","passed","loose"]) (src:=[none,none,none]) rfl (ba.jE (by kernel_rfl)) (fh (pv 2)) (g:=(iu K 3 (bP (bz 0) (bP (bz 1) (bP (bz 2) iJ))))) (λcl C s H fp=>(cB rfl (aA (el (i:=0)) (aA (el (i:=1)) (aA (el (i:=2)) bS))))) (λcl C s H fp=>aX) (te:=(bx 2)) (λcl C s H fp=>(iX 2))) ah)))) ah)))))),?_⟩
 have hn2:ks.length<=2:=by rw [ho.n]; exact Bt
 have hla:(as.map V.ref).length=ks.length:=by rw [Ua,hL.len]
 refine⟨_,rfl,l,rfl,⟨_,a_.of hL.lst⟩,λD hD=>?_⟩
 have hfl:∀i,((ks.take i).flatMap λk=>k.ps).length<=40:=λi=>BZ (m:=2) (by rw [Uz]; omega) λk hk=>ho.ps k (List.mem_of_mem_take hk)
 refine wc (xs:=as.map V.ref) (λi σ ys H'=>(∃o1 o2 o3 o4,σ=[o1,o2,o3,o4])/\ys=((ks.take i).flatMap λk=>k.ps).map V.str/\H' D=some (.lst ys)/\aM H H') ⟨⟨none,none,none,none,rfl⟩,rfl,ag,aj hD _⟩ ?_ ?_ ?_ ?_
 ·rintro i σ ys H' _ ⟨_,_,h,_⟩
  exact h
 ·rintro i σ ys H' _ ⟨_,_,_,sm⟩
  exact a_.of (sm _ _ hL.lst)
 ·rintro i v σ ys H' hv ⟨⟨o1,o2,o3,o4,rfl⟩,rfl,h,sm⟩
  obtain⟨b',k',rfl,ek,hh,p,hk1,hk2,hk3⟩:=hL.get hv
  have hpl:k'.ps.length<=20:=ho.ps k' (Ui ek)
  refine⟨b',_,rfl,aH.of (sm _ _ hk1),rfl,_,_,rfl,ak ⟨_,_,rfl,ak ⟨_,_,rfl,ak ⟨rfl,?_⟩⟩⟩⟩
  refine⟨_,rfl,p,rfl,⟨_,aH.of (sm _ _ hk3)⟩,?_⟩
  refine lF (xs:=k'.ps.map V.str) (λj σ zs H2=>(∃o1 o2 o3 o4,σ=[o1,o2,o3,o4])/\zs=((ks.take i).flatMap λk=>k.ps).map V.str++(k'.ps.take j).map V.str/\H2 D=some (.lst zs)/\aM H H2) ⟨⟨_,_,_,_,rfl⟩,by rw [List.take_zero,List.map_nil,List.append_nil],h,sm⟩ ?_ ?_ ?_ ?_
  ·rintro j σ zs H2 hj ⟨_,rfl,h2,_⟩
   refine⟨h2,λ_=>?_⟩
   rw [Ub,Ua,Ua,Uz]
   have:=hfl i
   exact Ud (show _<=60 by omega) (by decide)
  ·rintro j σ zs H2 _ ⟨_,_,_,s2⟩
   exact aH.of (s2 _ _ hk3)
  ·rintro j v2 σ zs H2 hu' ⟨⟨o1,o2,o3,o4,rfl⟩,rfl,h2,s2⟩
   rw [Uy]at hu'
   cases es:k'.ps[j]? with
   | none=>rw [es]at hu'; cases hu'
   | some s0 =>
    rw [es]at hu'
    have hv2:V.str s0=v2:=Uv hu'
    subst hv2
    refine ak ⟨_,rfl,h2,⟨_,_,_,_,rfl⟩,?_,ag,bq hD s2⟩
    rw [take_one es,Uc,List.append_assoc]; rfl
  ·rintro σ zs H2 ⟨⟨o1,o2,o3,o4,rfl⟩,rfl,h2,s2⟩
   refine⟨⟨_,_,_,_,rfl⟩,?_,h2,s2⟩
   rw [Ua,List.take_length,←Uc,take_one ek,List.flatMap_append]
   show _=(_++(k'.ps++[])).map V.str
   rw [List.append_nil]
 ·rintro σ ys H1 ⟨_,rfl,h1,s1⟩
  rw [hla,List.take_length]at h1
  have hfl:=hfl ks.length
  rw [List.take_length]at hfl
  refine ak ?_
  dsimp only
  have hL1:=hL.same s1
  refine⟨_,rfl,_,rfl,l,rfl,⟨_,a_.of hL1.lst⟩,λD2 hD2=>?_⟩
  refine dG (xs:=as.map V.ref) (λi σ ys H'=>(∃o1 o2 o3,σ=[o1,o2,o3])/\(∃bs:List Addr,ys=bs.map V.ref/\bs.length=i/\∀(j:Nat) a k,bs[j]? = some a->ks[j]? = some k->dQ H1 a k.hd)/\H' D2=some (.lst ys)/\aM H1 H') ⟨⟨none,none,none,rfl⟩,⟨[],rfl,rfl,λj a k e=>by cases e⟩,ag,aj hD2 _⟩ ?_ ?_ ?_ ?_ ?_
  ·rintro i σ ys H' _ ⟨_,⟨bs,rfl,hi,_⟩,h,_⟩
   exact⟨h,by rw [Ua]; exact Nat.le_of_eq hi⟩
  ·rintro i σ ys H' _ ⟨_,_,_,sm⟩
   exact a_.of (sm _ _ hL1.lst)
  ·rw [hla]; exact T8 hn2 (by decide)
  ·rintro i v σ ys H' hv ⟨⟨o1,o2,o3,rfl⟩,⟨bs,rfl,hi,hb⟩,h,sm⟩
   obtain⟨b',k',rfl,ek,hh,p,hk1,hk2,hk3⟩:=hL1.get hv
   refine⟨b',_,rfl,aH.of (sm _ _ hk1),rfl,_,_,rfl,ak ⟨_,_,rfl,ak ⟨_,_,rfl,ak ⟨rfl,?_⟩⟩⟩⟩
   refine⟨_,rfl,h,⟨_,_,_,rfl⟩,⟨bs++[hh],by rw [Uc]; rfl,by rw [Ub,hi]; rfl,λj a k e1 e2=>?_⟩,ag,bq hD2 sm⟩
   by_cases hj:j<bs.length
   ·rw [Ux hj]at e1
    exact hb j a k e1 e2
   ·have hj':j=bs.length:=by
     have:=(Um.mp e1).1
     rw [Ub]at this
     simp at this
     omega
    rw [hj',Uw (T7 _),Nat.sub_self]at e1
    cases e1
    rw [hj',hi,ek]at e2
    cases e2
    exact hk2
  ·rintro σ ys H2 ⟨_,⟨bs,rfl,hi,hb⟩,h2,s2⟩
   rw [hla]at hi
   have s12:=s1.trans s2
   refine⟨a,D2,x,bs,jO ks,rfl,ha.keep (aE.of s12),yA h2 hi (λi a k e1 e2=>s2 _ _ (hb i a k e1 e2)),by rw [jO,Ua,ho.n],ho.ok.sm,⟨trivial,ho.fit,ho.ok.good,ho.ok.ne,λh hh=>by obtain⟨k,hk,rfl⟩:=Up.mp hh; exact ho.hd k hk⟩,λu1 H3 s3 hu1=>?_⟩
   have p6:=s12.trans s3
   refine⟨_,rfl,_,rfl,a,x,rfl,ha.keep (aE.of p6),dP,λu2 hu2=>?_⟩
   have s4:=aj hu2 (.lst [V.str (aD x)])
   refine⟨D,u2,_,_,rfl,rfl,s4 _ _ (s3 _ _ (s2 _ _ h1)),ag,by rw [Ua]; exact T8 (show _+1<=41 by omega) (by decide),λu3 vV=>?_⟩
   have s5:=aj vV (.lst (((ks.flatMap λk=>k.ps).map V.str)++[V.str (aD x)]))
   have hmap:(ks.flatMap λk=>k.ps).map V.str++[V.str (aD x)]=((ks.flatMap λk=>k.ps)++[aD x]).map V.str:=by rw [Uc]; rfl
   refine⟨u3,_,rfl,.inl (a_.of ag),?_,.inr ⟨_,hmap⟩,λu4 ys xu hS=>?_⟩
   ·rw [Ub,Ua]
    show _+1<64
    omega
   have s6:=aj xu (.lst ys)
   have hys:∃ms:List Str,ys=ms.map V.str/\zt ms ((ks.flatMap λk=>k.ps)++[aD x]):=by
    rcases hS with⟨ns,ms,e1,e2,_⟩ | ⟨ns,ms,e1,e2,e3,e4⟩
    ·rw [hmap]at e1
     cases ns with
     | nil=>rw [Uc]at e1; simp at e1
     | cons n ns =>
      exfalso
      have:V.int n∈((ks.flatMap λk=>k.ps)++[aD x]).map V.str:=by rw [e1]; simp
      obtain⟨s,_,e⟩:=Up.mp this
      cases e
    ·rw [hmap]at e1
     have:ns=(ks.flatMap λk=>k.ps)++[aD x]:=(List.map_inj_right (f:=V.str) (λa b e=>V.str.inj e)).mp e1.symm
     subst this
     exact⟨ms,e2,e3,e4⟩
   obtain⟨ms,rfl,hms⟩:=hys
   refine⟨u4,_,rfl,.inl ⟨a_.of ag,λu5 Q0=>?_⟩⟩
   have s7:=aj Q0 (.tup (ms.map V.str))
   have M1:=s4.trans (s5.trans (s6.trans s7))
   have Ih:upd (upd (upd (upd H3 u2 (.lst [V.str (aD x)])) u3 (.lst (((ks.flatMap λk=>k.ps).map V.str)++[V.str (aD x)]))) u4 (.lst (ms.map V.str))) u5 (.tup (ms.map V.str)) u5=some (.tup (ms.map V.str)):=ag
   revert M1 Ih
   generalize upd (upd (upd (upd H3 u2 (.lst [V.str (aD x)])) u3 (.lst (((ks.flatMap λk=>k.ps).map V.str)++[V.str (aD x)]))) u4 (.lst (ms.map V.str))) u5 (.tup (ms.map V.str))=H4
   intro M1 Ih
   have qp:=p6.trans M1
   refine⟨_,rfl,_,rfl,a,b,x,k,rfl,ha.keep (aE.of qp),hk.same qp,ho.keep,λH5 s8=>?_⟩
   have MB:=qp.trans s8
   have fin:∀(v:Bool) (H6:Hp),aM H5 H6->v=(e_ x k||ks.any λk=>k.lo)->∀u6,H6 u6=none->Q (.ref u6) (upd H6 u6 (.tup [.ref u1,.ref u5,.bl v])):=by
    intro v H6 s9 hv u6 RK
    have B9:=aj RK (.tup [.ref u1,.ref u5,.bl v])
    have Ml:=(s8.trans s9).trans B9
    exact q u6 ⟨bE x (jO ks),ms,v⟩ _ ((MB.trans s9).trans B9) ⟨u1,u5,ag,Ml _ _ (M1 _ _ hu1),Ml _ _ Ih⟩ rfl hms hv
   refine⟨_,rfl,cH (λe=>?_) (λe=>?_)⟩
   ·exact⟨gq,fin true H5 (aM.refl _) (by rw [e]; rfl)⟩
   have NK:=hL.same MB
   refine⟨_,rfl,l,rfl,⟨_,a_.of NK.lst⟩,λD3 QA=>?_⟩
   refine dG (xs:=as.map V.ref) (λi σ ys H'=>(∃o1 o2 o3,σ=[o1,o2,o3])/\ys=((ks.take i).map λk=>k.lo).map V.bl/\ys.length=i/\H' D3=some (.lst ys)/\aM H5 H') ⟨⟨none,none,none,rfl⟩,rfl,rfl,ag,aj QA _⟩ ?_ ?_ ?_ ?_ ?_
   ·rintro i σ ys H' _ ⟨_,_,hi,h,_⟩
    exact⟨h,Nat.le_of_eq hi⟩
   ·rintro i σ ys H' _ ⟨_,_,_,_,sm⟩
    exact a_.of (sm _ _ NK.lst)
   ·rw [hla]; exact T8 hn2 (by decide)
   ·rintro i v σ ys H' hv ⟨⟨o1,o2,o3,rfl⟩,rfl,hi,h,sm⟩
    obtain⟨b',k',rfl,ek,hh,p,hk1,hk2,hk3⟩:=NK.get hv
    refine⟨b',_,rfl,aH.of (sm _ _ hk1),rfl,_,_,rfl,ak ⟨_,_,rfl,ak ⟨_,_,rfl,ak ⟨rfl,?_⟩⟩⟩⟩
    refine⟨_,rfl,h,⟨_,_,_,rfl⟩,?_,?_,ag,bq QA sm⟩
    ·rw [take_one ek,Uc,Uc]; rfl
    ·rw [Ub,hi]; rfl
   ·rintro σ ys H' ⟨_,rfl,_,h,sm⟩
    rw [hla,List.take_length]at h
    refine⟨D3,_,rfl,a_.of h,gq,fin _ H' sm ?_⟩
    rw [Ur.mpr e,Bool.false_or,List.any_map]
    rfl
end My
namespace L2
open PySem PySem.Spec PyProof.Rows
section
variable{X:Cx}{tg e:Expr}
theorem PG.yz{g:TG}(h:PG X.yz tg g):PG X tg g:=λpins s σ H v u Q I r hw =>
 UB (h pins s σ H v u Q (I.wish _) r hw) (λ_ _ ⟨σ',H',I',q⟩=>⟨σ',H',I'.c_,q⟩) λ_ _ z=>False.elim z
theorem i4.yz{ifs:List Expr}{t:TT}(h:i4 X.yz ifs t):i4 X ifs t:=λpins s σ H Q I hw =>
 UB (h pins s σ H Q (I.wish _) hw) (λ_ _ ⟨H',I',q⟩=>⟨H',I'.c_,q⟩) λ_ _ z=>False.elim z
end
section
variable{X:Cx}{elt target iter:Expr}{ifs:List Expr}{sc:Scope}{pos:Pos}{wi:TI}{g:TG}{tc:TT}{te:TE}{N':List Str}{src:List (Option Nat)}{E:XK}{L:Addr}
theorem yh{it acc:Value}{env:Env}{prog:Program}{w:World}{A:Around}{s:Shared}{R:Result->Shared->Prop}{F:Value->Shared->Prop}(hF:∀ev s',F ev s'->notedBy (model prog w) A env (λx s'=>R (.error x) s') ev s')(Iv:Nat->Shared->Prop)
  (turn:∀n s,Iv n s->wpAny (model prog w) A (pyNext it) (λr s₁=>match r with
   | none=>R (.ok .next) s₁
   | some v=>wpAny (model prog w) A (letOwnedTupleGo target it v) (λ_ s₁'=>wpAny (model prog w) A (assign target env v) (λ_ s₂ =>
     wpAny (model prog w) A (forIn ifs true λc r=>if r=true then do let ok←isTrue c env (eval c env); pure (ForInStep.yield ok)else pure (ForInStep.yield r)) (λok s₃ =>
      if ok=true then wpAny (model prog w) A (eval elt env) (λx s₄ =>
       wpAny (model prog w) A (call (.builtin "list.append") [acc,x]) (λ_ s₅=>∃m,m<n/\Iv m s₅) F s₄) F s₃
      else∃m,m<n/\Iv m s₃) F s₂) F s₁') F s₁) F s)
  (n:Nat) (h:Iv n s):codeAny (model prog w) A (.compLoop (.ListComp elt [⟨target,iter,ifs,0⟩] sc pos) 0 it acc env) R s:=by
 refine codeAny_loop rfl Iv (λn s hI=>?_) n h
 show wpAny _ A ((compTurn (.ListComp elt [⟨target,iter,ifs,0⟩] sc pos) 0 it acc env).onRaise (λx=>do noteFrame x env; theTreesLotGoes x)) _ _ s
 refine wpAny_noted ?_
 rw [compTurn_list]
 refine UB (E:=F) ?_ (λ_ _ z=>z) hF
 refine TZ (wpAny_standAt (TZ (b_ (turn n s hI) λr s₁ h₁=>?_)))
 cases r with
 | none=>exact T1 h₁
 | some v =>
  refine TZ (b_ h₁ λ_ s₁' h₁'=>TZ (b_ h₁' λ_ s₂ h₂=>TZ (b_ h₂ λok s₃ h₃=>?_)))
  cases ok with
  | false=>exact T1 ⟨rfl,h₃⟩
  | true=>exact TZ (TZ (b_ h₃ λx s₄ h₄=>TZ (b_ h₄ λ_ s₅ h₅=>T1 (T1 ⟨rfl,h₅⟩))))
theorem x8{pins:List (Addr×Obj)}{σ:St}{H2:Hp}{s3:Shared}{fp:List Addr}{cl:List (Str×Addr)}{use:Option (Value->Sem Unit)}{QQ:Value->Shared->Prop}{acc:Value}{ev:Value}{s':Shared}(tp:Top X L)(I3:Inv X pins σ H2 s3)
  (f3:∀b∈fp,dz X pins H2 b) (h:XE (aK X N' sc cl s3.heap.objs.size s3 H2 fp) E ev s') :
  notedBy (model X.prog X.w) X.A (compEnvC sc cl s3.heap.objs.size X.env) (λx s''=>compPost (model X.prog X.w) X.A (XE X E) use QQ acc s3.heap.objs.size (.error x) s'') ev s':=by
 obtain⟨e,C,od,σ',H,rfl,I,f,hE⟩:=h
 have RJ:Top (aK X N' sc cl s3.heap.objs.size s3 H2 fp) L:=⟨tp.ex,tp.fr⟩
 refine mU (X:=aK X N' sc cl s3.heap.objs.size s3 H2 fp) I.ok.frames RJ tp.fr I f λs5 T I5 f5=>?_
 obtain⟨m6,n6,_⟩:=id I5.loc
 have fin:∃m,s5.heap.Ns s3.heap.objs.size m/\∀h',Heap.SameBut s3.heap.objs.size s5.heap h'->∀cenv:Env,cenv.locals=s3.heap.objs.size->wpAny (model X.prog X.w) X.A (PySem.passOn "comprehension.variables-let-go" (.ref e) cenv:Sem Value) (λ_ _=>False) (XE X E) {s5 with heap:=h'}:=by
  refine⟨m6,n6,λh' sb cenv hcl=>?_⟩
  have J:Inv X [] σ H s5:=(I3.call' I5.os I5.base I5.hok I5.bare λb hb=>⟨(f3 b hb).2.2.2.1,(f3 b hb).2.1,(f3 b hb).2.2.2.2.1,(f3 b hb).2.2.2.2.2⟩).iQ (pins':=[]) λp hp=>absurd hp (by simp)
  have fC:dz X [] H s3.heap.objs.size:=by
   have z:=I3.lZ (H':=H) (b:=s3.heap.objs.size) (T7 _) I5.free
   exact⟨z.1,z.2.1,z.2.2.1,z.2.2.2.1,z.2.2.2.2.1,λp hp=>z.2.2.2.2.2 p (List.mem_append_left _ (by simpa using hp))⟩
  have J2:Inv X [] σ H {s5 with heap:=h'}:=J.turned (t':=s5.toks) (λb o hb z=>(sb.2 b hb).trans z) fC.1 fC.2.1 fC.2.2.2.1 fC.2.2.2.2.1 fC.2.2.2.2.2
  obtain⟨vs,sl,g1,g2⟩:=f5.obj
  obtain⟨oT,ts,t1,t2,t3⟩:=f5.tb.obj
  have Ks:∀b,H b≠none->b≠s3.heap.objs.size:=λb hb z=>hb (by rw [z]; exact I5.free)
  have neT:T≠s3.heap.objs.size:=λz=>by
   obtain⟨o,es,ep,ho,hd,_⟩:=n6
   have ho':s5.heap.get? s3.heap.objs.size=some o:=ho
   rw [z,ho']at t1
   cases t1
   rw [hd]at t2
   cases t2
  have f6:nK X H h' e C od T:=⟨f5.at_,⟨vs,sl,(sb.2 e (Ks e (by rw [f5.at_]; simp))).trans g1,g2⟩,f5.tb.free,T8 I3.sz f5.tb.new,λp hp z=>by
   have:=(I3.pin p (List.mem_append_left _ hp)).1
   exact absurd (Ue (T5 this) f5.tb.new) (by rw [z]; exact Nat.lt_irrefl _),oT,ts,(sb.2 T neT).trans t1,t2,t3⟩
  obtain⟨vs',sl',Eo,Sx⟩:=f6.obj
  unfold PySem.passOn
  refine TZ (wpAny_field Eo rfl Sx ?_)
  have ne:¬((Value.ref T==Value.none)=true):=by simp
  rw [if_neg ne]
  have go:=hV (M:=model X.prog X.w) (A:=X.A) (E:=XE X E) (Q:=λ_ s7=>wpAny (model X.prog X.w) X.A (throw (.ref e):Sem Value) (λ_ _=>False) (XE X E) s7) J2 f6 cenv.frame λs7 I7 f7=>wpAny_throw ⟨e,C,od,σ,H,rfl,I7,f7.QC,hE⟩
  first
   | exact TZ go
   | exact TZ (T1 (TZ go))
 cases use <;> exact fin
theorem ug{pins:List (Addr×Obj)}{σ:St}{H2:Hp}{s2:Shared}{it:Addr}{fp:List Addr}{tn:Nat->Heap->Prop}{J:It}{Q:VK}{E2:Value->Shared->Prop}{use:Option (Value->Sem Unit)}{QQ:Value->Shared->Prop}
  (hc:X.calm=true) (tp:Top X L) (S:ba X.env.scope X.N N' src sc)
  (hg:∀cl C s H fp,PG ((aK X N' sc cl C s H fp).xs E) target g) (ht:∀cl C s H fp,i4 ((aK X N' sc cl C s H fp).xs E) ifs tc) (he:∀cl C s H fp,PE ((aK X N' sc cl C s H fp).xs E) elt te)
  (I2:Inv X pins σ H2 s2) (T:Turn X.prog X.w X.K target J fp it tn) (st2:tn 0 s2.heap) (f2:∀b∈fp,dz X pins H2 b)
  (hW:∀D,H2 D=none->∃W:Nat->Nat->St->List V->Hp->Prop,(∃m,W 0 m (jM src σ) [] (upd H2 D (.lst [])))/\pU J g tc te D Q W)
  (hRR:∀D C s5 H' m,Inv X pins σ H' s5->s5.heap.Ns C m->dz X pins H' C->Q (.ref D) H'->compPost (model X.prog X.w) X.A (XE X E) use QQ (.ref D) C (.ok .next) s5) :
  wpAny (model X.prog X.w) X.A (newList []) (λacc s₃=>wpAny (model X.prog X.w) X.A (newFunctionEnv sc X.env.globals (bL X.env.cells sc.names []) [] X.env.qual none .none (some X.env)) (λcenv s₄ =>
   codeAny (model X.prog X.w) X.A (.compStart (.ListComp elt [⟨target,iter,ifs,0⟩] sc pos) 0 (.ref it) acc {cenv with scope:=relabel sc X.env}) (compPost (model X.prog X.w) X.A (XE X E) use QQ acc cenv.locals) s₄) E2 s₃) E2 s2:=by
 have o2:∀b∈fp,b<s2.heap.objs.size:=λb hb=>by
  obtain⟨o,z,_⟩:=T.obj 0 _ st2 b hb
  exact T5 z
 refine UD ?_
 have Jz:H2 s2.heap.objs.size=none:=I2.hok.fresh (T7 _)
 obtain⟨W,⟨m0,w0⟩,turn⟩:=hW s2.heap.objs.size Jz
 have I3:Inv X pins σ (upd H2 s2.heap.objs.size (.lst [])) {s2 with heap:=s2.heap.push {cls:=.type "list",dict:=none,data:=.seq ([]:List Value).toArray}} :=
  I2.laid (t':=s2.toks) (λb u z=>T4 _ z) (T7 _) ⟨Uu _,[],0,.nil,T6 _ rfl⟩
 have st3:tn 0 (s2.heap.push {cls:=.type "list",dict:=none,data:=.seq ([]:List Value).toArray}):=T.keep 0 _ _ st2 λb hb o z=>T4 _ z
 generalize hs3:({s2 with heap:=s2.heap.push {cls:=.type "list",dict:=none,data:=.seq ([]:List Value).toArray}}:Shared)=s3 at I3
 have hh3:s3.heap=s2.heap.push {cls:=.type "list",dict:=none,data:=.seq ([]:List Value).toArray}:=by rw [←hs3]
 have Eb:s2.heap.objs.size<s3.heap.objs.size:=by rw [hh3,Heap.size_push]; exact Nat.lt_succ_self _
 have o3:∀b∈fp,b<s3.heap.objs.size:=λb hb=>Nat.lt_trans (o2 b hb) Eb
 have f3:∀b∈fp,dz X pins (upd H2 s2.heap.objs.size (.lst [])) b:=λb hb=>⟨by rw [aI (Ut (o2 b hb))]; exact(f2 b hb).1,(f2 b hb).2⟩
 rw [←hh3]at st3
 refine wpAny_newFunctionEnv S.oP (by intro y hy; simp at hy) (λh1 hns hsb=>?_) S.kind
 have hsb':Heap.SameBut s3.heap.objs.size (s3.heap.push {cls:=.type "dict",data:=.dict #[]}) h1:=hsb
 generalize hY:aK X N' sc (bL X.env.cells sc.names []) s3.heap.objs.size s3 (upd H2 s2.heap.objs.size (.lst [])) fp=Y
 have I4:Inv Y [] (jM src σ) (upd H2 s2.heap.objs.size (.lst [])) {s3 with heap:=h1,toks:=s3.toks+([]:List (Str×Value)).length}:=by
  rw [←hY]
  exact iI S I3 f3 o3 hns hsb'
 have BC:tn 0 h1:=T.keep 0 _ _ st3 λb hb o z=>(hsb'.2 b (Ut (o3 b hb))).trans (T4 _ z)
 have fC:∀(H':Hp),H' s3.heap.objs.size=none->dz X pins H' s3.heap.objs.size:=λH' hn=>I3.lZ (T7 _) hn
 have loop:codeAny (model X.prog X.w) X.A (.compLoop (.ListComp elt [⟨target,iter,ifs,0⟩] sc pos) 0 (.ref it) (.ref s2.heap.objs.size) (compEnvC sc (bL X.env.cells sc.names []) s3.heap.objs.size X.env))
   (compPost (model X.prog X.w) X.A (XE X E) use QQ (.ref s2.heap.objs.size) s3.heap.objs.size) {s3 with heap:=h1,toks:=s3.toks+([]:List (Str×Value)).length}:=by
  have stat:∀{H':Hp},(∀b∈fp,H' b=none)->∀b∈fp,dz (Y.xs E) [] H' b:=λhn b hb=>by
   have z:=I4.ok
   subst hY
   exact⟨hn b hb,(z.Ak b hb).1,z.oj b hb,.inl hb,(z.Ak b hb).2,λp hp=>absurd (show p∈([]:List (Addr×Obj)) from hp) (by simp)⟩
  have O5:=hg (bL X.env.cells sc.names []) s3.heap.objs.size s3 (upd H2 s2.heap.objs.size (.lst [])) fp
  have htY:=ht (bL X.env.cells sc.names []) s3.heap.objs.size s3 (upd H2 s2.heap.objs.size (.lst [])) fp
  have NT:=he (bL X.env.cells sc.names []) s3.heap.objs.size s3 (upd H2 s2.heap.objs.size (.lst [])) fp
  refine yh (F:=XE Y E) (λev s' hx=>by subst hY; exact x8 tp I3 f3 hx) (λn s'=>∃i σ' ys H',Inv (Y.xs E) [] σ' H' s'/\tn i s'.heap/\(∀b∈fp,H' b=none)/\W i n σ' ys H') ?_ m0
   ⟨0,_,[],_,I4.wish _,BC,λb hb=>(f3 b hb).1,w0⟩
  rintro n s5 ⟨i,mR,ys,H5,I5,uc,vX,w5⟩
  obtain⟨hD,alt⟩:=turn i n mR ys H5 w5
  subst hY
  rcases alt with⟨stop,qn⟩ | ⟨go,hsz,N,hN,step⟩
  ·refine b_ (T.done ((aK X N' sc (bL X.env.cells sc.names []) s3.heap.objs.size s3 (upd H2 s2.heap.objs.size (.lst [])) fp).xs E) rfl rfl rfl hc i [] s5 mR H5 _ I5 (stat vX) uc stop) λr s6 ⟨hr,I6⟩=>?_
   subst hr
   obtain⟨m6,n6,_⟩:=id I6.loc
   exact hRR _ _ s6 H5 m6 (I3.call' I6.os I6.base I6.hok I6.bare λb hb=>⟨(f3 b hb).2.2.2.1,(f3 b hb).2.1,(f3 b hb).2.2.2.2.1,(f3 b hb).2.2.2.2.2⟩) n6 (fC _ I6.free) qn
  ·refine b_ (T.item ((aK X N' sc (bL X.env.cells sc.names []) s3.heap.objs.size s3 (upd H2 s2.heap.objs.size (.lst [])) fp).xs E) rfl rfl rfl hc i [] s5 mR H5 _ I5 (stat vX) uc go) λr s6 ⟨u,hr,h6⟩=>?_
   subst hr
   refine b_ h6 λ_ s7 ⟨x,H7,I7,r7,y7,rP,F9⟩=>?_
   have Fh:=I7.pinned (stat F9) (T.obj _ _ rP)
   refine b_ (O5 _ s7 mR H7 x u _ Fh r7 (step x H7 y7)) λ_ s8 ⟨ue,H8,I8,q8⟩=>?_
   refine b_ (htY _ s8 ue H8 _ I8 q8) λb s9 ⟨H9,I9,q9⟩=>?_
   have again:∀{σ':St} {H':Hp} {s':Shared} {ys':List V} {m':Nat},Inv ((aK X N' sc (bL X.env.cells sc.names []) s3.heap.objs.size s3 (upd H2 s2.heap.objs.size (.lst [])) fp).xs E) ([]++jy fp s7.heap) σ' H' s'->m'<n->W (i+1) m' σ' ys' H'->
     ∃m,m<n/\∃i σ' ys H',Inv ((aK X N' sc (bL X.env.cells sc.names []) s3.heap.objs.size s3 (upd H2 s2.heap.objs.size (.lst [])) fp).xs E) [] σ' H' s'/\tn i s'.heap/\(∀b∈fp,H' b=none)/\W i m σ' ys H':=λ{σ' H' s' ys' m'} I' hm w'=>by
    refine⟨m',hm,i+1,σ',ys',H',I'.gc,T.keep _ _ _ rP λb hb o z=>(I'.pin (b,o) (Uh _ (Uh _ (cL hb z)))).1,λb hb=>?_,w'⟩
    obtain⟨o,z,d⟩:=T.obj _ _ rP b hb
    exact(I'.pin (b,o) (Uh _ (Uh _ (cL hb z)))).2.1
   cases b with
   | false =>
    rw [if_neg Uk]at q9⊢
    obtain⟨m',hm,w'⟩:=hN _ _ _ q9
    exact again I9 hm w'
   | true =>
    rw [if_pos rfl]at q9⊢
    refine b_ (NT _ s9 ue H9 _ I9 q9) λxv B9 ⟨v,Ad,K8,r10,Cg,w10⟩=>?_
    obtain⟨m',hm,w'⟩:=hN _ _ _ w10
    have Mj:m8 (.ref s2.heap.objs.size) [v] Ad λ_ H'=>H'=upd Ad s2.heap.objs.size (.lst (ys++[v])):=⟨_,ys,v,rfl,rfl,Cg,hsz,rfl⟩
    refine b_ (cX _ B9 ue Ad _ _ _ _ _ K8 (show RelV (.ref s2.heap.objs.size) (.ref s2.heap.objs.size) from rfl) (.cons r10 .nil) Mj) λ_ P7 ⟨_,NC,Ht,_,LW⟩=>?_
    rw [LW]at Ht
    exact again Ht hm w'
 exact codeAny_compStart_list loop (T.self _ 0 _ _ _ BC loop)
theorem AF(hc:X.calm=true)(tp:Top X L)(S:ba X.env.scope X.N N' src sc)(hi:PI (X.xs E) target iter wi)
  (hg:∀cl C s H fp,PG ((aK X N' sc cl C s H fp).xs E) target g) (ht:∀cl C s H fp,i4 ((aK X N' sc cl C s H fp).xs E) ifs tc) (he:∀cl C s H fp,PE ((aK X N' sc cl C s H fp).xs E) elt te)
  (hs:∀x,foldedSetIterable iter X.env x=pure x:=by intro _; rfl) :
  PE (X.xs E) (.ListComp elt [⟨target,iter,ifs,0⟩] sc pos) (BW src wi g tc te):=by
 intro pins s σ H Q I h
 rw [eval_ListComp]
 refine wpAny_comprehension_free (use:=none) rfl hs (cY λy hy hk=>I.ok.has y.1 (S.free y hy hk)) S.kind (λy hy hl=>by rw [←hl]; exact S.uniq y hy) ?_
 refine b_ (hi pins s σ H _ I h) λv s1 h1=>b_ h1 λitv s2 h2=>?_
 obtain⟨it,fp,tn,J,H2,z,I2,T,st2,f2,hW⟩:=h2
 subst z
 refine ug (Q:=Q) (QQ:=EP (X.xs E) pins σ Q) (use:=none) hc tp S hg ht he I2.c_ T st2 f2 hW ?_
 intro D C s5 H' m I5 n5 fC q
 refine⟨m,n5,λh' sb=>⟨.ref D,H',?_,rfl,q⟩⟩
 exact(I5.turned (t':=s5.toks) (λb o hb z=>(sb.2 b hb).trans z) fC.1 fC.2.1 fC.2.2.2.1 fC.2.2.2.2.1 fC.2.2.2.2.2).wish _
end
section
variable{X:Cx}{pins:List (Addr×Obj)}{σ:St}{H:Hp}{s:Shared}
theorem nh{M:Model}{A:Around}{E2:Value->Shared->Prop}{i:Nat}{n:Str}{pos:Pos}{Q:Unit->Shared->Prop}(I:Inv X pins σ H s)(hN:X.N.Nodup)(hi:X.N[i]? = some n)(hk:X.env.scope.names.lookup n=some .local)
  (q:∀s',Inv X pins (σ.set i none) H s'->Q () s'):wpAny M A (do bindName X.env n .none; unbindBehindTheSuite X.env n pos) Q E2 s:=by
 refine TZ (wpAny_bindName (ic I hN hi (.inl hk) (show RelV .non .none from rfl) (λs1 I1=>?_) (.inr hk)))
 have CM:i<σ.length:=by rw [I.len]; exact(Um.mp hi).1
 obtain⟨m,hn,hl⟩:=id I1.loc
 obtain⟨u,ru,lk⟩:=hl i n .non hi (List.getElem?_set_self CM) (.inl hk)
 have hv:m n=some u:=by
  rcases lk with⟨_,z⟩ | ⟨z,_⟩
  ·exact z
  ·have hk':X.env.kindOf n=some .local:=hk
   rw [hk']at z
   rcases z with z | z <;> cases z
 have hp:(X.env.scope.kind == .class||(X.env.scope.kind == .module&&X.env.locals != X.env.globals))=false:=by rw [I.ok.kind]; rfl
 unfold unbindBehindTheSuite
 refine wpAny_onRaise (wpAny_unbindName_local hk hn hv hp λh' u' hn' hs=>q _ ?_)
 obtain⟨oL,_,_,hoL,_⟩:=id hn
 have below:∀b o,X.s₀.heap.get? b=some o->b≠X.env.locals:=λb o z=>Ut (Ue (T5 z) I1.ok.above)
 refine⟨I1.ok,I1.os,I1.bare,⟨λb o z nn hb hx=>(hs.2 b (below b o z)).trans (I1.base.keep b o z nn hb hx),λb o z nn hb hx=>?_,I1.base.free,λb o z hx=>?_,I1.base.tups,I1.base.oG,I1.base.qy⟩,⟨_,hn',λj y v' e1 e2 e3=>?_⟩,λy c z=>?_,I1.free,I1.fO,λp hp'=>?_,λb ob z=>?_,by simpa using I.len⟩
 ·obtain⟨sl,z1⟩:=I1.base.slot b o z nn hb hx
  exact⟨sl,(hs.2 b (below b o z)).trans z1⟩
 ·obtain⟨o',z1⟩:=I1.base.there b o z hx
  exact⟨o',(hs.2 b (below b o z)).trans z1⟩
 ·have hj:j≠i:=λz=>by
   rw [z,List.getElem?_set_self CM]at e2
   cases e2
  rw [List.getElem?_set_ne (Ne.symm hj)]at e2
  obtain⟨u2,r2,Tr⟩:=hl j y v' e1 (by rw [List.getElem?_set_ne (Ne.symm hj)]; exact e2) e3
  refine⟨u2,r2,?_⟩
  have RX:y≠n:=λz=>hj (pM hN e1 (z▸hi))
  rcases Tr with⟨k,z⟩ | ⟨k,c,z1,z2⟩
  ·exact .inl ⟨k,by simp [RX,z]⟩
  ·exact .inr ⟨k,c,z1,z2.sameBut hs (I1.FY y c z1)⟩
 ·obtain⟨w',z1⟩:=I1.cell y c z
  exact⟨w',z1.sameBut hs (I1.FY y c z)⟩
 ·obtain⟨z1,z2,z3,z4,z5⟩:=I1.pin p hp'
  exact⟨(hs.2 p.1 z3).trans z1,z2,z3,z4,z5⟩
 ·refine(I1.hok b ob z).stay (λc w' hc z1=>(hs.2 c ?_).trans z1) (λ_ z1=>z1) λ_ _ z1=>z1
  rintro rfl
  rcases hc with rfl | hc
  ·rw [I1.free]at z; cases z
  ·rw [I1.free]at hc; cases hc
end
abbrev Cx.bear(X:Cx)(pins:List (Addr×Obj)):Cx:={X with pn:=X.pn++pins}
abbrev Cx.F4(X:Cx)(e:Addr):Cx:={X with A:=X.A.mark (some (.ref e)),calm:=false,xe:=λ_ _=>False}
section
variable{X:Cx}{pins:List (Addr×Obj)}{σ:St}{H:Hp}{s:Shared}
theorem Inv.bear(I:Inv X pins σ H s):Inv (X.bear pins) [] σ H s :=
 ⟨⟨I.ok.mod,I.ok.kind,I.ok.glob,I.ok.blt,I.ok.above,I.ok.inj,I.ok.has,I.ok.cab,I.ok.hd,I.ok.frames,I.ok.IF,I.ok.Ak,I.ok.bs,I.ok.AX,I.ok.uM,I.ok.oj,I.ok.kh,I.ok.Ef⟩,I.os,I.bare,I.base,I.loc,I.cell,I.free,I.fO,λp hp=>I.pin p (by simpa using hp),I.hok,I.len⟩
theorem Inv.l5(I:Inv (X.bear pins) [] σ H s):Inv X pins σ H s :=
 ⟨⟨I.ok.mod,I.ok.kind,I.ok.glob,I.ok.blt,I.ok.above,I.ok.inj,I.ok.has,I.ok.cab,I.ok.hd,I.ok.frames,I.ok.IF,I.ok.Ak,I.ok.bs,I.ok.AX,I.ok.uM,I.ok.oj,I.ok.kh,I.ok.Ef⟩,I.os,I.bare,I.base,I.loc,I.cell,I.free,I.fO,λp hp=>I.pin p (by simpa using hp),I.hok,I.len⟩
theorem Inv.F4(I:Inv X pins σ H s)(e:Addr):Inv (X.F4 e) pins σ H s :=
 ⟨⟨I.ok.mod,I.ok.kind,I.ok.glob,I.ok.blt,I.ok.above,I.ok.inj,I.ok.has,I.ok.cab,(λz=>absurd (show false=true from z) (by decide)),I.ok.frames,I.ok.IF,I.ok.Ak,I.ok.bs,I.ok.AX,I.ok.uM,I.ok.oj,I.ok.kh,I.ok.Ef⟩,I.os,I.bare,I.base,I.loc,I.cell,I.free,I.fO,I.pin,I.hok,I.len⟩
theorem Inv.FP{e:Addr}(ok:X.Ok)(I:Inv (X.F4 e) pins σ H s):Inv X pins σ H s:=⟨ok,I.os,I.bare,I.base,I.loc,I.cell,I.free,I.fO,I.pin,I.hok,I.len⟩
end
def NR(K:UJ)(tb:TS)(E:XK)(Cc:Addr)(i:Nat)(ts:TS):TS:=λD σ H=>tb D σ H/\∀(σ':St) (C e:Addr) (od:Option Addr) (H':Hp),σ'.length=σ.length->H' e=some (xO e C od)->E (.ref C) (some e) H'->
 PySem.W.exmOne K (.ref C) (.ref Cc)=some true/\ts {nx:=λde H2=>D.nx (de.set i none) H2,rt:=D.rt,bk:=λde H2=>D.bk (de.set i none) H2,ct:=λde H2=>D.ct (de.set i none) H2} (σ'.set i (some (.ref e))) H'
theorem Ip{X:Cx}{E:XK}{L Cc:Addr}{i:Nat}{n x:Str}{body suite:List Stmt}{b0:Stmt}{np hpos pos:Pos}{tb ts:TS}(tp:Top X L)(hN:X.N.Nodup)(hi:X.N[i]? = some n)(hk:X.env.scope.names.lookup n=some .local)(hg:Gl X x)(hm:X.mg x=some (.ref Cc))
  (hb:∀pins,pL ((X.bear pins).xs E) body tb) (hs:∀e,pL (X.F4 e) (b0::suite) ts) (hdb:(x==("__debug__" : Str))=false:=by decide) :
  PS X (.Try body [.ExceptHandler (some (.Name x np)) (some n) (b0::suite) hpos] [] [] pos) (NR X.K tb E Cc i ts):=by
 intro pins s σ H D I h
 obtain⟨h1,h2⟩:=h
 have back:∀{f:Flow} {s1:Shared},SP ((X.bear pins).xs E) [] D f s1->SP X pins D f s1:=λ{f s1} z=>by
  cases f with
  | next=>obtain⟨σ',H',I',q⟩:=z; exact⟨σ',H',I'.c_.l5,q⟩
  | brk=>obtain⟨σ',H',I',q⟩:=z; exact⟨σ',H',I'.c_.l5,q⟩
  | cont=>obtain⟨σ',H',I',q⟩:=z; exact⟨σ',H',I'.c_.l5,q⟩
  | ret u=>obtain⟨v,σ',H',I',r,q⟩:=z; exact⟨v,σ',H',I'.c_.l5,r,q⟩
 refine wpAny_Try_except (UB (hb pins [] s σ H D (I.bear.wish _) h1) (λf s1 z=>?_) λev s1 hx=>?_)
 ·cases f with
  | next=>exact wpAny_execs_nil (back z)
  | brk=>exact back (f:=.brk) z
  | cont=>exact back (f:=.cont) z
  | ret u=>exact back (f:=.ret u) z
 obtain⟨e,C,od,Ec,H1,rfl,I1,f1,hE⟩:=hx
 have Q6:Top (X.bear pins) L:=⟨tp.ex,tp.fr⟩
 have hlen:Ec.length=σ.length:=by rw [I1.len]; exact I.len.symm
 obtain⟨hm1,hts⟩:=h2 Ec C e od H1 hlen f1.at_ hE
 refine mU (X:=X.bear pins) I1.ok.frames Q6 tp.fr I1 f1 λs2 T I2 f2=>?_
 refine hV I2 f2 none λs3 I3 f3=>?_
 refine wpAny_handleBy_cons (codeAny_handlers_test ?_) (by intro z; cases z)
 have PR:Inv (X.F4 e) pins Ec H1 s3:=I3.l5.F4 e
 refine m9 (X:=X.F4 e) PR hg hm ?_ hdb
 obtain⟨⟨fl,sl,Kt⟩,_⟩:=I3.hok e _ f3.at_
 have LT:PySem.W.Looks (model X.prog X.w) s3.heap (typeOf (.ref e)) (.ref C):=(PySem.W.Looks.ld Kt).andThen .now
 refine(PySem.W.exm_one PR.jI LT hm1).here ?_
 refine codeAny_handlers_suite_as ?_
 refine hV I3 f3 none λs5 I5 f5=>?_
 refine ic (X:=X.F4 e) (I5.l5.F4 e) hN hi (.inl hk) (show RelV (.ref e) (.ref e) from rfl) (λs6 I6=>?_) (.inr hk)
 refine UB (hs e pins s6 _ H1 _ I6 hts) (λf s7 z=>?_) λ_ _ z=>False.elim z
 cases f with
 | next=>obtain⟨σ',H',I',q⟩:=z; exact nh (I'.FP I.ok) hN hi hk λs8 I8=>⟨_,H',I8,q⟩
 | brk=>obtain⟨σ',H',I',q⟩:=z; exact nh (I'.FP I.ok) hN hi hk λs8 I8=>⟨_,H',I8,q⟩
 | cont=>obtain⟨σ',H',I',q⟩:=z; exact nh (I'.FP I.ok) hN hi hk λs8 I8=>⟨_,H',I8,q⟩
 | ret u=>obtain⟨v,σ',H',I',r,q⟩:=z; exact nh (I'.FP I.ok) hN hi hk λs8 I8=>⟨v,_,H',I8,r,q⟩
abbrev Kc(t:Addr):Array Value:=#[.ref t,.none,.none,.none,.bool false,.none]
abbrev xF(a C:Addr)(od:Option Addr):HO:=.ext λh=>∃t sl,h.get? a=some {cls:=.ref C,dict:=od,data:=.fields (Kc t),slots:=sl}
section
variable{P:Program}{w:World}{H:Hp}{h h':Heap}{a C d:Addr}{od:Option Addr}{fs:List (Str×V)}{o:HO}
theorem GL{tt:Addr}{sl:Array (Option Value)}(e:h.get? a=some {cls:=.ref C,dict:=od,data:=.fields (Kc tt),slots:=sl}):cq P w H h a (xF a C od) :=
 ⟨⟨tt,sl,e⟩,⟨_,e⟩,λ_ _ ⟨tt,sl,e⟩ k=>⟨tt,sl,k _ e⟩⟩
end
section
variable{X:Cx}{pins:List (Addr×Obj)}{σ:St}{H:Hp}{s:Shared}{a C dx:Addr}{fs:List (Str×V)}{f:Str}{v y:V}{u:Value}{A:Around}{E:Value->Shared->Prop}
theorem HZ{Q:Unit->Shared->Prop}(I:Inv X pins σ H s)(e:H a=some (xF a C (some dx)))(ed:H dx=some (xD dx fs))(c:jl X.K C)(n:ix X.K C f)(hz:fs.length<1000)(ry:RelV y u)
  (h:∀s',Inv X pins σ (upd H dx (xD dx (mD f y fs))) s'->Q () s'):wpAny (model X.prog X.w) A (setAttr (.ref a) f u) Q E s:=by
 obtain⟨⟨tt,sl,ha⟩,_⟩:=I.hok a _ e
 obtain⟨⟨mA,ns,r⟩,_⟩:=I.hok dx _ ed
 obtain⟨od,ho,hl⟩:=l0 ns
 have J:PySem.W.InstAt s.heap a {cls:=.ref C,dict:=some dx,data:=.fields (Kc tt),slots:=sl} C (some od):=⟨ha,rfl,rfl,ho⟩
 have wi:=rq r
 have Tb:(fs.map (·.1)).length+1<=sizeLine:=by rw [Ua,sizeLine_eq]; omega
 obtain⟨cd,PE,hc,_,hd'⟩:=c.cls
 refine PySem.W.set_plain I.jI J c.sa (qM (s:={s with toks:=s.toks+1}) c I.jI J n λb=>?_)
 refine TZ (T1 (TZ (TZ (wpAny_loadPart ha (TZ (PySem.W.Looks.here (s:={s with toks:=s.toks+1}) (PySem.W.looks_clsIn I.jI hc) ?_))))))
 rw [hd']
 refine T1 (a:=some dx) (TZ (T1 (TZ ?_)))
 refine wpAny_nsSet1 (s:={s with toks:=s.toks+1}) ns λh' hn2 hs2=>?_
 obtain⟨oD,esD,epD,hoD,hdD,hcD⟩:=hn2.count (PySem.Within.cons f u wi)
 refine TZ (wpAny_lookBehind hoD (by rw [hdD]; exact pastItsLine_dict (T8 hcD (by rw [UG]; exact Nat.le_succ_of_le Tb))) ?_)
 refine T1 (h _ ?_)
 refine I.write (x:=dx) (e:=dx) (by rw [ed]; exact True.intro) (.inl rfl) (λb q hb z=>(hs2.2 b hb).trans z) ⟨_,hoD⟩ (BG hn2 λg=>?_)
 show jj ((mD f y fs).lookup g) (if g=f then some u else mA g)
 rw [ej]
 by_cases q:g=f
 ·rw [if_pos q,if_pos q]; exact ry
 ·rw [if_neg q,if_neg q]; exact r g
theorem HL{Q:Unit->Shared->Prop}(I:Inv X pins σ H s)(e:H a=some (xF a C none))(c:jl X.K C)(n:ix X.K C f)(ry:RelV y u)
  (h:∀dx s',H dx=none->Inv X pins σ (upd (upd (upd H dx (xD dx [])) a (xF a C (some dx))) dx (xD dx (mD f y []))) s'->Q () s'):wpAny (model X.prog X.w) A (setAttr (.ref a) f u) Q E s:=by
 obtain⟨⟨tt,sl,ha⟩,_⟩:=I.hok a _ e
 have J:PySem.W.InstAt s.heap a {cls:=.ref C,dict:=none,data:=.fields (Kc tt),slots:=sl} C none:=⟨ha,rfl,rfl,True.intro⟩
 obtain⟨cd,PE,hc,_,hd'⟩:=c.cls
 refine PySem.W.set_plain I.jI J c.sa (qM (s:={s with toks:=s.toks+1}) c I.jI J n λb=>?_)
 refine TZ (T1 (TZ (TZ (wpAny_loadPart ha (TZ (PySem.W.Looks.here (s:={s with toks:=s.toks+1}) (PySem.W.looks_clsIn I.jI hc) ?_))))))
 rw [hd']
 have na:a≠s.heap.objs.size:=Ut (T5 ha)
 have fr:H s.heap.objs.size=none:=I.hok.fresh (T7 _)
 have hgd:(s.heap.push {cls:=.type "dict",data:=.dict #[]}).get? s.heap.objs.size=some {cls:=.type "dict",data:=.dict #[]}:=T6 _ rfl
 have hn0:(s.heap.push {cls:=.type "dict",data:=.dict #[]}).Ns1 s.heap.objs.size (λ_=>none):=Heap.Ns1.of_empty ⟨_,#[],_,hgd,rfl,λe he=>absurd he (by simp),λ_=>rfl⟩
 have I1:Inv X pins σ (upd H s.heap.objs.size (xD s.heap.objs.size [])) {s with heap:=s.heap.push {cls:=.type "dict",data:=.dict #[]},toks:=s.toks+1} :=
  I.laid (λb u q=>T4 _ q) (T7 _) (BG hn0 λg=>True.intro)
 have ha1:(s.heap.push {cls:=.type "dict",data:=.dict #[]}).get? a=some {cls:=.ref C,dict:=none,data:=.fields (Kc tt),slots:=sl}:=T4 _ ha
 refine TZ (wpAny_alloc' ?_)
 refine TZ (wpAny_update' ha1 ?_)
 have ha2:((s.heap.push {cls:=.type "dict",data:=.dict #[]}).update a λo=>{cls:=o.cls,dict:=some s.heap.objs.size,data:=o.data,slots:=o.slots}).get? a=some {cls:=.ref C,dict:=some s.heap.objs.size,data:=.fields (Kc tt),slots:=sl}:=Heap.get?_update_self _ ha1 rfl
 have I2:Inv X pins σ (upd (upd H s.heap.objs.size (xD s.heap.objs.size [])) a (xF a C (some s.heap.objs.size))) {s with heap:=(s.heap.push {cls:=.type "dict",data:=.dict #[]}).update a λo=>{cls:=o.cls,dict:=some s.heap.objs.size,data:=o.data,slots:=o.slots},toks:=s.toks+1} :=
  I1.write (x:=a) (e:=a) (by rw [aI na,e]; exact True.intro) (.inl rfl) (λb q hb z=>(Heap.get?_update_ne _ _ _ _ hb).trans z) ⟨_,ha2⟩ (GL ha2)
 have hd2:=I2.hok s.heap.objs.size (xD s.heap.objs.size []) (by rw [aI (Ne.symm na)]; exact ag)
 obtain⟨⟨mA,ns,r⟩,_⟩:=hd2
 refine T1 (TZ (T1 (TZ ?_)))
 refine wpAny_nsSet1 (s:={s with heap:=(s.heap.push {cls:=.type "dict",data:=.dict #[]}).update a λo=>{cls:=o.cls,dict:=some s.heap.objs.size,data:=o.data,slots:=o.slots},toks:=s.toks+1}) ns λh' hn2 hs2=>?_
 obtain⟨oD,esD,epD,hoD,hdD,hcD⟩:=hn2.count (PySem.Within.cons f u (rq r))
 refine TZ (wpAny_lookBehind hoD (by rw [hdD]; exact pastItsLine_dict (T8 hcD (by show 1<=sizeLine+1; exact Nat.succ_le_succ (Uu _)))) ?_)
 refine T1 (h s.heap.objs.size _ fr ?_)
 refine I2.write (x:=s.heap.objs.size) (e:=s.heap.objs.size) (by rw [aI (Ne.symm na),ag]; exact True.intro) (.inl rfl) (λb q hb z=>(hs2.2 b hb).trans z) ⟨_,hoD⟩ (BG hn2 λg=>?_)
 show jj ((mD f y []).lookup g) (if g=f then some u else mA g)
 rw [ej]
 by_cases q:g=f
 ·rw [if_pos q,if_pos q]; exact ry
 ·rw [if_neg q,if_neg q]; exact r g
end
section
variable{X:Cx}{CX:q5}{k:Nat}{f C:Addr}{fd:FuncData}{ps:List Str}{sp:Sp}{E:XK}{x:Str}{p pos:Pos}{e:Expr}{es:List Expr}{t:TA}
theorem Inv.MF{pins:List (Addr×Obj)}{σ:St}{H:Hp}{s:Shared}{h':Heap}{a:Addr}{rest:List Value}(I:Inv X pins σ H s)(m:Heap.MadeExcOf s.heap h' a (.ref C) rest):H a=none/\Inv X pins σ (upd H a (xF a C none)) {s with heap:=h'}:=by
 obtain⟨t,et,_,_⟩:=m.there
 have hn:=I.hok.none_of m.new
 exact⟨hn,I.un (t':=s.toks) (Un.laidN m.keeps m.new hn) (I.hok.laidN m.keeps m.new (GL et))⟩
def KU(C:Addr)(sp:Sp)(E:XK)(t:TA):TE:=λσ H Q=>t σ H λvs H1=>vs.length<=sizeLine/\∀a,H1 a=none->sp (.ref a::vs) (upd H1 a (xF a C none)) (λv H2=>v=.non/\Q (.ref a) H2) E
theorem E1(hx:lI X.K C AD "ValueError.__new__" (some (.ref f))=true)(hk:PySem.W.keepIn X.K (.ref C)=true)(hf:PySem.W.isFn X.K (.ref f)=true)(F:eZ X.prog X.w X.K X.mg X.base CX k f fd ps sp)(hr:eJ (k+1) X.A)(hg:Gl X x)(hm:X.mg x=some (.ref C))
  (hb:Binds X.K fd ps []) (hpx:Passes CX X E) (ha:PA X (e::es) t)
  (hdb:(x==("__debug__" : Str))=false:=by decide) (he:starEach (e::es) X.env=(false,eval e X.env)::starEach es X.env:=by rfl) (hpl:(backTo pos (starEach es X.env)).any (·.1)=false:=by rfl) :
  PE X (.Call (.Name x p) (e::es) [] pos) (KU C sp E t):=by
 intro pins s σ H Q I h
 refine wpAny_Call_Name_kw (m9 I hg hm ?_ hdb)
 refine PySem.W.callWith_K (h₀:=X.base) I.ok.mod.Ko hk (b_ (ha pos pins s σ H _ I h) λus s1 ⟨vs,H1,I1,r,hz,q⟩=>⟨I1.jI,?_⟩) he hpl
 obtain⟨bm,N,nm,q',bs,hd,sn,sub,ab,col,dd,k0,k1,k2,k3,k5,mN,hC,hN,hni,T⟩:=qP I1.jI hx
 have hfn:∃oI,s1.heap.get? f=some oI/\oI.cls=.type "function":=by
  have z:PySem.W.typeIn X.K (.ref f)=some (.type "function"):=beq_iff_eq.mp hf
  obtain⟨o,ho,hc⟩:=Option.map_eq_some_iff.mp (show(X.K.lookup f).map (·.cls)=some _ from z)
  exact⟨o,I1.jI _ _ ho,hc⟩
 obtain⟨oI,hfI,hfc⟩:=hfn
 obtain⟨hp,gs,dr,tk,os⟩:=s1
 refine oU PySem.F.excBase_ValueError T hC hN hni hfI hfc (λh' a m=>?_) (by show us.length<=sizeLine; rw [←r.length]; exact hz)
 obtain⟨hn,I2⟩:=I1.MF m
 have hq:=q a hn
 have r2:Vals (V.ref a::vs) (Value.ref a::us):=.cons rfl r
 have hl:(Value.ref a::us).length=ps.length:=by rw [←r2.length]; exact F.len _ _ _ _ hq
 have hl':((Value.ref a::us)++([]:List Value)).length=ps.length:=by rw [List.append_nil]; exact hl
 have hb':=hb _ (Value.ref a::us) I2.jI hl'
 rw [List.append_nil]at hb'
 refine wpAny_call (codeAny_mono (F.run _ X.stack _ _ ⟨Value.ref a::us,[]⟩ (Value.ref a::us) _ _ E (hr.make C us []) (I2.env0.make C us []) hb' r2 hq) λr s' hq'=>?_)
 cases r with
 | error ee=>exact hpx pins σ _ _ ee s' I2 hq'
 | ok fl =>
  cases fl with
  | ret u =>
   obtain⟨v,H',I3,rv,ev,q3⟩:=I2.after hq'
   subst ev
   exact⟨rv,⟨V.ref a,H',I3,rfl,q3⟩⟩
  | next=>exact False.elim hq'
  | brk=>exact False.elim hq'
  | cont=>exact False.elim hq'
end
section
variable{X:Cx}{o value:Expr}{ta tv:TE}{f:Str}{pos pos':Pos}
def JW(K:UJ)(ta tv:TE)(f:Str):TS:=λD σ H=>tv σ H λy H1=>ta σ H1 λx H2=>∃a C,x=.ref a/\jl K C/\ix K C f/\
 ((H2 a=some (xF a C none)/\∀dx,H2 dx=none->D.nx σ (upd (upd (upd H2 dx (xD dx [])) a (xF a C (some dx))) dx (xD dx (mD f y []))))\/
  ∃dx fs,H2 a=some (xF a C (some dx))/\H2 dx=some (xD dx fs)/\fs.length<1000/\D.nx σ (upd H2 dx (xD dx (mD f y fs))))
theorem vT(ha:PE X o ta)(hv:PE X value tv)(hs:swapsWith value (some (.Attribute o f pos')) pos.line X.env=pure false):PS X (.Assign [.Attribute o f pos'] value pos) (JW X.K ta tv f):=by
 intro pins s σ H D I h
 refine plainObj_wpAny_Assign_Attribute (b_ (hv pins s σ H _ I h) λu s1 ⟨y,H1,I1,ry,q⟩=>b_ (ha pins s1 σ H1 _ I1 q) λov s2 ⟨x,H2,I2,rx,a,C,ex,c,n,q2⟩=>?_) hs
 subst ex
 obtain rfl:ov=Value.ref a:=rx
 rcases q2 with⟨ea,q3⟩ | ⟨dx,fs,ea,ed,l,q3⟩
 ·exact HL I2 ea c n ry λdx s3 hn I3=>⟨σ,_,I3,q3 dx hn⟩
 ·exact HZ I2 ea ed c n l ry λs3 I3=>⟨σ,_,I3,q3⟩
end
end L2
namespace PySem
section
variable{M:Model}{A:Around}{E:Value->Shared->Prop}{env:Env}
variable{nm q:Str}{C N:Addr}{bs bm:List Value}{hdct:Bool}{sn:List Str}{sub:List Value}{ab:Bool}{col:Option Bool}{dd:Option Addr}{k0 k1 k2 k3 k5:Option Value}{newId:String}
theorem uS{s:Shared}{x:Sem Value}{Q:Flow->Shared->Prop}(hbase:bm.contains (.type "BaseException")=true)(hh:A.handled=none)
  (h:wpAny M A x (λv s₁=>∃e t od sl,v=.ref e/\s₁.heap.get? C=some (excClassObj nm q C N bs bm hdct sn sub ab col dd k0 k1 k2 k3 k5 newId)/\
   s₁.heap.get? e=some {cls:=.ref C,dict:=od,data:=.fields #[.ref t,.none,.none,.none,.bool false,.none],slots:=sl}/\E (.ref e) s₁) E s) :
  wpAny M A (raiseStmt env (some x) none) Q E s:=by
 have hcB:(Value.ref C::bm).contains (.type "BaseException")=true:=by rw [List.contains_cons,hbase,Bool.or_true]
 unfold raiseStmt
 refine TZ (UB h (λv s₁ h₁=>?_) λ_ _ x=>x)
 obtain⟨e,t,od,sl,rfl,hC,he,hE⟩:=h₁
 obtain⟨hp,g,d,tk,os⟩:=s₁
 repeat (first | with_reducible refine wpAny_loadPart_at he ?_ | with_reducible refine wpAny_loadPart_at hC ?_ | (with_reducible refine wpAny_isSubtype_exc hC ?_; rw [hcB]) | wp_step)
 exact wpAny_raiseNew_none hh hE
end
end PySem
namespace L2
open PySem PySem.Spec PyProof.Rows
def Fz(C:Addr)(E:XK)(te:TE):TS:=λ_ σ H=>te σ H λv H1=>∃a od,v=.ref a/\H1 a=some (xF a C od)/\E (.ref C) (some a) (upd H1 a (xO a C od))
theorem zp{X:Cx}{E:XK}{C:Addr}{pos:Pos}{e:Expr}{te:TE}{ini:Option Value}(hc:X.calm=true)(hx:lI X.K C AD "ValueError.__new__" ini=true)(he:PE (X.xs E) e te) :
  PS (X.xs E) (.Raise (some e) none pos) (Fz C E te):=by
 intro pins s σ H D I h
 obtain⟨bm,N,nm,q',bs,hd,sn,sub,ab,col,dd,k0,k1,k2,k3,k5,mN,hC,hN,hni,T⟩:=qP I.ok.mod.Ko hx
 rw [arm_exec_Raise]
 show wpAny _ _ (do standAt pos; raiseStmt X.env (some (do let v←eval e X.env; standAt pos; pure v)) none) _ _ s
 refine TZ (wpAny_standAt (uS (C:=C) (nm:=nm) (q:=q') (N:=N) (bs:=bs) (bm:=bm) (hdct:=hd) (sn:=sn) (sub:=sub) (ab:=ab) (col:=col) (dd:=dd) (k0:=k0) (k1:=k1) (k2:=k2) (k3:=k3) (k5:=k5) (newId:="ValueError.__new__") (T.hasType PySem.F.excBase_ValueError.hasBase) (I.ok.hd hc) ?_))
 refine TZ (b_ (he pins s σ H _ I h) λu s1 ⟨v,H1,I1,rv,a,od,ev,ea,q⟩=>TZ (wpAny_standAt (T1 ?_)))
 subst ev
 cases rv
 obtain⟨⟨tt,sl,ha⟩,_⟩:=I1.hok a _ ea
 refine⟨a,tt,od,sl,rfl,I1.bk _ _ hC,ha,?_⟩
 have I2:=(I1.iQ (pins':=[]) λp hp=>absurd hp (by simp)).c_
 have I3:Inv X [] σ (upd H1 a (xO a C od)) s1:=by
  have:=I2.write (x:=a) (e:=a) (h':=s1.heap) (t':=s1.toks) (o:=xO a C od) (by rw [ea]; exact True.intro) (.inl rfl) (λb q hb z=>z) ⟨_,ha⟩ (Hn ha)
  exact this
 exact⟨a,C,od,σ,upd H1 a (xO a C od),rfl,I3,⟨ag,_,_,ha,.inl rfl⟩,q⟩
end L2
namespace My
open PySem L2
structure Fl where
 o:Bool
 j:Bool
 f:Bool
 w:Bool
 l:Bool
def pO(s:Str):Bool:=!cD s
def pJ(s:Str):Bool:=decide (s="walk")||decide (s="both")||decide (s="meet")
def pF(s:Str):Bool:=decide (s="first")
def pW(s:Str):Bool:=decide (s="walk")
def flagsOf(ps:List Str)(l:Bool):Fl:=⟨ps.any pO,ps.any pJ,ps.any pF,ps.any pW,l⟩
def Kn.fl(k:Kn):Fl:=flagsOf k.ps k.lo
def looseW:Wk->Hd->Fl->Bool
 | .one (.keep c _),h,_=>decide (bt h c="t")
 | .one (.first n),_,f=>decide (¬n<=0)&&f.j
 | .meet ..,_,f=>f.w||f.f
 | _,_,_=>false
def l9:Wk->Fl->Bool
 | .one (.walk _ _),f=>!f.o
 | .meet _ _ p q,_=>(p++q).all λw=>cD w.nm
 | _,_=>true
def i5(x:Wk)(f:Fl)(hs:List Hd):Option Str :=
 if c9 x hs=true then
  if bg x hs=true then
   if(bE x hs).length<=6 then
    if l9 x f=true then
     if(jr x&&f.l)=true then some "loose" else none
    else some "rows"
   else some "wide"
  else some "sort"
 else some "column"
theorem any_eq(ps:List Str)(s:Str):ps.any (λt=>decide (t=s))=kE ps s:=by
 apply Bool.eq_iff_iff.mpr
 rw [Gd,List.any_eq_true]
 constructor
 ·rintro⟨t,h,e⟩; rw [←UI e]; exact h
 ·intro h; exact⟨s,h,T_ rfl⟩
theorem Bg(ps:List Str)(p q:Str->Bool):ps.any (λs=>p s||q s)=(ps.any p||ps.any q):=by
 induction ps with
 | nil=>rfl
 | cons a ps ih=>rw [List.any_cons,List.any_cons,List.any_cons,ih]; cases p a <;> cases q a <;> simp
theorem JI(ps:List Str):ps.any pJ=(kE ps "walk"||kE ps "both"||kE ps "meet"):=by
 unfold pJ
 rw [Bg ps (λs=>decide (s="walk")||decide (s="both")) (λs=>decide (s="meet")),Bg,any_eq,any_eq,any_eq]
theorem DW(x:Wk)(k:Kn):e_ x k=looseW x k.hd k.fl:=by
 have e1:=JI k.ps
 have e2:k.ps.any pF=kE k.ps "first":=any_eq _ _
 have e3:k.ps.any pW=kE k.ps "walk":=any_eq _ _
 cases x with
 | one x =>
  cases x <;> try rfl
  show(decide _&&(kE k.ps "walk"||kE k.ps "both"||kE k.ps "meet"))=(decide _&&k.ps.any pJ)
  rw [e1]
 | both p q=>rfl
 | meet c d p q =>
  show(kE k.ps "walk"||kE k.ps "first")=(k.ps.any pW||k.ps.any pF)
  rw [e2,e3]
theorem Gn(x:Wk)(k:Kn):jG x k.ps=l9 x k.fl:=by
 cases x with
 | one x =>
  cases x <;> try rfl
  show k.ps.all cD = !(k.ps.any pO)
  rw [List.not_any_eq_all_not]
  congr 1
  funext s
  show _ = !(!cD s)
  rw [Bool.not_not]
 | both p q=>rfl
 | meet c d p q=>rfl
theorem Ic(x:Wk)(k:Kn)(hs:List Hd):sC x k hs=i5 x k.fl hs:=by
 unfold sC i5
 rw [Gn]
 rfl
def Eg(x:Wk)(h:Hd)(f:Fl)(fs:List Fl):Fl:=⟨fs.any (λg=>g.o)||pO (aD x),fs.any (λg=>g.j)||pJ (aD x),fs.any (λg=>g.f)||pF (aD x),fs.any (λg=>g.w)||pW (aD x),looseW x h f||fs.any λg=>g.l⟩
theorem Ez{a b:List Str}{p:Str->Bool}(h:∀s,s∈a↔s∈b):a.any p=b.any p:=by
 apply Bool.eq_iff_iff.mpr
 rw [List.any_eq_true,List.any_eq_true]
 constructor
 ·rintro⟨t,m,e⟩; exact⟨t,(h t).mp m,e⟩
 ·rintro⟨t,m,e⟩; exact⟨t,(h t).mpr m,e⟩
theorem rF(ks:List Kn)(x:Wk)(p:Str->Bool){ps:List Str}(h:zt ps (ks.flatMap (λk=>k.ps)++[aD x])):ps.any p=((ks.any λk=>k.ps.any p)||p (aD x)):=by
 rw [Ez h.2,List.any_append,List.any_flatMap]
 simp
theorem K1{x:Wk}{k k':Kn}{ks:List Kn}(h:zt k'.ps (ks.flatMap (λk=>k.ps)++[aD x]))(hl:k'.lo=(e_ x k||ks.any λk=>k.lo)):k'.fl=Eg x k.hd k.fl (ks.map Kn.fl):=by
 unfold Kn.fl flagsOf Eg
 rw [rF ks x pO h,rF ks x pJ h,rF ks x pF h,rF ks x pW h,hl,DW,List.any_map,List.any_map,List.any_map,List.any_map,List.any_map]
 rfl
inductive Res where
 | ok (h:Hd) (f:Fl)
 | no (p:List Int) (s:Str)
def ia(x:Wk)(h:Hd)(f:Fl)(pl:List Int)(es:List (Hd×Fl)):Res:=match i5 x f (es.map λe=>e.1)with
 | some s=>.no pl s
 | none=>.ok (bE x (es.map λe=>e.1)) (Eg x h f (es.map λe=>e.2))
def cZ(r:Res)(g:Hd->Fl->Res):Res:=match r with
 | .ok h f=>g h f
 | .no a s=>.no a s
def putL(step:Hd->Fl->List Int->Wk->Res)(pl:List Int):Nat->Hd->Fl->List Wk->Res
 | _,h,f,[]=>.ok h f
 | i,h,f,x::ws=>cZ (step h f (pl++[(i:Int)]) x) λh' f'=>putL step pl (i+1) h' f' ws
def Ci(step:Hd->Fl->List Int->Wk->Res)(x:Wk)(h:Hd)(f:Fl)(pl:List Int):List (List Wk)->Nat->List (Hd×Fl)->Res
 | [],_,es=>ia x h f pl es
 | p::ps,j,es=>cZ (putL step (pl++[(j:Int)]) 0 h f p) λh' f'=>Ci step x h f pl ps (j+1) (es++[(h',f')])
def cn:Nat->Hd->Fl->List Int->Wk->Res
 | 0,h,f,pl,x=>ia x h f pl [(h,f)]
 | n+1,h,f,pl,x=>match x with
  | .one _=>ia x h f pl [(h,f)]
  | _=>Ci (cn n) x h f pl (dE x) 0 []
def Bc:List Str:=["keep","same","cut","turn","must","walk","sort","apart","count","sum","number","first","both","meet","first 0"]
theorem Dy(x:Wk):aD x∈Bc:=by
 match x with
 | .one (.first n) =>
  show(if n<=0 then("first 0" : Str)else "first")∈Bc
  split <;> decide +kernel
 | .one (.keep ..) | .one (.same ..) | .one (.cut ..) | .one (.turn ..) | .one (.must ..) | .one (.walk ..) | .one (.sort ..) | .one .apart | .one (.count ..) | .one (.sum ..) | .one .number | .both .. | .meet ..=>exact List.mem_of_elem_eq_true (by simp only [aD,Wk.nm,W1.nm]; decide +kernel)
theorem sub_len:∀{l m:List Str},l.Nodup->(∀s∈l,s∈m)->l.length<=m.length
 | [],m,_,_=>Uu _
 | a::l,m,hn,hs=>by
  rw [List.nodup_cons]at hn
  have ha:a∈m:=hs a (by simp)
  have:=sub_len (l:=l) (m:=m.erase a) hn.2 λs h=>by
   have ne:s≠a:=by rintro rfl; exact hn.1 h
   exact(List.mem_erase_of_ne ne).mpr (hs s (by simp [h]))
  rw [List.length_erase_of_mem ha]at this
  have hp:0<m.length:=List.length_pos_of_mem ha
  rw [UG]
  omega
theorem ng{x:Str}:¬vW x x:=λh=>List.lt_irrefl _ h
structure mQ(k:Kn):Prop where
 hd:k.hd.length<=6
 nd:k.ps.Nodup
 sub:∀s∈k.ps,s∈Bc
theorem mQ.few{k:Kn}(h:mQ k):k.ps.length<=15:=sub_len h.nd h.sub
theorem mQ.next{k':Kn}{ks:List Kn}{x:Wk}(hk:∀k∈ks,mQ k)(hh:k'.hd.length<=6)(h:zt k'.ps (ks.flatMap (λk=>k.ps)++[aD x])):mQ k':=by
 refine⟨hh,h.1.imp λ{a b} e z=>by subst z; exact ng e,λs hs=>?_⟩
 rcases Us.mp ((h.2 s).mp hs)with z | z
 ·obtain⟨k,h1,h2⟩:=List.mem_flatMap.mp z
  exact(hk k h1).sub s h2
 ·rw [Uo.mp z]
  exact Dy x
def inClass(s:Stmt)(i:Nat):Stmt:=match s with
 | .ClassDef _ _ _ body _ _ _ _ _ _ _=>body.getD i (.Pass ⟨0,0,0,0⟩)
 | _=>.Pass ⟨0,0,0,0⟩
abbrev lN:Stmt:=inClass (top 5) 0
theorem E7:ay ["self","place","why"] ["self","place","why"] (ar lN):=⟨rfl,rfl,rfl,by decide +kernel,rfl,by decide +kernel,by decide +kernel⟩
abbrev Ae(pl wy:V):List (Str×V):=mD "why" wy (mD "place" pl [])
def yu(K:UJ)(C:Addr):Sp:=λvs H Q _=>∃a v1 v2,vs=[.ref a,v1,v2]/\H a=some (xF a C none)/\jl K C/\ix K C "place"/\ix K C "why"/\
 ∀dx H',H dx=none->(∀b o,b≠a->H b=some o->H' b=some o)->H' a=some (xF a C (some dx))->H' dx=some (xD dx (Ae v1 v2))->Q .non H'
structure IC(K:UJ)(mg:Str->Option Value)(C fI:Addr):Prop where
 xc:jl K C
 np:ix K C "place"
 nr:ix K C "why"
 Qo:lI K C AD "ValueError.__new__" (some (.ref fI))=true
 kp:PySem.W.keepIn K (.ref C)=true
 fn:PySem.W.isFn K (.ref fI)=true
 mf:mg "NoPipe"=some (.ref C)
section
variable{P:Program}{w:World}{K:UJ}{mg:Str->Option Value}{base:Heap}{f C:Addr}{fd:FuncData}
theorem B4(F:AZ K "__init__" "NoPipe.__init__" lN f fd):eZ P w K mg base bf 1 f fd ["self","place","why"] (yu K C):=by
 refine F.ok E7 (λvs H Q E h=>?_) (λcdv A outer s H vs Q E hr h=>?_)
 ·obtain⟨a,v1,v2,rfl,_⟩:=h
  rfl
 obtain⟨a,v1,v2,rfl,ha,c,n1,n2,q⟩:=h
 refine⟨_,aq (vT (pv 0) (pv 1) rfl) (bK (vT (pv 0) (pv 2) rfl)),?_⟩
 refine⟨_,rfl,_,rfl,a,C,rfl,c,n1,.inl ⟨ha,λdx hdx=>?_⟩⟩
 have nd:a≠dx:=aU ha hdx
 refine⟨_,rfl,_,rfl,a,C,rfl,c,n2,.inr ⟨dx,_,by rw [aI nd]; exact ag,ag,by show 1<1000; decide,?_⟩⟩
 refine q dx _ hdx (λb o nb e=>?_) (by rw [aI nd,aI nd]; exact ag) ag
 have OE:b≠dx:=aU e hdx
 rw [aI OE,aI OE,aI nb,aI OE]
 exact e
end
end My
namespace L2
open PySem PySem.Spec PyProof.Rows
section
variable{X:Cx}{pins:List (Addr×Obj)}{σ:List (Option V)}{H H':Hp}{s:Shared}{h':Heap}
theorem Inv.qJ{t':Nat}{fp:List Addr}{T:Addr}{xs:List V}(I:Inv X pins σ H s)(hf:∀b∈fp,dz X pins H b)(k:∀b o,b∉fp->s.heap.get? b=some o->h'.get? b=some o)(hT:s.heap.objs.size<=T)
  (new:cq X.prog X.w (upd H T (.tup xs)) h' T (.tup xs)):Inv X pins σ (upd H T (.tup xs)) {s with heap:=h',toks:=t'}:=by
 have nT:H T=none:=I.hok.fresh hT
 have Gy:∀b u,H b=some u->b∉fp:=λb u e z=>by rw [(hf b z).1]at e; cases e
 have Rk:∀b o,s.heap.get? b=some o->b≠T:=λb o e z=>by
  have:=T5 e
  rw [z]at this
  exact absurd (Ue this hT) (Nat.lt_irrefl _)
 refine I.step (g':=s.gens) (d':=s.drawn) (ch:=fp) (λb hb=>?_) (λb o _ _ hc e _=>k b o hc e) (λb o _ _ hc e _=>⟨o.slots,k b o hc e⟩) (λb o hc e n=>by rw [aI (Rk b o e)]; exact n)
  (λb o hc e=>⟨o,k b o hc e⟩) (λb ys e=>by rw [aI (aU e nT)]; exact e) (λb o u e=>by rw [aI (aU e nT)]; exact e) (λb ps e=>⟨#[],by rw [aI (aU e nT),e]; simp⟩) (λm hm=>?_) (λb u e=>?_) I.bare
 ·obtain⟨f0,f1,f2,f3,f4,f5⟩:=hf b hb
  exact⟨f3,f1,f4,f5⟩
 ·obtain⟨o,es,ep,ho,r⟩:=hm
  exact⟨o,es,ep,k _ o (λz=>(hf _ z).2.1 rfl) ho,r⟩
 ·by_cases hb:b=T
  ·subst hb; rw [ag]at e; cases e; exact new
  ·rw [aI hb]at e
   refine(I.hok b u e).stay (λc v hc q=>k c v ?_ q) (λc q=>by rw [aI (aU q nT)]; exact q) λc ys q=>by rw [aI (aU q nT)]; exact q
   rcases hc with z | z
   ·rw [z]; exact Gy b u e
   ·exact Gy c _ z
theorem Inv.nz{t':Nat}{fp:List Addr}(I:Inv X pins σ H s)(hf:∀b∈fp,dz X pins H b)(k:∀b o,b∉fp->s.heap.get? b=some o->h'.get? b=some o):Inv X pins σ H {s with heap:=h',toks:=t'}:=by
 have Gy:∀b u,H b=some u->b∉fp:=λb u e z=>by rw [(hf b z).1]at e; cases e
 refine I.step (g':=s.gens) (d':=s.drawn) (ch:=fp) (λb hb=>?_) (λb o _ _ hc e _=>k b o hc e) (λb o _ _ hc e _=>⟨o.slots,k b o hc e⟩) (λb o hc e n=>n)
  (λb o hc e=>⟨o,k b o hc e⟩) (λb ys e=>e) (λb o u e=>e) (λb ps e=>⟨#[],by rw [e]; simp⟩) (λm hm=>?_) (λb u e=>?_) I.bare
 ·obtain⟨f0,f1,f2,f3,f4,f5⟩:=hf b hb
  exact⟨f3,f1,f4,f5⟩
 ·obtain⟨o,es,ep,ho,r⟩:=hm
  exact⟨o,es,ep,k _ o (λz=>(hf _ z).2.1 rfl) ho,r⟩
 ·refine(I.hok b u e).stay (λc v hc q=>k c v ?_ q) (λ_ q=>q) λ_ _ q=>q
  rcases hc with z | z
  ·rw [z]; exact Gy b u e
  ·exact Gy c _ z
end
section
variable{prog:Program}{w:World}{A:Around}{E:Value->Shared->Prop}{s:Shared}
theorem kd{it t:Addr}{i:Nat}{items:Array Value}{x:Value}{Q:Value->Shared->Prop}(hit:s.heap.IsTupleIter it t i)(ht:s.heap.IsTuple t items)(hx:items[i]? = some x)
  (hQ:∀h',h'.IsTupleIter it t (i+1)->Heap.SameBut it s.heap h'->Q x {s with heap:=h'}):wpAny (model prog w) A (Builtin.SmallTypes.nextOf (.ref it)) Q E s:=by
 obtain⟨o,ho,hc,hd⟩:=id hit
 obtain⟨ol,hol,_,nl,hdl⟩:=ht
 unfold Builtin.SmallTypes.nextOf
 refine TZ (wpAny_callSpecial?_slot (name:=Str.ofString "__next__") hit.typeIs F.slot_tuple_iterator_next (wpAny_call_entry F.slot_tuple_iterator_next hit.typeIs F.entry_tuple_iterator_next ?_ (F.args_tuple_iterator_next_1 _)))
 show wpAny _ _ (field (.ref it) 0 >>= _) _ _ s
 refine TZ (wpAny_field ho hd (x:=.ref t) rfl ?_)
 show wpAny _ _ (if(Value.ref t==Value.none)=true then _ else _) _ _ s
 rw [if_neg (show¬((Value.ref t==Value.none)=true) from Uk)]
 show wpAny _ _ (field (.ref it) 1 >>= _) _ _ s
 refine TZ (wpAny_field ho hd (x:=.int i 0) rfl ?_)
 show wpAny _ _ (seqItems? (.ref t) >>= _) _ _ s
 refine TZ (wpAny_seqItems hol hdl ?_)
 simp only [Int.toNat_natCast,hx]
 refine TZ (wpAny_setField ho hd (by simp) (T1 ⟨x,rfl,T1 (hQ _ ?_ (Heap.SameBut.update ..))⟩))
 exact⟨_,Heap.get?_update_self _ ho (Obj.isFreed_of_fields (Obj.data_mapFields hd _)),(Obj.cls_mapFields ..).trans hc,by rw [Obj.data_mapFields hd]; simp [rawInt]⟩
end
section
variable{prog:Program}{w:World}{A:Around}{E:Value->Shared->Prop}{s:Shared}
theorem fK{it t:Addr}{i:Nat}{items:Array Value}{Q:Value->Shared->Prop}(hh:A.handled=none)(hit:s.heap.IsTupleIter it t i)(ht:s.heap.IsTuple t items)(hx:items[i]? = none)
  (hE:∀h' e,Heap.ExtBut it s.heap h'->(∃o,h'.get? e=some o/\o.cls=.type "StopIteration")->E (.ref e) {s with heap:=h'}):wpAny (model prog w) A (Builtin.SmallTypes.nextOf (.ref it)) Q E s:=by
 obtain⟨o,ho,hc,hd⟩:=id hit
 obtain⟨ol,hol,_,nl,hdl⟩:=ht
 unfold Builtin.SmallTypes.nextOf
 refine TZ (wpAny_callSpecial?_slot (name:=Str.ofString "__next__") hit.typeIs F.slot_tuple_iterator_next (wpAny_call_entry F.slot_tuple_iterator_next hit.typeIs F.entry_tuple_iterator_next ?_ (F.args_tuple_iterator_next_1 _)))
 show wpAny _ _ (field (.ref it) 0 >>= _) _ _ s
 refine TZ (wpAny_field ho hd (x:=.ref t) rfl ?_)
 show wpAny _ _ (if(Value.ref t==Value.none)=true then _ else _) _ _ s
 rw [if_neg (show¬((Value.ref t==Value.none)=true) from Uk)]
 show wpAny _ _ (field (.ref it) 1 >>= _) _ _ s
 refine TZ (wpAny_field ho hd (x:=.int i 0) rfl ?_)
 show wpAny _ _ (seqItems? (.ref t) >>= _) _ _ s
 refine TZ (wpAny_seqItems hol hdl ?_)
 simp only [Int.toNat_natCast,hx]
 refine TZ (wpAny_rule (TZ (wpAny_setField ho hd (by simp) ?_)))
 show wpAny _ _ (newExc (.type "StopIteration") [] >>= _) _ _ _
 refine TZ ?_
 simp only [newExc,newTuple]
 refine TZ (UD ?_ (by size_fits))
 refine TZ (m:=firstArgMember _ _) (wpAny_of_eq (a:=Value.none) (by first | rfl | (simp only [firstArgMember]; rfl)) ?_)
 refine UD ?_ (by size_fits)
 simp only [raiseNew]
 refine TZ (wpAny_handled ?_)
 first | rw [show A.in1.handled=none from hh] | rw [hh]
 refine TZ (T1 (wpAny_throw ?_))
 exact hE _ _ (((Heap.SameBut.update ..).extBut.push _).push _) ⟨_,T6 _ rfl,rfl⟩
theorem rG{h h':Heap}{a b:Addr}{xs:Array Value}(x:h.IsTuple a xs)(hs:Heap.ExtBut b h h')(hab:a≠b):h'.IsTuple a xs:=let ⟨o,ho,r⟩:=x; ⟨o,hs a o hab ho,r⟩
theorem zG(hh:A.handled=none)(it t:Addr)(hne:t≠it)(items:Array Value):Draws prog w A it [it,t] items.size (λi v=>items[i]? = some v) (λi h=>h.IsTupleIter it t i/\h.IsTuple t items) where
 live:=λ_ _ st=>let ⟨o,ho,_⟩:=st.1; ⟨o,ho⟩
 frame:=λ_ _ _ st hk=>⟨st.1.at λo e=>hk it (by simp) o e,let ⟨o,ho,r⟩:=st.2; ⟨o,hk t (by simp) o ho,r⟩⟩
 item:=λi s Q E hi st hQ=>by
  refine kd st.1 st.2 (x:=items[i]) (by simp [hi]) λh' hit' hs'=>?_
  exact hQ _ h' s.toks (by simp [hi]) ⟨hit',rG st.2 hs'.extBut hne⟩ hs'
 done:=λs Q E st hE=>fK hh st.1 st.2 (by simp) hE
abbrev MZ(h:Heap)(t:Addr):Heap:=h.push {cls:=.type "tuple_iterator",data:=.fields #[.ref t,.int 0 0]}
abbrev PL(h:Heap)(t:Addr):Heap:=(MZ h t).push {cls:=.type "enumerate",data:=.fields #[.none,.bool false,.ref h.objs.size,rawInt 0,.none,.none]}
theorem vQ(t:Addr)(items:Array Value)(n:Nat)(dct:Option Addr)(sl:Array (Option Value)) :
  Meets (Builtin.«enumerate.__new__» ⟨[.type "enumerate",.ref t],[]⟩) (λ_ R s=>s.heap.get? t=some {cls:=.type "tuple",dict:=dct,data:=.seq items n,slots:=sl}/\R (.ok (.ret (.ref (MZ s.heap t).objs.size))) {s with heap:=PL s.heap t}) :=
 .of_wp λprog w A R s h=>by
  obtain⟨hp,g,d,tk,os⟩:=s; obtain⟨hl,h⟩:=h
  have hsub:=sub_enumerate
  have hL:Heap.IsTuple (Shared.heap ⟨hp,g,d,tk,os⟩) t items:=⟨_,hl,rfl,n,rfl⟩
  wp_walk using AutoSeq1.wpAny_loadPart' hl
  refine wpAny_stack_any λst=>T1 ?_
  split
  ·rename_i c _ _ _ _ _
   cases(c==Value.type "enumerate")
   ·wp_walk using AutoSeq1.wpAny_loadPart' hl,wpAny_pyIter_tuple hL
    exact⟨_,rfl,h⟩
   ·wp_walk using AutoSeq1.wpAny_loadPart' hl,wpAny_pyIter_tuple hL
    exact⟨_,rfl,h⟩
  ·wp_walk using AutoSeq1.wpAny_loadPart' hl,wpAny_pyIter_tuple hL
   exact⟨_,rfl,h⟩
theorem wZ{t:Addr}{items:Array Value}{Q:Value->Shared->Prop}(hL:s.heap.IsTuple t items)
  (h:∀h',IsEnum h' (s.heap.objs.size+1) s.heap.objs.size 0 .none->h'.IsTupleIter s.heap.objs.size t 0->h'.objs.size=s.heap.objs.size+2->(∀b o,s.heap.get? b=some o->h'.get? b=some o)->Q (.ref (s.heap.objs.size+1)) {s with heap:=h'}) :
  wpAny (model prog w) A (call (.type "enumerate") [.ref t]) Q E s:=by
 obtain⟨⟨c,dct,dt,sl⟩,hl,hc,n,hd⟩:=hL
 replace hc:c=.type "tuple":=hc
 replace hd:dt=.seq items n:=hd
 subst hc hd
 refine callType_new F.called_enumerate (by decide) (F.typeCall_enumerate_1 _) (F.newCall_enumerate_1 _) (λobj=>F.args_object_init_2 obj _) F.entry_enumerate_new (vQ t items n dct sl) ⟨hl,?_⟩
 have hz:(MZ s.heap t).objs.size=s.heap.objs.size+1:=Heap.size_push ..
 show _/\_
 have he:(PL s.heap t).get? (MZ s.heap t).objs.size=some _:=T6 _ rfl
 rw [hz]at he
 rw [hz]
 exact⟨⟨_,he,rfl⟩,h _ he ⟨_,T4 _ (T6 _ rfl),rfl,rfl⟩ (by rw [Heap.size_push,hz]) λb o x=>T4 _ (T4 _ x)⟩
end
def K2(K:UJ)(a:Addr):It :=
 ⟨λi H=>∃xs x,aH K H a xs/\xs[i]? = some x,
   λi H v H'=>∃T x,v=.ref T/\H T=none/\H'=upd H T (.tup [.int (i:Nat),x])/\∀xs,aH K H a xs->xs[i]? = some x,
   λi H=>∃xs,aH K H a xs/\xs.length<=i⟩
theorem vZ{P:Program}{w:World}{K:UJ}{es:List Expr}{x1:Nat}{pos:Pos}(a e it:Addr)(hne:e≠it) :
  Turn P w K (.Tuple es x1 pos) (K2 K a) [e,it] e (λi h=>(∃old,IsEnum h e it (i:Nat) old)/\h.IsTupleIter it a i) where
 mem:=by simp
 obj:=λi h st c hc=>by
  obtain⟨⟨old,h1⟩,⟨o4,e4,c4,d4⟩⟩:=st
  simp only [Uq,List.not_mem_nil,or_false]at hc
  rcases hc with rfl | rfl
  ·exact⟨_,h1,λv z=>by cases(show Data.fields _=Data.cell v from z)⟩
  ·exact⟨o4,e4,λv z=>by rw [d4]at z; cases z⟩
 keep:=λi h h' st k=>by
  obtain⟨⟨old,h1⟩,h4⟩:=st
  exact⟨⟨old,k e (by simp) _ h1⟩,h4.at λo q=>k it (by simp) o q⟩
 item:=by
  intro X hP hw hK hc i pins s σ H E I hf st hg
  subst hP hw hK
  obtain⟨xs,x,hq,hx⟩:=hg
  obtain⟨its,rv,p,hz⟩:=I.tuple hq
  obtain⟨u,hu,ru⟩:=rv.get hx
  obtain⟨⟨old,h1⟩,h4⟩:=st
  have p':s.heap.IsTuple a its.toArray:=p
  have Rv:e≠a:=λz=>by obtain⟨o,eo,co,_⟩:=p'; rw [←z,h1]at eo; cases eo; exact absurd (Value.type.inj co) (by decide)
  have R0:a≠it:=λz=>by obtain⟨o,eo,co,_⟩:=p'; obtain⟨o4,e4,c4,_⟩:=h4; rw [z,e4]at eo; cases eo; exact absurd (Value.type.inj (c4.symm.trans co)) (by decide)
  have hu':its.toArray[i]? = some u:=by simpa using hu
  have hlt:i<its.toArray.size:=by
   rcases Nat.lt_or_ge i its.toArray.size with z | z
   ·exact z
   ·rw [Array.getElem?_eq_none z]at hu'; cases hu'
  refine wpAny_pyNext_enum_itemD (zG (show X.A.in1.handled=none from I.ok.hd hc) it a R0 its.toArray) h1 ⟨h4,p'⟩ hlt hne (by simp [hne,Rv]) λy h' tk hy g1 g2 g3 gs g6=>⟨_,rfl,?_⟩
  have RW:y=u:=by rw [hu']at hy; exact(Uv hy).symm
  subst RW
  refine wpAny_letOwnedTupleGo_enum (show IsEnumOut h' e it ((i:Int)+1) y s.heap.objs.size from g1) λh'' f1 fs=>?_
  have elt:e<s.heap.objs.size:=T5 h1
  have O_:s.heap.objs.size≠e:=Nat.ne_of_gt elt
  have kk:∀c o,c∉[e,it]->s.heap.get? c=some o->h''.get? c=some o:=λc o hc q=>by
   simp only [Uq,List.not_mem_nil,or_false,not_or]at hc
   exact fs.extBut _ _ hc.1 (g6 c o hc.1 hc.2 q)
  have pT:=fs.extBut _ _ O_ g3
  have I1:Inv X pins σ (upd H s.heap.objs.size (.tup [.int (i:Nat),x])) {s with heap:=h'',toks:=tk+1}:=I.qJ hf kk (T7 _) ⟨by show 2<=sizeLine; decide,[.int (i:Nat) tk,y],.cons ⟨tk,rfl⟩ (.cons ru .nil),⟨_,pT,rfl,⟨_,rfl⟩,rfl⟩⟩
  refine⟨.ref s.heap.objs.size,_,I1,rfl,⟨_,x,rfl,I.hok.fresh (T7 _),rfl,λys hy'=>by rw [I.ik hy' hq]; exact hx⟩,⟨⟨_,f1⟩,g2.1.extBut fs.extBut hne.symm⟩,λc hc=>?_⟩
  have hn:=(hf c hc).1
  have:c≠s.heap.objs.size:=by
   simp only [Uq,List.not_mem_nil,or_false]at hc
   obtain⟨o4,e4,_⟩:=h4
   rcases hc with rfl | rfl
   ·exact Ut elt
   ·exact Ut (T5 e4)
  rw [aI this]; exact hn
 done:=by
  intro X hP hw hK hc i pins s σ H E I hf st hg
  subst hP hw hK
  obtain⟨xs,hq,hx⟩:=hg
  obtain⟨its,rv,p,hz⟩:=I.tuple hq
  obtain⟨⟨old,h1⟩,h4⟩:=st
  have hl:=rv.length
  have hn:its.toArray[i]? = none:=by simp; omega
  unfold pyNext
  have hT:s.TypeIs (.ref e) "enumerate":=⟨_,h1,rfl⟩
  refine TZ (wpAny_attempt (wpAny_callSpecial?_slot (name:=Str.ofString "__next__") hT F.slot_enumerate_next (wpAny_call_entry F.slot_enumerate_next hT F.entry_enumerate_next ?_ (F.args_enumerate_next_1 _))))
  show wpAny _ _ (field (.ref e) 2 >>= _) _ _ _
  refine TZ (wpAny_field h1 rfl (x:=.ref it) rfl ?_)
  refine TZ (fK (show X.A.in1.handled=none from I.ok.hd hc) h4 (show s.heap.IsTuple a its.toArray from p) hn λh' x he' hx'=>?_)
  obtain⟨o,ho,hco⟩:=hx'
  refine TZ (wpAny_isInstance (T:="StopIteration") (b:=true) ⟨o,ho,hco⟩ isSubtype_stop ?_)
  refine T1 ⟨rfl,I.nz (t':=s.toks) hf λc o hc q=>?_⟩
  simp only [Uq,List.not_mem_nil,or_false,not_or]at hc
  exact he' c o hc.2 q
 self:=λ_ _ _ _ _ st h=>let ⟨⟨_,h1⟩,_⟩:=st; wpAny_pyIter_enum h1 h
section
variable{X:Cx}
def Ls(K:UJ)(ta:TA):TI:=λσ H R=>ta σ H λvs H1=>∃a,vs=[.ref a]/\(∃xs,aH K H1 a xs)/\R (K2 K a) H1
theorem pH{es:List Expr}{x1:Nat}{tpos:Pos}{a:Expr}{ta:TA}{p pos:Pos}(hg:Gl X "enumerate")(hm:X.mg "enumerate"=none)(ha:PA X [a] ta)(hs:starEach [a] X.env=[(false,eval a X.env)]:=by rfl) :
  PI X (.Tuple es x1 tpos) (.Call (.Name "enumerate" p) [a] [] pos) (Ls X.K ta):=by
 intro pins s σ H R I h
 refine Call_ (iT I hg hm (by decide +kernel:bootBuiltins "enumerate"=some (.type "enumerate")) (PyProof.Rows.callWith_type1 (b_ (ha pos pins s σ H _ I h) λus s1 ⟨vs,H1,I1,r1,q1⟩=>?_) hs rfl))
 obtain⟨l1,e,⟨xs,hq1⟩,q⟩:=q1
 subst e
 cases r1 with
 | cons r rr =>
  cases rr
  cases r
  obtain⟨its,rv,p1,hz⟩:=I1.tuple hq1
  refine wZ p1 λh' he hi hsz hk=>?_
  refine wpAny_pyIter_enum (show IsEnum h' _ _ _ _ from he) ?_
  refine⟨_,[s1.heap.objs.size+1,s1.heap.objs.size],_,_,H1,rfl,I1.kept (t':=s1.toks) hk,vZ _ _ _ (Nat.succ_ne_self _),⟨⟨_,he⟩,hi⟩,λc hc=>?_,q⟩
  simp only [Uq,List.not_mem_nil,or_false]at hc
  have hle:s1.heap.objs.size<=c:=by rcases hc with rfl | rfl <;> first | exact T7 _ | exact Nat.le_add_right _ _
  exact I1.lZ hle (I1.hok.fresh hle)
end
theorem lL{K:UJ}{a:Addr}{xs:List V}{g:TG}{tb:TS}{D:Ends}{σ:St}{H:Hp}(Pv:Nat->St->Hp->Prop)(h0:Pv 0 σ H)(hl:∀i σ H,i<=xs.length->Pv i σ H->aH K H a xs)
  (hs:∀i x σ H T,xs[i]? = some x->Pv i σ H->H T=none->g (.ref T) σ (upd H T (.tup [.int (i:Nat),x])) λde H2=>tb {D with nx:=Pv (i+1),ct:=Pv (i+1),bk:=D.nx} de H2) (hd:∀σ H,Pv xs.length σ H->D.nx σ H) :
  ∃W:Nat->Nat->St->Hp->Prop,(∃m,W 0 m σ H)/\∀i m σ H,W i m σ H->
   ((K2 K a).stop i H/\D.nx σ H)\/((K2 K a).go i H/\∃N:St->Hp->Prop,(∀σ' H',N σ' H'->∃m',m'<m/\W (i+1) m' σ' H')/\∀x H',(K2 K a).E6 i H x H'->g x σ H' λde H2=>tb {D with nx:=N,ct:=N,bk:=D.nx} de H2):=by
 refine⟨λi m σ H=>m=xs.length-i/\i<=xs.length/\Pv i σ H,⟨xs.length,by simp,Uu _,h0⟩,?_⟩
 rintro i m σ H ⟨rfl,hi,p⟩
 have q:=hl i σ H hi p
 by_cases hlt:i<xs.length
 ·refine .inr ⟨⟨xs,xs[i],q,by simp [hlt]⟩,Pv (i+1),λσ' H' p'=>⟨xs.length-(i+1),by omega,rfl,hlt,p'⟩,λv H' y=>?_⟩
  obtain⟨T,x,rfl,hT,rfl,hx⟩:=y
  exact hs i x σ H T (hx xs q) p hT
 ·have e:i=xs.length:=by omega
  subst e
  exact .inl ⟨⟨xs,q,T7 _⟩,hd σ H p⟩
end L2
namespace My
open PySem L2
section
variable{X:Cx}{N':List Str}{sc:Scope}{cl:List (Str×Addr)}{C:Addr}{s:Shared}{H:Hp}{fp:List Addr}{E:XK}
theorem Ig{i:Nat}{x:Str}{pos:Pos}(hn:N'.Nodup:=by decide +kernel)(hN:N'[i]? = some x:=by rfl)(hv:sc.names.lookup x=some .local:=by rfl):PG ((aK X N' sc cl C s H fp).xs E) (.Name x pos) (bz i):=PG.yz (el (X:=X) (cl:=cl) (C:=C) (s:=s) (H:=H) (fp:=fp) (N':=N') hn hN hv)
theorem OK(i:Nat){x:Str}{pos:Pos}(hN:N'[i]? = some x:=by rfl)(hv:sc.names.lookup x=some .local:=by rfl)(hd:(x==("__debug__" : Str))=false:=by decide)(hcd:(x==("__classdict__" : Str))=false:=by decide):PE ((aK X N' sc cl C s H fp).xs E) (.Name x pos) (bx i):=PE.yz (iX (X:=X) (cl:=cl) (C:=C) (s:=s) (H:=H) (fp:=fp) (N':=N') i hN hv hd hcd)
end
theorem kQ{t1 t2:TS}{D:Ends}{σ:St}{H:Hp}(Pm:St->Hp->Prop)(h:∀T:St->Hp->Prop,(∀σ' H',Pm σ' H'->T σ' H')->t1 {D with nx:=T} σ H)(t:∀σ' H',Pm σ' H'->t2 D σ' H'):Fy t1 t2 D σ H:=h _ t
theorem mX{α:Type}{l:List α}{i:Nat}{x:α}(h:l[i]? = some x):l.drop i=x::l.drop (i+1):=by
 obtain⟨hi,rfl⟩:=Um.mp h
 exact List.drop_eq_getElem_cons hi
def eL(fl:Addr)(H H':Hp):Prop:=∀b o,b≠fl->H b=some o->H' b=some o
theorem eL.of{fl:Addr}{H H':Hp}(s:aM H H'):eL fl H H':=λ_ _ _ e=>s _ _ e
theorem eL.trans{fl:Addr}{H H1 H2:Hp}(a:eL fl H H1)(b:eL fl H1 H2):eL fl H H2:=λ_ _ n e=>b _ _ n (a _ _ n e)
theorem eL.put{fl:Addr}{H H1:Hp}{o:HO}(a:eL fl H H1):eL fl H (upd H1 fl o):=λb u n e=>by rw [aI n]; exact a _ _ n e
theorem eL.new{fl L:Addr}{H H1:Hp}{o:HO}(hL:H L=none)(a:eL fl H H1):eL fl H (upd H1 L o):=λb u n e=>by rw [aI (aU e hL)]; exact a _ _ n e
theorem eL.fV{fl:Addr}{H H':Hp}{xs:List V}(g:eL fl H H')(h:H fl=some (.lst xs)):aE H H':=λa ys e=>g _ _ (λz=>by rw [z,h]at e; cases e) e
theorem gn.keep{H H':Hp}{a:Addr}{k:Kn}(s:aE H H')(h:gn H a k):gn H' a k:=by
 obtain⟨u,p,h1,h2,h3⟩:=h
 exact⟨u,p,s _ _ h1,s _ _ h2,s _ _ h3⟩
def ud:Nat->List Wk->Prop
 | 0,ws=>ws.length<=9/\∀x∈ws,z_ x
 | n+1,ws=>ws.length<=9/\∀x∈ws,z_ x/\∀p∈dE x,ud n p
theorem ud.len{n:Nat}{ws:List Wk}(h:ud n ws):ws.length<=9:=by cases n <;> exact h.1
theorem ud.ok{n:Nat}{ws:List Wk}(h:ud n ws){x:Wk}(hx:x∈ws):z_ x:=by
 cases n with
 | zero=>exact h.2 x hx
 | succ n=>exact(h.2 x hx).1
def cW:Nat->Nat
 | 0=>1
 | n+1=>1+2*(9*cW n+1)
def bnd(n:Nat):Nat:=9*cW n+1
def Rj(C fl:Addr)(H:Hp)(a:List Int)(s:Str)(E:XK):Prop:=∀(e dx q:Addr) (H':Hp),eL fl H H'->H' e=some (xO e C (some dx))->H' dx=some (xD dx (Ae (.ref q) (.str s)))->H' q=some (.tup (a.map V.int))->E (.ref C) (some e) H'
def Gu(H:Hp)(t:Addr)(h:Hd):Prop:=∃q hh b,H t=some (.tup [q,.ref hh,b])/\dQ H hh h
structure O2(n:Nat)(H:Hp)(p b pl fl:Addr)(ws:List Wk)(k:Kn)(pi:List Int)(xs:List V):Prop where
 pp:jf n H p ws
 kn:gn H b k
 pl:H pl=some (.tup (pi.map V.int))
 fl:H fl=some (.lst xs)
 ok:ud n ws
 ko:mQ k
 pz:pi.length+2*n<=100
 xz:xs.length+bnd n<=100000
def yK(C:Addr):Nat->Sp
 | 0=>λ_ _ _ _=>False
 | n+1=>λvs H Q E=>∃(p b pl fl:Addr) (ws:List Wk) (k:Kn) (pi:List Int) (xs:List V),vs=[.ref p,.ref b,.ref pl,.ref fl]/\O2 n H p b pl fl ws k pi xs/\
  (∀a s,putL (cn n) pi 0 k.hd k.fl ws=.no a s->Rj C fl H a s E)/\
  (∀h f,putL (cn n) pi 0 k.hd k.fl ws=.ok h f->∀(u:Addr) (k':Kn) (H':Hp) (xs':List V) (t:Addr),eL fl H H'->gn H' u k'->mQ k'->k'.hd=h->k'.fl=f->H' fl=some (.lst (xs'++[.ref t]))->xs'.length+1<=xs.length+bnd n->Gu H' t h->Q (.ref u) H')
theorem kJ{x:Wk}(h:bX x=false):dE x=[]/\D9 x=1:=by cases x <;> first | exact⟨rfl,rfl⟩ | cases h
theorem iD{n:Nat}{x:Wk}{h:Hd}{f:Fl}{pl:List Int}(hx:bX x=false):cn n h f pl x=ia x h f pl [(h,f)]:=by
 cases x with
 | one x=>cases n <;> rfl
 | both p q=>cases hx
 | meet c d p q=>cases hx
theorem oi{n:Nat}{x:Wk}{h:Hd}{f:Fl}{pl:List Int}(hx:bX x=true):cn (n+1) h f pl x=Ci (cn n) x h f pl (dE x) 0 []:=by
 cases x with
 | one x=>cases hx
 | both p q=>rfl
 | meet c d p q=>rfl
theorem l4{x:Wk}(hx:bX x=true):(dE x).length=2/\D9 x=2:=by cases x <;> first | exact⟨rfl,rfl⟩ | cases hx
theorem IQ{x:Wk}{H:Hp}{a:Addr}(h:dj 0 H a x):bX x=false:=by cases x <;> first | rfl | exact False.elim h
def mI(ks:List Kn):List (Hd×Fl):=ks.map λk=>(k.hd,k.fl)
theorem FE(ks:List Kn):(mI ks).map (λe=>e.1)=jO ks:=by rw [mI,List.map_map]; rfl
theorem Ex(ks:List Kn):(mI ks).map (λe=>e.2)=ks.map Kn.fl:=by rw [mI,List.map_map]; rfl
theorem r6{x:Wk}{f:Fl}{hs:List Hd}(h:i5 x f hs=none):c9 x hs=true/\(bE x hs).length<=6:=by
 unfold i5 at h
 split at h
 ·split at h
  ·split at h
   ·exact⟨by assumption,by assumption⟩
   ·cases h
  ·cases h
 ·cases h
theorem Eu{x:Wk}{k:Kn}{ks:List Kn}(hk:bX x=false->ks=[k])(h:c9 x (jO ks)=true):keepIn x k.hd:=by
 rintro c t rfl
 rw [hk rfl]at h
 exact cF h (by simp [c7])
theorem CL(n:Nat):1<=cW n:=by
 cases n with
 | zero=>exact T7 _
 | succ n=>show 1<=1+_; omega
theorem m4(n:Nat):cW (n+1)=1+2*bnd n:=rfl
theorem vm{H H':Hp}{L u:Addr}{as:List Addr}{ks:List Kn}{k:Kn}(h:jg H L as ks)(g:∀a k,gn H a k->gn H' a k)(hk:gn H' u k)(hL:H' L=some (.lst ((as++[u]).map V.ref))):jg H' L (as++[u]) (ks++[k]):=by
 refine⟨hL,by rw [Ub,Ub,h.len]; rfl,λi a k' e1 e2=>?_⟩
 by_cases hi:i<as.length
 ·rw [Ux hi]at e1
  rw [Ux (by rw [←h.len]; exact hi)]at e2
  exact g _ _ (h.at_ i a k' e1 e2)
 ·have hi':i=as.length:=by
   have:=(Um.mp e1).1
   rw [Ub]at this
   simp at this
   omega
  rw [hi',Uw (T7 _),Nat.sub_self]at e1
  rw [hi',h.len,Uw (T7 _),Nat.sub_self]at e2
  cases e1
  cases e2
  exact hk
theorem aE.refl{H:Hp}:aE H H:=λ_ _ e=>e
theorem aE.trans{H H1 H2:Hp}(a:aE H H1)(b:aE H1 H2):aE H H2:=λ_ _ e=>b _ _ (a _ _ e)
theorem aE.vd{H H':Hp}{L:Addr}{xs:List V}{o:HO}(k:aE H H')(h:H' L=some (.lst xs)):aE H (upd H' L o):=λa ys e=>by
 have:=k _ _ e
 rw [aI (λz=>by rw [z,h]at this; cases this)]
 exact this
theorem DJ(pi:List Int)(i:Int):pi.map V.int++[V.int i]=(pi++[i]).map V.int:=by rw [Uc]; rfl
abbrev fA:Stmt:=top 47
theorem bR:ay ["pipe","begun","prefix","found","known","at","worker","place","told","side","branch","why"] ["pipe","begun","prefix","found"] (ar fA):=fs
variable{P:Program}{w:World}{K:UJ}{mg:Str->Option Value}{base:Heap}
theorem wg{C fI:Addr}{d2:FuncData}{n L:Nat}(B:jJ mg)(mE:mg "enumerate"=none)(Cf:IC K mg C fI)(F:FA K mg "go_through" fA)(GI:eZ P w K mg base bf 1 fI d2 ["self","place","why"] (yu K C))(bI:Binds K d2 ["self","place","why"] [])
  (gD:bc bf P w K mg base 1 "branches_of" ["worker"] (BQ n))
  (iy:bc (zu P w) P w K mg base (L+5) "go_through" ["pipe","begun","prefix","found"] (yK C n))
  (zl:bc bf P w K mg base 5 "why_not" ["worker","known","heads"] (GV n))
  (oB:bc bf P w K mg base 4 "known_behind" ["worker","known","told"] (vo n)) :
  bc (zu P w) P w K mg base (L+6) "go_through" ["pipe","begun","prefix","found"] (yK C (n+1)):=by
 refine F.Kh bR λf cdv A outer s H vs Q E hr h=>?_
 have hu:=iM hr
 have hu1:=jY hr
 obtain⟨p,b,pl,fl,ws,k,pi,xs,rfl,hG,qx,q⟩:=h
 refine⟨_,(aq (aL (i:=4) bR.nd rfl (Or.inl rfl) (pv 1))
   (aq (gF (Bi tK) rfl (pH rfl mE (ae (pv 0) ah)) (cB rfl (aA (bT (i:=5) bR.nd rfl (Or.inl rfl)) (aA (bT (i:=6) bR.nd rfl (Or.inl rfl)) bS)))
    (aq (aL (i:=7) bR.nd rfl (Or.inl rfl) (aF cb (pv 2) (aJ (ae (pv 5) ah))))
     (aq (fG (ll PySem.F.plainAttrs_list PySem.F.slot_list_append PySem.F.type_list_append cX (pv 3) (ae (aJ (ae (pv 7) (ae (az K (pv 4) ai) (ae (az K (pv 4) ai) ah)))) ah)))
     (aq (aL (i:=8) bR.nd rfl (Or.inl rfl) (aQ ah))
     (aq (gF (Bi tK) rfl (pH rfl mE (ae (ax gD hr (ae (pv 6) ah)) ah)) (cB rfl (aA (bT (i:=9) bR.nd rfl (Or.inl rfl)) (aA (bT (i:=10) bR.nd rfl (Or.inl rfl)) bS)))
      (bK (fG (ll PySem.F.plainAttrs_list PySem.F.slot_list_append PySem.F.type_list_append cX (pv 8) (ae (vG iy hr rfl y4 (ae (pv 10) (ae (pv 4) (ae (aF cb (pv 7) (aJ (ae (pv 9) ah))) (ae (pv 3) ah))))) ah)))))
     (aq (dv (aW aP (aZ bF rfl B.len PySem.boot_len (ae (pv 8) ah)) ai)
      (bK (fG (ll PySem.F.plainAttrs_list PySem.F.slot_list_append PySem.F.type_list_append cX (pv 8) (ae (pv 4) ah))))
      b9)
     (aq (aL (i:=11) bR.nd rfl (Or.inl rfl) (ax zl hr (ae (pv 6) (ae (pv 4) (ae (AF (N':=["head","passed","loose"]) (src:=[none,none,none]) rfl tK (ba.jE (by kernel_rfl)) (fh (pv 8)) (g:=(iu K 3 (bP (bz 0) (bP (bz 1) (bP (bz 2) iJ))))) (λcl C s H fp=>(cB rfl (aA (Ig (i:=0)) (aA (Ig (i:=1)) (aA (Ig (i:=2)) bS))))) (λcl C s H fp=>i4.yz aX) (te:=(bx 0)) (λcl C s H fp=>(OK 0))) ah)))))
     (aq (dv (aW tj (pv 11) iz)
      (bK (zp rfl Cf.Qo (E1 Cf.Qo Cf.kp Cf.fn (GI.mono (by omega)) hr rfl Cf.mf bI uv (ae (pv 7) (ae (pv 11) ah)))))
      b9)
     (bK (aL (i:=4) bR.nd rfl (Or.inl rfl) (ax oB hr (ae (pv 6) (ae (pv 4) (ae (pv 8) ah))))))))))))))
   (aq (fG (ll PySem.F.plainAttrs_list PySem.F.slot_list_append PySem.F.type_list_append cX (pv 3) (ae (aJ (ae (aF cb (pv 2) (aJ (ae (aZ bF rfl B.len PySem.boot_len (ae (pv 0) ah)) ah))) (ae (az K (pv 4) ai) (ae (az K (pv 4) ai) ah)))) ah)))
   (av (pv 4))))),?_⟩
 obtain⟨⟨bs,hI⟩,hk,hpl,hfl,hok,hko,hpz,TV⟩:=hG
 have hlb:(bs.map V.ref).length=ws.length:=by rw [Ua,hI.len]
 have hcw:=CL n
 have hw9:=hok.len
 have hbn:bnd n=9*cW n+1:=rfl
 refine⟨_,rfl,ak ?_⟩
 dsimp only
 refine⟨_,rfl,p,rfl,⟨_,aH.of hI.tup⟩,?_⟩
 refine lL (xs:=bs.map V.ref) (λi σ H'=>∃(kb:Addr) (ki:Kn) (ys:List V),(∃o5 o6 o7 o8 o9 pZ p7,σ=[some (.ref p),some (.ref b),some (.ref pl),some (.ref fl),some (.ref kb),o5,o6,o7,o8,o9,pZ,p7])/\gn H' kb ki/\mQ ki/\eL fl H H'/\H' fl=some (.lst ys)/\ys.length<=xs.length+i*cW n/\putL (cn n) pi 0 k.hd k.fl ws=putL (cn n) pi i ki.hd ki.fl (ws.drop i))
  ⟨b,k,xs,⟨_,_,_,_,_,_,_,rfl⟩,hk,hko,eL.of (aM.refl _),hfl,Nat.le_add_right _ _,rfl⟩ ?_ ?_ ?_
 ·rintro i σ H' _ ⟨kb,ki,ys,_,_,_,g,_⟩
  exact aH.of (g.fV hfl _ _ hI.tup)
 ·rintro i v σ H' T hx ⟨kb,ki,ys,⟨o5,o6,o7,o8,o9,pZ,p7,rfl⟩,hki,hoi,g,hfl',hyz,hrun⟩ hT
  obtain⟨a,x,rfl,ex,ha⟩:=hI.get hx
  have M5:i<9:=by have:=(Um.mp ex).1; omega
  have hic:i*cW n+cW n<=9*cW n:=by have:=Nat.mul_le_mul_right (cW n) M5; rw [Nat.succ_mul]at this; exact this
  have KQ:=hok.ok (Ui ex)
  rw [mX ex]at hrun
  have hrun:putL (cn n) pi 0 k.hd k.fl ws=cZ (cn n ki.hd ki.fl (pi++[(i:Int)]) x) λh' f'=>putL (cn n) pi (i+1) h' f' (ws.drop (i+1)):=hrun
  have sT:=aj hT (.tup [.int (i:Nat),.ref a])
  refine⟨T,_,rfl,aH.of ag,rfl,_,_,rfl,ak ⟨_,_,rfl,ak ⟨rfl,?_⟩⟩⟩
  dsimp only
  refine⟨_,rfl,_,rfl,dP,λu1 jK=>?_⟩
  have sU:=aj jK (.tup [.int (i:Nat)])
  refine⟨pl,u1,_,_,rfl,rfl,sU _ _ (sT _ _ (g.fV hfl _ _ hpl)),ag,by rw [Ua]; exact T8 (show _+1<=1000 by omega) (by decide),λu2 H2 Jt hu2=>ak ?_⟩
  rw [DJ]at hu2
  have s2:=sT.trans (sU.trans Jt)
  dsimp only
  obtain⟨hh,ph,hk1,hk2,hk3⟩:=hki
  have hki:gn H' kb ki:=⟨hh,ph,hk1,hk2,hk3⟩
  refine⟨_,rfl,.inl ⟨rfl,_,a_.of (s2 _ _ hfl')⟩,_,rfl,_,rfl,kb,_,0,_,rfl,rfl,aH.of (s2 _ _ hk1),au (j:=0) rfl,_,rfl,kb,_,2,_,rfl,rfl,aH.of (s2 _ _ hk1),rfl,gq,λu3 vV=>?_⟩
  have s3:=aj vV (.tup [.ref u2,.ref hh,.bl ki.lo])
  refine⟨fl,_,_,rfl,rfl,s3 _ _ (s2 _ _ hfl'),Ud (show ys.length<=100000 by omega) (by decide),?_⟩
  have g4:eL fl H' (upd (upd H2 u3 (.tup [.ref u2,.ref hh,.bl ki.lo])) fl (.lst (ys++[.ref u3]))):=(eL.of (s2.trans s3)).put
  have As:upd (upd H2 u3 (.tup [.ref u2,.ref hh,.bl ki.lo])) fl (.lst (ys++[.ref u3])) fl=some (.lst (ys++[.ref u3])):=ag
  have xu:upd (upd H2 u3 (.tup [.ref u2,.ref hh,.bl ki.lo])) fl (.lst (ys++[.ref u3])) u2=some (.tup ((pi++[(i:Int)]).map V.int)):=by
   rw [aI (λz=>by have:=s2 _ _ hfl'; rw [←z,hu2]at this; cases this)]
   exact s3 _ _ hu2
  revert g4 As xu
  generalize upd (upd H2 u3 (.tup [.ref u2,.ref hh,.bl ki.lo])) fl (.lst (ys++[.ref u3]))=H4
  intro g4 As xu
  have B6:aE H' H4:=g4.fV hfl'
  have Js:aE H H4:=(g.fV hfl).trans B6
  refine⟨Uu _,λL hL=>ak ?_⟩
  have Kv:L≠fl:=λz=>by rw [z,As]at hL; cases hL
  dsimp only
  refine kQ (λσ H6=>∃(as:List Addr) (ks:List Kn) (zs:List V),(∃o9 pZ p7,σ=[some (.ref p),some (.ref b),some (.ref pl),some (.ref fl),some (.ref kb),some (.int (i:Nat)),some (.ref a),some (.ref u2),some (.ref L),o9,pZ,p7])/\jg H6 L as ks/\ks.length=(dE x).length/\(∀k∈ks,mQ k)/\aE H4 H6/\eL fl H4 H6/\H6 fl=some (.lst zs)/\zs.length<=ys.length+cW n/\(bX x=true->putL (cn n) pi 0 k.hd k.fl ws=cZ (ia x ki.hd ki.fl (pi++[(i:Int)]) (mI ks)) λh' f'=>putL (cn n) pi (i+1) h' f' (ws.drop (i+1)))) (λT2 hT2=>?_) ?_
  ·have sL:=aj hL (.lst [])
   refine⟨_,rfl,a,x,rfl,ha.keep (Js.trans (aE.of sL)),λu5 cs H5 s5 hJ=>⟨u5,rfl,⟨_,aH.of hJ.tup⟩,?_⟩⟩
   have Sy:(cs.map V.ref).length=(dE x).length:=by rw [Ua,hJ.len]
   refine lL (xs:=cs.map V.ref) (λj σ H6=>∃(as:List Addr) (ks:List Kn) (zs:List V),(∃o9 pZ p7,σ=[some (.ref p),some (.ref b),some (.ref pl),some (.ref fl),some (.ref kb),some (.int (i:Nat)),some (.ref a),some (.ref u2),some (.ref L),o9,pZ,p7])/\jg H6 L as ks/\ks.length=j/\(∀k∈ks,mQ k)/\aE H5 H6/\eL fl H4 H6/\H6 fl=some (.lst zs)/\(∀m,n=m+1->zs.length<=ys.length+1+j*bnd m)/\(j=0->zs.length<=ys.length+1)/\(∀m,n=m+1->bX x=true->putL (cn n) pi 0 k.hd k.fl ws=cZ (Ci (cn m) x ki.hd ki.fl (pi++[(i:Int)]) ((dE x).drop j) j (mI ks)) λh' f'=>putL (cn n) pi (i+1) h' f' (ws.drop (i+1))))
    ⟨[],[],ys++[.ref u3],⟨_,_,_,rfl⟩,⟨s5 _ _ ag,rfl,λi a k e=>by cases e⟩,rfl,λk hk=>(by cases hk),aE.refl,(eL.of sL).trans (eL.of s5),s5 _ _ (sL _ _ As),?_,?_,?_⟩ ?_ ?_ ?_
   ·intro m _; rw [Ub,Nat.zero_mul]; simp
   ·intro _; rw [Ub]; simp
   ·rintro m rfl hb
    rw [hrun,oi hb]
    rfl
   ·rintro j σ H6 _ ⟨as,ks,zs,_,_,_,_,kT,_⟩
    exact aH.of (kT _ _ hJ.tup)
   ·rintro j v σ H6 RM hv ⟨as,ks,zs,⟨o9,pZ,p7,rfl⟩,A1,hkl,Ie,P_,g6,wI,Kd,_,dU⟩ hT2'
    obtain⟨c',pp,rfl,ep,ds,QT⟩:=hJ.get hv
    have hbr:bX x=true:=by
     cases hq:bX x with
     | true=>rfl
     | false=>rw [(kJ hq).1]at ep; cases ep
    obtain⟨m,rfl⟩ :∃m,n=m+1:=by
     cases n with
     | zero=>rw [IQ ha]at hbr; cases hbr
     | succ m=>exact⟨m,rfl⟩
    have hj2:j<2:=by have:=(Um.mp ep).1; rw [(l4 hbr).1]at this; exact this
    have Kd:=Kd m rfl
    have hcs:=m4 m
    have To:j*bnd m+bnd m<=2*bnd m:=by have:=Nat.mul_le_mul_right (bnd m) hj2; rw [Nat.succ_mul]at this; exact this
    have dU:=dU m rfl hbr
    rw [mX ep]at dU
    have sA:=aj hT2' (.tup [.int (j:Nat),.ref c'])
    refine⟨RM,_,rfl,aH.of ag,rfl,_,_,rfl,ak ⟨_,_,rfl,ak ⟨rfl,?_⟩⟩⟩
    dsimp only
    refine⟨_,rfl,.inl ⟨rfl,_,a_.of (sA _ _ A1.lst)⟩,_,rfl,_,rfl,_,rfl,_,rfl,dP,λu7 OM=>?_⟩
    have sB:=aj OM (.tup [.int (j:Nat)])
    have qQ:aE H4 H6:=g6.fV As
    refine⟨u2,u7,_,_,rfl,rfl,sB _ _ (sA _ _ (qQ _ _ xu)),ag,by rw [Ua,Ub]; exact T8 (show _+1+1<=1000 by omega) (by decide),λu8 H8 s8 iM=>?_⟩
    rw [DJ]at iM
    have qt:=sA.trans (sB.trans s8)
    have Od:=P_.trans (aE.of qt)
    have g8:eL fl H H8:=(g.trans g4).trans (g6.trans (eL.of qt))
    have Ob:gn H8 kb ki:=(hki.keep B6).keep (qQ.trans (aE.of qt))
    refine⟨_,rfl,c',kb,u8,fl,pp,ki,(pi++[(i:Int)])++[(j:Int)],zs,rfl,⟨⟨ds,QT.keep Od λ_ _ z=>z.keep Od⟩,Ob,iM,qt _ _ wI,(hok.2 x (Ui ex)).2 pp (Ui ep),hoi,by rw [Ub,Ub]; show _+1+1+_<=_; omega,by omega⟩,?_,?_⟩
    ·intro a' s' he
     have ht:putL (cn (m+1)) pi 0 k.hd k.fl ws=.no a' s':=by
      rw [dU]
      show cZ (cZ (putL (cn m) ((pi++[(i:Int)])++[(j:Int)]) 0 ki.hd ki.fl pp) _) _=_
      rw [he]
      rfl
     exact λe dx q' H9 g9=>qx a' s' ht e dx q' H9 (g8.trans g9)
    ·intro h' f' he u k' H9 xs' t' g9 hk' Mk eh ef Ow Su _
     have hL9:H9 L=some (.lst (as.map V.ref)):=g9 _ _ Kv (qt _ _ A1.lst)
     have M_:aE H8 H9:=g9.fV (qt _ _ wI)
     refine⟨L,_,_,rfl,rfl,hL9,?_,as++[u],ks++[k'],xs'++[.ref t'],⟨_,_,_,rfl⟩,?_,?_,?_,(Od.trans M_).vd hL9,?_,?_,?_,?_,?_⟩
     ·rw [Ua,A1.len,hkl]; exact Nat.lt_trans hj2 (by decide)
     ·refine vm A1 (λa k z=>z.keep (((aE.of qt).trans M_).vd hL9)) (hk'.keep (aE.refl.vd hL9)) ?_
      rw [ag,Uc]; rfl
     ·rw [Ub,hkl]; rfl
     ·intro k2 hk2
      rcases Us.mp hk2 with z | z
      ·exact Ie k2 z
      ·rw [Uo.mp z]; exact Mk
     ·exact eL.new hL ((g6.trans (eL.of qt)).trans g9)
     ·rw [aI (Ne.symm Kv)]; exact Ow
     ·rintro m' e
      cases e
      rw [Ub,Nat.succ_mul]
      show xs'.length+1<=_
      omega
     ·intro z; cases z
     ·rintro m' e _
      cases e
      rw [dU]
      show cZ (cZ (putL (cn m) ((pi++[(i:Int)])++[(j:Int)]) 0 ki.hd ki.fl pp) _) _=_
      rw [he]
      show cZ (Ci (cn m) x ki.hd ki.fl (pi++[(i:Int)]) _ (j+1) (mI ks++[(h',f')])) _=_
      rw [show mI (ks++[k'])=mI ks++[(h',f')] by rw [mI,Uc,←eh,←ef]; rfl]
   ·rintro σ H6 ⟨as,ks,zs,⟨o9,pZ,p7,rfl⟩,A1,hkl,Ie,P_,g6,wI,Kd,hz0,dU⟩
    rw [Sy]at hkl Kd hz0 dU
    refine hT2 _ _ ⟨as,ks,zs,⟨_,_,_,rfl⟩,A1,hkl,Ie,g6.fV As,g6,wI,?_,?_⟩
    ·cases hq:bX x with
     | false=>have:=hz0 (by rw [(kJ hq).1]; rfl); omega
     | true =>
      obtain⟨m,rfl⟩ :∃m,n=m+1:=by
       cases n with
       | zero=>rw [IQ ha]at hq; cases hq
       | succ m=>exact⟨m,rfl⟩
      have:=Kd m rfl
      rw [(l4 hq).1]at this
      rw [m4]
      omega
    ·intro hq
     obtain⟨m,rfl⟩ :∃m,n=m+1:=by
      cases n with
      | zero=>rw [IQ ha]at hq; cases hq
      | succ m=>exact⟨m,rfl⟩
     have:=dU m rfl hq
     rw [List.drop_length]at this
     exact this
  rintro σ H6 ⟨as0,P0,zs,⟨o9,pZ,p7,rfl⟩,qA,EA,Oj,qQ,g6,wI,Kd,dU⟩
  refine kQ (λσ H7=>∃(as:List Addr) (ks:List Kn),σ=[some (.ref p),some (.ref b),some (.ref pl),some (.ref fl),some (.ref kb),some (.int (i:Nat)),some (.ref a),some (.ref u2),some (.ref L),o9,pZ,p7]/\jg H7 L as ks/\ks.length=D9 x/\(∀k∈ks,mQ k)/\(bX x=false->ks=[ki])/\aE H4 H7/\eL fl H4 H7/\H7 fl=some (.lst zs)/\putL (cn n) pi 0 k.hd k.fl ws=cZ (ia x ki.hd ki.fl (pi++[(i:Int)]) (mI ks)) λh' f'=>putL (cn n) pi (i+1) h' f' (ws.drop (i+1))) (λT3 Ka=>?_) ?_
  ·refine⟨_,rfl,L,_,rfl,.inl (a_.of qA.lst),rfl,_,rfl,?_⟩
   cases hq:bX x with
   | false =>
    have e0:as0=[]:=List.eq_nil_of_length_eq_zero (by rw [qA.len,EA,(kJ hq).1]; rfl)
    subst e0
    have ek:P0=[]:=List.eq_nil_of_length_eq_zero (by rw [EA,(kJ hq).1]; rfl)
    subst ek
    refine bZ ⟨_,rfl,.inl ⟨rfl,_,a_.of qA.lst⟩,_,rfl,L,_,_,rfl,rfl,qA.lst,(by show 0<sizeLine; decide),Ka _ _ ⟨[kb],[ki],rfl,?_,(kJ hq).2.symm,?_,λ_=>rfl,qQ.vd qA.lst,eL.new hL g6,?_,?_⟩⟩
    ·exact vm qA (λa k z=>z.keep (aE.refl.vd qA.lst)) ((hki.keep B6).keep (qQ.vd qA.lst)) (by rw [ag]; rfl)
    ·intro k2 hk2; rw [Uo.mp hk2]; exact hoi
    ·rw [aI (Ne.symm Kv)]; exact wI
    ·rw [hrun,iD hq]; rfl
   | true =>
    have e2:as0.length=2:=by rw [qA.len,EA,(l4 hq).1]
    rw [T9 (by rw [Ua,e2]; intro z; cases z)]
    exact bA (aG (Ka _ _ ⟨as0,P0,rfl,qA,by rw [EA,(l4 hq).1,(l4 hq).2],Oj,λz=>(by rw [hq]at z; cases z),qQ,g6,wI,dU hq⟩))
  rintro σ H7 ⟨as,ks,rfl,A1,hkn,Et,hone,Ot,g7,N6,GY⟩
  have PF:aE H H7:=Js.trans Ot
  have Lp:gn H7 kb ki:=(hki.keep B6).keep Ot
  have hla:(as.map V.ref).length=ks.length:=by rw [Ua,A1.len]
  have hn2:ks.length<=2:=by rw [hkn]; exact Bt
  refine⟨_,rfl,_,rfl,_,rfl,L,rfl,⟨_,a_.of A1.lst⟩,λD2 hD2=>?_⟩
  refine dG (xs:=as.map V.ref) (λi σ ys H'=>(∃o1 o2 o3,σ=[o1,o2,o3])/\(∃bs:List Addr,ys=bs.map V.ref/\bs.length=i/\∀(j:Nat) a k,bs[j]? = some a->ks[j]? = some k->dQ H7 a k.hd)/\H' D2=some (.lst ys)/\aM H7 H') ⟨⟨none,none,none,rfl⟩,⟨[],rfl,rfl,λj a k e=>by cases e⟩,ag,aj hD2 _⟩ ?_ ?_ ?_ ?_ ?_
  ·rintro i σ ys H' _ ⟨_,⟨bs,rfl,hi,_⟩,h,_⟩
   exact⟨h,by rw [Ua]; exact Nat.le_of_eq hi⟩
  ·rintro i σ ys H' _ ⟨_,_,_,sm⟩
   exact a_.of (sm _ _ A1.lst)
  ·rw [hla]; exact T8 hn2 (by decide)
  ·rintro i v σ ys H' hv ⟨⟨o1,o2,o3,rfl⟩,⟨bs,rfl,hi,hb⟩,h,sm⟩
   obtain⟨b',k',rfl,ek,hh',p',hq1,hq2,TJ⟩:=A1.get hv
   refine⟨b',_,rfl,aH.of (sm _ _ hq1),rfl,_,_,rfl,ak ⟨_,_,rfl,ak ⟨_,_,rfl,ak ⟨rfl,?_⟩⟩⟩⟩
   refine⟨_,rfl,h,⟨_,_,_,rfl⟩,⟨bs++[hh'],by rw [Uc]; rfl,by rw [Ub,hi]; rfl,λj a k e1 e2=>?_⟩,ag,bq hD2 sm⟩
   by_cases hj:j<bs.length
   ·rw [Ux hj]at e1
    exact hb j a k e1 e2
   ·have hj':j=bs.length:=by
     have:=(Um.mp e1).1
     rw [Ub]at this
     simp at this
     omega
    rw [hj',Uw (T7 _),Nat.sub_self]at e1
    cases e1
    rw [hj',hi,ek]at e2
    cases e2
    exact hq2
  rintro σ ys' H8 ⟨_,⟨ds,rfl,hi,hb⟩,h8,s8⟩
  rw [hla]at hi
  have Ny:=PF.trans (aE.of s8)
  refine⟨a,kb,D2,x,ki,ds,jO ks,rfl,ha.keep Ny,Lp.same s8,yA h8 hi (λi a k e1 e2=>s8 _ _ (hb i a k e1 e2)),by rw [jO,Ua,hkn],KQ,T8 hoi.few (by decide),λh hh=>by obtain⟨k,hk,rfl⟩:=Up.mp hh; exact T8 (Et k hk).hd (by decide),λH9 s9=>ak ?_⟩
  have Kq:=s8.trans s9
  have Sf:=PF.trans (aE.of Kq)
  have g9:eL fl H H9:=(g.trans g4).trans (g7.trans (eL.of Kq))
  rw [Ic]
  have hfin:ia x ki.hd ki.fl (pi++[(i:Int)]) (mI ks)=match i5 x ki.fl (jO ks)with | some s=>.no (pi++[(i:Int)]) s | none=>.ok (bE x (jO ks)) (Eg x ki.hd ki.fl (ks.map Kn.fl)):=by
   unfold ia
   rw [FE,Ex]
   first | done | (cases i5 x ki.fl (jO ks) <;> rfl)
  cases ew:i5 x ki.fl (jO ks)with
  | some s =>
   rw [ew]at hfin
   have ht:putL (cn n) pi 0 k.hd k.fl ws=.no (pi++[(i:Int)]) s:=by rw [GY,hfin]; rfl
   dsimp only
   refine⟨_,rfl,rfl,_,rfl,bZ ⟨_,rfl,_,rfl,cJ,λe he=>?_⟩⟩
   have ne:∀d o,H9 d=some o->d≠e:=λd o z y=>by subst y; rw [he]at z; cases z
   refine⟨e,_,_,rfl,ag,Cf.xc,Cf.np,Cf.nr,λdx H3 hdx keep h2 h3=>⟨rfl,e,some dx,rfl,h2,?_⟩⟩
   have kk:∀d o,H9 d=some o->H3 d=some o:=λd o z=>keep d o (ne d o z) (by rw [aI (ne d o z)]; exact z)
   have Te:dx≠e:=λy=>by subst y; rw [ag]at hdx; cases hdx
   have Nd:H9 u2=some (.tup ((pi++[(i:Int)]).map V.int)):=(Ot.trans (aE.of Kq)) _ _ xu
   refine qx _ s ht e dx u2 _ (λd o nd z=>?_) ag (by rw [aI Te]; exact h3) ?_
   ·have z9:=g9 _ _ nd z
    rw [aI (ne d o z9)]; exact kk _ _ z9
   ·rw [aI (ne u2 _ Nd)]; exact kk _ _ Nd
  | none =>
   rw [ew]at hfin
   obtain⟨hfit,JM⟩:=r6 ew
   dsimp only
   refine⟨_,rfl,rfl,_,rfl,bA (aG ?_)⟩
   dsimp only
   refine⟨_,rfl,_,rfl,_,rfl,a,kb,L,x,ki,as,ks,rfl,ha.keep Sf,Lp.same Kq,A1.same Kq,⟨hkn,KQ,hfit,Eu hone hfit,λk hk=>T8 (Et k hk).hd (by decide),λk hk=>T8 (Et k hk).few (by decide)⟩,λu k' Ad B9 hk' e1 e2 e3=>ak ?_⟩
   refine⟨u,k',zs,⟨_,_,_,_,_,_,_,rfl⟩,hk',mQ.next Et (by rw [e1]; exact JM) e2,g9.trans (eL.of B9),B9 _ _ (Kq _ _ N6),?_,?_⟩
   ·rw [Nat.succ_mul]; omega
   ·rw [GY,hfin,e1,K1 e2 e3]
    rfl
 ·rintro σ H' ⟨kb,ki,ys,⟨o5,o6,o7,o8,o9,pZ,p7,rfl⟩,hki,hoi,g,hfl',hyz,hrun⟩
  rw [hlb]at hyz hrun
  rw [List.drop_length]at hrun
  have R_:=Nat.mul_le_mul_right (cW n) hw9
  obtain⟨hh,ph,hk1,hk2,hk3⟩:=hki
  have k0:=g.fV hfl
  dsimp only
  refine⟨_,rfl,.inl ⟨rfl,_,a_.of hfl'⟩,_,rfl,_,rfl,p,_,rfl,.inr (aH.of (k0 _ _ hI.tup)),dP,λu1 jK=>?_⟩
  have sU:=aj jK (.tup [.int ((bs.map V.ref).length:Nat)])
  refine⟨pl,u1,_,_,rfl,rfl,sU _ _ (k0 _ _ hpl),ag,by rw [Ua]; exact T8 (show _+1<=1000 by omega) (by decide),λu2 H2 Jt hu2=>?_⟩
  have s2:=sU.trans Jt
  refine⟨_,rfl,kb,_,0,_,rfl,rfl,aH.of (s2 _ _ hk1),au (j:=0) rfl,_,rfl,kb,_,2,_,rfl,rfl,aH.of (s2 _ _ hk1),rfl,gq,λu3 vV=>?_⟩
  have s3:=aj vV (.tup [.ref u2,.ref hh,.bl ki.lo])
  have Nq:=s2.trans s3
  refine⟨fl,_,_,rfl,rfl,Nq _ _ hfl',Ud (show ys.length<=100000 by omega) (by decide),_,rfl,?_⟩
  have kU:aE H' (upd (upd H2 u3 (.tup [.ref u2,.ref hh,.bl ki.lo])) fl (.lst (ys++[.ref u3]))):=(aE.of Nq).vd (Nq _ _ hfl')
  refine q ki.hd ki.fl hrun kb ki _ ys u3 (g.trans (eL.of Nq)).put ⟨hh,ph,kU _ _ hk1,kU _ _ hk2,kU _ _ hk3⟩ hoi rfl rfl ag (by omega) ⟨.ref u2,hh,.bl ki.lo,?_,kU _ _ hk2⟩
  have nf:u3≠fl:=λz=>by have:=s2 _ _ hfl'; rw [←z,vV]at this; cases this
  rw [aI nf]
  exact ag
def f0:Fl:=⟨false,false,false,false,false⟩
def kg(n:Nat)(hd:Hd)(ws:List Wk):Res:=putL (cn n) [] 0 hd f0 ws
def QI(C:Addr)(H:Hp)(a:List Int)(s:Str)(E:XK):Prop:=∀(e dx q:Addr) (H':Hp),aM H H'->H' e=some (xO e C (some dx))->H' dx=some (xD dx (Ae (.ref q) (.str s)))->H' q=some (.tup (a.map V.int))->E (.ref C) (some e) H'
structure KJ(n:Nat)(H:Hp)(a p:Addr)(hd:Hd)(ws:List Wk):Prop where
 S3:dQ H a hd
 six:hd.length<=6
 pp:jf n H p ws
 ok:ud n ws
def D6(C:Addr)(n:Nat):Sp:=λvs H Q E=>∃(a p:Addr) (hd:Hd) (ws:List Wk),vs=[.ref a,.ref p]/\KJ n H a p hd ws/\2*n<=100/\bnd n<=100000/\
 (∀x s,kg n hd ws=.no x s->QI C H x s E)/\
 (∀h f,kg n hd ws=.ok h f->∀(l:Addr) (H':Hp) (xs':List V) (t:Addr),aM H H'->H' l=some (.lst (xs'++[.ref t]))->Gu H' t h->Q (.ref l) H')
theorem kf{fl:Addr}{H H1 H':Hp}(hn:H fl=none)(s:aM H H1)(g:eL fl H1 H'):aM H H':=λb o e=>g _ _ (aU e hn) (s _ _ e)
abbrev oQ:Stmt:=top 48
theorem q_:ay ["head","pipe","found"] ["head","pipe"] (ar oQ):=fs
theorem AR{C:Addr}{n L:Nat}(F:FA K mg "survey" oQ)
  (iy:bc (zu P w) P w K mg base (L+6) "go_through" ["pipe","begun","prefix","found"] (yK C (n+1))) :
  bc (zu P w) P w K mg base (L+7) "survey" ["head","pipe"] (D6 C n):=by
 refine F.Kh q_ λf cdv A outer s H vs Q E hr h=>?_
 have hu:=iM hr
 have hu1:=jY hr
 obtain⟨a,p,hd,ws,rfl,hI,hn2,hbn,qx,q⟩:=h
 refine⟨_,(aq (aL (i:=2) q_.nd rfl (Or.inl rfl) (aQ ah))
   (aq (fG (vG iy hr rfl y4 (ae (pv 1) (ae (aJ (ae (pv 0) (ae (aJ ah) (ae fQ ah)))) (ae (aJ ah) (ae (pv 2) ah))))))
   (av (pv 2)))),?_⟩
 refine⟨Uu _,λF hF=>ak ?_⟩
 dsimp only
 have s0:=aj hF (.lst [])
 have Pd:upd H F (.lst []) F=some (.lst []):=ag
 revert s0 Pd
 generalize upd H F (.lst [])=H0
 intro s0 Pd
 refine⟨_,rfl,_,rfl,xy,λu1 jK=>?_⟩
 have s1:=aj jK (.tup [])
 refine⟨gq,λu2 hu2=>?_⟩
 have s2:=aj hu2 (.tup [.ref a,.ref u1,.bl false])
 refine⟨xy,λu3 vV=>?_⟩
 have s3:=aj vV (.tup [])
 have GJ:=s0.trans (s1.trans (s2.trans s3))
 have p6:=s1.trans (s2.trans s3)
 have e1:=s3 _ _ (s2 _ _ (ag (H:=H0) (a:=u1) (o:=.tup [])))
 have e2:=s3 _ _ (ag (H:=upd H0 u1 (.tup [])) (a:=u2) (o:=.tup [.ref a,.ref u1,.bl false]))
 have e3:upd (upd (upd H0 u1 (.tup [])) u2 (.tup [.ref a,.ref u1,.bl false])) u3 (.tup []) u3=some (.tup []):=ag
 revert GJ p6 e1 e2 e3
 generalize upd (upd (upd H0 u1 (.tup [])) u2 (.tup [.ref a,.ref u1,.bl false])) u3 (.tup [])=H3
 intro GJ p6 e1 e2 e3
 refine⟨_,rfl,p,u2,u3,F,ws,⟨hd,[],false⟩,[],[],rfl,⟨hI.pp.keep (aE.of GJ),⟨a,u1,e2,GJ _ _ hI.S3,e1⟩,e3,p6 _ _ Pd,hI.ok,⟨hI.six,List.nodup_nil,λs hs=>(by cases hs)⟩,by simpa using hn2,by simpa using hbn⟩,?_,?_⟩
 ·intro x s he e dx q' H' g
  exact qx x s he e dx q' H' (kf hF GJ g)
 ·intro h f he u k' H' xs' t g hk' Mk eh ef hfl' Su hE
  exact⟨_,rfl,q h f he F H' xs' t (kf hF GJ g) hfl' hE⟩
def KL(C:Addr)(n:Nat):Sp:=λvs H Q E=>∃(a p:Addr) (hd:Hd) (ws:List Wk),vs=[.ref a,.ref p]/\KJ n H a p hd ws/\2*n<=100/\bnd n<=100000/\
 (∀x s,kg n hd ws=.no x s->QI C H x s E)/\
 (∀h f,kg n hd ws=.ok h f->∀(u:Addr) (H':Hp),aM H H'->dQ H' u h->Q (.ref u) H')
abbrev gG:Stmt:=top 49
theorem n9:ay ["head","pipe"] ["head","pipe"] (ar gG):=fs
theorem p_{C:Addr}{n L:Nat}(F:FA K mg "head_behind" gG)
  (Dr:bc (zu P w) P w K mg base (L+7) "survey" ["head","pipe"] (D6 C n)) :
  bc (zu P w) P w K mg base (L+8) "head_behind" ["head","pipe"] (KL C n):=by
 refine F.Kh n9 λf cdv A outer s H vs Q E hr h=>?_
 obtain⟨a,p,hd,ws,rfl,hI,hn2,hbn,qx,q⟩:=h
 refine⟨_,(av (az K (bj K (vG Dr hr rfl y4 (ae (pv 0) (ae (pv 1) ah))) (rm lM ai)) ai)),?_⟩
 refine⟨_,rfl,_,rfl,a,p,hd,ws,rfl,hI,hn2,hbn,qx,λh f he l H' xs' t s' hl hE=>?_⟩
 obtain⟨qq,hh,b,h1,h2⟩:=hE
 exact⟨_,rfl,l,_,-1,_,rfl,rfl,a_.of hl,oF _ _,t,_,1,_,rfl,rfl,aH.of h1,rfl,q h f he hh H' s' h2⟩
end My
namespace L2
open PySem
def Bp:List V->Hp->VK->Prop:=λxs H Q=>(∃i,xs=[.int i]/\Q (.int i) H)\/∃k,xs=[.bl k]/\Q (.int (if k then 1 else 0)) H
theorem zf{X:Cx}:fk X (.type "int") Bp:=cz
end L2
namespace My
open PySem L2
theorem AS{a b c:Str}(h1:vW a b)(h2:vW b c):vW a c:=List.lt_trans h1 h2
theorem nZ:∀{a b:List Str},a.Pairwise vW->b.Pairwise vW->(∀s,s∈a↔s∈b)->a=b
 | [],[],_,_,_=>rfl
 | [],y::b,_,_,h=>absurd ((h y).mpr (by simp)) (by simp)
 | x::a,[],_,_,h=>absurd ((h x).mp (by simp)) (by simp)
 | x::a,y::b,ha,hb,h=>by
  rw [List.pairwise_cons]at ha hb
  have e:x=y:=by
   rcases Uq.mp ((h x).mp (by simp))with e | m1
   ·exact e
   ·rcases Uq.mp ((h y).mpr (by simp))with e | m2
    ·exact e.symm
    ·exact absurd (AS (ha.1 y m2) (hb.1 x m1)) ng
  subst e
  rw [nZ (a:=a) (b:=b) ha.2 hb.2 λs=>⟨λm=>?_,λm=>?_⟩]
  ·rcases Uq.mp ((h s).mp (by simp [m]))with e | z
   ·subst e; exact absurd (ha.1 _ m) ng
   ·exact z
  ·rcases Uq.mp ((h s).mpr (by simp [m]))with e | z
   ·subst e; exact absurd (hb.1 _ m) ng
   ·exact z
def iZ(ss:List Str):List Str:=(if("n" : Str)∈ss then(["n"]:List Str)else [])++(if("w" : Str)∈ss then(["w"]:List Str)else [])
theorem lA{ss:List Str}(h:∀s∈ss,s="n"\/s="w")(s:Str):s∈iZ ss↔s∈ss:=by
 unfold iZ
 by_cases h1:("n" : Str)∈ss <;> by_cases h2:("w" : Str)∈ss <;> simp only [h1,h2,if_true,if_false,Us,Uo,List.not_mem_nil,or_false,false_or] <;> constructor
 ·rintro(rfl | rfl) <;> assumption
 ·exact λm=>h s m
 ·rintro rfl; assumption
 ·intro m; rcases h s m with rfl | rfl
  ·rfl
  ·exact absurd m h2
 ·rintro rfl; assumption
 ·intro m; rcases h s m with rfl | rfl
  ·exact absurd m h1
  ·rfl
 ·exact False.elim
 ·intro m; rcases h s m with rfl | rfl
  ·exact h1 m
  ·exact h2 m
theorem De(ss:List Str):(iZ ss).Pairwise vW:=by
 have hlt:vW "n" "w":=by unfold vW; decide +kernel
 unfold iZ
 by_cases h1:("n" : Str)∈ss <;> by_cases h2:("w" : Str)∈ss <;> simp [h1,h2,hlt]
theorem GR(v:V):sW v="n"\/sW v="w":=by cases v <;> simp [sW]
theorem IH{ms:List Str}{us:List V}(h:zt ms (us.map sW)):ms=iZ (us.map sW):=by
 have hn:∀s∈us.map sW,s="n"\/s="w":=λs hs=>by obtain⟨v,_,rfl⟩:=Up.mp hs; exact GR v
 exact nZ h.1 (De _) λs=>(h.2 s).trans (lA hn s).symm
def rY:Sp:=λvs H Q _=>∃(l:Addr) (us:List V),vs=[.ref l]/\H l=some (.lst us)/\us.length<60/\(∀v∈us,dO v)/\∀(u:Addr) (H':Hp),aM H H'->H' u=some (.lst ((iZ (us.map sW)).map V.str))->Q (.ref u) H'
abbrev iw:Stmt:=top 67
theorem qz:ay ["_law_cells"] ["_law_cells"] (ar iw):=fs
variable{P:Program}{w:World}{K:UJ}{mg:Str->Option Value}{base:Heap}
theorem BN(B:jJ mg)(B2:iR mg)(B3:zv mg)(Ki:PySem.W.kitOne K (.type "int") (.type "str")=some false)(F:FA K mg "_law_sorts" iw) :
  bc bf P w K mg base 1 "_law_sorts" ["_law_cells"] rY:=by
 refine F.ok qz λf cdv A outer s H vs Q E hr h=>?_
 have hu:=iM hr
 obtain⟨l,us,rfl,hl,hz,hc,q⟩:=h
 refine⟨_,(av (j9 rfl rfl B2.sorted rfl B2.set (bw (N':=["_law_cell_here"]) (src:=[none]) rfl (ba.jE (by kernel_rfl)) (fh (pv 0)) (λcl C s H fp=>(el (i:=0))) (λcl C s H fp=>aX) (te:=(gB (xJ K) (x5 (bp (tC (.str "n")) (bp (tC (.str "w")) fz))) (Kp Bp (bp (Kp (Mq K "str") (bp (bx 0) (bp (tC (.ty "str")) fz))) fz)))) (λcl C s H fp=>(bj K (aQ (ae ao (ae ao ah))) (aV zf xP B2.int PyProof.Rows.boot_int (ae (aZ (uE (n:="str")) xP B.isinstance PyProof.Rows.boot_isinstance (ae (iX 0) (ae (xl (n:="str") xP B3.str (by decide +kernel)) ah))) ah))))))),?_⟩
 refine⟨_,rfl,l,rfl,⟨_,a_.of hl⟩,λD hD=>?_⟩
 refine dG (xs:=us) (λi σ ys H'=>(∃o,σ=[o])/\ys=((us.take i).map sW).map V.str/\ys.length=i/\H' D=some (.lst ys)/\aM H H') ⟨⟨none,rfl⟩,rfl,rfl,ag,aj hD _⟩ ?_ ?_ ?_ ?_ ?_
 ·rintro i σ ys H' _ ⟨_,_,hi,h,_⟩
  exact⟨h,Nat.le_of_eq hi⟩
 ·rintro i σ ys H' _ ⟨_,_,_,_,sm⟩
  exact a_.of (sm _ _ hl)
 ·exact T8 (show us.length<=60 by omega) (by decide)
 ·rintro i v σ ys H' hv ⟨⟨o,rfl⟩,rfl,hi,h,sm⟩
  refine⟨cJ,λR hR=>?_⟩
  have sR:=aj hR (.lst [V.str "n",.str "w"])
  have fin:∀s,sW v=s->upd H' R (.lst [V.str "n",.str "w"]) D=some (.lst (((us.take i).map sW).map V.str))/\((∃o,(List.set [o] 0 (some v))=[o])/\((us.take i).map sW).map V.str++[V.str s]=((us.take (i+1)).map sW).map V.str/\(((us.take i).map sW).map V.str++[V.str s]).length=i+1/\upd (upd H' R (.lst [V.str "n",.str "w"])) D (.lst (((us.take i).map sW).map V.str++[V.str s])) D=some (.lst (((us.take i).map sW).map V.str++[V.str s]))/\aM H (upd (upd H' R (.lst [V.str "n",.str "w"])) D (.lst (((us.take i).map sW).map V.str++[V.str s])))):=by
   rintro s rfl
   refine⟨sR _ _ h,⟨some v,rfl⟩,?_,?_,ag,bq hD (sm.trans sR)⟩
   ·rw [take_one hv,Uc,Uc]; rfl
   ·rw [Ub,hi]; rfl
  rcases hc v (Ui hv)with⟨n,rfl⟩ | ⟨x,rfl⟩
  ·obtain⟨f1,f2,f3,f4,f5,f6⟩:=fin "n" rfl
   exact⟨_,rfl,_,_,false,rfl,.int n,Ki,.inr ⟨_,rfl,R,_,0,_,rfl,rfl,a_.of ag,rfl,f1,⟨_,rfl⟩,f3,f4,f5,f6⟩⟩
  ·obtain⟨f1,f2,f3,f4,f5,f6⟩:=fin "w" rfl
   exact⟨_,rfl,_,_,true,rfl,.str x,vI (by decide),.inr ⟨_,rfl,R,_,1,_,rfl,rfl,a_.of ag,rfl,f1,⟨_,rfl⟩,f3,f4,f5,f6⟩⟩
 ·rintro σ ys H1 ⟨_,rfl,hi,h,sm⟩
  rw [List.take_length]at h
  refine⟨D,_,rfl,.inl (a_.of h),by rw [Ua,Ua]; omega,.inr ⟨_,rfl⟩,λu ys hu' hS=>?_⟩
  have hys:ys=(iZ (us.map sW)).map V.str:=by
   rcases hS with⟨ns,ms,e1,e2,e3,e4⟩ | ⟨ns,ms,e1,e2,e3,e4⟩
   ·cases hus:us with
    | nil =>
     rw [hus]at e1
     cases ns with
     | nil =>
      cases ms with
      | nil=>rw [e2]; rfl
      | cons m ms=>exact absurd ((e4 m).mp (by simp)) (by simp)
     | cons n ns=>cases e1
    | cons v vs =>
     rw [hus]at e1
     cases ns with
     | nil=>cases e1
     | cons n ns=>cases e1
   ·have:ns=us.map sW:=(List.map_inj_right (f:=V.str) (λa b e=>V.str.inj e)).mp e1.symm
    subst this
    rw [e2,IH ⟨e3,e4⟩]
  rw [hys]
  exact q u _ (sm.trans (aj hu' _)) ag
def vb(n:Nat):Sp:=λvs H Q _=>∃(a:Addr) (x:Wk),vs=[.ref a]/\dj n H a x/\∀H',aM H H'->Q (.bl (cD x.nm)) H'
abbrev eA:Stmt:=top 73
theorem ke:ay ["_law_worker_here"] ["_law_worker_here"] (ar eA):=fs
theorem DP{n:Nat}(F:FA K mg "_law_is_one_row" eA) :
  bc bf P w K mg base 1 "_law_is_one_row" ["_law_worker_here"] (vb n):=by
 refine F.ok ke λf cdv A outer s H vs Q E hr h=>?_
 obtain⟨a,x,rfl,ha,q⟩:=h
 refine⟨_,(av (fF cp (az K (pv 0) ai) (aQ (ae ao (ae ao (ae ao (ae ao (ae ao ah)))))) rfl)),?_⟩
 obtain⟨xs,h1⟩:=ha.first
 refine⟨_,rfl,a,_,0,_,rfl,rfl,aH.of h1,au (j:=0) rfl,r8,λR hR=>?_⟩
 exact⟨R,mF,rfl,.inl (a_.of ag),rfl,rfl,q _ (aj hR _)⟩
end My
namespace L2
open PySem
def Of(neg:Bool):R2:=λx y H Q=>∃a b xs,x=.ref a/\y=.ref b/\H a=some (.lst xs)/\H b=some (.lst [])/\Q (.bl (if neg then !xs.isEmpty else xs.isEmpty)) H
theorem CP{X:Cx}(hu:X.A.units+8<cLine):i3 X (compareOp .NotEq) (Of true):=by
 intro pins s σ H x y v u Q I rx ry h
 obtain⟨a,b,xs,rfl,rfl,ha,hb,q⟩:=h
 cases xs with
 | nil =>
  refine jt pins s σ H _ _ v u Q I rx ry ⟨.lst [],.lst [],kM ha bD.nil,kM hb bD.nil,?_,?_⟩
  ·have:(D.lst []).depth<=8:=by simp [D.depth,cw]
   omega
  ·have e:cM (.lst []) (.lst [])=true:=jq _
   rw [e]; exact q
 | cons z zs=>exact Ce (by omega) pins s σ H _ _ v u Q I rx ry ⟨a,b,_,_,rfl,rfl,a_.of ha,a_.of hb,by simp,q⟩
end L2
namespace My
open PySem L2
theorem Jv{x:Wk}:inV (.str x.nm) [.str "keep",.str "turn",.str "must",.str "walk"]=true->∃y,x=.one y/\vR y:=by
 cases x with
 | one x=>cases x <;> simp only [Wk.nm,W1.nm] <;> intro h <;> first | exact⟨_,rfl,_,.inl ⟨_,rfl⟩⟩ | exact⟨_,rfl,_,.inr (.inl ⟨_,rfl⟩)⟩ | exact⟨_,rfl,_,.inr (.inr (.inl ⟨_,rfl⟩))⟩ | exact⟨_,rfl,_,.inr (.inr (.inr ⟨_,rfl⟩))⟩ | exact absurd h (by decide +kernel)
 | both p q=>simp only [Wk.nm]; intro h; exact absurd h (by decide +kernel)
 | meet c d p q=>simp only [Wk.nm]; intro h; exact absurd h (by decide +kernel)
theorem in_list{x:Wk}:inV (.str x.nm) [.str "cut",.str "count"]=true->∃y,x=.one y/\vY y:=by
 cases x with
 | one x=>cases x <;> simp only [Wk.nm,W1.nm] <;> intro h <;> first | exact⟨_,rfl,_,.inl rfl⟩ | exact⟨_,rfl,_,.inr rfl⟩ | exact absurd h (by decide +kernel)
 | both p q=>simp only [Wk.nm]; intro h; exact absurd h (by decide +kernel)
 | meet c d p q=>simp only [Wk.nm]; intro h; exact absurd h (by decide +kernel)
theorem ym{x:Wk}(h:x.nm="same"):∃c d,x=.one (.same c d):=by
 revert h
 cases x with
 | one x=>cases x <;> simp only [Wk.nm,W1.nm] <;> first | (intro h; exact⟨_,_,rfl⟩) | (intro h; exact absurd h (by decide +kernel))
 | both p q=>simp only [Wk.nm]; intro h; exact absurd h (by decide +kernel)
 | meet c d p q=>simp only [Wk.nm]; intro h; exact absurd h (by decide +kernel)
theorem EC{x:Wk}(h:x.nm="sort"):∃cs,x=.one (.sort cs):=by
 revert h
 cases x with
 | one x=>cases x <;> simp only [Wk.nm,W1.nm] <;> first | (intro h; exact⟨_,rfl⟩) | (intro h; exact absurd h (by decide +kernel))
 | both p q=>simp only [Wk.nm]; intro h; exact absurd h (by decide +kernel)
 | meet c d p q=>simp only [Wk.nm]; intro h; exact absurd h (by decide +kernel)
theorem CW{x:Wk}(h:x.nm="sum"):∃cs c,x=.one (.sum cs c):=by
 revert h
 cases x with
 | one x=>cases x <;> simp only [Wk.nm,W1.nm] <;> first | (intro h; exact⟨_,_,rfl⟩) | (intro h; exact absurd h (by decide +kernel))
 | both p q=>simp only [Wk.nm]; intro h; exact absurd h (by decide +kernel)
 | meet c d p q=>simp only [Wk.nm]; intro h; exact absurd h (by decide +kernel)
theorem A6{x:Wk}(h1:¬inV (.str x.nm) [.str "keep",.str "turn",.str "must",.str "walk"]=true)(h2:x.nm≠"same")(h3:¬inV (.str x.nm) [.str "cut",.str "count"]=true)(h4:x.nm≠"sort")(h5:x.nm≠"sum"):gy x=[]:=by
 cases x with
 | one x=>cases x <;> first | rfl | exact absurd rfl h2 | exact absurd rfl h4 | exact absurd rfl h5 | exact absurd (by simp only [Wk.nm,W1.nm]; decide +kernel) h1 | exact absurd (by simp only [Wk.nm,W1.nm]; decide +kernel) h3
 | both p q=>rfl
 | meet c d p q=>rfl
def yg(n:Nat):Sp:=λvs H Q _=>∃(a:Addr) (x:Wk),vs=[.ref a]/\dj n H a x/\km x/\∀(u:Addr) (H':Hp),aM H H'->H' u=some (.lst ((gy x).map V.int))->Q (.ref u) H'
abbrev dM:Stmt:=top 68
theorem fq:ay ["_law_worker_here","_law_word_here"] ["_law_worker_here"] (ar dM):=fs
variable{P:Program}{w:World}{K:UJ}{mg:Str->Option Value}{base:Heap}
theorem FN{n:Nat}(B:jJ mg)(F:FA K mg "_law_told_columns" dM) :
  bc bf P w K mg base 1 "_law_told_columns" ["_law_worker_here"] (yg n):=by
 refine F.ok fq λf cdv A outer s H vs Q E hr h=>?_
 have hu:=iM hr
 obtain⟨a,x,rfl,ha,hsm,q⟩:=h
 refine⟨_,(aq (aL (i:=1) fq.nd rfl (Or.inl rfl) (az K (pv 0) ai))
   (aN (dc cp (pv 1) (aQ (ae ao (ae ao (ae ao (ae ao ah))))) rfl) (aQ (ae (az K (pv 0) ai) ah))
   (aN (aW aP (pv 1) ao) (aQ (ae (az K (pv 0) ai) (ae (az K (pv 0) ai) ah)))
   (aN (dc cp (pv 1) (aQ (ae ao (ae ao ah))) rfl) (aV lh rfl B.list PyProof.Rows.boot_list (ae (az K (pv 0) ai) ah))
   (aN (aW aP (pv 1) ao) (bw (N':=["_law_column_here","_law_falling"]) (src:=[none,none]) rfl (ba.jE (by kernel_rfl)) (cI (az K (pv 0) ai)) (g:=(iu K 2 (bP (bz 0) (bP (bz 1) iJ)))) (λcl C s H fp=>(cB rfl (aA (el (i:=0)) (aA (el (i:=1)) bS)))) (λcl C s H fp=>aX) (te:=(bx 0)) (λcl C s H fp=>(iX 0)))
   (av (eK (aW aP (pv 1) ao) (aF pk (aV lh rfl B.list PyProof.Rows.boot_list (ae (az K (pv 0) ai) ah)) (aQ (ae (az K (pv 0) ai) ah))) (aQ ah)))))))),?_⟩
 obtain⟨xs,h1⟩:=ha.first
 refine⟨_,rfl,a,_,0,_,rfl,rfl,aH.of h1,au (j:=0) rfl,ak ?_⟩
 dsimp only
 refine⟨_,rfl,Mo,λR1 Pn=>⟨R1,_,rfl,.inl (a_.of ag),rfl,rfl,_,rfl,?_⟩⟩
 have t1:=aj Pn (.lst [V.str "keep",.str "turn",.str "must",.str "walk"])
 revert t1
 generalize upd H R1 (.lst [V.str "keep",.str "turn",.str "must",.str "walk"])=H1
 intro t1
 refine cH (λk=>?_) (λk1=>aG ?_)
 ·obtain⟨y,rfl,hy⟩:=Jv k
  obtain⟨c,v,vs,h2,hc⟩:=hy.at_ (bW.mp ha)
  refine⟨_,rfl,a,_,1,_,rfl,rfl,aH.of (t1 _ _ h2),au (j:=1) rfl,dP,λu hu=>q u _ (t1.trans (aj hu _)) ?_⟩
  rw [ag]
  show _=some (HO.lst ((c7 y).map V.int))
  rw [hc]
  rfl
 refine⟨_,rfl,rfl,_,rfl,?_⟩
 rw [bM]
 by_cases e2:x.nm="same"
 ·rw [T_ e2]
  obtain⟨c,d,rfl⟩:=ym e2
  have h2:H a=some (.tup [.str "same",.int c,.int d]):=bW.mp ha
  exact bZ ⟨_,rfl,a,_,1,_,rfl,rfl,aH.of (t1 _ _ h2),rfl,_,rfl,a,_,2,_,rfl,rfl,aH.of (t1 _ _ h2),rfl,cJ,λu hu=>q u _ (t1.trans (aj hu _)) ag⟩
 rw [T9 e2]
 refine bA (aG ⟨_,rfl,cJ,λR2 yE=>⟨R2,_,rfl,.inl (a_.of ag),rfl,rfl,_,rfl,?_⟩⟩)
 have SV:=aj yE (.lst [V.str "cut",.str "count"])
 have t2:=t1.trans SV
 revert t2
 generalize upd H1 R2 (.lst [V.str "cut",.str "count"])=H2
 intro t2
 refine cH (λk=>?_) (λk3=>aG ?_)
 ·obtain⟨y,rfl,cs,rfl | rfl⟩:=in_list k
  ·obtain⟨t,h2,h3⟩:=bW.mp ha
   exact⟨_,rfl,a,_,1,_,rfl,rfl,aH.of (t2 _ _ h2),rfl,t,_,rfl,.inr (aH.of (t2 _ _ h3)),λu hu=>q u _ (t2.trans (aj hu _)) ag⟩
  ·obtain⟨t,h2,h3⟩:=bW.mp ha
   exact⟨_,rfl,a,_,1,_,rfl,rfl,aH.of (t2 _ _ h2),rfl,t,_,rfl,.inr (aH.of (t2 _ _ h3)),λu hu=>q u _ (t2.trans (aj hu _)) ag⟩
 refine⟨_,rfl,rfl,_,rfl,?_⟩
 rw [bM]
 by_cases e4:x.nm="sort"
 ·rw [T_ e4]
  obtain⟨cs,rfl⟩:=EC e4
  obtain⟨t,bs,h2,hI⟩:=bW.mp ha
  have hs:cs.length<=1000:=hsm
  have hl:(bs.map V.ref).length=cs.length:=by rw [Ua,hI.len]
  refine bZ ⟨_,rfl,a,_,1,_,rfl,rfl,aH.of (t2 _ _ h2),rfl,t,rfl,⟨_,aH.of (t2 _ _ hI.tup)⟩,λD hD=>?_⟩
  refine cE (xs:=bs.map V.ref) (λi σ ys H'=>(∃o1 o2,σ=[o1,o2])/\ys=(cs.take i).map V.int/\ys.length=i/\H' D=some (.lst ys)/\aM H2 H') ⟨⟨none,none,rfl⟩,rfl,rfl,ag,aj hD _⟩ ?_ ?_ ?_ ?_ ?_
  ·rintro i σ ys H' _ ⟨_,_,hi,h,_⟩
   exact⟨h,Nat.le_of_eq hi⟩
  ·rintro i σ ys H' _ ⟨_,_,_,_,sm⟩
   exact aH.of (sm _ _ (t2 _ _ hI.tup))
  ·rw [hl]; exact T8 hs (by decide)
  ·rintro i x σ ys H' hx ⟨⟨o1,o2,rfl⟩,rfl,hi,h,sm⟩
   obtain⟨b,c,rfl,ec,bb,hb⟩:=hI.get hx
   refine⟨b,_,rfl,aH.of (sm _ _ (t2 _ _ hb)),rfl,_,_,rfl,ak ⟨_,_,rfl,ak ⟨rfl,?_⟩⟩⟩
   refine⟨_,rfl,h,⟨_,_,rfl⟩,?_,?_,ag,bq hD sm⟩
   ·rw [take_one ec,Uc]; rfl
   ·rw [Ub,hi]; rfl
  ·rintro σ ys H' ⟨_,rfl,_,h,sm⟩
   rw [hl,List.take_length]at h
   exact q D H' (t2.trans sm) h
 rw [T9 e4]
 refine bA (aG ⟨_,rfl,rfl,_,rfl,?_⟩)
 rw [bM]
 by_cases e5:x.nm="sum"
 ·rw [T_ e5]
  obtain⟨cs,c,rfl⟩:=CW e5
  obtain⟨t,h2,h3⟩:=bW.mp ha
  have hs:cs.length<=1000:=hsm
  refine bZ ⟨_,rfl,a,_,1,_,rfl,rfl,aH.of (t2 _ _ h2),rfl,t,_,rfl,.inr (aH.of (t2 _ _ h3)),λu hu=>?_⟩
  have s3:=aj hu (.lst (cs.map V.int))
  refine⟨_,rfl,a,_,2,_,rfl,rfl,aH.of (s3 _ _ (t2 _ _ h2)),rfl,dP,λu2 hu2=>?_⟩
  have s4:=aj hu2 (.lst [V.int c])
  refine⟨u,u2,_,_,rfl,rfl,s4 _ _ ag,ag,?_,λu3 vV=>q u3 _ (t2.trans (s3.trans (s4.trans (aj vV _)))) ?_⟩
  ·rw [Ua]
   exact T8 (show cs.length+1<=1001 by omega) (by decide)
  ·rw [ag]
   show _=some (HO.lst ((cs++[c]).map V.int))
   rw [Uc]
   rfl
 rw [T9 e5]
 refine bA ⟨Uu _,λu hu=>q u _ (t2.trans (aj hu _)) ?_⟩
 rw [ag,A6 k1 e2 k3 e4 e5]
 rfl
def kF(x:Wk)(h:Hd)(es:List Hd):List Hd:=if bX x=true then es else [h]
def Mp(x:Wk):Prop:=∀c∈gy x,1<=c
def BX:Wk->Prop
 | .meet c d _ _=>1<=c/\1<=d
 | _=>True
def IM:Wk->Prop
 | .one x=>CU x
 | _=>True
structure uz(n:Nat)(H:Hp)(a b l:Addr)(x:Wk)(h:Hd)(as:List Addr)(es:List Hd):Prop where
 wk:dj n H a x
 hd:dQ H b h
 en:fW H l as es
 n:bX x=true->es.length=2
 sm:km x
 pos:Mp x
 posm:BX x
 dr:IM x
theorem uz.same{n:Nat}{H H':Hp}{a b l:Addr}{x:Wk}{h:Hd}{as:List Addr}{es:List Hd}(s:aM H H')(i:uz n H a b l x h as es):uz n H' a b l x h as es:=⟨i.wk.keep (aE.of s),s _ _ i.hd,i.en.same s,i.n,i.sm,i.pos,i.posm,i.dr⟩
def yn(n:Nat):Sp:=λvs H Q _=>∃(a b l:Addr) (x:Wk) (h:Hd) (as:List Addr) (es:List Hd),vs=[.ref a,.ref b,.ref l]/\uz n H a b l x h as es/\∀H',aM H H'->Q (.bl (!c9 x (kF x h es))) H'
theorem og{c:Int}{h:Hd}(hc:1<=c):there c h=decide (c<=(h.length:Nat)):=by
 unfold there
 rw [T_ hc,Bool.true_and]
theorem vc{cs:List Int}{i:Nat}{c:Int}{p:Int->Bool}(h:cs[i]? = some c):(cs.take (i+1)).filter p=(cs.take i).filter p++(if p c=true then [c]else []):=by
 rw [take_one h,List.filter_append]
 congr 1
 by_cases e:p c=true <;> simp [e]
theorem EB{cs:List Int}{h:Hd}(hp:∀c∈cs,1<=c):(cs.filter λc=>decide ((h.length:Int)<c)).isEmpty=cs.all λc=>there c h:=by
 induction cs with
 | nil=>rfl
 | cons c cs ih =>
  have ih:=ih λc hc=>hp c (by simp [hc])
  have hc:=hp c (by simp)
  rw [List.all_cons,←ih,og hc,List.filter_cons]
  by_cases z:c<=(h.length:Nat)
  ·rw [T_ z,T9 (show¬(h.length:Int)<c by omega)]; simp
  ·rw [T9 z,T_ (show(h.length:Int)<c by omega)]; simp
abbrev fb:Stmt:=top 69
theorem kW:ay ["_law_worker_here","_law_head","_law_ends"] ["_law_worker_here","_law_head","_law_ends"] (ar fb):=fs
theorem C3{n:Nat}(B:jJ mg)(F:FA K mg "_law_no_column" fb)
  (dJ:bc bf P w K mg base 1 "_law_told_columns" ["_law_worker_here"] (yg n)) :
  bc bf P w K mg base 2 "_law_no_column" ["_law_worker_here","_law_head","_law_ends"] (yn n):=by
 refine F.ok kW λf cdv A outer s H vs Q E hr h=>?_
 have hu:=iM hr
 have hu1:=jY hr
 obtain⟨a,b,l,x,h,as,es,rfl,hI,q⟩:=h
 refine⟨_,(aN (aW aP (az K (pv 0) ai) ao) (fJ (bU il (az K (pv 0) ai) (aZ bF rfl B.len PySem.boot_len (ae (bj K (pv 2) ai) ah))) (cT (bU il (az K (pv 0) ai) (aZ bF rfl B.len PySem.boot_len (ae (bj K (pv 2) ai) ah)))))
   (av (bU (CP hu) (bw (N':=["_law_column_here","_law_head"]) (src:=[none,some 1]) rfl (ba.jE (by kernel_rfl)) (fh (ax dJ hr (ae (pv 0) ah))) (λcl C s H fp=>(el (i:=0))) (tc:=(qK (gB (zi λi j=>.bl (decide (j<i))) (bx 0) (Kp (LX K) (bp (bx 1) fz))))) (λcl C s H fp=>oO (aW il (iX 0) (aZ zK xP B.len PySem.boot_len (ae (yl 1) ah)))) (te:=(bx 0)) (λcl C s H fp=>(iX 0))) (aQ ah)))),?_⟩
 obtain⟨xs,h1⟩:=hI.wk.first
 refine⟨_,rfl,a,_,0,_,rfl,rfl,aH.of h1,au (j:=0) rfl,rfl,_,rfl,?_⟩
 rw [bM]
 by_cases e:x.nm="meet"
 ·rw [T_ e]
  obtain⟨c,d,p,q',rfl⟩:=iB e
  obtain⟨h0,h2,rfl⟩:=dF (hI.n rfl)
  obtain⟨a0,e0,gm⟩:=hI.en.nth (i:=0) rfl
  obtain⟨a1,e1,ve⟩:=hI.en.nth (i:=1) rfl
  have ha:=hI.wk
  have hp:1<=c/\1<=d:=hI.posm
  cases n with
  | zero=>exact False.elim ha
  | succ n =>
  obtain⟨b',e',bs,es',h1,_⟩:=ha
  have q:=q H (aM.refl _)
  have q:Q (.bl (!(there c h0&&there d h2))) H:=q
  rw [og hp.1,og hp.2]at q
  refine bZ ⟨_,rfl,a,_,1,_,rfl,rfl,aH.of h1,rfl,_,rfl,l,_,0,_,rfl,rfl,a_.of hI.en.lst,au (j:=0) e0,a0,_,rfl,.inr (aH.of gm),_,_,rfl,rfl,_,rfl,?_⟩
  rw [Ua]
  refine cH (λk=>?_) (λk=>?_)
  ·have k:=UI k
   rw [T9 (show¬c<=(h0.length:Nat) by omega)]at q
   exact q
  ·have k:¬(h0.length:Nat)<c:=λz=>k (T_ z)
   rw [T_ (show c<=(h0.length:Nat) by omega),Bool.true_and]at q
   refine⟨_,rfl,a,_,2,_,rfl,rfl,aH.of h1,rfl,_,rfl,l,_,1,_,rfl,rfl,a_.of hI.en.lst,au (j:=1) e1,a1,_,rfl,.inr (aH.of ve),_,_,rfl,rfl,?_⟩
   rw [Ua]
   show Q (.bl (decide ((h2.length:Int)<d))) H
   by_cases z:d<=(h2.length:Nat)
   ·rw [T_ z]at q
    rw [T9 (show¬(h2.length:Int)<d by omega)]
    exact q
   ·rw [T9 z]at q
    rw [T_ (show(h2.length:Int)<d by omega)]
    exact q
 rw [T9 e]
 have NI:c9 x (kF x h es)=(gy x).all λc=>there c h:=by
  cases x with
  | one x=>rfl
  | both p q=>rfl
  | meet c d p q=>exact absurd rfl e
 have Tj:(h.map V.str).length=h.length:=Ua _
 refine bA (aG ⟨_,rfl,a,x,rfl,hI.wk,hI.sm,λu H1 s1 jK=>⟨u,rfl,⟨_,a_.of jK⟩,λD hD=>?_⟩⟩)
 refine dG (xs:=(gy x).map V.int) (λi σ ys H'=>(∃o,σ=[o,some (.ref b)])/\ys=(((gy x).take i).filter λc=>decide ((h.length:Int)<c)).map V.int/\ys.length<=i/\H' D=some (.lst ys)/\aM H1 H') ⟨⟨none,rfl⟩,rfl,T7 _,ag,aj hD _⟩ ?_ ?_ ?_ ?_ ?_
 ·rintro i σ ys H' _ ⟨_,_,hi,h,_⟩
  exact⟨h,hi⟩
 ·rintro i σ ys H' _ ⟨_,_,_,_,sm⟩
  exact a_.of (sm _ _ jK)
 ·rw [Ua]; exact T8 (qV hI.sm) (by decide)
 ·rintro i v σ ys H' hv ⟨⟨o,rfl⟩,rfl,hi,hh,sm⟩
  rw [Uy]at hv
  cases ec:(gy x)[i]? with
  | none=>rw [ec]at hv; cases hv
  | some c =>
   rw [ec]at hv
   have hv:V.int c=v:=Uv hv
   subst hv
   refine⟨_,rfl,_,rfl,b,_,rfl,.inr (aH.of (sm _ _ (s1 _ _ hI.hd))),_,_,rfl,rfl,_,rfl,?_⟩
   refine cH (λk=>?_) (λk=>?_) <;> rw [Tj]at k
   ·refine⟨_,rfl,hh,⟨_,rfl⟩,?_,by rw [Ub]; exact Nat.add_le_add_right hi 1,ag,bq hD sm⟩
    rw [vc ec,if_pos k,Uc]; rfl
   ·refine⟨⟨_,rfl⟩,?_,Nat.le_succ_of_le hi,hh,sm⟩
    rw [vc ec,if_neg k,List.append_nil]
 ·rintro σ ys H' ⟨_,rfl,_,hh,sm⟩
  rw [Ua,List.take_length]at hh
  refine⟨Uu _,λR hR=>⟨D,R,_,rfl,rfl,aj hR _ _ _ hh,ag,?_⟩⟩
  have q:=q _ (s1.trans (sm.trans (aj hR (.lst []))))
  rw [NI,←EB hI.pos]at q
  show Q (.bl (!(((gy x).filter _).map V.int).isEmpty)) _
  rw [List.isEmpty_map]
  exact q
def t_:W1->Str->Bool
 | .walk _ mv,t=>!(decide (iZ ((mv.filter λv=>!decide (v=.non)).map sW)=[])||decide (iZ ((mv.filter λv=>!decide (v=.non)).map sW)=[t]))
 | .turn _ ps,t=>!decide (iZ ((ps.map λp=>p.1).map sW)=[t]) || !decide (iZ ((ps.map λp=>p.2).map sW)=[t])
 | .must _ ps,t=>!decide (iZ ((ps.map λp=>p.1).map sW)=[t])||decide (1<(iZ ((ps.map λp=>p.2).map sW)).length)
 | _,_=>false
def rj(x:W1):Prop:=(∃c ps,x=.turn c ps)\/(∃c ps,x=.must c ps)\/∃c mv,x=.walk c mv
def MH(n:Nat):Sp:=λvs H Q _=>∃(a:Addr) (x:W1) (t:Str),vs=[.ref a,.str t]/\dj n H a (.one x)/\rj x/\CU x/\∀H',aM H H'->Q (.bl (t_ x t)) H'
theorem jm(s t:List Str):cM (.lst (s.map D.str)) (.lst (t.map D.str))=decide (s=t):=by
 rw [←oH s t]
 simp only [cM]
theorem ku{K:UJ}{H:Hp}{a:Addr}{h:List Str}(e:H a=some (.lst (h.map V.str))):aY K H (.lst (h.map D.str)) (.ref a):=kM e (lK h)
theorem uB(h:List Str):(D.lst (h.map D.str)).depth<=1:=by
 have:=kB h
 simp only [D.depth]at this⊢
 exact this
theorem qW{mv:List V}{i:Nat}{v:V}{p:V->Bool}(h:mv[i]? = some v):(mv.take (i+1)).filter p=(mv.take i).filter p++(if p v=true then [v]else []):=by
 rw [take_one h,List.filter_append]
 congr 1
 by_cases e:p v=true <;> simp [e]
theorem F2{x:W1}(hx:rj x)(h:x.nm="walk"):∃c mv,x=.walk c mv:=by
 rcases hx with⟨c,ps,rfl⟩ | ⟨c,ps,rfl⟩ | h
 ·exact absurd h (by simp only [W1.nm]; decide +kernel)
 ·exact absurd h (by simp only [W1.nm]; decide +kernel)
 ·exact h
theorem FU{v:V}(h:v=.non\/dO v)(n:¬decide (v=.non)=true):dO v:=by
 rcases h with rfl | h
 ·exact absurd (T_ rfl) n
 ·exact h
abbrev cK:Stmt:=top 70
theorem dN:ay ["_law_worker_here","_law_here","_law_ones","_law_others"] ["_law_worker_here","_law_here"] (ar cK):=fs
theorem z0{n:Nat}(B:jJ mg)(F:FA K mg "_law_cells_wrong" cK)
  (eF:bc bf P w K mg base 1 "_law_sorts" ["_law_cells"] rY) :
  bc bf P w K mg base 2 "_law_cells_wrong" ["_law_worker_here","_law_here"] (MH n):=by
 refine F.ok dN λf cdv A outer s H vs Q E hr h=>?_
 have hu:=iM hr
 have hu1:=jY hr
 obtain⟨a,x,t,rfl,ha,hx,hd,q⟩:=h
 refine⟨_,(aN (aW aP (az K (pv 0) ai) ao) (fF rA (ax eF hr (ae (bw (N':=["_law_state_here","_law_cell_here","_law_after"]) (src:=[none,none,none]) rfl (ba.jE (by kernel_rfl)) (cI (az K (pv 0) ai)) (g:=(iu K 3 (bP (bz 0) (bP (bz 1) (bP (bz 2) iJ))))) (λcl C s H fp=>(cB rfl (aA (el (i:=0)) (aA (el (i:=1)) (aA (el (i:=2)) bS))))) (tc:=(qK (gB (λx y H Q=>y=.non/\Q (.bl (!decide (x=.non))) H) (bx 1) (tC .non)))) (λcl C s H fp=>oO (aW tj (iX 1) iz)) (te:=(bx 1)) (λcl C s H fp=>(iX 1))) ah)) (aQ (ae (aQ ah) (ae (aQ (ae (pv 1) ah)) ah))) rfl)
   (aq (aL (i:=2) dN.nd rfl (Or.inl rfl) (ax eF hr (ae (bw (N':=["_law_a","_law_b"]) (src:=[none,none]) rfl (ba.jE (by kernel_rfl)) (cI (az K (pv 0) ai)) (g:=(iu K 2 (bP (bz 0) (bP (bz 1) iJ)))) (λcl C s H fp=>(cB rfl (aA (el (i:=0)) (aA (el (i:=1)) bS)))) (λcl C s H fp=>aX) (te:=(bx 0)) (λcl C s H fp=>(iX 0))) ah)))
   (aq (aL (i:=3) dN.nd rfl (Or.inl rfl) (ax eF hr (ae (bw (N':=["_law_a","_law_b"]) (src:=[none,none]) rfl (ba.jE (by kernel_rfl)) (cI (az K (pv 0) ai)) (g:=(iu K 2 (bP (bz 0) (bP (bz 1) iJ)))) (λcl C s H fp=>(cB rfl (aA (el (i:=0)) (aA (el (i:=1)) bS)))) (λcl C s H fp=>aX) (te:=(bx 1)) (λcl C s H fp=>(iX 1))) ah)))
   (aN (aW aP (az K (pv 0) ai) ao) (fJ (bU jt (pv 2) (aQ (ae (pv 1) ah))) (cT (bU jt (pv 3) (aQ (ae (pv 1) ah)))))
   (av (fJ (bU jt (pv 2) (aQ (ae (pv 1) ah))) (cT (bU il (aZ bF rfl B.len PySem.boot_len (ae (pv 3) ah)) ai)))))))),?_⟩
 obtain⟨xs,h1⟩:=ha.first
 refine⟨_,rfl,a,_,0,_,rfl,rfl,aH.of h1,au (j:=0) rfl,rfl,_,rfl,?_⟩
 rw [bM]
 by_cases e:x.nm="walk"
 ·rw [T_ (show(Wk.one x).nm="walk" from e)]
  obtain⟨c,mv,rfl⟩:=F2 hx e
  obtain⟨st,t',bs,h1,hI⟩:=bW.mp ha
  have hz:mv.length<=50:=hd.ne
  have hg:∀v∈mv,v=.non\/dO v:=hd.good
  have hlb:(bs.map V.ref).length=mv.length:=by rw [Ua,hI.len]
  refine bZ ⟨_,rfl,a,_,3,_,rfl,rfl,aH.of h1,rfl,t',rfl,⟨_,aH.of hI.tup⟩,λDl hD=>?_⟩
  refine cE (xs:=bs.map V.ref) (λi σ ys H'=>(∃o1 o2 o3,σ=[o1,o2,o3])/\ys=(mv.take i).filter (λv=>!decide (v=.non))/\ys.length<=i/\H' Dl=some (.lst ys)/\aM H H') ⟨⟨none,none,none,rfl⟩,rfl,T7 _,ag,aj hD _⟩ ?_ ?_ ?_ ?_ ?_
  ·rintro i σ ys H' _ ⟨_,_,hi,h,_⟩
   exact⟨h,hi⟩
  ·rintro i σ ys H' _ ⟨_,_,_,_,sm⟩
   exact aH.of (sm _ _ hI.tup)
  ·rw [hlb]; exact T8 hz (by decide)
  ·rintro i v σ ys H' hv ⟨⟨o1,o2,o3,rfl⟩,rfl,hi,h,sm⟩
   obtain⟨b,y,rfl,ey,s1,s2,hb⟩:=hI.get hv
   refine⟨b,_,rfl,aH.of (sm _ _ hb),rfl,_,_,rfl,ak ⟨_,_,rfl,ak ⟨_,_,rfl,ak ⟨rfl,?_⟩⟩⟩⟩
   refine⟨_,rfl,rfl,_,rfl,cH (λk=>?_) (λk=>?_)⟩
   ·refine⟨_,rfl,h,⟨_,_,_,rfl⟩,?_,by rw [Ub]; exact Nat.add_le_add_right hi 1,ag,bq hD sm⟩
    rw [qW ey,if_pos k]
   ·refine⟨⟨_,_,_,rfl⟩,?_,Nat.le_succ_of_le hi,h,sm⟩
    rw [qW ey,if_neg k,List.append_nil]
  ·rintro σ ys H1 ⟨_,rfl,hyl,h,sm⟩
   rw [hlb,List.take_length]at h
   rw [hlb,List.take_length]at hyl
   refine⟨Dl,_,rfl,h,by omega,λv hv=>?_,λu H2 s2 hu2=>?_⟩
   ·obtain⟨m1,m2⟩:=List.mem_filter.mp hv
    exact FU (hg v m1) (by simpa using m2)
   refine⟨Uu _,λR1 Pn=>⟨_,rfl,dP,λR2 yE=>⟨cJ,λR3 NZ=>?_⟩⟩⟩
   have t1:=aj Pn (.lst [])
   have t2:=aj yE (.lst [V.str t])
   have t3:=aj NZ (.lst [V.ref R1,.ref R2])
   have EN:cw [D.lst [],.lst [.str t]]<=1:=by simp [cw,D.depth]
   refine⟨_,[D.lst [],.lst [.str t]],R3,_,rfl,.inl (a_.of ag),ku ((t1.trans (t2.trans t3)) _ _ hu2),bD.cons (kM (t3 _ _ (t2 _ _ ag)) bD.nil) (bD.cons (kM (t3 _ _ ag) (bD.cons (gx _) bD.nil)) bD.nil),?_,?_⟩
   ·exact Ud (show(A.deeper (PyProof.Rows.envOfC "_law_cells_wrong" (ar cK) s.heap.objs.size f cdv)).units+1+cw _<=_ by omega) hu
   ·have q:=q _ (sm.trans (s2.trans (t1.trans (t2.trans t3))))
    have e1:=jm [] (iZ ((mv.filter λv=>!decide (v=.non)).map sW))
    have e2:=jm [t] (iZ ((mv.filter λv=>!decide (v=.non)).map sW))
    show Q (.bl (!(cM (.lst []) _||(cM (.lst [.str t]) _||false)))) _
    rw [show D.lst []=.lst (([]:List Str).map D.str) from rfl,show D.lst [.str t]=.lst (([t]:List Str).map D.str) from rfl,e1,e2,Bool.or_false]
    have q:Q (.bl (!(decide (iZ ((mv.filter λv=>!decide (v=.non)).map sW)=[])||decide (iZ ((mv.filter λv=>!decide (v=.non)).map sW)=[t])))) _:=q
    rw [show decide (([]:List Str)=iZ ((mv.filter λv=>!decide (v=.non)).map sW))=decide (iZ ((mv.filter λv=>!decide (v=.non)).map sW)=[]) from by simp only [eq_comm],show decide ([t]=iZ ((mv.filter λv=>!decide (v=.non)).map sW))=decide (iZ ((mv.filter λv=>!decide (v=.non)).map sW)=[t]) from by simp only [eq_comm]]
    exact q
 rw [T9 (show¬(Wk.one x).nm="walk" from e)]
 have key:∃(c:Int) (ps:List (V×V)) (t':Addr) (bs:List Addr),H a=some (.tup [.str x.nm,.int c,.ref t'])/\bO j6 H t' bs ps/\ps.length<=50/\(∀p∈ps,dO p.1/\dO p.2)/\t_ x t=(!decide (iZ ((ps.map λp=>p.1).map sW)=[t])||(if x.nm="turn" then !decide (iZ ((ps.map λp=>p.2).map sW)=[t])else decide (1<(iZ ((ps.map λp=>p.2).map sW)).length))):=by
  rcases hx with⟨c,ps,rfl⟩ | ⟨c,ps,rfl⟩ | ⟨c,mv,rfl⟩
  ·obtain⟨t',bs,h1,hI⟩:=bW.mp ha
   exact⟨c,ps,t',bs,h1,hI,hd.ne.2,hd.good,by rw [if_pos (show(W1.turn c ps).nm="turn" from rfl)]; rfl⟩
  ·obtain⟨t',bs,h1,hI⟩:=bW.mp ha
   exact⟨c,ps,t',bs,h1,hI,hd.ne.2,hd.good,by rw [if_neg (by simp only [W1.nm]; decide +kernel)]; rfl⟩
  ·exact absurd rfl e
 obtain⟨c,ps,t',bs,h1,hI,hz,hg,hcw⟩:=key
 rw [hcw]at q
 have hlb:(bs.map V.ref).length=ps.length:=by rw [Ua,hI.len]
 refine bA (aG ⟨_,rfl,a,_,2,_,rfl,rfl,aH.of h1,rfl,t',rfl,⟨_,aH.of hI.tup⟩,λDl hD=>?_⟩)
 refine cE (xs:=bs.map V.ref) (λi σ ys H'=>(∃o1 o2,σ=[o1,o2])/\ys=(ps.take i).map (λp=>p.1)/\ys.length=i/\H' Dl=some (.lst ys)/\aM H H') ⟨⟨none,none,rfl⟩,rfl,rfl,ag,aj hD _⟩ ?_ ?_ ?_ ?_ ?_
 ·rintro i σ ys H' _ ⟨_,_,hi,h,_⟩
  exact⟨h,Nat.le_of_eq hi⟩
 ·rintro i σ ys H' _ ⟨_,_,_,_,sm⟩
  exact aH.of (sm _ _ hI.tup)
 ·rw [hlb]; exact T8 hz (by decide)
 ·rintro i v σ ys H' hv ⟨⟨o1,o2,rfl⟩,rfl,hi,h,sm⟩
  obtain⟨b,y,rfl,ey,hb⟩:=hI.get hv
  refine⟨b,_,rfl,aH.of (sm _ _ hb),rfl,_,_,rfl,ak ⟨_,_,rfl,ak ⟨rfl,?_⟩⟩⟩
  refine⟨_,rfl,h,⟨_,_,rfl⟩,?_,?_,ag,bq hD sm⟩
  ·rw [take_one ey,Uc]; rfl
  ·rw [Ub,hi]; rfl
 rintro σ ys H1 ⟨_,rfl,hyl,h,sm⟩
 rw [hlb,List.take_length]at h
 refine⟨Dl,_,rfl,h,by rw [Ua]; omega,λv hv=>?_,λu1 H2 s2 jK=>ak ?_⟩
 ·obtain⟨p,hp,rfl⟩:=Up.mp hv
  exact(hg p hp).1
 have s12:=sm.trans s2
 dsimp only
 refine⟨_,rfl,a,_,2,_,rfl,rfl,aH.of (s12 _ _ h1),rfl,t',rfl,⟨_,aH.of (s12 _ _ hI.tup)⟩,λD2 hD2=>?_⟩
 refine cE (xs:=bs.map V.ref) (λi σ ys H'=>(∃o1 o2,σ=[o1,o2])/\ys=(ps.take i).map (λp=>p.2)/\ys.length=i/\H' D2=some (.lst ys)/\aM H2 H') ⟨⟨none,none,rfl⟩,rfl,rfl,ag,aj hD2 _⟩ ?_ ?_ ?_ ?_ ?_
 ·rintro i σ ys H' _ ⟨_,_,hi,h,_⟩
  exact⟨h,Nat.le_of_eq hi⟩
 ·rintro i σ ys H' _ ⟨_,_,_,_,sm⟩
  exact aH.of (sm _ _ (s12 _ _ hI.tup))
 ·rw [hlb]; exact T8 hz (by decide)
 ·rintro i v σ ys H' hv ⟨⟨o1,o2,rfl⟩,rfl,hi,h,sm'⟩
  obtain⟨b,y,rfl,ey,hb⟩:=hI.get hv
  refine⟨b,_,rfl,aH.of (sm' _ _ (s12 _ _ hb)),rfl,_,_,rfl,ak ⟨_,_,rfl,ak ⟨rfl,?_⟩⟩⟩
  refine⟨_,rfl,h,⟨_,_,rfl⟩,?_,?_,ag,bq hD2 sm'⟩
  ·rw [take_one ey,Uc]; rfl
  ·rw [Ub,hi]; rfl
 rintro de Sw H3 ⟨_,rfl,O9,h2,sm3⟩
 rw [hlb,List.take_length]at h2
 refine⟨D2,_,rfl,h2,by rw [Ua]; omega,λv hv=>?_,λu2 H4 s4 hu2=>ak ?_⟩
 ·obtain⟨p,hp,rfl⟩:=Up.mp hv
  exact(hg p hp).2
 have MR:=sm3.trans s4
 have qp:=s12.trans MR
 have G9:=MR _ _ jK
 dsimp only
 have EN:∀ss:List Str,(A.deeper (PyProof.Rows.envOfC "_law_cells_wrong" (ar cK) s.heap.objs.size f cdv)).units+(D.lst (ss.map D.str)).depth<cLine:=λss=>Ud (Nat.add_le_add_left (T8 (uB ss) (by decide:1<=8)) _) hu
 refine⟨_,rfl,a,_,0,_,rfl,rfl,aH.of (qp _ _ h1),au (j:=0) rfl,rfl,_,rfl,?_⟩
 rw [bM]
 have step:∀(tb:TE) (H5:Hp),True:=λ_ _=>trivial
 by_cases e2:x.nm="turn"
 ·rw [T_ e2]
  rw [if_pos e2]at q
  refine bZ ⟨_,rfl,_,rfl,dP,λR hR=>?_⟩
  have tR:=aj hR (.lst [V.str t])
  refine⟨_,_,ku (tR _ _ G9),ku (h:=[t]) ag,EN _,_,rfl,?_⟩
  rw [jm]
  by_cases z:iZ ((ps.map λp=>p.1).map sW)=[t]
  ·rw [T_ z]at q⊢
   refine bA ⟨_,rfl,_,rfl,dP,λR2 yE=>?_⟩
   have Qe:=aj yE (.lst [V.str t])
   refine⟨_,_,ku (Qe _ _ (tR _ _ hu2)),ku (h:=[t]) ag,EN _,?_⟩
   rw [jm]
   exact q _ (qp.trans (tR.trans Qe))
  ·rw [T9 z]at q⊢
   exact bZ (q _ (qp.trans tR))
 ·rw [T9 e2]
  rw [if_neg e2]at q
  refine bA (aG ⟨_,rfl,_,rfl,dP,λR hR=>?_⟩)
  have tR:=aj hR (.lst [V.str t])
  refine⟨_,_,ku (tR _ _ G9),ku (h:=[t]) ag,EN _,_,rfl,?_⟩
  rw [jm]
  by_cases z:iZ ((ps.map λp=>p.1).map sW)=[t]
  ·rw [T_ z]at q⊢
   refine bA ⟨_,rfl,u2,_,rfl,.inl (a_.of (tR _ _ hu2)),_,_,rfl,rfl,?_⟩
   have q:=q _ (qp.trans tR)
   show Q (.bl (decide ((1:Int)<(((iZ ((ps.map λp=>p.2).map sW)).map V.str).length:Nat)))) _
   rw [Ua,show decide ((1:Int)<((iZ ((ps.map λp=>p.2).map sW)).length:Nat))=decide (1<(iZ ((ps.map λp=>p.2).map sW)).length) from by simp only [decide_eq_decide]; omega]
   exact q
  ·rw [T9 z]at q⊢
   exact bZ (q _ (qp.trans tR))
theorem tS(us:List V):∀s∈us.map sW,s="n"\/s="w":=λs hs=>by obtain⟨v,_,rfl⟩:=Up.mp hs; exact GR v
theorem tq{us:List V}(hn:us≠[])(t:Str):iZ (us.map sW)=[t]↔∀v∈us,sW v=t:=by
 constructor
 ·intro h v hv
  have:=(lA (tS us) (sW v)).mpr (Up.mpr ⟨v,hv,rfl⟩)
  rw [h]at this
  exact Uo.mp this
 ·intro h
  refine nZ (De _) (List.pairwise_singleton _ _) λs=>(lA (tS us) s).trans ⟨λm=>?_,λm=>?_⟩
  ·obtain⟨v,hv,rfl⟩:=Up.mp m
   rw [h v hv]; simp
  ·rw [Uo.mp m]
   cases us with
   | nil=>exact absurd rfl hn
   | cons v vs=>exact Up.mpr ⟨v,by simp,h v (by simp)⟩
theorem tF{us:List V}(hn:us≠[])(t:Str):decide (iZ (us.map sW)=[t])=us.all λv=>decide (sW v=t):=by
 apply Bool.eq_iff_iff.mpr
 rw [decide_eq_true_iff,tq hn,List.all_eq_true]
 exact⟨λh v hv=>T_ (h v hv),λh v hv=>UI (h v hv)⟩
theorem FQ(us:List V):decide (1<(iZ (us.map sW)).length) = !cP (us.map sW):=by
 cases us with
 | nil=>rfl
 | cons v vs =>
  by_cases h:∀u∈v::vs,sW u=sW v
  ·rw [(tq (by simp) (sW v)).mpr h]
   have:cP ((v::vs).map sW)=true:=by
    unfold cP
    rw [List.all_eq_true]
    intro s hs
    obtain⟨u,hu,rfl⟩:=Up.mp hs
    exact T_ (h u hu)
   rw [this]
   rfl
  ·have h2:cP ((v::vs).map sW)=false:=by
    apply Ur.mpr
    intro z
    unfold cP at z
    rw [List.all_eq_true]at z
    exact h λu hu=>UI (z (sW u) (Up.mpr ⟨u,hu,rfl⟩))
   rw [h2]
   have hlen:1<(iZ ((v::vs).map sW)).length:=by
    match hs:iZ ((v::vs).map sW)with
    | [] =>
     have:=(lA (tS (v::vs)) (sW v)).mpr (by simp)
     rw [hs]at this
     cases this
    | [a] =>
     exfalso
     have e:=(tq (by simp) a).mp hs
     exact h λu hu=>by rw [e u hu,e v (by simp)]
    | a::b::r=>simp
   rw [T_ hlen]
   rfl
theorem Fo{x:W1}{h:Hd}{t:Str}{c:Int}(hx:rj x)(hd:CU x)(hc:c7 x=[c])(ht:bt h c=t)(nt:t≠"t"):bg (.one x) [h] = !t_ x t:=by
 rcases hx with⟨c',ps,rfl⟩ | ⟨c',ps,rfl⟩ | ⟨c',mv,rfl⟩ <;> cases hc
 ·have hn:ps≠[]:=hd.ne.1
  show cS (ps.flatMap λp=>[p.1,p.2]) (bt h c) = !(_||_)
  rw [ht,tF (by simpa using hn),tF (by simpa using hn)]
  unfold cS
  rw [T9 nt,List.all_flatMap,List.all_map,List.all_map]
  clear hd hn
  induction ps with
  | nil=>rfl
  | cons p ps ih =>
   simp only [Bool.not_false,Bool.true_and]at ih⊢
   rw [List.all_cons,List.all_cons,List.all_cons,ih]
   simp only [List.all_cons,List.all_nil,Function.comp,Bool.and_true]
   cases decide (sW p.1=t) <;> cases decide (sW p.2=t) <;> simp
 ·have hn:ps≠[]:=hd.ne.1
  show(cP (ps.map λp=>sW p.2)&&cS (ps.map λp=>p.1) (bt h c)) = !(_||_)
  rw [ht,tF (by simpa using hn),FQ]
  unfold cS
  rw [T9 nt,List.map_map]
  simp only [Bool.not_or,Bool.not_not,Bool.not_false,Bool.true_and]
  rw [Bool.and_comm]
  rfl
 ·show cS (mv.filter λv=>!decide (v=.non)) (bt h c) = !(!(_||_))
  rw [ht,Bool.not_not]
  unfold cS
  rw [T9 nt]
  by_cases e:mv.filter (λv=>!decide (v=.non))=[]
  ·rw [e]; rfl
  ·rw [tF e]
   have:decide (iZ ((mv.filter λv=>!decide (v=.non)).map sW)=[])=false:=by
    apply T9
    intro z
    cases hm:mv.filter (λv=>!decide (v=.non))with
    | nil=>exact e hm
    | cons v vs =>
     have:=(lA (tS (mv.filter λv=>!decide (v=.non))) (sW v)).mpr (by rw [hm]; simp)
     rw [z]at this
     cases this
   rw [this]
   rfl
def oZ:W1->Int
 | .keep c _=>c
 | .same _ d=>d
 | .turn c _=>c
 | .must c _=>c
 | .walk c _=>c
 | .sum _ c=>c
 | _=>0
def BM(x:W1):Prop:=(∃c t,x=.keep c t)\/(∃c d,x=.same c d)\/(∃cs c,x=.sum cs c)\/rj x
theorem Bs{x:W1}(h:BM x):∃pre,c7 x=pre++[oZ x]:=by
 rcases h with⟨c,t,rfl⟩ | ⟨c,d,rfl⟩ | ⟨cs,c,rfl⟩ | ⟨c,ps,rfl⟩ | ⟨c,ps,rfl⟩ | ⟨c,mv,rfl⟩
 ·exact⟨[],rfl⟩
 ·exact⟨[c],rfl⟩
 ·exact⟨cs,rfl⟩
 ·exact⟨[],rfl⟩
 ·exact⟨[],rfl⟩
 ·exact⟨[],rfl⟩
theorem Iu{x:Wk}:inV (.str x.nm) [.str "keep",.str "same",.str "turn",.str "must",.str "walk",.str "sum"]=true->∃y,x=.one y/\BM y:=by
 cases x with
 | one x=>cases x <;> simp only [Wk.nm,W1.nm] <;> intro h <;> first | exact⟨_,rfl,.inl ⟨_,_,rfl⟩⟩ | exact⟨_,rfl,.inr (.inl ⟨_,_,rfl⟩)⟩ | exact⟨_,rfl,.inr (.inr (.inl ⟨_,_,rfl⟩))⟩ | exact⟨_,rfl,.inr (.inr (.inr (.inl ⟨_,_,rfl⟩)))⟩ | exact⟨_,rfl,.inr (.inr (.inr (.inr (.inl ⟨_,_,rfl⟩))))⟩ | exact⟨_,rfl,.inr (.inr (.inr (.inr (.inr ⟨_,_,rfl⟩))))⟩ | exact absurd h (by decide +kernel)
 | both p q=>simp only [Wk.nm]; intro h; exact absurd h (by decide +kernel)
 | meet c d p q=>simp only [Wk.nm]; intro h; exact absurd h (by decide +kernel)
theorem FI{x:Wk}{hs:List Hd}(h:¬inV (.str x.nm) [.str "keep",.str "same",.str "turn",.str "must",.str "walk",.str "sum"]=true)(h1:x.nm≠"both")(h2:x.nm≠"meet"):bg x hs=true:=by
 cases x with
 | one x=>cases x <;> first | rfl | exact absurd (by simp only [Wk.nm,W1.nm]; decide +kernel) h
 | both p q=>exact absurd rfl h1
 | meet c d p q=>exact absurd rfl h2
theorem za{x:Wk}(h:x.nm="both"):∃p q,x=.both p q:=by
 revert h
 cases x with
 | one x=>cases x <;> simp only [Wk.nm,W1.nm] <;> (intro h; exact absurd h (by decide +kernel))
 | both p q=>intro h; exact⟨_,_,rfl⟩
 | meet c d p q=>simp only [Wk.nm]; intro h; exact absurd h (by decide +kernel)
theorem Fb{x:W1}(h:BM x)(h1:x.nm≠"keep")(h2:x.nm≠"same")(h3:x.nm≠"sum"):rj x:=by
 rcases h with⟨c,t,rfl⟩ | ⟨c,d,rfl⟩ | ⟨cs,c,rfl⟩ | h
 ·exact absurd rfl h1
 ·exact absurd rfl h2
 ·exact absurd rfl h3
 ·exact h
theorem CH{x:W1}(h:rj x):c7 x=[oZ x]:=by
 rcases h with⟨c,ps,rfl⟩ | ⟨c,ps,rfl⟩ | ⟨c,mv,rfl⟩ <;> rfl
def vi(n:Nat):Sp:=λvs H Q _=>∃(a b l:Addr) (x:Wk) (h:Hd) (as:List Addr) (es:List Hd),vs=[.ref a,.ref b,.ref l]/\uz n H a b l x h as es/\c9 x (kF x h es)=true/\∀H',aM H H'->Q (.bl (!bg x (kF x h es))) H'
abbrev fN:Stmt:=top 71
theorem dZ:ay ["_law_worker_here","_law_head","_law_ends","_law_word_here","_law_pair","_law_here"] ["_law_worker_here","_law_head","_law_ends"] (ar fN):=fs
theorem zw{n:Nat}(B2:iR mg)(F:FA K mg "_law_no_sort" fN)
  (dJ:bc bf P w K mg base 1 "_law_told_columns" ["_law_worker_here"] (yg n))
  (j4:bc bf P w K mg base 2 "_law_cells_wrong" ["_law_worker_here","_law_here"] (MH n)) :
  bc bf P w K mg base 3 "_law_no_sort" ["_law_worker_here","_law_head","_law_ends"] (vi n):=by
 refine F.ok dZ λf cdv A outer s H vs Q E hr h=>?_
 have hu:=iM hr
 obtain⟨a,b,l,x,h,as,es,rfl,hI,hf,q⟩:=h
 refine⟨_,(aq (aL (i:=3) dZ.nd rfl (Or.inl rfl) (az K (pv 0) ai))
   (aN (aW aP (pv 3) ao) (bU jt (bj K (pv 2) ai) (bj K (pv 2) ai))
   (aq (dv (aW aP (pv 3) ao)
    (aq (aL (i:=4) dZ.nd rfl (Or.inl rfl) (aJ (ae (az K (bj K (pv 2) ai) (aF bJ (az K (pv 0) ai) ai)) (ae (az K (bj K (pv 2) ai) (aF bJ (az K (pv 0) ai) ai)) ah))))
     (av (fJ (bU mz (az K (pv 4) ai) (az K (pv 4) ai)) (cT (bU aP (az K (pv 4) ai) ao)))))
    b9)
   (aN (dc iH (pv 3) (aQ (ae ao (ae ao (ae ao (ae ao (ae ao (ae ao ah))))))) rfl) fQ
   (aq (aL (i:=5) dZ.nd rfl (Or.inl rfl) (az K (pv 1) (aF bJ (bj K (ax dJ hr (ae (pv 0) ah)) (rm lM ai)) ai)))
   (aN (aW aP (pv 3) ao) (bU mz (az K (az K (pv 0) ai) ai) (bj K (aQ (ae (pv 5) (ae ao ah))) (aV cz rfl B2.int PyProof.Rows.boot_int (ae (bU aP (pv 5) ao) ah))))
   (aN (aW aP (pv 3) ao) (fJ (bU aP (pv 5) ao) (cT (bU mz (pv 5) (az K (pv 1) (aF bJ (az K (pv 0) ai) ai)))))
   (aN (aW aP (pv 3) ao) (bU aP (pv 5) ao)
   (av (fJ (bU aP (pv 5) ao) (cT (ax j4 hr (ae (pv 0) (ae (pv 5) ah)))))))))))))),?_⟩
 obtain⟨xs,h1⟩:=hI.wk.first
 refine⟨_,rfl,a,_,0,_,rfl,rfl,aH.of h1,au (j:=0) rfl,ak ?_⟩
 dsimp only
 refine⟨_,rfl,rfl,_,rfl,?_⟩
 rw [bM]
 by_cases e1:x.nm="both"
 ·rw [T_ e1]
  obtain⟨p,q',rfl⟩:=za e1
  obtain⟨h0,h2,rfl⟩:=dF (hI.n rfl)
  obtain⟨a0,e0,gm⟩:=hI.en.nth (i:=0) rfl
  obtain⟨a1,e1',ve⟩:=hI.en.nth (i:=1) rfl
  refine bZ ⟨_,rfl,l,_,0,_,rfl,rfl,a_.of hI.en.lst,au (j:=0) e0,_,rfl,l,_,1,_,rfl,rfl,a_.of hI.en.lst,au (j:=1) e1',_,_,yT gm,yT ve,?_,?_⟩
  ·exact Ud (Nat.add_le_add_left (T8 (kB h0) (by decide:1<=8)) _) hu
  ·rw [oH]
   exact q H (aM.refl _)
 rw [T9 e1]
 refine bA (aG ⟨_,rfl,rfl,_,rfl,?_⟩)
 rw [bM]
 by_cases e2:x.nm="meet"
 ·rw [T_ e2]
  obtain⟨c,d,p,q',rfl⟩:=iB e2
  obtain⟨h0,h2,rfl⟩:=dF (hI.n rfl)
  obtain⟨a0,e0,gm⟩:=hI.en.nth (i:=0) rfl
  obtain⟨a1,e1',ve⟩:=hI.en.nth (i:=1) rfl
  have hf:(there c h0&&there d h2)=true:=hf
  rw [UH]at hf
  have ha:=hI.wk
  cases n with
  | zero=>exact False.elim ha
  | succ n =>
  obtain⟨b',e',bs,es',h1,_⟩:=ha
  refine bZ ⟨_,rfl,l,_,0,_,rfl,rfl,a_.of hI.en.lst,au (j:=0) e0,_,rfl,a,_,1,_,rfl,rfl,aH.of h1,rfl,_,_,rfl,rfl,a0,_,_,_,rfl,rfl,aH.of gm,dD (eV hf.1),?_⟩
  refine⟨_,rfl,l,_,1,_,rfl,rfl,a_.of hI.en.lst,au (j:=1) e1',_,rfl,a,_,2,_,rfl,rfl,aH.of h1,rfl,_,_,rfl,rfl,a1,_,_,_,rfl,rfl,aH.of ve,dD (eV hf.2),cJ,λu hu'=>ak ?_⟩
  have su:=aj hu' (.tup [.str (bt h0 c),.str (bt h2 d)])
  have hu0:upd H u (.tup [.str (bt h0 c),.str (bt h2 d)]) u=_:=ag
  revert su hu0
  generalize upd H u (.tup [.str (bt h0 c),.str (bt h2 d)])=H1
  intro su hu0
  dsimp only
  refine⟨_,rfl,u,_,0,_,rfl,rfl,aH.of hu0,au (j:=0) rfl,_,rfl,u,_,1,_,rfl,rfl,aH.of hu0,rfl,rfl,_,rfl,?_⟩
  have q:=q H1 su
  have q:Q (.bl (!(decide (bt h0 c=bt h2 d) && !decide (bt h0 c="t")))) H1:=q
  rw [bM]
  by_cases z:bt h0 c=bt h2 d
  ·rw [T_ z]at q⊢
   refine bA ⟨_,rfl,u,_,0,_,rfl,rfl,aH.of hu0,au (j:=0) rfl,rfl,?_⟩
   rw [bM]
   simpa using q
  ·rw [T9 z]at q⊢
   exact bZ q
 rw [T9 e2]
 refine bA (aG ⟨_,rfl,Mu,λR hR=>⟨R,_,rfl,.inl (a_.of ag),rfl,rfl,_,rfl,?_⟩⟩)
 have t1:=aj hR (.lst [V.str "keep",.str "same",.str "turn",.str "must",.str "walk",.str "sum"])
 revert t1
 generalize upd H R (.lst [V.str "keep",.str "same",.str "turn",.str "must",.str "walk",.str "sum"])=H1
 intro t1
 cases e3:inV (.str x.nm) [.str "keep",.str "same",.str "turn",.str "must",.str "walk",.str "sum"]with
 | false =>
  rw [FI (by rw [e3]; decide) e1 e2]at q
  exact bZ (q H1 t1)
 | true =>
 obtain⟨y,rfl,hy⟩:=Iu e3
 obtain⟨pre,hpre⟩:=Bs hy
 have Nv:=hI.same t1
 have hc:1<=oZ y/\oZ y<=h.length:=cF hf (by rw [hpre]; simp)
 refine bA (aG ⟨_,rfl,_,rfl,a,.one y,rfl,Nv.wk,Nv.sm,λu H2 s2 hu2=>?_⟩)
 have s12:=t1.trans s2
 have HQ:=Nv.same s2
 have hu2:H2 u=some (.lst ((pre.map V.int)++[.int (oZ y)])):=by
  rw [hu2]
  show some (HO.lst ((c7 y).map V.int))=_
  rw [hpre,Uc]
  rfl
 refine⟨_,rfl,u,_,-1,_,rfl,rfl,a_.of hu2,oF _ _,_,_,rfl,rfl,b,_,_,_,rfl,rfl,aH.of HQ.hd,dD hc,ak ?_⟩
 dsimp only
 have Es:∀s:Str,(Wk.one y).nm=s↔y.nm=s:=λs=>Iff.rfl
 refine⟨_,rfl,rfl,_,rfl,?_⟩
 rw [bM]
 by_cases e4:y.nm="keep"
 ·rw [T_ ((Es _).mpr e4)]
  obtain⟨c,t,hh⟩:=rZ ((Es _).mpr e4)
  cases hh
  obtain⟨st,ys,hk1,hk2⟩:=bW.mp HQ.wk
  refine bZ ⟨_,rfl,a,_,2,_,rfl,rfl,aH.of hk1,rfl,st,_,0,_,rfl,rfl,aH.of hk2,au (j:=0) rfl,_,rfl,cJ,λR2 yE=>?_⟩
  have t2:=aj yE (.lst [V.str (bt h c),.str "n"])
  refine⟨_,rfl,rfl,.inr ⟨_,rfl,R2,_,_,.str (fV (bt h c)),rfl,rfl,a_.of ag,?_,rfl,?_⟩⟩
  ·show i6 [V.str (bt h c),.str "n"] (if decide (V.str (bt h c)=V.str "t")=true then 1 else 0)=_
   unfold fV
   rw [bM]
   by_cases z:bt h c="t"
   ·rw [T_ z,if_pos z]; rfl
   ·rw [T9 z,if_neg z]; rfl
  ·show Q (.bl (!decide (V.str t=V.str (fV (bt h c))))) _
   rw [bM]
   exact q _ (s12.trans t2)
 rw [T9 (λz=>e4 ((Es _).mp z))]
 refine bA (aG ⟨_,rfl,rfl,_,rfl,?_⟩)
 rw [bM]
 by_cases e5:y.nm="same"
 ·rw [T_ ((Es _).mpr e5)]
  obtain⟨c,d,hh⟩:=ym ((Es _).mpr e5)
  cases hh
  have h2:H2 a=some (.tup [.str "same",.int c,.int d]):=bW.mp HQ.wk
  have hc1:=cF hf (c:=c) (by simp [c7])
  have q:=q H2 s12
  have q:Q (.bl (!(decide (bt h c=bt h d) && !decide (bt h c="t")))) H2:=q
  refine bZ ⟨_,rfl,rfl,_,rfl,?_⟩
  rw [bM]
  show if decide (bt h d="t")=true then _ else _
  by_cases z:bt h d="t"
  ·rw [T_ z]
   refine bZ ?_
   have:(!(decide (bt h c=bt h d) && !decide (bt h c="t")))=true:=by
    by_cases y1:bt h c=bt h d
    ·rw [T_ y1,y1,T_ z]; rfl
    ·rw [T9 y1]; rfl
   rw [this]at q
   exact q
  ·rw [T9 z]
   refine bA ⟨_,rfl,_,rfl,_,rfl,a,_,1,_,rfl,rfl,aH.of h2,rfl,_,_,rfl,rfl,b,_,_,_,rfl,rfl,aH.of HQ.hd,dD hc1,rfl,?_⟩
   show Q (.bl (!decide (V.str (bt h d)=V.str (bt h c)))) H2
   rw [bM]
   have:(!(decide (bt h c=bt h d) && !decide (bt h c="t"))) = !decide (bt h d=bt h c):=by
    by_cases y1:bt h c=bt h d
    ·rw [T_ y1,y1,T9 z,T_ rfl]; rfl
    ·rw [T9 y1,T9 (show¬bt h d=bt h c from λw=>y1 w.symm)]; rfl
   rw [this]at q
   exact q
 rw [T9 (λz=>e5 ((Es _).mp z))]
 refine bA (aG ⟨_,rfl,rfl,_,rfl,?_⟩)
 rw [bM]
 by_cases e6:y.nm="sum"
 ·rw [T_ ((Es _).mpr e6)]
  obtain⟨cs,c,hh⟩:=CW ((Es _).mpr e6)
  cases hh
  refine bZ ⟨_,rfl,rfl,?_⟩
  show Q (.bl (decide (V.str (bt h c)=V.str "w"))) H2
  rw [bM]
  have q:=q H2 s12
  have q:Q (.bl (!(!decide (bt h c="w")))) H2:=q
  rw [Bool.not_not]at q
  exact q
 rw [T9 (λz=>e6 ((Es _).mp z))]
 have ht:=Fb hy e4 e5 e6
 refine bA (aG ⟨_,rfl,rfl,_,rfl,?_⟩)
 rw [bM]
 by_cases z:bt h (oZ y)="t"
 ·rw [T_ z]
  have:bg (.one y) [h]=false:=by
   rcases ht with⟨c,ps,rfl⟩ | ⟨c,ps,rfl⟩ | ⟨c,mv,rfl⟩
   ·show cS _ (bt h c)=false
    rw [show bt h c="t" from z]; rfl
   ·show(_&&cS _ (bt h c))=false
    rw [show bt h c="t" from z,Bool.and_comm]; rfl
   ·show cS _ (bt h c)=false
    rw [show bt h c="t" from z]; rfl
  have q:=q H2 s12
  rw [show bg (.one y) (kF (.one y) h es)=false from this]at q
  exact bZ q
 ·rw [T9 z]
  refine bA ⟨_,rfl,_,rfl,a,y,_,rfl,HQ.wk,ht,HQ.dr,λH3 s3=>?_⟩
  have q:=q H3 (s12.trans s3)
  rw [show bg (.one y) (kF (.one y) h es) = !t_ y (bt h (oZ y)) from Fo ht HQ.dr (CH ht) rfl z,Bool.not_not]at q
  exact q
theorem Gb{v:V}{vs:List V}(h:cP ((v::vs).map sW)=true):iZ ((v::vs).map sW)=[sW v]:=by
 rw [tq (by simp)]
 unfold cP at h
 rw [List.all_eq_true]at h
 intro u hu
 exact UI (h (sW u) (Up.mpr ⟨u,hu,rfl⟩))
theorem I_{x:Wk}:inV (.str x.nm) [.str "cut",.str "count",.str "sum"]=true->∃cs,x=.one (.cut cs)\/x=.one (.count cs)\/∃c,x=.one (.sum cs c):=by
 cases x with
 | one x=>cases x <;> simp only [Wk.nm,W1.nm] <;> intro h <;> first | exact⟨_,.inl rfl⟩ | exact⟨_,.inr (.inl rfl)⟩ | exact⟨_,.inr (.inr ⟨_,rfl⟩)⟩ | exact absurd h (by decide +kernel)
 | both p q=>simp only [Wk.nm]; intro h; exact absurd h (by decide +kernel)
 | meet c d p q=>simp only [Wk.nm]; intro h; exact absurd h (by decide +kernel)
structure OL(x:Wk)(h:Hd)(es:List Hd):Prop where
 fit:c9 x (kF x h es)=true
 sort:bg x (kF x h es)=true
 hz:h.length<=1000
 ez:∀e∈es,e.length<=1000
def JD(n:Nat):Sp:=λvs H Q _=>∃(a b l:Addr) (x:Wk) (h:Hd) (as:List Addr) (es:List Hd),vs=[.ref a,.ref b,.ref l]/\uz n H a b l x h as es/\OL x h es/\∀(u:Addr) (H':Hp),aM H H'->dQ H' u (bE x (kF x h es))->Q (.ref u) H'
theorem Ll{x:Wk}(h:x.nm="must"):∃c ps,x=.one (.must c ps):=by
 revert h
 cases x with
 | one x=>cases x <;> simp only [Wk.nm,W1.nm] <;> first | (intro h; exact⟨_,_,rfl⟩) | (intro h; exact absurd h (by decide +kernel))
 | both p q=>simp only [Wk.nm]; intro h; exact absurd h (by decide +kernel)
 | meet c d p q=>simp only [Wk.nm]; intro h; exact absurd h (by decide +kernel)
def AL:Wk->Hd->Hd
 | .one (.cut cs),h=>cs.map (bt h)
 | .one (.count cs),h=>cs.map (bt h)
 | .one (.sum cs _),h=>cs.map (bt h)
 | _,h=>h
theorem F6{x:Wk}{h:Hd}(n:¬inV (.str x.nm) [.str "cut",.str "count",.str "sum"]=true):AL x h=h:=by
 cases x with
 | one x=>cases x <;> first | rfl | exact absurd (by simp only [Wk.nm,W1.nm]; decide +kernel) n
 | both p q=>rfl
 | meet c d p q=>rfl
theorem DM{x:Wk}{h:Hd}{es:List Hd}(n1:x.nm≠"both")(n2:x.nm≠"meet")(n3:x.nm≠"must"):bE x (kF x h es)=if inV (.str x.nm) [.str "count",.str "sum",.str "number"]=true then AL x h++(["t"]:Hd)else AL x h++(if x.nm="walk" then(["w"]:Hd)else []):=by
 cases x with
 | one x =>
  cases x <;> first
   | exact absurd rfl n3
   | (rw [if_pos (by simp only [Wk.nm,W1.nm]; decide +kernel)]; rfl)
   | (rw [if_neg (by simp only [Wk.nm,W1.nm]; decide +kernel),if_pos (by simp only [Wk.nm,W1.nm])]; rfl)
   | (rw [if_neg (by simp only [Wk.nm,W1.nm]; decide +kernel),if_neg (by simp only [Wk.nm,W1.nm]; decide +kernel),List.append_nil]; rfl)
 | both p q=>exact absurd rfl n1
 | meet c d p q=>exact absurd rfl n2
abbrev e8:Stmt:=top 72
theorem eG:ay ["_law_worker_here","_law_head","_law_ends","_law_word_here"] ["_law_worker_here","_law_head","_law_ends"] (ar e8):=fs
theorem vj{n:Nat}(B:jJ mg)(F:FA K mg "_law_head_next" e8)
  (eF:bc bf P w K mg base 1 "_law_sorts" ["_law_cells"] rY) :
  bc bf P w K mg base 2 "_law_head_next" ["_law_worker_here","_law_head","_law_ends"] (JD n):=by
 refine F.ok eG λf cdv A outer s H vs Q E hr h=>?_
 have hu:=iM hr
 obtain⟨a,b,l,x,h,as,es,rfl,hI,ho,q⟩:=h
 refine⟨_,(aq (aL (i:=3) eG.nd rfl (Or.inl rfl) (az K (pv 0) ai))
   (aN (aW aP (pv 3) ao) (bj K (pv 2) ai)
   (aN (aW aP (pv 3) ao) (aF cb (aF cb (bj K (pv 2) ai) (cu c8 (bj K (pv 2) ai) dy (cA (aF bJ (az K (pv 0) ai) ai)))) (cu c8 (bj K (pv 2) ai) (cA (az K (pv 0) ai)) dy))
   (aN (aW aP (pv 3) ao) (aF cb (aF cb (cu c8 (pv 1) dy (cA (aF bJ (az K (pv 0) ai) ai))) (aV bB rfl B.tuple PyProof.Rows.boot_tuple (ae (ax eF hr (ae (bw (N':=["_law_a","_law_b"]) (src:=[none,none]) rfl (ba.jE (by kernel_rfl)) (cI (az K (pv 0) ai)) (g:=(iu K 2 (bP (bz 0) (bP (bz 1) iJ)))) (λcl C s H fp=>(cB rfl (aA (el (i:=0)) (aA (el (i:=1)) bS)))) (λcl C s H fp=>aX) (te:=(bx 1)) (λcl C s H fp=>(iX 1))) ah)) ah))) (cu c8 (pv 1) (cA (az K (pv 0) ai)) dy))
   (aq (dv (dc cp (pv 3) (aQ (ae ao (ae ao (ae ao ah)))) rfl)
    (bK (aL (i:=1) eG.nd rfl (Or.inr rfl) (aV bB rfl B.tuple PyProof.Rows.boot_tuple (ae (bw (N':=["_law_column_here","_law_head"]) (src:=[none,some 1]) rfl (ba.jE (by kernel_rfl)) (cI (az K (pv 0) ai)) (λcl C s H fp=>(el (i:=0))) (λcl C s H fp=>aX) (te:=(gB (sj K) (bx 1) (gB (zi λi j=>V.int (i-j)) (bx 0) (tC (.int 1))))) (λcl C s H fp=>(az K (yl 1) (aF bJ (iX 0) ai)))) ah))))
    b9)
   (aN (dc cp (pv 3) (aQ (ae ao (ae ao (ae ao ah)))) rfl) (aF cb (pv 1) (aJ (ae ao ah)))
   (av (aF cb (pv 1) (eK (aW aP (pv 3) ao) (aJ (ae ao ah)) (aJ ah)))))))))),?_⟩
 obtain⟨xs,h1⟩:=hI.wk.first
 refine⟨_,rfl,a,_,0,_,rfl,rfl,aH.of h1,au (j:=0) rfl,ak ?_⟩
 dsimp only
 refine⟨_,rfl,rfl,_,rfl,?_⟩
 rw [bM]
 by_cases e1:x.nm="both"
 ·rw [T_ e1]
  obtain⟨p,q',rfl⟩:=za e1
  obtain⟨h0,h2,rfl⟩:=dF (hI.n rfl)
  obtain⟨a0,e0,gm⟩:=hI.en.nth (i:=0) rfl
  exact bZ ⟨_,rfl,l,_,0,_,rfl,rfl,a_.of hI.en.lst,au (j:=0) e0,q a0 H (aM.refl _) gm⟩
 rw [T9 e1]
 refine bA (aG ⟨_,rfl,rfl,_,rfl,?_⟩)
 rw [bM]
 by_cases e2:x.nm="meet"
 ·rw [T_ e2]
  obtain⟨c,d,p,q',rfl⟩:=iB e2
  obtain⟨h0,h2,rfl⟩:=dF (hI.n rfl)
  obtain⟨a0,e0,gm⟩:=hI.en.nth (i:=0) rfl
  obtain⟨a1,e1',ve⟩:=hI.en.nth (i:=1) rfl
  have hz0:=ho.ez h0 (by simp)
  have hz1:=ho.ez h2 (by simp)
  have hf:(there c h0&&there d h2)=true:=ho.fit
  rw [UH]at hf
  obtain⟨d1,d2⟩:=eV hf.2
  have ha:=hI.wk
  cases n with
  | zero=>exact False.elim ha
  | succ n =>
  obtain⟨b',e',bs,es',h1,_⟩:=ha
  refine bZ ⟨_,rfl,l,_,0,_,rfl,rfl,a_.of hI.en.lst,au (j:=0) e0,_,rfl,l,_,1,_,rfl,rfl,a_.of hI.en.lst,au (j:=1) e1',?_⟩
  refine⟨_,rfl,a,_,2,_,rfl,rfl,aH.of h1,rfl,_,_,rfl,rfl,_,rfl,a1,_,rfl,ve,λt1 H1 s1 ht1=>?_⟩
  rw [nq d1 d2]at ht1
  refine eO (s1 _ _ gm) ht1 (by rw [Uz]; omega) λt2 H2 s2 Dn=>?_
  have s12:=s1.trans s2
  refine⟨_,rfl,l,_,1,_,rfl,rfl,a_.of (s12 _ _ hI.en.lst),au (j:=1) e1',_,rfl,a,_,2,_,rfl,rfl,aH.of (s12 _ _ h1),rfl,_,rfl,a1,_,rfl,s12 _ _ ve,λt3 H3 s3 Ee=>?_⟩
  rw [jH d1 d2]at Ee
  exact eO (s3 _ _ Dn) Ee (by rw [Ub,Uz,List.length_drop]; omega) λt4 H4 s4 A3=>q t4 H4 (s12.trans (s3.trans s4)) A3
 rw [T9 e2]
 refine bA (aG ⟨_,rfl,rfl,_,rfl,?_⟩)
 rw [bM]
 by_cases e3:x.nm="must"
 ·rw [T_ e3]
  obtain⟨c,ps,rfl⟩:=Ll e3
  obtain⟨t,bs,h1,hP⟩:=bW.mp hI.wk
  obtain⟨c1,c2⟩:=cF ho.fit (c:=c) (by simp [c7])
  have hd:CU (.must c ps):=hI.dr
  have hg:∀p∈ps,dO p.1/\dO p.2:=hd.good
  have hne:ps≠[]:=hd.ne.1
  have hpz:ps.length<=50:=hd.ne.2
  have Qj:=ho.hz
  have hso:(cP (ps.map λp=>sW p.2)&&cS (ps.map λp=>p.1) (bt h c))=true:=ho.sort
  rw [UH]at hso
  have Ov:iZ ((ps.map λp=>p.2).map sW)=(ps.take 1).map λp=>sW p.2:=by
   cases ps with
   | nil=>exact absurd rfl hne
   | cons p ps =>
    have:=hso.1
    rw [show((p::ps).map λp=>sW p.2)=((p::ps).map λp=>p.2).map sW by rw [List.map_map]; rfl]at this
    rw [List.map_cons]at this⊢
    rw [Gb this]
    rfl
  have hlb:(bs.map V.ref).length=ps.length:=by rw [Ua,hP.len]
  refine bZ ⟨_,rfl,_,rfl,a,_,1,_,rfl,rfl,aH.of h1,rfl,_,_,rfl,rfl,_,rfl,b,_,rfl,hI.hd,λt1 H1 s1 ht1=>?_⟩
  rw [nq c1 c2]at ht1
  refine⟨_,rfl,a,_,2,_,rfl,rfl,aH.of (s1 _ _ h1),rfl,t,rfl,⟨_,aH.of (s1 _ _ hP.tup)⟩,λDl hD=>?_⟩
  refine cE (xs:=bs.map V.ref) (λi σ ys H'=>(∃o1 o2,σ=[o1,o2])/\ys=(ps.take i).map (λp=>p.2)/\ys.length=i/\H' Dl=some (.lst ys)/\aM H1 H') ⟨⟨none,none,rfl⟩,rfl,rfl,ag,aj hD _⟩ ?_ ?_ ?_ ?_ ?_
  ·rintro i σ ys H' _ ⟨_,_,hi,h,_⟩
   exact⟨h,Nat.le_of_eq hi⟩
  ·rintro i σ ys H' _ ⟨_,_,_,_,sm⟩
   exact aH.of (sm _ _ (s1 _ _ hP.tup))
  ·rw [hlb]; exact T8 hpz (by decide)
  ·rintro i v σ ys H' hv ⟨⟨o1,o2,rfl⟩,rfl,hi,hh,sm'⟩
   obtain⟨b',y,rfl,ey,hb⟩:=hP.get hv
   refine⟨b',_,rfl,aH.of (sm' _ _ (s1 _ _ hb)),rfl,_,_,rfl,ak ⟨_,_,rfl,ak ⟨rfl,?_⟩⟩⟩
   refine⟨_,rfl,hh,⟨_,_,rfl⟩,?_,?_,ag,bq hD sm'⟩
   ·rw [take_one ey,Uc]; rfl
   ·rw [Ub,hi]; rfl
  rintro de Sw H3 ⟨_,rfl,O9,h2,sm3⟩
  rw [hlb,List.take_length]at h2
  refine⟨Dl,_,rfl,h2,by rw [Ua]; omega,λv hv=>?_,λu2 H4 s4 hu2=>?_⟩
  ·obtain⟨p,hp,rfl⟩:=Up.mp hv
   exact(hg p hp).2
  rw [Ov]at hu2
  have MR:=sm3.trans s4
  refine⟨u2,_,rfl,.inl ⟨a_.of hu2,λu3 vV=>?_⟩⟩
  have t5:=aj vV (.tup (((ps.take 1).map λp=>sW p.2).map V.str))
  have MB:=MR.trans t5
  refine eO (MB _ _ ht1) ag (by rw [Uz,Ua,Uz]; omega) λt6 H6 s6 Ho=>?_
  have Og:=s1.trans (MB.trans s6)
  refine⟨_,rfl,_,rfl,a,_,1,_,rfl,rfl,aH.of (Og _ _ h1),rfl,_,rfl,b,_,rfl,Og _ _ hI.hd,λt7 H7 s7 Kl=>?_⟩
  rw [jH c1 c2]at Kl
  exact eO (s7 _ _ Ho) Kl (by rw [Ub,Uz,Ua,Uz,List.length_drop]; omega) λt8 H8 s8 SS=>q t8 H8 (Og.trans (s7.trans s8)) SS
 rw [T9 e3]
 rw [DM e1 e2 e3]at q
 refine bA (aG ?_)
 dsimp only
 refine kQ (λσ H'=>∃b',σ=[some (.ref a),some (.ref b'),some (.ref l),some (.str x.nm)]/\dQ H' b' (AL x h)/\(AL x h).length<=1000/\aM H H') (λT hT=>?_) ?_
 ·refine⟨_,rfl,gq,λR hR=>⟨R,_,rfl,.inl (a_.of ag),rfl,rfl,_,rfl,?_⟩⟩
  have t1:=aj hR (.lst [V.str "cut",.str "count",.str "sum"])
  revert t1
  generalize upd H R (.lst [V.str "cut",.str "count",.str "sum"])=H1
  intro t1
  refine cH (λk=>?_) (λk=>?_)
  ·have key:∃(cs:List Int) (t:Addr) (v:V) (vs:List V),H a=some (.tup (v :: .ref t::vs))/\H t=some (.tup (cs.map V.int))/\cs.length<=1000/\xZ h cs/\AL x h=cs.map (bt h):=by
    obtain⟨cs,rfl | rfl | ⟨c,rfl⟩⟩:=I_ k
    ·obtain⟨t,h1,h2⟩:=bW.mp hI.wk
     exact⟨cs,t,_,_,h1,h2,hI.sm,λc hc=>cF ho.fit hc,rfl⟩
    ·obtain⟨t,h1,h2⟩:=bW.mp hI.wk
     exact⟨cs,t,_,_,h1,h2,hI.sm,λc hc=>cF ho.fit hc,rfl⟩
    ·obtain⟨t,h1,h2⟩:=bW.mp hI.wk
     exact⟨cs,t,_,_,h1,h2,hI.sm,λc hc=>cF ho.fit (List.mem_append_left _ hc),rfl⟩
   obtain⟨cs,t,v,vs,h2,h3,Pa,hth,em⟩:=key
   refine⟨_,rfl,a,_,1,_,rfl,rfl,aH.of (t1 _ _ h2),au (j:=1) rfl,t,rfl,⟨_,aH.of (t1 _ _ h3)⟩,λDl hD=>?_⟩
   refine cE (xs:=cs.map V.int) (λi σ ys H'=>(∃o,σ=[o,some (.ref b)])/\ys=((cs.take i).map (bt h)).map V.str/\ys.length=i/\H' Dl=some (.lst ys)/\aM H1 H') ⟨⟨none,rfl⟩,rfl,rfl,ag,aj hD _⟩ ?_ ?_ ?_ ?_ ?_
   ·rintro i σ ys H' _ ⟨_,_,hi,h,_⟩
    exact⟨h,Nat.le_of_eq hi⟩
   ·rintro i σ ys H' _ ⟨_,_,_,_,sm⟩
    exact aH.of (sm _ _ (t1 _ _ h3))
   ·rw [Ua]; exact T8 Pa (by decide)
   ·rintro i v σ ys H' hv ⟨⟨o,rfl⟩,rfl,hi,hh,sm⟩
    rw [Uy]at hv
    cases ec:cs[i]? with
    | none=>rw [ec]at hv; cases hv
    | some c =>
     rw [ec]at hv
     have hv:V.int c=v:=Uv hv
     subst hv
     refine⟨_,rfl,_,rfl,_,_,rfl,rfl,b,_,_,_,rfl,rfl,aH.of (sm _ _ (t1 _ _ hI.hd)),dD (hth c (Ui ec)),hh,⟨_,rfl⟩,?_,?_,ag,bq hD sm⟩
     ·rw [take_one ec,Uc,Uc]; rfl
     ·rw [Ub,hi]; rfl
   ·rintro σ ys H' ⟨_,rfl,_,hh,sm⟩
    rw [Ua,List.take_length]at hh
    refine⟨Dl,_,rfl,.inl ⟨a_.of hh,λu hu'=>ak (hT _ _ ⟨u,rfl,?_,?_,t1.trans (sm.trans (aj hu' _))⟩)⟩⟩
    ·rw [em]; exact ag
    ·rw [em,Ua]; exact Pa
  ·rw [F6 k]at hT
   exact aG (hT _ _ ⟨b,rfl,t1 _ _ hI.hd,ho.hz,t1⟩)
 rintro σ H1 ⟨b',rfl,hb,RH,s1⟩
 refine⟨_,rfl,gq,λR hR=>⟨R,_,rfl,.inl (a_.of ag),rfl,rfl,_,rfl,?_⟩⟩
 have t1:=aj hR (.lst [V.str "count",.str "sum",.str "number"])
 have hb:=t1 _ _ hb
 have s2:=s1.trans t1
 revert s2 hb
 generalize upd H1 R (.lst [V.str "count",.str "sum",.str "number"])=H2
 intro hb s2
 refine cH (λk=>?_) (λk=>aG ?_)
 ·have k:inV (.str x.nm) [V.str "count",.str "sum",.str "number"]=true:=k
  rw [if_pos k]at q
  refine⟨_,rfl,dP,λu hu'=>?_⟩
  have su:=aj hu' (.tup [.str "t"])
  exact eO (ys:=["t"]) (su _ _ hb) ag (by show _+1<=_; omega) λt H' s' ht=>q t H' (s2.trans (su.trans s')) ht
 ·have k:¬inV (.str x.nm) [V.str "count",.str "sum",.str "number"]=true:=k
  rw [if_neg k]at q
  refine⟨_,rfl,_,rfl,rfl,_,rfl,?_⟩
  rw [bM]
  by_cases e4:x.nm="walk"
  ·rw [if_pos e4]at q
   rw [T_ e4]
   refine bZ ⟨dP,λu hu'=>?_⟩
   have su:=aj hu' (.tup [.str "w"])
   exact eO (ys:=["w"]) (su _ _ hb) ag (by show _+1<=_; omega) λt H' s' ht=>q t H' (s2.trans (su.trans s')) ht
  ·rw [if_neg e4]at q
   rw [T9 e4]
   refine bA ⟨xy,λu hu'=>?_⟩
   have su:=aj hu' (.tup [])
   exact eO (ys:=[]) (su _ _ hb) ag (by show _+0<=_; omega) λt H' s' ht=>q t H' (s2.trans (su.trans s')) ht
theorem dj.up:∀{n:Nat} {H:Hp} {a:Addr} {x:Wk},dj n H a x->dj (n+1) H a x
 | 0,H,a,.one x,h=>h
 | n+1,H,a,.one x,h=>h
 | n+1,H,a,.both p q,h=>by
  obtain⟨b,c,bs,cs,h1,h2,h3⟩:=h
  exact⟨b,c,bs,cs,h1,⟨h2.tup,h2.len,λi a x e1 e2=>(h2.at_ i a x e1 e2).up⟩,⟨h3.tup,h3.len,λi a x e1 e2=>(h3.at_ i a x e1 e2).up⟩⟩
 | n+1,H,a,.meet c d p q,h=>by
  obtain⟨b,e,bs,es,h1,h2,h3⟩:=h
  exact⟨b,e,bs,es,h1,⟨h2.tup,h2.len,λi a x e1 e2=>(h2.at_ i a x e1 e2).up⟩,⟨h3.tup,h3.len,λi a x e1 e2=>(h3.at_ i a x e1 e2).up⟩⟩
abbrev sS(H:Hp)(a:Addr)(f:Fl):Prop:=H a=some (.tup [.bl f.o,.bl f.j,.bl f.f,.bl f.w,.bl f.l])
def EI:Option Str->Str
 | none=>""
 | some s=>s
def Bw(n:Nat):Sp:=λvs H Q _=>∃(a b g l:Addr) (x:Wk) (h:Hd) (fl:Fl) (as:List Addr) (es:List Hd),vs=[.ref a,.ref b,.ref g,.ref l]/\uz n H a b l x h as es/\sS H g fl/\DA x/\h.length<=1000/\(∀e∈es,e.length<=1000)/\∀H',aM H H'->Q (.str (EI (i5 x fl (kF x h es)))) H'
theorem qT{x:Wk}{f:Fl}(h:x.nm="walk"):l9 x f = !f.o:=by
 obtain⟨c,mv,rfl⟩:=yH h
 rfl
theorem Au{x:Wk}{f:Fl}(h:x.nm≠"walk")(h2:x.nm≠"meet"):l9 x f=true:=by
 cases x with
 | one x=>cases x <;> first | rfl | exact absurd rfl h
 | both p q=>rfl
 | meet c d p q=>exact absurd rfl h2
abbrev j5:Stmt:=top 74
theorem vM:ay ["_law_worker_here","_law_head","_law_flags_here","_law_ends"] ["_law_worker_here","_law_head","_law_flags_here","_law_ends"] (ar j5):=fs
theorem ET{n:Nat}(B:jJ mg)(B2:iR mg)(F:FA K mg "_law_why" j5)
  (lS:bc bf P w K mg base 2 "_law_no_column" ["_law_worker_here","_law_head","_law_ends"] (yn n))
  (ny:bc bf P w K mg base 3 "_law_no_sort" ["_law_worker_here","_law_head","_law_ends"] (vi n))
  (eX:bc bf P w K mg base 2 "_law_head_next" ["_law_worker_here","_law_head","_law_ends"] (JD n))
  (eD:bc bf P w K mg base 1 "_law_is_one_row" ["_law_worker_here"] (vb n)) :
  bc bf P w K mg base 4 "_law_why" ["_law_worker_here","_law_head","_law_flags_here","_law_ends"] (Bw n):=by
 refine F.ok vM λf cdv A outer s H vs Q E hr h=>?_
 have hu:=iM hr
 obtain⟨a,b,g,l,x,h,fl,as,es,rfl,hI,hF,hw,Qj,hez,q⟩:=h
 refine⟨_,(aN (ft (ax lS hr (ae (pv 0) (ae (pv 1) (ae (pv 3) ah))))) ao
   (aN (ft (ax ny hr (ae (pv 0) (ae (pv 1) (ae (pv 3) ah))))) ao
   (aN (aW il (aZ bF rfl B.len PySem.boot_len (ae (ax eX hr (ae (pv 0) (ae (pv 1) (ae (pv 3) ah)))) ah)) ai) ao
   (aN (PW.pt (kC (aW aP (az K (pv 0) ai) ao) (iG (ft (az K (pv 2) ai))))) ao
   (aN (PW.pt (kC (aW aP (az K (pv 0) ai) ao) (iG (sP (ft (aZ (iq rfl) rfl B2.all PyProof.Rows.boot_all (ae (bw (N':=["_law_one"]) (src:=[none]) rfl (ba.jE (by kernel_rfl)) (cI (aF cb (az K (pv 0) ai) (az K (pv 0) ai))) (λcl C s H fp=>(el (i:=0))) (λcl C s H fp=>aX) (te:=(iW (vb n) [] E0 (bp (bx 0) fz))) (λcl C s H fp=>(ax (hg:=xP) eD hr (ae (iX 0) ah)))) ah))))))) ao
   (av (eK (PW.pt (kC (aW aP (az K (pv 0) ai) ao) (iG (ft (az K (pv 2) ai))))) ao ao))))))),?_⟩
 unfold i5 at q
 refine⟨_,rfl,_,rfl,_,rfl,a,b,l,x,h,as,es,rfl,hI,λH1 s1=>⟨_,rfl,?_⟩⟩
 by_cases e1:c9 x (kF x h es)=false
 ·rw [e1]
  rw [if_neg (by rw [e1]; decide)]at q
  exact bZ (q H1 s1)
 have e1:c9 x (kF x h es)=true:=by simpa using e1
 rw [e1]
 rw [if_pos e1]at q
 refine bA (aG ⟨_,rfl,_,rfl,_,rfl,a,b,l,x,h,as,es,rfl,hI.same s1,e1,λH2 s2=>⟨_,rfl,?_⟩⟩)
 have s12:=s1.trans s2
 by_cases e2:bg x (kF x h es)=false
 ·rw [e2]
  rw [if_neg (by rw [e2]; decide)]at q
  exact bZ (q H2 s12)
 have e2:bg x (kF x h es)=true:=by simpa using e2
 rw [e2]
 rw [if_pos e2]at q
 refine bA (aG ⟨_,rfl,_,rfl,_,rfl,a,b,l,x,h,as,es,rfl,hI.same s12,⟨e1,e2,Qj,hez⟩,λu H3 s3 hu'=>?_⟩)
 have p6:=s12.trans s3
 refine⟨u,_,rfl,.inr (aH.of hu'),_,_,rfl,rfl,_,rfl,?_⟩
 rw [Ua]
 by_cases e3:¬(bE x (kF x h es)).length<=6
 ·rw [if_neg e3]at q
  rw [T_ (show(6:Int)<((bE x (kF x h es)).length:Nat) by omega)]
  exact bZ (q H3 p6)
 have e3:(bE x (kF x h es)).length<=6:=by omega
 rw [if_pos e3]at q
 rw [T9 (show¬(6:Int)<((bE x (kF x h es)).length:Nat) by omega)]
 have Qa:=hI.same p6
 obtain⟨xs,h1⟩:=Qa.wk.first
 have tail:∀H4,aM H3 H4->l9 x fl=true->QM (Ma (qK (gB Hv (gB (sj K) (bx 0) (tC (.int 0))) (tC (.str "must")))) (tB (gB (sj K) (bx 2) (tC (.int 4))))) (tC (.str "loose")) (tC (.str "")) [some (.ref a),some (.ref b),some (.ref g),some (.ref l)] H4 Q:=by
  intro H4 s4 hr
  have qp:=p6.trans s4
  rw [if_pos hr]at q
  refine⟨_,rfl,a,_,0,_,rfl,rfl,aH.of (s4 _ _ h1),au (j:=0) rfl,rfl,_,rfl,?_⟩
  rw [bM,yU]
  cases e5:jr x with
  | false =>
   rw [e5]at q
   exact bA (bA (q H4 qp))
  | true =>
   rw [e5,Bool.true_and]at q
   refine bZ ⟨_,rfl,g,_,4,_,rfl,rfl,aH.of (qp _ _ hF),rfl,_,rfl,cH (λz=>?_) (λz=>?_)⟩
   ·rw [if_pos z]at q; exact q H4 qp
   ·rw [if_neg z]at q; exact q H4 qp
 refine bA (aG ⟨_,rfl,a,_,0,_,rfl,rfl,aH.of h1,au (j:=0) rfl,rfl,_,rfl,?_⟩)
 rw [bM]
 by_cases e4:x.nm="walk"
 ·rw [T_ e4]
  refine bZ ⟨_,rfl,g,_,0,_,rfl,rfl,aH.of (p6 _ _ hF),au (j:=0) rfl,_,rfl,cH (λz=>?_) (λz=>aG ?_)⟩
  ·rw [if_neg (by rw [qT e4,z]; decide)]at q
   exact q H3 p6
  ·have hr:l9 x fl=true:=by rw [qT e4,Ur.mpr z]; rfl
   refine⟨_,rfl,a,_,0,_,rfl,rfl,aH.of h1,au (j:=0) rfl,rfl,_,rfl,?_⟩
   rw [bM,T9 (by rw [e4]; decide +kernel)]
   exact bA (bA (aG (tail H3 (aM.refl _) hr)))
 rw [T9 e4]
 refine bA (bA (aG ⟨_,rfl,a,_,0,_,rfl,rfl,aH.of h1,au (j:=0) rfl,rfl,_,rfl,?_⟩))
 rw [bM]
 by_cases e5:x.nm="meet"
 ·rw [T_ e5]
  obtain⟨c,d,p,q',rfl⟩:=iB e5
  have ha:=Qa.wk
  cases n with
  | zero=>exact False.elim ha
  | succ n =>
  obtain⟨b',e',bs,es',h2,hp,hq⟩:=ha
  have hw1:p.length<=1000:=hw p (by simp [dE])
  have hw2:q'.length<=1000:=hw q' (by simp [dE])
  refine bZ ⟨_,rfl,a,_,3,_,rfl,rfl,aH.of h2,rfl,_,rfl,a,_,4,_,rfl,rfl,aH.of h2,rfl,b',e',_,_,rfl,rfl,hp.tup,hq.tup,by rw [Ua,Ua,hp.len,hq.len]; exact T8 (show _<=2000 by omega) (by decide),λu4 H4 s4 xu=>⟨u4,rfl,⟨_,aH.of xu⟩,λDl hD=>?_⟩⟩
  rw [←Uc]at xu
  have hlen:((bs++es').map V.ref).length=(p++q').length:=by rw [Ua,Ub,Ub,hp.len,hq.len]
  have hat:∀(i:Nat) v,((bs++es').map V.ref)[i]? = some v->∃a y,v=.ref a/\(p++q')[i]? = some y/\dj n H4 a y:=by
   intro i v hv
   by_cases hi:i<bs.length
   ·rw [Uc,Ux (by rw [Ua]; exact hi)]at hv
    obtain⟨a,y,e1,e2,e3⟩:=hp.get hv
    exact⟨a,y,e1,by rw [Ux (by rw [←hp.len]; exact hi)]; exact e2,e3.keep (aE.of s4)⟩
   ·have hi:bs.length<=i:=by omega
    rw [Uc,Uw (by rw [Ua]; exact hi),Ua]at hv
    obtain⟨a,y,e1,e2,e3⟩:=hq.get hv
    exact⟨a,y,e1,by rw [Uw (by rw [←hp.len]; exact hi),←hp.len]; exact e2,e3.keep (aE.of s4)⟩
  refine cE (xs:=(bs++es').map V.ref) (λi σ ys H'=>(∃o,σ=[o])/\ys=(((p++q').take i).map λw=>cD w.nm).map V.bl/\ys.length=i/\H' Dl=some (.lst ys)/\aM H4 H') ⟨⟨none,rfl⟩,rfl,rfl,ag,aj hD _⟩ ?_ ?_ ?_ ?_ ?_
  ·rintro i σ ys H' _ ⟨_,_,hi,h,_⟩
   exact⟨h,Nat.le_of_eq hi⟩
  ·rintro i σ ys H' _ ⟨_,_,_,_,sm⟩
   exact aH.of (sm _ _ xu)
  ·rw [hlen,Ub]; exact T8 (show _<=2000 by omega) (by decide)
  ·rintro i v σ ys H' hv ⟨⟨o,rfl⟩,rfl,hi,hh,sm⟩
   obtain⟨a',y,rfl,ey,hy⟩:=hat i v hv
   refine⟨_,rfl,a',y,rfl,(hy.keep (aE.of sm)).up,λH5 s5=>⟨s5 _ _ hh,⟨_,rfl⟩,?_,?_,ag,bq hD (sm.trans s5)⟩⟩
   ·rw [take_one ey,Uc,Uc]; rfl
   ·rw [Ub,hi]; rfl
  ·rintro σ ys H5 ⟨_,rfl,_,hh,sm⟩
   rw [hlen,List.take_length]at hh
   refine⟨Dl,_,rfl,a_.of hh,_,rfl,?_⟩
   have er:((p++q').map λw=>cD w.nm).all id=l9 (.meet c d p q') fl:=by rw [List.all_map]; rfl
   rw [er]
   cases z:l9 (.meet c d p q') fl with
   | false =>
    rw [z]at q
    exact bZ (q H5 (p6.trans (s4.trans sm)))
   | true=>exact bA (aG (tail H5 (s4.trans sm) z))
 ·rw [T9 e5]
  exact bA (bA (aG (tail H3 (aM.refl _) (Au e4 e5))))
def js(x:Wk)(h:Hd)(f:Fl):Fl:=⟨f.o || !cD x.nm,f.j||inV (.str x.nm) [.str "walk",.str "both",.str "meet"],f.f||pF (aD x),f.w||pW x.nm,f.l||looseW x h f⟩
def yI(n:Nat):Sp:=λvs H Q _=>∃(a b g:Addr) (x:Wk) (h:Hd) (fl:Fl),vs=[.ref a,.ref b,.ref g]/\dj n H a x/\dQ H b h/\sS H g fl/\keepIn x h/\∀(u:Addr) (H':Hp),aM H H'->sS H' u (js x h fl)->Q (.ref u) H'
theorem xw{x:Wk}{h:Hd}{f:Fl}(h1:x.nm≠"keep")(h2:x.nm≠"first")(h3:x.nm≠"meet"):looseW x h f=false:=by
 match x with
 | .one (.keep _ _)=>exact absurd rfl h1
 | .one (.first n)=>exact absurd rfl h2
 | .meet ..=>exact absurd rfl h3
 | .both ..=>rfl
 | .one (.same ..)=>rfl
 | .one (.cut ..)=>rfl
 | .one (.turn ..)=>rfl
 | .one (.must ..)=>rfl
 | .one (.walk ..)=>rfl
 | .one (.sort ..)=>rfl
 | .one .apart=>rfl
 | .one (.count ..)=>rfl
 | .one (.sum ..)=>rfl
 | .one .number=>rfl
theorem w6{x:Wk}(h:x.nm≠"first"):pF (aD x)=false:=by
 rw [lj h]
 exact T9 h
abbrev iP:Stmt:=top 75
theorem bQ:ay ["_law_worker_here","_law_head","_law_flags_here","_law_others","_law_joins","_law_firsts","_law_walks","_law_loose","_law_word_here"] ["_law_worker_here","_law_head","_law_flags_here"] (ar iP):=fs
theorem Ds{n:Nat}(F:FA K mg "_law_flags" iP)
  (eD:bc bf P w K mg base 1 "_law_is_one_row" ["_law_worker_here"] (vb n)) :
  bc bf P w K mg base 2 "_law_flags" ["_law_worker_here","_law_head","_law_flags_here"] (yI n):=by
 refine F.ok bQ λf cdv A outer s H vs Q E hr h=>?_
 have hu:=iM hr
 obtain⟨a,b,g,x,h,fl,rfl,ha,hb,hF,hkp,q⟩:=h
 refine⟨_,(aq (pQ (pv 2) (cB rfl (aA (bT (i:=3) bQ.nd rfl (Or.inl rfl)) (aA (bT (i:=4) bQ.nd rfl (Or.inl rfl)) (aA (bT (i:=5) bQ.nd rfl (Or.inl rfl)) (aA (bT (i:=6) bQ.nd rfl (Or.inl rfl)) (aA (bT (i:=7) bQ.nd rfl (Or.inl rfl)) bS)))))))
   (aq (aL (i:=8) bQ.nd rfl (Or.inl rfl) (az K (pv 0) ai))
   (aq (dv (aW aP (pv 8) ao)
    (bK (aL (i:=7) bQ.nd rfl (Or.inl rfl) (fJ (pv 7) (cT (bU aP (az K (pv 1) (aF bJ (az K (pv 0) ai) ai)) ao)))))
    b9)
   (aq (dv (PW.pt (kC (aW aP (pv 8) ao) (iG (aW il (az K (pv 0) ai) ai))))
    (aq (aL (i:=7) bQ.nd rfl (Or.inl rfl) (fJ (pv 7) (cT (pv 4))))
     (bK (aL (i:=5) bQ.nd rfl (Or.inl rfl) fQ)))
    b9)
   (aq (dv (aW aP (pv 8) ao)
    (bK (aL (i:=7) bQ.nd rfl (Or.inl rfl) (fJ (pv 7) (fJ (pv 6) (cT (pv 5))))))
    b9)
   (av (aJ (ae (fJ (pv 3) (cT (JP (ax eD hr (ae (pv 0) ah))))) (ae (fJ (pv 4) (cT (fF cp (pv 8) (aQ (ae ao (ae ao (ae ao ah)))) rfl))) (ae (pv 5) (ae (fJ (pv 6) (cT (bU aP (pv 8) ao))) (ae (pv 7) ah)))))))))))),?_⟩
 obtain⟨xs,h1⟩:=ha.first
 refine⟨_,rfl,g,_,rfl,aH.of hF,rfl,_,_,rfl,ak ⟨_,_,rfl,ak ⟨_,_,rfl,ak ⟨_,_,rfl,ak ⟨_,_,rfl,ak ⟨rfl,?_⟩⟩⟩⟩⟩⟩
 dsimp only
 refine⟨_,rfl,a,_,0,_,rfl,rfl,aH.of h1,au (j:=0) rfl,ak ?_⟩
 dsimp only
 have fin:∀(fi lo:Bool),fi=(fl.f||pF (aD x))->lo=(fl.l||looseW x h fl)->CO (Gg (bp (vJ (bx 3) (GW (iW (vb n) [] E0 (bp (bx 0) fz)))) (bp (vJ (bx 4) (gB (GB K false) (bx 8) (x5 (bp (tC (.str "walk")) (bp (tC (.str "both")) (bp (tC (.str "meet")) fz)))))) (bp (bx 5) (bp (vJ (bx 6) (gB Hv (bx 8) (tC (.str "walk")))) (bp (bx 7) fz)))))) {nx:=λ_ H'=>Q .non H',rt:=Q} [some (.ref a),some (.ref b),some (.ref g),some (.bl fl.o),some (.bl fl.j),some (.bl fi),some (.bl fl.w),some (.bl lo),some (.str x.nm)] H:=by
  rintro fi lo rfl rfl
  have q:∀(u:Addr) (H':Hp),aM H H'->H' u=some (.tup [.bl (fl.o || !cD x.nm),.bl (fl.j||inV (.str x.nm) [.str "walk",.str "both",.str "meet"]),.bl (fl.f||pF (aD x)),.bl (fl.w||pW x.nm),.bl (fl.l||looseW x h fl)])->Q (.ref u) H':=q
  have last:∀(o:Bool),o=(fl.o || !cD x.nm)->∀H1,aM H H1->bp (vJ (bx 4) (gB (GB K false) (bx 8) (x5 (bp (tC (.str "walk")) (bp (tC (.str "both")) (bp (tC (.str "meet")) fz)))))) (bp (bx 5) (bp (vJ (bx 6) (gB Hv (bx 8) (tC (.str "walk")))) (bp (bx 7) fz))) [some (.ref a),some (.ref b),some (.ref g),some (.bl fl.o),some (.bl fl.j),some (.bl (fl.f||pF (aD x))),some (.bl fl.w),some (.bl (fl.l||looseW x h fl)),some (.str x.nm)] H1 (λvs H2=>(.bl o::vs).length<=sizeLine/\∀u,H2 u=none->Q (.ref u) (upd H2 u (.tup (.bl o::vs)))):=by
   rintro o rfl H1 s1
   have lst:∀(j:Bool),j=(fl.j||inV (.str x.nm) [.str "walk",.str "both",.str "meet"])->∀H2,aM H H2->bp (bx 5) (bp (vJ (bx 6) (gB Hv (bx 8) (tC (.str "walk")))) (bp (bx 7) fz)) [some (.ref a),some (.ref b),some (.ref g),some (.bl fl.o),some (.bl fl.j),some (.bl (fl.f||pF (aD x))),some (.bl fl.w),some (.bl (fl.l||looseW x h fl)),some (.str x.nm)] H2 (λvs H3=>(V.bl (fl.o || !cD x.nm) :: .bl j::vs).length<=sizeLine/\∀u,H3 u=none->Q (.ref u) (upd H3 u (.tup (.bl (fl.o || !cD x.nm) :: .bl j::vs)))):=by
    rintro j rfl H2 s2
    refine⟨_,rfl,_,rfl,_,rfl,cH (λz=>?_) (λz=>?_)⟩
    ·refine⟨_,rfl,r8,λu hu'=>q u _ (s2.trans (aj hu' _)) ?_⟩
     rw [ag,z]; rfl
    ·refine⟨_,rfl,rfl,_,rfl,r8,λu hu'=>q u _ (s2.trans (aj hu' _)) ?_⟩
     rw [ag,Ur.mpr z,bM]; rfl
   refine⟨_,rfl,_,rfl,cH (λz=>?_) (λz=>?_)⟩
   ·exact lst true (by rw [z]; rfl) H1 s1
   ·refine⟨_,rfl,gq,λR hR=>⟨R,_,rfl,.inl (a_.of ag),rfl,rfl,?_⟩⟩
    exact lst _ (by rw [Ur.mpr z]; rfl) _ (s1.trans (aj hR _))
  refine⟨_,rfl,_,rfl,cH (λz=>?_) (λz=>?_)⟩
  ·exact last true (by rw [z]; rfl) H (aM.refl _)
  ·exact⟨_,rfl,a,x,rfl,ha,λH1 s1=>⟨_,rfl,last _ (by rw [Ur.mpr z]; rfl) H1 s1⟩⟩
 refine⟨_,rfl,rfl,_,rfl,?_⟩
 rw [bM]
 by_cases e1:x.nm="keep"
 ·rw [T_ e1]
  obtain⟨c,t,rfl⟩:=rZ e1
  obtain⟨st,ys,hk1,hk2⟩:=bW.mp ha
  refine bZ ?_
  refine⟨_,rfl,_,rfl,cH (λz=>?_) (λz=>?_)⟩
  ·refine ak ?_
   dsimp only
   refine⟨_,rfl,rfl,_,rfl,?_⟩
   rw [bM,T9 (by simp only [Wk.nm,W1.nm]; decide +kernel)]
   refine bA (bA (aG ⟨_,rfl,rfl,_,rfl,?_⟩))
   rw [bM,T9 (by simp only [Wk.nm,W1.nm]; decide +kernel)]
   exact bA (aG (fin _ true (by rw [w6 (by simp only [Wk.nm,W1.nm]; decide +kernel),Bool.or_false]) (by rw [z]; rfl)))
  ·refine⟨_,rfl,_,rfl,a,_,1,_,rfl,rfl,aH.of hk1,rfl,_,_,rfl,rfl,b,_,_,_,rfl,rfl,aH.of hb,dD (hkp c t rfl),rfl,ak ?_⟩
   dsimp only
   generalize hlo:decide (V.str (bt h c)=V.str "t")=lo
   refine⟨_,rfl,rfl,_,rfl,?_⟩
   rw [bM,T9 (by simp only [Wk.nm,W1.nm]; decide +kernel)]
   refine bA (bA (aG ⟨_,rfl,rfl,_,rfl,?_⟩))
   rw [bM,T9 (by simp only [Wk.nm,W1.nm]; decide +kernel)]
   exact bA (aG (fin _ _ (by rw [w6 (by simp only [Wk.nm,W1.nm]; decide +kernel),Bool.or_false]) (by rw [Ur.mpr z,Bool.false_or,←hlo,bM]; rfl)))
 rw [T9 e1]
 refine bA (aG ⟨_,rfl,rfl,_,rfl,?_⟩)
 rw [bM]
 by_cases e2:x.nm="first"
 ·rw [T_ e2]
  obtain⟨m,rfl⟩:=kK e2
  have h2:H a=some (.tup [.str "first",.int m]):=bW.mp ha
  refine bZ ⟨_,rfl,a,_,1,_,rfl,rfl,aH.of h2,rfl,_,_,rfl,rfl,_,rfl,?_⟩
  by_cases e3:m<=0
  ·rw [T9 (show¬(0:Int)<m by omega)]
   refine bA (aG ⟨_,rfl,rfl,_,rfl,?_⟩)
   rw [bM,T9 (by simp only [Wk.nm,W1.nm]; decide +kernel)]
   refine bA (aG (fin _ _ ?_ ?_))
   ·show fl.f=(fl.f||pF (if m<=0 then "first 0" else "first"))
    rw [if_pos e3,show pF "first 0"=false by decide +kernel,Bool.or_false]
   ·show fl.l=(fl.l||(decide (¬m<=0)&&fl.j))
    rw [T9 (λz=>z e3),Bool.false_and,Bool.or_false]
  ·rw [T_ (show(0:Int)<m by omega)]
   have hf1:true=(fl.f||pF (if m<=0 then "first 0" else "first")):=by
    rw [if_neg e3,show pF "first"=true by decide +kernel,Bool.or_true]
   have hl1:(fl.l||(decide (¬m<=0)&&fl.j))=(fl.l||fl.j):=by rw [T_ e3,Bool.true_and]
   refine bZ ⟨_,rfl,_,rfl,cH (λz=>?_) (λz=>?_)⟩
   ·refine ak ?_
    dsimp only
    refine ak ?_
    dsimp only
    refine⟨_,rfl,rfl,_,rfl,?_⟩
    rw [bM,T9 (by simp only [Wk.nm,W1.nm]; decide +kernel)]
    exact bA (aG (fin _ true hf1 (by show true=(fl.l||(decide (¬m<=0)&&fl.j)); rw [z]; rfl)))
   ·refine⟨_,rfl,ak ?_⟩
    dsimp only
    refine ak ?_
    dsimp only
    refine⟨_,rfl,rfl,_,rfl,?_⟩
    rw [bM,T9 (by simp only [Wk.nm,W1.nm]; decide +kernel)]
    exact bA (aG (fin _ _ hf1 (by show fl.j=(fl.l||(decide (¬m<=0)&&fl.j)); rw [hl1,Ur.mpr z]; rfl)))
 rw [T9 e2]
 refine bA (bA (aG ⟨_,rfl,rfl,_,rfl,?_⟩))
 rw [bM]
 have hf2:fl.f=(fl.f||pF (aD x)):=by rw [w6 e2,Bool.or_false]
 by_cases e3:x.nm="meet"
 ·rw [T_ e3]
  obtain⟨c,d,p,q',rfl⟩:=iB e3
  refine bZ ⟨_,rfl,_,rfl,cH (λz=>?_) (λz=>⟨_,rfl,_,rfl,cH (λz2=>?_) (λz2=>⟨_,rfl,?_⟩)⟩)⟩
  ·refine ak ?_
   dsimp only
   exact fin _ true hf2 (by rw [z]; rfl)
  ·refine ak ?_
   dsimp only
   exact fin _ true hf2 (by show true=(fl.l||(fl.w||fl.f)); rw [z2,Bool.true_or,Bool.or_true])
  ·refine ak ?_
   dsimp only
   exact fin _ fl.f hf2 (by show fl.f=(fl.l||(fl.w||fl.f)); rw [Ur.mpr z,Ur.mpr z2,Bool.false_or,Bool.false_or])
 ·rw [T9 e3]
  exact bA (aG (fin _ _ hf2 (by rw [xw e1 e2 e3,Bool.or_false])))
def Ga(a b:Fl):Fl:=⟨a.o||b.o,a.j||b.j,a.f||b.f,a.w||b.w,a.l||b.l⟩
def lW(x:Wk)(h:Hd)(f:Fl)(pl:List Int)(es:List Hd)(a:Fl):Res:=match i5 x f (kF x h es)with
 | some s=>.no pl s
 | none=>.ok (bE x (kF x h es)) (js x h a)
def vC(step:Hd->Fl->List Int->Wk->Res)(x:Wk)(h:Hd)(f:Fl)(pl:List Int):List (List Wk)->Nat->List Hd->Fl->Res
 | [],_,es,a=>lW x h f pl es a
 | p::ps,j,es,a=>cZ (putL step (pl++[(j:Int)]) 0 h f p) λh' f'=>vC step x h f pl ps (j+1) (es++[h']) (Ga a f')
def yF:Nat->Hd->Fl->List Int->Wk->Res
 | 0,h,f,pl,x=>ia x h f pl [(h,f)]
 | n+1,h,f,pl,x=>match x with
  | .one _=>lW x h f pl [] f
  | _=>vC (yF n) x h f pl (dE x) 0 [] f
def BI(f g:Fl):Prop:=(f.o=true->g.o=true)/\(f.j=true->g.j=true)/\(f.f=true->g.f=true)/\(f.w=true->g.w=true)/\(f.l=true->g.l=true)
theorem BI.refl{f:Fl}:BI f f:=⟨id,id,id,id,id⟩
theorem BI.trans{f g h:Fl}(a:BI f g)(b:BI g h):BI f h:=⟨b.1∘a.1,b.2.1∘a.2.1,b.2.2.1∘a.2.2.1,b.2.2.2.1∘a.2.2.2.1,b.2.2.2.2∘a.2.2.2.2⟩
theorem wM{x:Wk}{h:Hd}{f g:Fl}{fs:List Fl}(hm:g∈fs):BI g (Eg x h f fs):=by
 have a:∀p:Fl->Bool,p g=true->fs.any p=true:=λp e=>List.any_eq_true.mpr ⟨g,hm,e⟩
 refine⟨λe=>?_,λe=>?_,λe=>?_,λe=>?_,λe=>?_⟩
 ·show(fs.any _||_)=true; rw [a (λg=>g.o) e]; rfl
 ·show(fs.any _||_)=true; rw [a (λg=>g.j) e]; rfl
 ·show(fs.any _||_)=true; rw [a (λg=>g.f) e]; rfl
 ·show(fs.any _||_)=true; rw [a (λg=>g.w) e]; rfl
 ·show(_||fs.any _)=true; rw [a (λg=>g.l) e,Bool.or_true]
theorem tJ{x:Wk}{h h':Hd}{f f':Fl}{pl:List Int}{es:List (Hd×Fl)}(e:ia x h f pl es=.ok h' f'):f'=Eg x h f (es.map λe=>e.2)/\i5 x f (es.map λe=>e.1)=none:=by
 unfold ia at e
 split at e
 ·cases e
 ·next hn=>cases e; exact⟨rfl,hn⟩
theorem fc{r:Res}{g:Hd->Fl->Res}{h':Hd}{f':Fl}(e:cZ r g=.ok h' f'):∃h1 f1,r=.ok h1 f1/\g h1 f1=.ok h' f':=by
 cases r with
 | ok h f=>exact⟨h,f,rfl,e⟩
 | no a s=>cases e
theorem tI{step:Hd->Fl->List Int->Wk->Res}(hs:∀h f pl x h' f',step h f pl x=.ok h' f'->BI f f'){pl:List Int}:∀{ws:List Wk} {i:Nat} {h:Hd} {f:Fl} {h':Hd} {f':Fl},putL step pl i h f ws=.ok h' f'->BI f f'
 | [],_,_,_,_,_,e=>by cases e; exact BI.refl
 | x::ws,i,h,f,h',f',e=>by
  obtain⟨h1,f1,e1,e2⟩:=fc e
  exact(hs _ _ _ _ _ _ e1).trans (tI hs e2)
theorem sk{x:Wk}(h:bX x=true):∃p q,dE x=[p,q]:=by
 cases x with
 | one x=>cases h
 | both p q=>exact⟨p,q,rfl⟩
 | meet c d p q=>exact⟨p,q,rfl⟩
theorem y0:∀(n:Nat) (h:Hd) (f:Fl) (pl:List Int) (x:Wk) (h':Hd) (f':Fl),cn n h f pl x=.ok h' f'->BI f f'
 | 0,h,f,pl,x,h',f',e=>by
  rw [(tJ e).1]
  exact wM (by simp)
 | n+1,h,f,pl,x,h',f',e=>by
  cases hb:bX x with
  | false =>
   rw [iD hb]at e
   rw [(tJ e).1]
   exact wM (by simp)
  | true =>
   rw [oi hb]at e
   obtain⟨p,q,hpq⟩:=sk hb
   rw [hpq]at e
   obtain⟨h1,f1,e1,e⟩:=fc e
   obtain⟨h2,f2,e2,e⟩:=fc e
   rw [(tJ e).1]
   exact(tI (y0 n) e1).trans (wM (by simp))
theorem zQ{x:Wk}(h:cD x.nm=true):bX x=false/\pW (aD x)=false/\pF (aD x)=false:=by
 revert h
 cases x with
 | one x=>cases x <;> simp only [Wk.nm,W1.nm] <;> intro h <;> first | exact absurd h (by decide +kernel) | exact⟨rfl,by simp only [aD,Wk.nm,W1.nm]; decide +kernel,by simp only [aD,Wk.nm,W1.nm]; decide +kernel⟩
 | both p q=>simp only [Wk.nm]; intro h; exact absurd h (by decide +kernel)
 | meet c d p q=>simp only [Wk.nm]; intro h; exact absurd h (by decide +kernel)
theorem oq{n:Nat}{pl:List Int}:∀{ws:List Wk} {i:Nat} {h:Hd} {f:Fl} {h':Hd} {f':Fl},(∀x∈ws,cD x.nm=true)->putL (cn n) pl i h f ws=.ok h' f'->f'.w=f.w/\f'.f=f.f
 | [],_,_,_,_,_,_,e=>by cases e; exact⟨rfl,rfl⟩
 | x::ws,i,h,f,h',f',ho,e=>by
  obtain⟨h1,f1,e1,e2⟩:=fc e
  obtain⟨a,b⟩:=oq (λy hy=>ho y (by simp [hy])) e2
  obtain⟨o1,o2,o3⟩:=zQ (ho x (by simp))
  rw [iD o1]at e1
  rw [a,b,(tJ e1).1]
  refine⟨?_,?_⟩
  ·show(([f].any λg=>g.w)||pW (aD x))=f.w
   rw [o2]; simp
  ·show(([f].any λg=>g.f)||pF (aD x))=f.f
   rw [o3]; simp
theorem uA(x:Wk):pO (aD x)=(!cD x.nm)/\pJ (aD x)=inV (.str x.nm) [.str "walk",.str "both",.str "meet"]/\pW (aD x)=pW x.nm:=by
 by_cases h:x.nm="first"
 ·obtain⟨n,rfl⟩:=kK h
  show pO (if n<=0 then "first 0" else "first")=_/\pJ (if n<=0 then "first 0" else "first")=_/\pW (if n<=0 then "first 0" else "first")=_
  simp only [Wk.nm,W1.nm]
  split <;> (refine⟨?_,?_,?_⟩ <;> decide +kernel)
 ·rw [lj h]
  refine⟨rfl,?_,rfl⟩
  unfold pJ inV
  simp only [List.any_cons,List.any_nil,Bool.or_false,sD]
  rw [Bool.or_assoc]
theorem y3{x:Wk}{h:Hd}{f:Fl}{pl:List Int}(hb:bX x=false):lW x h f pl [] f=ia x h f pl [(h,f)]:=by
 have eh:kF x h []=[h]:=by unfold kF; rw [hb]; rfl
 obtain⟨n1,n2,n3⟩:=uA x
 have ef:js x h f=Eg x h f [f]:=by
  unfold js Eg
  simp only [List.any_cons,List.any_nil,Bool.or_false,n1,n2,n3]
  rw [Bool.or_comm f.l]
 unfold lW ia
 rw [eh,ef]
 simp only [List.map_cons,List.map_nil]
 first | done | (cases i5 x f [h] <;> rfl)
theorem or3{a b c:Bool}(h:a=true->b=true):(a||b||c)=(b||c):=by
 cases a <;> cases b <;> simp_all
theorem Ep{n:Nat}{x:Wk}{h h1 h2:Hd}{f f1 f2:Fl}{pl p1 p2:List Int}{p q:List Wk}(hb:bX x=true)(hpq:dE x=[p,q])(e1:putL (cn n) p1 0 h f p=.ok h1 f1)(e2:putL (cn n) p2 0 h f q=.ok h2 f2) :
  lW x h f pl [h1,h2] (Ga (Ga f f1) f2)=ia x h f pl [(h1,f1),(h2,f2)]:=by
 have eh:kF x h [h1,h2]=[h1,h2]:=by unfold kF; rw [hb]; rfl
 have l1:=tI (y0 n) e1
 obtain⟨n1,n2,n3⟩:=uA x
 unfold lW ia
 rw [eh]
 simp only [List.map_cons,List.map_nil]
 cases ew:i5 x f [h1,h2]with
 | some s=>rfl
 | none =>
  have ef:js x h (Ga (Ga f f1) f2)=Eg x h f [f1,f2]:=by
   unfold js Eg Ga
   simp only [List.any_cons,List.any_nil,Bool.or_false,n1,n2,n3]
   rw [or3 l1.1,or3 l1.2.1,or3 l1.2.2.1,or3 l1.2.2.2.1,or3 l1.2.2.2.2]
   congr 1
   cases x with
   | one x=>cases hb
   | both a b=>rw [Bool.or_comm]; rfl
   | meet c d a b =>
    cases hpq
    have hr:(p++q).all (λw=>cD w.nm)=true:=by
     unfold i5 at ew
     split at ew
     ·split at ew
      ·split at ew
       ·split at ew
        ·assumption
        ·cases ew
       ·cases ew
      ·cases ew
     ·cases ew
    rw [List.all_append,UH,List.all_eq_true,List.all_eq_true]at hr
    obtain⟨a1,a2⟩:=oq hr.1 e1
    obtain⟨b1,b2⟩:=oq hr.2 e2
    show((f1.l||f2.l)||((f1.w||f2.w)||(f1.f||f2.f)))=((f.w||f.f)||(f1.l||f2.l))
    rw [a1,a2,b1,b2,Bool.or_self,Bool.or_self,Bool.or_comm]
  rw [ef]
theorem wL:∀n:Nat,yF n=cn n
 | 0=>by
  funext h f pl x
  rfl
 | n+1=>by
  funext h f pl x
  cases hb:bX x with
  | false =>
   rw [iD hb,←y3 hb]
   cases x with
   | one x=>rfl
   | both a b=>cases hb
   | meet c d a b=>cases hb
  | true =>
   rw [oi hb]
   obtain⟨p,q,hpq⟩:=sk hb
   have hl:yF (n+1) h f pl x=vC (yF n) x h f pl (dE x) 0 [] f:=by
    cases x with
    | one x=>cases hb
    | both a b=>rfl
    | meet c d a b=>rfl
   rw [hl,hpq,wL n]
   show cZ (putL (cn n) (pl++[((0:Nat):Int)]) 0 h f p) (λh' f'=>cZ (putL (cn n) (pl++[((1:Nat):Int)]) 0 h f q) λh'' N0=>lW x h f pl [h',h''] (Ga (Ga f f') N0))=cZ (putL (cn n) (pl++[((0:Nat):Int)]) 0 h f p) (λh' f'=>cZ (putL (cn n) (pl++[((1:Nat):Int)]) 0 h f q) λh'' N0=>ia x h f pl [(h',f'),(h'',N0)])
   cases e1:putL (cn n) (pl++[((0:Nat):Int)]) 0 h f p with
   | no a s=>rfl
   | ok h1 f1 =>
    show cZ _ _=cZ _ _
    cases e2:putL (cn n) (pl++[((1:Nat):Int)]) 0 h f q with
    | no a s=>rfl
    | ok h2 f2=>exact Ep hb hpq e1 e2
end My
namespace L2
open PySem PySem.Spec PyProof.Rows
section
variable{prog:Program}{w:World}{A:Around}{E:Value->Shared->Prop}{s:Shared}
theorem zA{z TI TO i1 i2 l1 l2:Addr}{k:Nat}{xs ys:Array Value}{x y a b:Value}{Q:Value->Shared->Prop}(D:ZipApart z TI TO i1 i2 l1 l2)
  (hz:IsZip s.heap z TI TO .none) (hTI:IsPair s.heap TI (.ref i1) (.ref i2)) (hTO:IsPair s.heap TO a b)
  (h1:s.heap.IsTupleIter i1 l1 k) (h2:s.heap.IsTupleIter i2 l2 k) (hl1:s.heap.IsTuple l1 xs) (hl2:s.heap.IsTuple l2 ys) (hx:xs[k]? = some x) (hy:ys[k]? = some y)
  (hQ:∀h',IsZip h' z TI TO (rawInt s.heap.objs.size)->IsPair h' TO x y->h'.IsTupleIter i1 l1 (k+1)->h'.IsTupleIter i2 l2 (k+1)->IsPair h' s.heap.objs.size x y->h'.objs.size=s.heap.objs.size+1->
   (∀c o,c≠z->c≠TO->c≠i1->c≠i2->s.heap.get? c=some o->h'.get? c=some o)->Q (.ref s.heap.objs.size) {s with heap:=h'}) :
  wpAny (model prog w) A (Builtin.«zip.__next__» ⟨[.ref z],[]⟩) (λfin s'=>∃v,fin=.done (.ret v)/\Q v s') E s:=by
 show wpAny _ _ (field (.ref z) 2 >>= _) _ _ _
 refine TZ (wpAny_field hz rfl (x:=.bool false) rfl ?_)
 show wpAny _ _ (field (.ref z) 3 >>= _) _ _ _
 refine TZ (wpAny_field hz rfl (x:=.ref TI) rfl ?_)
 refine TZ (wpAny_seqItems hTI rfl ?_)
 show wpAny _ _ (Builtin.SmallTypes.ownedTupleIsFree (.ref z) >>= _) _ _ _
 refine TZ ?_
 unfold Builtin.SmallTypes.ownedTupleIsFree
 refine TZ (wpAny_field hz rfl (x:=.none) rfl (T1 ?_))
 simp only [if_true]
 refine TZ (wpAny_rule ?_)
 refine TZ (wpAny_field hz rfl (x:=.ref TO) rfl ?_)
 refine TZ (wpAny_setField_rec hz (by simp) λg1 z1 s1=>?_)
 replace z1:IsZip g1 z TI TO .ellipsis:=z1
 refine TZ ?_
 simp only [List.zipIdx_cons,List.zipIdx_nil,List.forIn_cons,List.forIn_nil]
 refine TZ (TZ (wpAny_onRaise ?_))
 show wpAny _ _ (Builtin.SmallTypes.nextOf (.ref i1) >>= _) _ _ _
 refine TZ (kd (h1.extBut s1.extBut D.i1z) (hl1.extBut s1.extBut D.l1z) hx λg2 a2 s2=>T1 ?_)
 have p2:IsPair g2 TO a b:=s2.extBut _ _ D.TOi1 (s1.extBut _ _ D.TOz hTO)
 refine TZ (wpAny_seqItems p2 rfl (TZ (wpAny_updateSeq_pair p2 λg3 p3 s3=>TZ (wpAny_letGo (T1 ?_)))))
 replace p3:IsPair g3 TO x b:=p3
 refine TZ (TZ (wpAny_onRaise ?_))
 show wpAny _ _ (Builtin.SmallTypes.nextOf (.ref i2) >>= _) _ _ _
 refine TZ (kd (((h2.extBut s1.extBut D.i2z).extBut s2.extBut D.i12.symm).extBut s3.extBut D.TOi2.symm) (((hl2.extBut s1.extBut D.l2z).extBut s2.extBut D.l2i1).extBut s3.extBut D.l2TO) hy λg4 a4 s4=>T1 ?_)
 have p4:IsPair g4 TO x b:=s4.extBut _ _ D.TOi2 p3
 refine TZ (wpAny_seqItems p4 rfl (TZ (wpAny_updateSeq_pair p4 λg5 p5 s5=>TZ (wpAny_letGo (T1 (T1 ?_))))))
 replace p5:IsPair g5 TO x y:=p5
 refine TZ (wpAny_seqItems p5 rfl (TZ (wpAny_newTuple ?_)))
 have hsz:g5.objs.size=s.heap.objs.size:=by rw [s5.1,s4.1,s3.1,s2.1,s1.1]
 have z5:IsZip g5 z TI TO .ellipsis:=s5.extBut _ _ D.TOz.symm (s4.extBut _ _ D.i2z.symm (s3.extBut _ _ D.TOz.symm (s2.extBut _ _ D.i1z.symm z1)))
 have k5:∀c o,c≠z->c≠TO->c≠i1->c≠i2->s.heap.get? c=some o->g5.get? c=some o:=λc o c1 c2 c3 c4 e=>s5.extBut _ _ c2 (s4.extBut _ _ c4 (s3.extBut _ _ c2 (s2.extBut _ _ c3 (s1.extBut _ _ c1 e))))
 have b1:g5.IsTupleIter i1 l1 (k+1):=((a2.extBut s3.extBut D.TOi1.symm).extBut s4.extBut D.i12).extBut s5.extBut D.TOi1.symm
 have b2:g5.IsTupleIter i2 l2 (k+1):=a4.extBut s5.extBut D.TOi2.symm
 have LA:z<g5.objs.size:=T5 z5
 show wpAny _ _ (Builtin.SmallTypes.ownedTupleHandOut (.ref z) (.ref g5.objs.size) >>= _) _ _ _
 refine TZ ?_
 unfold Builtin.SmallTypes.ownedTupleHandOut
 have z6:IsZip (g5.push {cls:=.type "tuple",data:=.seq #[x,y]}) z TI TO .ellipsis:=T4 _ z5
 refine TZ (wpAny_setField_rec z6 (by simp) λg7 z7 s7=>?_)
 replace z7:IsZip g7 z TI TO (rawInt g5.objs.size):=z7
 refine wpAny_setField_rec z7 (by simp) λg8 z8 s8=>?_
 replace z8:IsZip g8 z TI TO (rawInt g5.objs.size):=z8
 have up:∀c o,c≠z->g5.get? c=some o->g8.get? c=some o:=λc o c1 e=>s8.extBut _ _ c1 (s7.extBut _ _ c1 (T4 _ e))
 have t8:IsPair g8 g5.objs.size x y:=s8.extBut _ _ (Nat.ne_of_gt LA) (s7.extBut _ _ (Nat.ne_of_gt LA) (T6 _ rfl))
 have n8:g8.objs.size=g5.objs.size+1:=by rw [s8.1,s7.1,Heap.size_push]
 rw [hsz]at z8 t8 n8
 refine T1 ⟨_,rfl,?_⟩
 show Q (.ref g5.objs.size) _
 rw [hsz]
 exact hQ g8 z8 (up _ _ D.TOz p5) (b1.at λo e=>up _ o D.i1z e) (b2.at λo e=>up _ o D.i2z e) t8 n8 λc o c1 c2 c3 c4 e=>up c o c1 (k5 c o c1 c2 c3 c4 e)
theorem Cu{z TI TO i1 i2 l1 l2:Addr}{k:Nat}{xs:Array Value}{Q:Fin->Shared->Prop}(hh:A.handled=none)(D:ZipApart z TI TO i1 i2 l1 l2)
  (hz:IsZip s.heap z TI TO .none) (hTI:IsPair s.heap TI (.ref i1) (.ref i2)) (h1:s.heap.IsTupleIter i1 l1 k) (hl1:s.heap.IsTuple l1 xs) (hx:xs[k]? = none)
  (hE:∀h' e,(∀c o,c≠z->c≠i1->s.heap.get? c=some o->h'.get? c=some o)->(∃o,h'.get? e=some o/\o.cls=.type "StopIteration")->E (.ref e) {s with heap:=h'}) :
  wpAny (model prog w) A (Builtin.«zip.__next__» ⟨[.ref z],[]⟩) Q E s:=by
 show wpAny _ _ (field (.ref z) 2 >>= _) _ _ _
 refine TZ (wpAny_field hz rfl (x:=.bool false) rfl ?_)
 show wpAny _ _ (field (.ref z) 3 >>= _) _ _ _
 refine TZ (wpAny_field hz rfl (x:=.ref TI) rfl ?_)
 refine TZ (wpAny_seqItems hTI rfl ?_)
 show wpAny _ _ (Builtin.SmallTypes.ownedTupleIsFree (.ref z) >>= _) _ _ _
 refine TZ ?_
 unfold Builtin.SmallTypes.ownedTupleIsFree
 refine TZ (wpAny_field hz rfl (x:=.none) rfl (T1 ?_))
 simp only [if_true]
 refine TZ (wpAny_rule ?_)
 refine TZ (wpAny_field hz rfl (x:=.ref TO) rfl ?_)
 refine TZ (wpAny_setField_rec hz (by simp) λg1 z1 s1=>?_)
 replace z1:IsZip g1 z TI TO .ellipsis:=z1
 refine TZ ?_
 simp only [List.zipIdx_cons,List.zipIdx_nil,List.forIn_cons,List.forIn_nil]
 refine TZ (TZ (wpAny_onRaise ?_))
 show wpAny _ _ (Builtin.SmallTypes.nextOf (.ref i1) >>= _) _ _ _
 refine TZ (fK hh (h1.extBut s1.extBut D.i1z) (hl1.extBut s1.extBut D.l1z) hx λg2 e s2 he=>?_)
 obtain⟨oe,hoe,hce⟩:=he
 have z2:IsZip g2 z TI TO .ellipsis:=s2 _ _ D.i1z.symm z1
 have ez:e≠z:=λx=>by subst x; rw [z2]at hoe; cases hoe; simp at hce
 exact wpAny_setField_rec z2 (by simp) λg3 _ s3=>hE g3 e (λc o c1 c3 x=>s3.extBut _ _ c1 (s2 _ _ c3 (s1.extBut _ _ c1 x))) ⟨oe,s3.extBut _ _ ez hoe,hce⟩
theorem oz{z TI TO i1 i2 l1 l2:Addr}{k:Nat}{xs ys:Array Value}{x y a b:Value}{Q:Option Value->Shared->Prop}(D:ZipApart z TI TO i1 i2 l1 l2)
  (hz:IsZip s.heap z TI TO .none) (hTI:IsPair s.heap TI (.ref i1) (.ref i2)) (hTO:IsPair s.heap TO a b)
  (h1:s.heap.IsTupleIter i1 l1 k) (h2:s.heap.IsTupleIter i2 l2 k) (hl1:s.heap.IsTuple l1 xs) (hl2:s.heap.IsTuple l2 ys) (hx:xs[k]? = some x) (hy:ys[k]? = some y)
  (hQ:∀h',IsZip h' z TI TO (rawInt s.heap.objs.size)->IsPair h' TO x y->h'.IsTupleIter i1 l1 (k+1)->h'.IsTupleIter i2 l2 (k+1)->IsPair h' s.heap.objs.size x y->h'.objs.size=s.heap.objs.size+1->
   (∀c o,c≠z->c≠TO->c≠i1->c≠i2->s.heap.get? c=some o->h'.get? c=some o)->Q (some (.ref s.heap.objs.size)) {s with heap:=h'}) :
  wpAny (model prog w) A (pyNext (.ref z)) Q E s:=by
 have hT:s.TypeIs (.ref z) "zip":=⟨_,hz,rfl⟩
 unfold pyNext
 exact TZ (wpAny_attempt (wpAny_callSpecial?_slot (name:=Str.ofString "__next__") hT F.slot_zip_next
  (wpAny_call_entry F.slot_zip_next hT F.entry_zip_next (zA D hz hTI hTO h1 h2 hl1 hl2 hx hy λh' a1 a2 a3 a4 a5 a6 a7=>T1 (hQ h' a1 a2 a3 a4 a5 a6 a7)) (F.args_zip_next_1 _))))
theorem qd{z TI TO i1 i2 l1 l2:Addr}{k:Nat}{xs:Array Value}{Q:Option Value->Shared->Prop}(hh:A.handled=none)(D:ZipApart z TI TO i1 i2 l1 l2)
  (hz:IsZip s.heap z TI TO .none) (hTI:IsPair s.heap TI (.ref i1) (.ref i2)) (h1:s.heap.IsTupleIter i1 l1 k) (hl1:s.heap.IsTuple l1 xs) (hx:xs[k]? = none)
  (hQ:∀h',(∀c o,c≠z->c≠i1->s.heap.get? c=some o->h'.get? c=some o)->Q none {s with heap:=h'}):wpAny (model prog w) A (pyNext (.ref z)) Q E s:=by
 have hT:s.TypeIs (.ref z) "zip":=⟨_,hz,rfl⟩
 unfold pyNext
 refine TZ (wpAny_attempt (wpAny_callSpecial?_slot (name:=Str.ofString "__next__") hT F.slot_zip_next
  (wpAny_call_entry F.slot_zip_next hT F.entry_zip_next (Cu hh D hz hTI h1 hl1 hx λh' e hk he=>?_) (F.args_zip_next_1 _))))
 obtain⟨o,ho,hc⟩:=he
 exact TZ (wpAny_isInstance (T:="StopIteration") (b:=true) ⟨o,ho,hc⟩ isSubtype_stop (T1 (hQ _ hk)))
abbrev MQ(h:Heap)(l1:Addr):Heap:=h.push {cls:=.type "tuple_iterator",data:=.fields #[.ref l1,.int 0 0]}
abbrev Nm(h:Heap)(l1 l2:Addr):Heap:=(MQ h l1).push {cls:=.type "tuple_iterator",data:=.fields #[.ref l2,.int 0 0]}
abbrev M4(h:Heap)(l1 l2:Addr):Heap:=(Nm h l1 l2).push {cls:=.type "tuple",data:=.seq #[.ref h.objs.size,.ref (MQ h l1).objs.size]}
abbrev Nk(h:Heap)(l1 l2:Addr):Heap:=(M4 h l1 l2).push {cls:=.type "tuple",data:=.seq #[.none,.none]}
abbrev Ia(h:Heap)(l1 l2:Addr):Heap:=(Nk h l1 l2).push {cls:=.type "zip",data:=.fields #[.none,.bool false,.bool false,.ref (Nm h l1 l2).objs.size,.ref (M4 h l1 l2).objs.size]}
theorem xE(l1 l2:Addr)(xs ys:Array Value):Meets (Builtin.«zip.__new__» ⟨[.type "zip",.ref l1,.ref l2],[]⟩) (λ_ R s=>s.heap.IsTuple l1 xs/\s.heap.IsTuple l2 ys/\R (.ok (.ret (.ref (Nk s.heap l1 l2).objs.size))) {s with heap:=Ia s.heap l1 l2}) :=
 .of_wp λprog w A R s h=>by
  obtain⟨hp,g,d,tk,os⟩:=s; obtain⟨hl1,hl2,h⟩:=h
  have hsub:=sub_zip
  have hL1:Heap.IsTuple (Shared.heap ⟨hp,g,d,tk,os⟩) l1 xs:=hl1
  have hL2:Heap.IsTuple (Shared.heap ⟨hp.push {cls:=.type "tuple_iterator",data:=.fields #[.ref l1,.int 0 0]},g,d,tk,os⟩) l2 ys:=Heap.IsTuple.push hl2 _
  wp_walk using wpAny_pyIter_tuple hL1,wpAny_pyIter_tuple hL2
  exact⟨_,rfl,h⟩
theorem zk{l1 l2:Addr}{xs ys:Array Value}{Q:Value->Shared->Prop}(hl1:s.heap.IsTuple l1 xs)(hl2:s.heap.IsTuple l2 ys)
  (h:∀h',IsZip h' (s.heap.objs.size+4) (s.heap.objs.size+2) (s.heap.objs.size+3) .none->IsPair h' (s.heap.objs.size+2) (.ref s.heap.objs.size) (.ref (s.heap.objs.size+1))->
   IsPair h' (s.heap.objs.size+3) .none .none->h'.IsTupleIter s.heap.objs.size l1 0->h'.IsTupleIter (s.heap.objs.size+1) l2 0->h'.objs.size=s.heap.objs.size+5->
   (∀c o,s.heap.get? c=some o->h'.get? c=some o)->Q (.ref (s.heap.objs.size+4)) {s with heap:=h'}) :
  wpAny (model prog w) A (call (.type "zip") [.ref l1,.ref l2]) Q E s:=by
 refine callType_new F.called_zip (by decide) (F.typeCall_zip_2 _ _) (F.newCall_zip_2 _ _) (λobj=>F.args_object_init_3 obj _ _) F.entry_zip_new (xE l1 l2 xs ys) ⟨hl1,hl2,?_⟩
 have z1:(MQ s.heap l1).objs.size=s.heap.objs.size+1:=Heap.size_push ..
 have z2:(Nm s.heap l1 l2).objs.size=s.heap.objs.size+2:=by rw [Heap.size_push,z1]
 have z3:(M4 s.heap l1 l2).objs.size=s.heap.objs.size+3:=by rw [Heap.size_push,z2]
 have z4:(Nk s.heap l1 l2).objs.size=s.heap.objs.size+4:=by rw [Heap.size_push,z3]
 have z5:(Ia s.heap l1 l2).objs.size=s.heap.objs.size+5:=by rw [Heap.size_push,z4]
 have g5:(Ia s.heap l1 l2).get? (Nk s.heap l1 l2).objs.size=some _:=T6 _ rfl
 have g4:(Ia s.heap l1 l2).get? (M4 s.heap l1 l2).objs.size=some _:=T4 _ (T6 _ rfl)
 have g3:(Ia s.heap l1 l2).get? (Nm s.heap l1 l2).objs.size=some _:=T4 _ (T4 _ (T6 _ rfl))
 have g2:(Ia s.heap l1 l2).get? (MQ s.heap l1).objs.size=some _:=T4 _ (T4 _ (T4 _ (T6 _ rfl)))
 have g1:(Ia s.heap l1 l2).get? s.heap.objs.size=some _:=T4 _ (T4 _ (T4 _ (T4 _ (T6 _ rfl))))
 show _/\_
 rw [z2,z3,z4]at g5
 rw [z1,z2]at g3
 rw [z3]at g4
 rw [z1]at g2
 rw [z4]
 exact⟨⟨_,g5,rfl⟩,h _ g5 g3 g4 ⟨_,g1,rfl,rfl⟩ ⟨_,g2,rfl,rfl⟩ z5 λc o x=>T4 _ (T4 _ (T4 _ (T4 _ (T4 _ x))))⟩
end
def JZ(K:UJ)(a b:Addr):It :=
 ⟨λi H=>∃xs ys x y,aH K H a xs/\aH K H b ys/\xs[i]? = some x/\ys[i]? = some y,
   λi H v H'=>∃T x y,v=.ref T/\H T=none/\H'=upd H T (.tup [x,y])/\(∀xs,aH K H a xs->xs[i]? = some x)/\∀ys,aH K H b ys->ys[i]? = some y,
   λi H=>∃xs,aH K H a xs/\xs.length<=i⟩
theorem Av{P:Program}{w:World}{K:UJ}{es:List Expr}{x1:Nat}{pos:Pos}(a b z TI TO i1 i2:Addr)(D:ZipApart z TI TO i1 i2 a b) :
  Turn P w K (.Tuple es x1 pos) (JZ K a b) [z,TI,TO,i1,i2] z (λi h=>IsZip h z TI TO .none/\IsPair h TI (.ref i1) (.ref i2)/\(∃u v,IsPair h TO u v)/\h.IsTupleIter i1 a i/\h.IsTupleIter i2 b i) where
 mem:=by simp
 obj:=λi h st c hc=>by
  obtain⟨h1,h2,⟨u,v,h3⟩,⟨o4,e4,c4,d4⟩,⟨o5,e5,c5,d5⟩⟩:=st
  simp only [Uq,List.not_mem_nil,or_false]at hc
  rcases hc with rfl | rfl | rfl | rfl | rfl
  ·exact⟨_,h1,λv z=>by cases(show Data.fields _=Data.cell v from z)⟩
  ·exact⟨_,h2,λv z=>by cases(show Data.seq _ _=Data.cell v from z)⟩
  ·exact⟨_,h3,λv z=>by cases(show Data.seq _ _=Data.cell v from z)⟩
  ·exact⟨o4,e4,λv z=>by rw [d4]at z; cases z⟩
  ·exact⟨o5,e5,λv z=>by rw [d5]at z; cases z⟩
 keep:=λi h h' st k=>by
  obtain⟨h1,h2,⟨u,v,h3⟩,h4,h5⟩:=st
  exact⟨k z (by simp) _ h1,k TI (by simp) _ h2,⟨u,v,k TO (by simp) _ h3⟩,h4.at λo e=>k i1 (by simp) o e,h5.at λo e=>k i2 (by simp) o e⟩
 item:=by
  intro X hP hw hK hc i pins s σ H E I hf st hg
  subst hP hw hK
  obtain⟨xs,ys,x,y,hq1,hq2,hx,hy⟩:=hg
  obtain⟨its,rv,p,hz⟩:=I.tuple hq1
  obtain⟨its2,QF,p2,hz2⟩:=I.tuple hq2
  obtain⟨u,hu,ru⟩:=rv.get hx
  obtain⟨u2,hu2,RT⟩:=QF.get hy
  obtain⟨h1,h2,⟨v1,v2,h3⟩,h4,h5⟩:=st
  refine oz D h1 h2 h3 h4 h5 p p2 (x:=u) (y:=u2) (by simpa using hu) (by simpa using hu2) λh' g1 g2 g3 g4 g5 hsz g6=>⟨_,rfl,?_⟩
  refine wpAny_letOwnedTupleGo_zip (show IsZip h' z TI TO (rawInt s.heap.objs.size) from g1) λh'' f1 fs=>?_
  have LA:z<s.heap.objs.size:=T5 h1
  have O_:s.heap.objs.size≠z:=Nat.ne_of_gt LA
  have kk:∀c o,c∉[z,TI,TO,i1,i2]->s.heap.get? c=some o->h''.get? c=some o:=λc o hc e=>by
   simp only [Uq,List.not_mem_nil,or_false,not_or]at hc
   exact fs.extBut _ _ hc.1 (g6 c o hc.1 hc.2.2.1 hc.2.2.2.1 hc.2.2.2.2 e)
  have pT:IsPair h'' s.heap.objs.size u u2:=fs.extBut _ _ O_ g5
  have I1:Inv X pins σ (upd H s.heap.objs.size (.tup [x,y])) {s with heap:=h'',toks:=s.toks}:=I.qJ hf kk (T7 _) ⟨by show 2<=sizeLine; decide,[u,u2],.cons ru (.cons RT .nil),⟨_,pT,rfl,⟨_,rfl⟩,rfl⟩⟩
  have O0:TI<s.heap.objs.size:=T5 h2
  refine⟨.ref s.heap.objs.size,_,I1,rfl,⟨_,x,y,rfl,I.hok.fresh (T7 _),rfl,λys hy'=>by rw [I.ik hy' hq1]; exact hx,λys hy'=>by rw [I.ik hy' hq2]; exact hy⟩,⟨f1,?_,⟨u,u2,fs.extBut _ _ D.TOz g2⟩,g3.extBut fs.extBut D.i1z,g4.extBut fs.extBut D.i2z⟩,λc hc=>?_⟩
  ·exact fs.extBut _ _ D.TIz (g6 TI _ D.TIz D.TITO D.TIi1 D.TIi2 h2)
  ·have hn:=(hf c hc).1
   have:c≠s.heap.objs.size:=by
    have lt:c<s.heap.objs.size:=by
     simp only [Uq,List.not_mem_nil,or_false]at hc
     obtain⟨o4,e4,_⟩:=h4
     obtain⟨o5,e5,_⟩:=h5
     rcases hc with rfl | rfl | rfl | rfl | rfl
     ·exact LA
     ·exact O0
     ·exact T5 h3
     ·exact T5 e4
     ·exact T5 e5
    exact Ut lt
   rw [aI this]; exact hn
 done:=by
  intro X hP hw hK hc i pins s σ H E I hf st hg
  subst hP hw hK
  obtain⟨xs,hq1,hend⟩:=hg
  obtain⟨its,rv,p,hz⟩:=I.tuple hq1
  obtain⟨h1,h2,⟨v1,v2,h3⟩,h4,h5⟩:=st
  have hl:=rv.length
  refine qd (I.ok.hd hc) D h1 h2 h4 p (by simp; omega) λh' g6=>⟨rfl,I.nz (t':=s.toks) hf λc o hc e=>?_⟩
  simp only [Uq,List.not_mem_nil,or_false,not_or]at hc
  exact g6 c o hc.1 hc.2.2.2.1 e
 self:=λ_ _ _ _ _ st h=>wpAny_pyIter_zip st.1 h
section
variable{X:Cx}
def MK(K:UJ)(ta:TA):TI:=λσ H R=>ta σ H λvs H1=>∃a b,vs=[.ref a,.ref b]/\(∃xs,aH K H1 a xs)/\(∃ys,aH K H1 b ys)/\R (JZ K a b) H1
theorem F5{es:List Expr}{x1:Nat}{tpos:Pos}{a b:Expr}{ta:TA}{p pos:Pos}(hg:Gl X "zip")(hm:X.mg "zip"=none)(ha:PA X [a,b] ta)(hs:starEach [a,b] X.env=[(false,eval a X.env),(false,eval b X.env)]:=by rfl)(hs2:starEach [b] X.env=[(false,eval b X.env)]:=by rfl) :
  PI X (.Tuple es x1 tpos) (.Call (.Name "zip" p) [a,b] [] pos) (MK X.K ta):=by
 intro pins s σ H R I h
 refine Call_ (iT I hg hm (by decide +kernel:bootBuiltins "zip"=some (.type "zip")) (PyProof.Rows.callWith_type1 (b_ (ha pos pins s σ H _ I h) λus s1 ⟨vs,H1,I1,r1,q1⟩=>?_) (by rw [hs,hs2]) (by rw [hs2]; rfl)))
 obtain⟨l1,l2,e,⟨xs,hq1⟩,⟨ys,hq2⟩,q⟩:=q1
 subst e
 cases r1 with
 | cons r rr =>
  cases rr with
  | cons r' rr =>
   cases rr
   cases r
   cases r'
   obtain⟨its,rv,p1,hz⟩:=I1.tuple hq1
   obtain⟨its2,QF,p2,hz2⟩:=I1.tuple hq2
   have a1:l1<s1.heap.objs.size:=by obtain⟨_,e,_⟩:=p1; exact T5 e
   have a2:l2<s1.heap.objs.size:=by obtain⟨_,e,_⟩:=p2; exact T5 e
   refine zk p1 p2 λh' hz hTI hTO hi1 hi2 hsz hk=>?_
   refine wpAny_pyIter_zip (show IsZip h' _ _ _ _ from hz) ?_
   refine⟨_,[s1.heap.objs.size+4,s1.heap.objs.size+2,s1.heap.objs.size+3,s1.heap.objs.size,s1.heap.objs.size+1],_,_,H1,rfl,I1.kept (t':=s1.toks) hk,Av _ _ _ _ _ _ _ (zipApart_new a1 a2),⟨hz,hTI,⟨_,_,hTO⟩,hi1,hi2⟩,λc hc=>?_,q⟩
   simp only [Uq,List.not_mem_nil,or_false]at hc
   have hle:s1.heap.objs.size<=c:=by rcases hc with rfl | rfl | rfl | rfl | rfl <;> first | exact T7 _ | exact Nat.le_add_right _ _
   exact I1.lZ hle (I1.hok.fresh hle)
end
theorem zM{K:UJ}{a b D:Addr}{xs ys:List V}{g:TG}{tc:TT}{te:TE}{Q:VK}{qC:St}{H0:Hp}(Pv:Nat->St->List V->Hp->Prop)(h0:Pv 0 qC [] H0)(hD:∀i σ zs H,i<=xs.length->Pv i σ zs H->H D=some (.lst zs)/\zs.length<=i)
  (hl:∀i σ zs H,i<=xs.length->Pv i σ zs H->aH K H a xs/\aH K H b ys) (hxy:xs.length=ys.length) (hz:xs.length<=sizeLine)
  (hs:∀i x y σ zs H T,xs[i]? = some x->ys[i]? = some y->Pv i σ zs H->H T=none->g (.ref T) σ (upd H T (.tup [x,y])) λde H2=>tc de H2 λb H3=>if b=true then te de H3 λv H4=>H4 D=some (.lst zs)/\Pv (i+1) de (zs++[v]) (upd H4 D (.lst (zs++[v])))else Pv (i+1) de zs H3)
  (hd:∀σ zs H,Pv xs.length σ zs H->Q (.ref D) H):∃W:Nat->Nat->St->List V->Hp->Prop,(∃m,W 0 m qC [] H0)/\pU (JZ K a b) g tc te D Q W:=by
 refine⟨λi m σ zs H=>m=xs.length-i/\i<=xs.length/\Pv i σ zs H,⟨xs.length,by simp,Uu _,h0⟩,?_⟩
 rintro i m σ zs H ⟨rfl,hi,p⟩
 obtain⟨q1,q2⟩:=hl i σ zs H hi p
 refine⟨(hD i σ zs H hi p).1,?_⟩
 by_cases hlt:i<xs.length
 ·have l2:i<ys.length:=by omega
  refine .inr ⟨⟨xs,ys,xs[i],ys[i],q1,q2,by simp [hlt],by simp [l2]⟩,Ud (hD i σ zs H hi p).2 (Ue hlt hz),Pv (i+1),λσ' ys' H' p'=>⟨xs.length-(i+1),by omega,rfl,hlt,p'⟩,λv H' y=>?_⟩
  obtain⟨T,x,y,rfl,hT,rfl,hx,hy⟩:=y
  exact hs i x y σ zs H T (hx xs q1) (hy ys q2) p hT
 ·have e:i=xs.length:=by omega
  subst e
  exact .inl ⟨⟨xs,q1,T7 _⟩,hd σ zs H p⟩
section
variable{κ:Type} [DecidableEq κ]
def xC(kvs:List (κ×V))(k:κ):Option V:=(kvs.find? λkv=>decide (kv.1=k)).map (·.2)
def putK(kvs:List (κ×V))(k:κ)(v:V):List (κ×V) :=
 if(kvs.any λkv=>decide (kv.1=k))=true then kvs.map (λkv=>if kv.1=k then(kv.1,v)else kv)else kvs++[(k,v)]
theorem vq{p:κ×V}{r:List (κ×V)}{k:κ}(e:p.1=k):xC (p::r) k=some p.2:=by simp [xC,List.find?_cons,e]
theorem vO{p:κ×V}{r:List (κ×V)}{k:κ}(e:¬p.1=k):xC (p::r) k=xC r k:=by simp [xC,List.find?_cons,e]
theorem uX(k:κ):∀kvs:List (κ×V),(kvs.any λkv=>decide (kv.1=k))=(xC kvs k).isSome
 | []=>rfl
 | p::r=>by
  rw [List.any_cons]
  by_cases e:p.1=k
  ·simp only [vq e,T_ e,Bool.true_or,Option.isSome_some]
  ·rw [vO e,T9 e,Bool.false_or]; exact uX k r
theorem my(kvs:List (κ×V))(k:κ)(v:V):(putK kvs k v).length<=kvs.length+1:=by
 unfold putK
 split
 ·rw [Ua]; omega
 ·rw [Ub,UG,List.length_nil]; omega
theorem jj.Ax{o:Option V}{u:Option Value}(r:jj o u):o.isSome=u.isSome:=by
 cases o with
 | none=>cases u with
  | none=>rfl
  | some _=>exact(show False from r).elim
 | some _=>cases u with
  | none=>exact(show False from r).elim
  | some _=>rfl
theorem KV.any{kvs:List (κ×V)}{vs:List (κ×Value)}(r:KV kvs vs)(k:κ):(kvs.any λkv=>decide (kv.1=k))=vs.any λkv=>decide (kv.1=k):=by
 unfold KV at r
 induction r with
 | nil=>rfl
 | cons h t ih=>rw [List.any_cons,List.any_cons,ih,h.1]
theorem KV.repl{kvs:List (κ×V)}{vs:List (κ×Value)}(r:KV kvs vs)(k:κ){y:V}{u:Value}(ry:RelV y u) :
  KV (kvs.map λkv=>if kv.1=k then(kv.1,y)else kv) (vs.map λkv=>if kv.1=k then(kv.1,u)else kv):=by
 unfold KV at r⊢
 induction r with
 | nil=>exact .nil
 | @cons p q ps qs h t ih =>
  rw [List.map_cons,List.map_cons]
  refine .cons ?_ ih
  obtain⟨h1,h2⟩:=h
  by_cases e:p.1=k
  ·rw [if_pos e,if_pos (h1.symm.trans e)]; exact⟨h1,ry⟩
  ·rw [if_neg e,if_neg (λz=>e (h1.trans z))]; exact⟨h1,h2⟩
theorem KV.put{kvs:List (κ×V)}{vs:List (κ×Value)}(r:KV kvs vs)(k:κ){y:V}{u:Value}(ry:RelV y u):KV (putK kvs k y) (stored vs k u):=by
 unfold putK stored
 rw [r.any k]
 by_cases e:(vs.any λkv=>decide (kv.1=k))=true
 ·rw [if_pos e,if_pos e]; exact r.repl k ry
 ·rw [if_neg e,if_neg e]; exact Paired.snoc r ⟨rfl,ry⟩
theorem KV.length{kvs:List (κ×V)}{vs:List (κ×Value)}(r:KV kvs vs):kvs.length=vs.length:=Paired.length r
end
theorem GX{P:Program}{w:World}{k:Key}{u:Value}(r:RelV (kV k) u):(bH P w).is k u=true:=by
 cases k with
 | inl i=>obtain⟨t,e⟩:=(show∃t,u=Value.int i t from r); subst e; exact uF P w i t
 | inr x=>obtain⟨t,e⟩:=(show∃t,u=Value.str x t from r); subst e; exact uQ P w x t
theorem ME{P:Program}{w:World}{k:dq}{u:Value}(r:RelV (oV k) u):(optKind P w).is k u=true:=by
 cases k with
 | none=>obtain rfl:u=Value.none:=r; rfl
 | some k=>exact GX (P:=P) (w:=w) r
theorem rh{P:Program}{w:World}:∀{ks:List dq} {us:List Value},Vals (ks.map oV) us->ItemsAre (optKind P w) ks us
 | [],_,r=>by rw [List.map_nil]at r; cases r; exact .nil
 | k::ks,_,r=>by
  rw [List.map_cons]at r
  cases r with
  | cons h t=>exact .cons (ME h) (rh t)
abbrev KT(H:Hp):List (List dq×V)->List (List dq×Addr×Value)->Prop:=Paired λp q=>p.1=q.1/\H q.2.1=some (.tup (p.1.map oV))/\RelV p.2 q.2.2
theorem KT.val{H:Hp}{kvs:List (List dq×V)}{xs:List (List dq×Addr×Value)}(r:KT H kvs xs)(k:List dq):jj (xC kvs k) ((atKey xs k).map (·.2)):=by
 induction r with
 | nil=>exact True.intro
 | @cons p q ps qs h t ih =>
  obtain⟨h1,_,h2⟩:=h
  by_cases e:p.1=k
  ·have e':q.1=k:=h1.symm.trans e
   have b:atKey (q::qs) k=some q.2:=by simp [atKey,List.find?_cons,e']
   rw [vq e,b]; exact h2
  ·have e':¬q.1=k:=λz=>e (h1.trans z)
   have b:atKey (q::qs) k=atKey qs k:=by simp [atKey,List.find?_cons,e']
   rw [vO e,b]; exact ih
theorem KT.repl{H:Hp}{kvs:List (List dq×V)}{xs:List (List dq×Addr×Value)}(r:KT H kvs xs)(k:List dq){y:V}{u:Value}(ry:RelV y u) :
  KT H (kvs.map λkv=>if kv.1=k then(kv.1,y)else kv) (xs.map (putAt k u)):=by
 induction r with
 | nil=>exact .nil
 | @cons p q ps qs h t ih =>
  rw [List.map_cons,List.map_cons]
  refine .cons ?_ ih
  obtain⟨h1,h2,h3⟩:=h
  unfold putAt
  by_cases e:p.1=k
  ·rw [if_pos e,if_pos (h1.symm.trans e)]; exact⟨h1,h2,ry⟩
  ·rw [if_neg e,if_neg (λz=>e (h1.trans z))]; exact⟨h1,h2,h3⟩
theorem KT.put{H:Hp}{kvs:List (List dq×V)}{xs:List (List dq×Addr×Value)}(r:KT H kvs xs)(k:List dq){b:Addr}{y:V}{u:Value}(hb:H b=some (.tup (k.map oV)))(ry:RelV y u) :
  KT H (putK kvs k y) (storedH xs k b u):=by
 have e:(kvs.any λkv=>decide (kv.1=k))=(atKey xs k).isSome:=by
  rw [uX,(r.val k).Ax,Option.isSome_map]
 unfold putK storedH
 rw [e]
 by_cases q:(atKey xs k).isSome=true
 ·rw [if_pos q,if_pos q]; exact r.repl k ry
 ·rw [if_neg q,if_neg q]; exact Paired.snoc r ⟨rfl,hb,ry⟩
theorem KT.keeps{H H':Hp}{kvs:List (List dq×V)}{xs:List (List dq×Addr×Value)}(r:KT H kvs xs)(ht:∀b ys,H b=some (.tup ys)->H' b=some (.tup ys)):KT H' kvs xs :=
 Paired.IE r λ_ _ z=>⟨z.1,ht _ _ z.2.1,z.2.2⟩
section
variable{P:Program}{w:World}{H:Hp}{h:Heap}{a:Addr}
theorem Hs{u:HO}(ok:i7 P w H h)(e:Rd H a u):cq P w H h a u:=e.ok ok
theorem LS{kvs:List (Key×V)}(ok:i7 P w H h)(e:Rd H a (.dK kvs)):kvs.length<=sizeLine/\(a==sysModules)=false/\∃vs,KV kvs vs/\h.DictOf (bH P w) a vs :=
 show cq P w H h a (.dK kvs) from Hs ok e
theorem cN{kvs:List (Key×V)}(ok:i7 P w H h)(e:H a=some (.dK kvs)):kvs.length<=sizeLine/\(a==sysModules)=false/\∃vs,KV kvs vs/\h.DictOf (bH P w) a vs:=LS ok (.inl e)
theorem DT{ks:List dq}(ok:i7 P w H h)(e:H a=some (.tup (ks.map oV))):(tupleKind (optKind P w)).is h ks a:=by
 obtain⟨_,its,r,o,h1,h2,⟨n,h3⟩,_⟩:=(show cq P w H h a (.tup (ks.map oV)) from ok a _ e)
 exact⟨o,its.toArray,n,h1,h2,h3,by simpa using rh r⟩
theorem Mm{kvs:List (List dq×V)}(ok:i7 P w H h)(e:Rd H a (.dT kvs)):kvs.length<=sizeLine/\(a==sysModules)=false/\
  ∃xs,KT H kvs xs/\h.DictOfH (tupleKind (optKind P w)) a xs:=by
 obtain⟨z,y,xs,r,o,es,ep,h1,h2,h3,h4,h5⟩:=(show cq P w H h a (.dT kvs) from Hs ok e)
 refine⟨z,y,xs,r,o,es,ep,h1,h2,h3,h4,λx hx=>?_,h5⟩
 have all:∀{l:List (List dq×V)} {m:List (List dq×Addr×Value)},KT H l m->∀x∈m,(tupleKind (optKind P w)).is h x.1 x.2.1:=by
  intro l m q
  induction q with
  | nil=>intro x hx; exact nomatch hx
  | @cons p q ps qs hq t ih =>
   intro x hx
   rcases Uq.mp hx with e | hx
   ·subst e
    exact DT ok (by rw [←hq.1]; exact hq.2.1)
   ·exact ih x hx
 exact all r x hx
theorem Lf{kvs:List (List dq×V)}(ok:i7 P w H h)(e:H a=some (.dT kvs)):kvs.length<=sizeLine/\(a==sysModules)=false/\
  ∃xs,KT H kvs xs/\h.DictOfH (tupleKind (optKind P w)) a xs:=Mm ok (.inl e)
end
def zh(H:Hp)(a:Addr)(y v:V)(H':Hp):Prop :=
 (∃kvs k,H a=some (.dK kvs)/\y=kV k/\kvs.length<sizeLine/\H'=upd H a (.dK (putK kvs k v)))\/
 ∃kvs k b,H a=some (.dT kvs)/\y=.ref b/\H b=some (.tup (k.map oV))/\kvs.length<sizeLine/\H'=upd H a (.dT (putK kvs k v))
theorem zh.t{H:Hp}{a b:Addr}{kvs:List (List dq×V)}{k:List dq}{v:V}(e:H a=some (.dT kvs))(eb:H b=some (.tup (k.map oV)))(hl:kvs.length<sizeLine) :
  zh H a (.ref b) v (upd H a (.dT (putK kvs k v))):=.inr ⟨kvs,k,b,e,rfl,eb,hl,rfl⟩
section
variable{X:Cx}{pins:List (Addr×Obj)}{σ:St}{H:Hp}{s:Shared}{a:Addr}{y v:V}{u r:Value}{o:Option V}{A:Around}{E:Value->Shared->Prop}
theorem Inv.big(I:Inv X pins σ H s):sysModules<s.heap.objs.size:=by
 have h:mainGlobals<s.heap.objs.size:=(I.mod.glob.keeps I.bk).lt
 exact Nat.lt_trans (by decide) h
theorem yi{h':Heap}{t':Nat}{ob:HO}(I:Inv X pins σ H s)(mu:Lr (H a))(hs:Heap.SameBut a s.heap h')(he:∃q,h'.get? a=some q)(new:cq X.prog X.w (upd H a ob) h' a ob) :
  Inv X pins σ (upd H a ob) {s with heap:=h',toks:=t'} :=
 I.write (x:=a) (e:=a) mu (.inl rfl) (λb q hb z=>(hs.2 b hb).trans z) he new
theorem Jr{P:Program}{w:World}{H':Hp}{h':Heap}{kvs:List (Key×V)}{vs:List (Key×Value)}(z:kvs.length<=sizeLine)(hd:(a==sysModules)=false)(rel:KV kvs vs)(dd:h'.DictOf (bH P w) a vs) :
  cq P w H' h' a (.dK kvs):=⟨z,hd,vs,rel,dd⟩
theorem zx{H':Hp}{Q:Unit->Shared->Prop}(hu:A.units+1<cLine)(I:Inv X pins σ H s)(g:zh H a y v H')(ry:RelV y u)(rv:RelV v r)(h:∀s',Inv X pins σ H' s'->Q () s') :
  wpAny (model X.prog X.w) A (setItem (.ref a) u r) Q E s:=by
 rcases g with⟨kvs,k,e,ey,l,eH⟩ | ⟨kvs,k,b,e,ey,eb,l,eH⟩
 ·subst ey eH
  obtain⟨z,hd,vs,rel,dd⟩:=cN I.hok e
  have hz:vs.length<=sizeLine:=by rw [←rel.length]; exact z
  have hl:(putK kvs k v).length<=sizeLine:=by have:=my kvs k v; omega
  refine wpAny_setItem_pairs (hsz:=hz) (GX ry) dd λh' Na hs=>h _ ?_
  have he:∃q,h'.get? a=some q:=let ⟨q,_,_,hq,_⟩:=Na; ⟨q,hq⟩
  exact yi I (by rw [e]; exact True.intro) hs he (Jr hl hd (rel.put k rv) Na)
 ·subst ey eH
  cases(show u=Value.ref b from ry)
  obtain⟨z,hd,xs,rel,dd⟩:=Lf I.hok e
  have hz:xs.length<=sizeLine:=by rw [←Paired.length rel]; exact z
  have hl:(putK kvs k v).length<=sizeLine:=by have:=my kvs k v; omega
  refine wpAny_setItem_heap (hsz:=hz) (tupleKind_room_in1 hu) (DT I.hok eb) dd λh' Na hs=>h _ ?_
  obtain⟨q,es,ep,hq,h2,h3,h4,_,h5⟩:=Na
  refine yi I (by rw [e]; exact True.intro) hs ⟨q,hq⟩ ⟨hl,hd,_,(rel.put k eb rv).keeps λc ys ec=>?_,q,es,ep,hq,h2,h3,h4,h5⟩
  rw [aI (Lk ec e (λz=>nomatch z))]
  exact ec
end
def KP(td ty tv:TE):TS:=λD σ H=>tv σ H λv H1=>td σ H1 λx H2=>ty σ H2 λy H3=>∃a H4,x=.ref a/\zh H3 a y v H4/\D.nx σ H4
section
variable{X:Cx}{o i e value:Expr}{pos pos' tpos:Pos}{td ty tv:TE}
theorem y_(hu:X.A.units+1<cLine)(ho:PE X o td)(hi:PE X i ty)(hv:PE X value tv)(hs:swapsWith value (some (.Subscript o i pos')) pos.line X.env=pure false) :
  PS X (.Assign [.Subscript o i pos'] value pos) (KP td ty tv):=by
 intro pins s σ H D I h
 refine wpAny_Assign_Subscript (b_ (hv pins s σ H _ I h) λr s1 ⟨v,H1,I1,rv,q1⟩=>b_ (ho pins s1 σ H1 _ I1 q1) λu s2 ⟨x,H2,I2,rx,q2⟩=>b_ (hi pins s2 σ H2 _ I2 q2) λiv s3 ⟨y,H3,I3,ry,a,H4,ex,g,q3⟩=>?_) hs
 subst ex
 obtain rfl:u=Value.ref a:=rx
 exact zx hu I3 g ry rv λs4 I4=>⟨σ,H4,I4,q3⟩
end
theorem Dg{P:Program}{w:World}{H:Hp}(h:Heap)(hb:sysModules<h.objs.size):cq P w H (h.push {cls:=.type "dict",data:=.dict #[]}) h.objs.size (.dT []) :=
 ⟨Uu _,beq_eq_false_iff_ne.mpr (Ne.symm (Ut hb)),[],.nil,_,#[],0,T6 _ rfl,⟨rfl,rfl,rfl⟩,rfl,rfl,List.nodup_nil⟩
def JY:TE:=λ_ H Q=>∀p,H p=none->Q (.ref p) (upd H p (.dT []))
section
variable{X:Cx}{pos:Pos}
theorem DG:PE X (.Dict [] [] pos) JY:=λpins s σ H Q I h =>
 wpAny_Dict_empty ⟨.ref s.heap.objs.size,_,I.laid (a:=s.heap.objs.size) (o:=.dT []) (t':=s.toks) (λ_ _ q=>T4 _ q) (T7 _) (Dg s.heap I.big),rfl,h _ (I.hok.fresh (T7 _))⟩
end
end L2
namespace My
open PySem L2
theorem Em{n:Nat}{x:Wk}{h:Hd}{f:Fl}{pl:List Int}(hx:bX x=true):cn (n+1) h f pl x=vC (cn n) x h f pl (dE x) 0 [] f:=by
 rw [←wL (n+1),←wL n]
 cases x with
 | one x=>cases hx
 | both p q=>rfl
 | meet c d p q=>rfl
theorem Bb{n:Nat}{x:Wk}{h:Hd}{f:Fl}{pl:List Int}(hx:bX x=false):cn n h f pl x=lW x h f pl [] f:=by rw [iD hx,y3 hx]
def ra:Nat->List Wk->Prop
 | 0,ws=>∀x∈ws,IM x/\BX x
 | n+1,ws=>∀x∈ws,(IM x/\BX x)/\∀p∈dE x,ra n p
theorem ra.ok{n:Nat}{ws:List Wk}(h:ra n ws){x:Wk}(hx:x∈ws):IM x/\BX x:=by
 cases n with
 | zero=>exact h x hx
 | succ n=>exact(h x hx).1
def GZ(H:Hp)(u:Addr):Res->Prop
 | .ok h f=>∃a b,H u=some (.tup [.str "head",.ref a,.ref b])/\dQ H a h/\sS H b f
 | .no p s=>∃a,H u=some (.tup [.str "no",.ref a,.str s])/\H a=some (.tup (p.map V.int))
abbrev TD:=List (List dq×V)
theorem vA{kvs:TD}{k:List dq}{v:V}:(putK kvs k v).length<=kvs.length+1:=by
 unfold putK
 split
 ·rw [Ua]; omega
 ·rw [Ub]; simp
def kI(pi:List Int):List dq:=pi.map λi=>some (.inl i)
theorem MJ(pi:List Int):(kI pi).map oV=pi.map V.int:=by rw [kI,List.map_map]; rfl
theorem eL.qN{fd:Addr}{H H':Hp}{kvs:TD}(g:eL fd H H')(h:H fd=some (.dT kvs)):aE H H':=λa ys e=>g _ _ (λz=>by rw [z,h]at e; cases e) e
theorem aE.NA{H H':Hp}{L:Addr}{kvs:TD}{o:HO}(k:aE H H')(h:H' L=some (.dT kvs)):aE H (upd H' L o):=λa ys e=>by
 have:=k _ _ e
 rw [aI (λz=>by rw [z,h]at this; cases this)]
 exact this
structure NW(n:Nat)(H:Hp)(b p pl g fd:Addr)(h:Hd)(ws:List Wk)(pi:List Int)(fl:Fl)(kvs:TD):Prop where
 hd:dQ H b h
 pp:jf n H p ws
 pl:H pl=some (.tup (pi.map V.int))
 fg:sS H g fl
 fd:H fd=some (.dT kvs)
 ok:ud n ws
 dr:ra n ws
 six:h.length<=6
 pz:pi.length+2*n<=100
 kz:kvs.length+bnd n<=100000
def sO:Nat->Sp
 | 0=>λ_ _ _ _=>False
 | n+1=>λvs H Q _=>∃(b p pl g fd:Addr) (h:Hd) (ws:List Wk) (pi:List Int) (fl:Fl) (kvs:TD),vs=[.ref b,.ref p,.ref pl,.ref g,.ref fd]/\NW n H b p pl g fd h ws pi fl kvs/\
  ∀(u:Addr) (H':Hp) (kvs':TD),eL fd H H'->H' fd=some (.dT kvs')->kvs'.length<=kvs.length+bnd n->GZ H' u (putL (cn n) pi 0 h fl ws)->Q (.ref u) H'
theorem El{x:Wk}(h:IM x):Mp x:=by
 cases x with
 | one x=>exact h.pos
 | both p q=>intro c hc; cases hc
 | meet c d p q=>intro c hc; cases hc
def IK(a b:Fl):List Bool:=[a.o||b.o,a.j||b.j,a.f||b.f,a.w||b.w,a.l||b.l]
def Mt(a:Fl):List V:=[.bl a.o,.bl a.j,.bl a.f,.bl a.w,.bl a.l]
theorem K5{a b:Fl}:∀(i:Nat) (x y:V),(Mt a)[i]? = some x->(Mt b)[i]? = some y->∃p q,x=.bl p/\y=.bl q/\(IK a b)[i]? = some (p||q)
 | 0,x,y,h1,h2=>by cases h1; cases h2; exact⟨_,_,rfl,rfl,rfl⟩
 | 1,x,y,h1,h2=>by cases h1; cases h2; exact⟨_,_,rfl,rfl,rfl⟩
 | 2,x,y,h1,h2=>by cases h1; cases h2; exact⟨_,_,rfl,rfl,rfl⟩
 | 3,x,y,h1,h2=>by cases h1; cases h2; exact⟨_,_,rfl,rfl,rfl⟩
 | 4,x,y,h1,h2=>by cases h1; cases h2; exact⟨_,_,rfl,rfl,rfl⟩
 | n+5,x,y,h1,h2=>by cases h1
theorem Dk{H H':Hp}{L u:Addr}{as:List Addr}{es:List Hd}{h:Hd}(hE:fW H L as es)(k:aE H H')(hu:dQ H' u h)(hL:H' L=some (.lst ((as++[u]).map V.ref))):fW H' L (as++[u]) (es++[h]):=by
 refine⟨hL,by rw [Ub,Ub,hE.len]; rfl,λi a r e1 e2=>?_⟩
 by_cases hi:i<as.length
 ·rw [Ux hi]at e1
  rw [Ux (by rw [←hE.len]; exact hi)]at e2
  exact k _ _ (hE.at_ i a r e1 e2)
 ·have hi':i=as.length:=by
   have:=(Um.mp e1).1
   rw [Ub]at this
   simp at this
   omega
  rw [hi',Uw (T7 _),Nat.sub_self]at e1
  rw [hi',hE.len,Uw (T7 _),Nat.sub_self]at e2
  cases e1
  cases e2
  exact hu
theorem Bk{n:Nat}{H:Hp}{a:Addr}{x:Wk}(h:dj (n+1) H a x)(hb:bX x=true):∃(vs:List V) (b c:Addr) (p q:List Wk),H a=some (.tup (vs++[.ref b,.ref c]))/\dE x=[p,q]/\jf n H b p/\jf n H c q:=by
 cases x with
 | one x=>cases hb
 | both p q=>obtain⟨b,c,bs,cs,h1,h2,h3⟩:=h; exact⟨[.str "both"],b,c,p,q,h1,rfl,⟨bs,h2⟩,⟨cs,h3⟩⟩
 | meet c d p q=>obtain⟨b,e,bs,es,h1,h2,h3⟩:=h; exact⟨[.str "meet",.int c,.int d],b,e,p,q,h1,rfl,⟨bs,h2⟩,⟨es,h3⟩⟩
theorem Gk{vs:List V}{u v:V}:i6 (vs++[u,v]) (-2)=some u:=by
 unfold i6 vU
 have hl:(vs++[u,v]).length=vs.length+2:=by simp
 rw [hl,if_neg (by decide)]
 rw [if_pos (by omega)]
 have:((-2:Int)+((vs.length+2:Nat):Int)).toNat=vs.length:=by omega
 first
  | (rw [this]; simp)
  | simp
theorem yP{n:Nat}{pl:List Int}:∀{ws:List Wk} {i:Nat} {h:Hd} {f:Fl} {h':Hd} {f':Fl},h.length<=6->putL (cn n) pl i h f ws=.ok h' f'->h'.length<=6
 | [],_,_,_,_,_,h6,e=>by cases e; exact h6
 | x::ws,i,h,f,h',f',h6,e=>by
  obtain⟨h1,f1,e1,e2⟩:=fc e
  refine yP ?_ e2
  have key:∀es,ia x h f (pl++[(i:Int)]) es=.ok h1 f1->h1.length<=6:=by
   intro es e
   unfold ia at e
   split at e
   ·cases e
   ·next hn=>cases e; exact(r6 hn).2
  cases hb:bX x with
  | false=>rw [iD hb]at e1; exact key _ e1
  | true =>
   cases n with
   | zero=>exact key _ e1
   | succ n =>
    rw [oi hb]at e1
    obtain⟨p,q,hpq⟩:=sk hb
    rw [hpq]at e1
    obtain⟨_,_,_,e1⟩:=fc e1
    obtain⟨_,_,_,e1⟩:=fc e1
    exact key _ e1
abbrev iK:Stmt:=top 76
theorem bY:ay ["_law_head","_law_pipe_here","_law_place","_law_flags_here","_law_found","_law_number_here","_law_worker_here","_law_here","_law_ends","_law_after","_law_branch","_law_inner","_law_why_here"] ["_law_head","_law_pipe_here","_law_place","_law_flags_here","_law_found"] (ar iK):=fs
variable{P:Program}{w:World}{K:UJ}{mg:Str->Option Value}{base:Heap}
theorem ua{n L:Nat}(B:jJ mg)(B2:iR mg)(B3:zv mg)(mE:mg "enumerate"=none)(F:FA K mg "_law_put" iK)
  (kr:bc bf P w K mg base (L+5) "_law_put" ["_law_head","_law_pipe_here","_law_place","_law_flags_here","_law_found"] (sO n))
  (xb:bc bf P w K mg base 4 "_law_why" ["_law_worker_here","_law_head","_law_flags_here","_law_ends"] (Bw n))
  (sg:bc bf P w K mg base 2 "_law_flags" ["_law_worker_here","_law_head","_law_flags_here"] (yI n))
  (eX:bc bf P w K mg base 2 "_law_head_next" ["_law_worker_here","_law_head","_law_ends"] (JD n)) :
  bc bf P w K mg base (L+6) "_law_put" ["_law_head","_law_pipe_here","_law_place","_law_flags_here","_law_found"] (sO (n+1)):=by
 refine F.ok bY λf cdv A outer s H vs Q E hr h=>?_
 have hu:=iM hr
 have hu1:=jY hr
 obtain⟨b,p,pl,g,fd,h,ws,pi,fl,kvs,rfl,hG,q⟩:=h
 refine⟨_,(aq (gF PassesOwn.never rfl (pH rfl mE (ae (pv 1) ah)) (cB rfl (aA (bT (i:=5) bY.nd rfl (Or.inl rfl)) (aA (bT (i:=6) bY.nd rfl (Or.inl rfl)) bS)))
    (aq (aL (i:=7) bY.nd rfl (Or.inl rfl) (aF cb (pv 2) (aJ (ae (pv 5) ah))))
     (aq (y_ hu1 (pv 4) (pv 7) (az K (pv 3) ai) rfl)
     (aq (aL (i:=8) bY.nd rfl (Or.inl rfl) (aQ ah))
     (aq (aL (i:=9) bY.nd rfl (Or.inl rfl) (pv 3))
     (aq (gF PassesOwn.never rfl (dk rfl B.range (ae (aF l6 ai (aV cz rfl B2.int PyProof.Rows.boot_int (ae (fF cp (az K (pv 6) ai) (aQ (ae ao (ae ao ah))) rfl) ah))) ah)) (bT (i:=10) bY.nd rfl (Or.inl rfl))
      (aq (aL (i:=11) bY.nd rfl (Or.inl rfl) (ax kr hr (ae (pv 0) (ae (az K (pv 6) (aF bJ (pv 10) ai)) (ae (aF cb (pv 7) (aJ (ae (pv 10) ah))) (ae (pv 3) (ae (pv 4) ah)))))))
       (aN (aW aP (az K (pv 11) ai) ao) (pv 11)
       (aq (fG (ll PySem.F.plainAttrs_list PySem.F.slot_list_append PySem.F.type_list_append cX (pv 8) (ae (az K (pv 11) ai) ah)))
       (bK (aL (i:=9) bY.nd rfl (Or.inl rfl) (aV bB rfl B.tuple PyProof.Rows.boot_tuple (ae (bw (N':=["_law_one","_law_other_here"]) (src:=[none,none]) rfl (ba.jE (by kernel_rfl)) (F5 rfl B3.zip (ae (pv 9) (ae (az K (pv 11) ai) ah))) (g:=(iu K 2 (bP (bz 0) (bP (bz 1) iJ)))) (λcl C s H fp=>(cB rfl (aA (el (i:=0)) (aA (el (i:=1)) bS)))) (λcl C s H fp=>aX) (te:=(vJ (bx 0) (bx 1))) (λcl C s H fp=>(fJ (iX 0) (cT (iX 1))))) ah))))))))
     (aq (aL (i:=12) bY.nd rfl (Or.inl rfl) (ax xb hr (ae (pv 6) (ae (pv 0) (ae (pv 3) (ae (pv 8) ah))))))
     (aN (aW mz (pv 12) ao) (aJ (ae ao (ae (pv 7) (ae (pv 12) ah))))
     (aq (aL (i:=3) bY.nd rfl (Or.inl rfl) (ax sg hr (ae (pv 6) (ae (pv 0) (ae (pv 9) ah)))))
     (bK (aL (i:=0) bY.nd rfl (Or.inl rfl) (ax eX hr (ae (pv 6) (ae (pv 0) (ae (pv 8) ah)))))))))))))))
   (aq (y_ hu1 (pv 4) (aF cb (pv 2) (aJ (ae (aZ bF rfl B.len PySem.boot_len (ae (pv 1) ah)) ah))) (az K (pv 3) ai) rfl)
   (av (aJ (ae ao (ae (pv 0) (ae (pv 3) ah))))))),?_⟩
 obtain⟨hb,⟨bs,hI⟩,hpl,hfg,hfd,hok,hdr,JM,hpz,hkz⟩:=hG
 have hlb:(bs.map V.ref).length=ws.length:=by rw [Ua,hI.len]
 have hcw:=CL n
 have hw9:=hok.len
 have hbn:bnd n=9*cW n+1:=rfl
 refine⟨_,rfl,p,rfl,⟨_,aH.of hI.tup⟩,?_⟩
 refine lL (xs:=bs.map V.ref) (λi σ H'=>∃(bi gi:Addr) (hh:Hd) (fi:Fl) (kv:TD),(∃o5 o6 o7 o8 o9 pZ p7 Eh,σ=[some (.ref bi),some (.ref p),some (.ref pl),some (.ref gi),some (.ref fd),o5,o6,o7,o8,o9,pZ,p7,Eh])/\dQ H' bi hh/\sS H' gi fi/\hh.length<=6/\eL fd H H'/\H' fd=some (.dT kv)/\kv.length<=kvs.length+i*cW n/\putL (cn n) pi 0 h fl ws=putL (cn n) pi i hh fi (ws.drop i))
  ⟨b,g,h,fl,kvs,⟨_,_,_,_,_,_,_,_,rfl⟩,hb,hfg,JM,eL.of (aM.refl _),hfd,Nat.le_add_right _ _,rfl⟩ ?_ ?_ ?_
 ·rintro i σ H' _ ⟨bi,gi,hh,fi,kv,_,_,_,_,gr,_⟩
  exact aH.of (gr.qN hfd _ _ hI.tup)
 ·rintro i v σ H' T hx ⟨bi,gi,hh,fi,kv,⟨o5,o6,o7,o8,o9,pZ,p7,Eh,rfl⟩,hbi,hgi,h6,gr,Ah,Mn,hrun⟩ hT
  obtain⟨a,x,rfl,ex,ha⟩:=hI.get hx
  have M5:i<9:=by have:=(Um.mp ex).1; omega
  have hic:i*cW n+cW n<=9*cW n:=by have:=Nat.mul_le_mul_right (cW n) M5; rw [Nat.succ_mul]at this; exact this
  have KQ:=hok.ok (Ui ex)
  have O7:=hdr.ok (Ui ex)
  rw [mX ex]at hrun
  have hrun:putL (cn n) pi 0 h fl ws=cZ (cn n hh fi (pi++[(i:Int)]) x) λh' f'=>putL (cn n) pi (i+1) h' f' (ws.drop (i+1)):=hrun
  have sT:=aj hT (.tup [.int (i:Nat),.ref a])
  refine⟨T,_,rfl,aH.of ag,rfl,_,_,rfl,ak ⟨_,_,rfl,ak ⟨rfl,?_⟩⟩⟩
  dsimp only
  refine⟨_,rfl,_,rfl,dP,λu1 jK=>?_⟩
  have sU:=aj jK (.tup [.int (i:Nat)])
  refine⟨pl,u1,_,_,rfl,rfl,sU _ _ (sT _ _ (gr.qN hfd _ _ hpl)),ag,by rw [Ua]; exact T8 (show _+1<=1000 by omega) (by decide),λu2 H2 Jt hu2=>ak ?_⟩
  rw [DJ]at hu2
  have s2:=sT.trans (sU.trans Jt)
  dsimp only
  refine⟨_,rfl,gi,_,4,_,rfl,rfl,aH.of (s2 _ _ hgi),rfl,_,rfl,_,rfl,fd,_,rfl,zh.t (k:=kI (pi++[(i:Int)])) (s2 _ _ Ah) (by rw [MJ]; exact hu2) (Ud (show kv.length<=100000 by omega) (by decide)),?_⟩
  have IS:(putK kv (kI (pi++[(i:Int)])) (.bl fi.l)).length<=kv.length+1:=vA
  revert IS
  generalize putK kv (kI (pi++[(i:Int)])) (.bl fi.l)=Aa
  intro IS
  have g4:eL fd H' (upd H2 fd (.dT Aa)):=(eL.of s2).put
  have uY:upd H2 fd (.dT Aa) fd=some (.dT Aa):=ag
  have xu:upd H2 fd (.dT Aa) u2=some (.tup ((pi++[(i:Int)]).map V.int)):=by
   rw [aI (λz=>by have:=s2 _ _ Ah; rw [←z,hu2]at this; cases this)]
   exact hu2
  revert g4 uY xu
  generalize upd H2 fd (.dT Aa)=H4
  intro g4 uY xu
  have B6:aE H' H4:=g4.qN Ah
  have Js:aE H H4:=(gr.qN hfd).trans B6
  refine⟨Uu _,λLe hL=>ak ?_⟩
  have Kv:Le≠fd:=λz=>by rw [z,uY]at hL; cases hL
  dsimp only
  refine⟨_,rfl,ak ?_⟩
  dsimp only
  refine kQ (λσ H6=>∃(as:List Addr) (es:List Hd) (af:Addr) (fa:Fl) (zj:TD),(∃pZ p7 Eh,σ=[some (.ref bi),some (.ref p),some (.ref pl),some (.ref gi),some (.ref fd),some (.int (i:Nat)),some (.ref a),some (.ref u2),some (.ref Le),some (.ref af),pZ,p7,Eh])/\fW H6 Le as es/\(bX x=true->es.length=2)/\(∀e∈es,e.length<=6)/\sS H6 af fa/\aE H4 H6/\eL fd H4 H6/\H6 fd=some (.dT zj)/\zj.length<=kv.length+cW n/\putL (cn n) pi 0 h fl ws=cZ (lW x hh fi (pi++[(i:Int)]) es fa) λh' f'=>putL (cn n) pi (i+1) h' f' (ws.drop (i+1))) (λT2 hT2=>?_) ?_
  ·have sL:=aj hL (.lst [])
   have haL:=ha.keep (Js.trans (aE.of sL))
   obtain⟨xs,hxs⟩:=haL.first
   refine⟨_,rfl,a,_,0,_,rfl,rfl,aH.of hxs,au (j:=0) rfl,cJ,λR hR=>⟨R,_,rfl,.inl (a_.of ag),rfl,rfl,.inr ⟨_,rfl,?_⟩⟩⟩
   show rI Fj _ (.int 2) (.int (if inV (.str x.nm) DH=true then 1 else 0)) _ _
   rw [yN]
   have sR:=aj hR (.lst [V.str "both",.str "meet"])
   have s5:=sL.trans sR
   have Oh:fW (upd (upd H4 Le (.lst [])) R (.lst [V.str "both",.str "meet"])) Le [] []:=⟨sR _ _ ag,rfl,λi a r e=>by cases e⟩
   revert s5 Oh
   generalize upd (upd H4 Le (.lst [])) R (.lst [V.str "both",.str "meet"])=H5
   intro s5 Oh
   have hm:∃m:Int,(2:Int)*(if bX x=true then 1 else 0)=m/\0<=m/\m<=2/\(bX x=false->m=0)/\(bX x=true->m=2):=by
    cases bX x
    ·exact⟨0,rfl,by decide,by decide,λ_=>rfl,λz=>by cases z⟩
    ·exact⟨2,rfl,by decide,by decide,λz=>(by cases z),λ_=>rfl⟩
   obtain⟨mm,em,m0,m2,mf,mt⟩:=hm
   refine⟨2,_,rfl,rfl,.inl ⟨by decide,by decide⟩,_,rfl,?_⟩
   rw [em]
   refine⟨(jQ m0 (by omega)).1,(jQ m0 (by omega)).2,?_⟩
   refine fH (n:=mm.toNat) (λj σ H6=>∃(as:List Addr) (es:List Hd) (af:Addr) (fa:Fl) (zj:TD),(∃pZ p7 Eh,σ=[some (.ref bi),some (.ref p),some (.ref pl),some (.ref gi),some (.ref fd),some (.int (i:Nat)),some (.ref a),some (.ref u2),some (.ref Le),some (.ref af),pZ,p7,Eh])/\fW H6 Le as es/\es.length=j/\(∀e∈es,e.length<=6)/\sS H6 af fa/\aE H4 H6/\eL fd H4 H6/\H6 fd=some (.dT zj)/\(∀m,n=m+1->zj.length<=kv.length+1+j*bnd m)/\(j=0->zj.length<=kv.length+1/\es=[]/\fa=fi)/\(∀m,n=m+1->bX x=true->putL (cn n) pi 0 h fl ws=cZ (vC (cn m) x hh fi (pi++[(i:Int)]) ((dE x).drop j) j es fa) λh' f'=>putL (cn n) pi (i+1) h' f' (ws.drop (i+1))))
    ⟨[],[],gi,fi,Aa,⟨_,_,_,rfl⟩,Oh,rfl,λe he=>(by cases he),s5 _ _ (B6 _ _ hgi),aE.of s5,eL.of s5,s5 _ _ uY,λm _=>(by rw [Nat.zero_mul]; exact IS),λ_=>⟨IS,rfl,rfl⟩,λm e hb'=>(by subst e; rw [hrun,Em hb']; rfl)⟩ ?_ ?_
   ·rintro j σ H6 hj ⟨as,es,af,fa,zj,⟨pZ,p7,Eh,rfl⟩,HW,hel,hez,hfa,qQ,g6,xm,KZ,_,dU⟩
    have hbr:bX x=true:=by
     cases hq:bX x with
     | true=>rfl
     | false=>rw [mf hq]at hj; exact absurd hj (Nat.not_lt_zero _)
    have hj2:j<2:=by rw [mt hbr]at hj; exact hj
    obtain⟨m,rfl⟩ :∃m,n=m+1:=by
     cases n with
     | zero=>rw [IQ ha]at hbr; cases hbr
     | succ m=>exact⟨m,rfl⟩
    have KZ:=KZ m rfl
    have hcs:=m4 m
    have To:j*bnd m+bnd m<=2*bnd m:=by have:=Nat.mul_le_mul_right (bnd m) hj2; rw [Nat.succ_mul]at this; exact this
    have dU:=dU m rfl hbr
    obtain⟨vs,c0,c1,p0,q0,hav,hpq,Ro,SN⟩:=Bk ha hbr
    have SK:∃(cj:Addr) (pj:List Wk),i6 (vs++[.ref c0,.ref c1]) ((j:Int)-2)=some (.ref cj)/\jf m H cj pj/\(dE x)[j]? = some pj:=by
     rw [hpq]
     match j,hj2 with
     | 0,_=>exact⟨c0,p0,Gk,Ro,rfl⟩
     | 1,_ =>
      refine⟨c1,q0,?_,SN,rfl⟩
      have:=oF (vs++[V.ref c0]) (V.ref c1)
      rw [List.append_assoc]at this
      exact this
    obtain⟨cj,pj,hat,Ta,OO⟩:=SK
    rw [mX OO]at dU
    have NM:aE H H6:=Js.trans qQ
    refine ak ?_
    dsimp only
    refine⟨_,rfl,_,rfl,_,rfl,_,_,rfl,rfl,a,_,_,_,rfl,rfl,aH.of (NM _ _ hav),(by rw [Int.zero_add]; exact hat),_,rfl,_,rfl,dP,λu7 OM=>?_⟩
    have sB:=aj OM (.tup [.int (0+(j:Int))])
    refine⟨u2,u7,_,_,rfl,rfl,sB _ _ (qQ _ _ xu),ag,by rw [Ua,Ub]; exact T8 (show _+1+1<=1000 by omega) (by decide),λu8 H8 s8 iM=>?_⟩
    rw [Int.zero_add,DJ]at iM
    have qt:=sB.trans s8
    have Kr:=qQ.trans (aE.of qt)
    have Ny:=Js.trans Kr
    have g8:eL fd H H8:=(gr.trans g4).trans (g6.trans (eL.of qt))
    refine⟨_,rfl,_,rfl,bi,cj,u8,gi,fd,hh,pj,(pi++[(i:Int)])++[(j:Int)],fi,zj,rfl,⟨Kr _ _ (B6 _ _ hbi),Ta.keep Ny,iM,Kr _ _ (B6 _ _ hgi),qt _ _ xm,(hok.2 x (Ui ex)).2 pj (Ui OO),(hdr x (Ui ex)).2 pj (Ui OO),h6,by rw [Ub,Ub]; show _+1+1+_<=_; omega,by omega⟩,λu9 H9 Po g9 Lv hk9 Hc=>ak ?_⟩
    dsimp only
    have M_:aE H8 H9:=g9.qN (qt _ _ xm)
    cases er:putL (cn m) ((pi++[(i:Int)])++[(j:Int)]) 0 hh fi pj with
    | no a' s' =>
     rw [er]at Hc
     have htot:putL (cn (m+1)) pi 0 h fl ws=.no a' s':=by
      rw [dU]
      show cZ (cZ (putL (cn m) ((pi++[(i:Int)])++[(j:Int)]) 0 hh fi pj) _) _=_
      rw [er]
      rfl
     obtain⟨aa,hr1,hr2⟩:=Hc
     refine⟨_,rfl,u9,_,0,_,rfl,rfl,aH.of hr1,au (j:=0) rfl,rfl,_,rfl,bZ ⟨_,rfl,q u9 H9 Po (g8.trans g9) Lv (by omega) ?_⟩⟩
     rw [htot]
     exact⟨aa,hr1,hr2⟩
    | ok h' f' =>
     rw [er]at Hc
     obtain⟨aa,ab,hr1,hr2,Pt⟩:=Hc
     refine⟨_,rfl,u9,_,0,_,rfl,rfl,aH.of hr1,au (j:=0) rfl,rfl,_,rfl,?_⟩
     rw [bM,T9 (by decide +kernel)]
     refine bA (aG ?_)
     dsimp only
     have hL9:H9 Le=some (.lst (as.map V.ref)):=g9 _ _ Kv (qt _ _ HW.lst)
     refine⟨_,rfl,.inl ⟨rfl,_,a_.of hL9⟩,_,rfl,u9,_,1,_,rfl,rfl,aH.of hr1,rfl,Le,_,_,rfl,rfl,hL9,by rw [Ua,HW.len,hel]; exact Nat.lt_trans hj2 (by decide),?_⟩
     have kX:aE H9 (upd H9 Le (.lst (as.map V.ref++[.ref aa]))):=aE.refl.vd hL9
     have N1:upd H9 Le (.lst (as.map V.ref++[.ref aa])) Le=some (.lst ((as++[aa]).map V.ref)):=by rw [ag,Uc]; rfl
     have ND:upd H9 Le (.lst (as.map V.ref++[.ref aa])) fd=some (.dT Po):=by rw [aI (Ne.symm Kv)]; exact Lv
     have gX:eL fd H4 (upd H9 Le (.lst (as.map V.ref++[.ref aa]))):=eL.new hL ((g6.trans (eL.of qt)).trans g9)
     revert kX N1 ND gX
     generalize upd H9 Le (.lst (as.map V.ref++[.ref aa]))=HX
     intro kX N1 ND gX
     have MS:aE H6 HX:=((aE.of qt).trans M_).trans kX
     refine⟨_,rfl,_,rfl,u9,_,2,_,rfl,rfl,aH.of (kX _ _ hr1),rfl,af,ab,rfl,⟨_,aH.of (MS _ _ hfa)⟩,⟨_,aH.of (kX _ _ Pt)⟩,λDl hD=>?_⟩
     refine zM (xs:=Mt fa) (ys:=Mt f') (λi σ zs H'=>(∃o1 o2,σ=[o1,o2])/\zs=((IK fa f').take i).map V.bl/\zs.length=i/\H' Dl=some (.lst zs)/\aM HX H') ⟨⟨none,none,rfl⟩,rfl,rfl,ag,aj hD _⟩ ?_ ?_ rfl r8 ?_ ?_
     ·rintro i σ zs H' _ ⟨_,_,hi,hz,_⟩
      exact⟨hz,Nat.le_of_eq hi⟩
     ·rintro i σ zs H' _ ⟨_,_,_,_,sm⟩
      exact⟨aH.of (sm _ _ (MS _ _ hfa)),aH.of (sm _ _ (kX _ _ Pt))⟩
     ·rintro i x y σ zs H' T3 Sm Sl ⟨⟨o1,o2,rfl⟩,rfl,hi,hz,sm⟩ Ka
      obtain⟨pb,qb,rfl,rfl,eo⟩:=K5 i x y Sm Sl
      have tz:=aj Ka (.tup [.bl pb,.bl qb])
      refine⟨T3,_,rfl,aH.of ag,rfl,_,_,rfl,ak ⟨_,_,rfl,ak ⟨rfl,?_⟩⟩⟩
      have ML:∀w:Bool,w=(pb||qb)->upd H' T3 (.tup [.bl pb,.bl qb]) Dl=some (.lst (((IK fa f').take i).map V.bl))/\((IK fa f').take i).map V.bl++[V.bl w]=((IK fa f').take (i+1)).map V.bl/\(((IK fa f').take i).map V.bl++[V.bl w]).length=i+1:=by
       rintro w rfl
       refine⟨tz _ _ hz,?_,by rw [Ub,hi]; rfl⟩
       rw [take_one eo,Uc]; rfl
      refine⟨_,rfl,_,rfl,cH (λz=>?_) (λz=>?_)⟩
      ·obtain⟨f1,f2,f3⟩:=ML true (by rw [z]; rfl)
       exact⟨f1,⟨_,_,rfl⟩,f2,f3,ag,bq hD (sm.trans tz)⟩
      ·obtain⟨f1,f2,f3⟩:=ML qb (by rw [Ur.mpr z]; rfl)
       exact⟨_,rfl,f1,⟨_,_,rfl⟩,f2,f3,ag,bq hD (sm.trans tz)⟩
     ·rintro σ zs H' ⟨_,rfl,_,hz,sm⟩
      refine⟨Dl,_,rfl,.inl ⟨a_.of hz,λSH O1=>ak ?_⟩⟩
      have tU:=aj O1 (.tup (((IK fa f').take (Mt fa).length).map V.bl))
      have sX:=sm.trans tU
      refine⟨as++[aa],es++[h'],SH,Ga fa f',Po,⟨_,_,_,rfl⟩,Dk HW (MS.trans (aE.of sX)) (sX _ _ (kX _ _ hr2)) (sX _ _ N1),by rw [Ub,hel]; rfl,λe he=>?_,ag,(qQ.trans MS).trans (aE.of sX),gX.trans (eL.of sX),sX _ _ ND,λm' e=>?_,λz=>(by cases z),λm' e _=>?_⟩
      ·rcases Us.mp he with z | z
       ·exact hez e z
       ·rw [Uo.mp z]
        exact yP h6 er
      ·cases e
       rw [Nat.succ_mul]
       omega
      ·cases e
       rw [dU]
       show cZ (cZ (putL (cn m) ((pi++[(i:Int)])++[(j:Int)]) 0 hh fi pj) _) _=_
       rw [er]
       rfl
   ·rintro σ H6 ⟨as,es,af,fa,zj,⟨pZ,p7,Eh,rfl⟩,HW,hel,hez,hfa,qQ,g6,xm,KZ,hz0,dU⟩
    refine hT2 _ _ ⟨as,es,af,fa,zj,⟨_,_,_,rfl⟩,HW,λhb'=>(by rw [hel,mt hb']; rfl),hez,hfa,qQ,g6,xm,?_,?_⟩
    ·cases hq:bX x with
     | false=>have:=(hz0 (by rw [mf hq]; rfl)).1; omega
     | true =>
      obtain⟨m,rfl⟩ :∃m,n=m+1:=by
       cases n with
       | zero=>rw [IQ ha]at hq; cases hq
       | succ m=>exact⟨m,rfl⟩
      have:=KZ m rfl
      rw [mt hq]at this
      rw [m4]
      have e2:(2:Int).toNat=2:=rfl
      rw [e2]at this
      omega
    ·cases hq:bX x with
     | false =>
      obtain⟨_,z1,z2⟩:=hz0 (by rw [mf hq]; rfl)
      rw [hrun,Bb hq,z1,z2]
     | true =>
      obtain⟨m,rfl⟩ :∃m,n=m+1:=by
       cases n with
       | zero=>rw [IQ ha]at hq; cases hq
       | succ m=>exact⟨m,rfl⟩
      have:=dU m rfl hq
      rw [mt hq,show(2:Int).toNat=(dE x).length from(l4 hq).1.symm,List.drop_length]at this
      exact this
  rintro σ H6 ⟨as,es,af,fa,zj,⟨pZ,p7,Eh,rfl⟩,HW,he2,hez,hfa,qQ,g6,xm,KZ,dU⟩
  have NM:aE H H6:=Js.trans qQ
  have Qn:dQ H6 bi hh:=qQ _ _ (B6 _ _ hbi)
  have Rt:sS H6 gi fi:=qQ _ _ (B6 _ _ hgi)
  have hLw:uz n H6 a bi Le x hh as es:=⟨ha.keep NM,Qn,HW,he2,KQ.sm,El O7.1,O7.2,O7.1⟩
  have Ly:∀e∈es,e.length<=1000:=λe he=>T8 (hez e he) (by decide)
  refine⟨_,rfl,_,rfl,_,rfl,_,rfl,a,bi,gi,Le,x,hh,fi,as,es,rfl,hLw,Rt,KQ.wide,T8 h6 (by decide),Ly,λH7 s7=>ak ?_⟩
  have PN:eL fd H H7:=((gr.trans g4).trans g6).trans (eL.of s7)
  dsimp only
  refine⟨_,rfl,rfl,_,rfl,?_⟩
  rw [bM]
  cases ew:i5 x fi (kF x hh es)with
  | some s' =>
   have hfin:lW x hh fi (pi++[(i:Int)]) es fa=.no (pi++[(i:Int)]) s':=by unfold lW; rw [ew]
   have hne:EI (some s')≠"":=by
    unfold i5 at ew
    intro z
    have z:s'="":=z
    subst z
    repeat' split at ew
    all_goals first | (cases ew; done) | (have:=Uv ew; exact absurd this (by decide +kernel))
   rw [T9 hne]
   refine bZ ⟨_,rfl,_,rfl,gq,λu hu'=>?_⟩
   have t8:=aj hu' (.tup [.str "no",.ref u2,.str (EI (some s'))])
   refine q u _ zj (PN.trans (eL.of t8)) (t8 _ _ (s7 _ _ xm)) (by omega) ?_
   rw [dU,hfin]
   exact⟨u2,ag,t8 _ _ (s7 _ _ (qQ _ _ xu))⟩
  | none =>
   obtain⟨hfit,SQ⟩:=r6 ew
   have hfin:lW x hh fi (pi++[(i:Int)]) es fa=.ok (bE x (kF x hh es)) (js x hh fa):=by unfold lW; rw [ew]
   rw [T_ (show EI none="" from rfl)]
   refine bA (aG ?_)
   dsimp only
   have Me:bg x (kF x hh es)=true:=by
    unfold i5 at ew
    rw [if_pos hfit]at ew
    by_cases z:bg x (kF x hh es)=true
    ·exact z
    ·rw [if_neg z]at ew; cases ew
   have hkeep:keepIn x hh:=by
    rintro c t rfl
    exact cF hfit (by simp [c7])
   refine⟨_,rfl,_,rfl,_,rfl,a,bi,af,x,hh,fa,rfl,hLw.wk.keep (aE.of s7),s7 _ _ Qn,s7 _ _ hfa,hkeep,λu8 H8 s8 iM=>ak ?_⟩
   dsimp only
   have M9:=s7.trans s8
   refine⟨_,rfl,_,rfl,_,rfl,a,bi,Le,x,hh,as,es,rfl,hLw.same M9,⟨hfit,Me,T8 h6 (by decide),Ly⟩,λu9 H9 s9 Nd=>ak ?_⟩
   refine⟨u9,u8,bE x (kF x hh es),js x hh fa,zj,⟨_,_,_,_,_,_,_,_,rfl⟩,Nd,s9 _ _ iM,SQ,(PN.trans (eL.of s8)).trans (eL.of s9),s9 _ _ (M9 _ _ xm),?_,?_⟩
   ·rw [Nat.succ_mul]; omega
   ·rw [dU,hfin]; rfl
 ·rintro σ H' ⟨bi,gi,hh,fi,kv,⟨o5,o6,o7,o8,o9,pZ,p7,Eh,rfl⟩,hbi,hgi,h6,gr,Ah,Mn,hrun⟩
  rw [hlb]at Mn hrun
  rw [List.drop_length]at hrun
  have R_:=Nat.mul_le_mul_right (cW n) hw9
  have k0:=gr.qN hfd
  dsimp only
  refine⟨_,rfl,gi,_,4,_,rfl,rfl,aH.of hgi,rfl,_,rfl,_,rfl,_,rfl,p,_,rfl,.inr (aH.of (k0 _ _ hI.tup)),dP,λu1 jK=>?_⟩
  have sU:=aj jK (.tup [.int ((bs.map V.ref).length:Nat)])
  refine⟨pl,u1,_,_,rfl,rfl,sU _ _ (k0 _ _ hpl),ag,by rw [Ua]; exact T8 (show _+1<=1000 by omega) (by decide),λu2 H2 Jt hu2=>?_⟩
  rw [DJ]at hu2
  have s2:=sU.trans Jt
  refine⟨fd,_,rfl,zh.t (k:=kI (pi++[((bs.map V.ref).length:Int)])) (s2 _ _ Ah) (by rw [MJ]; exact hu2) (Ud (show kv.length<=100000 by omega) (by decide)),?_⟩
  have IS:(putK kv (kI (pi++[((bs.map V.ref).length:Int)])) (.bl fi.l)).length<=kv.length+1:=vA
  revert IS
  generalize putK kv (kI (pi++[((bs.map V.ref).length:Int)])) (.bl fi.l)=Aa
  intro IS
  have kU:aE H' (upd H2 fd (.dT Aa)):=(aE.of s2).NA (s2 _ _ Ah)
  have uY:upd H2 fd (.dT Aa) fd=some (.dT Aa):=ag
  have gU:eL fd H (upd H2 fd (.dT Aa)):=(gr.trans (eL.of s2)).put
  revert kU uY gU
  generalize upd H2 fd (.dT Aa)=H3
  intro kU uY gU
  refine⟨_,rfl,_,rfl,gq,λu hu'=>?_⟩
  have t:=aj hu' (.tup [.str "head",.ref bi,.ref gi])
  refine q u _ Aa (gU.trans (eL.of t)) (t _ _ uY) (by omega) ?_
  rw [hrun]
  exact⟨bi,gi,ag,t _ _ (kU _ _ hbi),t _ _ (kU _ _ hgi)⟩
structure Ab(n:Nat)(H:Hp)(b p:Addr)(h:Hd)(ws:List Wk):Prop where
 hd:dQ H b h
 pp:jf n H p ws
 ok:ud n ws
 dr:ra n ws
 six:h.length<=6
def yS(n:Nat):Sp:=λvs H Q _=>∃(b p:Addr) (h:Hd) (ws:List Wk),vs=[.ref b,.ref p]/\Ab n H b p h ws/\2*n<=100/\bnd n<=100000/\∀(u:Addr) (H':Hp),aM H H'->GZ H' u (kg n h ws)->Q (.ref u) H'
abbrev gI:Stmt:=top 77
theorem pX:ay ["_law_head","_law_pipe_here"] ["_law_head","_law_pipe_here"] (ar gI):=fs
theorem AG{n L:Nat}(F:FA K mg "_law_judged" gI)
  (kr:bc bf P w K mg base (L+6) "_law_put" ["_law_head","_law_pipe_here","_law_place","_law_flags_here","_law_found"] (sO (n+1))) :
  bc bf P w K mg base (L+7) "_law_judged" ["_law_head","_law_pipe_here"] (yS n):=by
 refine F.ok pX λf cdv A outer s H vs Q E hr h=>?_
 have hu:=iM hr
 have hu1:=jY hr
 obtain⟨b,p,h,ws,rfl,hI,hn2,hbn,q⟩:=h
 refine⟨_,(av (ax kr hr (ae (pv 0) (ae (pv 1) (ae (aJ ah) (ae (aJ (ae fQ (ae fQ (ae fQ (ae fQ (ae fQ ah)))))) (ae DG ah))))))),?_⟩
 refine⟨_,rfl,_,rfl,xy,λu1 jK=>?_⟩
 have s1:=aj jK (.tup [])
 refine⟨r8,λu2 hu2=>?_⟩
 have s2:=aj hu2 (.tup [.bl false,.bl false,.bl false,.bl false,.bl false])
 have e1:=s2 _ _ (ag (H:=H) (a:=u1) (o:=.tup []))
 have e2:upd (upd H u1 (.tup [])) u2 (.tup [.bl false,.bl false,.bl false,.bl false,.bl false]) u2=_:=ag
 have s12:=s1.trans s2
 revert s12 e1 e2
 generalize upd (upd H u1 (.tup [])) u2 (.tup [.bl false,.bl false,.bl false,.bl false,.bl false])=H2
 intro e1 e2 s12
 refine λD hD=>?_
 have s3:=aj hD (.dT [])
 have p6:=s12.trans s3
 have k13:=aE.of p6
 refine⟨b,p,u1,u2,D,h,ws,[],f0,[],rfl,⟨p6 _ _ hI.hd,hI.pp.keep k13,s3 _ _ e1,s3 _ _ e2,ag,hI.ok,hI.dr,hI.six,by simpa using hn2,by simpa using hbn⟩,λu H' TC g' hf' hk' hR=>?_⟩
 exact q u H' (kf (s12.free hD) p6 g') hR
def CZ(n:Nat)(h:Hd)(ws:List Wk):Hd:=match kg n h ws with
 | .ok h' _=>h'
 | .no _ _=>h
def Hw(n:Nat):Sp:=λvs H Q _=>∃(b p:Addr) (h:Hd) (ws:List Wk),vs=[.ref b,.ref p]/\Ab n H b p h ws/\2*n<=100/\bnd n<=100000/\∀(u:Addr) (H':Hp),aM H H'->dQ H' u (CZ n h ws)->Q (.ref u) H'
abbrev ka:Stmt:=top 78
theorem mr:ay ["_law_head","_law_pipe_here","_law_tale"] ["_law_head","_law_pipe_here"] (ar ka):=fs
theorem J9{n L:Nat}(F:FA K mg "_law_end" ka)
  (dR:bc bf P w K mg base (L+7) "_law_judged" ["_law_head","_law_pipe_here"] (yS n)) :
  bc bf P w K mg base (L+8) "_law_end" ["_law_head","_law_pipe_here"] (Hw n):=by
 refine F.ok mr λf cdv A outer s H vs Q E hr h=>?_
 obtain⟨b,p,h,ws,rfl,hI,hn2,hbn,q⟩:=h
 refine⟨_,(aq (aL (i:=2) mr.nd rfl (Or.inl rfl) (ax dR hr (ae (pv 0) (ae (pv 1) ah))))
   (av (eK (aW aP (az K (pv 2) ai) ao) (az K (pv 2) ai) (pv 0)))),?_⟩
 refine⟨_,rfl,_,rfl,b,p,h,ws,rfl,hI,hn2,hbn,λu H' s' hR=>ak ?_⟩
 dsimp only
 unfold CZ at q
 cases er:kg n h ws with
 | ok h' f' =>
  rw [er]at hR q
  obtain⟨a1,a2,h1,h2,h3⟩:=hR
  refine⟨_,rfl,u,_,0,_,rfl,rfl,aH.of h1,au (j:=0) rfl,rfl,_,rfl,?_⟩
  rw [bM,T_ rfl]
  exact bZ ⟨_,rfl,u,_,1,_,rfl,rfl,aH.of h1,rfl,q a1 H' s' h2⟩
 | no a1 s1 =>
  rw [er]at hR q
  obtain⟨a1,h1,h2⟩:=hR
  refine⟨_,rfl,u,_,0,_,rfl,rfl,aH.of h1,au (j:=0) rfl,rfl,_,rfl,?_⟩
  rw [bM,T9 (by decide +kernel)]
  exact bA ⟨_,rfl,q b H' s' (s' _ _ hI.hd)⟩
def NU:Wk->Prop
 | .one x=>ne1 x
 | _=>True
theorem Fs{x:Wk}{hs:List Hd}(hx:NU x)(h:hs.headD []≠[]):bE x hs≠[]:=by
 match x with
 | .one (.cut cs)=>intro z; exact hx (List.map_eq_nil_iff.mp z)
 | .one (.must c ps) =>
  intro z
  have z:((hs.headD []).take (c-1).toNat++(ps.take 1).map (λp=>sW p.2))++(hs.headD []).drop c.toNat=[]:=z
  have z1:=(List.append_eq_nil_iff.mp (List.append_eq_nil_iff.mp z).1).2
  have hp:ps≠[]:=hx.1
  cases ps with
  | nil=>exact hp rfl
  | cons p ps=>cases z1
 | .one (.walk ..)=>intro z; exact absurd (List.append_eq_nil_iff.mp z).2 (by simp)
 | .one (.count ..)=>intro z; exact absurd (List.append_eq_nil_iff.mp z).2 (by simp)
 | .one (.sum ..)=>intro z; exact absurd (List.append_eq_nil_iff.mp z).2 (by simp)
 | .one .number=>intro z; exact absurd (List.append_eq_nil_iff.mp z).2 (by simp)
 | .meet ..=>intro z; exact h (List.append_eq_nil_iff.mp (List.append_eq_nil_iff.mp z).1).1
 | .one (.keep ..)=>exact h
 | .one (.same ..)=>exact h
 | .one (.turn ..)=>exact h
 | .one (.sort ..)=>exact h
 | .one .apart=>exact h
 | .one (.first ..)=>exact h
 | .both ..=>exact h
theorem Ck{x:Wk}(h:IM x):NU x:=by
 cases x with
 | one x=>exact CU.ne h
 | both p q=>trivial
 | meet c d p q=>trivial
theorem wK{x:Wk}{h h1:Hd}{f f1:Fl}{pl:List Int}(hx:NU x){es:List (Hd×Fl)}(hes:(es.map λe=>e.1).headD []≠[])(e:ia x h f pl es=.ok h1 f1):h1≠[]:=by
 unfold ia at e
 split at e
 ·cases e
 ·cases e; exact Fs hx hes
theorem tN{step:Hd->Fl->List Int->Wk->Res}{P:Wk->Prop}(S:∀x h f pl h' f',P x->h≠[]->step h f pl x=.ok h' f'->h'≠[]){pl:List Int}:∀{ws:List Wk} {i:Nat} {h:Hd} {f:Fl} {h':Hd} {f':Fl},(∀x∈ws,P x)->h≠[]->putL step pl i h f ws=.ok h' f'->h'≠[]
 | [],i,h,f,h',f',_,hn,e=>by cases e; exact hn
 | x::ws,i,h,f,h',f',hp,hn,e=>by
  obtain⟨h1,f1,e1,e2⟩:=fc e
  exact tN S (λy hy=>hp y (Uj _ hy)) (S x _ _ _ _ _ (hp x UE) hn e1) e2
theorem yL{n:Nat}{ws:List Wk}(h:ra n ws):∀x∈ws,ra n [x]:=by
 intro x hx
 cases n <;> exact λy hy=>by rw [Uo.mp hy]; exact h x hx
theorem Lg:∀(n:Nat) (x:Wk) (h:Hd) (f:Fl) (pl:List Int) (h':Hd) (f':Fl),ra n [x]->h≠[]->cn n h f pl x=.ok h' f'->h'≠[]
 | 0,x,h,f,pl,h',f',hd,hn,e=>wK (Ck (hd x UE).1) (es:=[(h,f)]) hn e
 | n+1,x,h,f,pl,h',f',hd,hn,e=>by
  obtain⟨hx,hb2⟩:=hd x UE
  have hx:=Ck hx.1
  cases hb:bX x with
  | false=>rw [iD hb]at e; exact wK hx (es:=[(h,f)]) hn e
  | true =>
   rw [oi hb]at e
   obtain⟨p,q,hpq⟩:=sk hb
   rw [hpq]at e hb2
   obtain⟨h2,f2,e3,e⟩:=fc e
   obtain⟨_,_,_,e⟩:=fc e
   refine wK hx ?_ e
   exact tN (Lg n) (yL (hb2 p UE)) hn e3
theorem LM{n:Nat}{pl:List Int}{ws:List Wk}{i:Nat}{h:Hd}{f:Fl}{h':Hd}{f':Fl}(hd:ra n ws)(hn:h≠[])(e:putL (cn n) pl i h f ws=.ok h' f'):h'≠[]:=tN (Lg n) (yL hd) hn e
def dep:Nat->Wk->Prop
 | _,.one _=>True
 | 0,_=>False
 | n+1,.both p q=>(∀x∈p,dep n x)/\∀x∈q,dep n x
 | n+1,.meet _ _ p q=>(∀x∈p,dep n x)/\∀x∈q,dep n x
theorem ie{α:Type}{At:Hp->Addr->α->Prop}{H:Hp}{p:Addr}{bs:List Addr}{xs:List α}(h:bO At H p bs xs){x:α}(hx:x∈xs):∃a,At H a x:=by
 obtain⟨i,e⟩:=List.mem_iff_getElem?.mp hx
 have hi:i<bs.length:=by rw [h.len]; exact(Um.mp e).1
 exact⟨_,h.at_ i _ x (Ug hi) e⟩
theorem o_:∀{n:Nat} {H:Hp} {a:Addr} {x:Wk},dj n H a x->dep n x
 | 0,H,a,.one x,h=>trivial
 | n+1,H,a,.one x,h=>trivial
 | n+1,H,a,.both p q,h=>by
  obtain⟨b,c,bs,cs,h1,h2,h3⟩:=h
  exact⟨λx hx=>by obtain⟨a,z⟩:=ie h2 hx; exact o_ z,λx hx=>by obtain⟨a,z⟩:=ie h3 hx; exact o_ z⟩
 | n+1,H,a,.meet c d p q,h=>by
  obtain⟨b,e,bs,es,h1,h2,h3⟩:=h
  exact⟨λx hx=>by obtain⟨a,z⟩:=ie h2 hx; exact o_ z,λx hx=>by obtain⟨a,z⟩:=ie h3 hx; exact o_ z⟩
theorem yD{n:Nat}{x:Wk}(h:dep (n+1) x){p:List Wk}(hp:p∈dE x):∀y∈p,dep n y:=by
 cases x with
 | one x=>cases hp
 | both a b =>
  simp only [dE,Uq,List.not_mem_nil,or_false]at hp
  rcases hp with rfl | rfl
  ·exact h.1
  ·exact h.2
 | meet c d a b =>
  simp only [dE,Uq,List.not_mem_nil,or_false]at hp
  rcases hp with rfl | rfl
  ·exact h.1
  ·exact h.2
theorem uH{x:Wk}(h:dep 0 x):dE x=[]:=by
 cases x with
 | one x=>rfl
 | both a b=>exact False.elim h
 | meet c d a b=>exact False.elim h
theorem ud.up:∀{n:Nat} {ws:List Wk},(∀x∈ws,dep n x)->ud n ws->ud (n+1) ws
 | 0,ws,hd,h=>⟨h.1,λx hx=>⟨h.2 x hx,λp hp=>by rw [uH (hd x hx)]at hp; cases hp⟩⟩
 | n+1,ws,hd,h=>⟨h.1,λx hx=>⟨(h.2 x hx).1,λp hp=>ud.up (yD (hd x hx) hp) ((h.2 x hx).2 p hp)⟩⟩
theorem ra.up:∀{n:Nat} {ws:List Wk},(∀x∈ws,dep n x)->ra n ws->ra (n+1) ws
 | 0,ws,hd,h=>λx hx=>⟨h x hx,λp hp=>by rw [uH (hd x hx)]at hp; cases hp⟩
 | n+1,ws,hd,h=>λx hx=>⟨(h x hx).1,λp hp=>ra.up (yD (hd x hx) hp) ((h x hx).2 p hp)⟩
structure bN(n:Nat)(H:Hp)(p:Addr)(ws:List Wk):Prop where
 pp:jf n H p ws
 ok:ud n ws
 dr:ra n ws
theorem bN.up{n:Nat}{H:Hp}{p:Addr}{ws:List Wk}(h:bN n H p ws):bN (n+1) H p ws:=by
 obtain⟨⟨bs,hb⟩,h2,h3⟩:=h
 have hd:∀x∈ws,dep n x:=λx hx=>by obtain⟨a,z⟩:=ie hb hx; exact o_ z
 exact⟨⟨bs,hb.tup,hb.len,λi a x e1 e2=>(hb.at_ i a x e1 e2).up⟩,h2.up hd,h3.up hd⟩
theorem bN.to{n:Nat}{H:Hp}{p:Addr}{ws:List Wk}(h:bN n H p ws)(m:Nat):bN (n+m) H p ws:=by
 induction m with
 | zero=>exact h
 | succ m ih=>exact ih.up
theorem bN.le{n m:Nat}{H:Hp}{p:Addr}{ws:List Wk}(h:bN n H p ws)(e:n<=m):bN m H p ws:=by
 have:=h.to (m-n)
 rwa [show n+(m-n)=m by omega]at this
theorem bN.keep{n:Nat}{H H':Hp}{p:Addr}{ws:List Wk}(k:aE H H')(h:bN n H p ws):bN n H' p ws:=⟨h.pp.keep k,h.ok,h.dr⟩
structure nY(n:Nat)(H:Hp)(a:Addr)(x:Wk):Prop where
 wk:dj n H a x
 ok:z_ x
 dr:IM x
 pm:BX x
 br:∀p∈dE x,ud (n-1) p/\ra (n-1) p
theorem bN.snoc{n:Nat}{H:Hp}{p u a:Addr}{bs:List Addr}{ws:List Wk}{x:Wk}(hI:bO (dj n) H p bs ws)(ho:ud n ws)(hd:ra n ws)(hx:nY n H a x)(hl:ws.length<9)(hu:H u=some (.tup ((bs++[a]).map V.ref))):bN n H u (ws++[x]):=by
 refine⟨⟨bs++[a],hu,by rw [Ub,Ub,hI.len]; rfl,λi b y e1 e2=>?_⟩,?_,?_⟩
 ·by_cases hi:i<bs.length
  ·rw [Ux hi]at e1
   rw [Ux (by rw [←hI.len]; exact hi)]at e2
   exact hI.at_ i b y e1 e2
  ·have hi':i=bs.length:=by
    have:=(Um.mp e1).1
    rw [Ub]at this
    simp at this
    omega
   rw [hi',Uw (T7 _),Nat.sub_self]at e1
   rw [hi',hI.len,Uw (T7 _),Nat.sub_self]at e2
   cases e1
   cases e2
   exact hx.wk
 ·have hl':(ws++[x]).length<=9:=by rw [Ub]; simp; omega
  cases n with
  | zero =>
   refine⟨hl',λy hy=>?_⟩
   rcases Us.mp hy with z | z
   ·exact ho.2 y z
   ·rw [Uo.mp z]; exact hx.ok
  | succ n =>
   refine⟨hl',λy hy=>?_⟩
   rcases Us.mp hy with z | z
   ·exact ho.2 y z
   ·rw [Uo.mp z]; exact⟨hx.ok,λp hp=>(hx.br p hp).1⟩
 ·cases n with
  | zero =>
   intro y hy
   rcases Us.mp hy with z | z
   ·exact hd y z
   ·rw [Uo.mp z]; exact⟨hx.dr,hx.pm⟩
  | succ n =>
   intro y hy
   rcases Us.mp hy with z | z
   ·exact hd y z
   ·rw [Uo.mp z]; exact⟨⟨hx.dr,hx.pm⟩,λp hp=>(hx.br p hp).2⟩
theorem CU.all{n:Nat}{H:Hp}{a:Addr}{x:W1}(h:jP H a x)(d:CU x):nY n H a (.one x):=by
 refine⟨bW.mpr h,⟨d.sm,d.good,?_,λp hp=>by cases hp⟩,d,trivial,λp hp=>by cases hp⟩
 cases x <;> first | trivial | exact d.ne.1
def lq(K:UJ):Nat->Sp
 | 0=>λ_ _ _ _=>False
 | N+1=>λvs H Q _=>∃(p b:Addr) (h:Hd) (d m:Nat) (si:Bool),vs=[.ref p,.ref b,.int d,.int m,.bl si]/\dh H p/\cU K H b h/\d<=N/\m<=9/\∀(u:Addr) (ws:List Wk) (H':Hp),bo p H H'->bN d H' u ws->ws.length<=m->Q (.ref u) H'
def yX(K:UJ)(N:Nat):Sp:=λvs H Q _=>∃(p b:Addr) (h:Hd) (d:Nat) (wd:Str),vs=[.ref p,.ref b,.int d,.str wd]/\dh H p/\cU K H b h/\1<=d/\d<=N/\(wd="both"\/wd="meet")/\∀(u:Addr) (x:Wk) (H':Hp),bo p H H'->nY d H' u x->Q (.ref u) H'
def y9(K:UJ)(N:Nat):Sp:=λvs H Q _=>∃(p b:Addr) (h:Hd) (d:Nat) (si:Bool),vs=[.ref p,.ref b,.int d,.bl si]/\dh H p/\cU K H b h/\d<=N/\∀(u:Addr) (x:Wk) (H':Hp),bo p H H'->nY d H' u x->Q (.ref u) H'
end My
namespace L2
open PySem PySem.Spec PyProof.Rows
theorem Bf(l:Addr)(items:Array Value)(n:Nat)(dd:Option Addr)(sl:Array (Option Value))(t:Tok)(hi:items.isEmpty=false) :
  Meets (Builtin.«tuple.__mul__» ⟨[.ref l,.int 0 t],[]⟩) (λ_ R s=>s.heap.get? l=some ⟨.type "tuple",dd,.seq items n,sl⟩/\
   R (.ok (.ret (.ref s.heap.objs.size))) {s with heap:=s.heap.push {cls:=.type "tuple",data:=.seq #[]}}) :=
 .of_wp λprog w A R s h=>by
  obtain⟨hp,g,d,tk,os⟩:=s; obtain⟨hl,h⟩:=h
  have c1:¬(decide ((0:Int) < -2 ^ 63)||decide ((0:Int)≥2 ^ 63))=true:=by decide
  have c2:¬(items.isEmpty||(0:Int)==1)=true:=by
   rw [hi,Bool.false_or]; decide
  have c3:(decide ((0:Int)<=0)||items.isEmpty)=true:=by
   rw [hi,Bool.or_false]; decide
  wp_walk
  exact⟨_,rfl,h⟩
theorem DB(l:Addr)(items:Array Value)(n:Nat)(dd:Option Addr)(sl:Array (Option Value))(t:Tok)(hi:items.isEmpty=false) :
  Meets (Builtin.«tuple.__mul__» ⟨[.ref l,.int 1 t],[]⟩) (λ_ R s=>s.heap.get? l=some ⟨.type "tuple",dd,.seq items n,sl⟩/\
   R (.ok (.ret (.ref l))) s) :=
 .of_wp λprog w A R s h=>by
  obtain⟨hp,g,d,tk,os⟩:=s; obtain⟨hl,h⟩:=h
  have c1:¬(decide ((1:Int) < -2 ^ 63)||decide ((1:Int)≥2 ^ 63))=true:=by decide
  have c2:(items.isEmpty||(1:Int)==1)=true:=by
   rw [hi,Bool.false_or]; decide
  wp_walk
  exact⟨_,rfl,h⟩
section
variable{X:Cx}
def JE(K:UJ):R2:=λx y H Q=>∃l k xs,x=.ref l/\y=.int k/\aH K H l xs/\xs≠[]/\((k=0/\∀p,H p=none->Q (.ref p) (upd H p (.tup [])))\/(k=1/\Q (.ref l) H))
theorem va:i3 X (binaryOp .Mult) (JE X.K):=by
 intro pins s σ H x y v u Q I rx ry h
 obtain⟨l,k,xs,rfl,rfl,hq,hx,h⟩:=h
 cases rx
 obtain⟨t,rfl⟩:=ry
 obtain⟨its,r,⟨o,e,hc,n,hd⟩,_⟩:=I.tuple hq
 obtain⟨c,dd,da,sl⟩:=o
 cases(show c=.type "tuple" from hc)
 cases(show da=.seq its.toArray n from hd)
 have hl:=r.length
 have hi:its.toArray.isEmpty=false:=by
  cases its with
  | nil=>exact absurd (List.eq_nil_of_length_eq_zero (by rw [hl]; rfl)) hx
  | cons a r=>rfl
 rcases h with⟨rfl,q⟩ | ⟨rfl,q⟩
 ·refine wpAny_binaryOp_repeat_ref (T:="tuple") (U:="int") (by decide) ⟨_,e,rfl⟩ (λs'=>typeIs_int s' 0 t) fM F.fills_int_mul F.slot_int_rmul sJ F.slot_int_index.lookup
   (call_meets F.slot_int_rmul (typeIs_int s 0 t) F.entry_int_rmul (F.args_int_rmul_2 _ _) (iL 0 t l its.toArray n dd sl)
    ⟨e,rfl,⟨_,e,rfl⟩,call_meets F.slot_tuple_mul ⟨_,e,rfl⟩ F.entry_tuple_mul (F.args_tuple_mul_2 _ _) (Bf l its.toArray n dd sl t hi) ⟨e,?_⟩⟩)
  refine⟨.ref s.heap.objs.size,_,I.laid (t':=s.toks) (o:=.tup []) (λb ob q=>T4 _ q) (T7 _) ?_,rfl,q _ (I.hok.fresh (T7 _))⟩
  exact⟨Uu _,[],.nil,gN.new _ _⟩
 ·refine wpAny_binaryOp_repeat_ref (T:="tuple") (U:="int") (by decide) ⟨_,e,rfl⟩ (λs'=>typeIs_int s' 1 t) fM F.fills_int_mul F.slot_int_rmul sJ F.slot_int_index.lookup
   (call_meets F.slot_int_rmul (typeIs_int s 1 t) F.entry_int_rmul (F.args_int_rmul_2 _ _) (iL 1 t l its.toArray n dd sl)
    ⟨e,rfl,⟨_,e,rfl⟩,call_meets F.slot_tuple_mul ⟨_,e,rfl⟩ F.entry_tuple_mul (F.args_tuple_mul_2 _ _) (DB l its.toArray n dd sl t hi) ⟨e,?_⟩⟩)
  exact⟨.ref l,H,I,rfl,q⟩
end
end L2
namespace My
open PySem L2
theorem B8:bnd 2<=100000:=by decide
theorem bN.cons{n:Nat}{H:Hp}{p u a:Addr}{bs:List Addr}{ws:List Wk}{x:Wk}(hI:bO (dj n) H p bs ws)(ho:ud n ws)(hd:ra n ws)(hx:nY n H a x)(hl:ws.length<9)(hu:H u=some (.tup ((a::bs).map V.ref))):bN n H u (x::ws):=by
 refine⟨⟨a::bs,hu,by rw [UG,UG,hI.len],λi b y e1 e2=>?_⟩,?_,?_⟩
 ·cases i with
  | zero=>cases e1; cases e2; exact hx.wk
  | succ i=>exact hI.at_ i b y e1 e2
 ·have hl':(x::ws).length<=9:=by rw [UG]; omega
  cases n with
  | zero =>
   refine⟨hl',λy hy=>?_⟩
   rcases Uq.mp hy with rfl | z
   ·exact hx.ok
   ·exact ho.2 y z
  | succ n =>
   refine⟨hl',λy hy=>?_⟩
   rcases Uq.mp hy with rfl | z
   ·exact⟨hx.ok,λp hp=>(hx.br p hp).1⟩
   ·exact ho.2 y z
 ·cases n with
  | zero =>
   intro y hy
   rcases Uq.mp hy with rfl | z
   ·exact⟨hx.dr,hx.pm⟩
   ·exact hd y z
  | succ n =>
   intro y hy
   rcases Uq.mp hy with rfl | z
   ·exact⟨⟨hx.dr,hx.pm⟩,λp hp=>(hx.br p hp).2⟩
   ·exact hd y z
abbrev fP:Stmt:=top 79
theorem dg:ay ["_law_pot_here","_law_head","_law_deep","_law_word_here","_law_many_here","_law_one","_law_other_here"] ["_law_pot_here","_law_head","_law_deep","_law_word_here"] (ar fP):=fs
variable{P:Program}{w:World}{K:UJ}{mg:Str->Option Value}{base:Heap}
theorem oC{N L Le:Nat}(hN:N<=2)(h5:5<=L)(hLe:Le<=L)(B2:iR mg)(F:FA K mg "_law_joining" fP)
  (bu:bc bf P w K mg base 1 "_law_draw" ["_law_pot_here","_law_many_here"] dm)
  (gv:bc bf P w K mg base L "_law_pipe" ["_law_pot_here","_law_head","_law_deep","_law_many_here","_law_simple"] (lq K N))
  (jX:bc bf P w K mg base 2 "_law_column" ["_law_pot_here","_law_head"] (hZ K))
  (oN:bc bf P w K mg base Le "_law_end" ["_law_head","_law_pipe_here"] (Hw 2))
  (xG:bc bf P w K mg base 3 "_law_set" ["_law_pot_here","_law_sort"] (Cn K)) :
  bc bf P w K mg base (L+1) "_law_joining" ["_law_pot_here","_law_head","_law_deep","_law_word_here"] (yX K N):=by
 refine F.ok dg λf cdv A outer s H vs Q E hr h=>?_
 have hu:=iM hr
 obtain⟨p,b,h,d,wd,rfl,hP,hH,hd1,M8,Gz,q⟩:=h
 refine⟨_,(aq (aL (i:=4) dg.nd rfl (Or.inl rfl) (aQ (ae (ax bu hr (ae (pv 0) (ae ai ah))) (ae (ax bu hr (ae (pv 0) (ae ai ah))) ah))))
   (aq (aL (i:=5) dg.nd rfl (Or.inl rfl) (ax gv hr (ae (pv 0) (ae (pv 1) (ae (bj K (aQ (ae (aF bJ (pv 2) ai) (ae ai ah))) (aV cz rfl B2.int PyProof.Rows.boot_int (ae (bU aP (pv 3) ao) ah))) (ae (bj K (pv 4) ai) (ae (nI (bU aP (pv 3) ao) (cT (bU Br (ax bu hr (ae (pv 0) (ae ai ah))) ai))) ah)))))))
   (aq (aL (i:=6) dg.nd rfl (Or.inl rfl) (ax gv hr (ae (pv 0) (ae (pv 1) (ae (bj K (aQ (ae (aF bJ (pv 2) ai) (ae ai ah))) (aV cz rfl B2.int PyProof.Rows.boot_int (ae (bU aP (pv 3) ao) ah))) (ae (bj K (pv 4) ai) (ae (nI (bU aP (pv 3) ao) (cT (bU Br (ax bu hr (ae (pv 0) (ae ai ah))) ai))) ah)))))))
   (aN (aW aP (pv 3) ao) (aJ (ae ao (ae (ax jX hr (ae (pv 0) (ae (ax oN hr (ae (pv 1) (ae (pv 5) ah))) ah))) (ae (ax jX hr (ae (pv 0) (ae (ax oN hr (ae (pv 1) (ae (pv 6) ah))) ah))) (ae (pv 5) (ae (pv 6) ah))))))
   (aq (dv (aW il (ax bu hr (ae (pv 0) (ae ai ah))) ai)
    (bK (aL (i:=6) dg.nd rfl (Or.inl rfl) (aF cb (aF va (aJ (ae (aJ (ae ao (ae ai (ae (ax xG hr (ae (pv 0) (ae (az K (pv 1) ai) ah))) ah)))) ah)) (ax bu hr (ae (pv 0) (ae ai ah)))) (pv 5))))
    b9)
   (av (aJ (ae ao (ae (pv 5) (ae (pv 6) ah)))))))))),?_⟩
 have h4:∀m:Int,m=4\/m=3\/m=9\/m=2->0<m/\m.natAbs.log2<9000:=by rintro m (rfl | rfl | rfl | rfl) <;> exact⟨by decide,by decide⟩
 refine⟨_,rfl,p,_,rfl,hP,by decide,by decide,λd1 H1 g1 a1 b1=>⟨_,rfl,p,_,rfl,g1.cf,by decide,by decide,λd2 H2 g2 a2 b2=>⟨cJ,λM hM=>ak ?_⟩⟩⟩
 have Ni:=g1.trans g2
 have nM:=Ni.ne hM
 have gM:=Ni.new (o:=.lst [.int d1,.int d2]) hM
 have Ng:upd H2 M (.lst [.int d1,.int d2]) M=some (.lst [.int d1,.int d2]):=ag
 revert gM Ng
 generalize upd H2 M (.lst [.int d1,.int d2])=HM
 intro gM Ng
 dsimp only
 obtain⟨N',rfl⟩ :∃N',N=N'+1:=⟨N-1,by omega⟩
 have call:∀(σ:St) (j:Int) (m:Int) (H1:Hp),bo p H H1->σ[0]? = some (some (.ref p))->σ[1]? = some (some (.ref b))->σ[2]? = some (some (.int d))->σ[3]? = some (some (.str wd))->σ[4]? = some (some (.ref M))->H1 M=some (.lst [.int d1,.int d2])->i6 [V.int d1,V.int d2] j=some (.int m)->0<=m->m<=3->
   ∀(Qc:VK),(∀(u:Addr) (ws:List Wk) (H':Hp),bo p H1 H'->bN (if wd="meet" then 0 else d-1) H' u ws->ws.length<=3->Qc (.ref u) H')->
   iW (lq K (N'+1)) [] E0 (bp (bx 0) (bp (bx 1) (bp (gB (xJ K) (x5 (bp (gB (zi λi j=>V.int (i-j)) (bx 2) (tC (.int 1))) (bp (tC (.int 0)) fz))) (Kp Bp (bp (gB Hv (bx 3) (tC (.str "meet"))) fz))) (bp (gB (xJ K) (bx 4) (tC (.int j))) (bp (GN (gB Hv (bx 3) (tC (.str "meet"))) (gB (zi λi j=>.bl (decide (i<j))) (iW dm [] E0 (bp (bx 0) (bp (tC (.int 9)) fz))) (tC (.int 8)))) fz))))) σ H1 Qc:=by
  intro σ j m H1 gg e0 e1 e2 e3 e4 QV hj m0 m3 Qc qc
  refine⟨_,e0,_,e1,_,e2,_,_,rfl,rfl,cJ,λR hR=>?_⟩
  have sR:=aj hR (.lst [V.int ((d:Int)-1),.int 0])
  have gR:=gg.trans (bo.same gg.cf sR)
  have hRR:upd H1 R (.lst [V.int ((d:Int)-1),.int 0]) R=some (.lst [V.int ((d:Int)-1),.int 0]):=ag
  have Om:=sR _ _ QV
  have kR:=bo.same gg.cf sR
  revert gR hRR Om kR
  generalize upd H1 R (.lst [V.int ((d:Int)-1),.int 0])=HR
  intro gR hRR Om kR
  refine⟨_,e3,rfl,.inr ⟨_,rfl,R,_,_,.int ((if wd="meet" then 0 else d-1:Nat):Int),rfl,rfl,a_.of hRR,?_,_,e4,M,_,_,_,rfl,rfl,a_.of Om,hj,_,e3,rfl,_,rfl,?_⟩⟩
  ·rw [bM]
   by_cases z:wd="meet"
   ·rw [T_ z,if_pos z]; rfl
   ·rw [T9 z,if_neg z]
    show some (V.int ((d:Int)-1))=_
    congr 2
    omega
  rw [bM]
  have hle:(if wd="meet" then 0 else d-1)<=N':=by split <;> omega
  by_cases z:wd="meet"
  ·rw [T_ z]
   refine bZ ⟨_,e0,p,_,rfl,gR.cf,by decide,by decide,λd3 H3 g3 a3 b3=>⟨_,_,rfl,rfl,p,b,h,_,m.toNat,decide (d3<8),?_,g3.cf,hH.grow hP (gR.trans g3),hle,by omega,λu ws H' g' hp' hl'=>qc u ws H' ((kR.trans g3).trans g') hp' (by omega)⟩⟩
   rw [show((m.toNat:Nat):Int)=m by omega]
   rfl
  ·rw [T9 z]
   refine bA ⟨p,b,h,_,m.toNat,false,?_,gR.cf,hH.grow hP gR,hle,by omega,λu ws H' g' hp' hl'=>qc u ws H' (kR.trans g') hp' (by omega)⟩
   rw [show((m.toNat:Nat):Int)=m by omega]
   rfl
 refine call _ 0 d1 HM gM rfl rfl rfl rfl rfl Ng rfl a1 (by omega) _ λu1 Iy H3 g3 hp1 hl1=>ak ?_
 have Ke:=gM.trans g3
 dsimp only
 refine call _ 1 d2 H3 Ke rfl rfl rfl rfl rfl (g3.keep M _ nM Ng) rfl a2 (by omega) _ λu2 Np H4 g4 hp2 hl2=>ak ?_
 have A0:=Ke.trans g4
 have hp1:=hp1.keep (aE.grow Ke.cf g4)
 have HK:=hH.grow hP A0
 dsimp only
 refine⟨_,rfl,rfl,_,rfl,?_⟩
 rw [bM]
 by_cases z:wd="meet"
 ·rw [if_pos z]at hp1 hp2
  rw [T_ z]
  have Qr:∀{H5:Hp} {u:Addr} {ws:List Wk},cU K H5 b h->bN 0 H5 u ws->Ab 2 H5 b u h ws:=λhh hp=>⟨hh.tup,(hp.le (by decide)).pp,(hp.le (m:=2) (by decide)).ok,(hp.le (m:=2) (by decide)).dr,hh.few⟩
  have hend:∀{ws:List Wk},ra 2 ws->(CZ 2 h ws).length<=6/\1<=(CZ 2 h ws).length:=by
   intro ws hd
   unfold CZ
   have hne:h≠[]:=λe=>by have:=hH.pos; rw [e]at this; cases this
   cases er:kg 2 h ws with
   | ok h' f' =>
    refine⟨yP hH.few er,?_⟩
    have:=LM hd hne er
    exact Nat.pos_of_ne_zero λz=>this (List.eq_nil_of_length_eq_zero z)
   | no a s=>exact⟨hH.few,hH.pos⟩
  refine bZ ⟨_,rfl,_,rfl,_,rfl,b,u1,h,Iy,rfl,Qr HK hp1,by decide,B8,λv1 H5 s5 hv1=>?_⟩
  have g5:=bo.same A0.cf s5
  have k5:=aE.of s5
  obtain⟨z1,z2⟩:=hend (hp1.le (m:=2) (by decide)).dr
  refine⟨p,v1,_,rfl,g5.cf,⟨hv1,z2,z1⟩,λc1 H6 g6 RB TN=>?_⟩
  have Kj:=g5.trans g6
  have qQ:=aE.grow A0.cf Kj
  have Sh:=HK.grow A0.cf Kj
  refine⟨_,rfl,_,rfl,_,rfl,b,u2,h,Np,rfl,Qr Sh (hp2.keep qQ),by decide,B8,λv2 H7 s7 hv2=>?_⟩
  have QJ:=bo.same Kj.cf s7
  obtain⟨z3,z4⟩:=hend (hp2.le (m:=2) (by decide)).dr
  refine⟨p,v2,_,rfl,QJ.cf,⟨hv2,z4,z3⟩,λc2 H8 g8 S2 Tw=>⟨_,rfl,_,rfl,r8,λu hu'=>?_⟩⟩
  have Ku:=(Kj.trans QJ).trans g8
  have sU:=aj hu' (.tup [.str "meet",.int c1,.int c2,.ref u1,.ref u2])
  have Kr:=(aE.grow A0.cf Ku).trans (aE.of sU)
  have q1:=(hp1.keep Kr).le (m:=d-1) (Uu _)
  have q2:=(hp2.keep Kr).le (m:=d-1) (Uu _)
  obtain⟨d',rfl⟩ :∃d',d=d'+1:=⟨d-1,by omega⟩
  obtain⟨FJ,hb1⟩:=q1.pp
  obtain⟨Q7,hb2⟩:=q2.pp
  refine q u (.meet c1 c2 Iy Np) _ ((A0.trans Ku).new hu') ⟨⟨u1,u2,FJ,Q7,ag,hb1,hb2⟩,⟨trivial,trivial,trivial,λp hp=>?_⟩,trivial,⟨RB,S2⟩,λp hp=>?_⟩
  ·simp only [dE,Uq,List.not_mem_nil,or_false]at hp
   rcases hp with rfl | rfl <;> omega
  ·simp only [dE,Uq,List.not_mem_nil,or_false]at hp
   rcases hp with rfl | rfl
   ·exact⟨q1.ok,q1.dr⟩
   ·exact⟨q2.ok,q2.dr⟩
 ·rw [if_neg z]at hp1 hp2
  rw [T9 z]
  refine bA (aG ?_)
  dsimp only
  obtain⟨d',rfl⟩ :∃d',d=d'+1:=⟨d-1,by omega⟩
  have hp1:bN d' H4 u1 Iy:=hp1
  have hp2:bN d' H4 u2 Np:=hp2
  have fin:∀(σ:St) (u3:Addr) (Nr:List Wk) (H9:Hp),σ[5]? = some (some (.ref u1))->σ[6]? = some (some (.ref u3))->bo p H4 H9->bN d' H9 u3 Nr->Nr.length<=9->CO (Gg (bp (tC (.str "both")) (bp (bx 5) (bp (bx 6) fz)))) {nx:=λ_ H'=>Q .non H',rt:=Q} σ H9:=by
   intro σ u3 Nr H9 e5 e6 g9 hp3 hl3
   refine⟨_,e5,_,e6,gq,λu hu'=>?_⟩
   have sU:=aj hu' (.tup [.str "both",.ref u1,.ref u3])
   have q1:=hp1.keep ((aE.grow A0.cf g9).trans (aE.of sU))
   have q3:=hp3.keep (aE.of sU)
   obtain⟨FJ,hb1⟩:=q1.pp
   obtain⟨SI,hb3⟩:=q3.pp
   refine q u (.both Iy Nr) _ ((A0.trans g9).new hu') ⟨⟨u1,u3,FJ,SI,ag,hb1,hb3⟩,⟨trivial,trivial,trivial,λp hp=>?_⟩,trivial,trivial,λp hp=>?_⟩
   ·simp only [dE,Uq,List.not_mem_nil,or_false]at hp
    rcases hp with rfl | rfl <;> omega
   ·simp only [dE,Uq,List.not_mem_nil,or_false]at hp
    rcases hp with rfl | rfl
    ·exact⟨q1.ok,q1.dr⟩
    ·exact⟨q3.ok,q3.dr⟩
  refine⟨_,rfl,p,_,rfl,A0.cf,by decide,by decide,λe5 H5 g5 a5 b5=>⟨_,_,rfl,rfl,_,rfl,cH (λy=>?_) (λy=>aG ?_)⟩⟩
  ·have Q8:=HK.grow A0.cf g5
   obtain⟨s0,r0,hs0⟩ :∃s0 r0,h=s0::r0:=by
    cases h with
    | nil=>have:=hH.pos; cases this
    | cons s0 r0=>exact⟨s0,r0,rfl⟩
   refine⟨_,rfl,_,rfl,b,_,0,.str s0,rfl,rfl,aH.of Q8.tup,by rw [hs0]; exact au (j:=0) rfl,p,s0,rfl,g5.cf,λsa t xs H6 g6 QW=>⟨gq,λk1 hk1=>⟨dP,λk2 hk2=>?_⟩⟩⟩
   have s1:=aj hk1 (.tup [.str "keep",.int 1,.ref sa])
   have s2:=aj hk2 (.tup [.ref k1])
   have M7:=g5.trans g6
   have gk:=(M7.trans (bo.same M7.cf (s1.trans s2)))
   have ek2:upd (upd H6 k1 (.tup [.str "keep",.int 1,.ref sa])) k2 (.tup [.ref k1]) k2=some (.tup [.ref k1]):=ag
   have ek1:jP (upd (upd H6 k1 (.tup [.str "keep",.int 1,.ref sa])) k2 (.tup [.ref k1])) k1 (.keep 1 t):=⟨sa,xs,s2 _ _ ag,s2 _ _ (s1 _ _ QW)⟩
   revert gk ek2 ek1
   generalize upd (upd H6 k1 (.tup [.str "keep",.int 1,.ref sa])) k2 (.tup [.ref k1])=Hk
   intro gk ek2 ek1
   refine⟨_,rfl,p,_,rfl,gk.cf,by decide,by decide,λe7 H7 g7 a7 b7=>?_⟩
   have J3:=gk.trans g7
   have k7:=aE.grow gk.cf g7
   have Fx:=hp1.keep (aE.grow A0.cf J3)
   obtain⟨FJ,hb1⟩:=Fx.pp
   have hz1:(FJ.map V.ref).length<=3:=by rw [Ua,hb1.len]; exact hl1
   refine⟨k2,e7,_,rfl,rfl,aH.of (k7 _ _ ek2),by simp,?_⟩
   have hc:e7=0\/e7=1:=by omega
   rcases hc with rfl | rfl
   ·refine .inl ⟨rfl,λt0 ht0=>?_⟩
    have s8:=aj ht0 (.tup [])
    refine⟨_,rfl,t0,u1,_,_,rfl,rfl,ag,s8 _ _ hb1.tup,by show 0+_<=_; exact T8 (show 0+(FJ.map V.ref).length<=10 by omega) (by decide),λu3 H9 s9 vV=>ak ?_⟩
    have QO:=s8.trans s9
    have k9:=aE.of QO
    refine fin _ u3 Iy H9 rfl rfl (J3.trans (bo.same J3.cf QO)) ⟨⟨FJ,vV,hb1.len,λi a x e1 e2=>(hb1.at_ i a x e1 e2).keep k9⟩,Fx.ok,Fx.dr⟩ (by omega)
   ·refine .inr ⟨rfl,⟨_,rfl,k2,u1,_,_,rfl,rfl,k7 _ _ ek2,hb1.tup,by show 1+_<=_; exact T8 (show 1+(FJ.map V.ref).length<=10 by omega) (by decide),λu3 H9 s9 vV=>ak ?_⟩⟩
    have k9:=aE.of s9
    have hI9:bO (dj d') H9 u1 FJ Iy:=hb1.keep k9 λ_ _ z=>z.keep k9
    have hw:nY d' H9 k1 (.one (.keep 1 t)):=CU.all (ek1.keep (k7.trans k9)) ⟨trivial,trivial,trivial,λc hc=>by rw [Uo.mp hc]; exact Int.le_refl _⟩
    refine fin _ u3 (.one (.keep 1 t)::Iy) H9 rfl rfl (J3.trans (bo.same J3.cf s9)) (bN.cons hI9 Fx.ok Fx.dr hw (by omega) vV) (by rw [UG]; omega)
  ·exact fin _ u2 Np H5 rfl rfl g5 (hp2.keep (aE.grow A0.cf g5)) (by omega)
def ig:List Str:=["keep","same","cut","turn","must","walk","sort","apart","count","sum","number","first"]
theorem DI{s:Str}(h:s∈ig):(IA s/\inV (.str s) mF=true)\/(D7 s/\inV (.str s) mF=false/\inV (.str s) DH=false):=by
 simp only [ig,Uq,List.not_mem_nil,or_false]at h
 rcases h with rfl | rfl | rfl | rfl | rfl | rfl | rfl | rfl | rfl | rfl | rfl | rfl
 ·exact .inl ⟨.inl rfl,by decide +kernel⟩
 ·exact .inl ⟨.inr (.inl rfl),by decide +kernel⟩
 ·exact .inl ⟨.inr (.inr (.inl rfl)),by decide +kernel⟩
 ·exact .inl ⟨.inr (.inr (.inr (.inl rfl))),by decide +kernel⟩
 ·exact .inl ⟨.inr (.inr (.inr (.inr rfl))),by decide +kernel⟩
 ·exact .inr ⟨.inl rfl,by decide +kernel,by decide +kernel⟩
 ·exact .inr ⟨.inr (.inl rfl),by decide +kernel,by decide +kernel⟩
 ·exact .inr ⟨.inr (.inr (.inl rfl)),by decide +kernel,by decide +kernel⟩
 ·exact .inr ⟨.inr (.inr (.inr (.inl rfl))),by decide +kernel,by decide +kernel⟩
 ·exact .inr ⟨.inr (.inr (.inr (.inr (.inl rfl)))),by decide +kernel,by decide +kernel⟩
 ·exact .inr ⟨.inr (.inr (.inr (.inr (.inr (.inl rfl))))),by decide +kernel,by decide +kernel⟩
 ·exact .inr ⟨.inr (.inr (.inr (.inr (.inr (.inr rfl))))),by decide +kernel,by decide +kernel⟩
theorem JH{s:Str}(h:s="both"\/s="meet"):inV (.str s) mF=false/\inV (.str s) DH=true:=by
 rcases h with rfl | rfl <;> exact⟨by decide +kernel,by decide +kernel⟩
theorem cU.same{K:UJ}{a:Addr}{H H1:Hp}{hs:List Str}(h:cU K H a hs)(s:aM H H1):cU K H1 a hs:=⟨s _ _ h.tup,h.pos,h.few⟩
theorem BR{x:V}{xs:List V}{P Q:Prop}(e:inV x xs=true)(h:P):if(if false=true then !inV x xs else inV x xs)=true then P else Q:=by
 rw [if_neg Uk,e]
 exact h
theorem sd{x:V}{xs:List V}{P Q:Prop}(e:inV x xs=false)(h:Q):if(if false=true then !inV x xs else inV x xs)=true then P else Q:=by
 rw [if_neg Uk,e]
 exact h
abbrev gP:Stmt:=top 80
theorem eT:ay ["_law_pot_here","_law_head","_law_deep","_law_simple","_law_words","_law_word_here"] ["_law_pot_here","_law_head","_law_deep","_law_simple"] (ar gP):=fs
theorem oW{N L:Nat}(h5:5<=L)(B:jJ mg)(B2:iR mg)(F:FA K mg "_law_worker" gP)
  (bu:bc bf P w K mg base 1 "_law_draw" ["_law_pot_here","_law_many_here"] dm)
  (nH:bc bf P w K mg base 5 "_law_one_row" ["_law_pot_here","_law_head","_law_word_here"] (nj K IA))
  (nF:bc bf P w K mg base L "_law_joining" ["_law_pot_here","_law_head","_law_deep","_law_word_here"] (yX K N))
  (tX:bc bf P w K mg base 5 "_law_other" ["_law_pot_here","_law_head","_law_word_here"] (nj K D7)) :
  bc bf P w K mg base (L+1) "_law_worker" ["_law_pot_here","_law_head","_law_deep","_law_simple"] (y9 K N):=by
 refine F.ok eT λf cdv A outer s H vs Q E hr h=>?_
 obtain⟨p,b,h,d,si,rfl,hP,hH,M8,q⟩:=h
 refine Mv (I0 (i:=4) eT.nd rfl (Or.inl rfl) (HJ (dY ⟨ao⟩ (dY ⟨ao⟩ (dY ⟨ao⟩ (dY ⟨ao⟩ (dY ⟨ao⟩ (dY ⟨ao⟩ (dY ⟨ao⟩ (dY ⟨ao⟩ (dY ⟨ao⟩ (dY ⟨ao⟩ (dY ⟨ao⟩ (dY ⟨ao⟩ J8)))))))))))))
  ⟨(aq (aL (i:=4) eT.nd rfl (Or.inl rfl) (aF pk (cu (r:=KO K) FO (pv 4) dy (cA (bj K (aQ (ae ai (ae ai ah))) (aV cz rfl B2.int PyProof.Rows.boot_int (ae (pv 3) ah))))) (aF xM (aQ (ae ao (ae ao ah))) (aV cz rfl B2.int PyProof.Rows.boot_int (ae (bU il (pv 2) ai) ah)))))
   (aq (aL (i:=5) eT.nd rfl (Or.inl rfl) (bj K (pv 4) (ax bu hr (ae (pv 0) (ae (aZ bF rfl B.len PySem.boot_len (ae (pv 4) ah)) ah)))))
   (aN (dc cp (pv 5) (aQ (ae ao (ae ao (ae ao (ae ao (ae ao ah)))))) rfl) (ax nH hr (ae (pv 0) (ae (pv 1) (ae (pv 5) ah))))
   (aN (dc cp (pv 5) (aQ (ae ao (ae ao ah))) rfl) (ax nF hr (ae (pv 0) (ae (pv 1) (ae (pv 2) (ae (pv 5) ah)))))
   (av (ax tX hr (ae (pv 0) (ae (pv 1) (ae (pv 5) ah)))))))))⟩) ?_
 refine⟨Mr,λW hW=>ak ?_⟩
 have g0:=(bo.refl hP).new (o:=.lst [V.str "keep",.str "same",.str "cut",.str "turn",.str "must",.str "walk",.str "sort",.str "apart",.str "count",.str "sum",.str "number",.str "first"]) hW
 have nW:=(bo.refl hP).ne hW
 have hW0:upd H W (.lst [V.str "keep",.str "same",.str "cut",.str "turn",.str "must",.str "walk",.str "sort",.str "apart",.str "count",.str "sum",.str "number",.str "first"]) W=some (.lst [V.str "keep",.str "same",.str "cut",.str "turn",.str "must",.str "walk",.str "sort",.str "apart",.str "count",.str "sum",.str "number",.str "first"]):=ag
 revert g0 hW0
 generalize upd H W (.lst [V.str "keep",.str "same",.str "cut",.str "turn",.str "must",.str "walk",.str "sort",.str "apart",.str "count",.str "sum",.str "number",.str "first"])=H0
 intro g0 hW0
 dsimp only
 have So:H0 W=some (.lst (ig.map V.str)):=hW0
 clear hW0
 have kk:∃k:Nat,k<=12/\1<=k/\i6 [V.int 12,.int 5] (if si then 1 else 0)=some (.int k):=by
  cases si
  ·exact⟨12,by decide,by decide,rfl⟩
  ·exact⟨5,by decide,by decide,rfl⟩
 obtain⟨k,k12,k1,ek⟩:=kk
 refine⟨_,rfl,cJ,λR hR=>⟨_,rfl,.inr ⟨_,rfl,R,_,_,_,rfl,rfl,a_.of ag,ek,_,rfl,W,_,rfl,a_.of ((aj hR _) _ _ So),λS hS=>⟨cJ,λB1 Nh=>?_⟩⟩⟩⟩
 have Pf:gb (ig.map V.str) none (some (k:Int))=(ig.take k).map V.str:=by
  rw [ya (by rw [Ua]; exact k12),List.map_take]
 rw [Pf]at Nh⊢
 have gR:=g0.new (o:=.lst [V.int 12,.int 5]) hR
 have gS:=gR.new (o:=.lst ((ig.take k).map V.str)) hS
 have Qu:=aj Nh (.lst [V.str "both",.str "meet"])
 have NH:=gS.new (o:=.lst [V.str "both",.str "meet"]) Nh
 have eS:=Qu _ _ (ag (H:=upd H0 R (.lst [V.int 12,.int 5])) (a:=S) (o:=.lst ((ig.take k).map V.str)))
 have eB:upd (upd (upd H0 R (.lst [V.int 12,.int 5])) S (.lst ((ig.take k).map V.str))) B1 (.lst [V.str "both",.str "meet"]) B1=some (.lst [V.str "both",.str "meet"]):=ag
 revert NH eS eB
 generalize upd (upd (upd H0 R (.lst [V.int 12,.int 5])) S (.lst ((ig.take k).map V.str))) B1 (.lst [V.str "both",.str "meet"])=H1
 intro NH eS eB
 clear gS gR Qu Nh hS hR
 have rr:∃e:Int,(if decide ((0:Int)<(d:Int))=true then(1:Int)else 0)=e/\((e=0/\(List.replicate e.toNat [V.str "both",.str "meet"]).flatten=([]:List Str).map V.str)\/(e=1/\1<=d/\(List.replicate e.toNat [V.str "both",.str "meet"]).flatten=([("both" : Str),"meet"]).map V.str)):=by
  by_cases z:(0:Int)<(d:Int)
  ·rw [T_ z]; exact⟨1,rfl,.inr ⟨rfl,by omega,rfl⟩⟩
  ·rw [T9 z]; exact⟨0,rfl,.inl ⟨rfl,rfl⟩⟩
 obtain⟨e,e1,e2⟩:=rr
 have e3:∃ms:List Str,(List.replicate e.toNat [V.str "both",.str "meet"]).flatten=ms.map V.str/\ms.length<=2/\∀s∈ms,1<=d/\(s="both"\/s="meet"):=by
  rcases e2 with⟨_,h⟩ | ⟨_,h1,h⟩
  ·exact⟨[],h,by decide,λs hs=>by cases hs⟩
  ·exact⟨["both","meet"],h,by decide,λs hs=>⟨h1,by simpa using hs⟩⟩
 obtain⟨ms,em,lm,pm⟩:=e3
 have TQ:e=0\/e=1:=by rcases e2 with⟨h,_⟩ | ⟨h,_⟩; exact .inl h; exact .inr h
 refine⟨_,rfl,_,_,rfl,rfl,.inr ⟨_,rfl,B1,_,_,rfl,rfl,eB,?_⟩⟩
 rw [e1]
 have ez:[V.str "both",V.str "meet"].length*e.toNat<=sizeLine:=by
  have:e.toNat<=1:=by omega
  exact T8 (Nat.mul_le_mul_left 2 this) (by decide)
 refine⟨by omega,by omega,ez,λB2 hB2=>?_⟩
 rw [em]
 have PB:=NH.new (o:=.lst (ms.map V.str)) hB2
 have S9:=aj hB2 (.lst (ms.map V.str))
 have lk:(ig.take k).length<=12:=by rw [Uz]; exact T8 (Nat.min_le_left _ _) k12
 refine⟨S,B2,_,_,rfl,rfl,S9 _ _ eS,ag,?_,λC hC=>ak ?_⟩
 ·rw [Ua,Ua]
  exact T8 (show _<=14 by omega) (by decide)
 rw [←Uc]
 have gC:=PB.new (o:=.lst ((ig.take k++ms).map V.str)) hC
 have eC:upd (upd H1 B2 (.lst (ms.map V.str))) C (.lst ((ig.take k++ms).map V.str)) C=some (.lst ((ig.take k++ms).map V.str)):=ag
 revert gC eC
 generalize upd (upd H1 B2 (.lst (ms.map V.str))) C (.lst ((ig.take k++ms).map V.str))=H2
 intro gC eC
 dsimp only
 have ln:(ig.take k++ms).length<=14/\1<=(ig.take k++ms).length:=by
  rw [Ub]
  have:1<=(ig.take k).length:=by rw [Uz]; exact Nat.le_min.mpr ⟨k1,by decide⟩
  omega
 have cls:∀s∈ig.take k++ms,s∈ig\/(1<=d/\(s="both"\/s="meet")):=by
  intro s hs
  rcases Us.mp hs with z | z
  ·exact .inl (List.mem_of_mem_take z)
  ·exact .inr (pm s z)
 revert eC
 generalize ig.take k++ms=ns at ln cls
 intro eC
 refine⟨_,rfl,_,rfl,_,rfl,C,_,rfl,.inl (a_.of eC),p,_,rfl,gC.cf,?_,?_,λe H3 g3 a3 b3=>?_⟩
 ·rw [Ua]; omega
 ·rw [Ua]; exact rC (by omega) (by omega)
 rw [Ua]at b3
 have Ke:=gC.trans g3
 have nC:=PB.ne hC
 obtain⟨j,rfl⟩ :∃j:Nat,e=j:=⟨e.toNat,by omega⟩
 have hi:j<ns.length:=by omega
 obtain⟨wd,PM⟩ :∃wd,ns[j]? = some wd:=⟨_,Ug hi⟩
 have hc:=cls wd (Ui PM)
 refine⟨C,_,_,.str wd,rfl,rfl,a_.of (g3.keep C _ nC eC),au (by rw [Uy,PM]; rfl),ak ?_⟩
 dsimp only
 have Jf:=hH.grow hP Ke
 refine⟨_,rfl,r8,λD1 hD1=>⟨D1,mF,rfl,.inl (a_.of ag),rfl,rfl,_,rfl,?_⟩⟩
 have g4:=Ke.new (o:=.lst mF) hD1
 have HK:=Jf.same (aj hD1 (.lst mF))
 rcases hc with hc | ⟨hd1,hc⟩
 ·rcases DI hc with⟨c1,c2⟩ | ⟨c1,c2,c3⟩
  ·refine BR c2 ⟨_,rfl,_,rfl,_,rfl,p,b,h,wd,rfl,g4.cf,HK,c1,λt x H' g' hx hdr _=>q t (.one x) H' (g4.trans g') (CU.all hx hdr)⟩
  ·refine sd c2 (aG ?_)
   dsimp only
   refine⟨_,rfl,cJ,λD2 hD2=>⟨D2,DH,rfl,.inl (a_.of ag),rfl,rfl,_,rfl,sd c3 (aG ⟨_,rfl,_,rfl,_,rfl,p,b,h,wd,rfl,?_,HK.same (aj hD2 _),c1,λt x H' g' hx hdr _=>q t (.one x) H' ((g4.new hD2).trans g') (CU.all hx hdr)⟩)⟩⟩
   exact(g4.new hD2).cf
 ·obtain⟨c2,c3⟩:=JH hc
  refine sd c2 (aG ?_)
  dsimp only
  refine⟨_,rfl,cJ,λD2 hD2=>⟨D2,DH,rfl,.inl (a_.of ag),rfl,rfl,_,rfl,BR c3 ⟨_,rfl,_,rfl,_,rfl,_,rfl,p,b,h,d,wd,rfl,?_,HK.same (aj hD2 _),hd1,M8,hc,λt x H' g' hx=>q t x H' ((g4.new hD2).trans g') hx⟩⟩⟩
  exact(g4.new hD2).cf
theorem DK{h:Hd}{ws:List Wk}{h':Hd}{f':Fl}{n:Nat}(h6:h.length<=6)(h1:1<=h.length)(hd:ra n ws)(er:kg n h ws=.ok h' f'):1<=h'.length/\h'.length<=6:=by
 have hne:h≠[]:=λe=>by rw [e]at h1; cases h1
 have:=LM hd hne er
 exact⟨Nat.pos_of_ne_zero λz=>this (List.eq_nil_of_length_eq_zero z),yP h6 er⟩
abbrev gu:Stmt:=top 81
theorem cG:ay ["_law_pot_here","_law_head","_law_deep","_law_many_here","_law_simple","_law_pipe_here","_law_here","_law_k","_law_longer","_law_tale"] ["_law_pot_here","_law_head","_law_deep","_law_many_here","_law_simple"] (ar gu):=fs
theorem pI{N L Lj:Nat}(hN:N<=2)(h5:5<=L)(TK:Lj<=L)(B:jJ mg)(B2:iR mg)(F:FA K mg "_law_pipe" gu)
  (qE:bc bf P w K mg base L "_law_worker" ["_law_pot_here","_law_head","_law_deep","_law_simple"] (y9 K N))
  (dR:bc bf P w K mg base Lj "_law_judged" ["_law_head","_law_pipe_here"] (yS 2))
  (bu:bc bf P w K mg base 1 "_law_draw" ["_law_pot_here","_law_many_here"] dm) :
  bc bf P w K mg base (L+1) "_law_pipe" ["_law_pot_here","_law_head","_law_deep","_law_many_here","_law_simple"] (lq K (N+1)):=by
 refine F.ok cG λf cdv A outer s H vs Q E hr h=>?_
 obtain⟨p,b,h,d,m,si,rfl,hP,hH,M8,hm,q⟩:=h
 refine⟨_,(aq (aL (i:=5) cG.nd rfl (Or.inl rfl) (aJ ah))
   (aq (aL (i:=6) cG.nd rfl (Or.inl rfl) (pv 1))
   (aq (gF PassesOwn.never rfl (dk rfl B.range (ae (pv 3) ah)) (bT (i:=7) cG.nd rfl (Or.inl rfl))
    (aq (aL (i:=8) cG.nd rfl (Or.inl rfl) (aF cb (pv 5) (aJ (ae (ax qE hr (ae (pv 0) (ae (pv 6) (ae (pv 2) (ae (pv 4) ah))))) ah))))
     (aq (aL (i:=9) cG.nd rfl (Or.inl rfl) (ax dR hr (ae (pv 1) (ae (pv 8) ah))))
     (bK (dv (PW.pt (Bo (aW aP (az K (pv 9) ai) ao) (DC (aW aP (ax bu hr (ae (pv 0) (ae ai ah))) ai))))
      (aq (aL (i:=5) cG.nd rfl (Or.inl rfl) (pv 8))
       (bK (aL (i:=6) cG.nd rfl (Or.inl rfl) (az K (aF cb (aF va (cu c8 (pv 9) (cA ai) (cA ai)) (aV cz rfl B2.int PyProof.Rows.boot_int (ae (bU aP (az K (pv 9) ai) ao) ah))) (aJ (ae (pv 6) ah))) ai))))
      b9)))))
   (av (pv 5))))),?_⟩
 refine⟨xy,λu0 hu0=>ak ⟨_,rfl,ak ?_⟩⟩
 have s0:=aj hu0 (.tup [])
 have g0:=bo.same hP s0
 have e0:upd H u0 (.tup []) u0=some (.tup []):=ag
 revert s0 g0 e0
 generalize upd H u0 (.tup [])=H0
 intro s0 g0 e0
 dsimp only
 refine⟨_,rfl,m,rfl,by omega,by omega,?_⟩
 have p0:bN d H0 u0 []:=by
  refine⟨⟨[],e0,rfl,λi a x e1 e2=>by cases e1⟩,?_,?_⟩
  ·cases d <;> exact⟨by decide,λx hx=>by cases hx⟩
  ·cases d <;> exact λx hx=>by cases hx
 refine fH (n:=m) (λi σ H'=>∃(u bh:Addr) (ws:List Wk) (hh:Hd),(∃o7 o8 o9,σ=[some (.ref p),some (.ref b),some (.int d),some (.int m),some (.bl si),some (.ref u),some (.ref bh),o7,o8,o9])/\bo p H H'/\bN d H' u ws/\ws.length<=i/\cU K H' bh hh)
  ⟨u0,b,[],h,⟨none,none,none,rfl⟩,g0,p0,T7 _,hH.same s0⟩ ?_ ?_
 ·rintro i σ H' hi ⟨u,bh,ws,hh,⟨o7,o8,o9,rfl⟩,g,hp,hl,OQ⟩
  refine ak ⟨_,rfl,_,rfl,_,rfl,_,rfl,_,rfl,p,bh,hh,d,si,rfl,g.cf,OQ,M8,λwa x H1 g1 hx=>⟨dP,λt1 ht1=>?_⟩⟩
  have k1:=aE.grow g.cf g1
  have hp1:=hp.keep k1
  obtain⟨bs,hb⟩:=hp1.pp
  have sT:=aj ht1 (.tup [.ref wa])
  refine⟨u,t1,_,_,rfl,rfl,sT _ _ hb.tup,ag,?_,λv H2 s2 hv=>ak ?_⟩
  ·rw [Ua,hb.len]
   exact T8 (show ws.length+1<=20 by omega) (by decide)
  have s12:=sT.trans s2
  have Eo:=(g.trans g1)
  have g2:=Eo.trans (bo.same Eo.cf s12)
  have k2:=aE.of s12
  have hb2:bO (dj d) H2 u bs ws:=hb.keep k2 λ_ _ z=>z.keep k2
  have hx2:nY d H2 wa x:=⟨hx.wk.keep k2,hx.ok,hx.dr,hx.pm,hx.br⟩
  have hp2:bN d H2 v (ws++[x]):=bN.snoc hb2 hp1.ok hp1.dr hx2 (by omega) (by rw [hv,Uc]; rfl)
  have hH2:=hH.grow hP g2
  have Ri:=OQ.grow g.cf (g1.trans (bo.same Eo.cf s12))
  have Pk:=s12
  clear hb2 hx2 k2 s12 sT hb hp1 k1
  dsimp only
  have hq2:=hp2.le (m:=2) (by omega)
  refine⟨_,rfl,_,rfl,b,v,h,ws++[x],rfl,⟨hH2.tup,hq2.pp,hq2.ok,hq2.dr,hH2.few⟩,by decide,B8,λt3 H3 s3 hR=>ak ?_⟩
  have g3:=g2.trans (bo.same g2.cf s3)
  have hp3:=hp2.keep (aE.of s3)
  have hh3:=Ri.same s3
  have hl3:(ws++[x]).length<=i+1:=by rw [Ub]; exact Nat.succ_le_succ hl
  dsimp only
  cases er:kg 2 h (ws++[x])with
  | ok h' f' =>
   rw [er]at hR
   obtain⟨a1,a2,r1,r2,r3⟩:=hR
   refine⟨_,rfl,t3,_,0,_,rfl,rfl,aH.of r1,au (j:=0) rfl,rfl,_,rfl,?_⟩
   rw [bM,T_ rfl]
   refine bZ (bZ ⟨_,rfl,ak ⟨_,rfl,_,rfl,_,rfl,t3,_,rfl,r1,λt4 H4 s4 A3=>⟨_,rfl,t3,_,0,_,rfl,rfl,aH.of (s4 _ _ r1),au (j:=0) rfl,rfl,.inr ⟨_,rfl,t4,1,[.ref a1],rfl,?_⟩⟩⟩⟩)
   refine⟨by rw [bM,T_ rfl]; rfl,aH.of A3,by simp,.inr ⟨rfl,_,rfl,dP,λt5 O6=>?_⟩⟩
   have s5:=aj O6 (.tup [.ref bh])
   refine⟨t4,t5,_,_,rfl,rfl,s5 _ _ A3,ag,cJ,λt6 H6 s6 Ho=>⟨t6,_,0,.ref a1,rfl,rfl,aH.of Ho,rfl,ak ?_⟩⟩
   have JV:=(s4.trans s5).trans s6
   obtain⟨z1,z2⟩:=DK hH2.few hH2.pos hq2.dr er
   exact⟨v,a1,ws++[x],h',⟨_,_,_,rfl⟩,g3.trans (bo.same g3.cf JV),hp3.keep (aE.of JV),hl3,⟨JV _ _ r2,z1,z2⟩⟩
  | no pl sl =>
   rw [er]at hR
   obtain⟨a1,r1,r2⟩:=hR
   refine⟨_,rfl,t3,_,0,_,rfl,rfl,aH.of r1,au (j:=0) rfl,rfl,_,rfl,?_⟩
   rw [bM,T9 (by decide +kernel)]
   refine bA ⟨_,rfl,p,_,rfl,g3.cf,by decide,by decide,λe4 H4 g4 a4 b4=>⟨rfl,_,rfl,?_⟩⟩
   have K9:=g3.trans g4
   have k4:=aE.grow g3.cf g4
   have r1:=k4 _ _ r1
   have Th:=hp3.keep k4
   have QN:=hh3.grow g3.cf g4
   refine cH (λ_=>⟨_,rfl,ak ⟨_,rfl,_,rfl,_,rfl,t3,_,rfl,r1,λt4 H4 s4 A3=>⟨_,rfl,t3,_,0,_,rfl,rfl,aH.of (s4 _ _ r1),au (j:=0) rfl,rfl,.inr ⟨_,rfl,t4,0,[.ref a1],rfl,?_⟩⟩⟩⟩) (λ_=>aG ?_)
   ·refine⟨by rw [bM,T9 (by decide +kernel)]; rfl,aH.of A3,by simp,.inl ⟨rfl,λt7 Kl=>⟨_,rfl,dP,λt5 O6=>?_⟩⟩⟩
    have s7:=aj Kl (.tup [])
    have s5:=aj O6 (.tup [.ref bh])
    refine⟨t7,t5,_,_,rfl,rfl,s5 _ _ ag,ag,dP,λt6 H6 s6 Ho=>⟨t6,_,0,.ref bh,rfl,rfl,aH.of Ho,rfl,ak ?_⟩⟩
    have JV:=((s4.trans s7).trans s5).trans s6
    exact⟨v,bh,ws++[x],hh,⟨_,_,_,rfl⟩,K9.trans (bo.same K9.cf JV),Th.keep (aE.of JV),hl3,QN.same JV⟩
   ·exact⟨u,bh,ws,hh,⟨_,_,_,rfl⟩,K9,(hp.keep (aE.grow g.cf (g1.trans (bo.same Eo.cf (Pk.trans s3))))).keep k4,Nat.le_succ_of_le hl,QN⟩
 ·rintro σ H' ⟨u,bh,ws,hh,⟨o7,o8,o9,rfl⟩,g,hp,hl,OQ⟩
  exact⟨_,rfl,q u ws H' g hp hl⟩
theorem L5{vs:List V}{b c:V}:i6 (vs++[b,c]) (-2)=some b:=by
 unfold i6
 have:vU (vs++[b,c]).length (-2)=some vs.length:=by
  unfold vU
  rw [Ub]
  simp
  omega
 rw [this]
 show(vs++[b,c])[vs.length]? = _
 rw [Uw (T7 _),Nat.sub_self]
 rfl
theorem LU{vs:List V}{b c:V}:i6 (vs++[b,c]) (-1)=some c:=by
 unfold i6
 have:vU (vs++[b,c]).length (-1)=some (vs.length+1):=by
  unfold vU
  rw [Ub]
  simp
  omega
 rw [this]
 show(vs++[b,c])[vs.length+1]? = _
 rw [Uw (Nat.le_succ _),Nat.succ_sub (T7 _),Nat.sub_self]
 rfl
def nv:Nat->Sp
 | 0=>λ_ _ _ _=>False
 | n+1=>λvs H Q _=>∃(p:Addr) (ws:List Wk),vs=[.ref p]/\jf n H p ws/\∀(c:Int) (H':Hp),aM H H'->(ws=[]->c=0)->Q (.int c) H'
abbrev gw:Stmt:=top 82
theorem dI:ay ["_law_pipe_here","_law_many_here","_law_worker_here"] ["_law_pipe_here"] (ar gw):=fs
theorem ou{n L:Nat}(F:FA K mg "_law_many" gw)
  (gz:bc bf P w K mg base L "_law_many" ["_law_pipe_here"] (nv n)) :
  bc bf P w K mg base (L+1) "_law_many" ["_law_pipe_here"] (nv (n+1)):=by
 refine F.ok dI λf cdv A outer s H vs Q E hr h=>?_
 obtain⟨p,ws,rfl,hp,q⟩:=h
 refine⟨_,(aq (aL (i:=1) dI.nd rfl (Or.inl rfl) ai)
   (aq (gF PassesOwn.never rfl (cI (pv 0)) (bT (i:=2) dI.nd rfl (Or.inl rfl))
    (aq (aL (i:=1) dI.nd rfl (Or.inl rfl) (aF cV (pv 1) ai))
     (bK (dv (dc cp (az K (pv 2) ai) (aQ (ae ao (ae ao ah))) rfl)
      (bK (aL (i:=1) dI.nd rfl (Or.inl rfl) (aF cV (aF cV (pv 1) (ax gz hr (ae (az K (pv 2) (rm lM ai)) ah))) (ax gz hr (ae (az K (pv 2) (rm lM ai)) ah)))))
      b9))))
   (av (pv 1)))),?_⟩
 obtain⟨bs,hb⟩:=hp
 refine ak ⟨_,rfl,p,rfl,⟨_,aH.of hb.tup⟩,?_⟩
 refine Gp (xs:=bs.map V.ref) (λi σ H'=>∃c:Int,(∃o2,σ=[some (.ref p),some (.int c),o2])/\aM H H'/\(i=0->c=0)) ?_ ?_ ?_ ?_
 ·exact⟨0,⟨none,rfl⟩,aM.refl _,λ_=>rfl⟩
 ·rintro i σ H' _ ⟨c,_,s,_⟩
  exact aH.of (s _ _ hb.tup)
 ·rintro i v σ H' hv ⟨c,⟨o2,rfl⟩,s,_⟩
  obtain⟨a,x,rfl,ex,hx⟩:=hb.get hv
  refine ak ⟨_,rfl,_,_,rfl,rfl,ak ?_⟩
  dsimp only
  have hx1:=hx.keep (aE.of s)
  obtain⟨xs,hxs⟩:=hx1.first
  refine⟨_,rfl,a,_,0,_,rfl,rfl,aH.of hxs,au (j:=0) rfl,cJ,λR hR=>⟨R,DH,rfl,.inl (a_.of ag),rfl,rfl,_,rfl,?_⟩⟩
  have sR:=s.trans (aj hR (.lst [V.str "both",.str "meet"]))
  revert sR
  generalize upd H' R (.lst [V.str "both",.str "meet"])=H1
  intro sR
  cases hbr:bX x with
  | false=>exact sd (yN.trans hbr) (aG ⟨_,⟨_,rfl⟩,sR,λz=>by cases z⟩)
  | true =>
   refine BR (yN.trans hbr) ?_
   cases n with
   | zero=>rw [IQ hx]at hbr; cases hbr
   | succ n =>
    obtain⟨vs,b,e,p1,p2,h1,h2,h3,h4⟩:=Bk hx hbr
    refine⟨_,rfl,_,rfl,_,rfl,a,_,_,_,rfl,rfl,aH.of (sR _ _ h1),L5,b,p1,rfl,h3.keep (aE.of sR),λc1 H2 s2 _=>⟨_,_,rfl,rfl,?_⟩⟩
    have KR:=sR.trans s2
    refine⟨_,rfl,_,rfl,a,_,_,_,rfl,rfl,aH.of (KR _ _ h1),LU,e,p2,rfl,h4.keep (aE.of KR),λc2 H3 s3 _=>⟨_,_,rfl,rfl,ak ⟨_,⟨_,rfl⟩,KR.trans s3,λz=>by cases z⟩⟩⟩
 ·rintro σ H' ⟨c,⟨o2,rfl⟩,s,hc⟩
  refine⟨_,rfl,q c H' s λz=>hc ?_⟩
  rw [Ua,hb.len,z]
  rfl
theorem Ea{L:Nat}(F:FA K mg "_law_many" gw):bc bf P w K mg base (L+1) "_law_many" ["_law_pipe_here"] (nv 0) :=
 F.ok dI λ_ _ _ _ _ _ _ _ _ _ h=>False.elim h
theorem BD{L:Nat}(F:FA K mg "_law_pipe" gu):bc bf P w K mg base (L+1) "_law_pipe" ["_law_pot_here","_law_head","_law_deep","_law_many_here","_law_simple"] (lq K 0) :=
 F.ok cG λ_ _ _ _ _ _ _ _ _ _ h=>False.elim h
theorem Cw{xs:List V}(h:xs≠[]):gb xs none (some (-1))=xs.dropLast:=by
 have h1:1<=xs.length:=by cases xs with | nil=>exact absurd rfl h | cons _ _=>simp
 have e:HT.dH xs.length xs.length (some (-1))=xs.length-1:=by
  show(if(-1:Int)<0 then((-1:Int)+(xs.length:Int)).toNat else min (-1:Int).toNat xs.length)=_
  rw [if_pos (by decide)]
  omega
 unfold gb
 rw [e,HT.pB,Nat.sub_zero,List.drop_zero,←List.dropLast_eq_take]
theorem bN.init{n:Nat}{H:Hp}{p u:Addr}{bs:List Addr}{ws:List Wk}(hI:bO (dj n) H p bs ws)(ho:ud n ws)(hd:ra n ws)(hu:H u=some (.tup (bs.map V.ref).dropLast)):bN n H u ws.dropLast:=by
 refine⟨⟨bs.dropLast,by rw [hu,List.map_dropLast],by rw [List.length_dropLast,List.length_dropLast,hI.len],λi b y e1 e2=>?_⟩,?_,?_⟩
 ·rw [List.getElem?_dropLast]at e1 e2
  split at e1
  ·split at e2
   ·exact hI.at_ i b y e1 e2
   ·cases e2
  ·cases e1
 ·have hl:ws.dropLast.length<=9:=by rw [List.length_dropLast]; have:=ho.len; omega
  cases n with
  | zero=>exact⟨hl,λy hy=>ho.2 y (List.dropLast_subset _ hy)⟩
  | succ n=>exact⟨hl,λy hy=>ho.2 y (List.dropLast_subset _ hy)⟩
 ·cases n with
  | zero=>exact λy hy=>hd y (List.dropLast_subset _ hy)
  | succ n=>exact λy hy=>hd y (List.dropLast_subset _ hy)
def ze(K:UJ):Sp:=λvs H Q _=>∃(p:Addr),vs=[.ref p]/\dh H p/\∀(t b u:Addr) (h:Hd) (ws:List Wk) (H':Hp),bo p H H'->H' t=some (.tup [.ref b,.ref u])->cU K H' b h->bN 2 H' u ws->Q (.ref t) H'
abbrev iU:Stmt:=top 83
theorem dW:ay ["_law_pot_here","_law_sorts_here","_law_head","_law_pipe_here"] ["_law_pot_here"] (ar iU):=fs
theorem C0{L Lm:Nat}(h5:1<=L)(TY:Lm<=L)(B:jJ mg)(B2:iR mg)(F:FA K mg "_law_drawn" iU)
  (bu:bc bf P w K mg base 1 "_law_draw" ["_law_pot_here","_law_many_here"] dm)
  (gv:bc bf P w K mg base L "_law_pipe" ["_law_pot_here","_law_head","_law_deep","_law_many_here","_law_simple"] (lq K 3))
  (gz:bc bf P w K mg base Lm "_law_many" ["_law_pipe_here"] (nv 3)) :
  bc bf P w K mg base (L+1) "_law_drawn" ["_law_pot_here"] (ze K):=by
 refine F.ok dW λf cdv A outer s H vs Q E hr h=>?_
 obtain⟨p,rfl,hP,q⟩:=h
 refine⟨_,(aq (j7 (i:=1) (N':=["_law_k","_law_pot_here"]) (src:=[none,some 0]) dW.nd rfl (Or.inl rfl) rfl rfl (ba.jE (by kernel_rfl)) (dk rfl B.range (ae (aF cV ai (ax bu hr (ae (pv 0) (ae ai ah)))) ah)) (λcl C s H fp=>(el (i:=0))) (λcl C s H fp=>aX) (te:=(gB (xJ K) (x5 (bp (tC (.str "n")) (bp (tC (.str "w")) (bp (tC (.str "n")) (bp (tC (.str "w")) (bp (tC (.str "n")) (bp (tC (.str "w")) (bp (tC (.str "t")) fz)))))))) (iW dm [] E0 (bp (bx 1) (bp (tC (.int 7)) fz))))) (λcl C s H fp=>(bj K (aQ (ae ao (ae ao (ae ao (ae ao (ae ao (ae ao (ae ao ah)))))))) (ax (hg:=xP) bu hr (ae (yl 1) (ae ai ah))))))
   (aq (aL (i:=2) dW.nd rfl (Or.inl rfl) (aV bB rfl B.tuple PyProof.Rows.boot_tuple (ae (aF pk (pv 1) (aF xM (aF xM (aQ (ae ao ah)) (aV cz rfl B2.int PyProof.Rows.boot_int (ae (bU aP (ax bu hr (ae (pv 0) (ae ai ah))) ai) ah))) ai)) ah)))
   (aq (aL (i:=3) dW.nd rfl (Or.inl rfl) (ax gv hr (ae (pv 0) (ae (pv 2) (ae ai (ae (bj K (aQ (ae (ax bu hr (ae (pv 0) (ae ai ah))) (ae (ax bu hr (ae (pv 0) (ae ai ah))) ah))) (ax bu hr (ae (pv 0) (ae ai ah)))) (ae fQ ah)))))))
   (aq (Ba PassesOwn.never (aW il (ax gz hr (ae (pv 3) ah)) ai)
    (bK (aL (i:=3) dW.nd rfl (Or.inl rfl) (cu c8 (pv 3) dy (cA (rm lM ai))))))
   (av (aJ (ae (pv 2) (ae (pv 3) ah)))))))),?_⟩
 have g0:=bo.refl hP
 refine⟨_,rfl,p,_,rfl,hP,by decide,by decide,λe1 H1 g1 a1 b1=>⟨_,_,rfl,rfl,?_⟩⟩
 refine⟨_,rfl,(jQ (by omega) (by omega)).1,(jQ (by omega) (by omega)).2,λDl hD=>?_⟩
 have nD:=g1.ne hD
 refine iF (n:=(1+e1).toNat) (λi σ ys H'=>(∃o,σ=[o,some (.ref p)])/\(∃ns:List Str,ys=ns.map V.str/\ns.length=i)/\H' Dl=some (.lst ys)/\bo p H H')
  ⟨⟨none,rfl⟩,⟨[],rfl,rfl⟩,ag,g1.new hD⟩ ?_ ?_ ?_ ?_
 ·rintro i σ ys H' _ ⟨_,⟨ns,rfl,rfl⟩,h,_⟩
  exact⟨h,by rw [Ua]; exact T7 _⟩
 ·exact T8 (show(1+e1).toNat<=10 by omega) (by decide)
 ·rintro i σ ys H' hi ⟨⟨o,rfl⟩,⟨ns,rfl,rfl⟩,h,g⟩
  refine⟨Oo,λR hR=>?_⟩
  have gr:=g.new (o:=.lst [V.str "n",.str "w",.str "n",.str "w",.str "n",.str "w",.str "t"]) hR
  refine⟨_,rfl,p,_,rfl,gr.cf,by decide,by decide,λe2 H2 g2 a2 b2=>?_⟩
  have hk:=g2.keep R _ (g.ne hR) ag
  have hk2:=g2.keep Dl _ nD ((aj hR _) _ _ h)
  have hz:∃z:Str,i6 [V.str "n",.str "w",.str "n",.str "w",.str "n",.str "w",.str "t"] e2=some (.str z):=by
   have:e2=0\/e2=1\/e2=2\/e2=3\/e2=4\/e2=5\/e2=6:=by omega
   rcases this with z | z | z | z | z | z | z <;> subst z <;> exact⟨_,rfl⟩
  obtain⟨z,hz⟩:=hz
  refine⟨R,_,_,_,rfl,rfl,a_.of hk,hz,hk2,⟨_,rfl⟩,⟨ns++[z],by rw [Uc]; rfl,by rw [Ub]; rfl⟩,ag,?_⟩
  exact g1.put hD nD (gr.trans g2)
 ·rintro σ ys H' ⟨_,⟨ns,rfl,hl⟩,h,g⟩
  refine ak ?_
  dsimp only
  refine⟨_,rfl,dP,λR hR=>?_⟩
  have nR:=g.ne hR
  have gR:=g.new (o:=.lst [V.str "w"]) hR
  refine⟨_,rfl,p,_,rfl,gR.cf,by decide,by decide,λe2 H2 g2 a2 b2=>⟨rfl,.inr ⟨_,rfl,?_⟩⟩⟩
  have Qv:=gR.trans g2
  have yE:=g2.keep R _ nR (ag (H:=H') (a:=R) (o:=.lst [V.str "w"]))
  have hD2:=g2.keep Dl _ nD ((aj hR (.lst [V.str "w"])) _ _ h)
  have hH2:∃e:Int,(if decide (V.int e2=V.int 8)=true then(1:Int)else 0)=e/\0<=e/\e<=1/\∃ms:List Str,(List.replicate e.toNat [V.str "w"]).flatten=ms.map V.str/\ms.length<=1:=by
   cases decide (V.int e2=V.int 8)
   ·exact⟨0,rfl,by decide,by decide,[],rfl,by decide⟩
   ·exact⟨1,rfl,by decide,by decide,["w"],rfl,by decide⟩
  obtain⟨e,ee,e0,e1',ms,em,lm⟩:=hH2
  rw [ee]
  have ez:[V.str "w"].length*e.toNat<=sizeLine:=by
   have:e.toNat<=1:=by omega
   exact T8 (Nat.mul_le_mul_left 1 this) (by decide)
  refine⟨R,e,_,rfl,rfl,yE,by omega,by omega,ez,λR3 NZ=>?_⟩
  rw [em]
  have s3:=aj NZ (.lst (ms.map V.str))
  refine⟨R3,2,_,rfl,rfl,ag,by decide,by decide,(by rw [Ua]; exact T8 (Nat.mul_le_mul_right 2 lm) (by decide)),λR4 RQ=>?_⟩
  have Q_:(List.replicate (2:Int).toNat (ms.map V.str)).flatten=(ms++ms).map V.str:=by
   rw [Uc]
   show ms.map V.str++(ms.map V.str++[])=_
   rw [List.append_nil]
  rw [Q_]
  have s4:=aj RQ (.lst ((ms++ms).map V.str))
  refine⟨Dl,R4,_,_,rfl,rfl,s4 _ _ (s3 _ _ hD2),ag,?_,λC hC=>?_⟩
  ·rw [Ua,Ua,Ub]
   exact T8 (show _<=20 by omega) (by decide)
  rw [←Uc]
  have s5:=aj hC (.lst ((ns++(ms++ms)).map V.str))
  refine⟨C,_,rfl,.inl ⟨a_.of ag,λa ha=>ak ?_⟩⟩
  have s6:=aj ha (.tup ((ns++(ms++ms)).map V.str))
  have g6:=Qv.trans (bo.same Qv.cf (((s3.trans s4).trans s5).trans s6))
  have hlen:(ns++(ms++ms)).length=ns.length+(ms.length+ms.length):=by rw [Ub,Ub]
  have hh:cU K (upd (upd (upd (upd H2 R3 (.lst (ms.map V.str))) R4 (.lst ((ms++ms).map V.str))) C (.lst ((ns++(ms++ms)).map V.str))) a (.tup ((ns++(ms++ms)).map V.str))) a (ns++(ms++ms)):=⟨ag,by omega,by omega⟩
  revert g6 hh
  generalize upd (upd (upd (upd H2 R3 (.lst (ms.map V.str))) R4 (.lst ((ms++ms).map V.str))) C (.lst ((ns++(ms++ms)).map V.str))) a (.tup ((ns++(ms++ms)).map V.str))=H6
  generalize ns++(ms++ms)=hd
  intro g6 hh
  dsimp only
  refine⟨_,rfl,_,rfl,?_⟩
  refine⟨_,rfl,p,_,rfl,g6.cf,by decide,by decide,λm1 H7 g7 a7 b7=>?_⟩
  have k7:=g6.trans g7
  refine⟨_,rfl,p,_,rfl,k7.cf,by decide,by decide,λm2 H8 g8 a8 b8=>?_⟩
  have k8:=k7.trans g8
  refine⟨cJ,λR9 Hc=>?_⟩
  have k9:=k8.new (o:=.lst [.int m1,.int m2]) Hc
  refine⟨_,rfl,p,_,rfl,k9.cf,by decide,by decide,λm3 Ad GQ a10 b10=>?_⟩
  have k10:=k9.trans GQ
  have hk:=GQ.keep R9 _ (k8.ne Hc) ag
  have hz:∃z:Nat,i6 [V.int m1,V.int m2] m3=some (.int z)/\z<=9:=by
   have:m3=0\/m3=1:=by omega
   rcases this with z | z <;> subst z
   ·exact⟨m1.toNat,by rw [show((m1.toNat:Nat):Int)=m1 by omega]; rfl,by omega⟩
   ·exact⟨m2.toNat,by rw [show((m2.toNat:Nat):Int)=m2 by omega]; rfl,by omega⟩
  obtain⟨z,hz,z9⟩:=hz
  refine⟨R9,_,_,_,rfl,rfl,a_.of hk,hz,?_⟩
  have L_:=hh.grow g6.cf ((g7.trans g8).trans ((bo.refl k8.cf).new Hc |>.trans GQ))
  refine⟨p,a,hd,2,z,false,rfl,k10.cf,L_,by decide,z9,λu ws NC Nl OT _=>ak ?_⟩
  have k11:=k10.trans Nl
  have NP:=L_.grow k10.cf Nl
  dsimp only
  refine⟨λm σ H'=>∃u ws,σ=[some (.ref p),some (.ref Dl),some (.ref a),some (.ref u)]/\ws.length=m/\bN 2 H' u ws/\cU K H' a hd/\bo p H H',⟨_,u,ws,rfl,rfl,OT,NP,k11⟩,?_⟩
  rintro m σ H' ⟨u,ws,rfl,hm,hp,hh,g⟩
  obtain⟨bs,hb⟩:=hp.pp
  refine⟨_,rfl,u,ws,rfl,⟨bs,hb⟩,λc H7 s7 hc=>?_⟩
  refine⟨_,_,rfl,rfl,_,rfl,?_⟩
  have g7:=g.trans (bo.same g.cf s7)
  have Qk:=hh.same s7
  refine cH (λcc=>?_) (λcc=>?_)
  ·have TU:(20:Int)<c:=by simpa using cc
   have hne:ws≠[]:=λz=>by
    have:=hc z
    omega
   have wl:1<=ws.length:=by cases ws with | nil=>exact absurd rfl hne | cons _ _=>simp
   have Tu:bs.map V.ref≠[]:=λz=>by
    have:=congrArg List.length z
    rw [Ua,hb.len]at this
    exact hne (List.eq_nil_of_length_eq_zero this)
   refine⟨λσ' Iq=>∃m',m'<m/\∃u ws,σ'=[some (.ref p),some (.ref Dl),some (.ref a),some (.ref u)]/\ws.length=m'/\bN 2 Iq u ws/\cU K Iq a hd/\bo p H Iq,λσ' Iq z=>z,?_⟩
   refine⟨_,rfl,_,rfl,_,rfl,u,_,rfl,s7 _ _ hb.tup,λv H8 s8 hv=>ak ?_⟩
   rw [Cw Tu]at hv
   have M9:=s7.trans s8
   have QL:=aE.of M9
   exact⟨ws.length-1,by omega,v,ws.dropLast,rfl,by rw [List.length_dropLast],bN.init (hb.keep QL λ_ _ z=>z.keep QL) hp.ok hp.dr hv,Qk.same s8,g7.trans (bo.same g7.cf s8)⟩
  ·refine⟨_,rfl,_,rfl,cJ,λt ht=>?_⟩
   have sT:=aj ht (.tup [.ref a,.ref u])
   exact q t a u hd ws _ (g7.new ht) ag (Qk.same sT) (hp.keep (aE.of (s7.trans sT)))
theorem uk{X:Cx}{K:UJ}{o:Expr}{ta:TE}{f:Str}{pos:Pos}(e:X.K=K)(he:PE X o ta)(hb:attributeBase o f X.env (eval o X.env)=eval o X.env):PE X (.Attribute o f pos) (Hb K ta f):=by subst e; exact Fu he hb
theorem four{α:Type}{l:List α}(h:l.length=4):∃a b c d,l=[a,b,c,d]:=match l,h with | [a,b,c,d],_=>⟨a,b,c,d,rfl⟩
theorem HU{v1 v2:V}:(Ae v1 v2).lookup ("place" : Str)=some v1:=by rw [ej,if_neg (by decide),ej,if_pos rfl]
theorem J1{v1 v2:V}:(Ae v1 v2).lookup ("why" : Str)=some v2:=by rw [ej,if_pos rfl]
def Mf(K:UJ):List V->Hp->VK->Prop:=λxs H Q=>∃x cv t c b,xs=[x,cv]/\Qt cv c/\(kc K H x t\/∃a C,x=.ref a/\t=.ref C/\NB K H a C)/\PySem.W.kitOne K t c=some b/\Q (.bl b) H
theorem vD{X:Cx}{K:UJ}(e:X.K=K):fk X (.builtin "isinstance") (Mf K):=by subst e; exact vy
structure K3(K:UJ)(mg:Str->Option Value)(C PE:Addr):Prop where
 kp:PySem.W.kitOne K (.ref C) (.ref PE)=some true
 kv:PySem.W.kitOne K (.ref C) (.type "ValueError")=some true
 mP:mg "PipeError"=some (.ref PE)
 mV:mg "ValueError"=none
def Hq(H:Hp)(u:Addr):Res->Prop
 | .ok h _=>∃a,H u=some (.tup [.str "head",.ref a])/\dQ H a h
 | .no p s=>∃a,H u=some (.tup [.str "no",.ref a,.str s])/\H a=some (.tup (p.map V.int))
def G_:Sp:=λvs H Q _=>∃(b p:Addr) (h:Hd) (ws:List Wk),vs=[.ref b,.ref p]/\Ab 2 H b p h ws/\∀(u:Addr) (H':Hp),aM H H'->Hq H' u (kg 2 h ws)->Q (.ref u) H'
abbrev iC:Stmt:=top 84
theorem gQ:ay ["_law_head","_law_pipe_here","_law_found","e"] ["_law_head","_law_pipe_here"] (ar iC):=fs
theorem BE{L:Nat}{C fI PE:Addr}(B:jJ mg)(Cf:IC K mg C fI)(T:K3 K mg C PE)(em:PySem.W.exmOne K (.ref C) (.ref C)=some true)(F:FA K mg "_law_asked" iC)
  (p8:bc (zu P w) P w K mg base L "head_behind" ["head","pipe"] (KL C 2)) :
  bc bf P w K mg base (L+1) "_law_asked" ["_law_head","_law_pipe_here"] G_:=by
 refine F.ok gQ λf cdv A outer s H vs Q E hr h=>?_
 have hu:=iM hr
 obtain⟨b,p,h,ws,rfl,hI,q⟩:=h
 refine⟨_,(aq (Ip (E:=(λCv oa H'=>Cv=.ref C/\∃(e dx pl:Addr) (ps:List Int) (sl:Str),oa=some e/\aM H H'/\H' e=some (xO e C (some dx))/\H' dx=some (xD dx (Ae (.ref pl) (.str sl)))/\H' pl=some (.tup (ps.map V.int))/\kg 2 h ws=.no ps sl)) (i:=3) (L:=s.heap.objs.size) ⟨⟨_,_,rfl,rfl⟩,rfl⟩ gQ.nd rfl rfl rfl Cf.mf (λpins=>(bK (aL (i:=2) gQ.nd rfl (Or.inl rfl) (vG p8 hr rfl y4 (ae (pv 0) (ae (pv 1) ah))))))
    (λe=>(av (eK (PW.pt (kC (ft (aZ (vD (K:=K) rfl) rfl B.isinstance PyProof.Rows.boot_isinstance (ae (pv 3) (ae (Iz rfl T.mP) ah)))) (iG (ft (aZ (vD (K:=K) rfl) rfl B.isinstance PyProof.Rows.boot_isinstance (ae (pv 3) (ae (xl (n:="ValueError") rfl T.mV (by decide +kernel)) ah))))))) (aJ (ae ao (ae (uk (K:=K) rfl (pv 3) rfl) (ae (uk (K:=K) rfl (pv 3) rfl) ah)))) (aJ (ae ao ah))))))
   (av (aJ (ae ao (ae (pv 2) ah))))),?_⟩
 refine⟨?_,?_⟩
 ·refine⟨_,rfl,_,rfl,b,p,h,ws,rfl,⟨hI.hd,hI.six,hI.pp,hI.ok⟩,by decide,B8,?_,?_⟩
  ·intro ps sl er e dx pl H1 s1 z1 z2 z3
   exact⟨rfl,e,dx,pl,ps,sl,rfl,s1,z1,z2,z3,er⟩
  ·intro h' f' er u H1 s1 hu'
   refine ak ⟨_,rfl,cJ,λt ht=>?_⟩
   have st:=aj ht (.tup [.str "head",.ref u])
   refine q t _ (s1.trans st) ?_
   rw [er]
   exact⟨u,ag,st _ _ hu'⟩
 ·rintro σ' C' e od H1 hl he ⟨e1,e',dx,pl,ps,sl,ea,s1,z1,z2,z3,z4⟩
  cases e1
  cases ea
  refine⟨em,?_⟩
  obtain⟨b1,b2,b3,b4,rfl⟩:=four (show σ'.length=4 from hl)
  have xa:NB K H1 e C:=⟨Cf.xc,.inr ⟨dx,_,z1,z2⟩⟩
  refine⟨_,rfl,_,_,_,_,_,rfl,rfl,.inr ⟨e,C,rfl,rfl,xa⟩,T.kp,_,rfl,?_⟩
  refine bZ ⟨_,rfl,_,_,_,_,_,rfl,rfl,.inr ⟨e,C,rfl,rfl,xa⟩,T.kv,_,rfl,?_⟩
  refine bZ ⟨_,rfl,e,C,dx,_,_,rfl,z1,z2,Cf.xc,Cf.np,HU,_,rfl,e,C,dx,_,_,rfl,z1,z2,Cf.xc,Cf.nr,J1,gq,λt ht=>?_⟩
  have st:=aj ht (.tup [.str "no",.ref pl,.str sl])
  refine q t _ (s1.trans st) ?_
  rw [z4]
  exact⟨pl,ag,st _ _ z3⟩
theorem Jd{tc:TT}{a b:TS}{D:Ends}{σ:St}{H:Hp}(Pb:Bool->Hp->Prop)(hc:∀T:Bool->Hp->Prop,(∀c H',Pb c H'->T c H')->tc σ H T)(ha:∀H',Pb true H'->a D σ H')(hb:∀H',Pb false H'->b D σ H'):Hz tc a b D σ H :=
 hc _ λc H' p=>by
  cases c with
  | true=>exact ha H' p
  | false=>exact hb H' p
def zc(K:UJ):Sp:=λvs H Q _=>∃(a:Addr) (ns:List Int),vs=[.ref a]/\a_ K H a (ns.map V.int)/\ns.length<=63/\∀H',Q (.bl true) H'
theorem AE{p:Addr}{H0 H1 H2:Hp}(hp:H0 p=none)(s:aM H0 H1)(g:bo p H1 H2):aM H0 H2:=λb o e=>g.keep b o (aU e hp) (s _ _ e)
theorem gZ{n:Nat}:∀{ds:List D},(∀d∈ds,d.depth<=n)->cw ds<=n
 | [],_=>by rw [cw]; exact Uu _
 | d::ds,h=>by
  rw [cw]
  exact Nat.max_le.mpr ⟨h d UE,gZ λe he=>h e (Uj _ he)⟩
def vv:Res->D
 | .ok h _=>.tup [.str "head",.tup (h.map D.str)]
 | .no p s=>.tup [.str "no",.tup (p.map D.int),.str s]
theorem wN(p:List Int):(D.tup (p.map D.int)).depth<=1:=by
 rw [D.depth]
 have:cw (p.map D.int)<=0:=gZ λd hd=>by
  obtain⟨v,_,rfl⟩:=Up.mp hd
  simp [D.depth]
 omega
theorem AH(p:List Str):(D.tup (p.map D.str)).depth<=1:=by
 rw [D.depth]
 have:cw (p.map D.str)<=0:=gZ λd hd=>by
  obtain⟨v,_,rfl⟩:=Up.mp hd
  simp [D.depth]
 omega
theorem yc(r:Res):(vv r).depth<=2:=by
 cases r with
 | ok h f =>
  unfold vv
  rw [D.depth]
  have:cw [D.str "head",.tup (h.map D.str)]<=1:=gZ λd hd=>by
   simp only [Uq,List.not_mem_nil,or_false]at hd
   rcases hd with rfl | rfl
   ·simp [D.depth]
   ·exact AH h
  omega
 | no p s =>
  unfold vv
  rw [D.depth]
  have:cw [D.str "no",.tup (p.map D.int),.str s]<=1:=gZ λd hd=>by
   simp only [Uq,List.not_mem_nil,or_false]at hd
   rcases hd with rfl | rfl | rfl
   ·simp [D.depth]
   ·exact wN p
   ·simp [D.depth]
  omega
theorem uR{K:UJ}{H:Hp}:∀(p:List Int),bD K H (p.map D.int) (p.map V.int)
 | []=>bD.nil
 | i::p=>bD.cons (yo i) (uR p)
theorem vP{K:UJ}{H:Hp}:∀(p:List Str),bD K H (p.map D.str) (p.map V.str)
 | []=>bD.nil
 | i::p=>bD.cons (gx i) (vP p)
theorem sV{K:UJ}{H:Hp}{u a:Addr}{h:Hd}{f:Fl}(h1:H u=some (.tup [.str "head",.ref a]))(h2:dQ H a h):aY K H (vv (.ok h f)) (.ref u) :=
 iE h1 (.cons (gx _) (.cons (iE h2 (vP h)) .nil))
theorem Hy{K:UJ}{H:Hp}{u a:Addr}{p:List Int}{s:Str}(h1:H u=some (.tup [.str "no",.ref a,.str s]))(h2:H a=some (.tup (p.map V.int))):aY K H (vv (.no p s)) (.ref u) :=
 iE h1 (.cons (gx _) (.cons (iE h2 (uR p)) (.cons (gx _) .nil)))
theorem we{K:UJ}{H:Hp}{u:Addr}{r:Res}(h:Hq H u r):aY K H (vv r) (.ref u):=by
 cases r with
 | ok h' f=>obtain⟨a,h1,h2⟩:=h; exact sV h1 h2
 | no p s=>obtain⟨a,h1,h2⟩:=h; exact Hy h1 h2
abbrev jV:Stmt:=top 85
theorem lJ:ay ["_law_script","_law_k","_law_head","_law_pipe_here","_law_tale","_law_due"] ["_law_script"] (ar jV):=fs
section
variable{P:Program}{w:World}{K:UJ}{mg:Str->Option Value}{base:Heap}
theorem JO{f:Addr}{fd:FuncData}{L:Nat}(B:jJ mg)(B2:iR mg)(F:AZ K "law" "law" jV f fd)
  (wx:bc bf P w K mg base L "_law_pot" ["_law_script","_law_k"] (Gw K))
  (rX:bc bf P w K mg base L "_law_drawn" ["_law_pot_here"] (ze K))
  (dR:bc bf P w K mg base L "_law_judged" ["_law_head","_law_pipe_here"] (yS 2))
  (iO:bc bf P w K mg base L "_law_asked" ["_law_head","_law_pipe_here"] G_) :
  eZ P w K mg base bf (L+1) f fd ["_law_script"] (zc K):=by
 refine F.ok lJ (λvs H Q E h=>?_) (λcdv A outer s H vs Q E hr h=>?_)
 ·obtain⟨a,ns,rfl,_⟩:=h
  rfl
 have hu:=iM hr
 obtain⟨a,ns,rfl,hS,h63,q⟩:=h
 refine⟨_,(aq (gF PassesOwn.never rfl (dk rfl B.range (ae (aF cV ai (aZ (qO rfl) rfl B2.min PyProof.Rows.boot_min (ae ai (ae (aZ bF rfl B.len PySem.boot_len (ae (pv 0) ah)) ah)))) ah)) (bT (i:=1) lJ.nd rfl (Or.inl rfl))
    (aq (pQ (ax rX hr (ae (ax wx hr (ae (pv 0) (ae (pv 1) ah))) ah)) (cB rfl (aA (bT (i:=2) lJ.nd rfl (Or.inl rfl)) (aA (bT (i:=3) lJ.nd rfl (Or.inl rfl)) bS))))
     (aq (aL (i:=4) lJ.nd rfl (Or.inl rfl) (ax dR hr (ae (pv 2) (ae (pv 3) ah))))
     (aq (aL (i:=5) lJ.nd rfl (Or.inl rfl) (eK (aW aP (az K (pv 4) ai) ao) (pv 4) (cu c8 (pv 4) dy (cA ai))))
     (bK (dv (PW.pt (Bo (aW jt (ax iO hr (ae (pv 2) (ae (pv 3) ah))) (pv 5)) (Bo (aW jt (ax iO hr (ae (pv 2) (ae (aJ ah) ah))) (aJ (ae ao (ae (pv 2) ah)))) (DC (aW jt (ax iO hr (ae (pv 2) (ae (pv 3) ah))) (pv 5))))))
      (av fQ)
      b9))))))
   (av fQ)),?_⟩
 have hl:(ns.map V.int).length=ns.length:=Ua _
 have mb:0<=(3:Int)+(if(((ns.map V.int).length:Nat):Int)<14 then(((ns.map V.int).length:Nat):Int)else 14)/\(3:Int)+(if(((ns.map V.int).length:Nat):Int)<14 then(((ns.map V.int).length:Nat):Int)else 14)<=17:=by split <;> omega
 refine⟨_,rfl,a,_,rfl,.inl hS,_,_,rfl,_,_,rfl,rfl,_,rfl,(jQ mb.1 (by omega)).1,(jQ mb.1 (by omega)).2,?_⟩
 refine fH (λi σ H'=>(∃o1 o2 o3 o4 o5,σ=[some (.ref a),o1,o2,o3,o4,o5])/\aM H H') ⟨⟨_,_,_,_,_,rfl⟩,aM.refl _⟩ ?_ ?_
 ·rintro i σ Hi hi ⟨⟨o1,o2,o3,o4,o5,rfl⟩,Qp⟩
  have M5:(i:Int)<=20:=by omega
  refine ak ?_
  dsimp only
  refine⟨_,rfl,_,rfl,a,ns,_,rfl,Qp.seq hS,by omega,by omega,λp H1 hp s1 hP=>?_⟩
  refine⟨p,rfl,hP,λt b u h ws H2 g2 ht hH hp2=>?_⟩
  have KR:=Qp.trans (AE hp s1 g2)
  refine⟨t,_,rfl,aH.of ht,rfl,_,_,rfl,ak ⟨_,_,rfl,ak ⟨rfl,?_⟩⟩⟩
  dsimp only
  refine⟨_,rfl,_,rfl,b,u,h,ws,rfl,⟨hH.tup,hp2.pp,hp2.ok,hp2.dr,hH.few⟩,by decide,B8,λv H3 s3 hR=>ak ?_⟩
  have GJ:=KR.trans s3
  have Jf:=hH.same s3
  have hp3:=hp2.keep (aE.of s3)
  dsimp only
  refine kQ (λσ H4=>∃du,(∃o1,σ=[some (.ref a),o1,some (.ref b),some (.ref u),some (.ref v),some (.ref du)])/\aM H3 H4/\aY K H4 (vv (kg 2 h ws)) (.ref du)) (λT hT=>?_) ?_
  ·cases er:kg 2 h ws with
   | ok h' f' =>
    rw [er]at hR hT
    obtain⟨a1,a2,r1,r2,r3⟩:=hR
    refine⟨_,rfl,v,_,0,_,rfl,rfl,aH.of r1,au (j:=0) rfl,rfl,_,rfl,?_⟩
    rw [bM,T9 (by decide +kernel)]
    refine bA ⟨_,rfl,_,rfl,v,_,rfl,r1,λw4 H4 s4 Sb=>ak (hT _ _ ⟨w4,⟨_,rfl⟩,s4,sV Sb (s4 _ _ r2)⟩)⟩
   | no pl sl =>
    rw [er]at hR hT
    obtain⟨a1,r1,r2⟩:=hR
    refine⟨_,rfl,v,_,0,_,rfl,rfl,aH.of r1,au (j:=0) rfl,rfl,_,rfl,?_⟩
    rw [bM,T_ rfl]
    exact bZ ⟨_,rfl,ak (hT _ _ ⟨v,⟨_,rfl⟩,aM.refl _,Hy r1 r2⟩)⟩
  ·rintro σ H4 ⟨du,⟨o1,rfl⟩,s4,hdu⟩
   have Rw:=GJ.trans s4
   have IJ:∀r:Res,(A.deeper (PyProof.Rows.envOfC "law" (ar jV) s.heap.objs.size f cdv)).units+(vv r).depth<cLine:=λr=>Ud (Nat.add_le_add_left (T8 (yc r) (by decide:2<=8)) _) hu
   refine Jd (λb H'=>b=false/\aM H4 H') (λT hT=>?_) (λH' z=>absurd z.1 (by decide)) (λH' z=>⟨⟨_,_,_,_,_,rfl⟩,Rw.trans z.2⟩)
   have ju:∀{H5},aM H4 H5->Ab 2 H5 b u h ws:=λs5=>by
    have k:=hp3.keep (aE.of (s4.trans s5))
    exact⟨(Jf.same (s4.trans s5)).tup,k.pp,k.ok,k.dr,Jf.few⟩
   refine⟨_,rfl,_,rfl,b,u,h,ws,rfl,ju (aM.refl _),λt1 H5 s5 ht1=>⟨_,rfl,_,_,we ht1,hdu.same s5,IJ _,_,rfl,?_⟩⟩
   rw [jq]
   refine bA ⟨_,rfl,xy,λe0 Q5=>?_⟩
   have s6:=s5.trans (aj Q5 (.tup []))
   have hp0:Ab 2 (upd H5 e0 (.tup [])) b e0 h []:=⟨(Jf.same (s4.trans s6)).tup,⟨[],ag,rfl,λi a x e1 e2=>(by cases e1)⟩,⟨by decide,λx hx=>(by cases hx)⟩,λx hx=>(by cases hx),Jf.few⟩
   refine⟨b,e0,h,[],rfl,hp0,λt2 H7 s7 Dn=>⟨_,rfl,cJ,λt3 Ee=>?_⟩⟩
   have sT:=aj Ee (.tup [.str "head",.ref b])
   have SJ:=s6.trans s7
   have qt:=SJ.trans sT
   refine⟨_,_,(we Dn).same sT,sV (f:=f0) ag (Jf.same (s4.trans qt)).tup,IJ _,_,rfl,?_⟩
   have e0':kg 2 h []=.ok h f0:=rfl
   rw [e0',jq]
   refine bA ⟨_,rfl,_,rfl,b,u,h,ws,rfl,ju qt,λt4 H9 s9 A3=>⟨_,rfl,_,_,we A3,hdu.same (qt.trans s9),IJ _,_,rfl,?_⟩⟩
   rw [jq]
   exact hT _ _ ⟨rfl,qt.trans s9⟩
 ·rintro σ H' _
  exact q H'
end
def Dd(K:UJ)(C PE:Addr):Bool:=(match PySem.W.clsIn K C with | some cd=>cd.mro == .ref C :: .ref PE::AD&&cd.hasDict | none=>false)&&PySem.W.mroIn K C (.type "object")==some true &&
 PySem.W.findIn K (.ref C) "__setattr__"==some (some (.builtin "object.__setattr__"))&&PySem.W.findIn K (.ref C) "__getattribute__"==some (some (.builtin "BaseException.__getattribute__"))&&PySem.W.findIn K (.ref C) "__getattr__"==some none&&PySem.W.mroIn K C (.type "BaseException")==some true&&PySem.W.findIn K (.ref C) "__class__"==some (some (.builtin "object.__class__"))
theorem Ff{K:UJ}{C PE:Addr}(h:Dd K C PE=true)(cg:PySem.W.specialIn K (.builtin "object.__class__") "__get__"=some (some (.builtin "getset_descriptor.__get__")))(ct:PySem.W.takesIn K (.builtin "object.__class__")=some true):jl K C:=by
 unfold Dd at h
 simp only [UH,beq_iff_eq]at h
 obtain⟨⟨⟨⟨⟨⟨h1,h2⟩,h3⟩,h4⟩,h6⟩,h7⟩,h5⟩:=h
 split at h1
 ·rename_i cd e
  simp only [UH,beq_iff_eq]at h1
  exact⟨⟨cd,PE,e,h1.1,h1.2⟩,h2,h3,h4,h6,h7,h5,cg,ct⟩
 ·cases h1
def kH(K:UJ)(d:Addr)(key:Str)(f:Addr):Bool:=match K.lookup d with
 | some o=>o.cls == .type "dict"&&o.dict==none&&o.slots.isEmpty&&(match o.data with
  | .dict es _=>es.all (λe=>isExactStrKey e.key)&&(match es.findIdx? (λe=>e.key.isStr key)with
   | some i=>(match es[i]? with
    | some e=>(match e.key,e.val with
     | .str k _,.ref g=>k==key&&g==f
     | _,_=>false)
    | none=>false)
   | none=>false)
  | _=>false)
 | none=>false
theorem cN{K:UJ}{d:Addr}{key:Str}{f:Addr}(h:kH K d key f=true):dA K d key f:=by
 unfold kH at h
 split at h
 ·rename_i o e
  obtain⟨c,di,dt,sl⟩:=o
  simp only [UH,beq_iff_eq]at h
  obtain⟨⟨⟨h1,h2⟩,h3⟩,h4⟩:=h
  subst h1 h2
  have h3':sl = #[]:=by simpa using h3
  subst h3'
  split at h4
  ·rename_i es ep
   simp only [UH]at h4
   obtain⟨h5,h6⟩:=h4
   split at h6
   ·rename_i i ei
    split at h6
    ·rename_i en RI
     obtain⟨x,k,v⟩:=en
     split at h6
     ·rename_i k' t g e1 e2
      have e1':k=.str k' t:=e1
      have e2':v=.ref g:=e2
      subst e1' e2'
      simp only [UH,beq_iff_eq]at h6
      obtain⟨h7,h8⟩:=h6
      subst h7 h8
      exact⟨es,ep,i,x,t,e,h5,ei,RI⟩
     ·cases h6
    ·cases h6
   ·cases h6
  ·cases h4
 ·cases h
def xp(K:UJ)(d:Addr)(key:Str):Bool:=!(d==sysModules)&&match K.lookup d with
 | some o=>o.cls == .type "dict"&&o.dict==none&&o.slots.isEmpty&&(match o.data with
  | .dict es _=>es.all (λe=>isExactStrKey e.key)&&(es.findIdx? (λe=>e.key.isStr key)).isNone
  | _=>false)
 | none=>false
theorem ip{K:UJ}{d:Addr}{key:Str}(h:xp K d key=true):jd K d key:=by
 unfold xp at h
 simp only [UH,Bool.not_eq_true']at h
 obtain⟨h0,h⟩:=h
 refine⟨h0,?_⟩
 split at h
 ·rename_i o e
  obtain⟨c,di,dt,sl⟩:=o
  simp only [UH,beq_iff_eq]at h
  obtain⟨⟨⟨h1,h2⟩,h3⟩,h4⟩:=h
  subst h1 h2
  have h3':sl = #[]:=by simpa using h3
  subst h3'
  split at h4
  ·rename_i es ep
   simp only [UH]at h4
   exact⟨es,ep,e,h4.1,Option.isNone_iff_eq_none.mp h4.2⟩
  ·cases h4
 ·cases h
theorem JK{C:Addr}{L:Nat}(F:FA K mg "go_through" fA):bc (zu P w) P w K mg base (L+1) "go_through" ["pipe","begun","prefix","found"] (yK C 0) :=
 F.Kh bR λ_ _ _ _ _ _ _ _ _ _ h=>False.elim h
theorem EZ{L:Nat}(F:FA K mg "_law_put" iK):bc bf P w K mg base (L+1) "_law_put" ["_law_head","_law_pipe_here","_law_place","_law_flags_here","_law_found"] (sO 0) :=
 F.ok bY λ_ _ _ _ _ _ _ _ _ _ h=>False.elim h
theorem dB{K:UJ}{x:Str}{st:Stmt}{f:Addr}{oc:Value}{od an:Option Addr}{osl:Array (Option Value)}{kV doc pm cdv ct:Value}(a:PySem.W.nsIn K mainGlobals x=some (some (.ref f)):=by k_is)
  (l:K.lookup f=some ⟨oc,od,.func (PySem.W.fnOf x x (dX st) (cR st) (ar st) .none kV doc pm an cdv ct),osl⟩:=by k_is) (c:PySem.W.codeIn K cdv x=true:=by k_is) (k:PySem.W.keepIn K (.ref f)=true:=by k_is):FK K x st f:=Ln a l c k
theorem all_mk{l:PySem.W.OpenLaw}{w:World}{K:UJ}{h:Heap}{mg:Str->Option Value}{fa:Addr}(X:K.In h)(G:h.Ns mainGlobals mg)(hfa:mg "law"=some (.ref fa))
  {CF PE aC aS aT aB aO:Addr} {Sd Sr:Option Addr} {tT tW QB tb2 PQ to2 to3 P6 P2:Tok} {nB nO:Nat} {RP RZ:Array (Option Value)}
  {Ai:Addr} {Lh L7:Option Addr} {Ky:Array (Option Value)} {Mx LP KG La Hl L8:Value}
  {pf wR uW qw uV qh uI qr pK tx wz tV tG tZ nN rM zZ eP eM jT eW ji jW wt qo mJ uG mi l_ pC me ml mq mh md uj A7 jA h_ jU eI i9 jb vL qu qa x4 qe Ac pE rL Bl qG tO lx jR lY kl om lU xx sy x_ qD xV nV qg uf vS s_ rV:Addr}
  (a0:FK K "_law_cell_at" C4 pf:=by exact My.dB)
  (a1:FK K "_law_pot" Jg wR:=by exact My.dB)
  (a2:FK K "_law_draw" B0 uW:=by exact My.dB)
  (a3:FK K "_law_number" tQ qw:=by exact My.dB)
  (a4:FK K "_law_word" Cm uV:=by exact My.dB)
  (a5:FK K "_law_a_sort" xt qh:=by exact My.dB)
  (a6:FK K "_law_cell" wo uI:=by exact My.dB)
  (a7:FK K "_law_column" ub qr:=by exact My.dB)
  (a8:FK K "_law_columns" nQ pK:=by exact My.dB)
  (a9:FK K "_law_state" xH tx:=by exact My.dB)
  (a10:FK K "_law_set" Jn wz:=by exact My.dB)
  (a11:FK K "_law_pairs" wj tV:=by exact My.dB)
  (a12:FK K "_law_order" w8 tG:=by exact My.dB)
  (a13:FK K "_law_moves" tL tZ:=by exact My.dB)
  (a14:FK K "_law_one_row" rW nN:=by exact My.dB)
  (a15:FK K "_law_other" xr rM:=by exact My.dB)
  (a16:FK K "sort_of" l7 zZ:=by exact My.dB)
  (a17:FK K "no_columns" iN eP:=by exact My.dB)
  (a18:FK K "one_column" iV eM:=by exact My.dB)
  (a19:FK K "two_columns" gE jT:=by exact My.dB)
  (a20:FK K "listed_columns" eY eW:=by exact My.dB)
  (a21:FK K "sort_columns" f9 ji:=by exact My.dB)
  (a22:FK K "sum_columns" gK jW:=by exact My.dB)
  (a23:FK K "is_there" j8 wt:=by exact My.dB)
  (a24:FK K "columns_fit" gY qo:=by exact My.dB)
  (a25:FK K "are_same_sort" fw mJ:=by exact My.dB)
  (a26:FK K "cells_fit" jx uG:=by exact My.dB)
  (a27:FK K "keep_fits" i8 mi:=by exact My.dB)
  (a28:FK K "same_fits" jn l_:=by exact My.dB)
  (a29:FK K "sum_fits" j3 pC:=by exact My.dB)
  (a30:FK K "meet_fits" jC me:=by exact My.dB)
  (a31:FK K "both_fits" jB ml:=by exact My.dB)
  (a32:FK K "turn_fits" ja mq:=by exact My.dB)
  (a33:FK K "walk_fits" jz mh:=by exact My.dB)
  (a34:FK K "must_fits" jc md:=by exact My.dB)
  (a35:FK K "sorts_fit" je uj:=by exact My.dB)
  (a36:FK K "picked" oR A7:=by exact My.dB)
  (a37:FK K "head_of_walk" fU jA:=by exact My.dB)
  (a38:FK K "head_of_number" e9 h_:=by exact My.dB)
  (a39:FK K "head_of_cut" gA jU:=by exact My.dB)
  (a40:FK K "head_of_tallied" eE eI:=by exact My.dB)
  (a41:FK K "head_of_meet" fR i9:=by exact My.dB)
  (a42:FK K "head_of_must" fZ jb:=by exact My.dB)
  (a43:FK K "head_told" jv vL:=by exact My.dB)
  (a44:FK K "branches_of" gH qu:=by exact My.dB)
  (a45:FK K "name_passed" gO qa:=by exact My.dB)
  (a46:FK K "rows_fit" ky x4:=by exact My.dB)
  (a47:FK K "makes_loose" gJ qe:=by exact My.dB)
  (a48:FK K "why_not" lX Ac:=by exact My.dB)
  (a49:FK K "known_behind" fY pE:=by exact My.dB)
  (a50:FK K "go_through" fA rL:=by exact My.dB)
  (a51:FK K "survey" oQ Bl:=by exact My.dB)
  (a52:FK K "head_behind" gG qG:=by exact My.dB)
  (a53:FK K "_law_sorts" iw tO:=by exact My.dB)
  (a54:FK K "_law_is_one_row" eA lx:=by exact My.dB)
  (a55:FK K "_law_told_columns" dM jR:=by exact My.dB)
  (a56:FK K "_law_no_column" fb lY:=by exact My.dB)
  (a57:FK K "_law_cells_wrong" cK kl:=by exact My.dB)
  (a58:FK K "_law_no_sort" fN om:=by exact My.dB)
  (a59:FK K "_law_head_next" e8 lU:=by exact My.dB)
  (a60:FK K "_law_why" j5 xx:=by exact My.dB)
  (a61:FK K "_law_flags" iP sy:=by exact My.dB)
  (a62:FK K "_law_put" iK x_:=by exact My.dB)
  (a63:FK K "_law_judged" gI qD:=by exact My.dB)
  (a64:FK K "_law_end" ka xV:=by exact My.dB)
  (NG:FK K "_law_joining" fP nV:=by exact My.dB)
  (N8:FK K "_law_worker" gP qg:=by exact My.dB)
  (MO:FK K "_law_pipe" gu uf:=by exact My.dB)
  (Nu:FK K "_law_many" gw vS:=by exact My.dB)
  (Rm:FK K "_law_drawn" iU s_:=by exact My.dB)
  (RO:FK K "_law_asked" iC rV:=by exact My.dB)
  (LV:PySem.W.nsIn K mainGlobals "len"=some none:=by k_is)
  (K0:PySem.W.nsIn K mainGlobals "max"=some none:=by k_is)
  (MA:PySem.W.nsIn K mainGlobals "abs"=some none:=by k_is)
  (By:PySem.W.nsIn K mainGlobals "divmod"=some none:=by k_is)
  (ED:PySem.W.nsIn K mainGlobals "range"=some none:=by k_is)
  (EF:PySem.W.nsIn K mainGlobals "tuple"=some none:=by k_is)
  (IG:PySem.W.nsIn K mainGlobals "list"=some none:=by k_is)
  (sq:PySem.W.nsIn K mainGlobals "isinstance"=some none:=by k_is)
  (KH:PySem.W.nsIn K mainGlobals "int"=some none:=by k_is)
  (Lb:PySem.W.nsIn K mainGlobals "min"=some none:=by k_is)
  (Md:PySem.W.nsIn K mainGlobals "all"=some none:=by k_is)
  (Bx:PySem.W.nsIn K mainGlobals "sorted"=some none:=by k_is)
  (KS:PySem.W.nsIn K mainGlobals "set"=some none:=by k_is)
  (LY:PySem.W.nsIn K mainGlobals "str"=some none:=by k_is)
  (Mh:PySem.W.nsIn K mainGlobals "any"=some none:=by k_is)
  (LI:PySem.W.nsIn K mainGlobals "zip"=some none:=by k_is)
  (mn:PySem.W.nsIn K mainGlobals "enumerate"=some none:=by k_is)
  (sZ:PySem.W.nsIn K mainGlobals "ValueError"=some none:=by k_is)
  {Cy:Addr} {Jx CY:Option Addr} {JR:Array (Option Value)} {HC DS Dj Bd xq CN:Value}
  (Mz:PySem.W.nsIn K mainGlobals "law"=some (some (.ref Cy)):=by k_is) (KA:K.lookup Cy=some ⟨HC,Jx,.func (PySem.W.fnOf "law" "law" (dX jV) (cR jV) (ar jV) .none DS Dj Bd CY xq CN),JR⟩:=by k_is) (Ld:PySem.W.codeIn K xq "law"=true:=by k_is) (Kx:PySem.W.keepIn K (.ref Cy)=true:=by k_is)
  (Tn:PySem.W.nsIn K mainGlobals "NoPipe"=some (some (.ref CF)):=by k_is)
  (Ti:PySem.W.nsIn K mainGlobals "PipeError"=some (some (.ref PE)):=by k_is)
  (zC:PySem.W.nsIn K mainGlobals "COLUMNS_OF"=some (some (.ref aC)):=by k_is)
  (zS:PySem.W.nsIn K mainGlobals "SORTS_FIT"=some (some (.ref aS)):=by k_is)
  (zT:PySem.W.nsIn K mainGlobals "HEADS_TOLD"=some (some (.ref aT)):=by k_is)
  (zB:PySem.W.nsIn K mainGlobals "BRANCHED"=some (some (.ref aB)):=by k_is)
  (zO:PySem.W.nsIn K mainGlobals "ONE_ROW"=some (some (.ref aO)):=by k_is)
  (QR:PySem.W.nsIn K mainGlobals "TALLY"=some (some (.str "t" tT)):=by k_is)
  (zW:PySem.W.nsIn K mainGlobals "WIDEST_ROW"=some (some (.int 6 tW)):=by k_is)
  (lB:K.lookup aB=some ⟨.type "tuple",Sd,.seq #[.str "both" QB,.str "meet" tb2] nB,RP⟩:=by k_is)
  (lO:K.lookup aO=some ⟨.type "tuple",Sr,.seq #[.str "keep" PQ,.str "same" to2,.str "cut" to3,.str "turn" P6,.str "must" P2] nO,RZ⟩:=by k_is)
  (SE:PySem.W.findIn K (.ref CF) "__init__"=some (some (.ref Ai)):=by k_is)
  (OZ:K.lookup Ai=some ⟨Mx,Lh,.func (PySem.W.fnOf "__init__" "NoPipe.__init__" (dX lN) (cR lN) (ar lN) .none LP KG La L7 Hl L8),Ky⟩:=by k_is)
  (NV:PySem.W.codeIn K Hl "NoPipe.__init__"=true:=by k_is)
  (OU:PySem.W.keepIn K (.ref Ai)=true:=by k_is)
  (RE:PySem.W.keepIn K (.ref CF)=true:=by k_is)
  (QX:PySem.W.isFn K (.ref Ai)=true:=by k_is)
  (Tc:PySem.W.findIn K (.ref CF) "place"=some none:=by k_is)
  (Tp:PySem.W.findIn K (.ref CF) "why"=some none:=by k_is)
  (cg:PySem.W.specialIn K (.builtin "object.__class__") "__get__"=some (some (.builtin "getset_descriptor.__get__")):=by k_is)
  (ct:PySem.W.takesIn K (.builtin "object.__class__")=some true:=by k_is)
  (x0:Dd K CF PE=true:=by kernel_rfl)
  (e0:lI K CF AD "ValueError.__new__" (some (.ref Ai))=true:=by kernel_rfl)
  (em:PySem.W.exmOne K (.ref CF) (.ref CF)=some true:=by kernel_rfl)
  (kp:PySem.W.kitOne K (.ref CF) (.ref PE)=some true:=by kernel_rfl)
  (kv:PySem.W.kitOne K (.ref CF) (.type "ValueError")=some true:=by kernel_rfl)
  (P5:PySem.W.kitOne K (.type "int") (.type "str")=some false:=by kernel_rfl)
  (Ii:kH K aC "keep" eM=true:=by kernel_rfl)
  (Ik:kH K aC "same" jT=true:=by kernel_rfl)
  (KY:kH K aC "cut" eW=true:=by kernel_rfl)
  (J_:kH K aC "turn" eM=true:=by kernel_rfl)
  (IV:kH K aC "must" eM=true:=by kernel_rfl)
  (HN:kH K aC "walk" eM=true:=by kernel_rfl)
  (Ji:kH K aC "sort" ji=true:=by kernel_rfl)
  (EE:kH K aC "apart" eP=true:=by kernel_rfl)
  (Fn:kH K aC "count" eW=true:=by kernel_rfl)
  (LJ:kH K aC "sum" jW=true:=by kernel_rfl)
  (CC:kH K aC "number" eP=true:=by kernel_rfl)
  (FF:kH K aC "first" eP=true:=by kernel_rfl)
  (HF:kH K aC "both" eP=true:=by kernel_rfl)
  (Im:kH K aS "keep" mi=true:=by kernel_rfl)
  (s_same:kH K aS "same" l_=true:=by kernel_rfl)
  (J6:kH K aS "turn" mq=true:=by kernel_rfl)
  (JF:kH K aS "must" md=true:=by kernel_rfl)
  (JC:kH K aS "walk" mh=true:=by kernel_rfl)
  (KN:kH K aS "sum" pC=true:=by kernel_rfl)
  (HH:kH K aS "both" ml=true:=by kernel_rfl)
  (JA:kH K aS "meet" me=true:=by kernel_rfl)
  (HI:xp K aS "cut"=true:=by kernel_rfl)
  (Ew:xp K aS "sort"=true:=by kernel_rfl)
  (BY:xp K aS "apart"=true:=by kernel_rfl)
  (B_:xp K aS "count"=true:=by kernel_rfl)
  (AU:xp K aS "number"=true:=by kernel_rfl)
  (Dp:xp K aS "first"=true:=by kernel_rfl)
  (J5:kH K aT "cut" jU=true:=by kernel_rfl)
  (F3:kH K aT "must" jb=true:=by kernel_rfl)
  (FT:kH K aT "walk" jA=true:=by kernel_rfl)
  (Dz:kH K aT "count" eI=true:=by kernel_rfl)
  (Ju:kH K aT "sum" eI=true:=by kernel_rfl)
  (zX:kH K aT "number" h_=true:=by kernel_rfl)
  (FW:kH K aT "meet" i9=true:=by kernel_rfl)
  (Gi:xp K aT "keep"=true:=by kernel_rfl)
  (Ei:xp K aT "same"=true:=by kernel_rfl)
  (FD:xp K aT "turn"=true:=by kernel_rfl)
  (EY:xp K aT "sort"=true:=by kernel_rfl)
  (DZ:xp K aT "apart"=true:=by kernel_rfl)
  (Dv:xp K aT "first"=true:=by kernel_rfl)
  (FC:xp K aT "both"=true:=by kernel_rfl) :
  ∃fd:FuncData,(∀(s:Shared) (v:Value),BindsTo s fd ⟨[v],[]⟩ [("_law_script",v)])/\∀base:Heap,K.In base->base.Ns mainGlobals mg->eZ l.prog w K mg base bf 23 fa fd ["_law_script"] (zc K):=by
 have F:=λ{x:Str} {st:Stmt} {f:Addr} (a:FK K x st f)=>a.fa X G
 have h:=λ{x:Str} {st:Stmt} {f:Addr} (a:FK K x st f)=>a.h X G
 cases hfa.symm.trans (PySem.W.mg_of X G Mz)
 have Fl:=yf (st:=jV) KA Ld Kx
 have B:jJ mg:=⟨PySem.W.mg_none_of X G LV,PySem.W.mg_none_of X G K0,PySem.W.mg_none_of X G MA,PySem.W.mg_none_of X G By,PySem.W.mg_none_of X G ED,PySem.W.mg_none_of X G EF,PySem.W.mg_none_of X G IG,PySem.W.mg_none_of X G sq⟩
 have B2:iR mg:=⟨PySem.W.mg_none_of X G KH,PySem.W.mg_none_of X G Lb,PySem.W.mg_none_of X G Md,PySem.W.mg_none_of X G Bx,PySem.W.mg_none_of X G KS⟩
 have B3:zv mg:=⟨PySem.W.mg_none_of X G LY,PySem.W.mg_none_of X G Mh,PySem.W.mg_none_of X G LI,PySem.W.mg_none_of X G mn⟩
 have mE:=PySem.W.mg_none_of X G mn
 have mT:=PySem.W.mg_of X G QR
 have mW:=PySem.W.mg_of X G zW
 have mC:=PySem.W.mg_of X G zC
 have Q3:=PySem.W.mg_of X G zS
 have mH:=PySem.W.mg_of X G zT
 have Cb:ER K mg "BRANCHED" aB DH:=⟨PySem.W.mg_of X G zB,λH=>.inr ⟨_,_,_,lB,rfl,rfl,cJ,.cons ⟨QB,rfl⟩ (.cons ⟨tb2,rfl⟩ .nil)⟩⟩
 have Co:ER K mg "ONE_ROW" aO mF:=⟨PySem.W.mg_of X G zO,λH=>.inr ⟨_,_,_,lO,rfl,rfl,r8,.cons ⟨PQ,rfl⟩ (.cons ⟨to2,rfl⟩ (.cons ⟨to3,rfl⟩ (.cons ⟨P6,rfl⟩ (.cons ⟨P2,rfl⟩ .nil))))⟩⟩
 have Cf:IC K mg CF Ai:=⟨Ff x0 cg ct,Tc,Tp,e0,RE,QX,PySem.W.mg_of X G Tn⟩
 have T:K3 K mg CF PE:=⟨kp,kv,PySem.W.mg_of X G Ti,PySem.W.mg_none_of X G sZ⟩
 have KI:=yf (st:=lN) OZ NV OU
 have JX:=KI.binds (ps:=["self","place","why"]) (by intro _ _ _ _ _ _; refine L2.E3 ?_; intro _ _ _; rfl)
 refine⟨PySem.W.fnOf "law" "law" (dX jV) (cR jV) (ar jV) .none DS Dj Bd CY xq CN,λs v=>.of_eq rfl,λbase _ _=>?_⟩
 have g0:=E8 (P:=l.prog) (w:=w) (base:=base) B (F a0)
 have g1:=Ja B (F a1) g0.m
 have g2:=Ge (P:=l.prog) (w:=w) (base:=base) B (F a2)
 have g3:=AJ (F a3) g2.m
 have g4:=FL B (F a4) g2.m
 have g5:=DR B2 (F a5) g2.m
 have g6:=A4 (F a6) g5.m g4.m g3.m
 have g7:=zD B (F a7) g2.m
 have g8:=xU B (F a8) g7.m
 have g9:=BH (F a9) g2.m g4.m
 have GQ:=HP B B2 (F a10) g5.m g2.m g4.m g3.m
 have Nl:=DD B B2 (F a11) g2.m g6.m
 have Ni:=DF B (F a12) g2.m g7.m
 have Q9:=Dt B B2 (F a13) g2.m g9.m g6.m
 have OX:=zU B2 (F a14) g7.m g8.m g2.m GQ.m Nl.m
 have OH:=C7 (F a15) g7.m g9.m Q9.m Ni.m g8.m g2.m
 have O8:=An (P:=l.prog) (w:=w) (base:=base) B B3 P5 (F a16)
 have P9:=Aw (P:=l.prog) (w:=w) (base:=base) (F a17)
 have RS:=Ag (P:=l.prog) (w:=w) (base:=base) (F a18)
 have Rb:=xX (P:=l.prog) (w:=w) (base:=base) (F a19)
 have Q2:=u_ (P:=l.prog) (w:=w) (base:=base) (F a20)
 have Sj:=uN (P:=l.prog) (w:=w) (base:=base) B (F a21)
 have S_:=xQ (P:=l.prog) (w:=w) (base:=base) (F a22)
 have Ss:=C5 (P:=l.prog) (w:=w) (base:=base) B (F a23)
 have Sk:=Aq (aR:=aC) (cN Ii) (cN Ik) (cN KY) (cN J_) (cN IV) (cN HN) (cN Ji) (cN EE) (cN Fn) (cN LJ) (cN CC) (cN FF) (P9.at (h a17)) (RS.at (h a18)) (Rb.at (h a19)) (Q2.at (h a20)) (Sj.at (h a21)) (S_.at (h a22))
 have RL:=λ(n:Nat)=>HE (n:=n) Sk (cN HF) (P9.at (h a17))
 have Rq:=λ(n:Nat)=>Aj (n:=n) B B2 mC (RL n) (F a24) Ss.m
 have QE:=A_ (P:=l.prog) (w:=w) (base:=base) mT (F a25)
 have Oc:=uq B2 mT (F a26) O8.m
 have SD:=λ(n:Nat)=>uK (n:=n) (P:=l.prog) (w:=w) (base:=base) mT (F a27)
 have Se:=λ(n:Nat)=>vF (n:=n) (F a28) QE.m
 have SY:=λ(n:Nat)=>xk (n:=n) (P:=l.prog) (w:=w) (base:=base) (F a29)
 have S6:=λ(n:Nat)=>vp (n:=n) (F a30) QE.m
 have Rh:=λ(n:Nat)=>vK (n:=n) (P:=l.prog) (w:=w) (base:=base) (F a31)
 have RC:=λ(n:Nat)=>vB (n:=n) (F a32) Oc.m
 have RD:=λ(n:Nat)=>uw (n:=n) (F a33) Oc.m
 have K9:=λ(n:Nat)=>uT (n:=n) B (F a34) O8.m Oc.m
 have SR:=λ(n:Nat)=>AW (n:=n) (aS:=aS) (cN Im) (cN s_same) (cN J6) (cN JF) (cN JC) (cN KN) (cN HH) (cN JA) (ip HI) (ip Ew) (ip BY) (ip B_) (ip AU) (ip Dp) ((SD n).at (h a27)) ((Se n).at (h a28)) ((RC n).at (h a32)) ((K9 n).at (h a34)) ((RD n).at (h a33)) ((SY n).at (h a29)) ((Rh n).at (h a31)) ((S6 n).at (h a30))
 have Tv:=λ(n:Nat)=>uZ (n:=n) Q3 (SR n) (F a35)
 have Qx:=zV (P:=l.prog) (w:=w) (base:=base) B (F a36)
 have R6:=λ(n:Nat)=>Bz (n:=n) (P:=l.prog) (w:=w) (base:=base) (F a37)
 have SX:=λ(n:Nat)=>xj (n:=n) (P:=l.prog) (w:=w) (base:=base) mT (F a38)
 have RY:=λ(n:Nat)=>Fe (n:=n) (F a39) Qx.m
 have Rx:=λ(n:Nat)=>BA (n:=n) mT (F a40) Qx.m
 have Sv:=λ(n:Nat)=>Cs (n:=n) (P:=l.prog) (w:=w) (base:=base) (F a41)
 have Rp:=λ(n:Nat)=>C6 (n:=n) B (F a42) O8.m
 have Rf:=λ(n:Nat)=>xg (n:=n) (aT:=aT) (cN J5) (cN F3) (cN FT) (cN Dz) (cN Ju) (cN zX) (cN FW) (ip Gi) (ip Ei) (ip FD) (ip EY) (ip DZ) (ip Dv) (ip FC) ((RY n).at (h a39)) ((Rp n).at (h a42)) ((R6 n).at (h a37)) ((Rx n).at (h a40)) ((SX n).at (h a38)) ((Sv n).at (h a41))
 have Qb:=λ(n:Nat)=>vw (n:=n) mH (Rf n) (F a43)
 have Nb:=λ(n:Nat)=>Il (n:=n) (P:=l.prog) (w:=w) (base:=base) Cb (F a44)
 have Kb:=λ(n:Nat)=>Fi (n:=n) (P:=l.prog) (w:=w) (base:=base) (F a45)
 have Kj:=λ(n:Nat)=>wJ (n:=n) B2 Co (F a46) (Nb n).m
 have J3:=λ(n:Nat)=>Bn (n:=n) B3 mT (F a47) (Kb n).m
 have Ku:=λ(n:Nat)=>AN (n:=n) B mW (F a48) (Rq n).m (Tv n).m (Qb n).m (Kj n).m
 have Pj:=λ(n:Nat)=>AV (n:=n) B B2 B3 (F a49) (Qb n).m (Kb n).m (J3 n).m
 have QK:=BN (P:=l.prog) (w:=w) (base:=base) B B2 B3 P5 (F a53)
 have PZ:=λ(n:Nat)=>DP (n:=n) (P:=l.prog) (w:=w) (base:=base) (F a54)
 have Qh:=λ(n:Nat)=>FN (n:=n) (P:=l.prog) (w:=w) (base:=base) B (F a55)
 have M7:=λ(n:Nat)=>C3 (n:=n) B (F a56) (Qh n).m
 have Ra:=λ(n:Nat)=>z0 (n:=n) B (F a57) QK.m
 have R5:=λ(n:Nat)=>zw (n:=n) B2 (F a58) (Qh n).m (Ra n).m
 have MV:=λ(n:Nat)=>vj (n:=n) B (F a59) QK.m
 have NN:=λ(n:Nat)=>ET (n:=n) B B2 (F a60) (M7 n).m (R5 n).m (MV n).m (PZ n).m
 have Ol:=λ(n:Nat)=>Ds (n:=n) (F a61) (PZ n).m
 have HS:=B4 (P:=l.prog) (w:=w) (base:=base) (mg:=mg) (C:=CF) KI
 have S1:=JK (P:=l.prog) (w:=w) (base:=base) (C:=CF) (L:=4) (F a50)
 have Si:=wg (C:=CF) (n:=0) (L:=0) B mE Cf (F a50) HS JX (Nb 0).m S1.m (Ku 0).m (Pj 0).m
 have go2:=wg (C:=CF) (n:=1) (L:=1) B mE Cf (F a50) HS JX (Nb 1).m Si.m (Ku 1).m (Pj 1).m
 have QU:=wg (C:=CF) (n:=2) (L:=2) B mE Cf (F a50) HS JX (Nb 2).m go2.m (Ku 2).m (Pj 2).m
 have sv:=AR (C:=CF) (n:=2) (L:=2) (F a51) QU.m
 have hb:=p_ (C:=CF) (n:=2) (L:=2) (F a52) sv.m
 have OA:=EZ (P:=l.prog) (w:=w) (base:=base) (L:=4) (F a62)
 have Oe:=ua (n:=0) (L:=0) B B2 B3 mE (F a62) OA.m (NN 0).m (Ol 0).m (MV 0).m
 have put2:=ua (n:=1) (L:=1) B B2 B3 mE (F a62) Oe.m (NN 1).m (Ol 1).m (MV 1).m
 have put3:=ua (n:=2) (L:=2) B B2 B3 mE (F a62) put2.m (NN 2).m (Ol 2).m (MV 2).m
 have ju:=AG (n:=2) (L:=2) (F a63) put3.m
 have en:=J9 (n:=2) (L:=2) (F a64) ju.m
 have Mb:=BD (P:=l.prog) (w:=w) (base:=base) (L:=11) (F MO)
 have KC:=oC (N:=0) (L:=12) (Le:=10) (by decide) (by decide) (by decide) B2 (F NG) g2.m Mb.m g7.m en.m GQ.m
 have LF:=oW (N:=0) (L:=13) (by decide) B B2 (F N8) g2.m OX.m KC.m OH.m
 have Lo:=pI (N:=0) (L:=14) (Lj:=9) (by decide) (by decide) (by decide) B B2 (F MO) LF.m ju.m g2.m
 have KW:=oC (N:=1) (L:=15) (Le:=10) (by decide) (by decide) (by decide) B2 (F NG) g2.m Lo.m g7.m en.m GQ.m
 have LB:=oW (N:=1) (L:=16) (by decide) B B2 (F N8) g2.m OX.m KW.m OH.m
 have pipe2:=pI (N:=1) (L:=17) (Lj:=9) (by decide) (by decide) (by decide) B B2 (F MO) LB.m ju.m g2.m
 have Li:=oC (N:=2) (L:=18) (Le:=10) (by decide) (by decide) (by decide) B2 (F NG) g2.m pipe2.m g7.m en.m GQ.m
 have Mc:=oW (N:=2) (L:=19) (by decide) B B2 (F N8) g2.m OX.m Li.m OH.m
 have LL:=pI (N:=2) (L:=20) (Lj:=9) (by decide) (by decide) (by decide) B B2 (F MO) Mc.m ju.m g2.m
 have LC:=Ea (P:=l.prog) (w:=w) (base:=base) (L:=0) (F Nu)
 have many1:=ou (n:=0) (L:=1) (F Nu) LC.m
 have K7:=ou (n:=1) (L:=2) (F Nu) many1.m
 have Lx:=ou (n:=2) (L:=3) (F Nu) K7.m
 have dr:=C0 (L:=21) (Lm:=4) (by decide) (by decide) B B2 (F Rm) g2.m LL.m Lx.m
 have asked:=BE (L:=10) (C:=CF) (PE:=PE) B Cf T em (F RO) hb.m
 exact JO (L:=22) B B2 Fl g1.m dr.m ju.m asked.m
theorem walk{l:PySem.W.OpenLaw}{q:Program}{loose:List Str}{XP:(Str->Option Value)->Heap->Prop}{YP:World->Heap->Prop}{d:DefRec}{K:Params->UJ}(hn:l.most=some 63)(hdf:d.params.defaults=[])
  (hY:∀(w:World) (h:Heap),YP w h->(K w.params).In h)
  (F:∀(w:World) (mg:Str->Option Value) (fa:Addr) (h:Heap),(K w.params).In h->h.Ns mainGlobals mg->mg d.name=some (.ref fa)->
   ∃fd:FuncData,(∀(s:Shared) (u:Value),BindsTo s fd ⟨[u],[]⟩ [("_law_script",u)])/\∀base:Heap,(K w.params).In base->base.Ns mainGlobals mg->eZ l.prog w (K w.params) mg base bf 23 fa fd ["_law_script"] (zc (K w.params))) :
  PySem.W.WalkO q loose XP YP l.row.toRowW d [] (λf vs=>PySem.call f vs) :=
 L2.Fg (n:=63) (k:=23) (x:="_law_script") (CX:=λ_=>bf) (sp:=λw=>zc (K w.params)) hn (by decide) hdf ⟨rfl,by decide,by decide⟩ hY F (λ_ _ a ns hl _ hS=>⟨a,ns,rfl,hS,hl,λ_=>rfl⟩) λ_ _ _ _ _ z=>z
end My
namespace PySem.W.Fast
def tw5386612873508456981:=True
def tw101541781390866274:=True
def tw10477317324086207902:=True
def tw11013474049760223004:=True
def tw7837814656666327879:=True
def tw8853983855833921372:=True
def tw13593233647055291590:=True
def tw15502873483686719920:=True
def tw13409828189616794876:=True
def tw2174695871024465258:=True
def tw17735912748264792898:=True
def tw12906767909946136348:=True
def tw11636096963868640926:=True
def tw9568787141508033057:=True
def tw9528791161813504831:=True
def tw15922782316856008851:=True
def tw2875997865507712247:=True
def tw1864609589220758911:=True
def tw8638466467500912858:=True
def tw8097768331043027111:=True
def tw11891417856119315598:=True
def tw9088345579154862312:=True
def tw17499019214059852134:=True
def tw5766432430809916366:=True
def tw15520618566824524498:=True
def tw8496090397070758278:=True
def tw3958763984374368399:=True
def tw1247758550506651702:=True
def tw12135081279728645065:=True
def tw10994504370988933599:=True
def tw16474093258115703340:=True
def tw4050188874332901266:=True
def tw15247601837223648947:=True
def tw6608569024995287008:=True
def tw12536390290365109517:=True
def tw2455345437869013704:=True
def tw2509325455236821854:=True
def tw17471806920206863192:=True
def tw5086329827898162194:=True
def tw12572183673026653642:=True
def tw15370771157655927888:=True
def tw3911593808413768188:=True
def tw6908753055165363959:=True
def tw546485295287359719:=True
def tw10794326238241798295:=True
def tw12554619042609349002:=True
def tw7686650973135575546:=True
def tw13431034911089497049:=True
def tw8833976397099611444:=True
def tw12939575291178941301:=True
def tw6403676119586579119:=True
def tw6713817740670414079:=True
def tw6415019063699851445:=True
def tw1505663430823639519:=True
def tw18401227339534926135:=True
def tw14481891336145048646:=True
def tw1881164266865169162:=True
def tw5614633495968008873:=True
def tw9049876730029301865:=True
def tw4853907170824070248:=True
def tw17768672206984210493:=True
def tw9882939299669422005:=True
def tw16226433020701341631:=True
def tw15279430535900105205:=True
def tw9881606920587748406:=True
def tw17757568171510931046:=True
def tw3546646168227138520:=True
def tw7168224482429733384:=True
def tw5122801910358393114:=True
def tw7538700137565776112:=True
def tw3800785132035470813:=True
def tw4972092609345813519:=True
def tw9614693163241929312:=True
def tw5675372877253881876:=True
def tw13302624287573076970:=True
def tw17409955133799813268:=True
def tw16831911597093191429:=True
def tw2972657935914415519:=True
def tw16328375834376309638:=True
def tw3001041457264756559:=True
def tw4010741271092286152:=True
def tw9640829717193236464:=True
def tw4128370860953431584:=True
def tw4430556802903199198:=True
def tw14308772814830433473:=True
def tw16067711788890641096:=True
def tw9742224538776617808:=True
def tw942929755917287399:=True
def tw11737160653582198342:=True
def tw13417995091736239585:=True
def tw1662094366245592066:=True
def tw9790063130657793794:=True
def tw10935607628912541439:=True
def tw400210099034230496:=True
def tw15120491013657763044:=True
def tw10499920814163033717:=True
def tw9276994636437599308:=True
def tw6540207462416946662:=True
def tw14422285844791065741:=True
def tw1979338376775627391:=True
def tw8901190391181465662:=True
def tw11388722479536674113:=True
def tw9024486292737194397:=True
def tw12381533522944550219:=True
def tw15485701137925945141:=True
def tw5295734566055626315:=True
def tw3885200024231639503:=True
def tw11361862789817087777:=True
def tw7825464936372179963:=True
def tw17039729095896271083:=True
def tw9320209782895447097:=True
def tw16955230281497467735:=True
def tw859116326899477471:=True
def tw16284654917467951777:=True
def tw13850501608034563221:=True
def tw9905480881073586525:=True
def tw7411033705329648091:=True
def tw11485717875472377064:=True
def tw7875036505781421010:=True
def tw7115865038248363751:=True
def tw12113830435584778473:=True
def tw8963791690896968073:=True
def tw15773463065999420450:=True
def tw14341836194714187110:=True
def tw508334531570929707:=True
def tw4829642940421230467:=True
def tw13208485707307707698:=True
def tw11068622521631419366:=True
def tw846220735064314254:=True
def tw9019241137362088869:=True
def tw4221830327719282595:=True
def tw14339550317824168770:=True
def tw2902675165335476706:=True
def tw4913170236993154135:=True
def tw250092972866428081:=True
def tw18099326693920871544:=True
def tw17196703164675080375:=True
def tw12625450358879589170:=True
def tw13819473552725967151:=True
def tw816095493540803672:=True
def tw8953901297879047190:=True
def tw15166247359687589451:=True
def tw2709820877134116184:=True
def tw8847650195869001239:=True
def tw10834204987286664095:=True
def tw17768252042886611190:=True
def tw16531538155500285683:=True
def tw13912939861104301881:=True
def tw1144322903340379016:=True
def tw3817791664109868617:=True
def tw4710295742968892516:=True
def tw4878222407524376391:=True
def tw1337617037417700670:=True
def tw16350257163354843490:=True
def tw5550387643680691289:=True
def tw3836499704748036902:=True
def tw611160711602492811:=True
def tw6443480767529568644:=True
def tw9854101810444591830:=True
def tw3382090626348893220:=True
def tw3074818208654793995:=True
def tw12141740202357420209:=True
def tw4443969816746054603:=True
def tw3470552689733081493:=True
def tw17271496613103875263:=True
def tw9330919913918075031:=True
def tw2957309237074694570:=True
def tw9996044539701322524:=True
def tw2327556155913455694:=True
def tw3745074622879070044:=True
def tw12516170333475456448:=True
def tw8760741515678485718:=True
def tw1551181312800538472:=True
def tw10414156743290857749:=True
def tw4988393221937218862:=True
def tw873978269294106458:=True
def tw5060386391263275234:=True
def tw16290353179003465878:=True
def tw16414084092710144422:=True
def tw3865878991785632674:=True
def tw14126451107601536093:=True
def tw4449424083612574965:=True
def tw17239352383907855199:=True
def tw10893157313714915952:=True
def tw15215620917093462692:=True
def tw5160922067335574044:=True
def tw14990800448788403814:=True
def tw7357665736931300351:=True
def tw10454986590186327237:=True
def tw18243516659086366060:=True
def tw7773949873467583174:=True
def tw14280215662231906098:=True
def tw7511405080173910917:=True
def tw8948691670175475735:=True
def tw2066591224226813215:=True
def tw12603235397170687702:=True
def tw17359036771840812294:=True
def tw6356058429446775671:=True
def tw7161725198830447146:=True
def tw1602591901481225239:=True
def tw3064976011021843828:=True
def tw7561049768600599664:=True
def tw12989661037606238220:=True
def tw1201851728395502129:=True
def tw2681530788431160701:=True
def tw5450592816121407185:=True
def tw9708695963512193809:=True
def tw17020636446218985184:=True
def tw351677977774044689:=True
def tw10174524676083382517:=True
def tw4222878158935415734:=True
def tw4568560555153884050:=True
def tw15649780265775652754:=True
def tw13749246808180760316:=True
def tw9428341886755665409:=True
def tw8930297969491935994:=True
def tw3454072587103293361:=True
def tw2290766000166842116:=True
def tw11672444994793154965:=True
def tw12809286031289590239:=True
def tw4797167439233005261:=True
def tw13035858191889598412:=True
def tw9803969359851749866:=True
def tw6617472515763086725:=True
def tw10244050648333515525:=True
def tw8622367338655982980:=True
def tw845292867660642742:=True
def tw6239967979534550253:=True
def tw4719532660562702402:=True
def tw13687465389786128199:=True
def tw12648094706584526745:=True
def tw9199986643407856148:=True
def tw8951415365929768319:=True
def tw7231786160789738145:=True
def tw7155407092041308049:=True
def tw5455785274370076230:=True
def tw2797961049074294959:=True
def tw18417956159212988745:=True
def tw17895679759531979436:=True
def tw15169638649114269349:=True
def tw14720733500425096114:=True
def tw13188433287362642475:=True
def tw13045835098089150343:=True
def tw1285747390305567465:=True
def tw1279085766230933434:=True
def tw12381949763906779207:=True
def tw12227138090398653534:=True
def tw11086973967458846593:=True
def tw10836068689319206514:=True
def tw10236442496389872780:=True
def tw10216528498406390941:=True
def tw5787490545563580479:=True
def tw5300899834379657110:=True
def tw13790393842189926907:=True
def tw1204016607734493288:=True
def tw959812162332823262:=True
def tw9296867127575159289:=True
def tw8536575071494265473:=True
def tw7820862227823351235:=True
def tw7271485001528097020:=True
def tw7113400392758495603:=True
def tw628297229419867447:=True
def tw6111506951596344781:=True
def tw5307826595975930604:=True
def tw4958260804167196709:=True
def tw4874584694648745175:=True
def tw409230124043553614:=True
def tw3456494502076963522:=True
def tw3329349109770781555:=True
def tw2526815526844493175:=True
def tw2009596878860110580:=True
def tw1884620030142052808:=True
def tw18443088523277670242:=True
def tw18150314947771896203:=True
def tw17891353507278129416:=True
def tw1619629954526398462:=True
def tw15828373424171210462:=True
def tw15765812758656360759:=True
def tw15756350780964633035:=True
def tw15009969370373510231:=True
def tw14638727130007520601:=True
def tw13883191025770459127:=True
def tw13012228336545848727:=True
def tw12554904556991925876:=True
def tw11762958673564310651:=True
def tw10533942215025687373:=True
def tw10062166295535525026:=True
def tw9843971598265837140:=True
def tw5154752791971135825:=True
def tw9649099022498858498:=True
def tw4144279936722744982:=True
def tw9594624686698168059:=True
def tw8694713285778091473:=True
def tw14200093056483903626:=True
def tw4751940563563540103:=True
def tw17112753448268486256:=True
def tw16485124078174323381:=True
def tw11697171508644506532:=True
def tw9299516510285461797:=True
def tw6943781798222417262:=True
def tw6892246017907940500:=True
def tw6352847357459624928:=True
def tw3539661625142593774:=True
def tw1928653765550255872:=True
def tw16851201149221357977:=True
def tw12887940267354391242:=True
def tw10974013118110634876:=True
def tw9255209200765892632:=True
def tw4014424117047687002:=True
def tw1204740215459695251:=True
def tw7075498097430173026:=True
def tw14916921844835510700:=True
def tw6726490564042520567:=True
def tw8870272790508974703:=True
def tw8768330177940828640:=True
def tw8000865103768140067:=True
def tw6460854672100033102:=True
def tw403108228362299561:=True
def tw18083907167254088432:=True
def tw16537829928061068528:=True
def tw13197719941107826191:=True
def tw9159741029184504081:=True
def tw5822739545370460815:=True
def tw12330254305584168214:=True
def tw5736202797376000275:=True
def tw398248284754073452:=True
def tw1480285790128834069:=True
def tw11504040520552664382:=True
def tw12093648876903939217:=True
def tw5652766607909502511:=True
def tw9173438529985971778:=True
def tw8689958522546212584:=True
def tw8154217693008139724:=True
def tw7857276815731947985:=True
def tw6691950117107375009:=True
def tw618185378905394970:=True
def tw5755394414401968478:=True
def tw5279168330043205473:=True
def tw5277488310383048276:=True
def tw4874254395204058519:=True
def tw4074601027263724384:=True
def tw3779384589664985199:=True
def tw3196364783091974488:=True
def tw2747959803023276079:=True
def tw2456949889650071464:=True
def tw1943064457736187520:=True
def tw18160384582301620512:=True
def tw18002506957878154860:=True
def tw1796833415457068438:=True
def tw17803495171713732204:=True
def tw17568335054357621549:=True
def tw16981036792006282239:=True
def tw16235638873945577113:=True
def tw15152778162969443131:=True
def tw146666071423506101:=True
def tw14476487807845484733:=True
def tw14475862989238621906:=True
def tw14012182789528886447:=True
def tw13685844861272111450:=True
def tw13144880380387090582:=True
def tw10875791787610381224:=True
def tw9828567884895027155:=True
def tw9779124576106654665:=True
def tw9767044677853369678:=True
def tw9688919649683802863:=True
def tw9635204865315698593:=True
def tw9632989537717002743:=True
def tw9631871583521150698:=True
def tw9463294396513020134:=True
def tw9298106554026998154:=True
def tw887935572163299508:=True
def tw863460866026929745:=True
def tw8619170300431633613:=True
def tw8050036888704739655:=True
def tw8000861122116896981:=True
def tw7658198485391804280:=True
def tw7057892140255994278:=True
def tw697460173931761835:=True
def tw6778719930891452862:=True
def tw6555098771313771819:=True
def tw6447932989658643698:=True
def tw6366856321090608588:=True
def tw6309415397449499680:=True
def tw5541438113075344126:=True
def tw5430971266301741388:=True
def tw5304159789479911179:=True
def tw5270987364888053792:=True
def tw5177410087468603186:=True
def tw5163856753801121829:=True
def tw5132661112607750058:=True
def tw5094948649838235511:=True
def tw4846521131197128524:=True
def tw4634710975756148459:=True
def tw4390380269057707570:=True
def tw4224431210601379676:=True
def tw3992833722098146811:=True
def tw3614552413585731409:=True
def tw357957023283696395:=True
def tw305192126142592406:=True
def tw3014705800651329070:=True
def tw3014308288010798606:=True
def tw2847465216997321476:=True
def tw2155544145021216482:=True
def tw2105785053450977150:=True
def tw1906858313729888289:=True
def tw18170151657416448994:=True
def tw18131209997891218427:=True
def tw17935027672350609200:=True
def tw16821316120344409025:=True
def tw16753985186862038683:=True
def tw16718226030660337617:=True
def tw16237548702414940396:=True
def tw16074231069448739824:=True
def tw15954098802904591777:=True
def tw15841657736371240158:=True
def tw15561763709043911036:=True
def tw15549334389264179155:=True
def tw15513796378822159554:=True
def tw15299921211786974517:=True
def tw15299241468822350613:=True
def tw15241821543748191316:=True
def tw15038765426476601279:=True
def tw14860930342317136131:=True
def tw14529673747039378895:=True
def tw14211428408427900686:=True
def tw13920984971432247383:=True
def tw13813750110122992169:=True
def tw13706349063170656524:=True
def tw13129746908185905716:=True
def tw12979561990375713402:=True
def tw12629994187869910668:=True
def tw12531633949917467996:=True
def tw12508116664512396418:=True
def tw12391420840257071883:=True
def tw12355311394682227886:=True
def tw12133174578771175865:=True
def tw1181424492153788680:=True
def tw11785540172060351968:=True
def tw11768856518101161193:=True
def tw11610626701179598665:=True
def tw11448535422218275602:=True
def tw11328680646532643152:=True
def tw11122825148844541267:=True
def tw11031412780456227852:=True
def tw10468243482736999907:=True
def tw10411843119350665906:=True
def tw10282121516943165511:=True
def tw10237055720451220923:=True
def tw904439406995023088:=True
def tw8545601911759452071:=True
def tw6096175896443910266:=True
def tw13422293105135243233:=True
def tw12594383224833896999:=True
end PySem.W.Fast
open PySem PySem.W PyProof.Rows
set_option maxRecDepth 100000 in
set_option maxHeartbeats 0 in
theorem PySem.Challenge.cw_rowpipes_k24_whole_heads_holds : PySem.Challenge.rw_rowpipes_k24_whole_heads.Holds := by
 w_on; o_law; k_head; (case hw=>w_witness2)
 k_fill
 refine My.walk (l:=PySem.Challenge.rw_rowpipes_k24_whole_heads) rfl rfl (λw h Y=>PySem.W.kIn_of Y) ?F
 case F =>
  intro w mg fa h KX G hmg
  exact My.all_mk KX G hmg
