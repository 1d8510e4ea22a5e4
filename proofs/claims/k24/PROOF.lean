import PyProof.Rows.All
import Wide.All
import OpenK.AllK
import Wide.FinOn
import Lean
import PyProof.EqAt
import PyProof.EqKinds
import PyProof.TupleCall
import PyProof.NeKinds
import PyProof.SumAny
import PyProof.SetRoads
import PySem.Challenge.RW_rowpipes_k24_whole_heads
set_option Elab.async false
set_option linter.all false
set_option maxRecDepth 100000
set_option maxHeartbeats 0
abbrev Uy:=@PySem.wpAny_bind
abbrev Uz:=@PySem.wpAny_pure
abbrev UA:=@PySem.Heap.get?_push_of_some
abbrev UB:=@PySem.Heap.lt_size
abbrev UC:=@PySem.Heap.get?_push_size
abbrev UD:=@Nat.le_refl
abbrev UE:=@Nat.le_trans
abbrev UG:=@decide_eq_false
abbrev UH:=@decide_eq_true
abbrev UI:=@List.length_map
abbrev UJ:=@List.length_append
abbrev UK:=@List.map_append
abbrev UL:=@Nat.lt_of_le_of_lt
abbrev UM:=@Nat.lt_of_lt_of_le
abbrev UN:=@List.getElem?_eq_getElem
abbrev UO:=@List.mem_append_right
abbrev UP:=@List.mem_of_getElem?
abbrev UQ:=@List.mem_cons_of_mem
abbrev UR:=@Bool.false_ne_true
abbrev US:=@List.size_toArray
abbrev UT:=@List.getElem?_eq_some_iff
abbrev UU:=@List.mem_singleton
abbrev UW:=@List.mem_map
abbrev UX:=@List.mem_cons
abbrev UY:=@Bool.eq_false_iff
abbrev UZ:=@List.mem_append
abbrev U0:=@Nat.ne_of_lt
abbrev U1:=@Nat.zero_le
abbrev U2:=@Option.some.inj
abbrev U3:=@List.getElem?_append_right
abbrev U4:=@List.getElem?_append_left
abbrev U5:=@List.getElem?_map
abbrev U6:=@List.length_take
abbrev U7:=@Array.getElem?_eq_getElem
abbrev U8:=@PySem.wpAny_mono
abbrev U9:=@PySem.wpAny_holding
abbrev U_:=@PySem.wpAny_newObj_type
abbrev Va:=@List.mem_cons_self
abbrev Vb:=@List.length_cons
abbrev Vc:=@Bool.and_eq_true
abbrev Vd:=@of_decide_eq_true
abbrev Ve:=PySem.W.Frag
namespace L2
open PySem PySem.Spec PyProof.Rows
abbrev Key:=Sum Int Str
def fO:Key->Value->Bool
 | .inl k,v=>Value.isInt k v
 | .inr x,v=>Value.isStrOf x v
def LR(w:World):Key->Int
 | .inl k=>hashInt k
 | .inr x=>hashStr w x
theorem bC:∀{k:Key} {v:Value},fO k v=true->(∃i t,k=Sum.inl i/\v=Value.int i t)\/(∃x t,k=Sum.inr x/\v=Value.str x t)
 | .inl i,v,h=>by
  obtain⟨t,e⟩:=Value.isInt_shape (k:=i) (v:=v) h
  exact .inl ⟨i,t,rfl,e⟩
 | .inr x,v,h=>by
  obtain⟨t,e⟩:=Value.isStrOf_shape (x:=x) (v:=v) h
  exact .inr ⟨x,t,rfl,e⟩
theorem ma(i:Int)(t:Tok):fO (.inl i) (.int i t)=true:=by simp [fO,Value.isInt]
theorem lY(x:Str)(t:Tok):fO (.inr x) (.str x t)=true:=by simp [fO,Value.isStrOf]
theorem HJ(a b:Int):decide ((Sum.inl a:Key)=Sum.inl b)=(a==b):=by
 by_cases e:a=b
 ·subst e; simp
 ·have h:¬(Sum.inl a:Key)=Sum.inl b:=λq=>e (Sum.inl.inj q)
  rw [UG h]
  exact(beq_eq_false_iff_ne.mpr e).symm
theorem JK(a b:Str):decide ((Sum.inr a:Key)=Sum.inr b)=decide (a=b):=by
 by_cases e:a=b
 ·subst e; simp
 ·have h:¬(Sum.inr a:Key)=Sum.inr b:=λq=>e (Sum.inr.inj q)
  rw [UG h,UG e]
theorem JV(a:Int)(b:Str):decide ((Sum.inl a:Key)=Sum.inr b)=false:=UG (λq=>nomatch q)
theorem Ip(a:Str)(b:Int):decide ((Sum.inr a:Key)=Sum.inl b)=false:=UG (λq=>nomatch q)
def bD(prog:Program)(w:World):PySem.KeyKind prog w Key where
 is:=fO
 hash:=LR w
 inj:=λv a b ha hb=>by
  rcases bC ha with⟨i,t,rfl,rfl⟩ | ⟨x,t,rfl,rfl⟩
  ·rcases bC hb with⟨j,u,rfl,e⟩ | ⟨y,u,rfl,e⟩
   ·injection e with e1 _; rw [e1]
   ·exact nomatch e
  ·rcases bC hb with⟨j,u,rfl,e⟩ | ⟨y,u,rfl,e⟩
   ·exact nomatch e
   ·injection e with e1 _; rw [e1]
 byValue:=λk v h=>by
  rcases bC h with⟨i,t,rfl,rfl⟩ | ⟨x,t,rfl,rfl⟩ <;> rfl
 pyHash:=λhv h=>by
  rcases bC hv with⟨i,t,rfl,rfl⟩ | ⟨x,t,rfl,rfl⟩
  ·exact wpAny_pyHash_int h
  ·exact wpAny_pyHash_str h
 eqBool:=λhu hv h=>by
  rcases bC hu with⟨i,t,rfl,rfl⟩ | ⟨x,t,rfl,rfl⟩
  ·rcases bC hv with⟨j,u,rfl,rfl⟩ | ⟨y,u,rfl,rfl⟩
   ·rw [HJ]at h; exact wpAny_eqBool_int h
   ·rw [JV]at h; exact SeqAt.EqAt.int_str i t y u _ _ _ _ h
  ·rcases bC hv with⟨j,u,rfl,rfl⟩ | ⟨y,u,rfl,rfl⟩
   ·rw [Ip]at h; exact SeqAt.EqAt.str_int x t j u _ _ _ _ h
   ·rw [JK]at h; exact wpAny_eqBool_str h
 «strs»:=λk x t v h=>by
  rcases bC h with⟨i,u,rfl,e⟩ | ⟨y,u,rfl,e⟩
  ·exact nomatch e
  ·injection e with e1 _
   subst e1
   cases v <;> rfl
abbrev dq:=Option Key
def Hr:dq->Value->Bool
 | none,.none=>true
 | none,_=>false
 | some k,v=>fO k v
theorem uw{prog:Program}{w:World}{A:Around}{E:Value->Shared->Prop}{s:Shared}{Q:Int->Shared->Prop}(h:Q 0xFCA86420 {s with toks:=s.toks+1}):wpAny (model prog w) A (pyHash .none) Q E s:=by
 unfold pyHash
 have hv:[Value.none].any Value.onHeap=false:=rfl
 refine Uy ?_
 rw [cRoomFor,if_neg (by rw [hv]; exact UR)]; refine Uz ?_
 refine Uy (wpAny_specialOf (typeIs_none s) F.slot_NoneType_hash.lookup ?_)
 show wpAny _ _ (if(some (Value.builtin "NoneType.__hash__")==some Value.none)=true then _ else _) Q E s
 rw [if_neg (by rw [beq_builtin_none]; exact UR)]
 refine Uy (wpAny_specialOf (typeIs_none s) F.slot_NoneType_hash.lookup ?_)
 refine Uy (wpAny_callSpecialIfBoundUnlessNone?_slot (typeIs_none s) F.slot_NoneType_hash
  (wpAny_call_entry F.slot_NoneType_hash (typeIs_none s) F.entry_NoneType_hash
   (show wpAny _ _ (do ret (←mkInt 0xFCA86420)) _ _ s from wpAny_ret_mkInt ?_) (F.args_NoneType_hash_1 _)))
 show wpAny _ _ (if(decide (-(2:Int) ^ 63<=0xFCA86420)&&decide ((0xFCA86420:Int)<2 ^ 63))=true then _ else _) Q E _
 rw [if_pos (by decide)]
 exact Uz h
theorem cP:∀{k:dq} {v:Value},Hr k v=true->(k=none/\v=.none)\/∃k',k=some k'/\fO k' v=true
 | none,.none,_=>.inl ⟨rfl,rfl⟩
 | some k,v,h=>.inr ⟨k,rfl,h⟩
theorem BS(a b:Key):decide ((some a:dq)=some b)=decide (a=b):=by
 by_cases e:a=b
 ·subst e; simp
 ·rw [UG e,UG (λq=>e (U2 q))]
theorem Ie(a:Key):decide ((some a:dq)=none)=false:=UG (λq=>nomatch q)
theorem Jy(a:Key):decide ((none:dq)=some a)=false:=UG (λq=>nomatch q)
def optKind(prog:Program)(w:World):PySem.KeyKind prog w dq where
 is:=Hr
 hash:=λk=>match k with | none=>0xFCA86420 | some k=>LR w k
 inj:=λv a b ha hb=>by
  rcases cP ha with⟨rfl,rfl⟩ | ⟨a',rfl,ha'⟩
  ·rcases cP hb with⟨rfl,_⟩ | ⟨b',rfl,hb'⟩
   ·rfl
   ·rcases bC hb' with⟨j,u,_,e⟩ | ⟨y,u,_,e⟩ <;> exact nomatch e
  ·rcases cP hb with⟨rfl,rfl⟩ | ⟨b',rfl,hb'⟩
   ·rcases bC ha' with⟨j,u,_,e⟩ | ⟨y,u,_,e⟩ <;> exact nomatch e
   ·rw [(bD prog w).inj v a' b' ha' hb']
 byValue:=λk v h=>by
  rcases cP h with⟨rfl,rfl⟩ | ⟨k',rfl,h'⟩
  ·rfl
  ·exact(bD prog w).byValue k' v h'
 pyHash:=λhv h=>by
  rcases cP hv with⟨rfl,rfl⟩ | ⟨k',rfl,h'⟩
  ·exact uw h
  ·exact(bD prog w).pyHash h' h
 eqBool:=λ{A E s a b u v Q} hu hv h=>by
  rcases cP hu with⟨rfl,rfl⟩ | ⟨k,rfl,hk⟩
  ·rcases cP hv with⟨rfl,rfl⟩ | ⟨l,rfl,hl⟩
   ·unfold eqBool
    refine U9 ?_
    rw [UH rfl]at h
    exact wpAny_ite_split (λ_=>Uy (wpAny_rule (Uz h))) (λhn=>absurd rfl hn)
   ·rw [Jy]at h
    rcases bC hl with⟨j,u,rfl,rfl⟩ | ⟨y,u,rfl,rfl⟩
    ·exact SeqAt.EqAt.none_int j u _ _ _ _ h
    ·exact SeqAt.EqAt.none_str y u _ _ _ _ h
  ·rcases cP hv with⟨rfl,rfl⟩ | ⟨l,rfl,hl⟩
   ·rw [Ie]at h
    rcases bC hk with⟨j,u,rfl,rfl⟩ | ⟨y,u,rfl,rfl⟩
    ·exact SeqAt.EqAt.int_none j u _ _ _ _ h
    ·exact SeqAt.EqAt.str_none y u _ _ _ _ h
   ·rw [BS]at h
    exact(bD prog w).eqBool hk hl h
 «strs»:=λk x t v h=>by
  rcases cP h with⟨_,e⟩ | ⟨k',rfl,h'⟩
  ·exact nomatch e
  ·exact(bD prog w).strs k' x t v h'
theorem vm(prog:Program)(w:World)(i:Int)(t:Tok):(bD prog w).is (.inl i) (.int i t)=true:=ma i t
theorem vM(prog:Program)(w:World)(x:Str)(t:Tok):(bD prog w).is (.inr x) (.str x t)=true:=lY x t
inductive V where
 | non | bl (b:Bool) | int (i:Int) | str (x:Str) | yv (b:Array UInt8) | flt (b:UInt64) | ref (a:Addr) | ty (n:String)
 deriving DecidableEq
def RelV:V->Value->Prop
 | .non,u=>u=Value.none
 | .bl b,u=>u=Value.bool b
 | .int i,u=>∃t,u=Value.int i t
 | .str x,u=>∃t,u=Value.str x t
 | .yv b,u=>∃t,u=Value.bytes b t
 | .flt b,u=>∃t,u=Value.float b t
 | .ref a,u=>u=Value.ref a
 | .ty n,u=>u=Value.type n
abbrev Vals:List V->List Value->Prop:=Paired RelV
theorem Vals.length{xs:List V}{us:List Value}(r:Vals xs us):xs.length=us.length:=Paired.length r
theorem Vals.get:∀{xs:List V} {us:List Value} {i:Nat} {x:V},Vals xs us->xs[i]? = some x->∃u,us[i]? = some u/\RelV x u
 | _,_,_,_,.nil,e=>by simp at e
 | _,_,0,_,.cons r _,e=>by simp at e; subst e; exact⟨_,rfl,r⟩
 | _,_,i+1,x,.cons _ t,e=>by
  obtain⟨u,h1,h2⟩:=Vals.get (i:=i) (x:=x) t (by simpa using e)
  exact⟨u,by simpa using h1,h2⟩
theorem Vals.set{x:V}{u:Value}(r:RelV x u):∀{xs:List V} {us:List Value} (i:Nat),Vals xs us->Vals (xs.set i x) (us.set i u)
 | _,_,_,.nil=>.nil
 | _,_,0,.cons _ t=>.cons r t
 | _,_,i+1,.cons q t=>.cons q (Vals.set r i t)
theorem Vals.append:∀{xs ys:List V} {us ws:List Value},Vals xs us->Vals ys ws->Vals (xs++ys) (us++ws)
 | _,_,_,_,.nil,s=>s
 | _,_,_,_,.cons r t,s=>.cons r (Vals.append t s)
theorem Vals.take:∀{xs:List V} {us:List Value} (n:Nat),Vals xs us->Vals (xs.take n) (us.take n)
 | _,_,0,_=>.nil
 | _,_,_+1,.nil=>.nil
 | _,_,n+1,.cons r t=>.cons r (Vals.take n t)
theorem Vals.drop:∀{xs:List V} {us:List Value} (n:Nat),Vals xs us->Vals (xs.drop n) (us.drop n)
 | _,_,0,r=>r
 | _,_,_+1,.nil=>.nil
 | _,_,n+1,.cons _ t=>Vals.drop n t
def jq:Option V->Option Value->Prop
 | some v,some u=>RelV v u
 | none,none=>True
 | _,_=>False
def KV{κ:Type}:List (κ×V)->List (κ×Value)->Prop:=Paired λ(p:κ×V) (q:κ×Value)=>p.1=q.1/\RelV p.2 q.2
def kV:Key->V
 | .inl i=>.int i
 | .inr x=>.str x
def oV:dq->V
 | none=>.non
 | some k=>kV k
inductive HO where
 | lst (xs:List V)
 | tup (xs:List V)
 | dK (kvs:List (Key×V)) | dT (kvs:List (List dq×V))
 | set (S:Int->Bool) (n:Nat)
 | ins (C dx:Addr) (fs:List (Str×V))
 | own (x:Addr)
 | xd (fs:List (Str×V))
 | met (f x:Addr)
 | Nv (lo hi:Int)
 | yg (o:Obj) (u:HO)
 | HI (ps:Array Value)
 | ext (φ:Heap->Prop)
abbrev Hp:=Addr->Option HO
def upd(H:Hp)(a:Addr)(o:HO):Hp:=λb=>if b=a then some o else H b
theorem ag{H:Hp}{a:Addr}{o:HO}:upd H a o a=some o:=by unfold upd; rw [if_pos rfl]
theorem aI{H:Hp}{a b:Addr}{o:HO}(h:b≠a):upd H a o b=H b:=by unfold upd; rw [if_neg h]
theorem K2{H:Hp}{a b:Addr}{o u:HO}(h:H a=some o)(h':H b=some u)(d:o≠u):a≠b:=by
 intro e; subst e; rw [h]at h'; exact d (U2 h')
theorem aU{H:Hp}{a b:Addr}{o:HO}(h:H a=some o)(h':H b=none):a≠b:=by
 intro e; subst e; rw [h]at h'; cases h'
def g_(h:Heap)(a:Addr)(items:Array Value):Prop:=∃o,h.get? a=some o/\o.cls=.type "tuple"/\(∃n,o.data=.seq items n)/\o.dict=none
theorem g_.tup{h:Heap}{a:Addr}{items:Array Value}(x:g_ h a items):IsTup h a items:=let ⟨o,ho,hc,hd,_⟩:=x; ⟨o,ho,hc,hd⟩
theorem g_.new(h:Heap)(items:Array Value):g_ (h.push {cls:=.type "tuple",data:=.seq items}) h.objs.size items:=⟨_,UC _ rfl,rfl,⟨_,rfl⟩,rfl⟩
section
variable(P:Program)(w:World)
def cz(H:Hp)(h:Heap)(a:Addr):HO->Prop
 | .lst xs=>xs.length<=sizeLine/\∃(its:List Value) (n:Nat),Vals xs its/\h.get? a=some {cls:=.type "list",data:=.seq its.toArray n}
 | .tup xs=>xs.length<=sizeLine/\∃its:List Value,Vals xs its/\g_ h a its.toArray
 | .dK kvs=>kvs.length<=sizeLine/\(a==sysModules)=false/\∃vs,KV kvs vs/\h.DictOf (bD P w) a vs
 | .dT kvs=>kvs.length<=sizeLine/\(a==sysModules)=false/\∃xs:List (List dq×Addr×Value),
   Paired (λ(p:List dq×V) (q:List dq×Addr×Value)=>p.1=q.1/\H q.2.1=some (.tup (p.1.map oV))/\RelV p.2 q.2.2) kvs xs/\
   ∃o es ep,h.get? a=some o/\o.ExactDict/\o.data=.dict es ep/\es.toList=xs.map (entryOfKey (tupleKind (optKind P w)))/\(xs.map (·.1)).Nodup
 | .set S n=>h.SetOf (intKind P w) a S n
 | .ins C dx fs=>H dx=some (.own a)/\fs.length<=1000/\dx≠a/\h.get? a=some (PySem.W.instObj C dx)/\
   ∃mA,h.Ns1 dx mA/\(∀f,jq (fs.lookup f) (mA f))/\PySem.Within mA (fs.map (·.1))
 | .own _=>∃o,h.get? a=some o
 | .xd fs=>∃mA,h.Ns1 a mA/\∀f,jq (fs.lookup f) (mA f)
 | .Nv lo hi=>∃t u v,h.get? a=some {cls:=.type "range",data:=.fields #[.int lo t,.int hi u,.int 1 v]}
 | .yg o u=>h.get? a=some o/\cz H h a u
 | .HI ps=>h.get? a=some {cls:=.none,data:=.fields ps}
 | .met f x=>h.get? a=some (PySem.W.methodObj (.ref f) (.ref x))
 | .ext φ=>φ h/\(∃o,h.get? a=some o)/\∀h1 h2:Heap,φ h1->(∀o,h1.get? a=some o->h2.get? a=some o)->φ h2
def ja(H:Hp)(h:Heap):Prop:=∀a o,H a=some o->cz P w H h a o
end
section
variable{P:Program}{w:World}{H H':Hp}{h h':Heap}{a:Addr}{o:HO}
theorem cz.lt(x:cz P w H h a o):a<h.objs.size:=by
 cases o with
 | lst xs=>obtain⟨_,_,_,_,e⟩:=x; exact UB e
 | tup xs=>obtain⟨_,_,_,p⟩:=x; exact p.tup.lt
 | dK kvs=>obtain⟨_,_,_,_,o,_,_,e,_⟩:=x; exact UB e
 | dT kvs=>obtain⟨_,_,_,_,o,_,_,e,_⟩:=x; exact UB e
 | set S n=>obtain⟨o,_,_,_,e,_⟩:=x; exact UB e
 | ins C dx fs=>obtain⟨_,_,_,e,_⟩:=x; exact UB e
 | own y=>obtain⟨_,e⟩:=x; exact UB e
 | xd fs=>obtain⟨_,⟨_,_,_,e,_⟩,_⟩:=x; exact UB e
 | Nv lo hi=>obtain⟨_,_,_,e⟩:=x; exact UB e
 | yg ob u=>obtain⟨e,_⟩:=x; exact UB e
 | HI ps=>exact UB (show h.get? a=some _ from x)
 | met f y=>exact UB (show h.get? a=some _ from x)
 | ext φ=>obtain⟨_,⟨_,e⟩,_⟩:=x; exact UB e
theorem Paired.Iw{α β:Type}{F G:α->β->Prop}:∀{l₁:List α} {l₂:List β},Paired F l₁ l₂->(∀a b,F a b->G a b)->Paired G l₁ l₂
 | _,_,.nil,_=>.nil
 | _,_,.cons r t,f=>.cons (f _ _ r) (Paired.Iw t f)
theorem cz.stay(x:cz P w H h a o)(k:∀b u,(b=a\/H b=some (.own a))->h.get? b=some u->h'.get? b=some u)
  (ho:∀b,H b=some (.own a)->H' b=some (.own a)) (ht:∀b xs,H b=some (.tup xs)->H' b=some (.tup xs)):cz P w H' h' a o:=by
 induction o with
 | lst xs=>obtain⟨z,its,n,r,e⟩:=x; exact⟨z,its,n,r,k _ _ (.inl rfl) e⟩
 | tup xs=>obtain⟨z,its,r,ob,e,c⟩:=x; exact⟨z,its,r,ob,k _ _ (.inl rfl) e,c⟩
 | dK kvs=>obtain⟨z,y,vs,r,ob,es,ep,e,c⟩:=x; exact⟨z,y,vs,r,ob,es,ep,k _ _ (.inl rfl) e,c⟩
 | dT kvs =>
  obtain⟨z,y,xs,r,ob,es,ep,e,c⟩:=x
  exact⟨z,y,xs,Paired.Iw r λp q z=>⟨z.1,ht _ _ z.2.1,z.2.2⟩,ob,es,ep,k _ _ (.inl rfl) e,c⟩
 | set S n=>obtain⟨ob,es,ep,t,e,c⟩:=x; exact⟨ob,es,ep,t,k _ _ (.inl rfl) e,c⟩
 | ins C dx fs =>
  obtain⟨d,z,ne,e,mA,⟨od,es,ep,e2,c⟩,r⟩:=x
  exact⟨ho _ d,z,ne,k _ _ (.inl rfl) e,mA,⟨od,es,ep,k _ _ (.inr d) e2,c⟩,r⟩
 | own y=>obtain⟨ob,e⟩:=x; exact⟨ob,k _ _ (.inl rfl) e⟩
 | xd fs=>obtain⟨mA,⟨od,es,ep,e,c⟩,r⟩:=x; exact⟨mA,⟨od,es,ep,k _ _ (.inl rfl) e,c⟩,r⟩
 | Nv lo hi=>obtain⟨t,u,v,e⟩:=x; exact⟨t,u,v,k _ _ (.inl rfl) e⟩
 | yg ob u ih=>obtain⟨e,q⟩:=x; exact⟨k _ _ (.inl rfl) e,ih q⟩
 | HI ps =>
  have e:h.get? a=some {cls:=.none,data:=.fields ps}:=x
  show h'.get? a=some {cls:=.none,data:=.fields ps}
  exact k a _ (.inl rfl) e
 | met f y =>
  have e:h.get? a=some (PySem.W.methodObj (.ref f) (.ref y)):=x
  show h'.get? a=some (PySem.W.methodObj (.ref f) (.ref y))
  exact k a _ (.inl rfl) e
 | ext φ=>obtain⟨p,⟨o,e⟩,st⟩:=x; exact⟨st _ _ p λo q=>k _ _ (.inl rfl) q,⟨o,k _ _ (.inl rfl) e⟩,st⟩
theorem ja.lt(x:ja P w H h)(e:H a=some o):a<h.objs.size:=(x a o e).lt
theorem ja.fresh(x:ja P w H h)(e:h.objs.size<=a):H a=none:=by
 cases q:H a with
 | none=>rfl
 | some u=>exact absurd (UM (x.lt q) e) (Nat.lt_irrefl _)
theorem ja.kept(x:ja P w H h)(k:∀b u,h.get? b=some u->h'.get? b=some u):ja P w H h':=λa o e =>
 (x a o e).stay (λb u _ q=>k b u q) (λ_ q=>q) λ_ _ q=>q
theorem ja.laid(x:ja P w H h)(k:∀b u,h.get? b=some u->h'.get? b=some u)(hp:h.objs.size<=a)(new:cz P w (upd H a o) h' a o):ja P w (upd H a o) h':=λb u e=>by
 have hn:=x.fresh hp
 by_cases hb:b=a
 ·subst hb; rw [ag]at e; cases e; exact new
 ·rw [aI hb]at e
  exact(x b u e).stay (λc v _ q=>k c v q) (λc q=>by rw [aI (aU q hn)]; exact q) λc xs q=>by rw [aI (aU q hn)]; exact q
end
def Rd(H:Hp)(a:Addr)(u:HO):Prop:=H a=some u\/∃o,H a=some (.yg o u)
theorem Rd.ok{P:Program}{w:World}{H:Hp}{h:Heap}{a:Addr}{u:HO}(r:Rd H a u)(x:ja P w H h):cz P w H h a u:=by
 rcases r with r | ⟨o,r⟩
 ·exact x a u r
 ·obtain⟨_,q⟩:=x a _ r
  exact q
def MM:Option HO->Prop
 | some (.lst _)=>True
 | some (.dK _)=>True
 | some (.dT _)=>True
 | some (.set _ _)=>True
 | some (.ins _ _ _)=>True
 | some (.ext _)=>True
 | _=>False
section
variable{P:Program}{w:World}{H:Hp}{h h':Heap}{x e:Addr}{o':HO}
theorem ja.write(ok:ja P w H h)(mu:MM (H x))(he:e=x\/H e=some (.own x))(k:∀b u,b≠e->h.get? b=some u->h'.get? b=some u)(heo:∃u,h'.get? e=some u)
  (new:cz P w (upd H x o') h' x o'):ja P w (upd H x o') h':=λb u q=>by
 have Lz:∀c y,H c=some (.own y)->c≠x:=λc y r z=>by subst z; rw [r]at mu; exact mu
 have NT:∀c xs,H c=some (.tup xs)->c≠x:=λc xs r z=>by subst z; rw [r]at mu; exact mu
 by_cases hb:b=x
 ·subst hb; rw [ag]at q; cases q; exact new
 ·rw [aI hb]at q
  by_cases hbe:b=e
  ·have q':H b=some (.own x):=by
    rcases he with z | z
    ·exact absurd (hbe.trans z) hb
    ·rw [hbe]; exact z
   rw [q]at q'; cases q'
   obtain⟨v,hv⟩:=heo
   exact⟨v,by rw [hbe]; exact hv⟩
  ·refine(ok b u q).stay (λc v hc r=>k c v ?_ r) (λc r=>by rw [aI (Lz c b r)]; exact r) λc xs r=>by rw [aI (NT c xs r)]; exact r
   rcases hc with rfl | hc
   ·exact hbe
   ·rintro rfl
    rcases he with z | z
    ·exact Lz c b hc z
    ·rw [hc]at z; cases z; exact hb rfl
end
structure Un(fs ex:List Addr)(H H':Hp)(h h':Heap):Prop where
 keep:∀b o,h.get? b=some o->H b=none->b∉fs->b∉ex->h'.get? b=some o
 slot:∀b o,h.get? b=some o->H b=none->b∈fs->b∉ex->∃sl,h'.get? b=some {o with slots:=sl}
 free:∀b o,h.get? b=some o->H b=none->b∉ex->H' b=none
 there:∀b o,h.get? b=some o->b∉ex->∃o',h'.get? b=some o'
 tups:∀b xs,H b=some (.tup xs)->H' b=some (.tup xs)
 oZ:∀b o u,H b=some (.yg o u)->H' b=some (.yg o u)
 qD:∀b ps,H b=some (.HI ps)->∃more,H' b=some (.HI (ps++more))
section
variable{fs fs' ex ex':List Addr}{H H1 H2:Hp}{h h1 h2 h':Heap}{a x e:Addr}{o:HO}
theorem Un.any(u:Un fs ex H H1 h h1){b:Addr}{ob:Obj}(q:h.get? b=some ob)(n:H b=none)(hx:b∉ex):∃sl,h1.get? b=some {ob with slots:=sl}:=by
 by_cases hb:b∈fs
 ·exact u.slot b ob q n hb hx
 ·exact⟨ob.slots,u.keep b ob q n hb hx⟩
theorem Un.kept(k:∀b u,h.get? b=some u->h'.get? b=some u):Un fs ex H H h h' :=
 ⟨λb ob q _ _ _=>k b ob q,λb ob q _ _ _=>⟨ob.slots,k b ob q⟩,λ_ _ _ n _=>n,λb ob q _=>⟨ob,k b ob q⟩,λ_ _ q=>q,λ_ _ _ q=>q,λ_ ps q=>⟨#[],by rw [q]; simp⟩⟩
theorem Un.refl:Un fs ex H H h h:=Un.kept λ_ _ q=>q
theorem Un.laid(k:∀b u,h.get? b=some u->h'.get? b=some u)(hp:h.objs.size<=a)(hn:H a=none):Un fs ex H (upd H a o) h h' where
 keep:=λb u q _ _ _=>k b u q
 slot:=λb u q _ _ _=>⟨u.slots,k b u q⟩
 free:=λb u q n _=>by rw [aI (U0 (UM (UB q) hp))]; exact n
 there:=λb u q _=>⟨u,k b u q⟩
 tups:=λb xs q=>by rw [aI (aU q hn)]; exact q
 oZ:=λb u xs q=>by rw [aI (aU q hn)]; exact q
 qD:=λb ps q=>⟨#[],by rw [aI (aU q hn),q]; simp⟩
theorem Un.write(mu:MM (H x))(he:e=x\/H e=some (.own x))(k:∀b u,b≠e->h.get? b=some u->h'.get? b=some u)(heo:∃u,h'.get? e=some u):Un fs ex H (upd H x o) h h':=by
 have hx:∀b,H b=none->b≠x:=λb n z=>by subst z; rw [n]at mu; exact mu
 have hb:∀b,H b=none->b≠e:=λb n z=>by
  subst z
  rcases he with r | r
  ·exact hx b n r
  ·rw [n]at r; cases r
 have hm:∀b u,H b=some u->¬MM (some u)->b≠x:=λb u q nm z=>by subst z; rw [q]at mu; exact nm mu
 refine⟨λb u q n _ _=>k b u (hb b n) q,λb u q n _ _=>⟨u.slots,k b u (hb b n) q⟩,λb u q n _=>by rw [aI (hx b n)]; exact n,λb u q _=>?_,
  λb xs q=>by rw [aI (hm b _ q λz=>z)]; exact q,λb u xs q=>by rw [aI (hm b _ q λz=>z)]; exact q,λb ps q=>⟨#[],by rw [aI (hm b _ q λz=>z),q]; simp⟩⟩
 by_cases hbe:b=e
 ·subst hbe; exact heo
 ·exact⟨u,k b u hbe q⟩
end
def Nq(h:Heap)(H:Hp):List Addr:=(List.range h.objs.size).filter λa=>(H a).isSome
def tZ(h:Heap)(H:Hp):Heap:=PySem.W.hideAll h (Nq h H)
theorem Ag(h:Heap)(H:Hp):(tZ h H).objs.size=h.objs.size:=PySem.W.hideAll_size _ _
theorem DV{h:Heap}{H:Hp}{b:Addr}{o:Obj}(e:h.get? b=some o)(n:H b=none):(tZ h H).get? b=some o :=
 PySem.W.hideAll_get _ e λhm=>by
  have q:(H b).isSome=true:=(List.mem_filter.mp hm).2
  rw [n]at q; simp at q
theorem EV{h:Heap}{H:Hp}{b:Addr}{o:Obj}(e:(tZ h H).get? b=some o):h.get? b=some o/\H b=none:=by
 have e':h.get? b=some o:=PySem.W.of_hideAll (Nq h H) e
 refine⟨e',?_⟩
 cases q:H b with
 | none=>rfl
 | some x =>
  have hm:b∈Nq h H:=List.mem_filter.mpr ⟨List.mem_range.mpr (UB e'),by simp [q]⟩
  have z:(tZ h H).get? b=none:=PySem.W.hideAll_none (Nq h H) hm
  rw [z]at e; cases e
def Fg(g h:Heap)(L:Addr):List (Addr×Obj):=(List.range h.objs.size).filterMap λa=>if a=L\/(g.get? a).isSome=true then none else(h.get? a).map λo=>(a,o)
def rest(g h:Heap)(L d:Addr):List (Addr×Obj):=(Fg g h L).filter λp=>decide (p.1≠d)
structure Mod(K:Ve)(mg:Str->Option Value)(base:Heap):Prop where
 Kw:K.In base
 glob:base.Ns mainGlobals mg
 blt:∃mb,base.Ns builtinsNs mb/\∀x:Str,x≠"__name__"->mb x=bootBuiltins x
 nolimit:base.NoLimit
structure Cx where
 prog:Program
 w:World
 K:Ve
 mg:Str->Option Value
 base:Heap
 A:Around
 N:List Str
 s₀:Shared
 H₀:Hp
 env:Env
 outer:List Env
 stack:List Env
 ex:List Addr
 fn:Str->Bool
 calm:Bool
 pn:List (Addr×Obj)
 xe:Value->Shared->Prop
def frs(l:List Env):List Addr:=l.filterMap (·.frame)
abbrev Cx.fs(X:Cx):List Addr:=frs X.outer
def OD(sc:Scope)(x:Str):Prop:=sc.names.lookup x=some .local\/sc.names.lookup x=some .cell\/sc.names.lookup x=some .free
def Loc(sc:Scope)(x:Str):Prop:=sc.names.lookup x=some .local\/sc.names.lookup x=some .cell
def Look(env:Env)(h:Heap)(m:Str->Option Value)(x:Str)(u:Value):Prop :=
 (env.kindOf x=some .local/\m x=some u)\/((env.kindOf x=some .cell\/env.kindOf x=some .free)/\∃c,env.cells.lookup x=some c/\h.IsCell c (some u))
structure Cx.Ok(X:Cx):Prop where
 mod:Mod X.K X.mg X.base
 kind:X.env.scope.kind=.function
 glob:X.env.globals=mainGlobals
 blt:X.env.builtins=builtinsNs
 above:X.s₀.heap.objs.size<=X.env.locals
 inj:∀x y c,X.env.cells.lookup x=some c->X.env.cells.lookup y=some c->x=y
 has:∀x,(X.env.kindOf x=some .cell\/X.env.kindOf x=some .free)->∃c,X.env.cells.lookup x=some c
 cab:∀x c,X.fn x=true->X.env.cells.lookup x=some c->X.s₀.heap.objs.size<=c
 hd:X.calm=true->X.A.handled=none
 frames:X.A.frames=some X.stack
 J8:X.stack=X.outer\/(X.stack=X.env::X.outer/\X.env.frame=some X.env.locals)
 zw:∀b∈X.ex,b≠X.env.locals/\∀x c,X.env.cells.lookup x=some c->c≠b
 bs:∀b o,X.base.get? b=some o->X.s₀.heap.get? b=some o/\X.H₀ b=none
 A3:X.base.objs.size<=X.s₀.heap.objs.size
 um:∀b o,X.base.get? b=some o->b∉X.ex
 pH:∀b∈X.ex,b∉X.fs
 j8:X.s₀.heap.FunFrames X.base X.outer
 Ep:∀b∈X.fs,X.H₀ b=none
structure Inv(X:Cx)(pins:List (Addr×Obj))(σ:List (Option V))(H:Hp)(s:Shared):Prop where
 ok:X.Ok
 os:s.os=X.s₀.os
 bare:AllBare s.gens
 base:Un X.fs X.ex X.H₀ H X.s₀.heap s.heap
 loc:∃m,s.heap.Ns X.env.locals m/\∀(i:Nat) (x:Str) (v:V),X.N[i]? = some x->σ[i]? = some (some v)->OD X.env.scope x->∃u,RelV v u/\Look X.env s.heap m x u
 cell:∀x c,X.env.cells.lookup x=some c->∃v,s.heap.IsCell c v
 free:H X.env.locals=none
 fV:∀x c,X.env.cells.lookup x=some c->H c=none
 pin:∀p∈X.pn++pins,s.heap.get? p.1=some p.2/\H p.1=none/\p.1≠X.env.locals/\p.1∉X.fs/\∀v,p.2.data≠ .cell v
 hok:ja X.prog X.w H s.heap
 len:σ.length=X.N.length
section
variable{X:Cx}{pins:List (Addr×Obj)}{σ:List (Option V)}{H H':Hp}{s:Shared}{h':Heap}
theorem Cx.Ok.N9(ok:X.Ok){b:Addr}{o:Obj}(e:X.base.get? b=some o):b∉X.fs:=λhb=>by
 have:=(ok.j8.mem hb).1
 rw [e]at this; cases this
theorem Inv.bs(I:Inv X pins σ H s):∀b o,X.base.get? b=some o->s.heap.get? b=some o/\H b=none:=λb o e =>
 ⟨I.base.keep b o (I.ok.bs b o e).1 (I.ok.bs b o e).2 (I.ok.N9 e) (I.ok.um b o e),I.base.free b o (I.ok.bs b o e).1 (I.ok.bs b o e).2 (I.ok.um b o e)⟩
theorem Inv.bk(I:Inv X pins σ H s):∀b o,X.base.get? b=some o->s.heap.get? b=some o:=λb o e=>(I.bs b o e).1
theorem Inv.mod(I:Inv X pins σ H s):Mod X.K X.mg X.base:=I.ok.mod
theorem Inv.jJ(I:Inv X pins σ H s):X.K.In s.heap:=I.ok.mod.Kw.keeps I.bk
theorem Inv.lt(I:Inv X pins σ H s):X.env.locals<s.heap.objs.size:=let ⟨_,hn,_⟩:=I.loc; hn.lt
theorem Inv.sz(I:Inv X pins σ H s):X.s₀.heap.objs.size<=s.heap.objs.size:=UE I.ok.above (Nat.le_of_lt I.lt)
theorem Inv.Od(I:Inv X pins σ H s){a:Addr}(h:s.heap.objs.size<=a):a∉X.fs:=λhb=>by
 obtain⟨_,o,ho,_⟩:=I.ok.j8.mem hb
 exact absurd (UM (UB ho) (UE I.sz h)) (Nat.lt_irrefl _)
theorem Inv.EX(I:Inv X pins σ H s):∀x c,X.env.cells.lookup x=some c->c≠X.env.locals:=λx c e z=>by
 obtain⟨v,o,ho,hd⟩:=I.cell x c e
 obtain⟨m,⟨o',es,ep,ho',hd',_⟩,_⟩:=I.loc
 rw [z,ho']at ho; cases ho; rw [hd']at hd; cases hd
theorem Inv.j8(I:Inv X pins σ H s):s.heap.FunFrames X.base X.outer:=by
 have all:∀(l:List Env),(∀b∈frs l,b∈X.fs)->X.s₀.heap.FunFrames X.base l->s.heap.FunFrames X.base l:=by
  intro l
  induction l with
  | nil=>intro _ _; trivial
  | cons env r ih =>
   intro hs hl
   obtain⟨hk,⟨L,o,hf,hn,ho,hd⟩,hr⟩:=hl
   have hL:L∈X.fs:=hs L (by unfold frs; rw [List.filterMap_cons,hf]; exact Va)
   obtain⟨sl,e⟩:=I.base.slot L o ho (I.ok.Ep L hL) hL λz=>I.ok.pH L z hL
   exact⟨hk,⟨L,_,hf,hn,e,hd⟩,ih (λb hb=>hs b (by unfold frs; rw [List.filterMap_cons,hf]; exact UQ _ hb)) hr⟩
 exact all X.outer (λ_ hb=>hb) I.ok.j8
theorem Inv.stack(I:Inv X pins σ H s):s.heap.FunFrames X.base X.stack:=by
 rcases I.ok.J8 with e | ⟨e,hf⟩
 ·rw [e]; exact I.j8
 ·rw [e]
  obtain⟨m,hn,_⟩:=I.loc
  refine .cons (by rw [I.ok.kind]; decide) hf hn ?_ I.j8
  exact Heap.get?_none_of_le (UE I.ok.A3 I.ok.above)
theorem Inv.xK(I:Inv X pins σ H s):∀b∈frs X.stack,b∈X.env.locals::X.fs:=λb hb=>by
 rcases I.ok.J8 with e | ⟨e,hf⟩
 ·rw [e]at hb; exact UQ _ hb
 ·rw [e]at hb
  unfold frs at hb
  rw [List.filterMap_cons,hf]at hb
  exact hb
theorem Inv.m_(I:Inv X pins σ H s):∀b∈frs X.stack,H b=none:=λb hb=>by
 rcases UX.mp (I.xK b hb)with e | hb
 ·rw [e]; exact I.free
 ·obtain⟨_,o,ho,_⟩:=I.ok.j8.mem hb
  exact I.base.free b o ho (I.ok.Ep b hb) λz=>I.ok.pH b z hb
theorem Inv.step{g':Array GenState}{t':Nat}{d':Drawn}{ch:List Addr}(I:Inv X pins σ H s)
  (hch:∀b∈ch,(b∈X.ex\/X.s₀.heap.objs.size<=b)/\b≠X.env.locals/\(∀x c,X.env.cells.lookup x=some c->c≠b)/\∀p∈X.pn++pins,p.1≠b)
  (keep:∀b o,b≠X.env.locals->b∉X.fs->b∉ch->s.heap.get? b=some o->H b=none->h'.get? b=some o)
  (slot:∀b o,b≠X.env.locals->b∈X.fs->b∉ch->s.heap.get? b=some o->H b=none->∃sl,h'.get? b=some {o with slots:=sl}) (free:∀b o,b∉ch->s.heap.get? b=some o->H b=none->H' b=none)
  (there:∀b o,b∉ch->s.heap.get? b=some o->∃o',h'.get? b=some o')
  (tups:∀b xs,H b=some (.tup xs)->H' b=some (.tup xs)) (oZ:∀b o u,H b=some (.yg o u)->H' b=some (.yg o u)) (qD:∀b ps,H b=some (.HI ps)->∃more,H' b=some (.HI (ps++more)))
  (ns:∀m,s.heap.Ns X.env.locals m->h'.Ns X.env.locals m) (hok:ja X.prog X.w H' h') (hg:AllBare g') :
  Inv X pins σ H' {s with heap:=h',gens:=g',drawn:=d',toks:=t'}:=by
 have IM:∀b o,X.s₀.heap.get? b=some o->b≠X.env.locals:=λb o e=>U0 (UM (UB e) I.ok.above)
 have Ky:∀b o,X.s₀.heap.get? b=some o->b∉X.ex->b∉ch:=λb o e hx hb=>by
  rcases(hch b hb).1 with z | z
  ·exact hx z
  ·exact absurd (UM (UB e) z) (Nat.lt_irrefl _)
 have cellK:∀x c,X.env.cells.lookup x=some c->∀v,s.heap.IsCell c v->h'.IsCell c v:=λx c e v ⟨o,ho,hd⟩=>by
  have KU:c∉ch:=λz=>(hch c z).2.2.1 x c e rfl
  by_cases hc:c∈X.fs
  ·obtain⟨sl,q⟩:=slot c o (I.EX x c e) hc KU ho (I.fV x c e)
   exact⟨_,q,hd⟩
  ·exact⟨o,keep c o (I.EX x c e) hc KU ho (I.fV x c e),hd⟩
 refine⟨I.ok,I.os,hg,⟨λb o e n hb hx=>?_,λb o e n hb hx=>?_,λb o e n hx=>?_,λb o e hx=>?_,λb xs e=>tups b xs (I.base.tups b xs e),λb o xs e=>oZ b o xs (I.base.oZ b o xs e),λb ps e=>?_⟩,?_,λx c e=>?_,?_,λx c e=>?_,λp hp=>?_,hok,I.len⟩
 ·exact keep b o (IM b o e) hb (Ky b o e hx) (I.base.keep b o e n hb hx) (I.base.free b o e n hx)
 ·obtain⟨sl,e1⟩:=I.base.slot b o e n hb hx
  obtain⟨sl',e2⟩:=slot b _ (IM b o e) hb (Ky b o e hx) e1 (I.base.free b o e n hx)
  exact⟨sl',e2⟩
 ·obtain⟨o',e1⟩:=I.base.there b o e hx
  exact free b o' (Ky b o e hx) e1 (I.base.free b o e n hx)
 ·obtain⟨o',e1⟩:=I.base.there b o e hx
  exact there b o' (Ky b o e hx) e1
 ·obtain⟨m1,e1⟩:=I.base.qD b ps e
  obtain⟨m2,e2⟩:=qD b _ e1
  exact⟨m1++m2,by rw [e2,Array.append_assoc]⟩
 ·obtain⟨m,hn,hl⟩:=I.loc
  refine⟨m,ns m hn,λi x v e1 e2 e3=>?_⟩
  obtain⟨u,r,l⟩:=hl i x v e1 e2 e3
  refine⟨u,r,?_⟩
  rcases l with l | ⟨k,c,e,z⟩
  ·exact .inl l
  ·exact .inr ⟨k,c,e,cellK x c e _ z⟩
 ·obtain⟨v,z⟩:=I.cell x c e
  exact⟨v,cellK x c e v z⟩
 ·obtain⟨m,⟨o,_,_,ho,_⟩,_⟩:=I.loc
  exact free _ o (λz=>(hch _ z).2.1 rfl) ho I.free
 ·obtain⟨v,o,ho,hd⟩:=I.cell x c e
  exact free c o (λz=>(hch c z).2.2.1 x c e rfl) ho (I.fV x c e)
 ·obtain⟨e,n,ne,nf,d⟩:=I.pin p hp
  have KU:p.1∉ch:=λz=>(hch p.1 z).2.2.2 p hp rfl
  exact⟨keep p.1 p.2 ne nf KU e n,free p.1 p.2 KU e n,ne,nf,d⟩
theorem Inv.un{t':Nat}(I:Inv X pins σ H s)(u:Un X.fs [] H H' s.heap h')(hok:ja X.prog X.w H' h'):Inv X pins σ H' {s with heap:=h',toks:=t'}:=by
 obtain⟨m,⟨o,es,ep,ho,r⟩,_⟩:=id I.loc
 obtain⟨sl,hL⟩:=u.any ho I.free (by simp)
 exact I.step (g':=s.gens) (d':=s.drawn) (ch:=[]) (λ_ z=>nomatch z) (λb o _ hb _ e n=>u.keep b o e n hb (by simp)) (λb o _ hb _ e n=>u.slot b o e n hb (by simp)) (λb o _ e n=>u.free b o e n (by simp)) (λb o _ e=>u.there b o e (by simp)) u.tups u.oZ u.qD (λm' hm=>by
  obtain⟨o',es',ep',ho',r'⟩:=hm
  rw [ho]at ho'; cases ho'
  exact⟨_,es',ep',hL,r'⟩) hok I.bare
theorem Inv.call{g':Array GenState}{t':Nat}{d':Drawn}{ch:List Addr}(I:Inv X pins σ H s)(u:Un (frs X.stack) ch H H' s.heap h')(hok:ja X.prog X.w H' h')(hg:AllBare g')
  (hch:∀b∈ch,(b∈X.ex\/X.s₀.heap.objs.size<=b)/\b≠X.env.locals/\(∀x c,X.env.cells.lookup x=some c->c≠b)/\∀p∈X.pn++pins,p.1≠b) :
  Inv X pins σ H' {s with heap:=h',gens:=g',drawn:=d',toks:=t'}:=by
 obtain⟨m,⟨o,es,ep,ho,r⟩,_⟩:=id I.loc
 obtain⟨sl,hL⟩:=u.any ho I.free λz=>(hch _ z).2.1 rfl
 exact I.step (ch:=ch) hch (λb o hL hb hc e n=>u.keep b o e n (λz=>(UX.mp (I.xK b z)).elim hL hb) hc) (λb o _ _ hc e n=>u.any e n hc) (λb o hc e n=>u.free b o e n hc) (λb o hc e=>u.there b o e hc) u.tups u.oZ u.qD (λm' hm=>by
  obtain⟨o',es',ep',ho',r'⟩:=hm
  rw [ho]at ho'; cases ho'
  exact⟨_,es',ep',hL,r'⟩) hok hg
theorem Inv.turned{t':Nat}{it:Addr}(I:Inv X pins σ H s)(k:∀b o,b≠it->s.heap.get? b=some o->h'.get? b=some o)(hn:H it=none)(hL:it≠X.env.locals)
  (h1:it∈X.ex\/X.s₀.heap.objs.size<=it) (h2:∀x c,X.env.cells.lookup x=some c->c≠it) (h3:∀p∈X.pn++pins,p.1≠it):Inv X pins σ H {s with heap:=h',toks:=t'}:=by
 have GR:∀b u,H b=some u->b≠it:=λb u e z=>by rw [z,hn]at e; cases e
 refine I.step (g':=s.gens) (d':=s.drawn) (ch:=[it]) (λb hb=>?_) (λb o _ _ hc e _=>k b o (λz=>hc (by simp [z])) e) (λb o _ _ hc e _=>⟨o.slots,k b o (λz=>hc (by simp [z])) e⟩) (λ_ _ _ _ n=>n)
  (λb o hc e=>⟨o,k b o (λz=>hc (by simp [z])) e⟩) (λ_ _ e=>e) (λ_ _ _ e=>e) (λb ps e=>⟨#[],by rw [e]; simp⟩) (λm hm=>?_) (λb u e=>?_) I.bare
 ·have e:b=it:=by simpa using hb
  subst e
  exact⟨h1,hL,h2,h3⟩
 ·obtain⟨o,es,ep,ho,r⟩:=hm
  exact⟨o,es,ep,k _ o (Ne.symm hL) ho,r⟩
 ·refine(I.hok b u e).stay (λc v hc q=>k c v ?_ q) (λ_ q=>q) λ_ _ q=>q
  rcases hc with z | z
  ·rw [z]; exact GR b u e
  ·exact GR c _ z
theorem Inv.tok(I:Inv X pins σ H s)(t:Nat):Inv X pins σ H {s with toks:=t}:=I.un (h':=s.heap) (t':=t) Un.refl I.hok
theorem Inv.kept{t':Nat}(I:Inv X pins σ H s)(k:∀b u,s.heap.get? b=some u->h'.get? b=some u):Inv X pins σ H {s with heap:=h',toks:=t'}:=I.un (Un.kept k) (I.hok.kept k)
theorem Inv.laid{a:Addr}{o:HO}{t':Nat}(I:Inv X pins σ H s)(k:∀b u,s.heap.get? b=some u->h'.get? b=some u)(hp:s.heap.objs.size<=a)(new:cz X.prog X.w (upd H a o) h' a o) :
  Inv X pins σ (upd H a o) {s with heap:=h',toks:=t'}:=I.un (Un.laid k hp (I.hok.fresh hp)) (I.hok.laid k hp new)
theorem Inv.write{x e:Addr}{o:HO}{t':Nat}(I:Inv X pins σ H s)(mu:MM (H x))(he:e=x\/H e=some (.own x))(k:∀b u,b≠e->s.heap.get? b=some u->h'.get? b=some u)(heo:∃u,h'.get? e=some u)
  (new:cz X.prog X.w (upd H x o) h' x o):Inv X pins σ (upd H x o) {s with heap:=h',toks:=t'}:=I.un (Un.write mu he k heo) (I.hok.write mu he k heo new)
theorem Inv.iK{pins':List (Addr×Obj)}(I:Inv X pins σ H s)(h:∀p∈pins',s.heap.get? p.1=some p.2/\H p.1=none/\p.1≠X.env.locals/\p.1∉X.fs/\∀v,p.2.data≠ .cell v):Inv X pins' σ H s :=
 ⟨I.ok,I.os,I.bare,I.base,I.loc,I.cell,I.free,I.fV,λp hp=>(UZ.mp hp).elim (λz=>I.pin p (List.mem_append_left _ z)) (h p),I.hok,I.len⟩
theorem pE{N:List Str}(hN:N.Nodup){i j:Nat}{x:Str}(a:N[i]? = some x)(b:N[j]? = some x):i=j:=by
 obtain⟨h1,e1⟩:=UT.mp a
 obtain⟨h2,e2⟩:=UT.mp b
 exact(List.getElem_inj hN).mp (e1.trans e2.symm)
theorem lW{M:Model}{A:Around}{E:Value->Shared->Prop}{i:Nat}{x:Str}{v:V}{u:Value}{Q:Unit->Shared->Prop}(I:Inv X pins σ H s)(hN:X.N.Nodup)(hi:X.N[i]? = some x)(hx:Loc X.env.scope x)(r:RelV v u)
  (h:∀s',Inv X pins (σ.set i (some v)) H s'->(∃a,Heap.SameBut a s.heap s'.heap/\(a=X.env.locals\/X.env.cells.lookup x=some a))->Q () s') (hf:X.fn x=true\/X.env.scope.names.lookup x=some .local:=by first | exact .inl rfl | exact .inr rfl | assumption):wpAny M A (storeName X.env x u) Q E s:=by
 obtain⟨m,hn,hl⟩:=id I.loc
 have hcls:(X.env.scope.kind == .class||(X.env.scope.kind == .module&&X.env.locals != X.env.globals))=false:=by rw [I.ok.kind]; rfl
 have Ei:i<σ.length:=by rw [I.len]; exact(UT.mp hi).1
 have EX:=I.EX
 have tracked:∀{a:Addr} {h':Heap},(∃o,s.heap.get? a=some o/\H a=none)->Heap.SameBut a s.heap h'->ja X.prog X.w H h':=λ{a h'} ha hs b ob e=>by
  obtain⟨_,_,hfree⟩:=ha
  refine(I.hok b ob e).stay (λc w' hc q=>(hs.2 c ?_).trans q) (λ_ q=>q) λ_ _ q=>q
  rintro rfl
  rcases hc with rfl | hc
  ·rw [hfree]at e; cases e
  ·rw [hfree]at hc; cases hc
 rcases hx with hk | hk
 ·refine wpAny_storeName_local hk hn (λh' hn' hs=>?_) hcls
  obtain⟨oL,_,_,hoL,_⟩:=id hn
  refine h _ ⟨I.ok,I.os,I.bare,⟨λb o e n hb hx=>?_,λb o e n hb hx=>?_,I.base.free,λb o e hx=>?_,I.base.tups,I.base.oZ,I.base.qD⟩,⟨_,hn',λj y v' e1 e2 e3=>?_⟩,λy c e=>?_,I.free,I.fV,λp hp=>?_,tracked ⟨oL,hoL,I.free⟩ hs,by simpa using I.len⟩ ⟨_,hs,.inl rfl⟩
  ·exact(hs.2 b (U0 (UM (UB e) I.ok.above))).trans (I.base.keep b o e n hb hx)
  ·obtain⟨sl,e1⟩:=I.base.slot b o e n hb hx
   exact⟨sl,(hs.2 b (U0 (UM (UB e) I.ok.above))).trans e1⟩
  ·obtain⟨o',e1⟩:=I.base.there b o e hx
   exact⟨o',(hs.2 b (U0 (UM (UB e) I.ok.above))).trans e1⟩
  ·by_cases hj:j=i
   ·subst hj
    rw [hi]at e1; cases e1
    rw [List.getElem?_set_self Ei]at e2
    cases e2
    exact⟨u,r,.inl ⟨hk,by simp⟩⟩
   ·rw [List.getElem?_set_ne (Ne.symm hj)]at e2
    obtain⟨u',r',q⟩:=hl j y v' e1 e2 e3
    refine⟨u',r',?_⟩
    rcases q with⟨k,e⟩ | ⟨k,c,e,z⟩
    ·refine .inl ⟨k,?_⟩
     have:y≠x:=λe=>hj (pE hN e1 (e▸hi))
     simp [this,e]
    ·exact .inr ⟨k,c,e,z.sameBut hs (EX y c e)⟩
  ·obtain⟨w',z⟩:=I.cell y c e
   exact⟨w',z.sameBut hs (EX y c e)⟩
  ·obtain⟨e,n,ne,nf,d⟩:=I.pin p hp
   exact⟨(hs.2 p.1 ne).trans e,n,ne,nf,d⟩
 ·have hfn:X.fn x=true:=by
   rcases hf with z | z
   ·exact z
   ·rw [z]at hk; cases hk
  obtain⟨c,hc⟩:=I.ok.has x (.inl hk)
  obtain⟨w',z⟩:=I.cell x c hc
  refine wpAny_storeName_cell I.ok.kind hk hc z (λh' hc' hs=>?_)
  obtain⟨oc,hoc,Oj⟩:=id z
  refine h {s with heap:=h'} ⟨I.ok,I.os,I.bare,⟨λb o e n hb hx=>?_,λb o e n hb hx=>?_,I.base.free,λb o e hx=>?_,I.base.tups,I.base.oZ,I.base.qD⟩,⟨m,hn.sameBut hs (Ne.symm (EX x c hc)),λj y v' e1 e2 e3=>?_⟩,λy c' e=>?_,I.free,I.fV,λp hp=>?_,tracked ⟨oc,hoc,I.fV x c hc⟩ hs,by simpa using I.len⟩ ⟨c,hs,.inr hc⟩
  ·exact(hs.2 b (U0 (UM (UB e) (I.ok.cab x c hfn hc)))).trans (I.base.keep b o e n hb hx)
  ·obtain⟨sl,e1⟩:=I.base.slot b o e n hb hx
   exact⟨sl,(hs.2 b (U0 (UM (UB e) (I.ok.cab x c hfn hc)))).trans e1⟩
  ·obtain⟨o',e1⟩:=I.base.there b o e hx
   exact⟨o',(hs.2 b (U0 (UM (UB e) (I.ok.cab x c hfn hc)))).trans e1⟩
  ·by_cases hj:j=i
   ·subst hj
    rw [hi]at e1; cases e1
    rw [List.getElem?_set_self Ei]at e2
    cases e2
    exact⟨u,r,.inr ⟨.inl hk,c,hc,hc'⟩⟩
   ·rw [List.getElem?_set_ne (Ne.symm hj)]at e2
    obtain⟨u',r',q⟩:=hl j y v' e1 e2 e3
    refine⟨u',r',?_⟩
    rcases q with q | ⟨k,c',e,z'⟩
    ·exact .inl q
    ·refine .inr ⟨k,c',e,z'.sameBut hs ?_⟩
     rintro rfl
     exact hj (pE hN e1 (I.ok.inj _ _ _ e hc▸hi))
  ·by_cases hcc:c'=c
   ·subst hcc; exact⟨_,hc'⟩
   ·obtain⟨w2,z2⟩:=I.cell y c' e
    exact⟨w2,z2.sameBut hs hcc⟩
  ·obtain⟨e,n,ne,nf,d⟩:=I.pin p hp
   refine⟨(hs.2 p.1 ?_).trans e,n,ne,nf,d⟩
   intro q
   rw [q,hoc]at e
   have q':oc=p.2:=U2 e
   exact d w' (by rw [←q']; exact Oj)
theorem hZ{M:Model}{A:Around}{E:Value->Shared->Prop}{i:Nat}{x:Str}{v:V}{u:Value}{Q:Unit->Shared->Prop}(I:Inv X pins σ H s)(hN:X.N.Nodup)(hi:X.N[i]? = some x)(hx:Loc X.env.scope x)(r:RelV v u)
  (h:∀s',Inv X pins (σ.set i (some v)) H s'->Q () s') (hf:X.fn x=true\/X.env.scope.names.lookup x=some .local:=by first | exact .inl rfl | exact .inr rfl | assumption):wpAny M A (storeName X.env x u) Q E s :=
 lW I hN hi hx r (λs' I' _=>h s' I') hf
theorem Inv.call'{s':Shared}{ch:List Addr}(I:Inv X pins σ H s)(ho:s'.os=s.os)(u:Un (frs X.stack) ch H H' s.heap s'.heap)(hok:ja X.prog X.w H' s'.heap)(hg:AllBare s'.gens)
  (hch:∀b∈ch,(b∈X.ex\/X.s₀.heap.objs.size<=b)/\b≠X.env.locals/\(∀x c,X.env.cells.lookup x=some c->c≠b)/\∀p∈X.pn++pins,p.1≠b):Inv X pins σ H' s':=by
 obtain⟨h',g',d',t',o'⟩:=s'
 have e:o'=s.os:=ho
 subst e
 exact I.call (g':=g') (t':=t') (d':=d') u hok hg hch
end
abbrev XK:=Value->Option Addr->Hp->Prop
abbrev St:=List (Option V)
abbrev VK:=V->Hp->Prop
abbrev TE:=St->Hp->VK->Prop
abbrev TT:=St->Hp->(Bool->Hp->Prop)->Prop
abbrev TA:=St->Hp->(List V->Hp->Prop)->Prop
structure Ends where
 nx:St->Hp->Prop
 rt:VK
 bk:St->Hp->Prop:=λ_ _=>False
 ct:St->Hp->Prop:=λ_ _=>False
abbrev TS:=Ends->St->Hp->Prop
def EP(X:Cx)(pins:List (Addr×Obj))(σ:St)(Q:VK)(u:Value)(s':Shared):Prop:=∃v H',Inv X pins σ H' s'/\RelV v u/\Q v H'
def TP(X:Cx)(pins:List (Addr×Obj))(σ:St)(Q:Bool->Hp->Prop)(b:Bool)(s':Shared):Prop:=∃H',Inv X pins σ H' s'/\Q b H'
def AP(X:Cx)(pins:List (Addr×Obj))(σ:St)(Q:List V->Hp->Prop)(us:List Value)(s':Shared):Prop:=∃vs H',Inv X pins σ H' s'/\Vals vs us/\Q vs H'
def SP(X:Cx)(pins:List (Addr×Obj))(D:Ends)(f:Flow)(s':Shared):Prop :=
 match f with
 | .next=>∃σ' H',Inv X pins σ' H' s'/\D.nx σ' H'
 | .brk=>∃σ' H',Inv X pins σ' H' s'/\D.bk σ' H'
 | .cont=>∃σ' H',Inv X pins σ' H' s'/\D.ct σ' H'
 | .ret u=>∃v σ' H',Inv X pins σ' H' s'/\RelV v u/\D.rt v H'
def PE(X:Cx)(e:Expr)(t:TE):Prop :=
 ∀(pins:List (Addr×Obj)) (s:Shared) (σ:St) (H:Hp) (Q:VK),Inv X pins σ H s->t σ H Q->wpAny (model X.prog X.w) X.A (eval e X.env) (EP X pins σ Q) X.xe s
def PT(X:Cx)(e:Expr)(t:TT):Prop :=
 ∀(pins:List (Addr×Obj)) (s:Shared) (σ:St) (H:Hp) (Q:Bool->Hp->Prop),Inv X pins σ H s->t σ H Q->wpAny (model X.prog X.w) X.A (isTrue e X.env (eval e X.env)) (TP X pins σ Q) X.xe s
def PW(X:Cx)(e:Expr)(t:TT):Prop :=
 ∀(whole:Sem Value) (pins:List (Addr×Obj)) (s:Shared) (σ:St) (H:Hp) (Q:Bool->Hp->Prop),Inv X pins σ H s->t σ H Q->wpAny (model X.prog X.w) X.A (isTrue e X.env whole) (TP X pins σ Q) X.xe s
theorem PW.pt{X:Cx}{e:Expr}{t:TT}(h:PW X e t):PT X e t:=h _
def PA(X:Cx)(es:List Expr)(t:TA):Prop :=
 ∀(pos:Pos) (pins:List (Addr×Obj)) (s:Shared) (σ:St) (H:Hp) (Q:List V->Hp->Prop),Inv X pins σ H s->t σ H Q->wpAny (model X.prog X.w) X.A (spliced (backTo pos (starEach es X.env))) (AP X pins σ Q) X.xe s
def PS(X:Cx)(st:Stmt)(t:TS):Prop :=
 ∀(pins:List (Addr×Obj)) (s:Shared) (σ:St) (H:Hp) (D:Ends),Inv X pins σ H s->t D σ H->wpAny (model X.prog X.w) X.A (exec st X.env) (SP X pins D) X.xe s
def nN(X:Cx)(st:List Stmt)(t:TS):Prop :=
 ∀(pins:List (Addr×Obj)) (s:Shared) (σ:St) (H:Hp) (D:Ends),Inv X pins σ H s->t D σ H->wpAny (model X.prog X.w) X.A (execs st X.env) (SP X pins D) X.xe s
theorem b_{α:Type}{t:Sem α}{Q Q':α->Shared->Prop}{M:Model}{A:Around}{E:Value->Shared->Prop}{s:Shared}(h:wpAny M A t Q E s)(hQ:∀a s,Q a s->Q' a s):wpAny M A t Q' E s:=U8 h hQ λ_ _ x=>x
section
variable{X:Cx}
def bx(i:Nat):TE:=λσ H Q=>∃v,σ[i]? = some (some v)/\Q v H
def tC(v:V):TE:=λ_ H Q=>Q v H
theorem yb{i:Nat}{x:Str}{pos:Pos}(hN:X.N[i]? = some x)(hv:OD X.env.scope x)(hd:(x==("__debug__" : Str))=false:=by decide)(hcd:(x==("__classdict__" : Str))=false:=by decide):PE X (.Name x pos) (bx i):=by
 intro pins s σ H Q I h
 obtain⟨v,e,h⟩:=h
 obtain⟨m,hn,hl⟩:=I.loc
 obtain⟨u,r,l⟩:=hl i x v hN e hv
 have fin:EP X pins σ Q u s:=⟨v,H,I,r,h⟩
 rcases l with⟨hk,hm⟩ | ⟨hk,c,hc,hcell⟩
 ·exact wpAny_Name (wpAny_loadName_local I.ok.kind hk hn hm fin) hd
 ·rcases hk with hk | hk
  ·exact wpAny_Name (wpAny_loadName_cell I.ok.kind hk hc hcell fin) hd
  ·exact wpAny_Name (wpAny_loadName_free I.ok.kind hk hc hcell fin hcd) hd
theorem ai{i j pos}:PE X (.Constant (.int i) j pos) (tC (.int i)):=λ_ _ _ H _ I h=>wpAny_Constant_int ⟨.int i,H,I.tok _,⟨_,rfl⟩,h⟩
theorem fY{b j pos}:PE X (.Constant (.bool b) j pos) (tC (.bl b)):=λ_ _ _ H _ I h=>Constant_bool ⟨.bl b,H,I,rfl,h⟩
theorem iQ{j pos}:PE X (.Constant .none j pos) (tC .non):=λ_ _ _ H _ I h=>Constant_none ⟨.non,H,I,rfl,h⟩
theorem ao{x j pos}:PE X (.Constant (.str x) j pos) (tC (.str x)):=λ_ _ _ H _ I h=>Calls.Constant_str ⟨.str x,H,I.tok _,⟨_,rfl⟩,h⟩
def Gl(X:Cx)(x:Str):Prop:=X.env.kindOf x=some .globalImplicit
theorem nh{E:Value->Shared->Prop}{pins:List (Addr×Obj)}{s:Shared}{σ:St}{H:Hp}{x:Str}{u:Value}{pos:Pos}{Q:Value->Shared->Prop}(I:Inv X pins σ H s)(hg:Gl X x)(hm:X.mg x=some u)(h:Q u s)
  (hd:(x==("__debug__" : Str))=false:=by decide):wpAny (model X.prog X.w) X.A (eval (.Name x pos) X.env) Q E s :=
 Calls.Name_function_global I.ok.kind hg (Calls.loadGlobal_global (by rw [I.ok.glob]; exact I.mod.glob.keeps I.bk) hm h) hd
theorem iM{E:Value->Shared->Prop}{pins:List (Addr×Obj)}{s:Shared}{σ:St}{H:Hp}{x:Str}{u:Value}{pos:Pos}{Q:Value->Shared->Prop}(I:Inv X pins σ H s)(hg:Gl X x)(hm:X.mg x=none)(hv:bootBuiltins x=some u)(h:Q u s)
  (hn:x≠"__name__":=by decide) (hd:(x==("__debug__" : Str))=false:=by decide):wpAny (model X.prog X.w) X.A (eval (.Name x pos) X.env) Q E s:=by
 obtain⟨mb,h1,h2⟩:=I.mod.blt
 exact Calls.Name_function_global I.ok.kind hg (Calls.loadGlobal_builtin (by rw [I.ok.glob]; exact I.mod.glob.keeps I.bk) hm (by rw [I.ok.blt]; exact h1.keeps I.bk) ((h2 x hn).trans hv) h) hd
theorem cS{x:Str}{v:V}{u:Value}{pos:Pos}(hg:Gl X x)(hm:X.mg x=some u)(r:RelV v u)(hd:(x==("__debug__" : Str))=false:=by decide):PE X (.Name x pos) (tC v) :=
 λ_ _ _ H _ I h=>nh I hg hm ⟨v,H,I,r,h⟩ hd
theorem F8{x:Str}{v:V}{u:Value}{pos:Pos}(hg:Gl X x)(hm:X.mg x=none)(hv:bootBuiltins x=some u)(r:RelV v u)(hn:x≠"__name__":=by decide)(hd:(x==("__debug__" : Str))=false:=by decide):PE X (.Name x pos) (tC v) :=
 λ_ _ _ H _ I h=>iM I hg hm hv ⟨v,H,I,r,h⟩ hn hd
variable{a b:Expr}{ta tb:TE}{pos:Pos}
def tB(t:TE):TT:=λσ H Q=>t σ H λx H1=>∃c,x=.bl c/\Q c H1
theorem fw{e:Expr}{t:TE}(h:PE X e t)(he:∀whole,isTrue e X.env whole=(do let v←whole; standAt e.pos; holding [v] (truthy v)):=by intro _; rfl):PT X e (tB t):=by
 intro pins s σ H Q I hw
 refine isTrue_plain (b_ (h pins s σ H _ I hw) λv s1 ⟨x,H1,I1,r1,q1⟩=>?_) (he _)
 obtain⟨d,rfl,q⟩:=q1
 cases r1
 exact wpAny_truthy_bool ⟨H1,I1,q⟩
variable{tA Md:TT}{rest:List Expr}
def K1(t u:TT):TT:=λσ H Q=>t σ H λc H1=>if c=true then u σ H1 Q else Q false H1
def Se(t u:TT):TT:=λσ H Q=>t σ H λc H1=>if c=true then Q true H1 else u σ H1 Q
def Pn(t:TT):TT:=λσ H Q=>t σ H λc H1=>Q (!c) H1
theorem iT(ha:PT X a tA):PW X (.BoolOp .And [a] pos) tA:=by
 intro wh pins s σ H Q I h
 refine isTrue_and (b_ (ha pins s σ H Q I h) λc s1 e=>?_)
 cases c with
 | true=>exact isTrue_and_nil e
 | false=>exact e
theorem Bi(ha:PT X a tA):PW X (.BoolOp .Or [a] pos) tA:=by
 intro wh pins s σ H Q I h
 refine isTrue_or (b_ (ha pins s σ H Q I h) λc s1 e=>?_)
 cases c with
 | false=>exact isTrue_or_nil e
 | true=>exact e
theorem j7(ha:PT X a tA)(hb:PW X (.BoolOp .And (b::rest) pos) Md):PW X (.BoolOp .And (a::b::rest) pos) (K1 tA Md):=by
 intro wh pins s σ H Q I h
 refine isTrue_and (b_ (ha pins s σ H _ I h) λc s1 ⟨H1,I1,q1⟩=>?_)
 cases c with
 | true=>exact hb wh pins s1 σ H1 Q I1 q1
 | false=>exact⟨H1,I1,q1⟩
theorem BL(ha:PT X a tA)(hb:PW X (.BoolOp .Or (b::rest) pos) Md):PW X (.BoolOp .Or (a::b::rest) pos) (Se tA Md):=by
 intro wh pins s σ H Q I h
 refine isTrue_or (b_ (ha pins s σ H _ I h) λc s1 ⟨H1,I1,q1⟩=>?_)
 cases c with
 | true=>exact⟨H1,I1,q1⟩
 | false=>exact hb wh pins s1 σ H1 Q I1 q1
theorem sH(ha:PT X a tA):PT X (.UnaryOp .Not a pos) (Pn tA):=by
 intro pins s σ H Q I h
 exact isTrue_not (ha pins s σ H (λc H1=>Q (!c) H1) I h)
def Hj(ta tb:TE):TE:=λσ H Q=>ta σ H λx H1=>∃c,x=.bl c/\if c=true then tb σ H1 Q else Q (.bl false) H1
def uJ(ta tb:TE):TE:=λσ H Q=>ta σ H λx H1=>∃c,x=.bl c/\if c=true then Q (.bl true) H1 else tb σ H1 Q
def GY(ta:TE):TE:=λσ H Q=>ta σ H λx H1=>∃c,x=.bl c/\Q (.bl (!c)) H1
theorem cZ{op}{t:TE}(h:PE X a t):PE X (.BoolOp op [a] pos) t:=λpins s σ H Q I hw=>BoolOp_one (h pins s σ H Q I hw)
theorem pY(ha:PE X a ta)(hb:PE X (.BoolOp .And (b::rest) pos) tb):PE X (.BoolOp .And (a::b::rest) pos) (Hj ta tb):=by
 intro pins s σ H Q I h
 refine BoolOp_and (b_ (ha pins s σ H _ I h) λv s1 ⟨x,H1,I1,r1,q1⟩=>?_)
 obtain⟨c,rfl,q1⟩:=q1
 cases r1
 refine wpAny_truthy_bool ?_
 cases c with
 | true=>exact hb pins s1 σ H1 Q I1 q1
 | false=>exact⟨.bl false,H1,I1,rfl,q1⟩
theorem fQ(ha:PE X a ta)(hb:PE X (.BoolOp .Or (b::rest) pos) tb):PE X (.BoolOp .Or (a::b::rest) pos) (uJ ta tb):=by
 intro pins s σ H Q I h
 refine BoolOp_or (b_ (ha pins s σ H _ I h) λv s1 ⟨x,H1,I1,r1,q1⟩=>?_)
 obtain⟨c,rfl,q1⟩:=q1
 cases r1
 refine wpAny_truthy_bool ?_
 cases c with
 | false=>exact hb pins s1 σ H1 Q I1 q1
 | true=>exact⟨.bl true,H1,I1,rfl,q1⟩
theorem Jk(ha:PE X a ta):PE X (.UnaryOp .Not a pos) (GY ta):=by
 intro pins s σ H Q I h
 refine UnaryOp_ (b_ (ha pins s σ H _ I h) λv s1 ⟨x,H1,I1,r1,q1⟩=>?_)
 obtain⟨c,rfl,q1⟩:=q1
 cases r1
 exact not_of (wpAny_truthy_bool ⟨.bl (!c),H1,I1,rfl,q1⟩)
def Qg(t:TT)(ta tb:TE):TE:=λσ H Q=>t σ H λc H1=>if c=true then ta σ H1 Q else tb σ H1 Q
theorem eM{c:Expr}(hc:PT X c tA)(ha:PE X a ta)(hb:PE X b tb):PE X (.IfExp c a b pos) (Qg tA ta tb):=by
 intro pins s σ H Q I h
 refine wpAny_IfExp (b_ (hc pins s σ H _ I h) λd s1 ⟨H1,I1,q1⟩=>?_)
 cases d with
 | true=>exact ha pins s1 σ H1 Q I1 q1
 | false=>exact hb pins s1 σ H1 Q I1 q1
end
def aZ(K:Ve)(H:Hp)(a:Addr)(xs:List V):Prop :=
 Rd H a (.lst xs)\/
  ∃(o:Obj) (its:Array Value) (n:Nat),K.lookup a=some o/\o.cls=.type "list"/\o.dict=none/\o.data=.seq its n/\its.size<=sizeLine/\Vals xs its.toList
def aH(K:Ve)(H:Hp)(a:Addr)(xs:List V):Prop :=
 Rd H a (.tup xs)\/
  ∃(o:Obj) (its:Array Value) (n:Nat),K.lookup a=some o/\o.cls=.type "tuple"/\o.data=.seq its n/\its.size<=sizeLine/\Vals xs its.toList
def OQ:Value->Option V
 | .none=>some .non
 | .bool b=>some (.bl b)
 | .int i _=>some (.int i)
 | .str x _=>some (.str x)
 | .bytes b _=>some (.yv b)
 | .float b _=>some (.flt b)
 | .ref a=>some (.ref a)
 | .type n=>some (.ty n)
 | _=>none
theorem RelV.abs{x:V}{u:Value}(r:RelV x u):OQ u=some x:=by
 cases x with
 | non=>cases r; rfl
 | bl _=>cases r; rfl
 | int _=>obtain⟨t,rfl⟩:=r; rfl
 | str _=>obtain⟨t,rfl⟩:=r; rfl
 | yv _=>obtain⟨t,rfl⟩:=r; rfl
 | flt _=>obtain⟨t,rfl⟩:=r; rfl
 | ref _=>cases r; rfl
 | ty _=>cases r; rfl
theorem RelV.inj{x y:V}{u:Value}(r:RelV x u)(q:RelV y u):x=y:=U2 (r.abs.symm.trans q.abs)
theorem Vals.inj:∀{xs ys:List V} {us:List Value},Vals xs us->Vals ys us->xs=ys
 | _,_,_,.nil,.nil=>rfl
 | _,_,_,.cons r t,.cons r' t'=>by rw [r.inj r',Vals.inj t t']
section
variable{X:Cx}{pins:List (Addr×Obj)}{σ:St}{H:Hp}{s:Shared}{a:Addr}{xs ys:List V}
theorem aZ.of{K:Ve}(h:H a=some (.lst xs)):aZ K H a xs:=.inl (.inl h)
theorem aH.of{K:Ve}(h:H a=some (.tup xs)):aH K H a xs:=.inl (.inl h)
theorem Inv.list(I:Inv X pins σ H s)(h:aZ X.K H a xs):∃its:List Value,Vals xs its/\PlainL s.heap a its.toArray/\xs.length<=sizeLine:=by
 rcases h with h | ⟨o,its,n,hk,hc,hd,hs,hz,r⟩
 ·obtain⟨z,its,n,r,e⟩:=h.ok I.hok
  exact⟨its,r,⟨_,n,e,rfl,rfl,rfl⟩,z⟩
 ·refine⟨its.toList,r,⟨o,n,I.jJ a o hk,hc,hd,by simpa using hs⟩,?_⟩
  have e:=r.length
  simp only [Array.length_toList]at e
  omega
theorem Inv.tuple(I:Inv X pins σ H s)(h:aH X.K H a xs):∃its:List Value,Vals xs its/\IsTup s.heap a its.toArray/\xs.length<=sizeLine:=by
 rcases h with h | ⟨o,its,n,hk,hc,hs,hz,r⟩
 ·obtain⟨z,its,r,p⟩:=h.ok I.hok
  exact⟨its,r,p.tup,z⟩
 ·refine⟨its.toList,r,⟨o,I.jJ a o hk,hc,n,by simpa using hs⟩,?_⟩
  have e:=r.length
  simp only [Array.length_toList]at e
  omega
theorem Inv.BX(I:Inv X pins σ H s)(h:aZ X.K H a xs)(h':aZ X.K H a ys):xs=ys:=by
 obtain⟨its,r,⟨o,n,e,_,_,d⟩,_⟩:=I.list h
 obtain⟨its',r',⟨o',n',e',_,_,d'⟩,_⟩:=I.list h'
 rw [e]at e'; cases e'
 rw [d]at d'
 injection d' with d1 _
 have:its=its':=by simpa using congrArg Array.toList d1
 subst this
 exact r.inj r'
theorem Inv.ic(I:Inv X pins σ H s)(h:aH X.K H a xs)(h':aH X.K H a ys):xs=ys:=by
 obtain⟨its,r,⟨o,e,_,n,d⟩,_⟩:=I.tuple h
 obtain⟨its',r',⟨o',e',_,n',d'⟩,_⟩:=I.tuple h'
 rw [e]at e'; cases e'
 rw [d]at d'
 injection d' with d1 _
 have:its=its':=by simpa using congrArg Array.toList d1
 subst this
 exact r.inj r'
end
abbrev Cx.wish(X:Cx)(E:Value->Shared->Prop):Cx:={X with xe:=E}
abbrev Cx.yC(X:Cx):Cx:=X.wish λ_ _=>False
theorem Cx.Ok.wish{X:Cx}(ok:X.Ok)(E:Value->Shared->Prop):(X.wish E).Ok :=
 ⟨ok.mod,ok.kind,ok.glob,ok.blt,ok.above,ok.inj,ok.has,ok.cab,ok.hd,ok.frames,ok.J8,ok.zw,ok.bs,ok.A3,ok.um,ok.pH,ok.j8,ok.Ep⟩
theorem Cx.Ok.de{X:Cx}{E:Value->Shared->Prop}(ok:(X.wish E).Ok):X.Ok :=
 ⟨ok.mod,ok.kind,ok.glob,ok.blt,ok.above,ok.inj,ok.has,ok.cab,ok.hd,ok.frames,ok.J8,ok.zw,ok.bs,ok.A3,ok.um,ok.pH,ok.j8,ok.Ep⟩
section
variable{X:Cx}{pins:List (Addr×Obj)}{σ:St}{H:Hp}{s:Shared}{E:Value->Shared->Prop}
theorem Inv.wish(I:Inv X pins σ H s)(E:Value->Shared->Prop):Inv (X.wish E) pins σ H s:=⟨I.ok.wish E,I.os,I.bare,I.base,I.loc,I.cell,I.free,I.fV,I.pin,I.hok,I.len⟩
theorem Inv.de(I:Inv (X.wish E) pins σ H s):Inv X pins σ H s:=⟨I.ok.de,I.os,I.bare,I.base,I.loc,I.cell,I.free,I.fV,I.pin,I.hok,I.len⟩
theorem SP.de{D:Ends}{f:Flow}{s':Shared}(h:SP (X.wish E) pins D f s'):SP X pins D f s':=by
 cases f with
 | next=>obtain⟨σ',H',I,q⟩:=h; exact⟨σ',H',I.de,q⟩
 | brk=>obtain⟨σ',H',I,q⟩:=h; exact⟨σ',H',I.de,q⟩
 | cont=>obtain⟨σ',H',I,q⟩:=h; exact⟨σ',H',I.de,q⟩
 | ret u=>obtain⟨v,σ',H',I,r,q⟩:=h; exact⟨v,σ',H',I.de,r,q⟩
theorem PE.yC{e:Expr}{t:TE}(h:PE X.yC e t):PE X e t:=λpins s σ H Q I hw =>
 U8 (h pins s σ H Q (I.wish _) hw) (λ_ _ ⟨v,H',I',r,q⟩=>⟨v,H',I'.de,r,q⟩) λ_ _ z=>False.elim z
theorem nN.yC{st:List Stmt}{t:TS}(h:nN X.yC st t):nN X st t:=λpins s σ H D I hw =>
 U8 (h pins s σ H D (I.wish _) hw) (λ_ _ q=>q.de) λ_ _ z=>False.elim z
end
section
variable{X:Cx}{st:Stmt}{rest:List Stmt}{t u:TS}{e:Expr}{te:TE}{pos:Pos}
def CH:TS:=λD σ H=>D.nx σ H
def FC(t u:TS):TS:=λD σ H=>t {D with nx:=u D} σ H
theorem cb:nN X [] CH:=λ_ _ σ H _ I h=>wpAny_execs_nil ⟨σ,H,I,h⟩
theorem aq(h1:PS X st t)(h2:nN X rest u):nN X (st::rest) (FC t u):=by
 intro pins s σ H D I h
 refine wpAny_execs_cons (b_ (h1 pins s σ H {D with nx:=u D} I h) λf s1 q=>?_)
 cases f with
 | next =>
  obtain⟨σ',H',I',q⟩:=q
  exact h2 pins s1 σ' H' D I' q
 | ret v=>exact q
 | brk=>exact q
 | cont=>exact q
theorem bK(h1:PS X st t):nN X [st] t:=by
 intro pins s σ H D I h
 refine wpAny_execs_cons (b_ (h1 pins s σ H D I h) λf s1 q=>?_)
 cases f with
 | next=>exact wpAny_execs_nil q
 | ret v=>exact q
 | brk=>exact q
 | cont=>exact q
theorem Inv.quiet{pins:List (Addr×Obj)}{σ:St}{H:Hp}{s:Shared}(I:Inv X pins σ H s):interactive X.env=false:=by simp [interactive,I.ok.kind]
def Mq(te:TE):TS:=λD σ H=>te σ H λ_ H1=>D.nx σ H1
theorem fK(he:PE X e te)(hs:swapsWith e none pos.line X.env=pure false:=by rfl):PS X (.Expr e pos) (Mq te):=by
 intro pins s σ H D I h
 exact wpAny_Expr_any (b_ (he pins s σ H _ I h) λv s1 ⟨x,H1,I1,r1,q1⟩=>⟨σ,H1,I1,q1⟩) I.quiet hs
def D5(te:TE):TS:=λD σ H=>te σ H D.rt
theorem Ce(he:PE X e te):PS X (.Return (some e) pos) (D5 te):=by
 intro pins s σ H D I h
 exact wpAny_Return_some (b_ (he pins s σ H _ I h) λv s1 ⟨x,H1,I1,r1,q1⟩=>⟨x,σ,H1,I1,r1,q1⟩)
def Jf(c:TT)(t u:TS):TS:=λD σ H=>c σ H λb H1=>if b=true then t D σ H1 else u D σ H1
theorem dy{c:Expr}{a b:List Stmt}{tc:TT}(hc:PT X c tc)(ha:nN X a t)(hb:nN X b u):PS X (.If c a b pos) (Jf tc t u):=by
 intro pins s σ H D I h
 refine wpAny_If (b_ (hc pins s σ H _ I h) λd s1 ⟨H1,I1,q1⟩=>?_)
 cases d with
 | true=>exact ha pins s1 σ H1 D I1 q1
 | false=>exact hb pins s1 σ H1 D I1 q1
end
abbrev TG:=V->St->Hp->(St->Hp->Prop)->Prop
abbrev IP:=List V->St->Hp->(St->Hp->Prop)->Prop
def PG(X:Cx)(target:Expr)(t:TG):Prop :=
 ∀(pins:List (Addr×Obj)) (s:Shared) (σ:St) (H:Hp) (v:V) (u:Value) (Q:St->Hp->Prop),Inv X pins σ H s->RelV v u->t v σ H Q->
  wpAny (model X.prog X.w) X.A (assign target X.env u) (λ_ s'=>∃σ' H',Inv X pins σ' H' s'/\Q σ' H') X.xe s
def NK(X:Cx)(ts:List Expr)(t:IP):Prop :=
 ∀(pins:List (Addr×Obj)) (s:Shared) (σ:St) (H:Hp) (vs:List V) (us:List Value) (Q:St->Hp->Prop),Inv X pins σ H s->Vals vs us->t vs σ H Q->
  wpAny (model X.prog X.w) X.A (assignInOrder ((assignEach ts X.env).map (·.2)) us) (λ_ s'=>∃σ' H',Inv X pins σ' H' s'/\Q σ' H') X.xe s
abbrev JQ:=V->V->V->Hp->(Hp->Prop)->Prop
def LL(X:Cx)(t:JQ):Prop :=
 ∀(pins:List (Addr×Obj)) (s:Shared) (σ:St) (H:Hp) (o i v:V) (ov iv u:Value) (Q:Hp->Prop),Inv X pins σ H s->RelV o ov->RelV i iv->RelV v u->t o i v H Q->
  wpAny (model X.prog X.w) X.A (setItem ov iv u) (λ_ s'=>∃H',Inv X pins σ H' s'/\Q H') X.xe s
section
variable{X:Cx}{pos:Pos}
def bz(i:Nat):TG:=λv σ H Q=>Q (σ.set i (some v)) H
theorem bT{i:Nat}{x:Str}(hN:X.N.Nodup)(hi:X.N[i]? = some x)(hx:Loc X.env.scope x)(hf:X.fn x=true\/X.env.scope.names.lookup x=some .local:=by first | exact .inl rfl | exact .inr rfl | assumption):PG X (.Name x pos) (bz i):=by
 intro pins s σ H v u Q I r h
 exact wpAny_assign_Name (hZ I hN hi hx r (λs' I'=>⟨_,H,I',h⟩) hf)
def iX:IP:=λvs σ H Q=>vs=[]/\Q σ H
def bO(t:TG)(u:IP):IP:=λvs σ H Q=>∃v r,vs=v::r/\t v σ H λσ' H'=>u r σ' H' Q
theorem bS:NK X [] iX:=by
 intro pins s σ H vs us Q I r h
 obtain⟨e,h⟩:=h
 subst e
 cases r
 exact assignInOrder_nil ⟨σ,H,I,h⟩
theorem aD{e:Expr}{es:List Expr}{t:TG}{u:IP}(h1:PG X e t)(h2:NK X es u)
  (hs:(assignEach (e::es) X.env).map (·.2)=assign e X.env::(assignEach es X.env).map (·.2):=by rfl):NK X (e::es) (bO t u):=by
 intro pins s σ H vs us Q I r h
 obtain⟨v,vr,e1,h⟩:=h
 subst e1
 cases r with
 | cons r rr =>
  rw [hs]
  refine assignInOrder_cons (b_ (h1 pins s σ H _ _ _ I r h) λ_ s1 ⟨El,H1,I1,q1⟩=>?_)
  exact h2 pins s1 El H1 _ _ Q I1 rr q1
def iO(K:Ve)(n:Nat)(t:IP):TG:=λv σ H Q=>∃a xs,v=.ref a/\aH K H a xs/\xs.length=n/\t xs σ H Q
theorem cC{es:List Expr}{k:Nat}{t:IP}{n:Nat}(hc:X.calm=true)(h:NK X es t)
  (hn:(assignEach es X.env).length=n:=by rfl) (hst:(assignEach es X.env).findIdx? (·.1)=none:=by rfl):PG X (.Tuple es k pos) (iO X.K n t):=by
 intro pins s σ H v u Q I r hw
 obtain⟨a,xs,e1,hq,hl,hw⟩:=hw
 subst e1
 cases r
 obtain⟨its,rv,ht,hz⟩:=I.tuple hq
 refine assign_Tuple_tuple (I.ok.hd hc) ht (by simp [hn,←hl,rv.length]) hst λh' hx=>?_
 have I1:Inv X pins σ H {s with heap:=h'}:=I.kept (t':=s.toks) λb o e=>hx b o (U0 (UB e)) e
 exact h pins _ σ H xs _ Q I1 (by simpa using rv) hw
def Ov(to ti:TE)(t:JQ):TG:=λv σ H Q=>to σ H λo H1=>ti σ H1 λi H2=>t o i v H2 λH3=>Q σ H3
theorem Eg{o i:Expr}{to ti:TE}{t:JQ}(ho:PE X o to)(hi:PE X i ti)(hs:LL X t)
  (ha:∀v,assign (.Subscript o i pos) X.env v=(do
   let ov←holding [v] (eval o X.env)
   let iv←holding [v,ov] (eval i X.env)
   standAt pos
   holding [v,ov,iv] (setItem ov iv v)
   release [v,ov,iv] []):=by intro _; rfl):PG X (.Subscript o i pos) (Ov to ti t):=by
 intro pins s σ H v u Q I r h
 rw [ha]
 refine Uy (U9 (b_ (ho pins s σ H _ I h) λov s1 ⟨x,H1,I1,r1,q1⟩=>?_))
 refine Uy (U9 (b_ (hi pins s1 σ H1 _ I1 q1) λiv s2 ⟨y,H2,I2,r2,q2⟩=>?_))
 refine Uy (wpAny_standAt (Uy (U9 (b_ (hs pins s2 σ H2 x y v ov iv u _ I2 r1 r2 r q2) λ_ s3 ⟨H3,I3,q3⟩=>?_))))
 exact wpAny_release ⟨σ,H3,I3,q3⟩
def BC(te:TE)(g:TG):TS:=λD σ H=>te σ H λx H1=>g x σ H1 D.nx
theorem pD{tg e:Expr}{te:TE}{g:TG}(he:PE X e te)(hg:PG X tg g)(hs:swapsWithSole [tg] e pos.line X.env=pure false:=by rfl)(hw:swappedStores [tg] e X.env=pure none:=by rfl)
  (h1:(assignEach [tg] X.env).map (·.2)=[assign tg X.env]:=by rfl):PS X (.Assign [tg] e pos) (BC te g):=by
 intro pins s σ H D I h
 refine wpAny_Assign_stores (b_ (he pins s σ H _ I h) λv s1 ⟨x,H1,I1,r1,q1⟩=>?_) hs hw
 rw [h1]
 exact b_ (hg pins s1 σ H1 x v _ I1 r1 q1) λ_ s2 q=>q
theorem aL{i:Nat}{x:Str}{e:Expr}{te:TE}{pos':Pos}(hN:X.N.Nodup)(hi:X.N[i]? = some x)(hx:Loc X.env.scope x)(he:PE X e te)(hs:swapsWith e (some (.Name x pos')) pos.line X.env=pure false:=by rfl)(hf:X.fn x=true\/X.env.scope.names.lookup x=some .local:=by first | exact .inl rfl | exact .inr rfl | assumption) :
  PS X (.Assign [.Name x pos'] e pos) (BC te (bz i)):=by
 intro pins s σ H D I h
 refine wpAny_Assign_Name (b_ (he pins s σ H _ I h) λv s1 ⟨y,H1,I1,r1,q1⟩=>?_) hs
 exact hZ I1 hN hi hx r1 (λs2 I2=>⟨_,H1,I2,q1⟩) hf
def PQ(i j:Nat)(ta:TA):TS:=λD σ H=>ta σ H λvs H1=>∃v w,vs=[v,w]/\D.nx ((σ.set i (some v)).set j (some w)) H1
theorem IV{i j:Nat}{x y:Str}{a b:Expr}{ta:TA}{px py pt:Pos}{kt k2 O3}(hc:X.calm=true)(hN:X.N.Nodup)(hi:X.N[i]? = some x)(hj:X.N[j]? = some y)(hij:i≠j)
  (hx:X.env.scope.names.lookup x=some .local) (hy:X.env.scope.names.lookup y=some .local) (ha:PA X [a,b] ta)
  (hw:swappedStores [.Tuple [.Name x px,.Name y py] kt pt] (.Tuple [a,b] k2 O3) X.env=pure (some [x,y]))
  (hs:swapsWithSole [.Tuple [.Name x px,.Name y py] kt pt] (.Tuple [a,b] k2 O3) pos.line X.env=pure false:=by rfl) :
  PS X (.Assign [.Tuple [.Name x px,.Name y py] kt pt] (.Tuple [a,b] k2 O3) pos) (PQ i j ta):=by
 intro pins s σ H D I h
 rw [exec_Assign_arm]
 refine Uy (wpAny_standAt ?_)
 rw [hs]
 refine Uy (Uz ?_)
 rw [if_neg (by decide)]
 refine Uy (Tuple_ (b_ (ha _ pins s σ H _ I h) λus s1 ⟨vs,H1,I1,r1,q1⟩=>?_))
 obtain⟨v,w,e1,q1⟩:=q1
 subst e1
 obtain⟨u1,u2,rfl,rv,xG⟩ :∃u1 u2,us=[u1,u2]/\RelV v u1/\RelV w u2:=by
  cases r1 with
  | cons p q =>
   cases q with
   | cons p' q' =>
    cases q'
    exact⟨_,_,rfl,p,p'⟩
 refine U_ ?_ (by show 2<=sizeLine; decide)
 have I2:Inv X pins σ H1 {s1 with heap:=s1.heap.push {cls:=.type "tuple",data:=.seq [u1,u2].toArray}}:=I1.kept (t':=s1.toks) λb o e=>UA _ e
 rw [hw]
 refine Uy (Uz ?_)
 show wpAny (model X.prog X.w) X.A (do rule "assign.swapped-stores"; let items←unpackItems (.ref s1.heap.objs.size) 2 none; assignInOrder [λv=>bindName X.env y v,λv=>bindName X.env x v] items.reverse; pure Flow.next) _ _ _
 refine Uy (wpAny_rule (Uy (unpackItems_tuple (items:=#[u1,u2]) (I.ok.hd hc) (IsTup.new s1.heap _) λh' hx'=>?_)))
 have I3:=I2.kept (h':=h') (t':=s1.toks) λb o e=>hx' b o (U0 (UB e)) e
 show wpAny _ _ (assignInOrder [λv=>bindName X.env y v,λv=>bindName X.env x v] [u2,u1] >>= λ_=>pure Flow.next) _ _ _
 refine Uy (assignInOrder_cons (wpAny_bindName (hZ I3 hN hj (.inl hy) xG (λs2 I4=>?_) (.inr hy))))
 refine assignInOrder_cons (wpAny_bindName (hZ I4 hN hi (.inl hx) rv (λs3 I5=>assignInOrder_nil (Uz ?_)) (.inr hx)))
 rw [List.set_comm _ _ (Ne.symm hij)]at I5
 exact⟨_,H1,I5,q1⟩
end
section
variable{X:Cx}{pos:Pos}
def IX(c:TT)(tb:TS):TS:=λD σ H=>∃W:Nat->St->Hp->Prop,(∃m,W m σ H)/\∀m σ H,W m σ H->
 c σ H λb H1=>if b=true then∃N:St->Hp->Prop,(∀σ' H',N σ' H'->∃m',m'<m/\W m' σ' H')/\tb {D with nx:=N,ct:=N,bk:=D.nx} σ H1 else D.nx σ H1
theorem BP{c:Expr}{body:List Stmt}{tc:TT}{tb:TS}(hp:PassesOwn (model X.prog X.w) X.A X.env X.xe)(hc:PT X c tc)(hb:nN X body tb):PS X (.While c body [] pos) (IX tc tb):=by
 intro pins s σ H D I h
 obtain⟨W,⟨m0,w0⟩,turn⟩:=h
 refine wpAny_While (codeAny_whileLoop (λn s'=>∃σ' H',Inv X pins σ' H' s'/\W n σ' H') ?_ m0 ⟨σ,H,I,w0⟩)
 rintro n s1 ⟨El,H1,I1,w1⟩
 refine wpAny_passesOwn hp (b_ (hc pins s1 El H1 _ I1 (turn n El H1 w1)) λb s2 ⟨H2,I2,q2⟩=>?_)
 cases b with
 | true =>
  obtain⟨N,hN,q2⟩:=q2
  rw [if_pos rfl]
  refine wpAny_passesOwn hp (b_ (hb pins s2 El H2 _ I2 q2) λf s3 q3=>?_)
  cases f with
  | next =>
   obtain⟨BA,H3,I3,n3⟩:=q3
   obtain⟨m',hm,w3⟩:=hN BA H3 n3
   exact⟨m',hm,BA,H3,I3,w3⟩
  | cont =>
   obtain⟨BA,H3,I3,n3⟩:=q3
   obtain⟨m',hm,w3⟩:=hN BA H3 n3
   exact⟨m',hm,BA,H3,I3,w3⟩
  | brk=>exact q3
  | ret v=>exact q3
 | false =>
  rw [if_neg UR]
  exact wpAny_execs_nil ⟨El,H2,I2,q2⟩
end
structure It where
 go:Nat->Hp->Prop
 FV:Nat->Hp->V->Hp->Prop
 stop:Nat->Hp->Prop
def dC(X:Cx)(pins:List (Addr×Obj))(H:Hp)(b:Addr):Prop :=
 H b=none/\b≠X.env.locals/\b∉X.fs/\(b∈X.ex\/X.s₀.heap.objs.size<=b)/\(∀x c,X.env.cells.lookup x=some c->c≠b)/\∀p∈X.pn++pins,p.1≠b
theorem Inv.l5{X:Cx}{pins:List (Addr×Obj)}{σ:St}{H H':Hp}{s:Shared}{b:Addr}(I:Inv X pins σ H s)(hb:s.heap.objs.size<=b)(hn:H' b=none):dC X pins H' b:=by
 refine⟨hn,Nat.ne_of_gt (UM I.lt hb),I.Od hb,.inr (UE I.sz hb),λx c e z=>?_,λp hp z=>?_⟩
 ·obtain⟨v,q⟩:=I.cell x c e
  exact absurd (UM q.lt (by rw [z]; exact hb)) (Nat.lt_irrefl _)
 ·exact absurd (UM (UB (I.pin p hp).1) (by rw [z]; exact hb)) (Nat.lt_irrefl _)
structure Turn(P:Program)(w:World)(K:Ve)(tg:Expr)(J:It)(fp:List Addr)(it:Addr)(tn:Nat->Heap->Prop):Prop where
 mem:it∈fp
 obj:∀i h,tn i h->∀b∈fp,∃o,h.get? b=some o/\∀v,o.data≠ .cell v
 keep:∀i h h',tn i h->(∀b∈fp,∀o,h.get? b=some o->h'.get? b=some o)->tn i h'
 item:∀(X:Cx),X.prog=P->X.w=w->X.K=K->X.calm=true->∀(i:Nat) (pins:List (Addr×Obj)) (s:Shared) (σ:St) (H:Hp) (E:Value->Shared->Prop),Inv X pins σ H s->(∀b∈fp,dC X pins H b)->tn i s.heap->J.go i H->
  wpAny (model P w) X.A (pyNext (.ref it)) (λr s1=>∃u,r=some u/\
   wpAny (model P w) X.A (letOwnedTupleGo tg (.ref it) u) (λ_ s2=>∃x H',Inv X pins σ H' s2/\RelV x u/\J.FV i H x H'/\tn (i+1) s2.heap/\∀b∈fp,H' b=none) E s1) E s
 done:∀(X:Cx),X.prog=P->X.w=w->X.K=K->X.calm=true->∀(i:Nat) (pins:List (Addr×Obj)) (s:Shared) (σ:St) (H:Hp) (E:Value->Shared->Prop),Inv X pins σ H s->(∀b∈fp,dC X pins H b)->tn i s.heap->J.stop i H->
  wpAny (model P w) X.A (pyNext (.ref it)) (λr s1=>r=none/\Inv X pins σ H s1) E s
 self:∀(A:Around) (i:Nat) (s:Shared) (Q:Value->Shared->Prop) (E:Value->Shared->Prop),tn i s.heap->Q (.ref it) s->wpAny (model P w) A (pyIter (.ref it)) Q E s
abbrev TI:=St->Hp->(It->Hp->Prop)->Prop
def PIE(X:Cx)(pins:List (Addr×Obj))(σ:St)(tg:Expr)(R:It->Hp->Prop)(itv:Value)(s2:Shared):Prop :=
 ∃(it:Addr) (fp:List Addr) (tn:Nat->Heap->Prop) (J:It) (H':Hp),itv=.ref it/\Inv X pins σ H' s2/\Turn X.prog X.w X.K tg J fp it tn/\tn 0 s2.heap/\(∀b∈fp,dC X pins H' b)/\R J H'
def PI(X:Cx)(tg iter:Expr)(wi:TI):Prop :=
 ∀(pins:List (Addr×Obj)) (s:Shared) (σ:St) (H:Hp) (R:It->Hp->Prop),Inv X pins σ H s->wi σ H R->
  wpAny (model X.prog X.w) X.A (eval iter X.env) (λv s1=>wpAny (model X.prog X.w) X.A (pyIter v) (PIE X pins σ tg R) X.xe s1) X.xe s
theorem Cy{M:Model}{A:Around}{E:Value->Shared->Prop}{s:Shared}{tg:Expr}{it:Addr}{u:Value}{o:Obj}{n:String}{vs:Array Value}{Q:Unit->Shared->Prop}(ho:s.heap.get? it=some o)(hc:o.cls=.type n)(hd:o.data=.fields vs)
  (hn:["enumerate","zip","dict_itemiterator","dict_reverseitemiterator","odict_iterator","itertools.zip_longest","itertools.pairwise"].contains n=false) (hQ:Q () s):wpAny M A (letOwnedTupleGo tg (.ref it) u) Q E s:=by
 unfold letOwnedTupleGo
 cases tg <;> first
  | exact Uz hQ
  | (cases u <;> first
    | exact Uz hQ
    | (refine Uy (wpAny_load ho ?_)
       rw [hc,hd]
       show wpAny M A (if(["enumerate","zip","dict_itemiterator","dict_reverseitemiterator","odict_iterator","itertools.zip_longest","itertools.pairwise"].contains n&&vs[0]? == some (rawInt _))=true then _ else _) Q E s
       rw [if_neg (by intro h; rw [hn,Bool.false_and]at h; cases h)]
       exact Uz hQ))
def NB(K:Ve)(a:Addr):It :=
 ⟨λi H=>∃xs x,aZ K H a xs/\xs[i]? = some x,λi H x H'=>H'=H/\∀xs,aZ K H a xs->xs[i]? = some x,λi H=>∃xs,aZ K H a xs/\xs.length<=i⟩
def Fw(K:Ve)(a:Addr):It :=
 ⟨λi H=>∃xs x,aH K H a xs/\xs[i]? = some x,λi H x H'=>H'=H/\∀xs,aH K H a xs->xs[i]? = some x,λi H=>∃xs,aH K H a xs/\xs.length<=i⟩
def Jz(lo:Int)(n:Nat):It:=⟨λi _=>i<n,λi H x H'=>H'=H/\x=.int (lo+i),λi _=>n<=i⟩
theorem Ap{P:Program}{w:World}{K:Ve}{tg:Expr}(a it:Addr):Turn P w K tg (NB K a) [it] it (λi h=>h.IsListIter it a i) where
 mem:=by simp
 obj:=λi h st b hb=>by
  have e:b=it:=by simpa using hb
  subst e
  obtain⟨o,e,c,d⟩:=st
  exact⟨o,e,λv z=>by rw [d]at z; cases z⟩
 keep:=λi h h' st k=>st.at λo e=>k it (by simp) o e
 item:=by
  intro X hP hw hK hc i pins s σ H E I hf st hg
  subst hP hw hK
  obtain⟨xs,x,hq,hx⟩:=hg
  obtain⟨its,rv,p,hz⟩:=I.list hq
  obtain⟨u,hu,ru⟩:=rv.get hx
  obtain⟨f0,f1,f2,f3,f4,f5⟩:=hf it (by simp)
  refine wpAny_pyNext_list_item st p.isList (x:=u) (by simpa using hu) λh' st' sb=>?_
  have I1:Inv X pins σ H {s with heap:=h'}:=I.turned (t':=s.toks) (λb o hb e=>(sb.2 b hb).trans e) f0 f1 f3 f4 f5
  obtain⟨o,e,c,d⟩:=id st'
  exact⟨u,rfl,Cy (s:={s with heap:=h'}) e c d (by decide) ⟨x,H,I1,ru,⟨rfl,λys hy=>by rw [I.BX hy hq]; exact hx⟩,st',λb hb=>(hf b hb).1⟩⟩
 done:=by
  intro X hP hw hK hc i pins s σ H E I hf st hg
  subst hP hw hK
  obtain⟨xs,hq,hx⟩:=hg
  obtain⟨its,rv,p,hz⟩:=I.list hq
  obtain⟨f0,f1,f2,f3,f4,f5⟩:=hf it (by simp)
  have hl:=rv.length
  exact wpAny_pyNext_list_end (I.ok.hd hc) st p.isList (by simp; omega) λh' eb=>⟨rfl,I.turned (t':=s.toks) (λb o hb e=>eb b o hb e) f0 f1 f3 f4 f5⟩
 self:=λ_ _ _ _ _ st h=>wpAny_pyIter_listiter st h
theorem xw{P:Program}{w:World}{K:Ve}{tg:Expr}(a it:Addr):Turn P w K tg (Fw K a) [it] it (λi h=>h.IsTupleIter it a i) where
 mem:=by simp
 obj:=λi h st b hb=>by
  have e:b=it:=by simpa using hb
  subst e
  obtain⟨o,e,c,d⟩:=st
  exact⟨o,e,λv z=>by rw [d]at z; cases z⟩
 keep:=λi h h' st k=>st.at λo e=>k it (by simp) o e
 item:=by
  intro X hP hw hK hc i pins s σ H E I hf st hg
  subst hP hw hK
  obtain⟨xs,x,hq,hx⟩:=hg
  obtain⟨its,rv,p,hz⟩:=I.tuple hq
  obtain⟨u,hu,ru⟩:=rv.get hx
  obtain⟨f0,f1,f2,f3,f4,f5⟩:=hf it (by simp)
  refine wpAny_pyNext_tuple_item st (show s.heap.IsTuple a its.toArray from p) (x:=u) (by simpa using hu) λh' st' sb=>?_
  have I1:Inv X pins σ H {s with heap:=h'}:=I.turned (t':=s.toks) (λb o hb e=>(sb.2 b hb).trans e) f0 f1 f3 f4 f5
  obtain⟨o,e,c,d⟩:=id st'
  exact⟨u,rfl,Cy (s:={s with heap:=h'}) e c d (by decide) ⟨x,H,I1,ru,⟨rfl,λys hy=>by rw [I.ic hy hq]; exact hx⟩,st',λb hb=>(hf b hb).1⟩⟩
 done:=by
  intro X hP hw hK hc i pins s σ H E I hf st hg
  subst hP hw hK
  obtain⟨xs,hq,hx⟩:=hg
  obtain⟨its,rv,p,hz⟩:=I.tuple hq
  obtain⟨f0,f1,f2,f3,f4,f5⟩:=hf it (by simp)
  have hl:=rv.length
  exact wpAny_pyNext_tuple_end (I.ok.hd hc) st (show s.heap.IsTuple a its.toArray from p) (by simp; omega) λh' eb=>⟨rfl,I.turned (t':=s.toks) (λb o hb e=>eb b o hb e) f0 f1 f3 f4 f5⟩
 self:=λ_ _ _ _ _ st h=>wpAny_pyIter_tupleiter st h
theorem xg{P:Program}{w:World}{K:Ve}{tg:Expr}(it:Addr)(lo:Int)(n:Nat):Turn P w K tg (Jz lo n) [it] it (λi h=>IsRangeIter h it (lo+(i:Nat)*1) ((n:Int)-(i:Nat)) 1) where
 mem:=by simp
 obj:=λi h st b hb=>by
  have e:b=it:=by simpa using hb
  subst e
  exact⟨_,st,λv z=>by
   have z':Data.fields _=Data.cell v:=z
   cases z'⟩
 keep:=λi h h' st k=>k it (by simp) _ st
 item:=by
  intro X hP hw hK hc i pins s σ H E I hf st hg
  subst hP hw hK
  obtain⟨f0,f1,f2,f3,f4,f5⟩:=hf it (by simp)
  have W:=Walks.range (prog:=X.prog) (w:=X.w) (I.ok.hd hc) it lo 1 n
  refine W.item i s _ _ hg st λv h' tk hv st' kk=>?_
  obtain⟨t,rfl⟩:=hv
  have I1:Inv X pins σ H {s with heap:=h',toks:=tk}:=I.turned (λb o hb e=>kk b o (by simpa using hb) e) f0 f1 f3 f4 f5
  refine⟨_,rfl,Cy (s:={s with heap:=h',toks:=tk}) (n:="range_iterator") st' rfl rfl (by decide) ⟨.int (lo+i),H,I1,⟨t,?_⟩,⟨rfl,rfl⟩,st',λb hb=>(hf b hb).1⟩⟩
  rw [Int.mul_one]
 done:=by
  intro X hP hw hK hc i pins s σ H E I hf st hg
  subst hP hw hK
  obtain⟨f0,f1,f2,f3,f4,f5⟩:=hf it (by simp)
  exact wpAny_pyNext_range_end (I.ok.hd hc) st (by have:n<=i:=hg; omega) λh' eb=>⟨rfl,I.turned (t':=s.toks) (λb o hb e=>eb b o hb e) f0 f1 f3 f4 f5⟩
 self:=λ_ _ _ _ _ st h=>wpAny_pyIter_rangeiter st h
section
variable{X:Cx}{tg:Expr}
def MD(K:Ve)(tl:TE):TI:=λσ H R=>tl σ H λx H1=>∃a,x=.ref a/\(∃xs,aZ K H1 a xs)/\R (NB K a) H1
def Fs(K:Ve)(tl:TE):TI:=λσ H R=>tl σ H λx H1=>∃a,x=.ref a/\(∃xs,aH K H1 a xs)/\R (Fw K a) H1
theorem fj{l:Expr}{tl:TE}(hl:PE X l tl):PI X tg l (MD X.K tl):=by
 intro pins s σ H R I h
 refine b_ (hl pins s σ H _ I h) λv s1 ⟨x,H1,I1,r1,q1⟩=>?_
 obtain⟨a,e,⟨xs,hq⟩,q⟩:=q1
 subst e
 cases r1
 obtain⟨its,rv,p,hz⟩:=I1.list hq
 refine wpAny_pyIter_list p.isList ?_
 refine⟨s1.heap.objs.size,[s1.heap.objs.size],_,_,H1,rfl,I1.kept (t':=s1.toks) λb o e=>UA _ e,Ap a _,⟨_,UC _ rfl,rfl,rfl⟩,λb hb=>?_,q⟩
 have e:b=s1.heap.objs.size:=by simpa using hb
 subst e
 exact I1.l5 (UD _) (I1.hok.fresh (UD _))
theorem cM{l:Expr}{tl:TE}(hl:PE X l tl):PI X tg l (Fs X.K tl):=by
 intro pins s σ H R I h
 refine b_ (hl pins s σ H _ I h) λv s1 ⟨x,H1,I1,r1,q1⟩=>?_
 obtain⟨a,e,⟨xs,hq⟩,q⟩:=q1
 subst e
 cases r1
 obtain⟨its,rv,p,hz⟩:=I1.tuple hq
 refine wpAny_pyIter_tuple (show s1.heap.IsTuple a its.toArray from p) ?_
 refine⟨s1.heap.objs.size,[s1.heap.objs.size],_,_,H1,rfl,I1.kept (t':=s1.toks) λb o e=>UA _ e,xw a _,⟨_,UC _ rfl,rfl,rfl⟩,λb hb=>?_,q⟩
 have e:b=s1.heap.objs.size:=by simpa using hb
 subst e
 exact I1.l5 (UD _) (I1.hok.fresh (UD _))
theorem DF{pins:List (Addr×Obj)}{σ:St}{H:Hp}{s:Shared}{R:It->Hp->Prop}{E:Value->Shared->Prop}{lo hi:Int}{t u v:Tok}{tk:Nat}(I:Inv X pins σ H s)(h1:-(2 ^ 62)<=lo)(h2:lo<2 ^ 62)(h3:-(2 ^ 62)<=hi)(h4:hi<2 ^ 62)
  (q:R (Jz lo (hi-lo).toNat) H):wpAny (model X.prog X.w) X.A (pyIter (.ref s.heap.objs.size)) (PIE X pins σ tg R) E {s with heap:=s.heap.push {cls:=.type "range",data:=.fields #[.int lo t,.int hi u,.int 1 v]},toks:=tk}:=by
 refine wpAny_pyIter_range (IsRange.new ..) (small_one h1 h2 h3 h4) ?_
 have I1:Inv X pins σ H {s with heap:=s.heap.push {cls:=.type "range",data:=.fields #[.int lo t,.int hi u,.int 1 v]},toks:=tk}:=I.kept λb o e=>UA _ e
 refine⟨(s.heap.push {cls:=.type "range",data:=.fields #[.int lo t,.int hi u,.int 1 v]}).objs.size,[(s.heap.push {cls:=.type "range",data:=.fields #[.int lo t,.int hi u,.int 1 v]}).objs.size],_,_,H,rfl,
  I1.kept (t':=tk) λb o e=>UA _ e,xg _ lo (hi-lo).toNat,?_,λb hb=>?_,q⟩
 ·have e1:lo+((0:Nat):Int)*1=lo:=by simp
  have e2:(((hi-lo).toNat:Nat):Int)-((0:Nat):Int)=Builtin.Range.rangeSize lo hi 1:=by rw [rangeSize_one]; split <;> omega
  show IsRangeIter _ _ (lo+((0:Nat):Int)*1) ((((hi-lo).toNat:Nat):Int)-((0:Nat):Int)) 1
  rw [e1,e2]
  exact UC _ rfl
 ·have e:b=(s.heap.push {cls:=.type "range",data:=.fields #[.int lo t,.int hi u,.int 1 v]}).objs.size:=by simpa using hb
  subst e
  exact I1.l5 (UD _) (I1.hok.fresh (UD _))
def Mj(ta:TA):TI:=λσ H R=>ta σ H λvs H1=>∃j:Int,vs=[.int j]/\-(2 ^ 62)<=j/\j<2 ^ 62/\R (Jz 0 j.toNat) H1
theorem dm{a:Expr}{ta:TA}{p pos:Pos}(hg:Gl X "range")(hm:X.mg "range"=none)(ha:PA X [a] ta)(hs:starEach [a] X.env=[(false,eval a X.env)]:=by rfl):PI X tg (.Call (.Name "range" p) [a] [] pos) (Mj ta):=by
 intro pins s σ H R I h
 refine Call_ (iM I hg hm boot_range (PyProof.Rows.callWith_type1 (b_ (ha pos pins s σ H _ I h) λus s1 ⟨vs,H1,I1,r1,q1⟩=>?_) hs rfl))
 obtain⟨j,e,q1,q2,q⟩:=q1
 subst e
 cases r1 with
 | cons r rr =>
  cases rr
  obtain⟨t,rfl⟩:=r
  exact call_range_1 (DF I1 (by omega) (by omega) q1 q2 (by simpa using q))
def NZ(wi:TI)(g:TG)(tb:TS):TS:=λD σ H=>wi σ H λJ H1=>∃W:Nat->Nat->St->Hp->Prop,(∃m,W 0 m σ H1)/\∀i m σ H,W i m σ H->
 (J.stop i H/\D.nx σ H)\/(J.go i H/\∃N:St->Hp->Prop,(∀σ' H',N σ' H'->∃m',m'<m/\W (i+1) m' σ' H')/\∀x H',J.FV i H x H'->g x σ H' λdf H2=>tb {D with nx:=N,ct:=N,bk:=D.nx} df H2)
def jn(fp:List Addr)(h:Heap):List (Addr×Obj):=fp.filterMap λb=>(h.get? b).map λo=>(b,o)
theorem cK{fp:List Addr}{h:Heap}{b:Addr}{o:Obj}(hb:b∈fp)(e:h.get? b=some o):(b,o)∈jn fp h:=List.mem_filterMap.mpr ⟨b,hb,by rw [e]; rfl⟩
theorem As{fp:List Addr}{h:Heap}{p:Addr×Obj}(hp:p∈jn fp h):p.1∈fp/\h.get? p.1=some p.2:=by
 obtain⟨b,hb,e⟩:=List.mem_filterMap.mp hp
 cases q:h.get? b with
 | none=>rw [q]at e; cases e
 | some o =>
  rw [q]at e
  have e':(b,o)=p:=U2 e
  subst e'
  exact⟨hb,q⟩
theorem Inv.pinned{pins:List (Addr×Obj)}{σ:St}{H:Hp}{s:Shared}{fp:List Addr}(I:Inv X pins σ H s)(hf:∀b∈fp,dC X pins H b)(ho:∀b∈fp,∃o,s.heap.get? b=some o/\∀v,o.data≠ .cell v):Inv X (pins++jn fp s.heap) σ H s :=
 I.iK λp hp=>(UZ.mp hp).elim (λz=>I.pin p (UO _ z)) λz=>by
  obtain⟨hb,e⟩:=As z
  obtain⟨f0,f1,f2,_⟩:=hf p.1 hb
  obtain⟨o,e',d⟩:=ho p.1 hb
  rw [e]at e'; cases e'
  exact⟨e,f0,f1,f2,d⟩
theorem Inv.fU{pins pl:List (Addr×Obj)}{σ:St}{H:Hp}{s:Shared}(I:Inv X (pins++pl) σ H s):Inv X pins σ H s:=I.iK λp hp=>I.pin p (UO _ (List.mem_append_left _ hp))
theorem gH{iter:Expr}{body:List Stmt}{wi:TI}{g:TG}{tb:TS}{pos:Pos}(hp:PassesOwn (model X.prog X.w) X.A X.env X.xe)(hc:X.calm=true)(hi:PI X tg iter wi)(hg:PG X tg g)(hb:nN X body tb)
  (hs:∀x,foldedSetIterable iter X.env x=pure x:=by intro _; rfl):PS X (.For tg iter body [] pos) (NZ wi g tb):=by
 intro pins s σ H D I h
 refine wpAny_For (b_ (hi pins s σ H _ I h) λv s1 h1=>b_ h1 λitv s2 h2=>?_) hs
 obtain⟨it,fp,tn,J,H2,e,I2,T,st2,f2,W,⟨m0,w0⟩,turn⟩:=h2
 subst e
 have stat:∀{H':Hp},(∀b∈fp,H' b=none)->∀b∈fp,dC X pins H' b:=λhn b hb=>⟨hn b hb,(f2 b hb).2⟩
 refine codeAny_forLoop_any (λn s'=>∃i σ' H',Inv X pins σ' H' s'/\tn i s'.heap/\(∀b∈fp,H' b=none)/\W i n σ' H') ?_ m0 ⟨0,σ,H2,I2,st2,λb hb=>(f2 b hb).1,w0⟩
 rintro n s3 ⟨i,BA,H3,I3,st3,Qn,w3⟩
 rcases turn i n BA H3 w3 with⟨stop,qn⟩ | ⟨go,N,hN,step⟩
 ·refine wpAny_passesOwn hp (b_ (T.done X rfl rfl rfl hc i pins s3 BA H3 X.xe I3 (stat Qn) st3 stop) λr s4 ⟨hr,I4⟩=>?_)
  subst hr
  exact wpAny_execs_nil ⟨BA,H3,I4,qn⟩
 ·refine wpAny_passesOwn hp (b_ (T.item X rfl rfl rfl hc i pins s3 BA H3 X.xe I3 (stat Qn) st3 go) λr s4 ⟨u,hr,h4⟩=>?_)
  subst hr
  refine wpAny_passesOwn hp (b_ h4 λ_ s5 ⟨x,H5,I5,r5,y5,uj,v8⟩=>?_)
  have TU:=I5.pinned (stat v8) (T.obj _ _ uj)
  refine wpAny_passesOwn hp (b_ (hg _ s5 BA H5 x u _ TU r5 (step x H5 y5)) λ_ s6 ⟨Rj,H6,I6,q6⟩=>?_)
  refine wpAny_passesOwn hp (b_ (hb _ s6 Rj H6 _ I6 q6) λf s7 q7=>?_)
  have again:∀{BO:St} {H7:Hp},Inv X (pins++jn fp s5.heap) BO H7 s7->N BO H7->∃m,m<n/\∃i σ' H',Inv X pins σ' H' s7/\tn i s7.heap/\(∀b∈fp,H' b=none)/\W i m σ' H':=λ{BO H7} I7 n7=>by
   obtain⟨m',hm,w7⟩:=hN BO H7 n7
   refine⟨m',hm,i+1,BO,H7,I7.fU,T.keep _ _ _ uj λb hb o e=>(I7.pin (b,o) (UO _ (UO _ (cK hb e)))).1,λb hb=>?_,w7⟩
   obtain⟨o,e,d⟩:=T.obj _ _ uj b hb
   exact(I7.pin (b,o) (UO _ (UO _ (cK hb e)))).2.1
  cases f with
  | next=>obtain⟨BO,H7,I7,n7⟩:=q7; exact again I7 n7
  | cont=>obtain⟨BO,H7,I7,n7⟩:=q7; exact again I7 n7
  | brk=>obtain⟨BO,H7,I7,q7⟩:=q7; exact⟨BO,H7,I7.fU,q7⟩
  | ret v=>obtain⟨x7,BO,H7,I7,r7,q7⟩:=q7; exact⟨x7,BO,H7,I7.fU,r7,q7⟩
end
theorem E5{K:Ve}{a:Addr}{xs:List V}{g:TG}{tb:TS}{D:Ends}{σ:St}{H:Hp}(Pv:Nat->St->Hp->Prop)(h0:Pv 0 σ H)(hl:∀i σ H,i<=xs.length->Pv i σ H->aH K H a xs)
  (hs:∀i x σ H,xs[i]? = some x->Pv i σ H->g x σ H λdf H2=>tb {D with nx:=Pv (i+1),ct:=Pv (i+1),bk:=D.nx} df H2) (hd:∀σ H,Pv xs.length σ H->D.nx σ H) :
  ∃W:Nat->Nat->St->Hp->Prop,(∃m,W 0 m σ H)/\∀i m σ H,W i m σ H->
   ((Fw K a).stop i H/\D.nx σ H)\/((Fw K a).go i H/\∃N:St->Hp->Prop,(∀σ' H',N σ' H'->∃m',m'<m/\W (i+1) m' σ' H')/\∀x H',(Fw K a).FV i H x H'->g x σ H' λdf H2=>tb {D with nx:=N,ct:=N,bk:=D.nx} df H2):=by
 refine⟨λi m σ H=>m=xs.length-i/\i<=xs.length/\Pv i σ H,⟨xs.length,by simp,U1 _,h0⟩,?_⟩
 rintro i m σ H ⟨rfl,hi,p⟩
 have q:=hl i σ H hi p
 by_cases hlt:i<xs.length
 ·refine .inr ⟨⟨xs,xs[i],q,by simp [hlt]⟩,Pv (i+1),λσ' H' p'=>⟨xs.length-(i+1),by omega,rfl,hlt,p'⟩,λx H' y=>?_⟩
  obtain⟨e,y⟩:=y
  subst e
  exact hs i x σ _ (y xs q) p
 ·have e:i=xs.length:=by omega
  subst e
  exact .inl ⟨⟨xs,q,UD _⟩,hd σ H p⟩
theorem fL{lo:Int}{n:Nat}{g:TG}{tb:TS}{D:Ends}{σ:St}{H:Hp}(Pv:Nat->St->Hp->Prop)(h0:Pv 0 σ H)
  (hs:∀i σ H,i<n->Pv i σ H->g (.int (lo+i)) σ H λdf H2=>tb {D with nx:=Pv (i+1),ct:=Pv (i+1),bk:=D.nx} df H2) (hd:∀σ H,Pv n σ H->D.nx σ H) :
  ∃W:Nat->Nat->St->Hp->Prop,(∃m,W 0 m σ H)/\∀i m σ H,W i m σ H->
   ((Jz lo n).stop i H/\D.nx σ H)\/((Jz lo n).go i H/\∃N:St->Hp->Prop,(∀σ' H',N σ' H'->∃m',m'<m/\W (i+1) m' σ' H')/\∀x H',(Jz lo n).FV i H x H'->g x σ H' λdf H2=>tb {D with nx:=N,ct:=N,bk:=D.nx} df H2):=by
 refine⟨λi m σ H=>m=n-i/\i<=n/\Pv i σ H,⟨n,by simp,U1 _,h0⟩,?_⟩
 rintro i m σ H ⟨rfl,hi,p⟩
 by_cases hlt:i<n
 ·refine .inr ⟨hlt,Pv (i+1),λσ' H' p'=>⟨n-(i+1),by omega,rfl,hlt,p'⟩,λx H' y=>?_⟩
  obtain⟨e,y⟩:=y
  subst e y
  exact hs i σ _ hlt p
 ·have e:i=n:=by omega
  subst e
  exact .inl ⟨UD _,hd σ H p⟩
abbrev R2:=V->V->Hp->VK->Prop
def i6(X:Cx)(f:Value->Value->Sem Value)(r:R2):Prop :=
 ∀(pins:List (Addr×Obj)) (s:Shared) (σ:St) (H:Hp) (x y:V) (v u:Value) (Q:VK),Inv X pins σ H s->RelV x v->RelV y u->r x y H Q->
  wpAny (model X.prog X.w) X.A (f v u) (EP X pins σ Q) X.xe s
def Pd(X:Cx)(f:Value->Sem Value)(r:V->Hp->VK->Prop):Prop :=
 ∀(pins:List (Addr×Obj)) (s:Shared) (σ:St) (H:Hp) (x:V) (v:Value) (Q:VK),Inv X pins σ H s->RelV x v->r x H Q->
  wpAny (model X.prog X.w) X.A (f v) (EP X pins σ Q) X.xe s
def fq(X:Cx)(f:Value)(r:List V->Hp->VK->Prop):Prop :=
 ∀(pins:List (Addr×Obj)) (s:Shared) (σ:St) (H:Hp) (xs:List V) (us:List Value) (Q:VK),Inv X pins σ H s->Vals xs us->r xs H Q->
  wpAny (model X.prog X.w) X.A (call f us) (EP X pins σ Q) X.xe s
def Pu(X:Cx)(r:V->Hp->(Bool->Hp->Prop)->Prop):Prop :=
 ∀(pins:List (Addr×Obj)) (s:Shared) (σ:St) (H:Hp) (x:V) (v:Value) (Q:Bool->Hp->Prop),Inv X pins σ H s->RelV x v->r x H Q->
  wpAny (model X.prog X.w) X.A (truthy v) (TP X pins σ Q) X.xe s
def gE(r:R2)(ta tb:TE):TE:=λσ H Q=>ta σ H λx H1=>tb σ H1 λy H2=>r x y H2 Q
def Ru(r:V->Hp->VK->Prop)(ta:TE):TE:=λσ H Q=>ta σ H λx H1=>r x H1 Q
def rI(C:Int->Int->Prop)(g:Int->Int->V):R2:=λx y H Q=>∃i j,x=.int i/\y=.int j/\C i j/\Q (g i j) H
def zy(g:Int->Int->V):R2:=λx y H Q=>∃i j,x=.int i/\y=.int j/\Q (g i j) H
def rU(g:Int->V):V->Hp->VK->Prop:=λx H Q=>∃i,x=.int i/\Q (g i) H
section
variable{X:Cx}{a b c:Expr}{ta tb tc:TE}{pos:Pos}
theorem Ii(ha:PE X a ta)(hb:PE X b tb){pins:List (Addr×Obj)}{s:Shared}{σ:St}{H:Hp}{R:V->V->Hp->Prop}(I:Inv X pins σ H s)
  (h:ta σ H λx H1=>tb σ H1 λy H2=>R x y H2) {Q:Value->Shared->Prop} {f:Value->Value->Sem Value}
  (hf:∀v u s2 x y H2,Inv X pins σ H2 s2->RelV x v->RelV y u->R x y H2->wpAny (model X.prog X.w) X.A (f v u) Q X.xe s2) :
  wpAny (model X.prog X.w) X.A (eval a X.env) (λv s₁=>wpAny (model X.prog X.w) X.A (eval b X.env) (λu s₂=>wpAny (model X.prog X.w) X.A (f v u) Q X.xe s₂) X.xe s₁) X.xe s:=by
 refine b_ (ha pins s σ H _ I h) λv s1 ⟨x,H1,I1,r1,q1⟩=>?_
 refine b_ (hb pins s1 σ H1 _ I1 q1) λu s2 ⟨y,H2,I2,r2,q2⟩=>?_
 exact hf v u s2 x y H2 I2 r1 r2 q2
theorem aF{op:Operator}{r:R2}(ho:i6 X (binaryOp op) r)(ha:PE X a ta)(hb:PE X b tb):PE X (.BinOp a op b pos) (gE r ta tb):=by
 intro pins s σ H Q I h
 exact wpAny_BinOp (Ii ha hb I h λv u s2 x y H2 I2 rx ry q=>ho pins s2 σ H2 x y v u Q I2 rx ry q)
theorem rj{op:UnaryOp}{r:V->Hp->VK->Prop}(ho:Pd X (unaryOp op) r)(ha:PE X a ta):PE X (.UnaryOp op a pos) (Ru r ta):=by
 intro pins s σ H Q I h
 exact UnaryOp_ (b_ (ha pins s σ H _ I h) λv s1 ⟨x,H1,I1,r1,q1⟩=>ho pins s1 σ H1 x v Q I1 r1 q1)
theorem Np{f:Value->Value->Sem Value}{C:Int->Int->Prop}{g:Int->Int->Int}
  (rule:∀(i j:Int) (t u:Tok) (s:Shared) (Q:Value->Shared->Prop) (E:Value->Shared->Prop),C i j->Q (.int (g i j) s.toks) {s with toks:=s.toks+1}->wpAny (model X.prog X.w) X.A (f (.int i t) (.int j u)) Q E s) :
  i6 X f (rI C λi j=>.int (g i j)):=by
 intro pins s σ H x y v u Q I rx ry h
 obtain⟨i,j,rfl,rfl,hc,q⟩:=h
 obtain⟨t,rfl⟩:=rx
 obtain⟨t',rfl⟩:=ry
 exact rule i j t t' s _ _ hc ⟨.int (g i j),H,I.tok _,⟨_,rfl⟩,q⟩
theorem Li{f:Value->Value->Sem Value}{g:Int->Int->Int}
  (rule:∀(i j:Int) (t u:Tok) (s:Shared) (Q:Value->Shared->Prop) (E:Value->Shared->Prop),Q (.int (g i j) s.toks) {s with toks:=s.toks+1}->wpAny (model X.prog X.w) X.A (f (.int i t) (.int j u)) Q E s) :
  i6 X f (zy λi j=>.int (g i j)):=by
 intro pins s σ H x y v u Q I rx ry h
 obtain⟨i,j,rfl,rfl,q⟩:=h
 obtain⟨t,rfl⟩:=rx
 obtain⟨t',rfl⟩:=ry
 exact rule i j t t' s _ _ ⟨.int (g i j),H,I.tok _,⟨_,rfl⟩,q⟩
theorem Jn{f:Value->Value->Sem Value}{g:Int->Int->Bool}
  (rule:∀(i j:Int) (t u:Tok) (s:Shared) (Q:Value->Shared->Prop) (E:Value->Shared->Prop),Q (.bool (g i j)) s->wpAny (model X.prog X.w) X.A (f (.int i t) (.int j u)) Q E s) :
  i6 X f (zy λi j=>.bl (g i j)):=by
 intro pins s σ H x y v u Q I rx ry h
 obtain⟨i,j,rfl,rfl,q⟩:=h
 obtain⟨t,rfl⟩:=rx
 obtain⟨t',rfl⟩:=ry
 exact rule i j t t' s _ _ ⟨.bl (g i j),H,I,rfl,q⟩
def Ol(i j:Int):Prop:=0<j/\j<1073741824
def Ow(i j:Int):Prop:=0<=j/\j<=1000000/\i.natAbs<2 ^ 64
def FZ(i j:Int):Prop:=(-(2 ^ 64)<i/\i<2 ^ 64)\/(-(2 ^ 64)<j/\j<2 ^ 64)
theorem FZ.ok{i j:Int}(h:FZ i j):IntMulOk i j:=by
 rcases h with⟨h1,h2⟩ | ⟨h1,h2⟩
 ·exact .of_left (intBits_le_64 h1 h2)
 ·exact .of_right (intBits_le_64 h1 h2)
theorem cY:i6 X (binaryOp .Add) (zy λi j=>.int (i+j)):=Li λ_ _ _ _ _ _ _ q=>add_int q
theorem bJ:i6 X (binaryOp .Sub) (zy λi j=>.int (i-j)):=Li λ_ _ _ _ _ _ _ q=>sub_int q
theorem lP:i6 X (binaryOp .Mult) (rI FZ λi j=>.int (i*j)):=Np λ_ _ _ _ _ _ _ hc q=>mul_int q hc.ok
theorem zh:i6 X (binaryOp .FloorDiv) (rI Ol λi j=>.int (i / j)):=Np λi j _ _ _ _ _ hc q=>by
 have h1:(0:Int)<j:=hc.1
 have h2:j<1073741824:=hc.2
 exact floordiv_int (by omega) (by rw [Int.fdiv_eq_ediv_of_nonneg i (by omega)]; exact q) (.inl (PyProof.noPylong_small (by omega)))
theorem oW:i6 X (binaryOp .Mod) (rI (λ_ j=>0<j) λi j=>.int (i % j)):=Np λi j _ _ _ _ _ hc q=>by
 have h1:(0:Int)<j:=hc
 exact mod_int' (by omega) (by rw [Int.fmod_eq_emod_of_nonneg i (by omega)]; exact q)
theorem l9:i6 X (binaryOp .Pow) (rI Ow λi j=>.int (i ^ j.toNat)):=Np λ_ _ _ _ _ _ _ hc q=>pow_int_small hc.1 hc.2.1 hc.2.2 q
theorem S4{f:Value->Sem Value}{g:Int->Int}
  (rule:∀(i:Int) (t:Tok) (s:Shared) (Q:Value->Shared->Prop) (E:Value->Shared->Prop),Q (.int (g i) s.toks) {s with toks:=s.toks+1}->wpAny (model X.prog X.w) X.A (f (.int i t)) Q E s) :
  Pd X f (rU λi=>.int (g i)):=by
 intro pins s σ H x v Q I rx h
 obtain⟨i,rfl,q⟩:=h
 obtain⟨t,rfl⟩:=rx
 exact rule i t s _ _ ⟨.int (g i),H,I.tok _,⟨_,rfl⟩,q⟩
theorem l0:Pd X (unaryOp .USub) (rU λi=>.int (-i)):=S4 λ_ _ _ _ _ q=>neg_int q
end
def ML:V->V->Bool
 | .non,.non=>true | .non,.int _=>true | .int _,.non=>true | .non,.bl _=>true | .bl _,.non=>true | .non,.str _=>true | .str _,.non=>true
 | .int _,.int _=>true | .bl _,.bl _=>true | .str _,.str _=>true | .yv _,.yv _=>true
 | .int _,.str _=>true | .str _,.int _=>true | .bl _,.str _=>true | .str _,.bl _=>true
 | _,_=>false
def He:R2:=λx y H Q=>ML x y=true/\Q (.bl (decide (x=y))) H
def Tu:R2:=λx y H Q=>ML x y=true/\Q (.bl (!decide (x=y))) H
theorem yQ{i j:Int}:decide (V.int i=V.int j)=(i==j):=by
 rw [Bool.eq_iff_iff]
 simp
theorem CO{i j:Bool}:decide (V.bl i=V.bl j)=(i==j):=by
 rw [Bool.eq_iff_iff]
 simp
theorem yP{i j:Str}:decide (V.str i=V.str j)=(i==j):=by
 rw [Bool.eq_iff_iff]
 simp
theorem yJ{i j:Array UInt8}:decide (V.yv i=V.yv j)=(i.toList==j.toList):=by
 rw [Bool.eq_iff_iff]
 cases i
 cases j
 simp
section
variable{X:Cx}{a b c:Expr}{ta tb tc:TE}{pos:Pos}
theorem bV{pins:List (Addr×Obj)}{σ:St}{H:Hp}{s:Shared}{Q:VK}{k k':Bool}(I:Inv X pins σ H s)(q:Q (.bl k) H)(e:k=k'):EP X pins σ Q (.bool k') s:=by
 subst e
 exact⟨.bl k,H,I,rfl,q⟩
theorem aP:i6 X (compareOp .Eq) He:=by
 intro pins s σ H x y v u Q I rx ry h
 obtain⟨hs,q⟩:=h
 cases x with
 | non =>
  cases rx
  cases y with
  | non=>cases ry; exact PySem.EqNone.eq_none_none (bV I q (by simp))
  | bl j=>cases ry; exact PySem.EqNone.eq_none_bool (bV I q (by simp))
  | int j=>obtain⟨t',rfl⟩:=ry; exact PySem.EqNone.eq_none_int (bV I q (by simp))
  | str j=>obtain⟨t',rfl⟩:=ry; exact PySem.EqNone.eq_none_str (bV I q (by simp))
  | _=>exact absurd (show false=true from hs) UR
 | bl i =>
  cases rx
  cases y with
  | non=>cases ry; exact PySem.EqNone.eq_bool_none (bV I q (by simp))
  | bl j=>cases ry; exact eq_bool (bV I q CO)
  | str j=>obtain⟨t',rfl⟩:=ry; exact PySem.EqMixed.eq_bool_str (bV I q (by simp))
  | _=>exact absurd (show false=true from hs) UR
 | int i =>
  obtain⟨t,rfl⟩:=rx
  cases y with
  | non=>cases ry; exact PySem.EqNone.eq_int_none (bV I q (by simp))
  | int j=>obtain⟨t',rfl⟩:=ry; exact eq_int (bV I q yQ)
  | str j=>obtain⟨t',rfl⟩:=ry; exact PySem.EqMixed.eq_int_str (bV I q (by simp))
  | _=>exact absurd (show false=true from hs) UR
 | str i =>
  obtain⟨t,rfl⟩:=rx
  cases y with
  | non=>cases ry; exact PySem.EqNone.eq_str_none (bV I q (by simp))
  | bl j=>cases ry; exact PySem.EqMixed.eq_str_bool (bV I q (by simp))
  | int j=>obtain⟨t',rfl⟩:=ry; exact PySem.EqMixed.eq_str_int (bV I q (by simp))
  | str j=>obtain⟨t',rfl⟩:=ry; exact eq_str (bV I q yP)
  | _=>exact absurd (show false=true from hs) UR
 | yv i =>
  obtain⟨t,rfl⟩:=rx
  cases y with
  | yv j=>obtain⟨t',rfl⟩:=ry; exact PySem.W.eq_bytes (bV I q yJ)
  | _=>exact absurd (show false=true from hs) UR
 | _=>cases y <;> exact absurd (show false=true from hs) UR
theorem mn:i6 X (compareOp .NotEq) Tu:=by
 intro pins s σ H x y v u Q I rx ry h
 obtain⟨hs,q⟩:=h
 cases x with
 | non =>
  cases rx
  cases y with
  | non=>cases ry; exact PySem.EqNone.ne_none_none (bV I q (by simp))
  | bl j=>cases ry; exact PySem.EqNone.ne_none_bool (bV I q (by simp))
  | int j=>obtain⟨t',rfl⟩:=ry; exact PySem.EqNone.ne_none_int (bV I q (by simp))
  | str j=>obtain⟨t',rfl⟩:=ry; exact PySem.EqNone.ne_none_str (bV I q (by simp))
  | _=>exact absurd (show false=true from hs) UR
 | bl i =>
  cases rx
  cases y with
  | non=>cases ry; exact PySem.EqNone.ne_bool_none (bV I q (by simp))
  | bl j=>cases ry; exact ne_bool (bV I q (congrArg not CO))
  | str j=>obtain⟨t',rfl⟩:=ry; exact PySem.EqMixed.ne_bool_str (bV I q (by simp))
  | _=>exact absurd (show false=true from hs) UR
 | int i =>
  obtain⟨t,rfl⟩:=rx
  cases y with
  | non=>cases ry; exact PySem.EqNone.ne_int_none (bV I q (by simp))
  | int j=>obtain⟨t',rfl⟩:=ry; exact ne_int (bV I q (congrArg not yQ))
  | str j=>obtain⟨t',rfl⟩:=ry; exact PySem.EqMixed.ne_int_str (bV I q (by simp))
  | _=>exact absurd (show false=true from hs) UR
 | str i =>
  obtain⟨t,rfl⟩:=rx
  cases y with
  | non=>cases ry; exact PySem.EqNone.ne_str_none (bV I q (by simp))
  | bl j=>cases ry; exact PySem.EqMixed.ne_str_bool (bV I q (by simp))
  | int j=>obtain⟨t',rfl⟩:=ry; exact PySem.EqMixed.ne_str_int (bV I q (by simp))
  | str j=>obtain⟨t',rfl⟩:=ry; exact ne_str (bV I q (congrArg not yP))
  | _=>exact absurd (show false=true from hs) UR
 | yv i =>
  obtain⟨t,rfl⟩:=rx
  cases y with
  | yv j=>obtain⟨t',rfl⟩:=ry; exact PySem.W.ne_bytes (bV I q (congrArg not yJ))
  | _=>exact absurd (show false=true from hs) UR
 | _=>cases y <;> exact absurd (show false=true from hs) UR
theorem CY:i6 X (compareOp .Lt) (zy λi j=>.bl (decide (i<j))):=Jn λ_ _ _ _ _ _ _ q=>lt_int q
theorem DO:i6 X (compareOp .LtE) (zy λi j=>.bl (decide (i<=j))):=Jn λ_ _ _ _ _ _ _ q=>le_int q
theorem ie:i6 X (compareOp .Gt) (zy λi j=>.bl (decide (j<i))):=Jn λ_ _ _ _ _ _ _ q=>gt_int q
theorem tq:i6 X (compareOp .IsNot) (λx y H Q=>y=.non/\Q (.bl (!decide (x=.non))) H):=by
 intro pins s σ H x y v u Q I rx ry h
 obtain⟨rfl,q⟩:=h
 cases ry
 refine isnot_none_gen (bV I q ?_)
 cases x <;> first
  | (cases rx; rfl)
  | (obtain⟨t,rfl⟩:=rx; rfl)
theorem A_(b:Expr){op:CmpOp}(h:op≠ .In:=by decide)(h2:op≠ .NotIn:=by decide):behindInMarks op b=false:=by
 have e1:(op==CmpOp.In)=false:=by cases op <;> first | rfl | exact absurd rfl h
 have e2:(op==CmpOp.NotIn)=false:=by cases op <;> first | rfl | exact absurd rfl h2
 cases b <;> simp [behindInMarks,e1,e2]
theorem fF{op:CmpOp}{r:R2}(ho:i6 X (compareOp op) r)(ha:PE X a ta)(hb:PE X b tb)(hm:behindInMarks op b=false):PE X (.Compare a [op] [b] pos) (gE r ta tb):=by
 intro pins s σ H Q I h
 exact wpAny_Compare1 (Ii ha hb I h λv u s2 x y H2 I2 rx ry q=>ho pins s2 σ H2 x y v u Q I2 rx ry q) hm
def rC(t:TE):TT:=λσ H Q=>t σ H λx H'=>∃k,x=.bl k/\Q k H'
theorem dc{op:CmpOp}{r:R2}(ho:i6 X (compareOp op) r)(ha:PE X a ta)(hb:PE X b tb)(hm:behindInMarks op b=false):PT X (.Compare a [op] [b] pos) (rC (gE r ta tb)):=by
 intro pins s σ H Q I h
 refine wpAny_isTrue_Compare1 (b_ (ha pins s σ H _ I h) λv s1 ⟨x,H1,I1,r1,q1⟩=>b_ (hb pins s1 σ H1 _ I1 q1) λu s2 ⟨y,H2,I2,r2,q2⟩ =>
  b_ (ho pins s2 σ H2 x y v u _ I2 r1 r2 q2) λc s3 ⟨z,H3,I3,r3,k,e,q3⟩=>?_) hm
 subst e
 cases r3
 exact wpAny_truthy_bool ⟨H3,I3,q3⟩
def J_(r r':R2)(ta tb tc:TE):TE:=λσ H Q=>ta σ H λx H1=>tb σ H1 λy H2=>r x y H2 λz H3=>∃k,z=.bl k/\
 (if k=true then tc σ H3 λw' H4=>r' y w' H4 Q else Q (.bl false) H3)
theorem D9{op op':CmpOp}{r r':R2}(ho:i6 X (compareOp op) r)(ho':i6 X (compareOp op') r')(ha:PE X a ta)(hb:PE X b tb)(hc:PE X c tc)
  (hm:lastMarks [op,op'] [b,c]=false:=by with_unfolding_all rfl):PE X (.Compare a [op,op'] [b,c] pos) (J_ r r' ta tb tc):=by
 intro pins s σ H Q I h
 refine Compare_chain (b_ (ha pins s σ H _ I h) λv s1 ⟨x,H1,I1,r1,q1⟩=>chain_link (b_ (hb pins s1 σ H1 _ I1 q1) λu s2 ⟨y,H2,I2,r2,q2⟩ =>
  b_ (ho pins s2 σ H2 x y v u _ I2 r1 r2 q2) λd s3 ⟨z,H3,I3,r3,k,e,q3⟩=>?_)) hm
 subst e
 cases r3
 refine wpAny_truthy_bool ?_
 cases k with
 | false=>exact ite_ff ⟨.bl false,H3,I3,rfl,q3⟩
 | true=>exact ite_tt (chain_last (b_ (hc pins s3 σ H3 _ I3 q3) λw' s4 ⟨z',H4,I4,r4,q4⟩=>ho' pins s4 σ H4 y z' u w' Q I4 r2 r4 q4))
def K0(K:Ve)(x:V)(H:Hp)(k:Bool):Prop :=
 match x with
 | .non=>k=false
 | .bl b=>k=b
 | .int i=>k=(i != 0)
 | .str y=>y.length<=sizeLine/\k=((y.length:Int) != 0)
 | .yv y=>y.size<=sizeLine/\k=((y.size:Int) != 0)
 | .ref p=>(∃xs,aZ K H p xs/\k = !xs.isEmpty)\/(∃xs,aH K H p xs/\k = !xs.isEmpty)\/∃kvs,H p=some (.dK kvs)/\k = !kvs.isEmpty
 | _=>False
theorem wM{κ:Type}{kvs:List (κ×V)}{vs:List (κ×Value)}(r:KV kvs vs):(!vs.isEmpty) = !kvs.isEmpty:=by
 cases r <;> rfl
theorem p6{xs:List V}{its:List Value}(r:Vals xs its):(!its.toArray.isEmpty) = !xs.isEmpty:=by
 cases r <;> simp
theorem lV:(sizeLine:Nat)<2 ^ 63:=by rw [sizeLine_eq]; decide
theorem JH:Pu X (λx H Q=>∃k,K0 X.K x H k/\Q k H):=by
 intro pins s σ H x v Q I rx h
 obtain⟨k,e,q⟩:=h
 have hl:=lV
 have hs:sizeLine=16777216:=sizeLine_eq
 cases x with
 | non =>
  cases rx
  have e':k=false:=e
  subst e'
  exact truthy_none ⟨H,I,q⟩
 | bl b =>
  cases rx
  have e':k=b:=e
  subst e'
  exact wpAny_truthy_bool ⟨H,I,q⟩
 | int i =>
  obtain⟨t,rfl⟩:=rx
  have e':k=(i != 0):=e
  subst e'
  exact PySem.P.truthy_int ⟨H,I,q⟩
 | str y =>
  obtain⟨t,rfl⟩:=rx
  obtain⟨hy,e'⟩ : y.length<=sizeLine/\k=((y.length:Int) != 0):=e
  subst e'
  exact PySem.P.truthy_str (by omega) ⟨H,I.tok _,q⟩
 | yv y =>
  obtain⟨t,rfl⟩:=rx
  obtain⟨hy,e'⟩ : y.size<=sizeLine/\k=((y.size:Int) != 0):=e
  subst e'
  exact PySem.W.truthy_bytes (by omega) ⟨H,I.tok _,q⟩
 | ref p =>
  cases rx
  have e':(∃xs,aZ X.K H p xs/\k = !xs.isEmpty)\/(∃xs,aH X.K H p xs/\k = !xs.isEmpty)\/∃kvs,H p=some (.dK kvs)/\k = !kvs.isEmpty:=e
  rcases e' with⟨xs,hx,e'⟩ | ⟨xs,hx,e'⟩ | ⟨kvs,hx,e'⟩
  ·subst e'
   obtain⟨its,r,pl,hz⟩:=I.list hx
   have hlen:=r.length
   exact wpAny_truthy_list pl.isList (by simp only [US]; omega) ⟨H,I.tok _,by rw [p6 r]; exact q⟩
  ·subst e'
   obtain⟨its,r,pl,hz⟩:=I.tuple hx
   have hlen:=r.length
   exact truthy_tuple pl (by simp only [US]; omega) ⟨H,I.tok _,by rw [p6 r]; exact q⟩
  ·subst e'
   obtain⟨hz,hS,vs,r,m⟩ : kvs.length<=sizeLine/\(p==sysModules)=false/\∃vs,KV kvs vs/\s.heap.DictOf (bD X.prog X.w) p vs:=I.hok p _ hx
   have hlen:kvs.length=vs.length:=Paired.length r
   exact wpAny_truthy_dict hS m (by omega) ⟨H,I.tok _,by rw [wM r]; exact q⟩
 | _=>exact(show False from e).elim
theorem vals1{x:V}{us:List Value}(r:Vals [x] us):∃u,us=[u]/\RelV x u:=by
 cases r with
 | cons r1 r2=>cases r2; exact⟨_,rfl,r1⟩
theorem vals2{x y:V}{us:List Value}(r:Vals [x,y] us):∃u w',us=[u,w']/\RelV x u/\RelV y w':=by
 cases r with
 | cons r1 r2 =>
  cases r2 with
  | cons r3 r4=>cases r4; exact⟨_,_,rfl,r1,r3⟩
theorem DT:fq X (.builtin "abs") (λxs H Q=>∃i,xs=[.int i]/\Q (.int (if i<0 then -i else i)) H):=by
 intro pins s σ H xs us Q I r h
 obtain⟨i,rfl,q⟩:=h
 obtain⟨u,rfl,t,rfl⟩:=vals1 r
 exact call_abs_int λu tk=>⟨.int (if i<0 then -i else i),H,I.tok _,⟨_,rfl⟩,q⟩
theorem zr(hc:X.calm=true):fq X (.builtin "max") (λxs H Q=>∃i j,xs=[.int i,.int j]/\Q (.int (if j > i then j else i)) H):=by
 intro pins s σ H xs us Q I r h
 obtain⟨i,j,rfl,q⟩:=h
 obtain⟨u,w',rfl,⟨t,rfl⟩,⟨t',rfl⟩⟩:=vals2 r
 refine max_two_ints (I.ok.hd hc) λh' tk k=>⟨_,H,I.kept k,?_,q⟩
 by_cases hj:j > i
 ·rw [if_pos hj,if_pos hj]; exact⟨_,rfl⟩
 ·rw [if_neg hj,if_neg hj]; exact⟨_,rfl⟩
theorem qP(hc:X.calm=true):fq X (.builtin "min") (λxs H Q=>∃i j,xs=[.int i,.int j]/\Q (.int (if j<i then j else i)) H):=by
 intro pins s σ H xs us Q I r h
 obtain⟨i,j,rfl,q⟩:=h
 obtain⟨u,w',rfl,⟨t,rfl⟩,⟨t',rfl⟩⟩:=vals2 r
 refine min_two_ints (I.ok.hd hc) λh' tk k=>⟨_,H,I.kept k,?_,q⟩
 by_cases hj:j<i
 ·rw [if_pos hj,if_pos hj]; exact⟨_,rfl⟩
 ·rw [if_neg hj,if_neg hj]; exact⟨_,rfl⟩
theorem cA:fq X (.type "int") (λxs H Q=>(∃i,xs=[.int i]/\Q (.int i) H)\/∃k,xs=[.bl k]/\Q (.int (if k then 1 else 0)) H):=by
 intro pins s σ H xs us Q I r h
 rcases h with⟨i,rfl,q⟩ | ⟨k,rfl,q⟩
 ·obtain⟨u,rfl,t,rfl⟩:=vals1 r
  exact call_int_int ⟨.int i,H,I,⟨_,rfl⟩,q⟩
 ·obtain⟨u,rfl,r1⟩:=vals1 r
  cases r1
  exact call_int_bool ⟨.int (if k then 1 else 0),H,I.tok _,⟨_,rfl⟩,q⟩
end
structure Kd(h:Heap)(x dx C:Addr)(mA:Str->Option Value):Prop where
 obj:h.get? x=some (PySem.W.instObj C dx)
 ns:h.Ns1 dx mA
 ne:dx≠x
theorem lT{h:Heap}{dx:Addr}{mA:Str->Option Value}(n:h.Ns1 dx mA):∃od,h.get? dx=some od/\∀name,PySem.W.lookIn name od=some (mA name):=by
 obtain⟨o,es,ep,ho,hd,hk,_,hm⟩:=n
 refine⟨o,ho,λname=>?_⟩
 have e:=hm name
 unfold nsFind findBy at e
 rw [←Array.find?_toList]at e
 unfold PySem.W.lookIn
 rw [hd]
 dsimp only
 split
 ·rename_i y q
  rw [q]at e
  exact congrArg some e
 ·rename_i q
  rw [q]at e
  have a:es.toList.any (·.refKey)=false:=by
   rw [List.any_eq_false]
   intro y hy
   obtain⟨z,t,hkey⟩:=hk y (Array.mem_toList_iff.mp hy)
   simp [DictEntry.refKey,hkey]
  have a':¬es.toList.any (·.refKey)=true:=by rw [a]; exact UR
  rw [if_neg a']
  exact congrArg some e
theorem Kd.look{h:Heap}{x dx C:Addr}{mA:Str->Option Value}(I:Kd h x dx C mA):∃od,PySem.W.InstAt h x (PySem.W.instObj C dx) C (some od)/\∀name,PySem.W.lookIn name od=some (mA name) :=
 let ⟨od,ho,hl⟩:=lT I.ns
 ⟨od,⟨I.obj,rfl,rfl,ho⟩,hl⟩
section
variable{prog:Program}{w:World}{A:Around}{E:Value->Shared->Prop}{s:Shared}{K:Ve}{x dx C f:Addr}{mA:Str->Option Value}{name:Str}{v:Value}
end
def mK(f:Str)(v:V):List (Str×V)->List (Str×V)
 | []=>[(f,v)]
 | (g,x)::r=>if g=f then(g,v)::r else(g,x)::mK f v r
theorem el(f g:Str)(v:V):∀fs:List (Str×V),(mK f v fs).lookup g=if g=f then some v else fs.lookup g
 | []=>by
  show List.lookup g [(f,v)]=_
  by_cases h:g=f
  ·have hb:(g==f)=true:=beq_iff_eq.mpr h
   simp only [List.lookup,hb,if_pos h]
  ·have hb:(g==f)=false:=beq_eq_false_iff_ne.mpr h
   simp only [List.lookup,hb,if_neg h]
 | (k,x)::r=>by
  have ih:=el f g v r
  rw [show mK f v ((k,x)::r)=(if k=f then(k,v)::r else(k,x)::mK f v r) from rfl]
  by_cases hk:k=f
  ·rw [if_pos hk]
   by_cases h:g=k
   ·have hb:(g==k)=true:=beq_iff_eq.mpr h
    simp only [List.lookup,hb,if_pos (h.trans hk)]
   ·have hb:(g==k)=false:=beq_eq_false_iff_ne.mpr h
    simp only [List.lookup,hb,if_neg (λe:g=f=>h (e.trans hk.symm))]
  ·rw [if_neg hk]
   by_cases h:g=k
   ·have hb:(g==k)=true:=beq_iff_eq.mpr h
    simp only [List.lookup,hb,if_neg (λe:g=f=>hk (h.symm.trans e))]
   ·have hb:(g==k)=false:=beq_eq_false_iff_ne.mpr h
    simp only [List.lookup,hb]
    exact ih
theorem jq.some_of{v:V}{o:Option Value}(r:jq (some v) o):∃u,o=some u/\RelV v u:=by
 cases o with
 | none=>exact(show False from r).elim
 | some u=>exact⟨u,rfl,r⟩
theorem jq.none_of{o:Option Value}(r:jq none o):o=none:=by
 cases o with
 | none=>rfl
 | some u=>exact(show False from r).elim
theorem AA{v:V}{u:Value}(r:RelV v u):PySem.W.handedIn u=true:=by
 cases v with
 | non=>cases(show u=Value.none from r); rfl
 | bl b=>cases(show u=Value.bool b from r); rfl
 | int i=>obtain⟨t,e⟩:=(show∃t,u=Value.int i t from r); cases e; rfl
 | str x=>obtain⟨t,e⟩:=(show∃t,u=Value.str x t from r); cases e; rfl
 | yv b=>obtain⟨t,e⟩:=(show∃t,u=Value.bytes b t from r); cases e; rfl
 | flt b=>obtain⟨t,e⟩:=(show∃t,u=Value.float b t from r); cases e; rfl
 | ref a=>cases(show u=Value.ref a from r); rfl
 | ty n=>cases(show u=Value.type n from r); rfl
section
variable{P:Program}{w:World}{H H':Hp}{h h':Heap}{a C dx:Addr}{fs fs':List (Str×V)}
theorem Fo(hok:ja P w H h)(e:H a=some (.ins C dx fs)):∃mA,Kd h a dx C mA/\(∀f,jq (fs.lookup f) (mA f))/\PySem.Within mA (fs.map (·.1))/\fs.length<=1000/\H dx=some (.own a):=by
 obtain⟨d,z,ne,ob,mA,n,r,q⟩:=(show cz P w H h a (.ins C dx fs) from hok a _ e)
 exact⟨mA,⟨ob,n,ne⟩,r,q,z,d⟩
end
structure NS(K:Ve)(C:Addr):Prop where
 pg:PySem.W.plainGet K C Str.empty=true
 hd:PySem.W.hasDictIn K C=true
 po:PySem.W.plainOver K C=true
 sa:PySem.W.findIn K (.ref C) "__setattr__"=some (some (.builtin "object.__setattr__"))
theorem NS.get{K:Ve}{C:Addr}(c:NS K C)(f:Str):PySem.W.plainGet K C f=true:=c.pg
def iD(K:Ve)(C:Addr)(f:Str):Prop:=PySem.W.findIn K (.ref C) f=some none
structure Ux(K:Ve)(C:Addr)(f:Str)(v:V)(u:Value):Prop where
 at_:PySem.W.findIn K (.ref C) f=some (some u)
 rel:RelV v u
 get:PySem.W.specialIn K u "__get__"=some none
 cp:PySem.W.copiedNames.contains f=false
structure Meth(K:Ve)(C:Addr)(m:Str)(f:Addr):Prop where
 at_:PySem.W.findIn K (.ref C) m=some (some (.ref f))
 fn:PySem.W.isFn K (.ref f)=true
 kp:PySem.W.keepIn K (.ref f)=true
section
variable{X:Cx}{pins:List (Addr×Obj)}{σ:St}{H:Hp}{s:Shared}{a C dx:Addr}{fs:List (Str×V)}{f:Str}{v:V}{A:Around}{E:Value->Shared->Prop}
theorem FL{prog:Program}{w:World}{env:Env}{e:Expr}{f:Str}{pos:Pos}{s:Shared}{Q:Value->Shared->Prop}(hb:attributeBase e f env (eval e env)=eval e env)
  (h:wpAny (model prog w) A (eval e env) (λo s₁=>wpAny (model prog w) A (getAttr o f true) Q E s₁) E s):wpAny (model prog w) A (eval (.Attribute e f pos) env) Q E s :=
 Attribute_any_ h (by rw [arm_eval_Attribute,hb])
end
section
variable{X:Cx}{o e value:Expr}{f:Str}{pos pos' tpos:Pos}{ta tv:TE}
end
section
variable{X:Cx}{pins:List (Addr×Obj)}{σ:St}{H:Hp}{s:Shared}{A:Around}{E:Value->Shared->Prop}{Q:Value->Shared->Prop}{c:Value}{b:Bool}
inductive km (K:Ve) (H:Hp):V->Value->Prop where
 | non:km K H .non (.type "NoneType")
 | bl (x:Bool):km K H (.bl x) (.type "bool")
 | int (i:Int):km K H (.int i) (.type "int")
 | str (x:Str):km K H (.str x) (.type "str")
 | flt (x:UInt64):km K H (.flt x) (.type "float")
 | lst {a:Addr} {xs:List V} (e:H a=some (.lst xs)):km K H (.ref a) (.type "list")
 | yg {a:Addr} {o:Obj} {xs:List V} (e:H a=some (.yg o (.lst xs))):km K H (.ref a) (.type "list")
 | tup {a:Addr} {xs:List V} (e:H a=some (.tup xs)):km K H (.ref a) (.type "tuple")
 | dK {a:Addr} {kvs:List (Key×V)} (e:H a=some (.dK kvs)):km K H (.ref a) (.type "dict")
 | dT {a:Addr} {kvs:List (List dq×V)} (e:H a=some (.dT kvs)):km K H (.ref a) (.type "dict")
 | ins {a C dx:Addr} {fs:List (Str×V)} (e:H a=some (.ins C dx fs)) (cl:NS K C) (ha:PySem.W.findIn K (.ref C) "__class__"=some (some (.builtin "object.__class__")))
   (hn:PySem.W.specialIn K (.builtin "object.__class__") "__get__"=some (some (.builtin "getset_descriptor.__get__"))) (htk:PySem.W.takesIn K (.builtin "object.__class__")=some true)
   (hm:PySem.W.mroIn K C (.type "object")=some true):km K H (.ref a) (.ref C)
theorem qS{x:V}{u t:Value}(I:Inv X pins σ H s)(rx:RelV x u)(ty:km X.K H x t)(e:PySem.W.kitOne X.K t c=some b)(h:∀tk,Q (.bool b) {s with toks:=tk}) :
  wpAny (model X.prog X.w) A (call (.builtin "isinstance") [u,c]) Q E s:=by
 cases ty with
 | non=>cases(show u=Value.none from rx); exact PySem.W.kia_one PySem.W.kitx_none I.jJ True.intro e (λz=>nomatch z) h
 | bl y=>cases(show u=Value.bool y from rx); exact PySem.W.kia_one PySem.W.kitx_bool I.jJ True.intro e (λz=>nomatch z) h
 | int i=>obtain⟨t,q⟩:=(show∃t,u=Value.int i t from rx); cases q; exact PySem.W.kia_one PySem.W.kitx_int I.jJ True.intro e (λz=>nomatch z) h
 | str y=>obtain⟨t,q⟩:=(show∃t,u=Value.str y t from rx); cases q; exact PySem.W.kia_one PySem.W.kitx_str I.jJ True.intro e (λz=>nomatch z) h
 | flt y=>obtain⟨t,q⟩:=(show∃t,u=Value.float y t from rx); cases q; exact PySem.W.kia_one PySem.W.kitx_float I.jJ True.intro e (λz=>nomatch z) h
 | @lst a xs ea =>
  cases(show u=Value.ref a from rx)
  obtain⟨_,_,n,_,h1⟩:=(show cz X.prog X.w H s.heap a (.lst xs) from I.hok a _ ea)
  exact PySem.W.kia_one PySem.W.kitx_list I.jJ ⟨_,h1,rfl⟩ e (λz=>nomatch z) h
 | @yg a ob xs ea =>
  cases(show u=Value.ref a from rx)
  obtain⟨_,_,_,n,_,h1⟩:=(show cz X.prog X.w H s.heap a (.yg ob (.lst xs)) from I.hok a _ ea)
  exact PySem.W.kia_one PySem.W.kitx_list I.jJ ⟨_,h1,rfl⟩ e (λz=>nomatch z) h
 | @tup a xs ea =>
  cases(show u=Value.ref a from rx)
  obtain⟨_,_,_,p⟩:=(show cz X.prog X.w H s.heap a (.tup xs) from I.hok a _ ea)
  obtain⟨o,h1,h2,_⟩:=p
  exact PySem.W.kia_one PySem.W.kitx_tuple I.jJ ⟨o,h1,h2⟩ e (λz=>nomatch z) h
 | @dK a kvs ea =>
  cases(show u=Value.ref a from rx)
  obtain⟨_,_,vs,_,p⟩:=(show cz X.prog X.w H s.heap a (.dK kvs) from I.hok a _ ea)
  obtain⟨o,es,ep,h1,h2,_⟩:=p
  exact PySem.W.kia_one PySem.W.kitx_dict I.jJ ⟨o,h1,h2.1⟩ e (λz=>nomatch z) h
 | @dT a kvs ea =>
  cases(show u=Value.ref a from rx)
  obtain⟨_,_,xs,_,o,es,ep,h1,h2,_⟩:=(show cz X.prog X.w H s.heap a (.dT kvs) from I.hok a _ ea)
  exact PySem.W.kia_one PySem.W.kitx_dict I.jJ ⟨o,h1,h2.1⟩ e (λz=>nomatch z) h
 | @ins a C dx fs ea cl ha hn htk hm =>
  cases(show u=Value.ref a from rx)
  obtain⟨mA,O,_⟩:=Fo I.hok ea
  obtain⟨od,J,_⟩:=O.look
  exact PySem.W.kia_one (PySem.W.kitx_own (cl.get _) cl.hd ha hn htk hm) I.jJ J e (λz=>nomatch z) h
end
structure eK(k:Nat)(A:Around):Prop where
 hd:A.handled=none
 dp:A.depth+3*k+5<recursionLimit
 un:A.units+16*k+200<cLine
theorem eK.mono{j k:Nat}{A:Around}(r:eK k A)(h:j<=k):eK j A:=⟨r.hd,by have:=r.dp; omega,by have:=r.un; omega⟩
theorem eK.deeper{k:Nat}{A:Around}(r:eK (k+1) A)(env:Env):eK k (A.deeper env) :=
 ⟨r.hd,by have:=r.dp; show A.depth+1+3*k+5<_; omega,by have:=r.un; show A.units+3+16*k+200<_; omega⟩
theorem wO{A:Around}{C:Addr}{us:List Value}{kw:List (Str×Value)}:(A.under (.builtin "type.__call__" ⟨.ref C::us,kw⟩)).depth=A.depth+1:=by
 first | rfl | simp [Around.under,Code.weight,Code.isCreation,Code.isGuard,Code.isCaller,Code.frames,Code.isFrame,guardIds]
theorem yl{A:Around}{C:Addr}{us:List Value}{kw:List (Str×Value)}:(A.under (.builtin "type.__call__" ⟨.ref C::us,kw⟩)).units=A.units+1:=by
 first | rfl | simp [Around.under,Code.cUnits,Code.frames,Code.isFrame]
theorem eK.make{k:Nat}{A:Around}(r:eK (k+1) A)(C:Addr)(us:List Value)(kw:List (Str×Value)):eK k (A.under (.builtin "type.__call__" ⟨.ref C::us,kw⟩)) :=
 ⟨r.hd,by have:=r.dp; rw [wO]; omega,by have:=r.un; rw [yl]; omega⟩
theorem eK.depth{k:Nat}{A:Around}(r:eK k A):A.depth<recursionLimit:=by have:=r.dp; omega
theorem eK.units{k:Nat}{A:Around}(r:eK k A):A.units+64<cLine:=by have:=r.un; omega
def fD:TA:=λ_ H Q=>Q [] H
def bp(ta:TE)(tr:TA):TA:=λσ H Q=>ta σ H λx H1=>tr σ H1 λxs H2=>Q (x::xs) H2
section
variable{X:Cx}{e:Expr}{es:List Expr}{te:TE}{t:TA}{pos:Pos}
theorem ah:PA X [] fD:=λ_ _ _ _ H Q I h=>Calls.spliced_nil ⟨[],H,I,.nil,h⟩
theorem ae(ha:PE X e te)(hr:PA X es t)(hs:starEach (e::es) X.env=(false,eval e X.env)::starEach es X.env:=by rfl):PA X (e::es) (bp te t):=by
 intro pos pins s σ H Q I h
 rw [hs]
 show wpAny _ _ (spliced ((false,eval e X.env)::backTo pos (starEach es X.env))) _ _ s
 refine Calls.spliced_cons (b_ (ha pins s σ H _ I h) λu s1 ⟨x,H1,I1,r1,q1⟩=>?_)
 exact b_ (hr pos pins s1 σ H1 _ I1 q1) λus s2 ⟨xs,H2,I2,r2,q2⟩=>⟨x::xs,H2,I2,.cons r1 r2,q2⟩
def Es(t:TA):TE:=λσ H Q=>t σ H λxs H1=>xs.length<=sizeLine/\∀p,H1 p=none->Q (.ref p) (upd H1 p (.tup xs))
def xR(t:TA):TE:=λσ H Q=>t σ H λxs H1=>xs.length<=sizeLine/\∀p,H1 p=none->Q (.ref p) (upd H1 p (.lst xs))
theorem aJ{x1}(h:PA X es t):PE X (.Tuple es x1 pos) (Es t):=by
 intro pins s σ H Q I hq
 refine wpAny_Tuple_spliced (b_ (h pos pins s σ H _ I hq) λus s1 ⟨xs,H1,I1,r,z,q⟩=>⟨by rw [←r.length]; exact z,?_⟩)
 have hf:H1 s1.heap.objs.size=none:=I1.hok.fresh (UD _)
 refine⟨.ref s1.heap.objs.size,upd H1 s1.heap.objs.size (.tup xs),I1.laid (t':=s1.toks) (λb u e=>UA _ e) (UD _) ?_,rfl,q _ hf⟩
 exact⟨z,us,r,⟨_,UC _ rfl,rfl,⟨_,rfl⟩,rfl⟩⟩
theorem aQ(h:PA X es t):PE X (.List es pos) (xR t):=by
 intro pins s σ H Q I hq
 refine wpAny_List_spliced (b_ (h pos pins s σ H _ I hq) λus s1 ⟨xs,H1,I1,r,z,q⟩=>⟨by rw [←r.length]; exact z,?_⟩)
 have hf:H1 s1.heap.objs.size=none:=I1.hok.fresh (UD _)
 refine⟨.ref s1.heap.objs.size,upd H1 s1.heap.objs.size (.lst xs),I1.laid (t':=s1.toks) (λb u e=>UA _ e) (UD _) ?_,rfl,q _ hf⟩
 exact⟨z,us,0,r,UC _ rfl⟩
end
abbrev Sp:=List V->Hp->VK->XK->Prop
abbrev m8:=List Env->Hp->Shared->XK->Value->Shared->Prop
structure wJ(P:Program)(w:World)(K:Ve)(mg:Str->Option Value)(base:Heap)(A:Around)(outer:List Env)(s:Shared)(H:Hp):Prop where
 frames:A.frames=some outer
 mod:Mod K mg base
 bs:∀b o,base.get? b=some o->s.heap.get? b=some o/\H b=none
 A3:base.objs.size<=s.heap.objs.size
 j8:s.heap.FunFrames base outer
 Ep:∀b∈frs outer,H b=none
 hok:ja P w H s.heap
 bare:AllBare s.gens
def CE(outer:List Env)(P:Program)(w:World)(H:Hp)(s:Shared)(Q:VK)(u:Value)(s':Shared):Prop :=
 ∃v H',s'.os=s.os/\AllBare s'.gens/\Un (frs outer) [] H H' s.heap s'.heap/\ja P w H' s'.heap/\RelV v u/\Q v H'
def CR(CX:m8)(outer:List Env)(P:Program)(w:World)(H:Hp)(s:Shared)(Q:VK)(E:XK)(r:Result)(s':Shared):Prop :=
 match r with
 | .ok (.ret u)=>CE outer P w H s Q u s'
 | .ok _=>False
 | .error e=>CX outer H s E e s'
structure e_(P:Program)(w:World)(K:Ve)(mg:Str->Option Value)(base:Heap)(CX:m8)(k:Nat)(f:Addr)(fd:FuncData)(ps:List Str)(sp:Sp):Prop where
 len:∀vs H Q E,sp vs H Q E->vs.length=ps.length
 run:∀(A:Around) (outer:List Env) (s:Shared) (H:Hp) (args:Args) (us:List Value) (vs:List V) (Q:VK) (E:XK),eK k A->wJ P w K mg base A outer s H->BindsTo s fd args (ps.zip us)->Vals vs us->sp vs H Q E->
  codeAny (model P w) A (.call (.ref f) args) (CR CX outer P w H s Q E) s
theorem e_.mono{P:Program}{w:World}{K:Ve}{mg:Str->Option Value}{base:Heap}{CX:m8}{j k:Nat}{f:Addr}{fd:FuncData}{ps:List Str}{sp:Sp}(F:e_ P w K mg base CX j f fd ps sp)(h:j<=k) :
  e_ P w K mg base CX k f fd ps sp:=⟨F.len,λA outer s H args us vs Q E hr=>F.run A outer s H args us vs Q E (hr.mono h)⟩
theorem e_.imp{P:Program}{w:World}{K:Ve}{mg:Str->Option Value}{base:Heap}{CX:m8}{k:Nat}{f:Addr}{fd:FuncData}{ps:List Str}{sp QZ:Sp}(F:e_ P w K mg base CX k f fd ps sp)
  (h:∀vs H Q E,QZ vs H Q E->sp vs H Q E):e_ P w K mg base CX k f fd ps QZ :=
 ⟨λvs H Q E q=>F.len vs H Q E (h _ _ _ _ q),λA outer s H args us vs Q E hr he hb hv hs=>F.run A outer s H args us vs Q E hr he hb hv (h _ _ _ _ hs)⟩
theorem wJ.make{P:Program}{w:World}{K:Ve}{mg:Str->Option Value}{base:Heap}{A:Around}{outer:List Env}{s:Shared}{H:Hp}(e:wJ P w K mg base A outer s H)(C:Addr)(us:List Value)(kw:List (Str×Value)) :
  wJ P w K mg base (A.under (.builtin "type.__call__" ⟨.ref C::us,kw⟩)) outer s H:=⟨by first | exact e.frames | (simpa [Around.under,Code.envs,Code.isFrame,pushEnvs] using e.frames),e.mod,e.bs,e.A3,e.j8,e.Ep,e.hok,e.bare⟩
section
variable{X:Cx}{pins:List (Addr×Obj)}{σ:St}{H:Hp}{s s':Shared}
theorem Inv.env0(I:Inv X pins σ H s):wJ X.prog X.w X.K X.mg X.base X.A X.stack s H :=
 ⟨I.ok.frames,I.ok.mod,I.bs,UE I.ok.A3 I.sz,I.stack,I.m_,I.hok,I.bare⟩
theorem Inv.after{Q:VK}{u:Value}(I:Inv X pins σ H s)(h:CE X.stack X.prog X.w H s Q u s'):EP X pins σ Q u s':=by
 obtain⟨v,H',os,bare,un,hok,r,q⟩:=h
 obtain⟨hh,g,d,t,os'⟩:=s'
 obtain rfl:os'=s.os:=os
 exact⟨v,H',I.call (h':=hh) (g':=g) (d':=d) (t':=t) (ch:=[]) un hok bare (λb z=>absurd z (by simp)),r,q⟩
end
def i4(sp:Sp)(ET:List V)(E:XK)(t:TA):TE:=λσ H Q=>t σ H λvs H1=>sp (vs++ET) H1 Q E
def Binds(K:Ve)(fd:FuncData)(ps:List Str)(ds:List Value):Prop :=
 ∀(s:Shared) (us:List Value),K.In s.heap->(us++ds).length=ps.length->BindsTo s fd ⟨us,[]⟩ (ps.zip (us++ds))
theorem Binds.all{K:Ve}{fd:FuncData}{ps:List Str}(h:∀us:List Value,us.length=ps.length->bindArgs fd ⟨us,[]⟩=pure (ps.zip us)):Binds K fd ps []:=λs us _ hl=>by
 rw [List.append_nil]at hl⊢
 exact .of_eq (h us hl)
def Passes(CX:m8)(X:Cx)(E:XK):Prop:=∀(pins:List (Addr×Obj)) (σ:St) (H:Hp) (s:Shared) (e:Value) (s':Shared),Inv X pins σ H s->CX X.stack H s E e s'->X.xe e s'
section
variable{X:Cx}{CX:m8}{k:Nat}{f C:Addr}{fd:FuncData}{ps:List Str}{sp:Sp}{ET:List V}{ds:List Value}{E:XK}{x m:Str}{p pos apos:Pos}{e o:Expr}{es:List Expr}{ta:TE}{t:TA}
theorem Dd{pins:List (Addr×Obj)}{σ:St}{H:Hp}{s:Shared}{Q:VK}{us:List Value}{vs:List V}(F:e_ X.prog X.w X.K X.mg X.base CX k f fd ps sp)(hr:eK k X.A)(hb:Binds X.K fd ps ds)(hd:Vals ET ds)(hx:Passes CX X E)
  (I:Inv X pins σ H s) (r:Vals vs us) (h:sp (vs++ET) H Q E):wpAny (model X.prog X.w) X.A (call (.ref f) us) (EP X pins σ Q) X.xe s:=by
 have r2:Vals (vs++ET) (us++ds):=r.append hd
 have hl:(us++ds).length=ps.length:=by rw [←r2.length]; exact F.len _ _ _ _ h
 refine wpAny_call (codeAny_mono (F.run X.A X.stack s H ⟨us,[]⟩ (us++ds) (vs++ET) Q E hr I.env0 (hb s us I.jJ hl) r2 h) λr s' hq=>?_)
 cases r with
 | error e=>exact hx pins σ H s e s' I hq
 | ok fl =>
  cases fl with
  | ret u=>exact I.after hq
  | next=>exact False.elim hq
  | brk=>exact False.elim hq
  | cont=>exact False.elim hq
theorem Gm(F:e_ X.prog X.w X.K X.mg X.base CX k f fd ps sp)(hr:eK k X.A)(hg:Gl X x)(hm:X.mg x=some (.ref f))(hk:PySem.W.keepIn X.K (.ref f)=true)(hb:Binds X.K fd ps ds)(hd:Vals ET ds)(hx:Passes CX X E)
  (ha:PA X (e::es) t) (hdb:(x==("__debug__" : Str))=false:=by decide) (he:starEach (e::es) X.env=(false,eval e X.env)::starEach es X.env:=by rfl) (hpl:(backTo pos (starEach es X.env)).any (·.1)=false:=by rfl) :
  PE X (.Call (.Name x p) (e::es) [] pos) (i4 sp ET E t):=by
 intro pins s σ H Q I h
 refine wpAny_Call_Name_kw (nh I hg hm ?_ hdb)
 refine PySem.W.callWith_K (h₀:=X.base) I.ok.mod.Kw hk (b_ (ha pos pins s σ H _ I h) λus s1 ⟨vs,H1,I1,r,q⟩=>⟨I1.jJ,?_⟩) he hpl
 exact Dd F hr hb hd hx I1 r q
structure Mk(K:Ve)(C f:Addr):Prop where
 makes:PySem.W.makesIn K C=true
 init:PySem.W.findIn K (.ref C) "__init__"=some (some (.ref f))
 fn:PySem.W.isFn K (.ref f)=true
 kp:PySem.W.keepIn K (.ref C)=true
end
section
variable{X:Cx}{CX:m8}{k:Nat}{f C:Addr}{fd:FuncData}{ps ks:List Str}{sp:Sp}{E:XK}{x m:Str}{p pos apos N6:Pos}{e o:Expr}{es:List Expr}{kws:List Keyword}{te ta:TE}{t tk:TA}{nm:Option Str}
structure NU(K:Ve)(fd:FuncData)(ps ks:List Str)(g:List Value->List Value->List Value)(gV:List V->List V->List V):Prop where
 to:∀(s:Shared) (us ws:List Value),K.In s.heap->(g us ws).length=ps.length->BindsTo s fd ⟨us,ks.zip ws⟩ (ps.zip (g us ws))
 rel:∀{vs:List V} {us:List Value} {zs:List V} {ws:List Value},Vals vs us->Vals zs ws->Vals (gV vs zs) (g us ws)
variable{g:List Value->List Value->List Value}{gV:List V->List V->List V}
end
structure az(N P:List Str)(sc:Scope):Prop where
 kind:sc.kind=.function
 co:sc.isCoroutine=false
 gen:sc.isGenerator=false
 nd:N.Nodup
 pre:N.take P.length=P
 par:∀x∈P,sc.names.lookup x=some .local\/sc.names.lookup x=some .cell
 Ke:∀y∈sc.names,y.2≠ .free
theorem qY{kindOf:Str->Option NameKind}{x:Str}:∀{binds:List (Str×Value)} {m:Str->Option Value},(∀v,(x,v)∉binds)->bindL kindOf binds m x=m x
 | [],_,_=>rfl
 | (n,v)::r,m,h=>by
  unfold bindL
  rw [qY λw hw=>h w (UQ _ hw)]
  split
  ·have:x≠n:=by rintro rfl; exact h v Va
   simp [this]
  ·rfl
theorem qO{kindOf:Str->Option NameKind}{x:Str}:∀{binds:List (Str×Value)} {m:Str->Option Value},(∀v,(x,v)∉binds)->bindC kindOf binds m x=m x
 | [],_,_=>rfl
 | (n,v)::r,m,h=>by
  unfold bindC
  rw [qO λw hw=>h w (UQ _ hw)]
  split
  ·rfl
  ·have:x≠n:=by rintro rfl; exact h v Va
   simp [this]
theorem qV{kindOf:Str->Option NameKind}{x:Str}{v:Value}:∀{P:List Str} {vs:List Value} {i:Nat} {m:Str->Option Value},P.Nodup->P[i]? = some x->vs[i]? = some v->kindOf x=some .local->
  bindL kindOf (P.zip vs) m x=some v
 | [],_,_,_,_,h,_,_=>by simp at h
 | _::_,[],_,_,_,_,h,_=>by simp at h
 | p::P,w::vs,0,m,nd,h1,h2,hk=>by
  simp at h1 h2; subst h1; subst h2
  show bindL kindOf ((p,w)::P.zip vs) m p=_
  unfold bindL
  rw [qY λv hv=>(List.nodup_cons.mp nd).1 (List.of_mem_zip hv).1,if_pos hk]
  simp
 | p::P,w::vs,i+1,m,nd,h1,h2,hk=>by
  show bindL kindOf ((p,w)::P.zip vs) m x=_
  unfold bindL
  exact qV (i:=i) (List.nodup_cons.mp nd).2 (by simpa using h1) (by simpa using h2) hk
theorem rm{kindOf:Str->Option NameKind}{x:Str}{v:Value}:∀{P:List Str} {vs:List Value} {i:Nat} {m:Str->Option Value},P.Nodup->P[i]? = some x->vs[i]? = some v->kindOf x≠some .local->
  bindC kindOf (P.zip vs) m x=some v
 | [],_,_,_,_,h,_,_=>by simp at h
 | _::_,[],_,_,_,_,h,_=>by simp at h
 | p::P,w::vs,0,m,nd,h1,h2,hk=>by
  simp at h1 h2; subst h1; subst h2
  show bindC kindOf ((p,w)::P.zip vs) m p=_
  unfold bindC
  rw [qO λv hv=>(List.nodup_cons.mp nd).1 (List.of_mem_zip hv).1,if_neg hk]
  simp
 | p::P,w::vs,i+1,m,nd,h1,h2,hk=>by
  show bindC kindOf ((p,w)::P.zip vs) m x=_
  unfold bindC
  exact rm (i:=i) (List.nodup_cons.mp nd).2 (by simpa using h1) (by simpa using h2) hk
def start(N:List Str)(vs:List V):St:=vs.map some++List.replicate (N.length-vs.length) none
def qm(CX:m8)(P:Program)(w:World)(K:Ve)(mg:Str->Option Value)(base:Heap)(N:List Str)(qual:Str)(scope:Scope)(f:Addr)(cd:Value)(A:Around)(outer:List Env)(s:Shared)(H:Hp)(E:XK):Cx where
 prog:=P
 w:=w
 K:=K
 mg:=mg
 base:=base
 A:=A.deeper (envOfC qual scope s.heap.objs.size f cd)
 N:=N
 s₀:=s
 H₀:=H
 env:=envOfC qual scope s.heap.objs.size f cd
 outer:=outer
 stack:=envOfC qual scope s.heap.objs.size f cd::outer
 ex:=[]
 calm:=true
 fn:=λ_=>true
 pn:=[]
 xe:=λe s'=>wpAny (model P w) (A.deeper (envOfC qual scope s.heap.objs.size f cd)) (leaving (envOfC qual scope s.heap.objs.size f cd) e) (λ_ s''=>CX outer H s E e s'') (λe' s''=>CX outer H s E e' s'') s'
theorem vp{sc:Scope}{n:Nat}{x:Str}(h:sc.names.lookup x=some .cell):∃c,(cellsFrom n sc.names []).lookup x=some c:=by
 have q:=PySem.W.cellsFrom_some sc.names n [] (.inl h)
 exact Option.isSome_iff_exists.mp q
theorem Aj{CX:m8}{P:Program}{w:World}{K:Ve}{mg:Str->Option Value}{base:Heap}{N ps:List Str}{qual:Str}{scope:Scope}{f:Addr}{cd:Value}{A:Around}{outer:List Env}{s s1:Shared}{H:Hp}{E:XK}{us:List Value}{vs:List V}
  (S:az N ps scope) (hd:A.handled=none) (e0:wJ P w K mg base A outer s H) (hl:vs.length=ps.length) (r:Vals vs us)
  (x:InCallC s s.heap.objs.size (bindL (envOfC qual scope s.heap.objs.size f cd).kindOf (ps.zip us) λ_=>none) (cellsFrom (s.heap.objs.size+1) scope.names []) (bindC (envOfC qual scope s.heap.objs.size f cd).kindOf (ps.zip us) λ_=>none) s1) :
  Inv (qm CX P w K mg base N qual scope f cd A outer s H E) [] (start N vs) H s1:=by
 have hpl:ps.length<=N.length:=by have:=congrArg List.length S.pre; rw [U6]at this; omega
 obtain⟨h1,tk,rfl,hk⟩:=x.done
 have Ln:∀b:Addr,b∉(qm CX P w K mg base N qual scope f cd A outer s H E).ex:=λb z=>absurd (show b∈([]:List Addr) from z) (by simp)
 refine⟨⟨e0.mod,S.kind,rfl,rfl,UD _,λy z c h1 h2=>?_,λy hy=>?_,λy c _ h=>?_,λ_=>hd,Around.frames_deeper e0.frames,.inr ⟨rfl,rfl⟩,λb z=>absurd z (Ln b),e0.bs,e0.A3,λb _ _=>Ln b,λb z=>absurd z (Ln b),e0.j8,e0.Ep⟩,
  rfl,e0.bare,Un.kept hk,⟨_,x.toInCall.ns,λi y v h1 h2 h3=>?_⟩,λy c h=>⟨_,x.cell y c h⟩,e0.hok.fresh (UD _),λy c h=>?_,λp hp=>absurd (show p∈([]:List (Addr×Obj)) from hp) (by simp),e0.hok.kept hk,?_⟩
 ·exact name_of_addr x.apart (PySem.mem_of_lookup h1) (PySem.mem_of_lookup h2)
 ·have hy:scope.names.lookup y=some .cell\/scope.names.lookup y=some .free:=hy
  rcases hy with hy | hy
  ·exact vp hy
  ·exact absurd rfl (S.Ke _ (PySem.mem_of_lookup hy))
 ·exact Nat.le_of_lt (x.above y c (PySem.mem_of_lookup h))
 ·have hi:i<vs.length:=by
   unfold start at h2
   by_cases hi:i<vs.length
   ·exact hi
   ·rw [U3 (by simpa using hi)]at h2
    rw [List.getElem?_replicate]at h2
    split at h2 <;> cases h2
  have ha:vs[i]? = some v:=by
   unfold start at h2
   rw [U4 (by simpa using hi),U5]at h2
   cases e:vs[i]? with
   | none=>rw [e]at h2; cases h2
   | some a=>rw [e]at h2; cases h2; rfl
  obtain⟨u,hu,rv⟩:=r.get ha
  have hp:ps[i]? = some y:=by
   rw [←S.pre,List.getElem?_take_of_lt (by omega)]; exact h1
  have Qf:ps.Nodup:=by rw [←S.pre]; exact S.nd.sublist (List.take_sublist _ _)
  refine⟨u,rv,?_⟩
  rcases S.par y (UP hp)with k | k
  ·exact .inl ⟨k,qV Qf hp hu k⟩
  ·obtain⟨c,e⟩:=vp (n:=s.heap.objs.size+1) k
   refine .inr ⟨.inl k,c,e,?_⟩
   have q:=x.cell y c e
   rw [rm Qf hp hu (by show scope.names.lookup y≠_; rw [k]; decide)]at q
   exact q
 ·exact e0.hok.fresh (Nat.le_of_lt (x.above y c (PySem.mem_of_lookup h)))
 ·unfold start
  show _=N.length
  rw [UJ,UI,List.length_replicate]
  omega
theorem Hy{CX:m8}{P:Program}{w:World}{K:Ve}{mg:Str->Option Value}{base:Heap}{k:Nat}{f:Addr}{name qual:Str}{params:Arguments}{body:List Stmt}{scope:Scope}{dV kV doc pm cdv ct oc:Value}{an od:Option Addr}
  {osl:Array (Option Value)} {N ps:List Str} {sp:Sp} (lk:K.lookup f=some ⟨oc,od,.func (PySem.W.fnOf name qual params body scope dV kV doc pm an cdv ct),osl⟩) (hcd:PySem.W.codeIn K cdv qual=true) (S:az N ps scope)
  (len:∀vs H Q E,sp vs H Q E->vs.length=ps.length)
  (hbody:∀(A:Around) (outer:List Env) (s:Shared) (H:Hp) (vs:List V) (Q:VK) (E:XK),eK k (A.deeper (envOfC qual scope s.heap.objs.size f cdv))->sp vs H Q E->
   ∃t,nN (qm CX P w K mg base N qual scope f cdv A outer s H E) body t/\t {nx:=λ_ H'=>Q .non H',rt:=Q} (start N vs) H) :
  e_ P w K mg base CX (k+1) f (PySem.W.fnOf name qual params body scope dV kV doc pm an cdv ct) ps sp:=by
 refine⟨len,λA outer s H args us vs Q E hr e0 hb r hsp=>?_⟩
 have hl:=len _ _ _ _ hsp
 have KX:K.In s.heap:=e0.mod.Kw.keeps λb o e=>(e0.bs b o e).1
 have lim:s.heap.NoLimit:=e0.mod.nolimit.keeps λb o e=>(e0.bs b o e).1
 have hkind:∀y∈ps.zip us,scope.names.lookup y.1=some .local\/(scope.names.lookup y.1=some .cell/\((cellsFrom (s.heap.objs.size+1) scope.names []).lookup y.1).isSome=true):=λ⟨n,v⟩ hy=>by
  rcases S.par n (List.of_mem_zip hy).1 with q | q
  ·exact .inl q
  ·exact .inr ⟨q,PySem.W.cellsFrom_some _ _ _ (.inl q)⟩
 refine codeAny_call_function hr.depth (KX _ _ lk) rfl S.co S.gen rfl (PySem.W.codeRec_of KX hcd) (hb _ _ _ _ ?_)
 refine wpAny_newFunctionEnv_cells S.kind hkind λenv he s1 x=>?_
 subst he
 refine⟨lim.keeps x.toInCall.keep,codeAny_func ?_⟩
 obtain⟨t,ht,hq⟩:=hbody A outer s H vs Q E (hr.deeper _) hsp
 have I:Inv (qm CX P w K mg base N qual scope f cdv A outer s H E) [] (start N vs) H s1:=Aj S hr.hd e0 hl r x
 refine U8 (ht [] s1 (start N vs) H _ I hq) (λfl s' hs=>?_) λe s' hs=>hs
 have fin:∀{σ':St} {H':Hp} {v:V} {u:Value},Inv (qm CX P w K mg base N qual scope f cdv A outer s H E) [] σ' H' s'->RelV v u->Q v H'->CE outer P w H s Q u s' :=
  λ{σ' H' v u} J rv q=>⟨v,H',J.os,J.bare,J.base,J.hok,rv,q⟩
 cases fl with
 | ret u =>
  obtain⟨v,σ',H',J,rv,q⟩:=hs
  exact fin J rv q
 | next =>
  obtain⟨σ',H',J,q⟩:=hs
  exact fin (v:=V.non) (u:=Value.none) J rfl q
 | brk =>
  obtain⟨_,_,_,q⟩:=hs
  exact False.elim q
 | cont =>
  obtain⟨_,_,_,q⟩:=hs
  exact False.elim q
section
variable{X:Cx}{x:Str}{p pos:Pos}{e:Expr}{es:List Expr}{t:TA}{id T:String}{r:List V->Hp->VK->Prop}
def KG(r:List V->Hp->VK->Prop)(t:TA):TE:=λσ H Q=>t σ H λvs H1=>r vs H1 Q
theorem a_(hc:fq X (.builtin id) r)(hg:Gl X x)(hm:X.mg x=none)(hv:bootBuiltins x=some (.builtin id))(ha:PA X (e::es) t)(hn:x≠"__name__":=by decide)(hdb:(x==("__debug__" : Str))=false:=by decide)
  (he:starEach (e::es) X.env=(false,eval e X.env)::starEach es X.env:=by rfl) (hpl:(backTo pos (starEach es X.env)).any (·.1)=false:=by rfl):PE X (.Call (.Name x p) (e::es) [] pos) (KG r t):=by
 intro pins s σ H Q I h
 refine wpAny_Call_Name_kw (iM I hg hm hv ?_ hn hdb)
 exact PyProof.Rows.callWith_builtin1 (b_ (ha pos pins s σ H _ I h) λus s1 ⟨vs,H1,I1,r1,q1⟩=>hc pins s1 σ H1 vs us Q I1 r1 q1) he hpl
theorem aV(hc:fq X (.type T) r)(hg:Gl X x)(hm:X.mg x=none)(hv:bootBuiltins x=some (.type T))(ha:PA X (e::es) t)(hn:x≠"__name__":=by decide)(hdb:(x==("__debug__" : Str))=false:=by decide)
  (he:starEach (e::es) X.env=(false,eval e X.env)::starEach es X.env:=by rfl) (hpl:(backTo pos (starEach es X.env)).any (·.1)=false:=by rfl):PE X (.Call (.Name x p) (e::es) [] pos) (KG r t):=by
 intro pins s σ H Q I h
 refine wpAny_Call_Name_kw (iM I hg hm hv ?_ hn hdb)
 exact PyProof.Rows.callWith_type1 (b_ (ha pos pins s σ H _ I h) λus s1 ⟨vs,H1,I1,r1,q1⟩=>hc pins s1 σ H1 vs us Q I1 r1 q1) he hpl
end
end L2
namespace HT
open PySem PyProof.Rows
section
open PySem.SeqAt
open PySem.AutoSeq1 (wpAny_loadPart')
open PySem.MeetsSeq PySem.MeetsSeq2 PySem.MeetsSeq3
end
section
variable{prog:Program}{w:World}{A:Around}{E:Value->Shared->Prop}{s:Shared}
theorem Ey{t b:Addr}{vs ws:List Value}{Q:Value->Shared->Prop}(ht:IsTup s.heap t vs.toArray)(hb:IsTup s.heap b ws.toArray)(hv:vs≠[])
  (h1:ws=[]->Q (.ref t) s) (h2:ws≠[]->Q (.ref s.heap.objs.size) {s with heap:=s.heap.push {cls:=.type "tuple",data:=.seq (vs++ws).toArray}})
  (hsz:vs.length+ws.length<=sizeLine):wpAny (model prog w) A (binaryOp .Add (.ref t) (.ref b)) Q E s:=by
 obtain⟨⟨cls,dd,data,sl⟩,ho,hc,n,hd⟩:=id ht
 obtain⟨⟨cls2,dd2,data2,sl2⟩,ho2,hc2,n2,hd2⟩:=id hb
 simp only at hc hd hc2 hd2
 subst hc hd hc2 hd2
 have e:vs.toArray++ws.toArray=(vs++ws).toArray:=by simp
 by_cases hw:ws=[]
 ·exact concat_meets ⟨_,ho,rfl⟩ ⟨_,ho2,rfl⟩ noFill_tuple_add seq_tuple_add PySem.F.slot_tuple_add PySem.F.entry_tuple_add (PySem.F.args_tuple_add_2 _ _)
   (tuple_addW1 t b vs.toArray ws.toArray n n2 dd dd2 sl sl2 (by simpa using hv) (by simp [hw])) ⟨ho,ho2,h1 hw⟩
 ·refine concat_meets ⟨_,ho,rfl⟩ ⟨_,ho2,rfl⟩ noFill_tuple_add seq_tuple_add PySem.F.slot_tuple_add PySem.F.entry_tuple_add (PySem.F.args_tuple_add_2 _ _)
   (tuple_addW2 t b vs.toArray ws.toArray n n2 dd dd2 sl sl2 (by simpa using hv) (by simpa using hw) (by rw [US,US]; exact hsz)) ⟨ho,ho2,?_⟩
  rw [e]
  exact h2 hw
def dH(n d:Nat):Option Int->Nat
 | none=>d
 | some v=>if v<0 then(v+(n:Int)).toNat else min v.toNat n
theorem oC(n d:Nat):dH n d none=d:=rfl
theorem y_(n d k:Nat):dH n d (some (k:Int))=min k n:=by
 show(if(k:Int)<0 then((k:Int)+(n:Int)).toNat else min (k:Int).toNat n)=min k n
 rw [if_neg (by omega),Int.toNat_natCast]
theorem Kp(n d:Nat)(hd:d<=n)(o:Option Int):dH n d o<=n:=by
 cases o with
 | none=>exact hd
 | some v =>
  show(if v<0 then(v+(n:Int)).toNat else min v.toNat n)<=n
  by_cases hv:v<0
  ·rw [if_pos hv]; omega
  ·rw [if_neg hv]; exact Nat.min_le_right _ _
theorem yW(v:Int)(n d:Nat):(if v<0 then max (v+(n:Int)) 0 else min v (n:Int))=((dH n d (some v):Nat):Int):=by
 show(if v<0 then max (v+(n:Int)) 0 else min v (n:Int))=(((if v<0 then(v+(n:Int)).toNat else min v.toNat n):Nat):Int)
 by_cases hv:v<0
 ·simp only [if_pos hv]; omega
 ·simp only [if_neg hv]; omega
theorem xu(lo hi:Option Int)(n:Nat):Builtin.Slice.sliceAdjust lo hi 1 (n:Int)=(((dH n 0 lo:Nat):Int),((dH n n hi:Nat):Int)):=by
 have h1:¬((1:Int)<0):=by omega
 unfold Builtin.Slice.sliceAdjust
 simp only [h1,if_false]
 refine Prod.ext ?_ ?_
 ·cases lo with
  | none=>rfl
  | some v=>exact yW v n 0
 ·cases hi with
  | none=>rfl
  | some v=>exact yW v n n
theorem w_(i j:Nat):Builtin.Slice.slicePlaces (i:Int) (j:Int) 1=j-i:=by
 unfold Builtin.Slice.slicePlaces
 have h1:(1:Int) > 0:=by omega
 simp only [h1,if_true,Int.ediv_one]
 split <;> omega
theorem nY{v:Value}{o:Option Int}{Q:Option Int->Shared->Prop}(p:IsPart v o)(h:Q o s):wpAny (model prog w) A (Builtin.Slice.slicePartIndex v) Q E s:=by
 cases p with
 | none=>exact slicePart_none h
 | int i t=>exact slicePart_int h
theorem ig{sl:Addr}{vl vu:Value}{lo hi:Option Int}{n:Nat}{Q:Int×Int×Nat->Shared->Prop}(hs:s.heap.IsSliceOf sl vl vu .none)(pl:IsPart vl lo)(pu:IsPart vu hi)
  (h:Q (((dH n 0 lo:Nat):Int),1,dH n n hi-dH n 0 lo) s):wpAny (model prog w) A (Builtin.Slice.sliceApplied (.ref sl) (pure (n:Int))) Q E s:=by
 obtain⟨os,hos,hcs,hds⟩:=id hs
 unfold Builtin.Slice.sliceApplied Builtin.Slice.sliceFields
 refine Uy (Uy (wpAny_field hos hds (x:=vl) rfl (Uy (wpAny_field hos hds (x:=vu) rfl (Uy (wpAny_field hos hds (x:=.none) rfl (Uz ?_)))))))
 refine Uy (slicePart_none ?_)
 show wpAny _ _ (if((1:Int)==0)=true then _ else _) _ _ s
 rw [if_neg (by decide)]
 refine Uy (nY pl (Uy (nY pu (Uy (Uz ?_)))))
 show wpAny _ _ (match Builtin.Slice.sliceAdjust lo hi 1 (n:Int)with | (lo,hi)=>pure (lo,(1:Int),Builtin.Slice.slicePlaces lo hi 1)) _ _ s
 rw [xu lo hi n]
 show wpAny _ _ (pure (((dH n 0 lo:Nat):Int),(1:Int),Builtin.Slice.slicePlaces ((dH n 0 lo:Nat):Int) ((dH n n hi:Nat):Int) 1)) _ _ s
 rw [w_]
 exact Uz h
theorem BH(xs:Array Value)(i k:Nat):((List.range k).filterMap λ(m:Nat)=>xs[((i:Int)+(m:Int)*1).toNat]?).toArray=((xs.toList.drop i).take k).toArray:=by
 have e:(λ(m:Nat)=>xs[((i:Int)+(m:Int)*1).toNat]?) = λm=>xs[i+m]?:=by
  funext m
  have:((i:Int)+(m:Int)*1).toNat=i+m:=by omega
  rw [this]
 rw [e]
 have:=pick_run xs i k
 rw [List.filterMap_map]at this
 have e2:((λx=>xs[x]?)∘ λx=>i+x) = λm=>xs[i+m]?:=rfl
 rw [e2]at this
 rw [this]
theorem lu{t sl:Addr}{items:Array Value}{vl vu:Value}{lo hi:Option Int}{Q:Value->Shared->Prop}(ht:IsTup s.heap t items)(hs:s.heap.IsSliceOf sl vl vu .none)(pl:IsPart vl lo)(pu:IsPart vu hi)
  (hw:¬(dH items.size 0 lo=0/\dH items.size items.size hi=items.size))
  (h:Q (.ref s.heap.objs.size) {s with heap:=s.heap.push {cls:=.type "tuple",data:=.seq ((items.toList.drop (dH items.size 0 lo)).take (dH items.size items.size hi-dH items.size 0 lo)).toArray}})
  (hsz:items.size<=sizeLine):wpAny (model prog w) A (getItem (.ref t) (.ref sl)) Q E s:=by
 have yH:sizeOk (.seq ((items.toList.drop (dH items.size 0 lo)).take (dH items.size items.size hi-dH items.size 0 lo)).toArray):=by
  show((items.toList.drop (dH items.size 0 lo)).take (dH items.size items.size hi-dH items.size 0 lo)).toArray.size<=sizeLine
  rw [US,U6,List.length_drop,Array.length_toList]
  omega
 have hj:dH items.size items.size hi<=items.size:=Kp _ _ (UD _) hi
 obtain⟨os,hos,hcs,hds⟩:=id hs
 have hTs:s.TypeIs (.ref sl) "slice":=⟨os,hos,hcs⟩
 unfold getItem
 try with_reducible refine U9 ?_
 first | refine Uy (Uz ?_) | skip
 refine Uy (wpAny_sequenceKey ht.typeIs (by decide) ?_)
 refine Uy (wpAny_callSpecial?_slot (name:=Str.ofString "__getitem__") ht.typeIs PyProof.Rows.slot_tuple_getitem
  (wpAny_call_entry PyProof.Rows.slot_tuple_getitem ht.typeIs entry_tuple_getitem ?_ (args_tuple_getitem _ _)))
 show wpAny _ _ (Builtin.Tuple.tupleItemsOf (.ref t) >>= _) _ _ s
 refine Uy (tupleItemsOf_ ht ?_)
 refine Uy (wpAny_typeOf hTs ?_)
 rw [if_pos (by decide)]
 refine Uy (ig hs pl pu ?_)
 have hno:¬((((dH items.size 0 lo:Nat):Int)==0&&(1:Int)==1&&(dH items.size items.size hi-dH items.size 0 lo)==items.size)=true):=by
  intro q
  rw [Vc,Vc]at q
  have q1:((dH items.size 0 lo:Nat):Int)=0:=eq_of_beq q.1.1
  have q2:dH items.size items.size hi-dH items.size 0 lo=items.size:=eq_of_beq q.2
  exact hw ⟨by omega,by omega⟩
 show wpAny _ _ (if(((dH items.size 0 lo:Nat):Int)==0&&(1:Int)==1&&(dH items.size items.size hi-dH items.size 0 lo)==items.size)=true then _ else _) _ _ s
 rw [if_neg hno,BH]
 first
  | exact Uy (m:=Builtin.Tuple.tupleExact _) (U_ (Uz ⟨_,rfl,Uz h⟩) yH)
  | exact Uy (m:=Builtin.Tuple.tupleExact _) (U_ (Uy (Uz (Uz ⟨_,rfl,Uz h⟩))) yH)
  | exact Uy (Uy (m:=Builtin.Tuple.tupleExact _) (U_ (Uz (Uz ⟨_,rfl,Uz h⟩)) yH))
  | exact Uy (Uy (m:=Builtin.Tuple.tupleExact _) (U_ (Uz ⟨_,rfl,Uz h⟩) yH))
end
end HT
namespace L2
open PySem PySem.Spec PyProof.Rows
abbrev TO:=St->Hp->(Option Int->Hp->Prop)->Prop
def PO(X:Cx)(e:Option Expr)(t:TO):Prop :=
 ∀(pins:List (Addr×Obj)) (s:Shared) (σ:St) (H:Hp) (Q:Option Int->Hp->Prop),Inv X pins σ H s->t σ H Q->
  wpAny (model X.prog X.w) X.A (evalPart e X.env) (λu s'=>∃o H',Inv X pins σ H' s'/\IsPart u o/\Q o H') X.xe s
def Gh:TO:=λ_ H Q=>Q none H
def Lq(t:TE):TO:=λσ H Q=>t σ H λx H1=>∃i,x=.int i/\Q (some i) H1
section
variable{X:Cx}{e:Expr}{te:TE}{lo hi:Option Expr}{tl th:TO}{pos p2:Pos}
theorem dz:PO X none Gh:=by
 intro pins s σ H Q I h
 rw [evalPart_none]
 exact Uz ⟨none,H,I,.none,h⟩
theorem cB(h:PE X e te):PO X (some e) (Lq te):=by
 intro pins s σ H Q I hw
 rw [evalPart_some]
 refine b_ (h pins s σ H _ I hw) λu s1 ⟨x,H1,I1,r1,q1⟩=>?_
 obtain⟨i,rfl,q⟩:=q1
 obtain⟨t,rfl⟩:=r1
 exact⟨some i,H1,I1,.int i t,q⟩
def FQ(X:Cx)(r:V->Option Int->Option Int->Hp->VK->Prop):Prop :=
 ∀(pins:List (Addr×Obj)) (s:Shared) (σ:St) (H:Hp) (x:V) (v vl vu:Value) (lo hi:Option Int) (sl:Addr) (Q:VK),Inv X pins σ H s->RelV x v->s.heap.IsSliceOf sl vl vu .none->IsPart vl lo->IsPart vu hi->r x lo hi H Q->
  ∃T id,typeLookup (.type T) "__getitem__"=pure (some (.builtin id))/\s.TypeIs v T/\wpAny (model X.prog X.w) X.A (getItem v (.ref sl)) (EP X pins σ Q) X.xe s
theorem FQ.or{r r':V->Option Int->Option Int->Hp->VK->Prop}(h:FQ X r)(h':FQ X r'):FQ X (λx lo hi H Q=>r x lo hi H Q\/r' x lo hi H Q):=by
 intro pins s σ H x v vl vu lo hi sl Q I rx hs pl pu q
 rcases q with q | q
 ·exact h pins s σ H x v vl vu lo hi sl Q I rx hs pl pu q
 ·exact h' pins s σ H x v vl vu lo hi sl Q I rx hs pl pu q
def Sr(r:V->Option Int->Option Int->Hp->VK->Prop)(te:TE)(tl th:TO):TE:=λσ H Q=>te σ H λx H1=>tl σ H1 λl H2=>th σ H2 λu H3=>r x l u H3 Q
theorem cu{r:V->Option Int->Option Int->Hp->VK->Prop}(hr:FQ X r)(he:PE X e te)(hl:PO X lo tl)(hu:PO X hi th):PE X (.Subscript e (.Slice lo hi none p2) pos) (Sr r te tl th):=by
 intro pins s σ H Q I h
 refine Subscript_ (b_ (he pins s σ H _ I h) λv s1 ⟨x,H1,I1,r1,q1⟩=>?_)
 refine wpAny_Slice (b_ (hl pins s1 σ H1 _ I1 q1) λvl s2 ⟨l,H2,I2,pl,q2⟩=>b_ (hu pins s2 σ H2 _ I2 q2) λvu s3 ⟨u,H3,I3,pu,q3⟩=>?_)
 rw [evalPart_none]
 refine Uz ?_
 have I4:Inv X pins σ H3 {s3 with heap:=s3.heap.push {cls:=.type "slice",data:=.fields #[vl,vu,.none]}}:=I3.kept (t':=s3.toks) λb ob q=>UA _ q
 obtain⟨T,id,hT,ht,hg⟩:=hr pins {s3 with heap:=s3.heap.push {cls:=.type "slice",data:=.fields #[vl,vu,.none]}} σ H3 x v vl vu l u s3.heap.objs.size Q I4 r1 (Heap.IsSliceOf.new ..) pl pu q3
 show wpAny (model X.prog X.w) X.A (subscriptTail e (.Slice lo hi none p2) v (.ref s3.heap.objs.size)) (EP X pins σ Q) X.xe {s3 with heap:=s3.heap.push {cls:=.type "slice",data:=.fields #[vl,vu,.none]}}
 exact tail_any (ops:=[.ref s3.heap.objs.size,v]) ht hT hg (by with_unfolding_all rfl)
def f_(xs:List V)(lo hi:Option Int):List V:=(xs.drop (HT.dH xs.length 0 lo)).take (HT.dH xs.length xs.length hi-HT.dH xs.length 0 lo)
theorem mi(xs:List V)(lo hi:Option Int):(f_ xs lo hi).length<=xs.length:=by
 unfold f_
 rw [U6,List.length_drop]
 omega
def Mp(K:Ve):V->Option Int->Option Int->Hp->VK->Prop:=λx lo hi H Q=>∃a xs,x=.ref a/\aH K H a xs/\
 ¬(HT.dH xs.length 0 lo=0/\HT.dH xs.length xs.length hi=xs.length)/\∀p,H p=none->Q (.ref p) (upd H p (.tup (f_ xs lo hi)))
theorem B6:FQ X (Mp X.K):=by
 intro pins s σ H x v vl vu lo hi sl Q I rx hs pl pu h
 obtain⟨a,xs,rfl,hx,hw,q⟩:=h
 cases rx
 obtain⟨its,r,ht,hz⟩:=I.tuple hx
 have hlen:its.toArray.size=xs.length:=by rw [US]; exact r.length.symm
 refine⟨"tuple",_,PyProof.Rows.slot_tuple_getitem.lookup,ht.typeIs,?_⟩
 refine HT.lu ht hs pl pu (by rw [hlen]; exact hw) ?_ (by rw [hlen]; exact hz)
 rw [hlen]
 refine⟨.ref s.heap.objs.size,_,I.laid (t':=s.toks) (o:=.tup (f_ xs lo hi)) (λb ob q=>UA _ q) (UD _) ?_,rfl,q _ (I.hok.fresh (UD _))⟩
 exact⟨UE (mi xs lo hi) hz,_,(r.drop (HT.dH xs.length 0 lo)).take (HT.dH xs.length xs.length hi-HT.dH xs.length 0 lo),g_.new _ _⟩
def GX(K:Ve):R2:=λx y H Q=>∃a b xs ys,x=.ref a/\y=.ref b/\aH K H a xs/\aH K H b ys/\xs≠[]/\xs.length+ys.length<=sizeLine/\
 (ys=[]->Q (.ref a) H)/\(ys≠[]->∀p,H p=none->Q (.ref p) (upd H p (.tup (xs++ys))))
theorem Vals.tG{xs:List V}{us:List Value}(r:Vals xs us):us=[]↔xs=[]:=by
 cases r with
 | nil=>simp
 | cons _ _=>simp
theorem sO:i6 X (binaryOp .Add) (GX X.K):=by
 intro pins s σ H x y v u Q I rx ry h
 obtain⟨a,b,xs,ys,rfl,rfl,ha,hb,hx,hz,q1,q2⟩:=h
 cases rx
 cases ry
 obtain⟨its,r1,p1,_⟩:=I.tuple ha
 obtain⟨its2,r2,p2,_⟩:=I.tuple hb
 refine HT.Ey p1 p2 (λz=>hx (r1.tG.mp z)) (λz=>⟨.ref a,H,I,rfl,q1 (r2.tG.mp z)⟩) (λz=>?_) (by rw [←r1.length,←r2.length]; exact hz)
 refine⟨.ref s.heap.objs.size,_,I.laid (t':=s.toks) (o:=.tup (xs++ys)) (λb ob q=>UA _ q) (UD _) ?_,rfl,q2 (λw=>z (r2.tG.mpr w)) _ (I.hok.fresh (UD _))⟩
 exact⟨by rw [UJ]; exact hz,_,r1.append r2,g_.new _ _⟩
end
def v7(n:Nat)(i:Int):Option Nat:=if 0<=i then(if i<n then some i.toNat else none)else if -(n:Int)<=i then some (i+n).toNat else none
def i_{α:Type}(xs:List α)(i:Int):Option α:=(v7 xs.length i).bind λj=>xs[j]?
theorem yx{n:Nat}{i:Int}{j:Nat}(h:v7 n i=some j):seqIndex? i n=some j/\j<n/\-(n:Int)<=i/\i<n:=by
 unfold v7 at h
 by_cases h0:0<=i
 ·rw [if_pos h0]at h
  by_cases h1:i<n
  ·rw [if_pos h1]at h
   have e:i.toNat=j:=U2 h
   exact⟨by rw [seqIndex_of h0 h1,e],by omega,by omega,h1⟩
  ·rw [if_neg h1]at h; cases h
 ·rw [if_neg h0]at h
  by_cases h1:-(n:Int)<=i
  ·rw [if_pos h1]at h
   have e:(i+n).toNat=j:=U2 h
   exact⟨by rw [seqIndex_neg (by omega) h1,e],by omega,h1,by omega⟩
  ·rw [if_neg h1]at h; cases h
theorem tM{α:Type}{xs:List α}{i:Int}{v:α}(h:i_ xs i=some v):∃j,seqIndex? i xs.length=some j/\xs[j]? = some v/\j<xs.length/\-(xs.length:Int)<=i/\i<xs.length:=by
 unfold i_ at h
 cases e:v7 xs.length i with
 | none=>rw [e]at h; cases h
 | some j =>
  rw [e]at h
  obtain⟨h1,h2,h3,h4⟩:=yx e
  exact⟨j,h1,h,h2,h3,h4⟩
theorem av{α:Type}{xs:List α}{j:Nat}{v:α}(h:xs[j]? = some v):i_ xs (j:Int)=some v:=by
 have hj:j<xs.length:=(UT.mp h).1
 have e:v7 xs.length (j:Int)=some j:=by
  unfold v7
  rw [if_pos (by omega),if_pos (by omega)]; simp
 unfold i_; rw [e]; exact h
theorem oX{α:Type}(xs:List α)(v:α):i_ (xs++[v]) (-1)=some v:=by
 have hl:(xs++[v]).length=xs.length+1:=by simp
 have e:v7 (xs++[v]).length (-1)=some xs.length:=by
  unfold v7
  rw [hl,if_neg (by decide),if_pos (by omega)]
  congr 1
  omega
 unfold i_
 rw [e]
 show(xs++[v])[xs.length]? = some v
 simp
def m9(b:Expr):Prop:=∀o i,subscripted b false o i=operate [o,i] (getItem o i)
def LU(X:Cx)(r:R2):Prop :=
 ∀(value slice:Expr) (pins:List (Addr×Obj)) (s:Shared) (σ:St) (H:Hp) (x y:V) (v u:Value) (Q:VK),Inv X pins σ H s->RelV x v->RelV y u->r x y H Q->
  subscripted slice false v u=operate [v,u] (getItem v u)->wpAny (model X.prog X.w) X.A (subscriptTail value slice v u) (EP X pins σ Q) X.xe s
def QP(X:Cx)(id:String)(r:V->List V->Hp->VK->Prop):Prop :=
 ∀(pins:List (Addr×Obj)) (s:Shared) (σ:St) (H:Hp) (x:V) (xs:List V) (v:Value) (us:List Value) (Q:VK),Inv X pins σ H s->RelV x v->Vals xs us->r x xs H Q->
  wpAny (model X.prog X.w) X.A (call (.builtin id) (v::us)) (EP X pins σ Q) X.xe s
section
variable{X:Cx}{a b:Expr}{ta tb:TE}{pos:Pos}
theorem fX{r:R2}(hr:LU X r)(ha:PE X a ta)(hb:PE X b tb)(hs:m9 b):PE X (.Subscript a b pos) (gE r ta tb):=by
 intro pins s σ H Q I h
 exact Subscript_ (Ii ha hb I h λv u s2 x y H2 I2 rx ry q=>hr a b pins s2 σ H2 x y v u Q I2 rx ry q (hs _ _))
def xy(K:Ve):R2:=λx y H Q=>∃p xs i v,x=.ref p/\y=.int i/\aZ K H p xs/\i_ xs i=some v/\Q v H
def sy(K:Ve):R2:=λx y H Q=>∃p xs i v,x=.ref p/\y=.int i/\aH K H p xs/\i_ xs i=some v/\Q v H
def Ox:R2:=λx y H Q=>∃z i c,x=.str z/\y=.int i/\z.length<=sizeLine/\i_ z.cps.toList i=some c/\Q (.str ⟨#[c]⟩) H
theorem fJ:LU X (xy X.K):=by
 intro value slice pins s σ H x y v u Q I rx ry h hs
 obtain⟨p,xs,i,z,rfl,rfl,hq,he,q⟩:=h
 cases rx
 obtain⟨t,rfl⟩:=ry
 obtain⟨its,r,pl,hz⟩:=I.list hq
 obtain⟨j,h1,h2,h3,h4,h5⟩:=tM he
 obtain⟨w,ew,xG⟩:=r.get h2
 have hl:=r.length
 have hn:=lV
 have fin:EP X pins σ Q w s:=⟨z,H,I,xG,q⟩
 by_cases h0:0<=i
 ·have hj:i.toNat=j:=by
   rw [seqIndex_of h0 h5]at h1
   exact U2 h1
  exact item_listR pl.isList h0 (by omega) (by rw [hj]; simpa using ew) fin hs
 ·have hj:(i+(its.toArray.size:Int)).toNat=j:=by
   rw [seqIndex_neg (by omega) h4]at h1
   rw [US,←hl]
   exact U2 h1
  exact subscriptTail_builtinR (x:=w) pl.isList.typeIs slot_list_getitem.lookup
   (wpAny_getItem_list_neg (Q:=λr s'=>r=w/\EP X pins σ Q r s') pl.isList (by omega) (by rw [US] <;> omega) (by omega) (by rw [hj]; simpa using ew) ⟨rfl,fin⟩) hs
theorem Br:LU X (sy X.K):=by
 intro value slice pins s σ H x y v u Q I rx ry h hs
 obtain⟨p,xs,i,z,rfl,rfl,hq,he,q⟩:=h
 cases rx
 obtain⟨t,rfl⟩:=ry
 obtain⟨its,r,pl,hz⟩:=I.tuple hq
 obtain⟨j,h1,h2,h3,h4,h5⟩:=tM he
 obtain⟨w,ew,xG⟩:=r.get h2
 have hl:=r.length
 have hn:=lV
 have fin:EP X pins σ Q w s:=⟨z,H,I,xG,q⟩
 exact subscriptTail_builtinR (x:=w) pl.typeIs slot_tuple_getitem.lookup
  (getItem_tuple (j:=j) (Q:=λr s'=>r=w/\EP X pins σ Q r s') pl (by omega) (by omega) (by rw [US,←hl]; exact h1) (by simpa using ew) ⟨rfl,fin⟩) hs
theorem Kk:LU X Ox:=by
 intro value slice pins s σ H x y v u Q I rx ry h hs
 obtain⟨z,i,c,rfl,rfl,hz,he,q⟩:=h
 obtain⟨t,rfl⟩:=rx
 obtain⟨t',rfl⟩:=ry
 obtain⟨j,h1,h2,h3,h4,h5⟩:=tM he
 have hl:z.cps.toList.length=z.length:=by simp [Str.length]
 rw [hl]at h1 h4 h5
 have hn:=lV
 exact tail_any (typeIs_str s z t) slot_str_getitem.lookup (getItem_str (c:=c) (by
  have e1:decide (i < -(2 ^ 63:Int))=false:=UG (by omega)
  have e2:decide (i≥2 ^ 63)=false:=UG (by omega)
  rw [e1,e2,Bool.or_false]) (by rw [h1]; simpa using h2) ⟨.str ⟨#[c]⟩,H,I.tok _,⟨_,rfl⟩,q⟩) hs
theorem v9(its:List Value)(n j:Nat)(u:Value):Obj.mapSeq (·.setIfInBounds j u) {cls:=.type "list",data:=.seq its.toArray n} ={cls:=.type "list",data:=.seq (its.set j u).toArray n}:=by
 simp [Obj.mapSeq]
theorem Inv.lst{pins:List (Addr×Obj)}{σ:St}{H:Hp}{s:Shared}{p:Addr}{xs:List V}(I:Inv X pins σ H s)(h:H p=some (.lst xs)) :
  ∃(its:List Value) (n:Nat),Vals xs its/\s.heap.get? p=some {cls:=.type "list",data:=.seq its.toArray n}/\xs.length<=sizeLine:=by
 obtain⟨z,its,n,r,e⟩:=I.hok p _ h
 exact⟨its,n,r,e,z⟩
theorem Inv.Js{pins:List (Addr×Obj)}{σ:St}{H:Hp}{s:Shared}{p:Addr}{xs ys:List V}{its its':List Value}{n n':Nat}{f:Obj->Obj}(I:Inv X pins σ H s)(h:H p=some (.lst xs))
  (ho:s.heap.get? p=some {cls:=.type "list",data:=.seq its.toArray n}) (hf:f {cls:=.type "list",data:=.seq its.toArray n} ={cls:=.type "list",data:=.seq its'.toArray n'}) (r:Vals ys its') (hz:ys.length<=sizeLine) (t:Nat) :
  Inv X pins σ (upd H p (.lst ys)) {s with heap:=s.heap.update p f,toks:=t}:=by
 have e:(s.heap.update p f).get? p=some {cls:=.type "list",data:=.seq its'.toArray n'}:=by
  rw [Heap.get?_update_self f ho (by rw [hf] <;> rfl),hf]
 refine I.write (x:=p) (e:=p) (by rw [h]; trivial) (.inl rfl) (λb u hb q=>(Heap.get?_update_other _ _ (Ne.symm hb)).trans q) ⟨_,e⟩ ?_
 exact⟨hz,its',n',r,e⟩
def L4:V->V->V->Hp->(Hp->Prop)->Prop:=λo i v H Q=>∃p xs k j,o=.ref p/\i=.int k/\H p=some (.lst xs)/\v7 xs.length k=some j/\Q (upd H p (.lst (xs.set j v)))
theorem set_list:LL X L4:=by
 intro pins s σ H o i v ov iv u Q I ro ri rv h
 obtain⟨p,xs,k,j,rfl,rfl,hp,hj,q⟩:=h
 cases ro
 obtain⟨t,rfl⟩:=ri
 obtain⟨its,n,r,ho,hz⟩:=I.lst hp
 obtain⟨h1,h2,h3,h4⟩:=yx hj
 have hl:=r.length
 have hn:=lV
 have I':Inv X pins σ (upd H p (.lst (xs.set j v))) {s with heap:=s.heap.update p (Obj.mapSeq (·.setIfInBounds j u))} :=
  I.Js hp ho (v9 its n j u) (r.set rv j) (by rw [List.length_set]; exact hz) s.toks
 by_cases h0:0<=k
 ·have hk:k.toNat=j:=by
   rw [seqIndex_of h0 h4]at h1
   exact U2 h1
  exact PySem.W.ki_setAt ho h0 (by omega) (by rw [US,←hl]; exact h4) (by rw [hk]; exact⟨_,I',q⟩)
 ·have hk:(k+(its.toArray.size:Int)).toNat=j:=by
   rw [seqIndex_neg (by omega) h3]at h1
   rw [US,←hl]
   exact U2 h1
  exact PySem.W.ki_setBack ho (by omega) (by rw [US,←hl]; exact h3) (by omega) (by rw [hk]; exact⟨_,I',q⟩)
theorem tN(lo hi:Option Int)(n:Nat):(sliceBounds lo hi none n).1=((HT.dH n 0 lo:Nat):Int)/\(sliceBounds lo hi none n).2.1=((HT.dH n n hi:Nat):Int)/\(sliceBounds lo hi none n).2.2=1:=by
 refine⟨?_,?_,rfl⟩
 ·cases lo with
  | none=>simp [sliceBounds,HT.dH]
  | some i =>
   simp only [sliceBounds,HT.dH,Option.getD_none,show(1:Int) > 0 by decide,if_true]
   by_cases h:i<0
   ·simp only [h,if_true] <;> omega
   ·simp only [h,if_false] <;> omega
 ·cases hi with
  | none=>simp [sliceBounds,HT.dH]
  | some i =>
   simp only [sliceBounds,HT.dH,Option.getD_none,show(1:Int) > 0 by decide,if_true]
   by_cases h:i<0
   ·simp only [h,if_true] <;> omega
   ·simp only [h,if_false] <;> omega
theorem qv(its:List Value)(lo hi:Option Int):slicePick its.toArray lo hi none=((its.drop (HT.dH its.length 0 lo)).take (HT.dH its.length its.length hi-HT.dH its.length 0 lo)).toArray:=by
 obtain⟨h1,h2,h3⟩:=tN lo hi its.toArray.size
 unfold slicePick
 rw [h1,h2,h3]
 simp only [sliceRange_one,pick_run,US] <;> rfl
def K_(K:Ve):V->Option Int->Option Int->Hp->VK->Prop:=λx lo hi H Q=>∃a xs,x=.ref a/\aZ K H a xs/\∀p,H p=none->Q (.ref p) (upd H p (.lst (f_ xs lo hi)))
theorem Gz:FQ X (K_ X.K):=by
 intro pins s σ H x v vl vu lo hi sl Q I rx hs pl pu h
 obtain⟨a,xs,rfl,hx,q⟩:=h
 cases rx
 obtain⟨its,r,ht,hz⟩:=I.list hx
 have hlen:=r.length
 refine⟨"list",_,slot_list_getitem.lookup,ht.isList.typeIs,?_⟩
 refine wpAny_getItem_list_slice ht.isList hs pl pu .none (by simp) ?_ (by rw [US] <;> omega)
 rw [qv,←hlen]
 refine⟨.ref s.heap.objs.size,_,I.laid (t':=s.toks) (o:=.lst (f_ xs lo hi)) (λb ob q=>UA _ q) (UD _) ?_,rfl,q _ (I.hok.fresh (UD _))⟩
 exact⟨UE (mi xs lo hi) hz,_,0,(r.drop (HT.dH xs.length 0 lo)).take (HT.dH xs.length xs.length hi-HT.dH xs.length 0 lo),UC _ rfl⟩
def eW:V->Bool
 | .non=>true
 | .bl _=>true
 | .int _=>true
 | .str _=>true
 | _=>false
def FT:V->V->Bool
 | .non,.non=>true
 | .bl a,.bl b=>a==b
 | .bl a,.int b=>(if a then 1 else 0)==b
 | .int a,.bl b=>a==(if b then 1 else 0)
 | .int a,.int b=>a==b
 | .str a,.str b=>a==b
 | _,_=>false
theorem JG{A:Around}{s:Shared}{y x:V}{u v:Value}(ry:RelV y u)(rx:RelV x v)(fy:eW y=true)(fx:eW x=true):SeqAt.EqAt A s u v (FT y x):=by
 cases y with
 | non =>
  cases ry
  cases x with
  | non=>cases rx; exact SeqAt.EqAt.same _
  | bl b=>cases rx; exact SeqAt.EqAt.none_bool b
  | int b=>obtain⟨t,rfl⟩:=rx; exact SeqAt.EqAt.none_int b t
  | str b=>obtain⟨t,rfl⟩:=rx; exact SeqAt.EqAt.none_str b t
  | _=>exact absurd (show false=true from fx) UR
 | bl a =>
  cases ry
  cases x with
  | non=>cases rx; exact SeqAt.EqAt.bool_none a
  | bl b=>cases rx; exact SeqAt.EqAt.bool_bool a b
  | int b=>obtain⟨t,rfl⟩:=rx; exact SeqAt.EqAt.bool_int a b t
  | str b=>obtain⟨t,rfl⟩:=rx; exact SeqAt.EqAt.bool_str a b t
  | _=>exact absurd (show false=true from fx) UR
 | int a =>
  obtain⟨t',rfl⟩:=ry
  cases x with
  | non=>cases rx; exact SeqAt.EqAt.int_none a t'
  | bl b=>cases rx; exact SeqAt.EqAt.int_bool a t' b
  | int b=>obtain⟨t,rfl⟩:=rx; exact SeqAt.EqAt.int_int a t' b t
  | str b=>obtain⟨t,rfl⟩:=rx; exact SeqAt.EqAt.int_str a t' b t
  | _=>exact absurd (show false=true from fx) UR
 | str a =>
  obtain⟨t',rfl⟩:=ry
  cases x with
  | non=>cases rx; exact SeqAt.EqAt.str_none a t'
  | bl b=>cases rx; exact SeqAt.EqAt.str_bool a t' b
  | int b=>obtain⟨t,rfl⟩:=rx; exact SeqAt.EqAt.str_int a t' b t
  | str b=>obtain⟨t,rfl⟩:=rx; exact SeqAt.EqAt.str_str a t' b t
  | _=>exact absurd (show false=true from fx) UR
 | _=>exact absurd (show false=true from fy) UR
def xo(x:V)(u:Value):Bool:=match u with
 | .none=>FT .non x
 | .bool b=>FT (.bl b) x
 | .int i _=>FT (.int i) x
 | .str z _=>FT (.str z) x
 | _=>false
theorem Bz{x y:V}{u:Value}(r:RelV y u)(f:eW y=true):xo x u=FT y x:=by
 cases y with
 | non=>cases r; rfl
 | bl b=>cases r; rfl
 | int i=>obtain⟨t,rfl⟩:=r; rfl
 | str z=>obtain⟨t,rfl⟩:=r; rfl
 | _=>exact absurd (show false=true from f) UR
theorem kN{x:V}:∀{xs:List V} {us:List Value},Vals xs us->xs.all eW=true->us.any (xo x)=xs.any λy=>FT y x
 | _,_,.nil,_=>rfl
 | y::xs,u::us,.cons r t,f=>by
  rw [List.all_cons,Vc]at f
  rw [List.any_cons,List.any_cons,Bz r f.1,kN t f.2]
theorem jz{A:Around}{s:Shared}{x:V}{v:Value}(rx:RelV x v)(fx:eW x=true):∀{xs:List V} {us:List Value},Vals xs us->xs.all eW=true->∀u∈us,SeqAt.EqAt A s u v (xo x u)
 | _,_,.nil,_=>λu hu=>by cases hu
 | y::xs,u::us,.cons r t,f=>λu' hu=>by
  rw [List.all_cons,Vc]at f
  rcases UX.mp hu with rfl | hu
  ·rw [Bz r f.1]; exact JG r rx f.1 fx
  ·exact jz rx fx t f.2 u' hu
def inV(x:V)(xs:List V):Bool:=xs.any λy=>FT y x
def Hn(K:Ve)(neg:Bool):R2:=λx y H Q=>∃p xs,y=.ref p/\(aZ K H p xs\/aH K H p xs)/\eW x=true/\xs.all eW=true/\Q (.bl (if neg then !inV x xs else inV x xs)) H
theorem cn:i6 X (compareOp .In) (Hn X.K false):=by
 intro pins s σ H x y v u Q I rx ry h
 obtain⟨p,xs,rfl,hq,fx,fs,q⟩:=h
 cases ry
 rcases hq with hq | hq
 ·obtain⟨its,r,pl,hz⟩:=I.list hq
  refine SeqAt.in_listAt (xo x) pl.isList (λw hw=>jz rx fx r fs w (by simpa using hw)) ⟨.bl _,H,I,rfl,?_⟩
  rw [show its.toArray.any (xo x)=its.any (xo x) by simp,kN r fs]
  exact q
 ·obtain⟨its,r,pl,hz⟩:=I.tuple hq
  refine SeqAt.in_tupleAt (xo x) pl (λw hw=>jz rx fx r fs w (by simpa using hw)) ⟨.bl _,H,I,rfl,?_⟩
  rw [show its.toArray.any (xo x)=its.any (xo x) by simp,kN r fs]
  exact q
theorem iN:i6 X (compareOp .NotIn) (Hn X.K true):=by
 intro pins s σ H x y v u Q I rx ry h
 obtain⟨p,xs,rfl,hq,fx,fs,q⟩:=h
 cases ry
 rcases hq with hq | hq
 ·obtain⟨its,r,pl,hz⟩:=I.list hq
  refine SeqAt.notIn_listAt (xo x) pl.isList (λw hw=>jz rx fx r fs w (by simpa using hw)) ⟨.bl _,H,I,rfl,?_⟩
  rw [show its.toArray.any (xo x)=its.any (xo x) by simp,kN r fs]
  exact q
 ·obtain⟨its,r,pl,hz⟩:=I.tuple hq
  refine SeqAt.notIn_tupleAt (xo x) pl (λw hw=>jz rx fx r fs w (by simpa using hw)) ⟨.bl _,H,I,rfl,?_⟩
  rw [show its.toArray.any (xo x)=its.any (xo x) by simp,kN r fs]
  exact q
theorem bF:fq X (.builtin "len") (λxs H Q=>∃p ys,xs=[.ref p]/\(aZ X.K H p ys\/aH X.K H p ys)/\Q (.int ys.length) H):=by
 intro pins s σ H xs us Q I r h
 obtain⟨p,ys,rfl,hq,q⟩:=h
 obtain⟨u,rfl,rx⟩:=vals1 r
 cases rx
 have hn:=lV
 rcases hq with hq | hq
 ·obtain⟨its,r',pl,hz⟩:=I.list hq
  have hlen:=r'.length
  exact Calls.call_len_list pl.isList (by simp only [US] <;> omega) ⟨.int ys.length,H,I.tok _,⟨s.toks+1,by rw [US,hlen]⟩,q⟩
 ·obtain⟨its,r',pl,hz⟩:=I.tuple hq
  have hlen:=r'.length
  exact len_tuple pl (by simp only [US] <;> omega) ⟨.int ys.length,H,I.tok _,⟨s.toks+1,by rw [US,hlen]⟩,q⟩
theorem lx:fq X (.type "list") (λxs H Q=>∃p ys,xs=[.ref p]/\(aZ X.K H p ys\/aH X.K H p ys)/\∀l,H l=none->Q (.ref l) (upd H l (.lst ys))):=by
 intro pins s σ H xs us Q I r h
 obtain⟨p,ys,rfl,hq,q⟩:=h
 obtain⟨u,rfl,rx⟩:=vals1 r
 cases rx
 have fin:∀(its:List Value),Vals ys its->ys.length<=sizeLine->∀(h':Heap) (c':Nat),(∀b o',s.heap.get? b=some o'->h'.get? b=some o')->
   h'.get? s.heap.objs.size=some {cls:=.type "list",dict:=none,data:=.seq its.toArray c',slots:=#[]}->EP X pins σ Q (.ref s.heap.objs.size) {s with heap:=h'}:=λits r' hz h' c' kp e =>
  ⟨.ref s.heap.objs.size,_,I.laid (t':=s.toks) kp (UD _) (show cz X.prog X.w _ h' _ (.lst ys) from⟨hz,its,c',r',e⟩),rfl,q _ (I.hok.fresh (UD _))⟩
 rcases hq with hq | hq
 ·obtain⟨its,r',pl,hz⟩:=I.list hq
  have hlen:=r'.length
  obtain⟨o,ho,hc,n,hd⟩:=pl.isList
  exact call_list_seq p (.inl rfl) ho hc hd (λh' c' kp e=>fin its r' hz h' c' kp e) (by simp only [US] <;> omega)
 ·obtain⟨its,r',pl,hz⟩:=I.tuple hq
  have hlen:=r'.length
  obtain⟨o,ho,hc,n,hd⟩:=pl
  exact call_list_seq p (.inr rfl) ho hc hd (λh' c' kp e=>fin its r' hz h' c' kp e) (by simp only [US] <;> omega)
theorem bA:fq X (.type "tuple") (λxs H Q=>∃p ys,xs=[.ref p]/\((aZ X.K H p ys/\∀l,H l=none->Q (.ref l) (upd H l (.tup ys)))\/(aH X.K H p ys/\Q (.ref p) H))):=by
 intro pins s σ H xs us Q I r h
 obtain⟨p,ys,rfl,h⟩:=h
 obtain⟨u,rfl,rx⟩:=vals1 r
 cases rx
 rcases h with⟨hq,q⟩ | ⟨hq,q⟩
 ·obtain⟨its,r',pl,hz⟩:=I.list hq
  have hlen:=r'.length
  refine call_tuple_list pl.isList (λh' kp=>?_) (by simp only [US] <;> omega)
  have I1:Inv X pins σ H {s with heap:=h'}:=I.kept (t':=s.toks) kp
  have I2:Inv X pins σ (upd H h'.objs.size (.tup ys)) {s with heap:=h'.push {cls:=.type "tuple",data:=.seq its.toArray}} :=
   I1.laid (t':=s.toks) (λb o e=>UA _ e) (UD _) (show cz X.prog X.w _ _ _ (.tup ys) from⟨hz,its,r',g_.new _ _⟩)
  exact⟨.ref h'.objs.size,_,I2,rfl,q _ (I1.hok.fresh (UD _))⟩
 ·obtain⟨its,r',pl,hz⟩:=I.tuple hq
  exact call_tuple_same pl ⟨.ref p,H,I,rfl,q⟩
def Q0(K:Ve)(T:String)(x:V)(H:Hp):Prop:=match x with
 | .str _=>T="str"
 | .int _=>T="int"
 | .ref p=>(T="list"/\∃xs,aZ K H p xs)\/(T="tuple"/\∃o,K.lookup p=some o/\o.cls=.type "tuple"/\o.dict=none)\/
   (T="dict"/\((∃kvs,H p=some (.dK kvs))\/∃kvs,H p=some (.dT kvs)))\/(T="set"/\∃S n,H p=some (.set S n))
 | _=>False
theorem Ih{pins:List (Addr×Obj)}{σ:St}{H:Hp}{s:Shared}{T:String}{x:V}{v:Value}(I:Inv X pins σ H s)(r:RelV x v)(ty:Q0 X.K T x H) :
  s.TypeIs v T/\∀a,v=.ref a->∃ob,s.heap.get? a=some ob/\ob.dict=none:=by
 cases x with
 | str z =>
  obtain⟨t,rfl⟩:=r
  cases(show T="str" from ty)
  exact⟨typeIs_str s z t,λ_ e=>nomatch e⟩
 | int i =>
  obtain⟨t,rfl⟩:=r
  cases(show T="int" from ty)
  exact⟨typeIs_int s i t,λ_ e=>nomatch e⟩
 | ref p =>
  cases r
  rcases ty with⟨rfl,xs,hq⟩ | ⟨rfl,o,hk,hc,hd⟩ | ⟨rfl,hk⟩ | ⟨rfl,S,n,hk⟩
  ·obtain⟨its,_,pl,_⟩:=I.list hq
   refine⟨pl.isList.typeIs,λa e=>?_⟩
   cases e
   obtain⟨o,n,e,c,hd,_⟩:=pl
   exact⟨o,e,hd⟩
  ·refine⟨⟨o,I.jJ p o hk,hc⟩,λa e=>?_⟩
   cases e
   exact⟨o,I.jJ _ o hk,hd⟩
  ·have z:∃o,s.heap.get? p=some o/\o.ExactDict:=by
    rcases hk with⟨kvs,hk⟩ | ⟨kvs,hk⟩
    ·obtain⟨_,_,_,_,o,_,_,e,ex,_⟩:=I.hok p _ hk
     exact⟨o,e,ex⟩
    ·obtain⟨_,_,_,_,o,_,_,e,ex,_⟩:=I.hok p _ hk
     exact⟨o,e,ex⟩
   obtain⟨o,e,ex⟩:=z
   refine⟨⟨o,e,ex.1⟩,λa e2=>?_⟩
   cases e2
   exact⟨o,e,ex.2.1⟩
  ·obtain⟨o,_,_,_,e,ex,_⟩:=I.hok p _ hk
   refine⟨⟨o,e,ex.1⟩,λa e2=>?_⟩
   cases e2
   exact⟨o,e,ex.2.1⟩
 | _=>exact False.elim ty
def RM(K:Ve)(T:String)(r:V->List V->Hp->VK->Prop)(to:TE)(t:TA):TE:=λσ H Q=>to σ H λx H1=>Q0 K T x H1/\t σ H1 λxs H2=>r x xs H2 Q
variable{o e:Expr}{es:List Expr}{to:TE}{t:TA}{name:Str}{apos cpos:Pos}{T id:String}{r:V->List V->Hp->VK->Prop}
theorem kW(pa:PlainAttrs T)(slot:Slot T name id)(hty:typeOf (.builtin id)=pure (.type "method_descriptor"))(hm:QP X id r)(ho:PE X o to)(ha:PA X (e::es) t)
  (hbase:attributeBase o name X.env (eval o X.env)=eval o X.env:=by rfl)
  (hfew:((backTo cpos (starEach (e::es) X.env)).all (λx=>!x.1)&&(backToKw cpos (keywordEach [] X.env)).all (λx=>x.1.isSome)
   && decide ((e::es).length+([]:List Keyword).length+(if([]:List Keyword).isEmpty then 0 else 1)<30))=true:=by rfl)
  (hline:(apos.endLine==cpos.line)=true:=by rfl) (hs:starEach (e::es) X.env=(false,eval e X.env)::starEach es X.env:=by rfl) (hplain:(backTo cpos (starEach es X.env)).any (·.1)=false:=by rfl) :
  PE X (.Call (.Attribute o name apos) (e::es) [] cpos) (RM X.K T r to t):=by
 intro pins s σ H Q I h
 refine wpAny_Call_method_late hbase hfew hline rfl (b_ (ho pins s σ H _ I h) λv s1 ⟨x,H1,I1,r1,ty,q1⟩=>?_)
 obtain⟨h1,h2⟩:=Ih I1 r1 ty
 refine⟨T,id,pa,slot,hty,h1,h2,?_⟩
 have hA:=ha cpos pins s1 σ H1 _ I1 q1
 rw [hs]at hA⊢
 refine Calls.callWith_builtin (by show(false||(backTo cpos (starEach es X.env)).any (·.1))=false; rw [hplain] <;> rfl) (Calls.evalArgs_plain ?_)
 exact b_ hA λus s2 ⟨vs,H2,I2,r2,q2⟩=>hm pins s2 σ H2 x vs v us Q I2 r1 r2 q2
end
def RO(X:Cx)(id:String)(r:V->List V->Hp->VK->Prop):Prop :=
 ∀(pins:List (Addr×Obj)) (s:Shared) (σ:St) (H:Hp) (x:V) (xs:List V) (v:Value) (us:List Value) (Q:VK),Inv X pins σ H s->RelV x v->Vals xs us->r x xs H Q->
  wpAny (model X.prog X.w) X.A (call (.builtin id) (v::us)) (EP X pins σ Q) X.xe s
theorem Vals.one:∀{x:V} {us:List Value},Vals [x] us->∃u,us=[u]/\RelV x u
 | _,_,.cons r .nil=>⟨_,rfl,r⟩
theorem Vals.rep{xs:List V}{us:List Value}(h:Vals xs us):∀k:Nat,Vals (List.replicate k xs).flatten (List.replicate k us).flatten
 | 0=>.nil
 | k+1=>by
  rw [List.replicate_succ,List.replicate_succ,List.flatten_cons,List.flatten_cons]
  exact Vals.append h (Vals.rep h k)
theorem foldl_rep(its:List Value):∀(k:Nat) (acc:List Value),
  List.foldl (λx1 x2=>x1++x2) acc.toArray (List.replicate k its.toArray)=(acc++(List.replicate k its).flatten).toArray
 | 0,acc=>by simp
 | k+1,acc=>by
  have e:acc.toArray++its.toArray=(acc++its).toArray:=by simp
  have e2:(acc++its)++(List.replicate k its).flatten=acc++(List.replicate (k+1) its).flatten:=by
   rw [List.replicate_succ,List.flatten_cons,List.append_assoc]
  rw [←e2,←foldl_rep its k (acc++its),←e,List.replicate_succ,List.foldl_cons]
section
variable{X:Cx}{pins:List (Addr×Obj)}{σ:St}{H:Hp}{s:Shared}{l b:Addr}{xs ys zs:List V}
theorem Inv.N1{its its':List Value}{n:Nat}{f:Array Value->Array Value}{t':Nat}(I:Inv X pins σ H s)(hH:H l=some (.lst xs))
  (e:s.heap.get? l=some {cls:=.type "list",data:=.seq its.toArray n}) (hf:f its.toArray=its'.toArray) (hv:Vals ys its') (hz:ys.length<=sizeLine) :
  Inv X pins σ (upd H l (.lst ys)) {s with heap:=s.heap.update l (Obj.mapSeq f),toks:=t'}:=by
 have q:=PySem.IsL.update e f
 rw [hf]at q
 refine I.write (x:=l) (e:=l) (by rw [hH]; exact trivial) (.inl rfl) (λb' u hb hu=>(Heap.get?_update_other s.heap (Obj.mapSeq f) (Ne.symm hb)).trans hu) ⟨_,q⟩ ?_
 exact⟨hz,its',_,hv,q⟩
theorem Inv.ME{its:List Value}{t':Nat}(I:Inv X pins σ H s)(hv:Vals ys its)(hz:ys.length<=sizeLine) :
  Inv X pins σ (upd H s.heap.objs.size (.lst ys)) {s with heap:=s.heap.push {cls:=.type "list",data:=.seq its.toArray},toks:=t'} :=
 I.laid (λ_ _ q=>UA _ q) (UD _) ⟨hz,its,0,hv,UC _ rfl⟩
theorem Inv.fresh(I:Inv X pins σ H s):H s.heap.objs.size=none:=I.hok.fresh (UD _)
theorem Inv.Et(I:Inv X pins σ H s)(hH:H l=some (.lst xs)):xs.length<=sizeLine/\∃(its:List Value) (n:Nat),Vals xs its/\xs.length=its.length/\s.heap.get? l=some {cls:=.type "list",data:=.seq its.toArray n}:=by
 obtain⟨z,its,n,r,e⟩:=I.hok l _ hH
 exact⟨z,its,n,r,r.length,e⟩
theorem CI{n:Nat}(h:n<=sizeLine):Builtin.List.listTooLong n=false:=by
 unfold Builtin.List.listTooLong
 exact UG (by omega)
end
section
variable{X:Cx}
def m4:V->List V->Hp->VK->Prop:=λx vs H Q=>∃l xs y,x=.ref l/\vs=[y]/\H l=some (.lst xs)/\xs.length<sizeLine/\Q .non (upd H l (.lst (xs++[y])))
theorem cX:RO X "list.append" m4:=by
 intro pins s σ H x vs v us Q I rx rv h
 obtain⟨l,xs,y,rfl,rfl,hH,hz,q⟩:=h
 cases rx
 obtain⟨u,rfl,ru⟩:=rv.one
 obtain⟨z,its,n,r,hl,e⟩:=I.Et hH
 refine call_meets F.slot_list_append ⟨_,e,rfl⟩ F.entry_list_append (F.args_list_append_2 _ _) (PySem.list_append l its.toArray n u (by rw [US]; omega)) ⟨e,?_⟩
 refine⟨.non,_,I.N1 (its':=its++[u]) hH e (by simp) (r.append (.cons ru .nil)) ?_,rfl,q⟩
 rw [UJ,List.length_singleton]
 omega
def Ob:R2:=λx y H Q=>∃l b xs zs,x=.ref l/\y=.ref b/\H l=some (.lst xs)/\H b=some (.lst zs)/\xs.length+zs.length<=sizeLine/\∀p,H p=none->Q (.ref p) (upd H p (.lst (xs++zs)))
theorem og:i6 X (binaryOp .Add) Ob:=by
 intro pins s σ H x y v u Q I rx ry h
 obtain⟨l,b,xs,zs,rfl,rfl,hH,hB,hz,q⟩:=h
 cases rx
 cases ry
 obtain⟨z,its,n,r,hl,e⟩:=I.Et hH
 obtain⟨z2,its2,n2,r2,hl2,e2⟩:=I.Et hB
 refine PySem.P.add_list e e2 ?_ (by rw [US,US]; omega)
 have ea:its.toArray++its2.toArray=(its++its2).toArray:=by simp
 rw [ea]
 exact⟨.ref _,_,I.ME (t':=s.toks) (r.append r2) (by rw [UJ]; omega),rfl,q _ I.fresh⟩
def OW:R2:=λx y H Q=>∃l k xs,x=.ref l/\y=.int k/\H l=some (.lst xs)/\-(2 ^ 63)<=k/\k<2 ^ 63/\xs.length*k.toNat<=sizeLine/\
 ∀p,H p=none->Q (.ref p) (upd H p (.lst (List.replicate k.toNat xs).flatten))
theorem len_rep{α:Type}(xs:List α)(k:Nat):(List.replicate k xs).flatten.length=k*xs.length:=by
 induction k with
 | zero=>simp
 | succ k ih=>rw [List.replicate_succ,List.flatten_cons,UJ,ih,Nat.succ_mul,Nat.add_comm]
theorem ya:i6 X (binaryOp .Mult) OW:=by
 intro pins s σ H x y v u Q I rx ry h
 obtain⟨l,k,xs,rfl,rfl,hH,h1,h2,hz,q⟩:=h
 cases rx
 obtain⟨t,rfl⟩:=ry
 obtain⟨z,its,n,r,hl,e⟩:=I.Et hH
 have hlen:its.toArray.size*k.toNat<=sizeLine:=by rw [US,←hl]; exact hz
 have O9:¬its.toArray.size*k.toNat > (2 ^ 63-1) / 8:=by
  have:(sizeLine:Nat)<=(2 ^ 63-1) / 8:=by decide
  omega
 have hfit:¬(!Builtin.List.listFitsIndex k)=true:=by
  rw [fitsIndex_both h1 h2]
  exact UR
 have LW:¬Builtin.List.listTooLong (its.toArray.size*k.toNat)=true:=by
  rw [CI hlen]
  exact UR
 have hnew:List.foldl (λx1 x2=>x1++x2) #[] (List.replicate (if its.toArray.isEmpty=true then 0 else k.toNat) its.toArray)=(List.replicate k.toNat its).flatten.toArray:=by
  have f0:∀m:Nat,List.foldl (λx1 x2=>x1++x2) #[] (List.replicate m its.toArray)=(List.replicate m its).flatten.toArray:=λm=>by
   have:=foldl_rep its m []
   rw [List.nil_append]at this
   exact this
  rw [f0]
  cases its with
  | nil=>simp
  | cons a r'=>rw [if_neg (by simp)]
 refine wpAny_binaryOp_repeat_ref (T:="list") (U:="int") (by decide) ⟨_,e,rfl⟩ (λs'=>typeIs_int s' k t) noFill_list_mul F.fills_int_mul F.slot_int_rmul repeat_list F.slot_int_index.lookup
  (call_meets F.slot_int_rmul (typeIs_int s k t) F.entry_int_rmul (F.args_int_rmul_2 _ _) (int___rmul___int_list k t l its.toArray n)
   ⟨e,rfl,⟨_,e,rfl⟩,call_meets F.slot_list_mul ⟨_,e,rfl⟩ F.entry_list_mul (F.args_list_mul_2 _ _) (AutoListH.list___mul___list_int_3 l its.toArray n k t hfit O9 LW) ⟨e,?_⟩⟩)
 rw [hnew]
 exact⟨.ref _,_,I.ME (t':=s.toks) (r.rep k.toNat) (by rw [len_rep,Nat.mul_comm]; exact hz),rfl,q _ I.fresh⟩
end
section
variable{prog:Program}{w:World}{A:Around}{E:Value->Shared->Prop}{s:Shared}
end
section
variable{X:Cx}
end
end L2
namespace Att
open PySem PySem.W PySem.Calls PyProof.Rows
theorem mO{P:Params}{h:Heap}:∀(ns:List Int) (vs:List Value),WellAll P h vs (ns.map WData.int)->IntsAre vs ns:=by
 intro ns
 induction ns with
 | nil =>
  intro vs w
  rw [List.map_nil]at w
  cases w
  exact .nil
 | cons n ns ih =>
  intro vs w
  rw [List.map_cons]at w
  cases w with
  | cons a b =>
   cases a
   exact .cons _ _ (ih _ b)
theorem Ak{l:OpenLaw}{n:Nat}(hn:l.most=some n){P:Params}{h:Heap}{args:List WData}{vals:List Value}
  (hpre:l.row.toRowW.claim.pre args=true) (hwl:WellAll P h vals args) :
  ∃a vs ns,vals=[Value.ref a]/\args=[WData.list (ns.map WData.int)]/\h.get? a=some {cls:=.type "list",data:=.seq vs.toArray}/\IntsAre vs ns/\ns.length<=n:=by
 have hsh:WShape.hasAll [] args [.list .int]=true:=(pre_splitW hpre).1
 have hc:l.pre.holds [] {args:=args}=true:=(pre_splitW hpre).2
 obtain⟨d,r,rfl,h1,h2⟩:=hasAllW_cons hsh
 obtain rfl:=hasAllW_nil h2
 obtain⟨xs,rfl,h3⟩:=hasW_list h1
 obtain⟨ns,rfl⟩:=items_int h3
 have hlen:ns.length<=n:=by
  unfold OpenLaw.pre at hc
  have h4:(WTm.not (.lt (.lit (.int (n:Int))) (.len (.arg 0)))).holds [] {args:=[.list (ns.map .int)]}=true:=by
   have h4:=(holds_andW hc).1
   rw [hn]at h4
   exact h4
  have h5:=condW_of h4 (w_not (w_lt w_lit (w_len_list (w_arg rfl))))
  rw [UI]at h5
  refine Nat.le_of_not_lt λq=>?_
  have q':(n:Int)<((ns.length:Nat):Int):=by omega
  first
   | (rw [UH q']at h5; exact absurd h5 (by decide))
   | (simp at h5; omega)
 cases hwl with
 | cons w1 w2 =>
  cases w2
  cases w1 with
  | list ho hall=>exact⟨_,_,ns,rfl,rfl,ho,mO ns _ hall,hlen⟩
theorem zL(l:OpenLaw)(args:List WData):l.row.toRowW.claim.post args (.bool true) args=true :=
 postW_of (r:=l.row.toRowW) (X:=(true==true))
  (show WShape.has [] (.bool true) .bool=true by first | rfl | decide | simp [WShape.has,WShape.arms,WShape.armsAll])
  (show(WTm.eq .res (.lit (.bool true))).value [] {args:=args,res:=some (.bool true),after:=args}=some (.bool (true==true)) from w_eq_bool (w_res rfl) w_lit) rfl
theorem uN{l:OpenLaw}{n:Nat}{q:Program}{loose:List Str}{XP:(Str->Option Value)->Heap->Prop}{YP:World->Heap->Prop}{d:DefRec}
  (hn:l.most=some n) (hdf:d.params.defaults=[])
  (call:∀(w:World) (s₀ s₁:Shared) (mg mb:Str->Option Value) (fa:Addr) (o:Obj) (pm cd doc:Value) (a:Addr) (vs:List Value) (ns:List Int),
   Ground q loose [] XP w s₀ mg mb s₁.heap->YP w s₁.heap->
   s₁.heap.get? fa=some o->o.data=.func (docDef d.name d.params d.body d.scope pm cd doc)->s₁.heap.CodeRec cd d.name->mg d.name=some (.ref fa)->
   s₁.heap.get? a=some {cls:=.type "list",data:=.seq vs.toArray}->IntsAre vs ns->ns.length<=n->s₁.gens = #[]->
   codeAny (model l.prog w) callerA (.call (.ref fa) ⟨[.ref a],[]⟩) (λr s'=>r=.ok (.ret (.bool true))/\OldK s₁.heap s'.heap/\s'.os=s₁.os/\AllBare s'.gens) s₁) :
  WalkO q loose XP YP l.row.toRowW d [] (λf vs=>PySem.call f vs):=by
 intro w s₀ s₁ mg mb G Y fa o pm cd doc dV kV ho hd hcd hD hmg hg args vals as hpre hlay hrd hwl hlo
 obtain rfl:dV=.none:=Dflts.none hD hdf
 obtain rfl:kV=.none:=Dflts.noKw hD
 obtain⟨a,vs,ns,rfl,rfl,hobj,hints,hlen⟩:=Ak hn hpre hwl
 refine enter_call (codeAny_mono (call w s₀ s₁ mg mb fa o pm cd doc a vs ns G Y ho (fd_plain hd) hcd hmg hobj hints hlen hg) λr s' hq=>?_)
 obtain⟨rfl,h2,h3,h4⟩:=hq
 exact⟨.inl ⟨.bool true,.bool true,[],rfl,λ_=>rfl,.bool true,zL l _,λ_=>⟨List.Pairwise.nil,λ_ hm=>(nomatch hm)⟩⟩,h2,h3,h4⟩
section
variable{prog:Program}{w:World}{A:Around}{E:Value->Shared->Prop}{s:Shared}{K:Frag}
end
end Att
namespace L2
open PySem PySem.Spec PyProof.Rows
theorem rk:∀{vs:List Value} {ns:List Int},IntsAre vs ns->Vals (ns.map V.int) vs
 | _,_,.nil=>.nil
 | _,_,.cons n t h=>.cons ⟨t,rfl⟩ (rk h)
def Only(H:Hp):Prop:=∀b,H b=none\/∃o xs,H b=some (.yg o (.lst xs))
theorem Bm{P:Program}{w:World}{K:Ve}{mg mb:Str->Option Value}{CX:m8}{k:Nat}{fa a:Addr}{fd:FuncData}{x:Str}{sp:Sp}{s₁:Shared}{vs:List Value}{ns:List Int}
  (KX:K.In s₁.heap) (hns:s₁.heap.Ns mainGlobals mg) (hb:s₁.heap.Ns builtinsNs mb) (hbb:∀x:Str,x≠"__name__"->mb x=bootBuiltins x) (hlim:s₁.heap.NoLimit) (hg:s₁.gens = #[])
  (ha:s₁.heap.get? a=some {cls:=.type "list",data:=.seq vs.toArray}) (hi:IntsAre vs ns) (hl:ns.length<=sizeLine) (hr:eK k callerA)
  (F:∀base:Heap,K.In base->base.Ns mainGlobals mg->e_ P w K mg base CX k fa fd [x] sp) (hbind:∀(s:Shared) (u:Value),BindsTo s fd ⟨[u],[]⟩ [(x,u)])
  (hsp:∀H:Hp,Only H->aZ K H a (ns.map V.int)->sp [.ref a] H (λv _=>v=.bl true) λ_ _ _=>False)
  (Pa:∀H e s',CX [] H s₁ (λ_ _ _=>False) e s'->False) :
  codeAny (model P w) callerA (.call (.ref fa) ⟨[.ref a],[]⟩) (λr s'=>r=.ok (.ret (.bool true))/\OldK s₁.heap s'.heap/\s'.os=s₁.os/\AllBare s'.gens) s₁:=by
 have rv:=rk hi
 have lenV:=hi.length
 have core:∀H:Hp,Only H->aZ K H a (ns.map V.int)->ja P w H s₁.heap->(∀b,H b≠none->b=a)->(H a≠none->K.lookup a=none)->
   codeAny (model P w) callerA (.call (.ref fa) ⟨[.ref a],[]⟩) (λr s'=>r=.ok (.ret (.bool true))/\OldK s₁.heap s'.heap/\s'.os=s₁.os/\AllBare s'.gens) s₁:=by
  intro H hO hS hok hA hK
  have yn:∀{b:Addr} {o:Obj},s₁.heap.get? b=some o->H b=none->(tZ s₁.heap H).get? b=some o:=λe n=>DV e n
  have Ln:∀{b:Addr} {o:Obj} {es:Array DictEntry} {ep:Nat},s₁.heap.get? b=some o->o.data=.dict es ep->H b=none:=λ{b o es ep} e d=>by
   cases q:H b with
   | none=>rfl
   | some u =>
    have e':b=a:=hA b (by rw [q]; simp)
    subst e'
    rw [ha]at e; cases e
    have d':Data.seq vs.toArray _=Data.dict es ep:=d
    cases d'
  have M7:∀{b:Addr} {m:Str->Option Value},s₁.heap.Ns b m->(tZ s₁.heap H).Ns b m:=λ{b m} ⟨o,es,ep,e,d,r⟩=>⟨o,es,ep,yn e (Ln e d),d,r⟩
  have Qj:K.In (tZ s₁.heap H):=λb o e=>yn (KX b o e) (by
   cases q:H b with
   | none=>rfl
   | some u =>
    have e':b=a:=hA b (by rw [q]; simp)
    subst e'
    rw [hK (by rw [q]; simp)]at e; cases e)
  have hM:Mod K mg (tZ s₁.heap H):=⟨Qj,M7 hns,⟨mb,M7 hb,hbb⟩,let ⟨mc,h1,h2⟩:=hlim; ⟨mc,M7 h1,h2⟩⟩
  have e0:wJ P w K mg (tZ s₁.heap H) callerA [] s₁ H:=⟨rfl,hM,λb o e=>EV e,Nat.le_of_eq (Ag _ _),trivial,λb hb=>absurd (show b∈([]:List Addr) from hb) (by simp),hok,.of_eq hg⟩
  refine codeAny_mono ((F _ Qj (M7 hns)).run callerA [] s₁ H ⟨[.ref a],[]⟩ [.ref a] [.ref a] _ _ hr e0 (hbind s₁ (.ref a)) (.cons rfl .nil) (hsp H hO hS)) λr s' h=>?_
  cases r with
  | error e=>exact(Pa H e s' h).elim
  | ok fl =>
   cases fl with
   | next=>exact False.elim h
   | brk=>exact False.elim h
   | cont=>exact False.elim h
   | ret u =>
    obtain⟨v,H',os,bare,un,hok',r',q⟩:=h
    have q':v=.bl true:=q
    subst q'
    obtain rfl:u=Value.bool true:=r'
    refine⟨rfl,OldK.of_keep λb o e=>?_,os,bare⟩
    cases q:H b with
    | none=>exact un.keep b o e q (by intro z; exact absurd (show b∈([]:List Addr) from z) (by simp)) (by simp)
    | some u =>
     rcases hO b with z | ⟨ob,xs,z⟩
     ·rw [q]at z; cases z
     ·have z2:=un.oZ b ob _ z
      obtain⟨e1,_⟩:=hok b _ z
      obtain⟨e2,_⟩:=hok' b _ z2
      rw [e]at e1; cases e1
      exact e2
 cases hk:K.lookup a with
 | some o =>
  have e:=KX a o hk
  rw [ha]at e
  cases e
  refine core (λ_=>none) (λ_=>.inl rfl) (.inr ⟨_,vs.toArray,_,hk,rfl,rfl,rfl,by rw [US,lenV]; exact hl,by simpa using rv⟩) (λb u z=>by have z':(none:Option HO)=some u:=z; cases z') (λb z=>absurd rfl z) λz=>absurd rfl z
 | none =>
  refine core (λb=>if b=a then some (.yg {cls:=.type "list",data:=.seq vs.toArray} (.lst (ns.map V.int)))else none) (λb=>?_) (.inl (.inr ⟨{cls:=.type "list",data:=.seq vs.toArray},if_pos rfl⟩)) (λb u z=>?_) (λb z=>?_) λ_=>hk
  ·by_cases hb:b=a
   ·exact .inr ⟨_,_,if_pos hb⟩
   ·exact .inl (if_neg hb)
  ·by_cases hb:b=a
   ·have z':=(if_pos hb).symm.trans z
    cases z'
    subst hb
    exact⟨ha,by rw [UI]; exact hl,vs,_,rv,ha⟩
   ·have z':=(if_neg hb).symm.trans z
    cases z'
  ·by_cases hb:b=a
   ·exact hb
   ·exact absurd (if_neg hb) z
theorem Fz{l:PySem.W.OpenLaw}{n k:Nat}{q:Program}{loose:List Str}{XP:(Str->Option Value)->Heap->Prop}{YP:World->Heap->Prop}{d:DefRec}{K:Params->Ve}{CX:World->m8}{sp:World->Sp}{x:Str}
  (hn:l.most=some n) (hn2:n<=sizeLine) (hdf:d.params.defaults=[]) (hr:eK k callerA)
  (hY:∀(w:World) (h:Heap),YP w h->(K w.params).In h)
  (F:∀(w:World) (mg:Str->Option Value) (fa:Addr) (h:Heap),(K w.params).In h->h.Ns mainGlobals mg->mg d.name=some (.ref fa)->
   ∃fd:FuncData,(∀(s:Shared) (u:Value),BindsTo s fd ⟨[u],[]⟩ [(x,u)])/\
    ∀base:Heap,(K w.params).In base->base.Ns mainGlobals mg->e_ l.prog w (K w.params) mg base (CX w) k fa fd [x] (sp w))
  (hsp:∀(w:World) (H:Hp) (a:Addr) (ns:List Int),ns.length<=n->Only H->aZ (K w.params) H a (ns.map V.int)->sp w [.ref a] H (λv _=>v=.bl true) λ_ _ _=>False)
  (Pa:∀(w:World) (H:Hp) (s:Shared) (e:Value) (s':Shared),CX w [] H s (λ_ _ _=>False) e s'->False) :
  PySem.W.WalkO q loose XP YP l.row.toRowW d [] (λf vs=>PySem.call f vs):=by
 refine Att.uN hn hdf λw s₀ s₁ mg mb fa o pm cd doc a vs ns G Y ho hd hcd hmg hobj hints hlen hg=>?_
 have KX:=hY w _ Y
 obtain⟨fd,hb,hF⟩:=F w mg fa _ KX G.T.g hmg
 exact Bm KX G.T.g G.T.b G.T.builtins G.T.nolimit hg hobj hints (UE hlen hn2) hr hF hb (λH hO hS=>hsp w H a ns hlen hO hS) λH e s'=>Pa w H s₁ e s'
def inClass(s:Stmt)(j:Nat):Stmt:=match s with
 | .ClassDef _ _ _ body _ _ _ _ _ _ _=>body.getD j (.Pass ⟨0,0,0,0⟩)
 | _=>.Pass ⟨0,0,0,0⟩
def dY(s:Stmt):Arguments:=match s with
 | .FunctionDef _ a _ _ _ _ _ _ _ _=>a
 | _=>{posonlyargs:=[],args:=[],vararg:=none,kwonlyargs:=[],kw_defaults:=[],kwarg:=none,defaults:=[]}
def cR(s:Stmt):List Stmt:=match s with
 | .FunctionDef _ _ b _ _ _ _ _ _ _=>b
 | _=>[]
def ar(s:Stmt):Scope:=match s with
 | .FunctionDef _ _ _ _ _ _ sc _ _ _=>sc
 | _=>{kind:=.function,names:=[],isGenerator:=false,isCoroutine:=false}
abbrev bf:m8:=λ_ _ _ _ _ _=>False
abbrev E0:XK:=λ_ _ _=>False
theorem uv{X:Cx}:Passes bf X E0:=λ_ _ _ _ _ _ _ h=>h.elim
structure A2(K:Ve)(x qual:Str)(st:Stmt)(f:Addr)(fd:FuncData):Prop where
 ex:∃(oc:Value) (od:Option Addr) (kV doc pm:Value) (an:Option Addr) (cdv ct:Value) (osl:Array (Option Value)),
  fd=PySem.W.fnOf x qual (dY st) (cR st) (ar st) .none kV doc pm an cdv ct/\K.lookup f=some ⟨oc,od,.func fd,osl⟩/\PySem.W.codeIn K cdv qual=true
 kp:PySem.W.keepIn K (.ref f)=true
section
variable{P:Program}{w:World}{K:Ve}{mg:Str->Option Value}{base:Heap}
theorem A2.ok{x qual:Str}{st:Stmt}{f:Addr}{fd:FuncData}{N ps:List Str}{k:Nat}{sp:Sp}(F:A2 K x qual st f fd)(S:az N ps (ar st))(len:∀vs H Q E,sp vs H Q E->vs.length=ps.length)
  (hbody:∀(cdv:Value) (A:Around) (outer:List Env) (s:Shared) (H:Hp) (vs:List V) (Q:VK) (E:XK),eK k (A.deeper (envOfC qual (ar st) s.heap.objs.size f cdv))->sp vs H Q E->
   ∃t,nN (qm bf P w K mg base N qual (ar st) f cdv A outer s H E).yC (cR st) t/\t {nx:=λ_ H'=>Q .non H',rt:=Q} (start N vs) H):e_ P w K mg base bf (k+1) f fd ps sp:=by
 obtain⟨oc,od,kV,doc,pm,an,cdv,ct,osl,rfl,lk,hcd⟩:=F.ex
 refine Hy lk hcd S len λA outer s H vs Q E hr hsp=>?_
 obtain⟨t,h,q⟩:=hbody cdv A outer s H vs Q E hr hsp
 exact⟨t,h.yC,q⟩
theorem A2.binds{x qual:Str}{st:Stmt}{f:Addr}{fd:FuncData}{ps:List Str}(F:A2 K x qual st f fd)
  (h:∀(kV doc pm:Value) (an:Option Addr) (cdv ct:Value) (us:List Value),us.length=ps.length->bindArgs (PySem.W.fnOf x qual (dY st) (cR st) (ar st) .none kV doc pm an cdv ct) ⟨us,[]⟩=pure (ps.zip us)):Binds K fd ps []:=by
 obtain⟨oc,od,kV,doc,pm,an,cdv,ct,osl,rfl,lk,hcd⟩:=F.ex
 exact .all (h kV doc pm an cdv ct)
theorem wI{x qual:Str}{st:Stmt}{f:Addr}{oc:Value}{od an:Option Addr}{osl:Array (Option Value)}{kV doc pm cdv ct:Value}(l:K.lookup f=some ⟨oc,od,.func (PySem.W.fnOf x qual (dY st) (cR st) (ar st) .none kV doc pm an cdv ct),osl⟩)
  (c:PySem.W.codeIn K cdv qual=true) (k:PySem.W.keepIn K (.ref f)=true):A2 K x qual st f (PySem.W.fnOf x qual (dY st) (cR st) (ar st) .none kV doc pm an cdv ct):=⟨⟨oc,od,kV,doc,pm,an,cdv,ct,osl,rfl,l,c⟩,k⟩
end
theorem jW{A:Around}{k:Nat}(hr:eK k A):A.units+1<cLine:=UL (Nat.add_le_add_left (by decide:1<=64) _) hr.units
section
variable{X:Cx}
theorem pv(i:Nat){x:Str}{pos:Pos}(hN:X.N[i]? = some x:=by rfl)(hv:OD X.env.scope x:=by first | exact Or.inl rfl | exact Or.inr (Or.inl rfl) | exact Or.inr (Or.inr rfl))(hd:(x==("__debug__" : Str))=false:=by decide)
  (hcd:(x==("__classdict__" : Str))=false:=by decide):PE X (.Name x pos) (bx i):=yb hN hv hd hcd
end
theorem bB{A B:Prop}(h:B):if false=true then A else B:=by
 rw [if_neg UR]
 exact h
theorem bY{A B:Prop}(h:A):if true=true then A else B:=by
 rw [if_pos rfl]
 exact h
theorem cG{c A B:Prop} [Decidable c](h1:c->A)(h2:¬c->B):if c then A else B:=by
 by_cases h:c
 ·rw [if_pos h]
  exact h1 h
 ·rw [if_neg h]
  exact h2 h
def aM(H H':Hp):Prop:=∀b o,H b=some o->H' b=some o
theorem aM.refl(H:Hp):aM H H:=λ_ _ h=>h
theorem aM.trans{H H1 H2:Hp}(a:aM H H1)(b:aM H1 H2):aM H H2:=λc o h=>b c o (a c o h)
theorem aM.free{H H':Hp}(e:aM H H'){l:Addr}(h:H' l=Option.none):H l=Option.none:=by
 cases q:H l with
 | none=>rfl
 | some o =>
  rw [e l o q]at h
  cases h
theorem aM.seq{K:Ve}{H H':Hp}{a:Addr}{xs:List V}(e:aM H H')(h:aZ K H a xs):aZ K H' a xs:=by
 rcases h with(h | ⟨o,h⟩) | h
 ·exact .inl (.inl (e _ _ h))
 ·exact .inl (.inr ⟨o,e _ _ h⟩)
 ·exact .inr h
def bM(cells:List (Str×Addr)):List (Str×NameKind)->List (Str×Addr)->List (Str×Addr)
 | [],acc=>acc
 | (n,k)::r,acc=>bM cells r (if(k==NameKind.free)=true then(n,(cells.lookup n).getD 0)::acc else acc)
theorem rF{cells:List (Str×Addr)}{x:Str}{c:Addr}:∀{ns:List (Str×NameKind)} {acc:List (Str×Addr)},(x,c)∈bM cells ns acc->((x,NameKind.free)∈ns/\c=(cells.lookup x).getD 0)\/(x,c)∈acc
 | [],_,h=>.inr h
 | (n,k)::r,acc,h=>by
  have q:=rF (ns:=r) h
  rcases q with⟨q1,q2⟩ | q
  ·exact .inl ⟨UQ _ q1,q2⟩
  ·by_cases hk:(k==NameKind.free)=true
   ·rw [if_pos hk]at q
    have ek:k=NameKind.free:=by simpa using hk
    rcases UX.mp q with e | q
    ·cases e
     subst ek
     exact .inl ⟨Va,rfl⟩
    ·exact .inr q
   ·rw [if_neg hk]at q
    exact .inr q
theorem rl{cells:List (Str×Addr)}{p:Str×Addr}:∀{ns:List (Str×NameKind)} {acc:List (Str×Addr)},p∈acc->p∈bM cells ns acc
 | [],_,h=>h
 | (n,k)::r,acc,h=>by
  refine rl (ns:=r) ?_
  split
  ·exact UQ _ h
  ·exact h
theorem rq{cells:List (Str×Addr)}{x:Str}:∀{ns:List (Str×NameKind)} {acc:List (Str×Addr)},(x,NameKind.free)∈ns->(x,(cells.lookup x).getD 0)∈bM cells ns acc
 | (n,k)::r,acc,h=>by
  rcases UX.mp h with e | h
  ·cases e
   refine rl (ns:=r) ?_
   rw [if_pos (by rfl)]
   exact Va
  ·exact rq (ns:=r) h
theorem jY{x:Str}{c:Addr}:∀{l:List (Str×Addr)},(x,c)∈l->∃c',l.lookup x=some c'
 | (n,d)::r,h=>by
  rw [List.lookup_cons]
  cases e:x==n with
  | true=>exact⟨d,rfl⟩
  | false =>
   rcases UX.mp h with q | q
   ·cases q
    simp at e
   ·exact jY q
theorem q_{env:Env}(f:(Str×NameKind)->List (Str×Addr)->Sem (ForInStep (List (Str×Addr))))(hf1:∀n acc c,env.cells.lookup n=some c->f (n,.free) acc=pure (.yield ((n,c)::acc)))
  (hf2:∀n k acc,(k==NameKind.free)=false->f (n,k) acc=pure (.yield acc)):∀(ns:List (Str×NameKind)) (acc:List (Str×Addr)),(∀y∈ns,y.2=.free->∃c,env.cells.lookup y.1=some c)->forIn ns acc f=pure (bM env.cells ns acc)
 | [],_,_=>rfl
 | (n,k)::r,acc,h=>by
  have ih:=λacc'=>q_ f hf1 hf2 r acc' λy hy=>h y (UQ _ hy)
  rw [List.forIn_cons]
  cases hk:k==NameKind.free with
  | true =>
   have ek:k=NameKind.free:=by simpa using hk
   subst ek
   obtain⟨c,e⟩:=h (n,.free) Va rfl
   have e':env.cells.lookup n=some c:=e
   rw [hf1 n acc c e]
   show forIn r ((n,c)::acc) f=_
   rw [ih]
   show _=pure (bM env.cells r (if(NameKind.free==NameKind.free)=true then(n,(env.cells.lookup n).getD 0)::acc else acc))
   rw [if_pos (by rfl),e']
   rfl
  | false =>
   rw [hf2 n k acc hk]
   show forIn r acc f=_
   rw [ih]
   show _=pure (bM env.cells r (if(k==NameKind.free)=true then(n,(env.cells.lookup n).getD 0)::acc else acc))
   rw [if_neg (by rw [hk]; decide)]
theorem cV{scope:Scope}{env:Env}(h:∀y∈scope.names,y.2=.free->∃c,env.cells.lookup y.1=some c):closureFor scope env=pure (bM env.cells scope.names []):=by
 unfold closureFor
 show(forIn scope.names [] _ >>= _)=_
 rw [q_ (env:=env) _ ?_ ?_ scope.names [] h]
 ·rfl
 ·intro n acc c e
  show(if(NameKind.free==NameKind.free)=true then _ else _)=_
  rw [if_pos (by rfl)]
  unfold cellOf
  rw [e]
  first | rfl | skip
 ·intro n k acc hk
  show(if(k==NameKind.free)=true then _ else _)=_
  rw [if_neg (by rw [hk]; decide)]
abbrev aK(X:Cx)(N':List Str)(sc:Scope)(cl:List (Str×Addr))(C:Addr)(s:Shared)(H:Hp)(fp:List Addr):Cx :=
 {X with N:=N',s₀:=s,H₀:=H,env:=compEnvC sc cl C X.env,outer:=X.stack,stack:=X.stack,ex:=fp,fn:=λx=>sc.names.lookup x==some NameKind.local,pn:=[],xe:=λ_ _=>False}
structure ba(yD:Scope)(ON N':List Str)(src:List (Option Nat))(sc:Scope):Prop where
 kind:sc.kind=.function
 Lo:yD.kind=.function
 uniq:∀y∈sc.names,sc.names.lookup y.1=some y.2
 oA:∀y∈sc.names,y.2≠ .cell
 free:∀y∈sc.names,y.2=.free->yD.names.lookup y.1=some .cell\/yD.names.lookup y.1=some .free
 len:src.length=N'.length
 src:∀(i:Nat) (x:Str) (j:Nat),N'[i]? = some x->src[i]? = some (some j)->ON[j]? = some x/\sc.names.lookup x=some .free
def jO(src:List (Option Nat))(σ:St):St:=src.map λo=>o.bind λj=>(σ[j]?).bind id
theorem BR{src:List (Option Nat)}{σ:St}{i:Nat}{v:V}(h:(jO src σ)[i]? = some (some v)):∃j,src[i]? = some (some j)/\σ[j]? = some (some v):=by
 unfold jO at h
 rw [U5]at h
 cases e:src[i]? with
 | none=>rw [e]at h; cases h
 | some o =>
  rw [e]at h
  cases o with
  | none=>cases h
  | some j =>
   have h':(σ[j]?).bind id=some v:=U2 h
   cases e2:σ[j]? with
   | none=>rw [e2]at h'; cases h'
   | some w =>
    rw [e2]at h'
    have h'':w=some v:=h'
    exact⟨j,rfl,by rw [e2,h'']⟩
def i9(X:Cx)(ifs:List Expr)(t:TT):Prop :=
 ∀(pins:List (Addr×Obj)) (s:Shared) (σ:St) (H:Hp) (Q:Bool->Hp->Prop),Inv X pins σ H s->t σ H Q->
  wpAny (model X.prog X.w) X.A (forIn ifs true λc r=>if r=true then do let ok←isTrue c X.env (eval c X.env); pure (ForInStep.yield ok)else pure (ForInStep.yield r)) (TP X pins σ Q) X.xe s
def Ll:TT:=λ_ H Q=>Q true H
theorem aX{X:Cx}:i9 X [] Ll:=λ_ _ _ H _ I h=>wpAny_tests_nil ⟨H,I,h⟩
theorem nZ{X:Cx}{c:Expr}{t:TT}(h:PT X c t):i9 X [c] t:=λpins s σ H Q I q=>wpAny_tests_one (h pins s σ H Q I q)
def pI(J:It)(g:TG)(tc:TT)(te:TE)(D:Addr)(Q:VK)(W:Nat->Nat->St->List V->Hp->Prop):Prop :=
 ∀i m σ ys H,W i m σ ys H->H D=some (.lst ys)/\((J.stop i H/\Q (.ref D) H)\/(J.go i H/\ys.length<sizeLine/\∃N:St->List V->Hp->Prop,(∀σ' ys' H',N σ' ys' H'->∃m',m'<m/\W (i+1) m' σ' ys' H')/\
  ∀x H',J.FV i H x H'->g x σ H' λdf H2=>tc df H2 λb H3 =>
   if b=true then te df H3 λv H4=>H4 D=some (.lst ys)/\N df (ys++[v]) (upd H4 D (.lst (ys++[v])))else N df ys H3))
def C7(src:List (Option Nat))(wi:TI)(g:TG)(tc:TT)(te:TE):TE:=λσ H Q=>wi σ H λJ H1=>∀D,H1 D=none->
 ∃W:Nat->Nat->St->List V->Hp->Prop,(∃m,W 0 m (jO src σ) [] (upd H1 D (.lst [])))/\pI J g tc te D Q W
section
variable{X:Cx}{elt target iter:Expr}{ifs:List Expr}{sc:Scope}{pos:Pos}{wi:TI}{g:TG}{tc:TT}{te:TE}{N':List Str}{src:List (Option Nat)}
theorem A0{it acc:Value}{env:Env}{prog:Program}{w:World}{A:Around}{s:Shared}{R:Result->Shared->Prop}(Iv:Nat->Shared->Prop)
  (turn:∀n s,Iv n s->wpAny (model prog w) A (pyNext it) (λr s₁=>match r with
   | none=>R (.ok .next) s₁
   | some v=>wpAny (model prog w) A (letOwnedTupleGo target it v) (λ_ s₁'=>wpAny (model prog w) A (assign target env v) (λ_ s₂ =>
     wpAny (model prog w) A (forIn ifs true λc r=>if r=true then do let ok←isTrue c env (eval c env); pure (ForInStep.yield ok)else pure (ForInStep.yield r)) (λok s₃ =>
      if ok=true then wpAny (model prog w) A (eval elt env) (λx s₄ =>
       wpAny (model prog w) A (call (.builtin "list.append") [acc,x]) (λ_ s₅=>∃m,m<n/\Iv m s₅) (λ_ _=>False) s₄) (λ_ _=>False) s₃
      else∃m,m<n/\Iv m s₃) (λ_ _=>False) s₂) (λ_ _=>False) s₁') (λ_ _=>False) s₁) (λ_ _=>False) s)
  (n:Nat) (h:Iv n s) :
  codeAny (model prog w) A (.compLoop (.ListComp elt [⟨target,iter,ifs,0⟩] sc pos) 0 it acc env) R s:=by
 refine codeAny_loop rfl Iv (λn s hI=>?_) n h
 show wpAny _ A ((compTurn (.ListComp elt [⟨target,iter,ifs,0⟩] sc pos) 0 it acc env).onRaise (λx=>do noteFrame x env; theTreesLotGoes x)) _ _ s
 refine wpAny_noted ?_
 rw [compTurn_list]
 refine Uy (wpAny_standAt (Uy (U8 (turn n s hI) (λr s₁ h₁=>?_) λ_ _ h'=>h'.elim)))
 cases r with
 | none=>exact Uz h₁
 | some v =>
  refine Uy (U8 h₁ (λ_ s₁' h₁'=>Uy (U8 h₁' (λ_ s₂ h₂=>Uy (U8 h₂ (λok s₃ h₃=>?_) λ_ _ h'=>h'.elim)) λ_ _ h'=>h'.elim)) λ_ _ h'=>h'.elim)
  cases ok with
  | false=>exact Uz ⟨rfl,h₃⟩
  | true =>
   exact Uy (Uy (U8 h₃ (λx s₄ h₄=>Uy (U8 h₄ (λ_ s₅ h₅=>Uz (Uz ⟨rfl,h₅⟩)) λ_ _ h'=>h'.elim)) λ_ _ h'=>h'.elim))
theorem iR{pins:List (Addr×Obj)}{σ:St}{H:Hp}{s:Shared}{h1:Heap}{fp:List Addr}(S:ba X.env.scope X.N N' src sc)(I:Inv X pins σ H s)(f2:∀b∈fp,dC X pins H b)(o2:∀b∈fp,b<s.heap.objs.size)
  (ns:h1.Ns s.heap.objs.size λx=>(([]:List (Str×Value)).reverse.lookup x)) (sb:Heap.SameBut s.heap.objs.size (s.heap.push {cls:=.type "dict",data:=.dict #[]}) h1) {tk:Nat} :
  Inv (aK X N' sc (bM X.env.cells sc.names []) s.heap.objs.size s H fp) [] (jO src σ) H {s with heap:=h1,toks:=tk}:=by
 have old:∀b o,s.heap.get? b=some o->h1.get? b=some o:=λb o e=>(sb.2 b (U0 (UB e))).trans (UA _ e)
 have clo:∀x c,(bM X.env.cells sc.names []).lookup x=some c->X.env.cells.lookup x=some c/\sc.names.lookup x=some .free:=λx c e=>by
  rcases rF (mem_of_lookup e)with⟨m,q⟩ | z
  ·obtain⟨c',e'⟩:=I.ok.has x (S.free _ m rfl)
   rw [e']at q
   exact⟨by rw [e',q]; rfl,S.uniq _ m⟩
  ·cases z
 have Iq:∀x,sc.names.lookup x=some .free->∃c,(bM X.env.cells sc.names []).lookup x=some c:=λx e=>jY (rq (mem_of_lookup e))
 have kinds:∀(x:Str) (k:NameKind),(relabel sc X.env).names.lookup x=some k->(k=.cell\/k=.free)->sc.names.lookup x=some .free:=λx k e hk=>by
  have gen:∀ns:List (Str×NameKind),(∀y∈ns,y.2≠ .cell)->(ns.map λ(n,k)=>if(k==NameKind.free&&X.env.scope.kind == .function&&X.env.kindOf n==some .cell)then(n,NameKind.cell)else(n,k)).lookup x=some k->ns.lookup x=some .free:=by
   intro ns
   induction ns with
   | nil=>intro _ h; cases h
   | cons y r ih =>
    obtain⟨n,k1⟩:=y
    intro hn h
    rw [List.map_cons]at h
    dsimp only at h
    by_cases hc:(k1==NameKind.free&&X.env.scope.kind == .function&&X.env.kindOf n==some .cell)=true
    ·rw [if_pos hc,List.lookup_cons]at h
     rw [List.lookup_cons]
     cases hx:x==n with
     | true =>
      have:k1=NameKind.free:=by
       cases hk1:k1==NameKind.free with
       | true=>simpa using hk1
       | false=>rw [hk1]at hc; simp at hc
      rw [this]
     | false=>rw [hx]at h; exact ih (λy hy=>hn y (UQ _ hy)) h
    ·rw [if_neg hc,List.lookup_cons]at h
     rw [List.lookup_cons]
     cases hx:x==n with
     | true =>
      rw [hx]at h
      have h':k1=k:=U2 h
      rcases hk with hk | hk
      ·exact absurd (h'.trans hk) (hn (n,k1) Va)
      ·show some k1=_
       rw [h',hk]
     | false=>rw [hx]at h; exact ih (λy hy=>hn y (UQ _ hy)) h
  exact gen sc.names S.oA e
 have Mg:∀x,sc.names.lookup x=some .free->(relabel sc X.env).names.lookup x=some .cell\/(relabel sc X.env).names.lookup x=some .free:=λx e=>by
  have gen:∀ns:List (Str×NameKind),ns.lookup x=some .free->(ns.map λ(n,k)=>if(k==NameKind.free&&X.env.scope.kind == .function&&X.env.kindOf n==some .cell)then(n,NameKind.cell)else(n,k)).lookup x=some .cell\/
    (ns.map λ(n,k)=>if(k==NameKind.free&&X.env.scope.kind == .function&&X.env.kindOf n==some .cell)then(n,NameKind.cell)else(n,k)).lookup x=some .free:=by
   intro ns
   induction ns with
   | nil=>intro h; cases h
   | cons y r ih =>
    obtain⟨n,k1⟩:=y
    intro h
    rw [List.map_cons]
    dsimp only
    rw [List.lookup_cons]at h
    by_cases hc:(k1==NameKind.free&&X.env.scope.kind == .function&&X.env.kindOf n==some .cell)=true
    ·rw [if_pos hc,List.lookup_cons]
     cases hx:x==n with
     | true=>exact .inl rfl
     | false=>rw [hx]at h; exact ih h
    ·rw [if_neg hc,List.lookup_cons]
     cases hx:x==n with
     | true =>
      rw [hx]at h
      exact .inr h
     | false=>rw [hx]at h; exact ih h
  exact gen sc.names e
 refine⟨⟨I.mod,?_,I.ok.glob,I.ok.blt,UD _,λx y c h1 h2=>I.ok.inj x y c (clo x c h1).1 (clo y c h2).1,λx hx=>?_,λx c hf h=>?_,I.ok.hd,I.ok.frames,.inl rfl,λb hb=>⟨?_,λx c h=>?_⟩,I.bs,?_,λb o e hb=>?_,λb hb hs=>?_,I.stack,I.m_⟩,
  rfl,I.bare,Un.kept old,⟨_,ns,λi x v h1 h2 h3=>?_⟩,λx c h=>?_,I.hok.fresh (UD _),λx c h=>I.fV x c (clo x c h).1,λp hp=>absurd (show p∈([]:List (Addr×Obj)) from hp) (by simp),I.hok.kept old,?_⟩
 ·show(relabel sc X.env).kind=.function
  exact S.kind
 ·obtain hx | hx:=hx
  ·exact Iq x (kinds x _ hx (.inl rfl))
  ·exact Iq x (kinds x _ hx (.inr rfl))
 ·have e2:=(clo x c h).2
  have hf':(sc.names.lookup x==some NameKind.local)=true:=hf
  rw [e2]at hf'
  cases hf'
 ·exact U0 (o2 b hb)
 ·exact(f2 b hb).2.2.2.2.1 x c (clo x c h).1
 ·exact UE I.ok.A3 I.sz
 ·rcases(f2 b hb).2.2.2.1 with z | z
  ·exact I.ok.um b o e z
  ·exact absurd (UM (UB e) (UE I.ok.A3 z)) (Nat.lt_irrefl _)
 ·rcases UX.mp (I.xK b hs)with z | z
  ·exact(f2 b hb).2.1 z
  ·exact(f2 b hb).2.2.1 z
 ·obtain⟨j,e1,e2⟩:=BR h2
  obtain⟨e3,e4⟩:=S.src i x j h1 e1
  obtain⟨m,hn,hl⟩:=I.loc
  have kx:=S.free _ (mem_of_lookup e4) rfl
  obtain⟨u,ru,l⟩:=hl j x v e3 e2 (.inr kx)
  refine⟨u,ru,.inr ⟨Mg x e4,?_⟩⟩
  obtain⟨c,hc⟩:=Iq x e4
  refine⟨c,hc,?_⟩
  have hc':=(clo x c hc).1
  rcases l with⟨lk,_⟩ | ⟨_,c',lc,z⟩
  ·have Q5:X.env.scope.names.lookup x=some .local:=lk
   rcases kx with q | q
   ·have q':X.env.scope.names.lookup x=some .cell:=q
    rw [Q5]at q'; cases q'
   ·have q':X.env.scope.names.lookup x=some .free:=q
    rw [Q5]at q'; cases q'
  ·rw [hc']at lc
   cases lc
   obtain⟨o,ho,hd⟩:=z
   exact⟨o,old _ _ ho,hd⟩
 ·obtain⟨v,o,ho,hd⟩:=I.cell x c (clo x c h).1
  exact⟨v,o,old _ _ ho,hd⟩
 ·show(jO src σ).length=N'.length
  unfold jO
  rw [UI]
  exact S.len
theorem n9{pins:List (Addr×Obj)}{σ:St}{H2:Hp}{s2:Shared}{it:Addr}{fp:List Addr}{tn:Nat->Heap->Prop}{J:It}{Q:VK}{E:Value->Shared->Prop}{RR:Value->Addr->Result->Shared->Prop}
  (hc:X.calm=true) (S:ba X.env.scope X.N N' src sc)
  (hg:∀cl C s H fp,PG (aK X N' sc cl C s H fp) target g) (ht:∀cl C s H fp,i9 (aK X N' sc cl C s H fp) ifs tc) (he:∀cl C s H fp,PE (aK X N' sc cl C s H fp) elt te)
  (I2:Inv X pins σ H2 s2) (T:Turn X.prog X.w X.K target J fp it tn) (st2:tn 0 s2.heap) (f2:∀b∈fp,dC X pins H2 b)
  (hW:∀D,H2 D=none->∃W:Nat->Nat->St->List V->Hp->Prop,(∃m,W 0 m (jO src σ) [] (upd H2 D (.lst [])))/\pI J g tc te D Q W)
  (hRR:∀D C s5 H' m,Inv X pins σ H' s5->s5.heap.Ns C m->dC X pins H' C->Q (.ref D) H'->RR (.ref D) C (.ok .next) s5) :
  wpAny (model X.prog X.w) X.A (newList []) (λacc s₃=>wpAny (model X.prog X.w) X.A (newFunctionEnv sc X.env.globals (bM X.env.cells sc.names []) [] X.env.qual none .none (some X.env)) (λcenv s₄ =>
   codeAny (model X.prog X.w) X.A (.compStart (.ListComp elt [⟨target,iter,ifs,0⟩] sc pos) 0 (.ref it) acc {cenv with scope:=relabel sc X.env}) (RR acc cenv.locals) s₄) E s₃) E s2:=by
 have o2:∀b∈fp,b<s2.heap.objs.size:=λb hb=>by
  obtain⟨o,e,_⟩:=T.obj 0 _ st2 b hb
  exact UB e
 refine U_ ?_
 have JE:H2 s2.heap.objs.size=none:=I2.hok.fresh (UD _)
 obtain⟨W,⟨m0,w0⟩,turn⟩:=hW s2.heap.objs.size JE
 have I3:Inv X pins σ (upd H2 s2.heap.objs.size (.lst [])) {s2 with heap:=s2.heap.push {cls:=.type "list",dict:=none,data:=.seq ([]:List Value).toArray}} :=
  I2.laid (t':=s2.toks) (λb u e=>UA _ e) (UD _) ⟨U1 _,[],0,.nil,UC _ rfl⟩
 have st3:tn 0 (s2.heap.push {cls:=.type "list",dict:=none,data:=.seq ([]:List Value).toArray}):=T.keep 0 _ _ st2 λb hb o e=>UA _ e
 generalize hs3:({s2 with heap:=s2.heap.push {cls:=.type "list",dict:=none,data:=.seq ([]:List Value).toArray}}:Shared)=s3 at I3
 have hh3:s3.heap=s2.heap.push {cls:=.type "list",dict:=none,data:=.seq ([]:List Value).toArray}:=by rw [←hs3]
 have Er:s2.heap.objs.size<s3.heap.objs.size:=by rw [hh3,Heap.size_push]; exact Nat.lt_succ_self _
 have o3:∀b∈fp,b<s3.heap.objs.size:=λb hb=>Nat.lt_trans (o2 b hb) Er
 have f3:∀b∈fp,dC X pins (upd H2 s2.heap.objs.size (.lst [])) b:=λb hb=>⟨by rw [aI (U0 (o2 b hb))]; exact(f2 b hb).1,(f2 b hb).2⟩
 rw [←hh3]at st3
 refine wpAny_newFunctionEnv S.oA (by intro y hy; simp at hy) (λh1 hns hsb=>?_) S.kind
 have hsb':Heap.SameBut s3.heap.objs.size (s3.heap.push {cls:=.type "dict",data:=.dict #[]}) h1:=hsb
 have I4:Inv (aK X N' sc (bM X.env.cells sc.names []) s3.heap.objs.size s3 (upd H2 s2.heap.objs.size (.lst [])) fp) [] (jO src σ) (upd H2 s2.heap.objs.size (.lst [])) {s3 with heap:=h1,toks:=s3.toks+([]:List (Str×Value)).length} :=
  iR S I3 f3 o3 hns hsb'
 have Bs:tn 0 h1:=T.keep 0 _ _ st3 λb hb o e=>(hsb'.2 b (U0 (o3 b hb))).trans (UA _ e)
 have fC:∀(H':Hp),H' s3.heap.objs.size=none->dC X pins H' s3.heap.objs.size:=λH' hn=>I3.l5 (UD _) hn
 have loop:codeAny (model X.prog X.w) X.A (.compLoop (.ListComp elt [⟨target,iter,ifs,0⟩] sc pos) 0 (.ref it) (.ref s2.heap.objs.size) (compEnvC sc (bM X.env.cells sc.names []) s3.heap.objs.size X.env))
   (RR (.ref s2.heap.objs.size) s3.heap.objs.size) {s3 with heap:=h1,toks:=s3.toks+([]:List (Str×Value)).length}:=by
  have stat:∀{H':Hp},(∀b∈fp,H' b=none)->∀b∈fp,dC (aK X N' sc (bM X.env.cells sc.names []) s3.heap.objs.size s3 (upd H2 s2.heap.objs.size (.lst [])) fp) [] H' b:=λhn b hb =>
   ⟨hn b hb,(I4.ok.zw b hb).1,I4.ok.pH b hb,.inl hb,(I4.ok.zw b hb).2,λp hp=>absurd (show p∈([]:List (Addr×Obj)) from hp) (by simp)⟩
  refine A0 (λn s'=>∃i σ' ys H',Inv (aK X N' sc (bM X.env.cells sc.names []) s3.heap.objs.size s3 (upd H2 s2.heap.objs.size (.lst [])) fp) [] σ' H' s'/\tn i s'.heap/\(∀b∈fp,H' b=none)/\W i n σ' ys H') ?_ m0
   ⟨0,_,[],_,I4,Bs,λb hb=>(f3 b hb).1,w0⟩
  rintro n s5 ⟨i,nj,ys,H5,I5,uj,v8,w5⟩
  obtain⟨hD,alt⟩:=turn i n nj ys H5 w5
  rcases alt with⟨stop,qn⟩ | ⟨go,hsz,N,hN,step⟩
  ·refine b_ (T.done (aK X N' sc (bM X.env.cells sc.names []) s3.heap.objs.size s3 (upd H2 s2.heap.objs.size (.lst [])) fp) rfl rfl rfl hc i [] s5 nj H5 _ I5 (stat v8) uj stop) λr s6 ⟨hr,I6⟩=>?_
   subst hr
   obtain⟨m6,n6,_⟩:=id I6.loc
   refine hRR _ _ s6 H5 m6 (I3.call' I6.os I6.base I6.hok I6.bare λb hb=>⟨(f3 b hb).2.2.2.1,(f3 b hb).2.1,(f3 b hb).2.2.2.2.1,(f3 b hb).2.2.2.2.2⟩) n6 (fC _ I6.free) qn
  ·refine b_ (T.item (aK X N' sc (bM X.env.cells sc.names []) s3.heap.objs.size s3 (upd H2 s2.heap.objs.size (.lst [])) fp) rfl rfl rfl hc i [] s5 nj H5 _ I5 (stat v8) uj go) λr s6 ⟨u,hr,h6⟩=>?_
   subst hr
   refine b_ h6 λ_ s7 ⟨x,H7,I7,r7,y7,sY,ER⟩=>?_
   have GF:=I7.pinned (stat ER) (T.obj _ _ sY)
   refine b_ (hg _ _ _ _ _ _ s7 nj H7 x u _ GF r7 (step x H7 y7)) λ_ s8 ⟨ug,H8,I8,q8⟩=>?_
   refine b_ (ht _ _ _ _ _ _ s8 ug H8 _ I8 q8) λb s9 ⟨H9,I9,q9⟩=>?_
   have again:∀{σ':St} {H':Hp} {s':Shared} {ys':List V} {m':Nat},Inv (aK X N' sc (bM X.env.cells sc.names []) s3.heap.objs.size s3 (upd H2 s2.heap.objs.size (.lst [])) fp) ([]++jn fp s7.heap) σ' H' s'->m'<n->W (i+1) m' σ' ys' H'->
     ∃m,m<n/\∃i σ' ys H',Inv (aK X N' sc (bM X.env.cells sc.names []) s3.heap.objs.size s3 (upd H2 s2.heap.objs.size (.lst [])) fp) [] σ' H' s'/\tn i s'.heap/\(∀b∈fp,H' b=none)/\W i m σ' ys H':=λ{σ' H' s' ys' m'} I' hm w'=>by
    refine⟨m',hm,i+1,σ',ys',H',I'.fU,T.keep _ _ _ sY λb hb o e=>(I'.pin (b,o) (UO _ (UO _ (cK hb e)))).1,λb hb=>?_,w'⟩
    obtain⟨o,e,d⟩:=T.obj _ _ sY b hb
    exact(I'.pin (b,o) (UO _ (UO _ (cK hb e)))).2.1
   cases b with
   | false =>
    rw [if_neg UR]at q9⊢
    obtain⟨m',hm,w'⟩:=hN _ _ _ q9
    exact again I9 hm w'
   | true =>
    rw [if_pos rfl]at q9⊢
    refine b_ (he _ _ _ _ _ _ s9 ug H9 _ I9 q9) λxv Cw ⟨v,AF,K8,r10,BE,w10⟩=>?_
    obtain⟨m',hm,w'⟩:=hN _ _ _ w10
    have LK:m4 (.ref s2.heap.objs.size) [v] AF λ_ H'=>H'=upd AF s2.heap.objs.size (.lst (ys++[v])):=⟨_,ys,v,rfl,rfl,BE,hsz,rfl⟩
    refine b_ (cX _ Cw ug AF _ _ _ _ _ K8 (show RelV (.ref s2.heap.objs.size) (.ref s2.heap.objs.size) from rfl) (.cons r10 .nil) LK) λ_ QL ⟨_,PK,GG,_,L8⟩=>?_
    rw [L8]at GG
    exact again GG hm w'
 exact codeAny_compStart_list loop (T.self _ 0 _ _ _ Bs loop)
theorem bw(hc:X.calm=true)(S:ba X.env.scope X.N N' src sc)(hi:PI X target iter wi)
  (hg:∀cl C s H fp,PG (aK X N' sc cl C s H fp) target g) (ht:∀cl C s H fp,i9 (aK X N' sc cl C s H fp) ifs tc) (he:∀cl C s H fp,PE (aK X N' sc cl C s H fp) elt te)
  (hs:∀x,foldedSetIterable iter X.env x=pure x:=by intro _; rfl) :
  PE X (.ListComp elt [⟨target,iter,ifs,0⟩] sc pos) (C7 src wi g tc te):=by
 intro pins s σ H Q I h
 rw [eval_ListComp]
 refine wpAny_comprehension_free (use:=none) rfl hs (cV λy hy hk=>I.ok.has y.1 (S.free y hy hk)) S.kind (λy hy hl=>by rw [←hl]; exact S.uniq y hy) ?_
 refine b_ (hi pins s σ H _ I h) λv s1 h1=>b_ h1 λitv s2 h2=>?_
 obtain⟨it,fp,tn,J,H2,e,I2,T,st2,f2,hW⟩:=h2
 subst e
 refine n9 (Q:=Q) (RR:=λacc C=>compPost (model X.prog X.w) X.A X.xe none (EP X pins σ Q) acc C) hc S hg ht he I2 T st2 f2 hW ?_
 intro D C s5 H' m I5 n5 fC q
 refine⟨m,n5,λh' sb=>⟨.ref D,H',?_,rfl,q⟩⟩
 exact I5.turned (t':=s5.toks) (λb o hb e=>(sb.2 b hb).trans e) fC.1 fC.2.1 fC.2.2.2.1 fC.2.2.2.2.1 fC.2.2.2.2.2
theorem kl{i:Nat}{x:Str}{pos' spos:Pos}(hN:X.N.Nodup)(hi':X.N[i]? = some x)(hx:Loc X.env.scope x)(hsw:swapsWith (.ListComp elt [⟨target,iter,ifs,0⟩] sc pos) (some (.Name x pos')) spos.line X.env=pure true)
  (hc:X.calm=true) (S:ba X.env.scope X.N N' src sc) (hi:PI X target iter wi)
  (hg:∀cl C s H fp,PG (aK X N' sc cl C s H fp) target g) (ht:∀cl C s H fp,i9 (aK X N' sc cl C s H fp) ifs tc) (he:∀cl C s H fp,PE (aK X N' sc cl C s H fp) elt te)
  (hf:X.fn x=true\/X.env.scope.names.lookup x=some .local:=by first | exact .inl rfl | exact .inr rfl | assumption)
  (hs:∀x,foldedSetIterable iter X.env x=pure x:=by intro _; rfl) :
  PS X (.Assign [.Name x pos'] (.ListComp elt [⟨target,iter,ifs,0⟩] sc pos) spos) (BC (C7 src wi g tc te) (bz i)):=by
 intro pins s σ H D I h
 rw [exec_Assign_Name_used _ _ _ _ hsw]
 refine Uy (wpAny_standAt (Uy ?_))
 show wpAny _ _ (comprehension _ _ _ _ _ _ _ _ >>= _) _ _ s
 refine Uy (wpAny_comprehension_free (use:=some (assign (.Name x pos') X.env)) rfl hs (cV λy hy hk=>I.ok.has y.1 (S.free y hy hk)) S.kind (λy hy hl=>by rw [←hl]; exact S.uniq y hy) ?_)
 refine b_ (hi pins s σ H _ I h) λv s1 h1=>b_ h1 λitv s2 h2=>?_
 obtain⟨it,fp,tn,J,H2,e,I2,T,st2,f2,hW⟩:=h2
 subst e
 refine n9 (Q:=λy H'=>D.nx (σ.set i (some y)) H') (RR:=λacc C=>compPost (model X.prog X.w) X.A X.xe (some (assign (.Name x pos') X.env)) _ acc C) hc S hg ht he I2 T st2 f2 hW ?_
 intro D' C s5 H' m I5 n5 fC q
 refine wpAny_assign_Name (lW I5 hN hi' hx (show RelV (.ref D') (.ref D') from rfl) (λs6 I6 hsb=>?_) hf)
 obtain⟨a,sb,ha⟩:=hsb
 have OH:C≠a:=by
  rcases ha with z | z
  ·rw [z]; exact fC.2.1
  ·exact λe=>fC.2.2.2.2.1 x a z e.symm
 refine⟨m,n5.sameBut sb OH,λh' OA=>?_⟩
 refine Uz (Uz ?_)
 exact⟨_,H',I6.turned (t':=s6.toks) (λb o hb e=>(OA.2 b hb).trans e) fC.1 fC.2.1 fC.2.2.2.1 fC.2.2.2.2.1 fC.2.2.2.2.2,q⟩
end
def yT(yD:Scope)(ON N':List Str)(src:List (Option Nat))(sc:Scope):Bool :=
 sc.kind == .function&&yD.kind == .function&&sc.names.all (λy=>sc.names.lookup y.1==some y.2&&y.2 != .cell&&(y.2 != .free||yD.names.lookup y.1==some .cell||yD.names.lookup y.1==some .free)) &&
 src.length==N'.length&&(N'.zip src).all λy=>match y.2 with | none=>true | some j=>ON[j]? == some y.1&&sc.names.lookup y.1==some .free
theorem ba.jK{yD:Scope}{ON N':List Str}{src:List (Option Nat)}{sc:Scope}(h:yT yD ON N' src sc=true):ba yD ON N' src sc:=by
 unfold yT at h
 simp only [Vc]at h
 obtain⟨⟨⟨⟨h1,h2⟩,h3⟩,h4⟩,h5⟩:=h
 have h3':=List.all_eq_true.mp h3
 have RG:=List.all_eq_true.mp h5
 refine⟨by simpa using h1,by simpa using h2,λy hy=>?_,λy hy=>?_,λy hy hf=>?_,by simpa using h4,λi x j e1 e2=>?_⟩
 ·have:=h3' y hy
  simp only [Vc]at this
  simpa using this.1.1
 ·have:=h3' y hy
  simp only [Vc]at this
  simpa using this.1.2
 ·have:=h3' y hy
  simp only [Vc,Bool.or_eq_true]at this
  rcases this.2 with(z | z) | z
  ·rw [hf]at z; exact absurd z (by decide)
  ·exact .inl (by simpa using z)
  ·exact .inr (by simpa using z)
 ·have m:(x,some j)∈N'.zip src:=by
   refine UP (i:=i) ?_
   rw [List.getElem?_zip_eq_some]
   exact⟨e1,e2⟩
  have:=RG _ m
  simp only [Vc]at this
  exact⟨by simpa using this.1,by simpa using this.2⟩
section
variable{g:TG}{tc:TT}{te:TE}{D:Addr}{Q:VK}{qd:St}{H0:Hp}
theorem iV{lo:Int}{n:Nat}(Pv:Nat->St->List V->Hp->Prop)(h0:Pv 0 qd [] H0)(hD:∀i σ ys H,i<=n->Pv i σ ys H->H D=some (.lst ys)/\ys.length<=i)(hz:n<=sizeLine)
  (hs:∀i σ ys H,i<n->Pv i σ ys H->g (.int (lo+i)) σ H λdf H2=>tc df H2 λb H3=>if b=true then te df H3 λv H4=>H4 D=some (.lst ys)/\Pv (i+1) df (ys++[v]) (upd H4 D (.lst (ys++[v])))else Pv (i+1) df ys H3)
  (hd:∀σ ys H,Pv n σ ys H->Q (.ref D) H):∃W:Nat->Nat->St->List V->Hp->Prop,(∃m,W 0 m qd [] H0)/\pI (Jz lo n) g tc te D Q W:=by
 refine⟨λi m σ ys H=>m=n-i/\i<=n/\Pv i σ ys H,⟨n,by simp,U1 _,h0⟩,?_⟩
 rintro i m σ ys H ⟨rfl,hi,p⟩
 refine⟨(hD i σ ys H hi p).1,?_⟩
 by_cases hlt:i<n
 ·refine .inr ⟨hlt,UL (hD i σ ys H hi p).2 (UM hlt hz),Pv (i+1),λσ' ys' H' p'=>⟨n-(i+1),by omega,rfl,hlt,p'⟩,λx H' y=>?_⟩
  obtain⟨e,y⟩:=y
  subst e y
  exact hs i σ ys _ hlt p
 ·have e:i=n:=by omega
  subst e
  exact .inl ⟨UD _,hd σ ys H p⟩
theorem dJ{K:Ve}{a:Addr}{xs:List V}(Pv:Nat->St->List V->Hp->Prop)(h0:Pv 0 qd [] H0)(hD:∀i σ ys H,i<=xs.length->Pv i σ ys H->H D=some (.lst ys)/\ys.length<=i)(hl:∀i σ ys H,i<=xs.length->Pv i σ ys H->aZ K H a xs)(hz:xs.length<=sizeLine)
  (hs:∀i x σ ys H,xs[i]? = some x->Pv i σ ys H->g x σ H λdf H2=>tc df H2 λb H3=>if b=true then te df H3 λv H4=>H4 D=some (.lst ys)/\Pv (i+1) df (ys++[v]) (upd H4 D (.lst (ys++[v])))else Pv (i+1) df ys H3)
  (hd:∀σ ys H,Pv xs.length σ ys H->Q (.ref D) H):∃W:Nat->Nat->St->List V->Hp->Prop,(∃m,W 0 m qd [] H0)/\pI (NB K a) g tc te D Q W:=by
 refine⟨λi m σ ys H=>m=xs.length-i/\i<=xs.length/\Pv i σ ys H,⟨xs.length,by simp,U1 _,h0⟩,?_⟩
 rintro i m σ ys H ⟨rfl,hi,p⟩
 have q:=hl i σ ys H hi p
 refine⟨(hD i σ ys H hi p).1,?_⟩
 by_cases hlt:i<xs.length
 ·refine .inr ⟨⟨xs,xs[i],q,by simp [hlt]⟩,UL (hD i σ ys H hi p).2 (UM hlt hz),Pv (i+1),λσ' ys' H' p'=>⟨xs.length-(i+1),by omega,rfl,hlt,p'⟩,λx H' y=>?_⟩
  obtain⟨e,y⟩:=y
  subst e
  exact hs i x σ ys _ (y xs q) p
 ·have e:i=xs.length:=by omega
  subst e
  exact .inl ⟨⟨xs,q,UD _⟩,hd σ ys H p⟩
theorem cF{K:Ve}{a:Addr}{xs:List V}(Pv:Nat->St->List V->Hp->Prop)(h0:Pv 0 qd [] H0)(hD:∀i σ ys H,i<=xs.length->Pv i σ ys H->H D=some (.lst ys)/\ys.length<=i)(hl:∀i σ ys H,i<=xs.length->Pv i σ ys H->aH K H a xs)(hz:xs.length<=sizeLine)
  (hs:∀i x σ ys H,xs[i]? = some x->Pv i σ ys H->g x σ H λdf H2=>tc df H2 λb H3=>if b=true then te df H3 λv H4=>H4 D=some (.lst ys)/\Pv (i+1) df (ys++[v]) (upd H4 D (.lst (ys++[v])))else Pv (i+1) df ys H3)
  (hd:∀σ ys H,Pv xs.length σ ys H->Q (.ref D) H):∃W:Nat->Nat->St->List V->Hp->Prop,(∃m,W 0 m qd [] H0)/\pI (Fw K a) g tc te D Q W:=by
 refine⟨λi m σ ys H=>m=xs.length-i/\i<=xs.length/\Pv i σ ys H,⟨xs.length,by simp,U1 _,h0⟩,?_⟩
 rintro i m σ ys H ⟨rfl,hi,p⟩
 have q:=hl i σ ys H hi p
 refine⟨(hD i σ ys H hi p).1,?_⟩
 by_cases hlt:i<xs.length
 ·refine .inr ⟨⟨xs,xs[i],q,by simp [hlt]⟩,UL (hD i σ ys H hi p).2 (UM hlt hz),Pv (i+1),λσ' ys' H' p'=>⟨xs.length-(i+1),by omega,rfl,hlt,p'⟩,λx H' y=>?_⟩
  obtain⟨e,y⟩:=y
  subst e
  exact hs i x σ ys _ (y xs q) p
 ·have e:i=xs.length:=by omega
  subst e
  exact .inl ⟨⟨xs,q,UD _⟩,hd σ ys H p⟩
end
section
variable{X:Cx}{N':List Str}{sc:Scope}{cl:List (Str×Addr)}{C:Addr}{s:Shared}{H:Hp}{fp:List Addr}
theorem se{env:Env}{x:Str}(e:sc.names.lookup x=some .free):(relabel sc env).names.lookup x=some .cell\/(relabel sc env).names.lookup x=some .free:=by
 have gen:∀ns:List (Str×NameKind),ns.lookup x=some .free->(ns.map λ(n,k)=>if(k==NameKind.free&&env.scope.kind == .function&&env.kindOf n==some .cell)then(n,NameKind.cell)else(n,k)).lookup x=some .cell\/
   (ns.map λ(n,k)=>if(k==NameKind.free&&env.scope.kind == .function&&env.kindOf n==some .cell)then(n,NameKind.cell)else(n,k)).lookup x=some .free:=by
  intro ns
  induction ns with
  | nil=>intro h; cases h
  | cons y r ih =>
   obtain⟨n,k1⟩:=y
   intro h
   rw [List.map_cons]
   dsimp only
   rw [List.lookup_cons]at h
   by_cases hc:(k1==NameKind.free&&env.scope.kind == .function&&env.kindOf n==some .cell)=true
   ·rw [if_pos hc,List.lookup_cons]
    cases hx:x==n with
    | true=>exact .inl rfl
    | false=>rw [hx]at h; exact ih h
   ·rw [if_neg hc,List.lookup_cons]
    cases hx:x==n with
    | true =>
     rw [hx]at h
     exact .inr h
    | false=>rw [hx]at h; exact ih h
 exact gen sc.names e
theorem fm{env:Env}{x:Str}{k:NameKind}(hk:(k==NameKind.free)=false)(e:sc.names.lookup x=some k):(relabel sc env).names.lookup x=some k:=by
 have gen:∀ns:List (Str×NameKind),ns.lookup x=some k->(ns.map λ(n,k)=>if(k==NameKind.free&&env.scope.kind == .function&&env.kindOf n==some .cell)then(n,NameKind.cell)else(n,k)).lookup x=some k:=by
  intro ns
  induction ns with
  | nil=>intro h; cases h
  | cons y r ih =>
   obtain⟨n,k1⟩:=y
   intro h
   rw [List.map_cons]
   dsimp only
   rw [List.lookup_cons]at h
   cases hx:x==n with
   | true =>
    rw [hx]at h
    have h':k1=k:=U2 h
    subst h'
    rw [if_neg (by rw [hk]; simp),List.lookup_cons,hx]
   | false =>
    rw [hx]at h
    split
    ·rw [List.lookup_cons,hx]; exact ih h
    ·rw [List.lookup_cons,hx]; exact ih h
 exact gen sc.names e
theorem yV(i:Nat){x:Str}{pos:Pos}(hN:N'[i]? = some x:=by rfl)(hv:sc.names.lookup x=some .free:=by rfl)(hd:(x==("__debug__" : Str))=false:=by decide)(hcd:(x==("__classdict__" : Str))=false:=by decide) :
  PE (aK X N' sc cl C s H fp) (.Name x pos) (bx i):=yb (X:=aK X N' sc cl C s H fp) hN (.inr (se hv)) hd hcd
theorem i3(i:Nat){x:Str}{pos:Pos}(hN:N'[i]? = some x:=by rfl)(hv:sc.names.lookup x=some .local:=by rfl)(hd:(x==("__debug__" : Str))=false:=by decide)(hcd:(x==("__classdict__" : Str))=false:=by decide) :
  PE (aK X N' sc cl C s H fp) (.Name x pos) (bx i):=yb (X:=aK X N' sc cl C s H fp) hN (.inl (fm rfl hv)) hd hcd
theorem eA{i:Nat}{x:Str}{pos:Pos}(hn:N'.Nodup:=by decide +kernel)(hN:N'[i]? = some x:=by rfl)(hv:sc.names.lookup x=some .local:=by rfl) :
  PG (aK X N' sc cl C s H fp) (.Name x pos) (bz i):=bT (X:=aK X N' sc cl C s H fp) hn hN (.inl (fm rfl hv)) (.inr (fm rfl hv))
theorem xA{x:Str}(hv:sc.names.lookup x=some .globalImplicit:=by rfl):Gl (aK X N' sc cl C s H fp) x:=fm (env:=X.env) rfl hv
end
section
variable{X:Cx}
theorem rW:fq X (.builtin "divmod") (λxs H Q=>∃i j,xs=[.int i,.int j]/\(0<j/\j.natAbs.log2<9000)/\∀p,H p=none->Q (.ref p) (upd H p (.tup [.int (i / j),.int (i % j)]))):=by
 intro pins s σ H xs us Q I r h
 obtain⟨i,j,rfl,⟨h1,h2⟩,q⟩:=h
 obtain⟨u,w',rfl,⟨t,rfl⟩,⟨t',rfl⟩⟩:=vals2 r
 refine divmod_int (by omega) ?_ (.inl (PyProof.noPylong_of_log2 h2))
 rw [Int.fdiv_eq_ediv_of_nonneg i (by omega),Int.fmod_eq_emod_of_nonneg i (by omega)]
 have hn:H s.heap.objs.size=none:=I.hok.fresh (UD _)
 refine⟨.ref s.heap.objs.size,_,?_,rfl,q _ hn⟩
 refine I.laid (λb o e=>UA _ e) (UD _) ⟨by simp only [Vb,List.length_nil]; rw [sizeLine_eq]; decide,[.int (i / j) s.toks,.int (i % j) (s.toks+1)],.cons ⟨_,rfl⟩ (.cons ⟨_,rfl⟩ .nil),?_⟩
 exact⟨_,UC s.heap rfl,rfl,⟨0,rfl⟩,rfl⟩
theorem xH{ys:List Str}:∀{us:List Value},Vals (ys.map V.str) us->StrsAre us ys:=by
 induction ys with
 | nil=>intro us r; cases r; exact .nil
 | cons y ys ih =>
  intro us r
  cases r with
  | cons h t =>
   obtain⟨tk,rfl⟩:=h
   exact .cons _ _ (ih t)
def rJoin(K:Ve):V->List V->Hp->VK->Prop:=λx vs H Q=>∃sep p ys,x=.str sep/\vs=[.ref p]/\aZ K H p (ys.map V.str)/\(ys.map (·.length)).sum+ys.length*sep.length<=16777216/\Q (.str (Txt.join sep ys)) H
theorem Gn:QP X "str.join" (rJoin X.K):=by
 intro pins s σ H x vs v us Q I rx rv h
 obtain⟨sep,p,ys,rfl,rfl,hS,hz,q⟩:=h
 obtain⟨tk,rfl⟩:=rx
 obtain⟨u,rfl,ru⟩:=vals1 rv
 cases ru
 obtain⟨its,r,pl,_⟩:=I.list hS
 exact join_list pl.isList (xH (by simpa using r)) hz λt' k=>⟨.str (Txt.join sep ys),H,I.tok _,⟨_,rfl⟩,q⟩
end
def dj(H:Hp)(p:Addr):Prop:=∃a b:Int,H p=some (.lst [.int a,.int b])/\0<=a/\0<=b/\b<=2147483647
structure bo(p:Addr)(H H':Hp):Prop where
 keep:∀b o,b≠p->H b=some o->H' b=some o
 cf:dj H' p
theorem bo.refl{p:Addr}{H:Hp}(h:dj H p):bo p H H:=⟨λ_ _ _ e=>e,h⟩
theorem bo.trans{p:Addr}{H H1 H2:Hp}(a:bo p H H1)(b:bo p H1 H2):bo p H H2:=⟨λc o n e=>b.keep c o n (a.keep c o n e),b.cf⟩
theorem bo.same{p:Addr}{H H1:Hp}(h:dj H p)(s:aM H H1):bo p H H1:=⟨λc o _ e=>s c o e,let ⟨a,b,e,r⟩:=h; ⟨a,b,s _ _ e,r⟩⟩
theorem aj{H:Hp}{p:Addr}(h:H p=none)(o:HO):aM H (upd H p o):=λb u q=>by rw [aI (aU q h)]; exact q
theorem bo.new{p q:Addr}{H H1:Hp}{o:HO}(a:bo p H H1)(h:H1 q=none):bo p H (upd H1 q o):=a.trans (.same a.cf (aj h o))
def Eb(K:Ve):Sp:=λvs H Q _=>∃(a:Addr) (ns:List Int) (k:Int),vs=[.ref a,.int k]/\aZ K H a (ns.map V.int)/\0<=k/\∀n,Q (.int n) H
def Hv(K:Ve):Sp:=λvs H Q _=>∃(a:Addr) (ns:List Int) (k:Int),vs=[.ref a,.int k]/\aZ K H a (ns.map V.int)/\0<=k/\k<=1000/\∀p H',H p=none->aM H H'->dj H' p->Q (.ref p) H'
def dv:Sp:=λvs H Q _=>∃(p:Addr) (m:Int),vs=[.ref p,.int m]/\dj H p/\0<m/\m.natAbs.log2<9000/\∀d H',bo p H H'->0<=d->d<m->Q (.int d) H'
def oN:Sp:=λvs H Q _=>∃(p:Addr),vs=[.ref p]/\dj H p/\∀n H',bo p H H'->-(10 ^ 60)<n->n<10 ^ 60->Q (.int n) H'
def isW(x:Str):Prop:=1<=x.length/\x.length<=8/\∀c∈x.cps.toList,97<=c/\c<=122
def sh:Sp:=λvs H Q _=>∃(p:Addr),vs=[.ref p]/\dj H p/\∀x H',bo p H H'->isW x->Q (.str x) H'
theorem BD{n:Nat}{i:Int}(h0:0<=i)(h1:i<n):v7 n i=some i.toNat:=by
 unfold v7; rw [if_pos h0,if_pos h1]
theorem D0{xs:List V}{i:Int}(h0:0<=i)(h1:i<xs.length):∃v,i_ xs i=some v/\xs[i.toNat]? = some v:=by
 have e:=BD h0 h1
 have hj:i.toNat<xs.length:=by omega
 refine⟨xs[i.toNat],?_,by simp [hj]⟩
 unfold i_; rw [e]
 show xs[i.toNat]? = _
 simp [hj]
theorem yZ{xs:List V}{i:Int}(h0:0<=i)(h1:i<xs.length):∃v,i_ xs i=some v/\v∈xs:=by
 obtain⟨v,h,g⟩:=D0 h0 h1
 exact⟨v,h,UP g⟩
theorem EL{z:Str}{i:Int}(h0:0<=i)(h1:i<(z.cps.toList.length:Nat)):∃c,i_ z.cps.toList i=some c/\c∈z.cps.toList:=by
 have e:=BD (n:=z.cps.toList.length) h0 h1
 have hj:i.toNat<z.cps.toList.length:=by omega
 refine⟨z.cps.toList[i.toNat],?_,List.getElem_mem hj⟩
 unfold i_; rw [e]
 show z.cps.toList[i.toNat]? = _
 simp only [hj,UN]
theorem qX(g:Str):∀(ps:List Str) (acc:Array Nat),(ps.foldl (λacc p=>acc++g.cps++p.cps) acc).toList=acc.toList++(ps.map λp=>g.cps.toList++p.cps.toList).flatten
 | [],acc=>by simp
 | p::r,acc=>by
  rw [List.foldl_cons,qX g r]
  simp [List.append_assoc]
theorem xJ(g:Str)(ps:List Str):(Txt.join g ps).cps.toList=(ps.headD Str.empty).cps.toList++((ps.drop 1).map λp=>g.cps.toList++p.cps.toList).flatten:=by
 unfold Txt.join Builtin.Str.glued
 exact qX g (ps.drop 1) _
def sgn(c:Nat):Str:=⟨#[c]⟩
theorem La:(("" : Str).cps).toList=[]:=by decide +kernel
theorem noStr:(Str.empty.cps).toList=[]:=by decide +kernel
theorem wZ(zs:List Nat):(Txt.join "" (zs.map sgn)).cps.toList=zs:=by
 rw [xJ,La]
 cases zs with
 | nil=>exact noStr
 | cons z r =>
  show [z]++((r.map sgn).map λp=>[]++p.cps.toList).flatten=z::r
  have e:((r.map sgn).map λp=>[]++p.cps.toList).flatten=r:=by
   induction r with
   | nil=>rfl
   | cons y r ih =>
    rw [List.map_cons,List.map_cons,List.flatten_cons,ih]
    rfl
  rw [e]
  rfl
theorem EU(zs:List Nat):((zs.map sgn).map (·.length)).sum=zs.length:=by
 induction zs with
 | nil=>rfl
 | cons z r ih=>rw [List.map_cons,List.map_cons,List.sum_cons,ih,Vb]; show 1+_=_; omega
theorem H_{x:Str}{zs:List Nat}(e:x.cps.toList=zs)(h1:1<=zs.length)(h2:zs.length<=8)(h3:∀c∈zs,97<=c/\c<=122):isW x:=by
 have l:x.length=zs.length:=by show x.cps.size=_; rw [←e]; simp
 exact⟨by omega,by omega,by rw [e]; exact h3⟩
theorem bo.put{p D:Addr}{H H3 H4:Hp}{o:HO}(g3:bo p H H3)(hD:H3 D=none)(n:D≠p)(g4:bo p H H4):bo p H (upd H4 D o):=by
 refine⟨λb u nb e=>?_,?_⟩
 ·by_cases hb:b=D
  ·subst hb
   exact absurd (g3.keep b u n e) (by rw [hD]; simp)
  ·rw [aI hb]
   exact g4.keep b u nb e
 ·obtain⟨x,y,e,r⟩:=g4.cf
  exact⟨x,y,by rw [aI (Ne.symm n)]; exact e,r⟩
theorem bo.ne{p D:Addr}{H H3:Hp}(g3:bo p H H3)(hD:H3 D=none):D≠p:=λe=>by subst e; obtain⟨_,_,z,_⟩:=g3.cf; rw [z]at hD; cases hD
section
variable{X:Cx}{x:Str}{pos:Pos}{c:Addr}{n:String}{a b:Expr}{ta tb:TE}
theorem Ib(hg:Gl X x)(hm:X.mg x=some (.ref c))(hd:(x==("__debug__" : Str))=false:=by decide):PE X (.Name x pos) (tC (.ref c)):=cS hg hm (show RelV (.ref c) (.ref c) from rfl) hd
theorem xr(hg:Gl X x)(hm:X.mg x=none)(hv:bootBuiltins x=some (.type n))(hn:x≠"__name__":=by decide)(hd:(x==("__debug__" : Str))=false:=by decide):PE X (.Name x pos) (tC (.ty n)):=F8 hg hm hv (show RelV (.ty n) (.type n) from rfl) hn hd
theorem IY(ha:PE X a ta)(hb:PE X b tb)(hs:m9 b):PE X (.Subscript a b pos) (gE (sy X.K) ta tb):=fX Br ha hb hs
end
end L2
namespace PySem
open Sem (wp)
section
variable{prog:Program}{w:World}{A:Around}{E:Value->Shared->Prop}{h:Heap}{g:Array GenState}{d:Drawn}{t:Nat}{os:OsState}
variable{nm q:Str}{C N:Addr}{bs bm bmB:List Value}{hdct:Bool}{sn:List Str}{sub:List Value}{ab:Bool}{col:Option Bool}{dd:Option Addr}{k0 k1 k2 k3 k5:Option Value}{B newId initId:String}
theorem jT(F:ExcBaseFacts B newId initId bmB)(T:OwnTail h bmB bm){mN:Str->Option Value}{rest:List Value}{fI:Addr}{oI:Obj}{Q:Fin->Shared->Prop}
  (hC:h.get? C=some (excClassObj nm q C N bs bm hdct sn sub ab col dd k0 k1 k2 k3 k5 newId)) (hn:h.Ns N mN) (hi:mN "__init__"=some (.ref fI))
  (hfI:h.get? fI=some oI) (hfc:oI.cls=.type "function")
  (hq:∀h' e,Heap.MadeExcOf h h' e (.ref C) rest->
   wpAny (model prog w) A (call (.ref fI) (.ref e::rest)) (λr s'=>r=.none/\Q (.done (.ret (.ref e))) s') E ⟨h',g,d,t,os⟩) (hrest:rest.length<=sizeLine:=by size_fits) :
  wpAny (model prog w) A (Builtin.«type.__call__» ⟨.ref C::rest,[]⟩) Q E ⟨h,g,d,t,os⟩:=by
 repeat (first | with_reducible refine wpAny_loadPart_at hC ?_ | with_reducible refine wpAny_madeBy_exc hC ?_ | wp_step)
 refine codeAny_call_builtin_code (Code.quiet_builtin _ F.quiet) (wpAny_check_new_subT F T hC ?_)
 refine codeAny_exc_new_subT F T hC ?_ hrest
 show wpAny _ _ _ _ _ _
 have hC₁:=UA {cls:=.ref C,data:=.fields #[.ref h.objs.size,.none,.none,.none,.bool false,.none]}
  (UA {cls:=.type "tuple",data:=.seq rest.toArray} hC)
 have hfI₁:=UA {cls:=.ref C,data:=.fields #[.ref h.objs.size,.none,.none,.none,.bool false,.none]}
  (UA {cls:=.type "tuple",data:=.seq rest.toArray} hfI)
 have hn₁:((h.push {cls:=.type "tuple",data:=.seq rest.toArray}).push {cls:=.ref C,data:=.fields #[.ref h.objs.size,.none,.none,.none,.bool false,.none]}).Ns N mN :=
  let ⟨o,es,ep,e,r⟩:=hn; ⟨o,es,ep,UA _ (UA _ e),r⟩
 have hget:((h.push {cls:=.type "tuple",data:=.seq rest.toArray}).push
   {cls:=.ref C,data:=.fields #[.ref h.objs.size,.none,.none,.none,.bool false,.none]}).get? (h.objs.size+1)=some
   {cls:=.ref C,data:=.fields #[.ref h.objs.size,.none,.none,.none,.bool false,.none]}:=by heap_get
 have hcC:(Value.ref C::bm).contains (.ref C)=true:=by simp
 have T₁:=T.keeps (h':=(h.push {cls:=.type "tuple",data:=.seq rest.toArray}).push {cls:=.ref C,data:=.fields #[.ref h.objs.size,.none,.none,.none,.bool false,.none]})
  λb o e=>UA _ (UA _ e)
 unfold isInstance
 repeat (first | with_reducible refine wpAny_loadPart_at hget ?_ | (with_reducible refine wpAny_isSubtype_exc hC₁ ?_; rw [hcC]) | wp_step)
 show wpAny _ _ (typeLookup (.ref C) _) _ _ _
 refine wpAny_typeLookup_tail hC₁ hn₁ T₁ F.mroIs F.init.lookup ?_
 rw [hi]
 refine U9 (Uy ?_)
 unfold bindSpecial
 refine Uy (wpAny_typeOf (T:="function") ⟨_,hfI₁,hfc⟩ ?_)
 rw [if_pos (by decide)]
 refine Uz (Uy (U8 (hq _ (h.objs.size+1) ⟨λb o hb=>UA _ (UA _ hb),Heap.get?_none_of_le (Nat.le_succ _),h.objs.size,hget,Heap.get?_none_of_le (UD _),?_⟩) (λr s' hr=>?_) λ_ _ x=>x))
 ·exact UA _ (Heap.get?_push_at rfl rfl)
 ·obtain⟨rfl,hQ⟩:=hr
  wp_walk
  exact hQ
theorem pV(F:ExcBaseFacts B newId initId bmB)(T:OwnTail h bmB bm){mN:Str->Option Value}{rest:List Value}{fI:Addr}{oI:Obj}{Q:Value->Shared->Prop}
  (hC:h.get? C=some (excClassObj nm q C N bs bm hdct sn sub ab col dd k0 k1 k2 k3 k5 newId)) (hn:h.Ns N mN) (hi:mN "__init__"=some (.ref fI))
  (hfI:h.get? fI=some oI) (hfc:oI.cls=.type "function")
  (hq:∀h' e,Heap.MadeExcOf h h' e (.ref C) rest->
   wpAny (model prog w) (A.under (.builtin "type.__call__" ⟨.ref C::rest,[]⟩)) (call (.ref fI) (.ref e::rest)) (λr s'=>r=.none/\Q (.ref e) s') E ⟨h',g,d,t,os⟩) (hrest:rest.length<=sizeLine:=by size_fits) :
  wpAny (model prog w) A (call (.ref C) rest) Q E ⟨h,g,d,t,os⟩:=by
 have f1:=tc_lookup
 have f2:=tc_bind (.ref C)
 have hT:(⟨h,g,d,t,os⟩ : Shared).TypeIs (.ref C) "type":=⟨_,hC,rfl⟩
 refine wpAny_call (codeAny_of_tree ?_)
 show wpAny _ _ (callAny (.ref C) _) _ _ _
 repeat (any_goals (first | assumption | with_reducible refine wpAny_loadPart_at hC ?_ | wp_step))
 refine⟨rfl,?_⟩
 refine codeAny_call_builtin_at (Code.quiet_builtin _ (by decide +kernel)) entry_typeCall (wpAny_check_type_call_sub hC (jT (hrest:=hrest) F T hC hn hi hfI hfc λh' e hm=>?_))
 exact hq h' e hm
end
end PySem
namespace L2
open PySem PySem.Spec PyProof.Rows
abbrev z_:List Value:=[.type "ValueError",.type "Exception",.type "BaseException",.type "object"]
abbrev xO(a C:Addr)(od:Option Addr):HO:=.ext λh=>∃fl sl,h.get? a=some {cls:=.ref C,dict:=od,data:=.fields fl,slots:=sl}
abbrev xD(d:Addr)(fs:List (Str×V)):HO:=.ext λh=>∃mA,h.Ns1 d mA/\∀f,jq (fs.lookup f) (mA f)
section
variable{P:Program}{w:World}{H:Hp}{h h':Heap}{a C d:Addr}{od:Option Addr}{fs:List (Str×V)}{o:HO}
theorem GN{fl:Array Value}{sl:Array (Option Value)}(e:h.get? a=some {cls:=.ref C,dict:=od,data:=.fields fl,slots:=sl}):cz P w H h a (xO a C od) :=
 ⟨⟨fl,sl,e⟩,⟨_,e⟩,λ_ _ ⟨fl,sl,e⟩ k=>⟨fl,sl,k _ e⟩⟩
theorem DZ{mA:Str->Option Value}(n:h.Ns1 d mA)(r:∀f,jq (fs.lookup f) (mA f)):cz P w H h d (xD d fs) :=
 ⟨⟨mA,n,r⟩,(let ⟨o,_,_,e,_⟩:=n; ⟨o,e⟩),λ_ _ ⟨mA,⟨o,es,ep,e,rest⟩,r⟩ k=>⟨mA,⟨o,es,ep,k _ e,rest⟩,r⟩⟩
theorem cz.there(x:cz P w H h a o):∃u,h.get? a=some u:=by
 cases o with
 | lst xs=>obtain⟨_,_,_,_,e⟩:=x; exact⟨_,e⟩
 | tup xs=>obtain⟨_,_,_,p⟩:=x; obtain⟨o,e,_⟩:=p; exact⟨_,e⟩
 | dK kvs=>obtain⟨_,_,_,_,o,_,_,e,_⟩:=x; exact⟨_,e⟩
 | dT kvs=>obtain⟨_,_,_,_,o,_,_,e,_⟩:=x; exact⟨_,e⟩
 | set S n=>obtain⟨o,_,_,_,e,_⟩:=x; exact⟨_,e⟩
 | ins C dx fs=>obtain⟨_,_,_,e,_⟩:=x; exact⟨_,e⟩
 | own y=>obtain⟨_,e⟩:=x; exact⟨_,e⟩
 | xd fs=>obtain⟨_,⟨_,_,_,e,_⟩,_⟩:=x; exact⟨_,e⟩
 | Nv lo hi=>obtain⟨_,_,_,e⟩:=x; exact⟨_,e⟩
 | yg ob u=>obtain⟨e,_⟩:=x; exact⟨_,e⟩
 | HI ps=>exact⟨_,(show h.get? a=some _ from x)⟩
 | met f y=>exact⟨_,(show h.get? a=some _ from x)⟩
 | ext φ=>obtain⟨_,⟨_,e⟩,_⟩:=x; exact⟨_,e⟩
theorem ja.none_of(x:ja P w H h)(e:h.get? a=none):H a=none:=by
 cases q:H a with
 | none=>rfl
 | some u =>
  obtain⟨v,z⟩:=(x a u q).there
  rw [e]at z; cases z
theorem ja.laidN(x:ja P w H h)(k:∀b u,h.get? b=some u->h'.get? b=some u)(hp:h.get? a=none)(new:cz P w (upd H a o) h' a o):ja P w (upd H a o) h':=λb u e=>by
 have hn:=x.none_of hp
 by_cases hb:b=a
 ·subst hb; rw [ag]at e; cases e; exact new
 ·rw [aI hb]at e
  exact(x b u e).stay (λc v _ q=>k c v q) (λc q=>by rw [aI (aU q hn)]; exact q) λc xs q=>by rw [aI (aU q hn)]; exact q
theorem Un.laidN{fs ex:List Addr}(k:∀b u,h.get? b=some u->h'.get? b=some u)(hp:h.get? a=none)(hn:H a=none):Un fs ex H (upd H a o) h h' where
 keep:=λb u q _ _ _=>k b u q
 slot:=λb u q _ _ _=>⟨u.slots,k b u q⟩
 free:=λb u q n _=>by rw [aI (λe=>by rw [e,hp]at q; cases q)]; exact n
 there:=λb u q _=>⟨u,k b u q⟩
 tups:=λb xs q=>by rw [aI (aU q hn)]; exact q
 oZ:=λb u xs q=>by rw [aI (aU q hn)]; exact q
 qD:=λb ps q=>⟨#[],by rw [aI (aU q hn),q]; simp⟩
end
structure jE(K:Ve)(C:Addr):Prop where
 cls:∃cd PE,PySem.W.clsIn K C=some cd/\cd.mro=.ref C :: .ref PE::z_/\cd.hasDict=true
 mo:PySem.W.mroIn K C (.type "object")=some true
 sa:PySem.W.findIn K (.ref C) "__setattr__"=some (some (.builtin "object.__setattr__"))
 ga:PySem.W.findIn K (.ref C) "__getattribute__"=some (some (.builtin "BaseException.__getattribute__"))
 gh:PySem.W.findIn K (.ref C) "__getattr__"=some none
 mb:PySem.W.mroIn K C (.type "BaseException")=some true
 ca:PySem.W.findIn K (.ref C) "__class__"=some (some (.builtin "object.__class__"))
 cg:PySem.W.specialIn K (.builtin "object.__class__") "__get__"=some (some (.builtin "getset_descriptor.__get__"))
 ct:PySem.W.takesIn K (.builtin "object.__class__")=some true
theorem jE.hd{K:Ve}{C:Addr}(c:jE K C):PySem.W.hasDictIn K C=true:=by
 obtain⟨cd,PE,e,_,h⟩:=c.cls
 unfold PySem.W.hasDictIn
 rw [e]
 exact h
section
variable{prog:Program}{w:World}{A:Around}{E:Value->Shared->Prop}{R:Result->Shared->Prop}{s:Shared}{K:Ve}{x C:Addr}{ox:Obj}{od:Option Obj}{name:Str}{tk:Tok}{v:Value}
theorem rD(c:jE K C)(X:K.In s.heap)(I:PySem.W.InstAt s.heap x ox C od)(ht:PySem.W.findIn K (.ref C) name=some none)
  (h:∀b,wpAny (model prog w) A.in1 (Builtin.ObjectAttr.storeInOwnDict (.ref x) (.ref C) (.str name tk) name v b)
   (λfin s'=>match fin with | .done f=>R (.ok f) s' | .again c'=>c'.quiet=true/\codeAny (model prog w) A c' R s') (λe s'=>R (.error e) s') s) :
  codeAny (model prog w) A (.call (.builtin "object.__setattr__") ⟨[.ref x,.str name tk,v],[]⟩) R s:=by
 have SF:=PySem.F.store_object
 obtain⟨cd,PE,hc,hmro,_⟩:=c.cls
 have sub:PySem.W.Looks (model prog w) s.heap (isInstance (.ref x) (.type "object")) true:=I.type.andThen (PySem.W.looks_mroIn X c.mo)
 refine codeAny_call_builtin SF.slot.plain SF.entry (@PySem.W.check_slot (model prog w) _ _ s "object.__setattr__" "object" "__setattr__" (.ref x) [.str name tk,v] [] _ SF.kind SF.split sub (SF.args (.ref x) (.str name tk) v) ?_)
 have hm:PySem.W.Looks (model prog w) s.heap (mroOf (.ref C)) cd.mro:=(PySem.W.looks_clsIn X hc).andThen .now
 have L3:PySem.W.Looks (model prog w) s.heap (Builtin.ObjectAttr.storeTaker? none) none:=.now
 rw [PySem.W.osa_eq,refuse_eq]
 refine Uy (Uy (I.type.here (Uy (hm.here ?_))))
 rw [hmro,refuseLoop_ref,refuseLoop_ref,PySem.F.store_ValueError.passes]
 refine Uz (Uy (I.type.here (Uy ((PySem.W.looks_findIn X ht).here (Uy (L3.here ?_))))))
 exact h _
theorem zU{Q:Fin->Shared->Prop}{r:Builtin.ObjectAttr.Found}(X:K.In s.heap)(I:PySem.W.InstAt s.heap x ox C od)(hf:PySem.W.findObj K C od name=some r)
  (h:wpAny (model prog w) A (match r with | .value v=>ret v | .bind g a=>Builtin.ObjectAttr.bindTo g a (.ref x) (.ref C) | .missing=>Builtin.ObjectAttr.noSuchAttribute (.ref x) name) Q E s) :
  wpAny (model prog w) A (Builtin.«object.__getattribute__» ⟨[.ref x,.str name tk],[]⟩) Q E s:=by
 obtain⟨hh',g,d,t,os⟩:=s
 have L0:=I.type (M:=model prog w)
 have L1:=PySem.W.looks_find (M:=model prog w) X I hf
 unfold Builtin.«object.__getattribute__»
 refine Uy (Uz ?_)
 refine Uy (Uz (Uy (L0.at (Uy (L1.at ?_)))))
 cases r with
 | value v=>exact h
 | bind g a=>exact h
 | missing=>exact h
theorem Ci{fill expr:Bool}{Q:Value->Shared->Prop}{r:Builtin.ObjectAttr.Found}(c:jE K C)(X:K.In s.heap)(I:PySem.W.InstAt s.heap x ox C od)(hf:PySem.W.findObj K C od name=some r)
  (h:codeAny (model prog w) A (.call (.builtin "BaseException.__getattribute__") ⟨[.ref x,.str name tk],[]⟩) (λr s'=>match r with | .ok (.ret v)=>wpAny (model prog w) A (handedOut v) Q E s' | _=>False) s) :
  wpAny (model prog w) A (getAttrBy (.ref x) (.str name tk) fill expr) Q E s:=by
 obtain⟨hh',g,d,t,os⟩:=s
 have L0:=I.type (M:=model prog w)
 have L1:=PySem.W.looks_findIn (M:=model prog w) X c.ga
 have LH:=PySem.W.looks_hook (M:=model prog w) (mc:=.ref C) (r:=none) X (by show PySem.W.findIn K (.ref C) "__getattr__"=_; exact c.gh)
 have hx2:(Value.builtin "BaseException.__getattribute__"==Value.builtin "object.__getattribute__")=false:=by decide +kernel
 have hx1:(onTheHeap (Value.ref C)&&Value.builtin "BaseException.__getattribute__"==Value.builtin "object.__getattribute__")=false:=by rw [hx2]; rfl
 have hx0:(expr&&onTheHeap (Value.builtin "BaseException.__getattribute__"))=false:=by cases expr <;> rfl
 unfold getAttrBy
 refine U9 (Uy (L0.at (Uy (L1.at ?_))))
 show wpAny _ _ (if(onTheHeap (Value.ref C)&&Value.builtin "BaseException.__getattribute__"==Value.builtin "object.__getattribute__")=true then _ else _) _ _ _
 rw [if_neg (by rw [hx1]; exact UR)]
 unfold getAttrByItsOwn
 refine Uy (LH.at (Uy (wpAny_attempt (U9 ?_))))
 unfold callGetattribute
 rw [if_neg (by rw [hx0]; exact UR)]
 unfold boundAndCalled
 rw [PySem.F.excAttr_ValueError.ga.bind]
 refine Uy (Uz (wpAny_call (codeAny_mono h λr s' z=>?_)))
 rcases r with e | (v | _ | _ | _) <;> first | exact z | exact z.elim
theorem vV{r:Builtin.ObjectAttr.Found}(c:jE K C)(X:K.In s.heap)(I:PySem.W.InstAt s.heap x ox C od)(hf:PySem.W.findObj K C od name=some r)
  (h:wpAny (model prog w) A.in1 (match r with | .value v=>ret v | .bind g a=>Builtin.ObjectAttr.bindTo g a (.ref x) (.ref C) | .missing=>Builtin.ObjectAttr.noSuchAttribute (.ref x) name)
   (λfin s'=>match fin with | .done f=>R (.ok f) s' | .again c'=>c'.quiet=true/\codeAny (model prog w) A c' R s') (λe s'=>R (.error e) s') s) :
  codeAny (model prog w) A (.call (.builtin "BaseException.__getattribute__") ⟨[.ref x,.str name tk],[]⟩) R s:=by
 have sub:PySem.W.Looks (model prog w) s.heap (isInstance (.ref x) (.type "BaseException")) true:=I.type.andThen (PySem.W.looks_mroIn X c.mb)
 exact codeAny_call_builtin PySem.F.excAttr_ValueError.ga.plain PySem.F.entry_bexc_ga (@PySem.W.check_slot (model prog w) _ _ s "BaseException.__getattribute__" "BaseException" "__getattribute__" (.ref x) [.str name tk] [] _ (by decide +kernel) (by decide +kernel) sub (PySem.F.args_bexc_ga _ _) (zU X I hf h))
theorem wC{expr:Bool}{Q:Value->Shared->Prop}(c:jE K C)(X:K.In s.heap)(I:PySem.W.InstAt s.heap x ox C od)(hf:PySem.W.findObj K C od name=some (.value v))(hh:PySem.W.handedIn v=true)(h:Q v {s with toks:=s.toks+1}) :
  wpAny (model prog w) A (getAttr (.ref x) name expr) Q E s:=by
 unfold getAttr
 refine Uy (wpAny_mkText (Ci (s:={s with toks:=s.toks+1}) c X I hf (vV (s:={s with toks:=s.toks+1}) c X I hf (Uz ?_))))
 show wpAny _ _ (handedOut v) _ _ _
 rw [PySem.W.handedOut_of hh]
 exact Uz h
theorem xk{Q:Option Value->Shared->Prop}(c:jE K C)(X:K.In s.heap)(I:PySem.W.InstAt s.heap x ox C od)(hf:PySem.W.findObj K C od "__class__"=some (.bind (.builtin "getset_descriptor.__get__") (.builtin "object.__class__")))
  (h:Q (some (.ref C)) {s with toks:=s.toks+1}):wpAny (model prog w) A (getAttr? (.ref x) "__class__") Q E s:=by
 unfold getAttr? getAttrBy?
 refine Uy (wpAny_mkText (Uy (wpAny_attempt (Ci (s:={s with toks:=s.toks+1}) c X I hf (vV (s:={s with toks:=s.toks+1}) c X I hf ?_)))))
 show wpAny _ _ (holding [Value.builtin "object.__class__"] (call (.builtin "getset_descriptor.__get__") [.builtin "object.__class__",.ref x,.ref C]) >>= ret) _ _ _
 refine Uy (U9 (wpAny_call (PySem.W.class_get (s:={s with toks:=s.toks+1}) (ox:=ox) (od:=od) X I c.mo (Uz ?_))))
 show wpAny _ _ (handedOut (.ref C)) _ _ _
 rw [PySem.W.handedOut_of rfl]
 exact Uz (Uz h)
end
section
variable{X:Cx}{pins:List (Addr×Obj)}{σ:St}{H:Hp}{s:Shared}{a C dx:Addr}{fs:List (Str×V)}{f:Str}{v y:V}{u:Value}{A:Around}{E:Value->Shared->Prop}
theorem Fn{b:Bool}{Q:Value->Shared->Prop}(I:Inv X pins σ H s)(e:H a=some (xO a C (some dx)))(ed:H dx=some (xD dx fs))(c:jE X.K C)(n:iD X.K C f)(l:fs.lookup f=some v)
  (h:∀u s',Inv X pins σ H s'->RelV v u->Q u s'):wpAny (model X.prog X.w) A (getAttr (.ref a) f b) Q E s:=by
 obtain⟨⟨fl,sl,ha⟩,_⟩:=I.hok a _ e
 obtain⟨⟨mA,ns,r⟩,_⟩:=I.hok dx _ ed
 obtain⟨od,ho,hl⟩:=lT ns
 have J:PySem.W.InstAt s.heap a {cls:=.ref C,dict:=some dx,data:=.fields fl,slots:=sl} C (some od):=⟨ha,rfl,rfl,ho⟩
 have rf:=r f
 rw [l]at rf
 obtain⟨u,eu,ru⟩:=jq.some_of rf
 exact wC c I.jJ J (PySem.W.findObj_own c.hd n rfl (by rw [hl,eu])) (AA ru) (h _ _ (I.tok _) ru)
theorem q5{mA:Str->Option Value}(r:∀f,jq (fs.lookup f) (mA f)):PySem.Within mA (fs.map (·.1)):=by
 intro g hg
 have rg:=r g
 cases e:fs.lookup g with
 | none=>rw [e]at rg; exact absurd (jq.none_of rg) hg
 | some z =>
  clear rg r hg
  induction fs with
  | nil=>cases e
  | cons p t ih =>
   obtain⟨k,w⟩:=p
   rw [List.lookup_cons]at e
   cases hk:g==k with
   | true =>
    have:g=k:=by simpa using hk
    subst this
    exact Va
   | false=>rw [hk]at e; exact UQ _ (ih e)
end
def l8(K:Ve)(C:Addr)(bmB:List Value)(newId:String)(ini:Option Value):Bool:=match K.lookup C with
 | some ⟨.type "type",_,.cls cd,sl⟩=>(match cd.mro,sl.toList with
  | .ref C'::bm,[_,_,_,_,some (.builtin n),_]=>C'==C&&n==newId && !cd.hasDel&&PySem.W.tailIn K bmB bm&&PySem.W.nsOkIn K cd.ns&&PySem.W.nsIn K cd.ns "__init__"==some ini
  | _,_=>false)
 | _=>false
theorem Mt{K:Ve}{h:Heap}{N:Addr}{mg:Str->Option Value}{n:Str}{r:Option Value}(X:K.In h)(G:h.Ns N mg)(e:PySem.W.nsIn K N n=some r):mg n=r:=by
 cases r with
 | none=>exact PySem.W.ns_none_of X G e
 | some v =>
  obtain⟨o,es,ep,ho,hd,_,hf⟩:=G
  unfold PySem.W.nsIn at e
  split at e
  ·rename_i c d es' n' sl q
   have:=X _ _ q
   rw [ho]at this
   cases this
   cases hd
   split at e
   ·rename_i en he
    cases e
    rw [←hf]
    unfold nsFind findBy
    rw [←Array.find?_toList,he]
    rfl
   ·split at e <;> cases e
  ·cases e
theorem rn{K:Ve}{h:Heap}{C:Addr}{bmB:List Value}{newId:String}{ini:Option Value}(X:K.In h)(q:l8 K C bmB newId ini=true) :
  ∃bm N nm q bs hdct sn sub ab col dd k0 k1 k2 k3 k5 mN,h.get? C=some (excClassObj nm q C N bs bm hdct sn sub ab col dd k0 k1 k2 k3 k5 newId)/\h.Ns N mN/\mN "__init__"=ini/\OwnTail h bmB bm:=by
 unfold l8 at q
 split at q
 ·rename_i dd cd sl ho
  split at q
  ·rename_i C' bm k0 k1 k2 k3 n k5 hm hs
   simp only [Vc,beq_iff_eq,Bool.not_eq_true']at q
   obtain⟨⟨⟨⟨⟨rfl,rfl⟩,hdel⟩,ht⟩,hok⟩,hni⟩:=q
   obtain⟨nm,bs,mro,ns,qn,hd,sn,sub,ab,col,del⟩:=cd
   dsimp only at hm hdel hok hni
   subst hm hdel
   have hsl:sl = #[k0,k1,k2,k3,some (.builtin n),k5]:=by
    obtain⟨l⟩:=sl
    simp only at hs
    rw [hs]
   subst hsl
   exact⟨bm,ns,nm,qn,bs,hd,sn,sub,ab,col,dd,k0,k1,k2,k3,k5,_,X _ _ ho,.of_isNs (PySem.W.isNs_of_in X hok),Mt X (.of_isNs (PySem.W.isNs_of_in X hok)) hni,PySem.W.tail_of_in X ht⟩
  ·cases q
 ·cases q
section
variable{X:Cx}{CX:m8}{k:Nat}{f C:Addr}{fd:FuncData}{ps:List Str}{sp:Sp}{E:XK}{x:Str}{p pos:Pos}{e:Expr}{es:List Expr}{t:TA}
end
section
variable{X:Cx}{o value:Expr}{ta tv:TE}{f:Str}{pos pos':Pos}
def G_(K:Ve)(ta:TE)(f:Str):TE:=λσ H Q=>ta σ H λx H1=>∃a C dx fs v,x=.ref a/\H1 a=some (xO a C (some dx))/\H1 dx=some (xD dx fs)/\jE K C/\iD K C f/\fs.lookup f=some v/\Q v H1
theorem Gi(he:PE X o ta)(hb:attributeBase o f X.env (eval o X.env)=eval o X.env):PE X (.Attribute o f pos) (G_ X.K ta f):=by
 intro pins s σ H Q I h
 refine FL hb (b_ (he pins s σ H _ I h) λu s1 ⟨x,H1,I1,rx,a,C,dx,fs,v,ex,ea,ed,c,n,l,q⟩=>?_)
 subst ex
 obtain rfl:u=Value.ref a:=rx
 exact Fn I1 ea ed c n l λu' s2 I2 ru=>⟨v,H1,I2,ru,q⟩
end
def OJ(K:Ve)(H:Hp)(a C:Addr):Prop:=jE K C/\(H a=some (xO a C none)\/∃dx fs,H a=some (xO a C (some dx))/\H dx=some (xD dx fs))
theorem CM{K:Ve}{x D:Addr}(c:jE K D):PySem.W.KitX K (.ref x) (.ref D) (λh=>∃ox od,PySem.W.InstAt h x ox D od) where
 ty:=λ_ _ _ ⟨ox,od,I⟩=>I.type
 it:=λ_ _ X _=>by
  obtain⟨cdD,hcD,_⟩:=PySem.W.any_some c.hd
  unfold PySem.W.clsIn at hcD
  split at hcD
  ·rename_i c' d' cd' sl' ho
   intro A' Q' E' s' k q
   unfold isType loadHead
   exact Uy (wpAny_loadPart (k _ _ (X _ _ ho)) (Uz q))
  ·cases hcD
 ne:=λh tp dd its n sl X htp=>by
  obtain⟨cdD,hcD,_⟩:=PySem.W.any_some c.hd
  refine UY.mpr λq=>?_
  have e:D=tp:=Value.ref.inj (beq_iff_eq.mp q)
  subst e
  unfold PySem.W.clsIn at hcD
  split at hcD
  ·rename_i c' d' cd' sl' ho
   have z:=(X _ _ ho).symm.trans htp
   cases z
  ·cases hcD
 ca:=λ{prog w A E Q s} X I h=>by
  obtain⟨ox,od,I⟩:=I
  have hf:PySem.W.findObj K D od "__class__"=some (.bind (.builtin "getset_descriptor.__get__") (.builtin "object.__class__")):=by
   obtain⟨cd,PE,hc,_⟩:=c.cls
   unfold PySem.W.findObj
   rw [hc,Option.bind_some,c.ca,Option.bind_some]
   simp [c.cg,c.ct]
  exact xk c X I hf h
section
variable{X:Cx}
def PZ:V->Value->Prop
 | .ref a,u=>u=.ref a
 | .ty n,u=>u=.type n
 | _,_=>False
theorem u_:fq X (.builtin "isinstance") (λxs H Q=>∃x cv t c b,xs=[x,cv]/\PZ cv c/\(km X.K H x t\/∃a C,x=.ref a/\t=.ref C/\OJ X.K H a C)/\PySem.W.kitOne X.K t c=some b/\Q (.bl b) H):=by
 intro pins s σ H xs us Q I r h
 obtain⟨x,cv,t,c,b,rfl,hc,ty,e,q⟩:=h
 obtain⟨u,w',rfl,r1,r2⟩:=vals2 r
 have e2:w'=c:=by
  cases cv with
  | ref a=>cases(show c=_ from hc); exact r2
  | ty n=>cases(show c=_ from hc); exact r2
  | _=>exact hc.elim
 subst e2
 rcases ty with ty | ⟨a,C,rfl,rfl,cx,hx⟩
 ·exact qS I r1 ty e λtk=>⟨.bl b,H,I.tok _,rfl,q⟩
 ·cases(show u=Value.ref a from r1)
  have J:∃ox od,PySem.W.InstAt s.heap a ox C od:=by
   rcases hx with ea | ⟨dx,fs,ea,ed⟩
   ·obtain⟨⟨fl,sl,ha⟩,_⟩:=I.hok a _ ea
    exact⟨_,none,ha,rfl,rfl,True.intro⟩
   ·obtain⟨⟨fl,sl,ha⟩,_⟩:=I.hok a _ ea
    obtain⟨⟨mA,⟨od,_,_,ho,_⟩,_⟩,_⟩:=I.hok dx _ ed
    exact⟨_,some od,ha,rfl,rfl,ho⟩
  exact PySem.W.kia_one (CM cx) I.jJ J e (λz=>nomatch z) λtk=>⟨.bl b,H,I.tok _,rfl,q⟩
end
theorem Dz{H:Hp}{a:Addr}{o:HO}(h:H a=some o):upd H a o=H:=by
 funext b
 unfold upd
 by_cases e:b=a
 ·rw [if_pos e,e,h]
 ·rw [if_neg e]
structure Top(X:Cx)(L:Addr):Prop where
 ex:∃e0 r,X.stack=e0::r/\e0.frame=some L
 fr:X.env.frame=some L
structure IQ(X:Cx)(H:Hp)(h:Heap)(T:Addr):Prop where
 free:H T=none
 new:X.s₀.heap.objs.size<=T
 pn:∀p∈X.pn,p.1≠T
 obj:∃oT ts,h.get? T=some oT/\oT.data=.fields ts/\3<ts.size
structure NY(X:Cx)(H:Hp)(h:Heap)(e C:Addr)(od:Option Addr):Prop where
 at_:H e=some (xO e C od)
 obj:∃vs sl,h.get? e=some {cls:=.ref C,dict:=od,data:=.fields vs,slots:=sl}/\(vs[1]? = some .none\/∃T,vs[1]? = some (.ref T)/\IQ X H h T)
structure nX(X:Cx)(H:Hp)(h:Heap)(e C:Addr)(od:Option Addr)(T:Addr):Prop where
 at_:H e=some (xO e C od)
 obj:∃vs sl,h.get? e=some {cls:=.ref C,dict:=od,data:=.fields vs,slots:=sl}/\vs[1]? = some (.ref T)
 tb:IQ X H h T
section
variable{X:Cx}{pins:List (Addr×Obj)}{σ:St}{H:Hp}{s:Shared}{e C T L:Addr}{od:Option Addr}
theorem nX.P9{h:Heap}(f:nX X H h e C od T):NY X H h e C od:=⟨f.at_,let ⟨vs,sl,h1,h2⟩:=f.obj; ⟨vs,sl,h1,.inr ⟨T,h2,f.tb⟩⟩⟩
theorem Inv.PV(I:Inv X [] σ H s)(t:IQ X H s.heap T):T≠X.env.locals/\(∀x c,X.env.cells.lookup x=some c->c≠T)/\∀p∈X.pn++[],p.1≠T:=by
 obtain⟨oT,ts,h1,h2,_⟩:=t.obj
 refine⟨λz=>?_,λx c hc z=>?_,λp hp=>t.pn p (by simpa using hp)⟩
 ·obtain⟨m,⟨o',es,ep,ho',hd',_⟩,_⟩:=I.loc
  rw [←z,h1]at ho'
  cases ho'
  rw [hd']at h2
  cases h2
 ·obtain⟨v,o,ho,hd⟩:=I.cell x c hc
  rw [z,h1]at ho
  cases ho
  rw [hd]at h2
  cases h2
theorem Inv.mark(I:Inv X [] σ H s)(f:nX X H s.heap e C od T)(x:Value) :
  Inv X [] σ H {s with heap:=s.heap.update T (Obj.mapFields (·.setIfInBounds 3 x))}/\nX X H (s.heap.update T (Obj.mapFields (·.setIfInBounds 3 x))) e C od T:=by
 obtain⟨n1,n2,n3⟩:=I.PV f.tb
 obtain⟨oT,ts,h1,h2,h3⟩:=f.tb.obj
 have keep:∀b o,b≠T->s.heap.get? b=some o->(s.heap.update T (Obj.mapFields (·.setIfInBounds 3 x))).get? b=some o:=λb o hb q=>(Heap.get?_update_other _ _ (Ne.symm hb)).trans q
 have neT:e≠T:=λz=>by have:=f.at_; rw [z,f.tb.free]at this; cases this
 obtain⟨vs,sl,g1,g2⟩:=f.obj
 have hd':=Obj.data_mapFields h2 (·.setIfInBounds 3 x)
 refine⟨I.turned (t':=s.toks) (it:=T) keep f.tb.free n1 (.inr f.tb.new) n2 n3,f.at_,⟨vs,sl,keep _ _ neT g1,g2⟩,f.tb.free,f.tb.new,f.tb.pn,_,_,Heap.get?_update_self _ h1 (Obj.isFreed_of_fields hd'),hd',by simpa using h3⟩
theorem ib{M:Model}{A:Around}{E:Value->Shared->Prop}{Q:Unit->Shared->Prop}(I:Inv X [] σ H s)(f:nX X H s.heap e C od T)(fr:Option Addr)
  (q:∀s',Inv X [] σ H s'->nX X H s'.heap e C od T->Q () s'):wpAny M A (setFlight (.ref e) fr) Q E s:=by
 obtain⟨vs,sl,g1,g2⟩:=f.obj
 obtain⟨oT,ts,h1,h2,h3⟩:=f.tb.obj
 unfold setFlight
 refine Uy (wpAny_field g1 rfl g2 ?_)
 have ne:(Value.ref T != Value.none)=true:=by simp
 rw [if_pos ne]
 have z:=I.mark f (fr.elim .none λf=>rawInt f)
 exact wpAny_setField h1 h2 h3 (q _ z.1 z.2)
theorem Be{M:Model}{A:Around}{E:Value->Shared->Prop}{Q:Value->Shared->Prop}{env':Env}(hA:A.frames=some X.stack)(tp:Top X L)(hf:env'.frame=some L)(I:Inv X [] σ H s)
  (q:∀h',Inv X [] σ H {s with heap:=h'}->Heap.SlotsOnly (frs X.stack) s.heap h'->Q (.ref L) {s with heap:=h'}):wpAny M A (PySem.frameOf env') Q E s:=by
 obtain⟨e0,r,hst,h0⟩:=tp.ex
 have hl:=I.stack
 rw [hst]at hA hl
 have dw:((e0::r).dropWhile λx=>x.frame != env'.frame)=e0::r:=by rw [hf]; simp [List.dropWhile,h0]
 unfold PySem.frameOf
 refine Uy (wpAny_frameEnvs hA ?_)
 rw [dw]
 unfold frameObject
 refine Uy (Uy (wpAny_readyFrames_fun hl λh1 hs1=>Uz ?_))
 rw [h0]
 have e1:(e0::r).filterMap (·.frame)=frs X.stack:=by rw [hst]; rfl
 rw [e1]at hs1
 refine Uz (q h1 ?_ hs1)
 refine I.call (g':=s.gens) (t':=s.toks) (d':=s.drawn) (ch:=[]) ⟨λb o hb _ hf _=>(hs1.2.1 b hf).trans hb,λb o hb _ _ _=>hs1.2.2 b o hb,λ_ _ _ n _=>n,λb o hb _=>let ⟨sl,z⟩:=hs1.2.2 b o hb; ⟨_,z⟩,λ_ _ z=>z,λ_ _ _ z=>z,λb ps z=>⟨#[],by rw [z]; simp⟩⟩ (λb u hb=>?_) I.bare λb hb=>absurd hb (by simp)
 have nf:∀c v,H c=some v->c∉frs X.stack:=λc v hc hm=>by rw [I.m_ c hm]at hc; cases hc
 refine(I.hok b u hb).stay (λc v hc z=>(hs1.2.1 c ?_).trans z) (λ_ z=>z) λ_ _ z=>z
 rcases hc with rfl | hc
 ·exact nf c u hb
 ·exact nf c _ hc
theorem vx{M:Model}{A:Around}{E:Value->Shared->Prop}{Q:Unit->Shared->Prop}{env':Env}{head:Value}{hadNext:Bool}{vs:Array Value}{sl:Array (Option Value)}(hA:A.frames=some X.stack)(tp:Top X L)(hf:env'.frame=some L)(I:Inv X [] σ H s)
  (at_:H e=some (xO e C od)) (ho:s.heap.get? e=some {cls:=.ref C,dict:=od,data:=.fields vs,slots:=sl}) (h1:1<vs.size)
  (q:∀s' T,Inv X [] σ H s'->nX X H s'.heap e C od T->Q () s') :
  wpAny M A (do let a←PySem.frameOf env'; let pl←entryPlaceOf L hadNext; let b←EntryCells.newEntry head a .none (rawInt L) .none pl; setField (.ref e) 1 b) Q E s:=by
 refine Uy (Be hA tp hf I λh2 I2 hs2=>?_)
 refine Uy (wpAny_entryPlaceOf λpl hpl=>?_)
 unfold EntryCells.newEntry newFields
 refine Uy (U_ ?_ (hpl.sizeOk5 _ _ _ _ _))
 have ne:e∉frs X.stack:=λhm=>by rw [I.m_ e hm]at at_; cases at_
 have ho2:h2.get? e=some {cls:=.ref C,dict:=od,data:=.fields vs,slots:=sl}:=(hs2.2.1 e ne).trans ho
 generalize hTb:({cls:=.type "traceback",data:=.fields ([head,.ref L,.none,rawInt L,.none]++(if pl.isEmpty then List.replicate 6 Value.none else pl)).toArray}:Obj)=tb
 have hTd:tb.data=.fields ([head,.ref L,.none,rawInt L,.none]++(if pl.isEmpty then List.replicate 6 Value.none else pl)).toArray:=by rw [←hTb]
 have hnf:tb.isFreed=false:=by rw [←hTb]; rfl
 have I3:Inv X [] σ H {s with heap:=h2.push tb}:=I2.kept (t':=s.toks) λb o z=>UA _ z
 have Qh:(h2.push tb).get? e=some {cls:=.ref C,dict:=od,data:=.fields vs,slots:=sl}:=UA _ ho2
 have Kx:(h2.push tb).get? h2.objs.size=some tb:=UC _ hnf
 have N_:H h2.objs.size=none:=I2.hok.fresh (UD _)
 have neT:h2.objs.size≠e:=λz=>by rw [z]at N_; rw [N_]at at_; cases at_
 have Tf:∀p∈X.pn,p.1≠h2.objs.size:=λp hp z=>by
  have:=(I2.pin p (List.mem_append_left _ hp)).1
  exact absurd (UB this) (by rw [z]; exact Nat.lt_irrefl _)
 refine wpAny_setField Qh rfl h1 ?_
 have Qo:(Obj.mapFields (·.setIfInBounds 1 (Value.ref h2.objs.size)) {cls:=.ref C,dict:=od,data:=.fields vs,slots:=sl}) ={cls:=.ref C,dict:=od,data:=.fields (vs.setIfInBounds 1 (Value.ref h2.objs.size)),slots:=sl}:=rfl
 have KI:=Heap.get?_update_self (Obj.mapFields (·.setIfInBounds 1 (Value.ref h2.objs.size))) Qh (by rw [Qo]; rfl)
 rw [Qo]at KI
 have HG:∀b o,b≠e->(h2.push tb).get? b=some o->((h2.push tb).update e (Obj.mapFields (·.setIfInBounds 1 (Value.ref h2.objs.size)))).get? b=some o:=λb o hb z=>(Heap.get?_update_other _ _ (Ne.symm hb)).trans z
 have I4:=I3.write (h':=(h2.push tb).update e (Obj.mapFields (·.setIfInBounds 1 (Value.ref h2.objs.size)))) (t':=s.toks) (x:=e) (e:=e) (o:=xO e C od) (by rw [at_]; trivial) (.inl rfl) HG ⟨_,KI⟩ (GN KI)
 rw [Dz at_]at I4
 refine q _ h2.objs.size I4 ⟨at_,⟨_,sl,KI,by simp [h1]⟩,N_,UE I2.sz (UD _),Tf,tb,_,HG _ _ neT Kx,hTd,?_⟩
 simp only [US,UJ,Vb,List.length_nil]
 omega
theorem ny{M:Model}{A:Around}{E:Value->Shared->Prop}{Q:Unit->Shared->Prop}{env':Env}(hA:A.frames=some X.stack)(tp:Top X L)(hf:env'.frame=some L)(I:Inv X [] σ H s)(f:NY X H s.heap e C od)
  (q:∀s' T,Inv X [] σ H s'->nX X H s'.heap e C od T->Q () s'):wpAny M A (noteFrame (.ref e) env') Q E s:=by
 obtain⟨vs,sl,ho,alt⟩:=f.obj
 unfold noteFrame
 simp only [hf]
 rcases alt with h1 | ⟨T,h1,tb⟩
 ·refine Uy (wpAny_field ho rfl h1 ?_)
  rw [if_neg (by decide)]
  exact vx hA tp hf I f.at_ ho (Array.getElem?_eq_some_iff.mp h1).1 q
 ·have fT:nX X H s.heap e C od T:=⟨f.at_,⟨vs,sl,ho,h1⟩,tb⟩
  obtain⟨oT,ts,hT,hdT,h3⟩:=tb.obj
  refine Uy (wpAny_field ho rfl h1 ?_)
  have ne:(Value.ref T != Value.none)=true:=by simp
  rw [if_pos ne]
  refine Uy (wpAny_field hT hdT (U7 h3) ?_)
  by_cases hm:(ts[3]==rawInt L)=true
  ·rw [if_pos hm]
   exact Uz (q s T I fT)
  ·rw [if_neg hm]
   have z:=I.mark fT .none
   refine Uy (wpAny_setField hT hdT h3 ?_)
   obtain⟨vs',sl',ho',h1'⟩:=z.2.obj
   exact vx hA tp hf z.1 f.at_ ho' (Array.getElem?_eq_some_iff.mp h1').1 q
end
def XE(X:Cx)(E:XK):Value->Shared->Prop:=λev s'=>∃e C od σ' H',ev=.ref e/\Inv X [] σ' H' s'/\NY X H' s'.heap e C od/\E (.ref C) (some e) H'
abbrev Cx.xs(X:Cx)(E:XK):Cx:=X.wish (XE X E)
def AE(P:Program)(w:World):m8:=λouter H s E ev s'=>∃e C od H',ev=.ref e/\s'.os=s.os/\AllBare s'.gens/\Un (frs outer) [] H H' s.heap s'.heap/\ja P w H' s'.heap/\E (.ref C) (some e) H'/\H' e=some (xO e C od)/\
 ∃vs sl T oT ts,s'.heap.get? e=some {cls:=.ref C,dict:=od,data:=.fields vs,slots:=sl}/\vs[1]? = some (.ref T)/\H' T=none/\s.heap.objs.size<=T/\s'.heap.get? T=some oT/\oT.data=.fields ts/\3<ts.size
theorem yE{X:Cx}{E:XK}:Passes (AE X.prog X.w) (X.xs E) E:=by
 intro pins σ H s ev s' I h
 obtain⟨e,C,od,H',rfl,os,bare,un,hok,hE,at_,vs,sl,T,oT,ts,ho,h1,hT,hn,hoT,hd,h3⟩:=h
 have I':Inv (X.xs E) pins σ H' s':=I.call' (ch:=[]) os un hok bare λb z=>absurd z (by simp)
 have I2:Inv X [] σ H' s':=(I'.iK (pins':=[]) λp hp=>absurd hp (by simp)).de
 refine⟨e,C,od,σ,H',rfl,I2,⟨at_,vs,sl,ho,.inr ⟨T,h1,hT,UE I.sz hn,λp hp z=>?_,oT,ts,hoT,hd,h3⟩⟩,hE⟩
 have:=(I.pin p (List.mem_append_left _ hp)).1
 exact absurd (UM (UB this) hn) (by rw [z]; exact Nat.lt_irrefl _)
theorem Cr{X:Cx}{E:XK}{L:Addr}(tp:Top X L):PassesOwn (model X.prog X.w) X.A X.env (XE X E):=by
 intro ev s' h
 obtain⟨e,C,od,σ,H,rfl,I,f,hE⟩:=h
 refine ny I.ok.frames tp tp.fr I f λs2 T I2 f2=>?_
 obtain⟨vs,sl,g1,g2⟩:=f2.obj
 show wpAny _ _ (field (.ref e) 1 >>= _) _ _ s2
 refine Uy (wpAny_field g1 rfl g2 ?_)
 have ne:¬((Value.ref T==Value.none)=true):=by simp
 rw [if_neg ne]
 have fin:=ib (M:=model X.prog X.w) (A:=X.A) (E:=XE X E) (Q:=λ_ s3=>XE X E (.ref e) s3) I2 f2 X.env.frame λs3 I3 f3=>⟨e,C,od,σ,H,rfl,I3,f3.P9,hE⟩
 first
  | exact fin
  | exact Uy (Uz fin)
theorem BZ{X:Cx}{E:XK}{L:Addr}{ev:Value}{s':Shared}{Q:Unit->Shared->Prop}{E2:Value->Shared->Prop}(tp:Top X L)(h:XE X E ev s')(q:∀e C od σ H s2 T,ev=.ref e->Inv X [] σ H s2->nX X H s2.heap e C od T->E (.ref C) (some e) H->Q () s2) :
  wpAny (model X.prog X.w) X.A (leaving X.env ev) Q E2 s':=by
 obtain⟨e,C,od,σ,H,rfl,I,f,hE⟩:=h
 unfold leaving
 exact Uy (ny I.ok.frames tp tp.fr I f λs2 T I2 f2=>ib I2 f2 none λs3 I3 f3=>q e C od σ H s3 T rfl I3 f3 hE)
section
variable{P:Program}{w:World}{K:Ve}{mg:Str->Option Value}{base:Heap}
theorem r6{CX:m8}{N:List Str}{qual:Str}{sc:Scope}{f:Addr}{cd:Value}{A:Around}{outer:List Env}{s:Shared}{H:Hp}{E:XK}:Top (qm CX P w K mg base N qual sc f cd A outer s H E) s.heap.objs.size:=⟨⟨_,_,rfl,rfl⟩,rfl⟩
theorem A2.KJ{x qual:Str}{st:Stmt}{f:Addr}{fd:FuncData}{N ps:List Str}{k:Nat}{sp:Sp}(F:A2 K x qual st f fd)(S:az N ps (ar st))(len:∀vs H Q E,sp vs H Q E->vs.length=ps.length)
  (hbody:∀(cdv:Value) (A:Around) (outer:List Env) (s:Shared) (H:Hp) (vs:List V) (Q:VK) (E:XK),eK k (A.deeper (envOfC qual (ar st) s.heap.objs.size f cdv))->sp vs H Q E->
   ∃t,nN ((qm (AE P w) P w K mg base N qual (ar st) f cdv A outer s H E).xs E) (cR st) t/\t {nx:=λ_ H'=>Q .non H',rt:=Q} (start N vs) H):e_ P w K mg base (AE P w) (k+1) f fd ps sp:=by
 obtain⟨oc,od,kV,doc,pm,an,cdv,ct,osl,rfl,lk,hcd⟩:=F.ex
 refine Hy lk hcd S len λA outer s H vs Q E hr hsp=>?_
 obtain⟨t,h,q⟩:=hbody cdv A outer s H vs Q E hr hsp
 refine⟨t,λpins s1 σ H1 D I hw=>?_,q⟩
 refine U8 (h pins s1 σ H1 D (I.wish _) hw) (λ_ _ z=>z.de) λev s2 hx=>?_
 refine BZ r6 hx λe C od df H2 s3 T ee I3 f3 hE=>?_
 subst ee
 obtain⟨Rr,T1,g1,g2⟩:=f3.obj
 obtain⟨oT,ts,t1,t2,t3⟩:=f3.tb.obj
 exact⟨e,C,od,H2,rfl,I3.os,I3.bare,I3.base,I3.hok,hE,f3.at_,Rr,T1,T,oT,ts,g1,g2,f3.tb.free,f3.tb.new,t1,t2,t3⟩
end
end L2
namespace L2
open PySem PyProof.Rows
theorem fs{N P:List Str}{sc:Scope}(h1:sc.kind=.function:=by rfl)(h2:sc.isCoroutine=false:=by rfl)(h3:sc.isGenerator=false:=by rfl)(h4:N.Nodup:=by decide +kernel)(h5:N.take P.length=P:=by rfl)
  (h6:∀x∈P,sc.names.lookup x=some .local\/sc.names.lookup x=some .cell:=by decide +kernel) (h7:∀y∈sc.names,y.2≠ .free:=by decide +kernel):az N P sc:=⟨h1,h2,h3,h4,h5,h6,h7⟩
theorem Jo{P:List Value->Prop}(h:∀a0,P [a0]):∀us:List Value,us.length=1->P us:=λus hl=>match us,hl with | [_],_=>h _
theorem Jx{P:List Value->Prop}(h:∀a0 a1,P [a0,a1]):∀us:List Value,us.length=2->P us:=λus hl=>match us,hl with | [_,_],_=>h _ _
theorem IL{P:List Value->Prop}(h:∀a0 a1 a2,P [a0,a1,a2]):∀us:List Value,us.length=3->P us:=λus hl=>match us,hl with | [_,_,_],_=>h _ _ _
theorem JZ{P:List Value->Prop}(h:∀a0 a1 a2 a3,P [a0,a1,a2,a3]):∀us:List Value,us.length=4->P us:=λus hl=>match us,hl with | [_,_,_,_],_=>h _ _ _ _
theorem Ju{P:List Value->Prop}(h:∀a0 a1 a2 a3 a4,P [a0,a1,a2,a3,a4]):∀us:List Value,us.length=5->P us:=λus hl=>match us,hl with | [_,_,_,_,_],_=>h _ _ _ _ _
structure FA(K:Ve)(mg:Str->Option Value)(x:Str)(st:Stmt):Prop where
 ex:∃f fd,A2 K x x st f fd/\mg x=some (.ref f)
structure bc(CX:m8)(P:Program)(w:World)(K:Ve)(mg:Str->Option Value)(base:Heap)(k:Nat)(x:Str)(ps:List Str)(sp:Sp):Prop where
 ex:∃f fd,e_ P w K mg base CX k f fd ps sp/\Binds K fd ps []/\PySem.W.keepIn K (.ref f)=true/\mg x=some (.ref f)
def FnAt(P:Program)(w:World)(K:Ve)(mg:Str->Option Value)(base:Heap)(k:Nat)(f:Addr)(ps:List Str)(sp:Sp):Prop :=
 ∃fd,e_ P w K mg base bf k f fd ps sp/\Binds K fd ps []/\PySem.W.keepIn K (.ref f)=true
section
variable{CX:m8}{P:Program}{w:World}{K:Ve}{mg:Str->Option Value}{base:Heap}{x:Str}{st:Stmt}{ps N:List Str}{sp:Sp}{j k:Nat}
theorem bc.m(G:bc CX P w K mg base j x ps sp)(h:j<=k:=by decide):bc CX P w K mg base k x ps sp:=by
 obtain⟨f,fd,h1,h2⟩:=G.ex
 exact⟨f,fd,h1.mono h,h2⟩
theorem bc.at{f:Addr}(G:bc bf P w K mg base k x ps sp)(h:mg x=some (.ref f)):FnAt P w K mg base k f ps sp:=by
 obtain⟨g,fd,h1,h2,h3,h4⟩:=G.ex
 cases h4.symm.trans h
 exact⟨fd,h1,h2,h3⟩
theorem FA.cal(F:FA K mg x st)(ok:∀f fd,A2 K x x st f fd->e_ P w K mg base CX k f fd ps sp)
  (hb:∀(kV doc pm:Value) (an:Option Addr) (cdv ct:Value) (us:List Value),us.length=ps.length->bindArgs (PySem.W.fnOf x x (dY st) (cR st) (ar st) .none kV doc pm an cdv ct) ⟨us,[]⟩=pure (ps.zip us):=by first
   | (intro _ _ _ _ _ _; refine L2.Jo ?_; intro _; rfl)
   | (intro _ _ _ _ _ _; refine L2.Jx ?_; intro _ _; rfl)
   | (intro _ _ _ _ _ _; refine L2.IL ?_; intro _ _ _; rfl)
   | (intro _ _ _ _ _ _; refine L2.JZ ?_; intro _ _ _ _; rfl)
   | (intro _ _ _ _ _ _; refine L2.Ju ?_; intro _ _ _ _ _; rfl)):bc CX P w K mg base k x ps sp:=by
 obtain⟨f,fd,h1,h2⟩:=F.ex
 exact⟨f,fd,ok f fd h1,h1.binds hb,h1.kp,h2⟩
theorem FA.ok(F:FA K mg x st)(S:az N ps (ar st))
  (hbody:∀(f:Addr) (cdv:Value) (A:Around) (outer:List Env) (s:Shared) (H:Hp) (vs:List V) (Q:VK) (E:XK),eK k (A.deeper (envOfC x (ar st) s.heap.objs.size f cdv))->sp vs H Q E->
   ∃t,nN (qm bf P w K mg base N x (ar st) f cdv A outer s H E).yC (cR st) t/\t {nx:=λ_ H'=>Q .non H',rt:=Q} (start N vs) H)
  (len:∀vs H Q E,sp vs H Q E->vs.length=ps.length:=by
   intro vs H Q E h
   first
   | exact False.elim h
   | (obtain⟨_,rfl,_⟩:=h; rfl)
   | (obtain⟨_,_,rfl,_⟩:=h; rfl)
   | (obtain⟨_,_,_,rfl,_⟩:=h; rfl)
   | (obtain⟨_,_,_,_,rfl,_⟩:=h; rfl)
   | (obtain⟨_,_,_,_,_,rfl,_⟩:=h; rfl)
   | (obtain⟨_,_,_,_,_,_,rfl,_⟩:=h; rfl)
   | (obtain⟨_,_,_,_,_,_,_,rfl,_⟩:=h; rfl)
   | (obtain⟨_,_,_,_,_,_,_,_,rfl,_⟩:=h; rfl)
   | (obtain⟨_,_,_,_,_,_,_,_,_,rfl,_⟩:=h; rfl)
   | (obtain⟨_,_,_,_,_,_,_,_,_,_,rfl,_⟩:=h; rfl)
   | (obtain⟨_,_,_,_,_,_,_,_,_,_,_,rfl,_⟩:=h; rfl))
  (hb:∀(kV doc pm:Value) (an:Option Addr) (cdv ct:Value) (us:List Value),us.length=ps.length->bindArgs (PySem.W.fnOf x x (dY st) (cR st) (ar st) .none kV doc pm an cdv ct) ⟨us,[]⟩=pure (ps.zip us):=by first
   | (intro _ _ _ _ _ _; refine L2.Jo ?_; intro _; rfl)
   | (intro _ _ _ _ _ _; refine L2.Jx ?_; intro _ _; rfl)
   | (intro _ _ _ _ _ _; refine L2.IL ?_; intro _ _ _; rfl)
   | (intro _ _ _ _ _ _; refine L2.JZ ?_; intro _ _ _ _; rfl)
   | (intro _ _ _ _ _ _; refine L2.Ju ?_; intro _ _ _ _ _; rfl)):bc bf P w K mg base (k+1) x ps sp :=
 F.cal (λf fd h1=>h1.ok S len λcdv A outer s H vs Q E=>hbody f cdv A outer s H vs Q E) hb
theorem FA.KJ(F:FA K mg x st)(S:az N ps (ar st))
  (hbody:∀(f:Addr) (cdv:Value) (A:Around) (outer:List Env) (s:Shared) (H:Hp) (vs:List V) (Q:VK) (E:XK),eK k (A.deeper (envOfC x (ar st) s.heap.objs.size f cdv))->sp vs H Q E->
   ∃t,nN ((qm (AE P w) P w K mg base N x (ar st) f cdv A outer s H E).xs E) (cR st) t/\t {nx:=λ_ H'=>Q .non H',rt:=Q} (start N vs) H)
  (len:∀vs H Q E,sp vs H Q E->vs.length=ps.length:=by
   intro vs H Q E h
   first
   | exact False.elim h
   | (obtain⟨_,rfl,_⟩:=h; rfl)
   | (obtain⟨_,_,rfl,_⟩:=h; rfl)
   | (obtain⟨_,_,_,rfl,_⟩:=h; rfl)
   | (obtain⟨_,_,_,_,rfl,_⟩:=h; rfl)
   | (obtain⟨_,_,_,_,_,rfl,_⟩:=h; rfl)
   | (obtain⟨_,_,_,_,_,_,rfl,_⟩:=h; rfl)
   | (obtain⟨_,_,_,_,_,_,_,rfl,_⟩:=h; rfl)
   | (obtain⟨_,_,_,_,_,_,_,_,rfl,_⟩:=h; rfl)
   | (obtain⟨_,_,_,_,_,_,_,_,_,rfl,_⟩:=h; rfl)
   | (obtain⟨_,_,_,_,_,_,_,_,_,_,rfl,_⟩:=h; rfl)
   | (obtain⟨_,_,_,_,_,_,_,_,_,_,_,rfl,_⟩:=h; rfl))
  (hb:∀(kV doc pm:Value) (an:Option Addr) (cdv ct:Value) (us:List Value),us.length=ps.length->bindArgs (PySem.W.fnOf x x (dY st) (cR st) (ar st) .none kV doc pm an cdv ct) ⟨us,[]⟩=pure (ps.zip us):=by first
   | (intro _ _ _ _ _ _; refine L2.Jo ?_; intro _; rfl)
   | (intro _ _ _ _ _ _; refine L2.Jx ?_; intro _ _; rfl)
   | (intro _ _ _ _ _ _; refine L2.IL ?_; intro _ _ _; rfl)
   | (intro _ _ _ _ _ _; refine L2.JZ ?_; intro _ _ _ _; rfl)
   | (intro _ _ _ _ _ _; refine L2.Ju ?_; intro _ _ _ _ _; rfl)):bc (AE P w) P w K mg base (k+1) x ps sp :=
 F.cal (λf fd h1=>h1.KJ S len λcdv A outer s H vs Q E=>hbody f cdv A outer s H vs Q E) hb
end
section
variable{X:Cx}{CX:m8}{x:Str}{ps:List Str}{sp:Sp}{j k:Nat}{E:XK}{e:Expr}{es:List Expr}{t:TA}{p pos:Pos}
theorem uy(G:bc CX X.prog X.w X.K X.mg X.base j x ps sp)(hr:eK k X.A)(hg:Gl X x)(hx:Passes CX X E)(ha:PA X (e::es) t)(hl:j<=k:=by omega)
  (hdb:(x==("__debug__" : Str))=false:=by decide) (he:starEach (e::es) X.env=(false,eval e X.env)::starEach es X.env:=by rfl) (hpl:(backTo pos (starEach es X.env)).any (·.1)=false:=by rfl) :
  PE X (.Call (.Name x p) (e::es) [] pos) (i4 sp [] E t):=by
 obtain⟨f,fd,h1,h2,h3,h4⟩:=G.ex
 exact Gm (h1.mono hl) hr hg h4 h3 h2 .nil hx ha hdb he hpl
end
section
variable{X:Cx}{a b e:Expr}{ta tb te:TE}{pos p pos2:Pos}{es:List Expr}{t:TA}
theorem aA(K:Ve)(ha:PE X a ta)(hb:PE X b tb)(e:X.K=K:=by rfl)(hs:m9 b:=by exact λ_ _=>rfl):PE X (.Subscript a b pos) (gE (sy K) ta tb):=by subst e; exact fX Br ha hb hs
theorem bj(K:Ve)(ha:PE X a ta)(hb:PE X b tb)(e:X.K=K:=by rfl)(hs:m9 b:=by exact λ_ _=>rfl):PE X (.Subscript a b pos) (gE (xy K) ta tb):=by subst e; exact fX fJ ha hb hs
theorem aW{op:CmpOp}{r:R2}(ho:i6 X (compareOp op) r)(ha:PE X a ta)(hb:PE X b tb)(hm:behindInMarks op b=false:=by exact A_ _):PT X (.Compare a [op] [b] pos) (rC (gE r ta tb)):=dc ho ha hb hm
theorem bU{op:CmpOp}{r:R2}(ho:i6 X (compareOp op) r)(ha:PE X a ta)(hb:PE X b tb)(hm:behindInMarks op b=false:=by exact A_ _):PE X (.Compare a [op] [b] pos) (gE r ta tb):=fF ho ha hb hm
theorem ay{x:Str}{ps:List Str}{sp:Sp}{j k:Nat}(G:bc bf X.prog X.w X.K X.mg X.base j x ps sp)(hr:eK k X.A)(ha:PA X (e::es) t)(hg:Gl X x:=by rfl)(hl:j<=k:=by omega)
  (hdb:(x==("__debug__" : Str))=false:=by decide) (he:starEach (e::es) X.env=(false,eval e X.env)::starEach es X.env:=by rfl) (hpl:(backTo pos (starEach es X.env)).any (·.1)=false:=by rfl) :
  PE X (.Call (.Name x p) (e::es) [] pos) (i4 sp [] E0 t):=uy G hr hg uv ha hl hdb he hpl
theorem ax(he:PE X e te):nN X [.Return (some e) pos] (D5 te):=bK (Ce he)
theorem aN{c:Expr}{tc:TT}{u:TS}{rest:List Stmt}(hc:PT X c tc)(he:PE X e te)(hr:nN X rest u):nN X (.If c [.Return (some e) pos] [] pos2::rest) (FC (Jf tc (D5 te) CH) u):=aq (dy hc (ax he) cb) hr
end
theorem iW{A:Around}{k:Nat}(hr:eK k A):A.units+8<cLine:=by have:=hr.un; omega
theorem wt:0<=sizeLine:=by decide
theorem dP:1<=sizeLine:=by decide
theorem cJ:2<=sizeLine:=by decide
theorem gv:3<=sizeLine:=by decide
theorem M5:4<=sizeLine:=by decide
theorem sF:5<=sizeLine:=by decide
theorem Ma:6<=sizeLine:=by decide
theorem Om:7<=sizeLine:=by decide
theorem Lp:12<=sizeLine:=by decide
def FK(K:Ve)(x:Str)(st:Stmt)(f:Addr):Prop:=PySem.W.nsIn K mainGlobals x=some (some (.ref f))/\∃fd,A2 K x x st f fd
theorem FK.fa{K:Ve}{h:Heap}{mg:Str->Option Value}{x:Str}{st:Stmt}{f:Addr}(F:FK K x st f)(X:K.In h)(G:h.Ns mainGlobals mg):FA K mg x st:=by
 obtain⟨h1,fd,h2⟩:=F
 exact⟨f,fd,h2,PySem.W.mg_of X G h1⟩
theorem FK.h{K:Ve}{h:Heap}{mg:Str->Option Value}{x:Str}{st:Stmt}{f:Addr}(F:FK K x st f)(X:K.In h)(G:h.Ns mainGlobals mg):mg x=some (.ref f):=PySem.W.mg_of X G F.1
theorem MY{K:Ve}{x:Str}{st:Stmt}{f:Addr}{oc:Value}{od an:Option Addr}{osl:Array (Option Value)}{kV doc pm cdv ct:Value}(a:PySem.W.nsIn K mainGlobals x=some (some (.ref f)))
  (l:K.lookup f=some ⟨oc,od,.func (PySem.W.fnOf x x (dY st) (cR st) (ar st) .none kV doc pm an cdv ct),osl⟩) (c:PySem.W.codeIn K cdv x=true) (k:PySem.W.keepIn K (.ref f)=true):FK K x st f :=
 ⟨a,_,wI l c k⟩
end L2
namespace My
open PySem L2
def top(i:Nat):Stmt:=PySem.Challenge.pw_rowpipes_k24_whole_heads.main.body.getD i (.Pass ⟨0,0,0,0⟩)
abbrev Ed:Stmt:=top 51
abbrev JM:Stmt:=top 52
abbrev Df:Stmt:=top 53
abbrev rR:Stmt:=top 54
abbrev B9:Stmt:=top 55
abbrev Ly:List Str:=["_law_script","_law_k"]
abbrev Pk:List Str:=["_law_script","_law_k","_law_cell_here"]
abbrev LM:List Str:=["_law_pot_here","_law_many_here","_law_digit"]
abbrev Ge:List Str:=["_law_pot_here","_law_near","_law_far"]
abbrev Ms:List Str:=["_law_pot_here","_law_letters","_law_some"]
theorem J6:az Ly ["_law_script","_law_k"] (ar Ed):=fs
theorem Hh:az Pk ["_law_script","_law_k"] (ar JM):=fs
theorem Bu:az LM ["_law_pot_here","_law_many_here"] (ar Df):=fs
theorem p7:az Ge ["_law_pot_here"] (ar rR):=fs
theorem wA:az Ms ["_law_pot_here"] (ar B9):=fs
structure jU(mg:Str->Option Value):Prop where
 len:mg "len"=none
 max:mg "max"=none
 abs:mg "abs"=none
 divmod:mg "divmod"=none
 range:mg "range"=none
 tuple:mg "tuple"=none
 list:mg "list"=none
 isinstance:mg "isinstance"=none
variable{P:Program}{w:World}{K:Ve}{mg:Str->Option Value}{base:Heap}
theorem Ga(B:jU mg)(F:FA K mg "_law_cell_at" Ed) :
  bc bf P w K mg base 1 "_law_cell_at" ["_law_script","_law_k"] (Eb K):=by
 refine F.ok J6 λf cdv A outer s H vs Q E hr h=>?_
 obtain⟨a,ns,k,rfl,hS,h0,q⟩:=h
 refine⟨_,aq (dy (aW CY (pv 1) (a_ bF rfl B.len PySem.boot_len (ae (pv 0) ah))) (ax (fX fJ (pv 0) (pv 1) (λ_ _=>rfl))) cb)
  (ax ai),?_⟩
 refine⟨_,rfl,_,rfl,a,_,rfl,.inl hS,_,_,rfl,rfl,_,rfl,?_⟩
 refine cG (λc=>?_) (λc=>?_)
 ·have c':k<(((ns.map V.int).length:Nat):Int):=Vd c
  obtain⟨v,hv,hg⟩:=D0 h0 c'
  rw [U5]at hg
  cases e:ns[k.toNat]? with
  | none=>rw [e]at hg; cases hg
  | some n =>
   rw [e]at hg
   have hg':V.int n=v:=U2 hg
   subst hg'
   exact⟨_,rfl,_,rfl,a,_,_,_,rfl,rfl,hS,hv,q n⟩
 ·exact q 0
theorem JL(B:jU mg)(F:FA K mg "_law_pot" JM)(G:bc bf P w K mg base 1 "_law_cell_at" ["_law_script","_law_k"] (Eb K)) :
  bc bf P w K mg base 2 "_law_pot" ["_law_script","_law_k"] (Hv K):=by
 refine F.ok Hh λf cdv A outer s H vs Q E hr h=>?_
 obtain⟨a,ns,k,rfl,hS,h0,h1,q⟩:=h
 refine⟨_,aq (aL (i:=2) Hh.nd rfl (Or.inl rfl) (ay G hr (ae (pv 0) (ae (pv 1) ah))))
  (ax (aQ (ae (a_ (zr rfl) rfl B.max PyProof.Rows.boot_max (ae ai (ae (aF bJ (pv 2) (aF l9 ai ai)) ah)))
   (ae (aF cY (aF oW (aF cY (aF cY (a_ DT rfl B.abs PyProof.Rows.boot_abs (ae (pv 2) ah)) (aF lP ai (pv 1))) ai) ai) ai) ah)))),?_⟩
 refine⟨_,rfl,_,rfl,a,ns,k,rfl,hS,h0,λn=>?_⟩
 refine⟨_,rfl,_,_,rfl,rfl,⟨by decide,by decide,by decide⟩,_,_,rfl,rfl,_,_,rfl,?_⟩
 refine⟨_,rfl,_,rfl,_,rfl,_,_,rfl,rfl,.inl ⟨by decide,by decide⟩,_,_,rfl,rfl,_,_,rfl,rfl,_,_,rfl,rfl,(by show(0:Int)<2147483629; decide),_,_,rfl,rfl,cJ,λp hp=>?_⟩
 refine q p _ hp (aj hp _) ⟨_,_,ag,?_,?_,?_⟩
 ·split <;> omega
 ·have:=Int.emod_nonneg ((if n<0 then -n else n)+7919*k+3) (show(2147483629:Int)≠0 by decide)
  omega
 ·have:=Int.emod_lt_of_pos ((if n<0 then -n else n)+7919*k+3) (show(0:Int)<2147483629 by decide)
  omega
theorem Ff(B:jU mg)(F:FA K mg "_law_draw" Df) :
  bc bf P w K mg base 1 "_law_draw" ["_law_pot_here","_law_many_here"] dv:=by
 refine F.ok Bu λf cdv A outer s H vs Q E hr h=>?_
 obtain⟨p,m,rfl,⟨a,b,hp,ha,hb,hb'⟩,hm,hm',q⟩:=h
 refine⟨_,aq (dy (aW ie (fX fJ (pv 0) ai (λ_ _=>rfl)) ai)
   (aq (pD (a_ rW rfl B.divmod PyProof.Rows.boot_divmod (ae (fX fJ (pv 0) ai (λ_ _=>rfl)) (ae (pv 1) ah)))
    (cC rfl (aD (Eg (pv 0) ai set_list) (aD (bT (i:=2) Bu.nd rfl (Or.inl rfl)) bS))))
   (ax (pv 2))) cb)
  (aq (pD (aF oW (aF cY (aF lP (fX fJ (pv 0) ai (λ_ _=>rfl)) ai) ai) ai) (Eg (pv 0) ai set_list))
  (ax (aF oW (aF zh (aF oW (aF lP (fX fJ (pv 0) ai (λ_ _=>rfl)) (fX fJ (pv 0) ai (λ_ _=>rfl))) ai) ai) (pv 1)))),?_⟩
 refine⟨_,rfl,p,_,_,_,rfl,rfl,aZ.of hp,rfl,_,_,rfl,rfl,_,rfl,?_⟩
 refine cG (λc=>?_) (λc=>?_)
 ·refine⟨_,rfl,p,_,_,_,rfl,rfl,aZ.of hp,rfl,_,rfl,_,_,rfl,⟨hm,hm'⟩,λt ht=>?_⟩
  have np:p≠t:=aU hp ht
  refine⟨t,_,rfl,aH.of ag,rfl,_,_,rfl,_,rfl,p,_,_,0,rfl,rfl,(by rw [aI np]; exact hp),rfl,_,_,rfl,rfl,?_⟩
  refine⟨_,rfl,q _ _ ⟨λc o nc e=>?_,_,_,ag,Int.ediv_nonneg ha (by omega),hb,hb'⟩ (Int.emod_nonneg _ (by omega)) (Int.emod_lt_of_pos _ hm)⟩
  rw [aI nc,aI (aU e ht)]
  exact e
 ·have h1:=Int.emod_nonneg (b*48271+11) (show(2147483647:Int)≠0 by decide)
  have h2:=Int.emod_lt_of_pos (b*48271+11) (show(0:Int)<2147483647 by decide)
  refine⟨_,rfl,p,_,_,_,rfl,rfl,aZ.of hp,rfl,_,_,rfl,rfl,.inr ⟨by decide,by decide⟩,_,_,rfl,rfl,_,_,rfl,rfl,(by show(0:Int)<2147483647; decide),_,rfl,p,_,_,1,rfl,rfl,hp,rfl,?_⟩
  refine⟨_,rfl,p,_,_,_,rfl,rfl,aZ.of ag,rfl,_,rfl,p,_,_,_,rfl,rfl,aZ.of ag,rfl,_,_,rfl,rfl,.inl ⟨?_,?_⟩,_,_,rfl,rfl,(by show(0:Int)<2147483629; decide),_,_,rfl,rfl,⟨by decide,by decide⟩,_,rfl,_,_,rfl,rfl,hm,?_⟩
  ·have e:((2:Int) ^ 64)=18446744073709551616:=by decide
   rw [e]; omega
  ·have e:((2:Int) ^ 64)=18446744073709551616:=by decide
   rw [e]; omega
  ·exact q _ _ ⟨λc o nc e=>by rw [aI nc]; exact e,_,_,ag,ha,h1,by omega⟩ (Int.emod_nonneg _ (by omega)) (Int.emod_lt_of_pos _ hm)
theorem zv(F:FA K mg "_law_number" rR)(G:bc bf P w K mg base 1 "_law_draw" ["_law_pot_here","_law_many_here"] dv) :
  bc bf P w K mg base 2 "_law_number" ["_law_pot_here"] oN:=by
 refine F.ok p7 λf cdv A outer s H vs Q E hr h=>?_
 obtain⟨p,rfl,hP,q⟩:=h
 refine⟨_,aq (aL (i:=1) p7.nd rfl (Or.inl rfl) (aF bJ (ay G hr (ae (pv 0) (ae ai ah))) ai))
  (aN (aW ie (ay G hr (ae (pv 0) (ae ai ah))) ai) (pv 1)
  (aq (aL (i:=2) p7.nd rfl (Or.inl rfl) (aQ (ae (aF cY (aF bJ (ay G hr (ae (pv 0) (ae (aF bJ (aF lP ai (aF l9 ai ai)) ai) ah))) (aF l9 ai ai)) ai)
   (ae (aF bJ (aF l9 ai ai) ai) (ae (aF bJ ai (aF l9 ai ai)) ah)))))
  (ax (fX fJ (pv 2) (aF cY (aF zh (ay G hr (ae (pv 0) (ae ai ah))) ai) (aF oW (pv 1) ai)) (λ_ _=>rfl))))),?_⟩
 refine⟨_,rfl,p,_,rfl,hP,by decide,by decide,λd1 H1 g1 a1 b1=>⟨_,_,rfl,rfl,?_⟩⟩
 refine⟨_,rfl,p,_,rfl,g1.cf,by decide,by decide,λd2 H2 g2 a2 b2=>⟨_,_,rfl,rfl,_,rfl,?_⟩⟩
 have G9:((10:Int) ^ (60:Nat))=1000000000000000000000000000000000000000000000000000000000000:=by decide
 refine cG (λc=>?_) (λc=>?_)
 ·exact⟨_,rfl,q _ _ (g1.trans g2) (by rw [G9]; omega) (by rw [G9]; omega)⟩
 ·refine⟨_,rfl,_,_,rfl,rfl,⟨by decide,by decide,by decide⟩,_,_,rfl,rfl,.inl ⟨by decide,by decide⟩,_,_,rfl,rfl,p,_,rfl,g2.cf,by decide +kernel,by decide +kernel,λd3 H3 g3 a3 b3=>?_⟩
  have Uh:d3<1999999999999999999999999999999999999999999999999999999999999:=b3
  refine⟨_,_,rfl,rfl,⟨by decide,by decide,by decide⟩,_,_,rfl,rfl,_,_,rfl,rfl,_,_,rfl,rfl,⟨by decide,by decide,by decide⟩,_,_,rfl,rfl,_,_,rfl,rfl,⟨by decide,by decide,by decide⟩,_,_,rfl,rfl,gv,λl hl=>?_⟩
  have Jh:=(g1.trans g2).trans g3
  have n1:l≠p:=λe=>by subst e; obtain⟨_,_,z,_⟩:=Jh.cf; rw [z]at hl; cases hl
  refine⟨_,rfl,_,rfl,p,_,rfl,(Jh.new hl).cf,by decide,by decide,λd4 H4 g4 a4 b4=>?_⟩
  have TK:=g4.keep l _ n1 ag
  refine⟨_,_,rfl,rfl,⟨by decide,by decide⟩,_,rfl,_,_,rfl,rfl,(by show(0:Int)<2; decide),_,_,rfl,rfl,?_⟩
  have i0:0<=d4 / 2+(d1-15) % 2:=by omega
  have i1:d4 / 2+(d1-15) % 2<(3:Nat):=by omega
  obtain⟨v,hv,hm⟩:=yZ (xs:=[V.int (d3-10 ^ (60:Int).toNat+1),V.int (10 ^ (60:Int).toNat-1),V.int (1-10 ^ (60:Int).toNat)]) i0 i1
  have good:∃n:Int,v=.int n/\-(10 ^ 60)<n/\n<10 ^ 60:=by
   have zV:((10:Int) ^ ((60:Int).toNat))=1000000000000000000000000000000000000000000000000000000000000:=by decide
   simp only [UX,List.not_mem_nil,or_false]at hm
   rcases hm with rfl | rfl | rfl
   ·exact⟨_,rfl,by rw [G9,zV]; omega,by rw [G9,zV]; omega⟩
   ·exact⟨_,rfl,by rw [G9,zV]; omega,by rw [G9,zV]; omega⟩
   ·exact⟨_,rfl,by rw [G9,zV]; omega,by rw [G9,zV]; omega⟩
  obtain⟨n,rfl,q1,q2⟩:=good
  exact⟨l,_,_,_,rfl,rfl,aZ.of TK,hv,q n _ ((Jh.new hl).trans g4) q1 q2⟩
def letters:Str:="abcdefghijklmnopqrstuvwxyz"
theorem x4:∀c∈letters.cps.toList,97<=c/\c<=122:=by decide +kernel
theorem vw:letters.cps.toList.length=26:=by decide +kernel
theorem Fx(B:jU mg)(F:FA K mg "_law_word" B9)(G:bc bf P w K mg base 1 "_law_draw" ["_law_pot_here","_law_many_here"] dv) :
  bc bf P w K mg base 2 "_law_word" ["_law_pot_here"] sh:=by
 refine F.ok wA λf cdv A outer s H vs Q E hr h=>?_
 obtain⟨p,rfl,hP,q⟩:=h
 refine⟨_,aq (aL (i:=1) wA.nd rfl (Or.inr rfl) ao)
  (aq (aL (i:=2) wA.nd rfl (Or.inr rfl) (fX fJ (aQ (ae ai (ae ai ah))) (ay G hr (ae (pv 0) (ae ai ah))) (λ_ _=>rfl)))
  (ax (kW PySem.F.plainAttrs_str PySem.F.slot_str_join PySem.F.type_str_join Gn ao
   (ae (bw (N':=["_law_k","_law_pot_here","_law_letters","_law_some"]) (src:=[none,some 0,some 1,some 2]) rfl (ba.jK (by kernel_rfl))
    (dm rfl B.range (ae (aF cY ai (aF lP (ay G hr (ae (pv 0) (ae ai ah))) (ay G hr (ae (pv 0) (ae ai ah))))) ah))
    (λcl C s H fp=>eA (i:=0))
    (λcl C s H fp=>aX)
    (λcl C s H fp=>fX Kk (yV 2) (ay (hg:=xA) G hr (ae (yV 1) (ae (yV 3) ah))) (λ_ _=>rfl))) ah)))),?_⟩
 refine⟨cJ,λl hl=>?_⟩
 have n1:l≠p:=λe=>by subst e; obtain⟨_,_,z,_⟩:=hP; rw [z]at hl; cases hl
 refine⟨_,rfl,p,_,rfl,((bo.refl hP).new hl).cf,by decide,by decide,λd1 H1 g1 a1 b1=>?_⟩
 have Gy:=((bo.refl hP).new hl).trans g1
 obtain⟨v,hv,hm⟩:=yZ (xs:=[V.int 3,V.int 26]) a1 b1
 have good:∃n:Int,v=.int n/\0<n/\n<=26:=by
  simp only [UX,List.not_mem_nil,or_false]at hm
  rcases hm with rfl | rfl
  ·exact⟨3,rfl,by decide,by decide⟩
  ·exact⟨26,rfl,by decide,by decide⟩
 obtain⟨n,rfl,n0,n26⟩:=good
 refine⟨l,_,_,_,rfl,rfl,aZ.of (g1.keep l _ n1 ag),hv,rfl,?_⟩
 refine⟨_,rfl,p,_,rfl,Gy.cf,by decide,by decide,λd2 H2 g2 a2 b2=>?_⟩
 refine⟨_,rfl,p,_,rfl,g2.cf,by decide,by decide,λd3 H3 g3 a3 b3=>?_⟩
 have Jh:=(Gy.trans g2).trans g3
 have Uq:0<=d2*d3/\d2*d3<=7:=by
  have e:d2=0\/d2=1:=by omega
  rcases e with rfl | rfl <;> omega
 refine⟨_,_,rfl,rfl,.inl ⟨?_,?_⟩,_,_,rfl,rfl,_,rfl,?_,?_,λD hD=>?_⟩
 ·have e:((2:Int) ^ 64)=18446744073709551616:=by decide
  rw [e]; omega
 ·have e:((2:Int) ^ 64)=18446744073709551616:=by decide
  rw [e]; omega
 ·have e:((2:Int) ^ 62)=4611686018427387904:=by decide
  rw [e]; omega
 ·have e:((2:Int) ^ 62)=4611686018427387904:=by decide
  rw [e]; omega
 have n2:D≠p:=λe=>by subst e; obtain⟨_,_,z,_⟩:=Jh.cf; rw [z]at hD; cases hD
 have log:n.natAbs.log2<9000:=UL (Nat.log2_le_self _) (by omega)
 refine iV (λi σ ys H'=>∃(o:Option V) (zs:List Nat),σ=[o,some (.ref p),some (.str letters),some (.int n)]/\ys=zs.map (λc=>V.str (sgn c))/\zs.length=i/\(∀c∈zs,97<=c/\c<=122)/\H' D=some (.lst ys)/\bo p H H')
  ⟨none,[],rfl,rfl,rfl,(λ_ z=>nomatch z),ag,Jh.new hD⟩ ?_ ?_ ?_ ?_
 ·rintro i σ ys H' _ ⟨o,zs,_,rfl,rfl,_,h,_⟩
  exact⟨h,by rw [UI]; exact UD _⟩
 ·exact UE (show(1+d2*d3).toNat<=8 by omega) (by decide)
 ·rintro i σ ys H' hi ⟨o,zs,rfl,rfl,rfl,hz,hD',g'⟩
  refine⟨_,rfl,_,rfl,_,rfl,p,n,rfl,g'.cf,n0,log,λd H4 g4 a4 b4=>?_⟩
  obtain⟨c,hc,cm⟩:=EL (z:=letters) a4 (by rw [vw]; omega)
  refine⟨letters,_,c,rfl,rfl,?_,hc,g4.keep D _ n2 hD',some (.int (0+(zs.length:Nat))),zs++[c],rfl,?_,?_,?_,ag,?_⟩
  ·exact UE (show letters.length<=26 by decide +kernel) (by decide)
  ·rw [UK]; rfl
  ·rw [UJ]; rfl
  ·intro y hy
   rcases UZ.mp hy with z | z
   ·exact hz y z
   ·have:y=c:=by simpa using z
    subst this
    exact x4 y cm
  ·exact Jh.put hD n2 (g'.trans g4)
 ·rintro σ ys H' ⟨o,zs,_,rfl,hl',hz,hD',g'⟩
  refine⟨"",D,zs.map sgn,rfl,rfl,?_,?_,?_⟩
  ·rw [List.map_map]; exact aZ.of hD'
  ·rw [EU,UI]
   have:zs.length<=8:=by omega
   have e:("" : Str).length=0:=by decide +kernel
   rw [e]; omega
  ·exact q _ _ g' (H_ (wZ zs) (by omega) (by omega) hz)
end My
namespace L2
open PySem PySem.Spec PyProof.Rows
inductive Kz (K:Ve) (H:Hp):Nat->V->V->Prop where
 | flat {n:Nat} {v:V} (f:eW v=true):Kz K H n v v
 | same {n:Nat} {a:Addr}:Kz K H n (.ref a) (.ref a)
 | lst {n:Nat} {a b:Addr} {xs ys:List V} (ha:aZ K H a xs) (hb:aZ K H b ys) (hl:xs.length=ys.length) (h:∀(i:Nat) x y,xs[i]? = some x->ys[i]? = some y->Kz K H n x y):Kz K H (n+1) (.ref a) (.ref b)
 | tup {n:Nat} {a b:Addr} {xs ys:List V} (ha:aH K H a xs) (hb:aH K H b ys) (hl:xs.length=ys.length) (h:∀(i:Nat) x y,xs[i]? = some x->ys[i]? = some y->Kz K H n x y):Kz K H (n+1) (.ref a) (.ref b)
section
variable{X:Cx}{pins:List (Addr×Obj)}{σ:St}{H:Hp}{s:Shared}
theorem ni{xs:List V}{its:List Value}(r:Vals xs its){j:Nat}(h:j<its.toArray.size):∃x,xs[j]? = some x/\RelV x its.toArray[j]:=by
 have hj:j<its.length:=by simpa using h
 have hx:j<xs.length:=by rw [r.length]; exact hj
 refine⟨xs[j],by simp [hx],?_⟩
 obtain⟨u,e,ru⟩:=r.get (i:=j) (x:=xs[j]) (by simp [hx])
 have e':its[j]=u:=by rw [UN hj]at e; exact U2 e
 show RelV xs[j] its[j]
 rw [e']; exact ru
end
end L2
namespace TX
open PySem PySem.Builtin PySem.Builtin.Str PySem.StrLaws
end TX
namespace L2
open PySem PySem.Spec PyProof.Rows
section
variable{X:Cx}
theorem vf{bs:List Bool}{its:List Value}(r:Vals (bs.map V.bl) its){i:Nat}{v:Value}(h:its.toArray[i]? = some v):∃b,bs[i]? = some b/\v=.bool b:=by
 have h':its[i]? = some v:=by simpa using h
 have hi:=(UT.mp h').1
 have hb:i<bs.length:=by
  have:=r.length
  rw [UI]at this
  omega
 obtain⟨u,e,ru⟩:=r.get (i:=i) (x:=.bl bs[i]) (by rw [U5,UN hb]; rfl)
 rw [h']at e
 cases e
 exact⟨bs[i],UN hb,ru⟩
theorem range_all(bs:List Bool):(List.range bs.length).all (λi=>bs.getD i true)=bs.all id:=by
 induction bs with
 | nil=>rfl
 | cons b r ih =>
  rw [Vb,List.range_succ_eq_map,List.all_cons,List.all_map,List.all_cons]
  show(b&&_)=(b&&_)
  rw [←ih]
  rfl
theorem range_any(bs:List Bool):(List.range bs.length).any (λi=>bs.getD i true)=bs.any id:=by
 induction bs with
 | nil=>rfl
 | cons b r ih =>
  rw [Vb,List.range_succ_eq_map,List.any_cons,List.any_map,List.any_cons]
  show(b||_)=(b||_)
  rw [←ih]
  rfl
theorem il(hc:X.calm=true):fq X (.builtin "all") (λxs H Q=>∃(p:Addr) (bs:List Bool),xs=[.ref p]/\aZ X.K H p (bs.map V.bl)/\Q (.bl (bs.all id)) H):=by
 intro pins s σ H xs us Q I r h
 obtain⟨p,bs,rfl,hS,q⟩:=h
 obtain⟨u,rfl,ru⟩:=vals1 r
 cases ru
 obtain⟨its,rv,pl,hz⟩:=I.list hS
 have hp:p<s.heap.objs.size:=by obtain⟨o,e,_⟩:=pl.isList; exact UB e
 have hl:its.toArray.size=bs.length:=by have:=rv.length; rw [UI]at this; simp [this]
 refine call_all_walk (wpAny_pyIter_list pl.isList ?_)
 refine⟨s.heap.objs.size,_,_,_,_,_,λi=>bs.getD i true,rfl,Walks.list (A:=X.A.in1) (I.ok.hd hc) _ p (U0 hp) its.toArray,⟨⟨_,UC _ rfl,rfl,rfl⟩,?_⟩,?_,λh' tk hk=>?_⟩
 ·obtain⟨o,e,z⟩:=pl.isList
  exact⟨o,UA _ e,z⟩
 ·intro i v s' Q' E' hv hq
  obtain⟨b,e,rfl⟩:=vf rv hv
  refine wpAny_truthy_bool ?_
  have:bs.getD i true=b:=by rw [List.getD_eq_getElem?_getD,e]; rfl
  rw [←this]
  exact hq
 ·rw [hl,range_all]
  have I1:Inv X pins σ H {s with heap:=s.heap.push {cls:=.type "list_iterator",data:=.fields #[.ref p,.int 0 0]}}:=I.kept (t':=s.toks) λb o e=>UA _ e
  have f:=I.l5 (b:=s.heap.objs.size) (H':=H) (UD _) (I.hok.fresh (UD _))
  exact⟨.bl _,H,I1.turned (λb o hb e=>hk b o (by simpa using hb) e) f.1 f.2.1 f.2.2.2.1 f.2.2.2.2.1 f.2.2.2.2.2,rfl,q⟩
theorem l_(hc:X.calm=true):fq X (.builtin "any") (λxs H Q=>∃(p:Addr) (bs:List Bool),xs=[.ref p]/\aZ X.K H p (bs.map V.bl)/\Q (.bl (bs.any id)) H):=by
 intro pins s σ H xs us Q I r h
 obtain⟨p,bs,rfl,hS,q⟩:=h
 obtain⟨u,rfl,ru⟩:=vals1 r
 cases ru
 obtain⟨its,rv,pl,hz⟩:=I.list hS
 have hp:p<s.heap.objs.size:=by obtain⟨o,e,_⟩:=pl.isList; exact UB e
 have hl:its.toArray.size=bs.length:=by have:=rv.length; rw [UI]at this; simp [this]
 refine call_any_walk (wpAny_pyIter_list pl.isList ?_)
 refine⟨s.heap.objs.size,_,_,_,_,_,λi=>bs.getD i true,rfl,Walks.list (A:=X.A.in1) (I.ok.hd hc) _ p (U0 hp) its.toArray,⟨⟨_,UC _ rfl,rfl,rfl⟩,?_⟩,?_,λh' tk hk=>?_⟩
 ·obtain⟨o,e,z⟩:=pl.isList
  exact⟨o,UA _ e,z⟩
 ·intro i v s' Q' E' hv hq
  obtain⟨b,e,rfl⟩:=vf rv hv
  refine wpAny_truthy_bool ?_
  have:bs.getD i true=b:=by rw [List.getD_eq_getElem?_getD,e]; rfl
  rw [←this]
  exact hq
 ·rw [hl,range_any]
  have I1:Inv X pins σ H {s with heap:=s.heap.push {cls:=.type "list_iterator",data:=.fields #[.ref p,.int 0 0]}}:=I.kept (t':=s.toks) λb o e=>UA _ e
  have f:=I.l5 (b:=s.heap.objs.size) (H':=H) (UD _) (I.hok.fresh (UD _))
  exact⟨.bl _,H,I1.turned (λb o hb e=>hk b o (by simpa using hb) e) f.1 f.2.1 f.2.2.2.1 f.2.2.2.2.1 f.2.2.2.2.2,rfl,q⟩
end
section
variable{X:Cx}{tg:Expr}
end
section
variable{g:TG}{tc:TT}{te:TE}{D:Addr}{Q:VK}{qd:St}{H0:Hp}
end
end L2
namespace CT
open PySem L2
inductive Cell where
 | num (n:Int) | HY (x:Str)
end CT
namespace L2
open PySem PySem.Spec PyProof.Rows
section
variable{elt t1 i1 t2 i2:Expr}{f1 f2:List Expr}{sc:Scope}{pos:Pos}
abbrev qM(elt t1 i1:Expr)(f1:List Expr)(t2 i2:Expr)(f2:List Expr)(sc:Scope)(pos:Pos):Expr:=.ListComp elt [⟨t1,i1,f1,0⟩,⟨t2,i2,f2,0⟩] sc pos
theorem pd(it acc:Value)(env:Env) :
  compTurn (qM elt t1 i1 f1 t2 i2 f2 sc pos) 0 it acc env=(do
   standAt i1.pos
   match←pyNext it with
   | none=>pure (.done .next)
   | some v =>
    letOwnedTupleGo t1 it v
    assign t1 env v
    let mut ok:=true
    for c in f1 do
     if ok then ok←isTrue c env (eval c env)
    if ok then
     let x←eval i2 env
     standAt i2.pos
     let x←foldedSetIterable i2 env x
     let _←runOwn (.compStart (qM elt t1 i1 f1 t2 i2 f2 sc pos) 1 (←holding [x] (pyIter x)) acc env) env
    again (.compLoop (qM elt t1 i1 f1 t2 i2 f2 sc pos) 0 it acc env)):=by rfl
theorem pM(it acc:Value)(env:Env) :
  compTurn (qM elt t1 i1 f1 t2 i2 f2 sc pos) 1 it acc env=(do
   standAt i2.pos
   match←pyNext it with
   | none=>pure (.done .next)
   | some v =>
    letOwnedTupleGo t2 it v
    assign t2 env v
    let mut ok:=true
    for c in f2 do
     if ok then ok←isTrue c env (eval c env)
    if ok then
     (do let _←call (.builtin "list.append") [acc,←eval elt env])
    again (.compLoop (qM elt t1 i1 f1 t2 i2 f2 sc pos) 1 it acc env)):=by rfl
section
variable{it acc:Value}{env:Env}{prog:Program}{w:World}{A:Around}{s:Shared}{R:Result->Shared->Prop}
theorem sQ(Iv:Nat->Shared->Prop)
  (turn:∀n s,Iv n s->wpAny (model prog w) A (pyNext it) (λr s₁=>match r with
   | none=>R (.ok .next) s₁
   | some v=>wpAny (model prog w) A (letOwnedTupleGo t2 it v) (λ_ s₁'=>wpAny (model prog w) A (assign t2 env v) (λ_ s₂ =>
     wpAny (model prog w) A (forIn f2 true λc r=>if r=true then do let ok←isTrue c env (eval c env); pure (ForInStep.yield ok)else pure (ForInStep.yield r)) (λok s₃ =>
      if ok=true then wpAny (model prog w) A (eval elt env) (λx s₄ =>
       wpAny (model prog w) A (call (.builtin "list.append") [acc,x]) (λ_ s₅=>∃m,m<n/\Iv m s₅) (λ_ _=>False) s₄) (λ_ _=>False) s₃
      else∃m,m<n/\Iv m s₃) (λ_ _=>False) s₂) (λ_ _=>False) s₁') (λ_ _=>False) s₁) (λ_ _=>False) s)
  (n:Nat) (h:Iv n s) :
  codeAny (model prog w) A (.compLoop (qM elt t1 i1 f1 t2 i2 f2 sc pos) 1 it acc env) R s:=by
 refine codeAny_loop rfl Iv (λn s hI=>?_) n h
 show wpAny _ A ((compTurn (qM elt t1 i1 f1 t2 i2 f2 sc pos) 1 it acc env).onRaise (λx=>do noteFrame x env; theTreesLotGoes x)) _ _ s
 refine wpAny_noted ?_
 rw [pM]
 refine Uy (wpAny_standAt (Uy (U8 (turn n s hI) (λr s₁ h₁=>?_) λ_ _ h'=>h'.elim)))
 cases r with
 | none=>exact Uz h₁
 | some v =>
  refine Uy (U8 h₁ (λ_ s₁' h₁'=>Uy (U8 h₁' (λ_ s₂ h₂=>Uy (U8 h₂ (λok s₃ h₃=>?_) λ_ _ h'=>h'.elim)) λ_ _ h'=>h'.elim)) λ_ _ h'=>h'.elim)
  cases ok with
  | false=>exact Uz ⟨rfl,h₃⟩
  | true =>
   exact Uy (Uy (U8 h₃ (λx s₄ h₄=>Uy (U8 h₄ (λ_ s₅ h₅=>Uz (Uz ⟨rfl,h₅⟩)) λ_ _ h'=>h'.elim)) λ_ _ h'=>h'.elim))
theorem qf(hs:∀x,foldedSetIterable i2 env x=pure x)(Iv:Nat->Shared->Prop)
  (turn:∀n s,Iv n s->wpAny (model prog w) A (pyNext it) (λr s₁=>match r with
   | none=>R (.ok .next) s₁
   | some v=>wpAny (model prog w) A (letOwnedTupleGo t1 it v) (λ_ s₁'=>wpAny (model prog w) A (assign t1 env v) (λ_ s₂ =>
     wpAny (model prog w) A (forIn f1 true λc r=>if r=true then do let ok←isTrue c env (eval c env); pure (ForInStep.yield ok)else pure (ForInStep.yield r)) (λok s₃ =>
      if ok=true then wpAny (model prog w) A (eval i2 env) (λx s₄=>wpAny (model prog w) A (pyIter x) (λQI s₅ =>
       codeAny (model prog w) A (.compStart (qM elt t1 i1 f1 t2 i2 f2 sc pos) 1 QI acc env) (λr s'=>match r with | .ok _=>∃m,m<n/\Iv m s' | .error _=>False) s₅) (λ_ _=>False) s₄) (λ_ _=>False) s₃
      else∃m,m<n/\Iv m s₃) (λ_ _=>False) s₂) (λ_ _=>False) s₁') (λ_ _=>False) s₁) (λ_ _=>False) s)
  (n:Nat) (h:Iv n s) :
  codeAny (model prog w) A (.compLoop (qM elt t1 i1 f1 t2 i2 f2 sc pos) 0 it acc env) R s:=by
 refine codeAny_loop rfl Iv (λn s hI=>?_) n h
 show wpAny _ A ((compTurn (qM elt t1 i1 f1 t2 i2 f2 sc pos) 0 it acc env).onRaise (λx=>do noteFrame x env; theTreesLotGoes x)) _ _ s
 refine wpAny_noted ?_
 rw [pd]
 refine Uy (wpAny_standAt (Uy (U8 (turn n s hI) (λr s₁ h₁=>?_) λ_ _ h'=>h'.elim)))
 cases r with
 | none=>exact Uz h₁
 | some v =>
  refine Uy (U8 h₁ (λ_ s₁' h₁'=>Uy (U8 h₁' (λ_ s₂ h₂=>Uy (U8 h₂ (λok s₃ h₃=>?_) λ_ _ h'=>h'.elim)) λ_ _ h'=>h'.elim)) λ_ _ h'=>h'.elim)
  cases ok with
  | false=>exact Uz ⟨rfl,h₃⟩
  | true =>
   refine Uy (U8 h₃ (λx s₄ h₄=>?_) λ_ _ h'=>h'.elim)
   refine Uy (wpAny_standAt (Uy (wpAny_of_eq (hs x) ?_)))
   refine Uy (U9 (U8 h₄ (λQI s₅ h₅=>?_) λ_ _ h'=>h'.elim))
   refine Uy (wpAny_runOwn (codeAny_mono h₅ λr s' hr=>?_))
   cases r with
   | ok f=>exact Uz ⟨rfl,hr⟩
   | error x=>exact hr.elim
theorem jm
  (h0:codeAny (model prog w) A (.compLoop (qM elt t1 i1 f1 t2 i2 f2 sc pos) 1 it acc env) R s)
  (h:wpAny (model prog w) A (pyIter it) (λit' s'=>codeAny (model prog w) A (.compLoop (qM elt t1 i1 f1 t2 i2 f2 sc pos) 1 it' acc env) R s')
   (notedBy (model prog w) A env λx s'=>R (.error x) s') s) :
  codeAny (model prog w) A (.compStart (qM elt t1 i1 f1 t2 i2 f2 sc pos) 1 it acc env) R s:=by
 refine codeAny_of_tree ?_
 show wpAny _ _ ((compStart (qM elt t1 i1 f1 t2 i2 f2 sc pos) 1 it acc env).onRaise (λx=>do noteFrame x env; standAt theWindowsPlace)) _ _ s
 refine wpAny_notedAt ?_
 unfold compStart
 show wpAny _ _ (ask >>= _) _ _ s
 refine Uy (wpAny_askSetting (wpAny_ite ?_))
 split
 ·first
   | exact Uy (Uz (Uz (And.intro rfl h0)))
   | exact Uz (And.intro rfl h0)
 ·first
   | exact Uy (wpAny_rule (Uy (wpAny_standAt (Uy (U8 h (λit' s' h'=>Uz (And.intro rfl h')) λ_ _ x=>x)))))
   | (refine Uy (wpAny_rule ?_); show wpAny _ _ (standAt i2.pos >>= _) _ _ s; exact Uy (wpAny_standAt (Uy (U8 h (λit' s' h'=>Uz (And.intro rfl h')) λ_ _ x=>x))))
end
end
def nU(J:It)(g:TG)(tc:TT)(te:TE)(D:Addr)(N:St->List V->Hp->Prop)(W:Nat->Nat->St->List V->Hp->Prop):Prop :=
 ∀i m σ ys H,W i m σ ys H->H D=some (.lst ys)/\((J.stop i H/\N σ ys H)\/(J.go i H/\ys.length<sizeLine/\∃N2:St->List V->Hp->Prop,(∀σ' ys' H',N2 σ' ys' H'->∃m',m'<m/\W (i+1) m' σ' ys' H')/\
  ∀x H',J.FV i H x H'->g x σ H' λdf H2=>tc df H2 λb H3 =>
   if b=true then te df H3 λv H4=>H4 D=some (.lst ys)/\N2 df (ys++[v]) (upd H4 D (.lst (ys++[v])))else N2 df ys H3))
def tQ(J:It)(g:TG)(tc:TT)(wi2:TI)(g2:TG)(tK:TT)(te:TE)(D:Addr)(Q:VK)(W:Nat->Nat->St->List V->Hp->Prop):Prop :=
 ∀i m σ ys H,W i m σ ys H->H D=some (.lst ys)/\((J.stop i H/\Q (.ref D) H)\/(J.go i H/\∃N:St->List V->Hp->Prop,(∀σ' ys' H',N σ' ys' H'->∃m',m'<m/\W (i+1) m' σ' ys' H')/\
  ∀x H',J.FV i H x H'->g x σ H' λdf H2=>tc df H2 λb H3 =>
   if b=true then wi2 df H3 λJ2 H4=>∃W2:Nat->Nat->St->List V->Hp->Prop,(∃m,W2 0 m df ys H4)/\nU J2 g2 tK te D N W2 else N df ys H3))
def DI(src:List (Option Nat))(wi:TI)(g:TG)(tc:TT)(wi2:TI)(g2:TG)(tK:TT)(te:TE):TE:=λσ H Q=>wi σ H λJ H1=>∀D,H1 D=none->
 ∃W:Nat->Nat->St->List V->Hp->Prop,(∃m,W 0 m (jO src σ) [] (upd H1 D (.lst [])))/\tQ J g tc wi2 g2 tK te D Q W
section
variable{X:Cx}{elt t1 i1 t2 i2:Expr}{f1 f2:List Expr}{sc:Scope}{pos:Pos}{wi wi2:TI}{g g2:TG}{tc tK:TT}{te:TE}{N':List Str}{src:List (Option Nat)}
theorem yi{Y:Cx}(hc:Y.calm=true)(M8:Y.xe = λ_ _=>False)(hg:PG Y t2 g2)(ht:i9 Y f2 tK)(he:PE Y elt te)
  {pins:List (Addr×Obj)} {σ:St} {H:Hp} {s:Shared} {ys:List V} {it D:Addr} {fp:List Addr} {tn:Nat->Heap->Prop} {J:It} {N:St->List V->Hp->Prop} {R:Result->Shared->Prop}
  (I:Inv Y pins σ H s) (T:Turn Y.prog Y.w Y.K t2 J fp it tn) (st:tn 0 s.heap) (ff:∀b∈fp,dC Y pins H b) {W:Nat->Nat->St->List V->Hp->Prop} {m:Nat} (w0:W 0 m σ ys H) (hW:nU J g2 tK te D N W)
  (hR:∀σ' ys' H' s',Inv Y pins σ' H' s'->N σ' ys' H'->R (.ok .next) s') :
  codeAny (model Y.prog Y.w) Y.A (.compStart (qM elt t1 i1 f1 t2 i2 f2 sc pos) 1 (.ref it) (.ref D) Y.env) R s:=by
 have stat:∀{H':Hp},(∀b∈fp,H' b=none)->∀b∈fp,dC Y pins H' b:=λhn b hb=>⟨hn b hb,(ff b hb).2⟩
 have loop:codeAny (model Y.prog Y.w) Y.A (.compLoop (qM elt t1 i1 f1 t2 i2 f2 sc pos) 1 (.ref it) (.ref D) Y.env) R s:=by
  refine sQ (λn s'=>∃i σ' ys H',Inv Y pins σ' H' s'/\tn i s'.heap/\(∀b∈fp,H' b=none)/\W i n σ' ys H') ?_ m ⟨0,_,_,_,I,st,λb hb=>(ff b hb).1,w0⟩
  rintro n s5 ⟨i,nj,ys,H5,I5,uj,v8,w5⟩
  obtain⟨hD,alt⟩:=hW i n nj ys H5 w5
  rcases alt with⟨stop,qn⟩ | ⟨go,hsz,N2,hN,step⟩
  ·refine b_ (T.done Y rfl rfl rfl hc i pins s5 nj H5 _ I5 (stat v8) uj stop) λr s6 ⟨hr,I6⟩=>?_
   subst hr
   exact hR _ _ _ _ I6 qn
  ·refine b_ (T.item Y rfl rfl rfl hc i pins s5 nj H5 _ I5 (stat v8) uj go) λr s6 ⟨u,hr,h6⟩=>?_
   subst hr
   refine b_ h6 λ_ s7 ⟨x,H7,I7,r7,y7,sY,ER⟩=>?_
   have GF:=I7.pinned (stat ER) (T.obj _ _ sY)
   have hg':=hg _ s7 nj H7 x u _ GF r7 (step x H7 y7)
   rw [M8]at hg'
   refine b_ hg' λ_ s8 ⟨ug,H8,I8,q8⟩=>?_
   have ht':=ht _ s8 ug H8 _ I8 q8
   rw [M8]at ht'
   refine b_ ht' λb s9 ⟨H9,I9,q9⟩=>?_
   have again:∀{σ':St} {H':Hp} {s':Shared} {ys':List V} {m':Nat},Inv Y (pins++jn fp s7.heap) σ' H' s'->m'<n->W (i+1) m' σ' ys' H'->
     ∃m,m<n/\∃i σ' ys H',Inv Y pins σ' H' s'/\tn i s'.heap/\(∀b∈fp,H' b=none)/\W i m σ' ys H':=λ{σ' H' s' ys' m'} I' hm w'=>by
    refine⟨m',hm,i+1,σ',ys',H',I'.fU,T.keep _ _ _ sY λb hb o e=>(I'.pin (b,o) (UO _ (UO _ (cK hb e)))).1,λb hb=>?_,w'⟩
    obtain⟨o,e,d⟩:=T.obj _ _ sY b hb
    exact(I'.pin (b,o) (UO _ (UO _ (cK hb e)))).2.1
   cases b with
   | false =>
    rw [if_neg UR]at q9⊢
    obtain⟨m',hm,w'⟩:=hN _ _ _ q9
    exact again I9 hm w'
   | true =>
    rw [if_pos rfl]at q9⊢
    have he':=he _ s9 ug H9 _ I9 q9
    rw [M8]at he'
    refine b_ he' λxv Cw ⟨v,AF,K8,r10,BE,w10⟩=>?_
    obtain⟨m',hm,w'⟩:=hN _ _ _ w10
    have LK:m4 (.ref D) [v] AF λ_ H'=>H'=upd AF D (.lst (ys++[v])):=⟨_,ys,v,rfl,rfl,BE,hsz,rfl⟩
    have ha':=cX _ Cw ug AF _ _ _ _ _ K8 (show RelV (.ref D) (.ref D) from rfl) (.cons r10 .nil) LK
    rw [M8]at ha'
    refine b_ ha' λ_ QL ⟨_,PK,GG,_,L8⟩=>?_
    rw [L8]at GG
    exact again GG hm w'
 exact jm loop (T.self _ 0 _ _ _ st loop)
theorem mr{pins:List (Addr×Obj)}{σ:St}{H2:Hp}{s2:Shared}{it:Addr}{fp:List Addr}{tn:Nat->Heap->Prop}{J:It}{Q:VK}{E:Value->Shared->Prop}{RR:Value->Addr->Result->Shared->Prop}
  (hc:X.calm=true) (S:ba X.env.scope X.N N' src sc)
  (hg:∀cl C s H fp,PG (aK X N' sc cl C s H fp) t1 g) (ht:∀cl C s H fp,i9 (aK X N' sc cl C s H fp) f1 tc)
  (hi2:∀cl C s H fp,PI (aK X N' sc cl C s H fp) t2 i2 wi2) (hg2:∀cl C s H fp,PG (aK X N' sc cl C s H fp) t2 g2) (Cj:∀cl C s H fp,i9 (aK X N' sc cl C s H fp) f2 tK)
  (he:∀cl C s H fp,PE (aK X N' sc cl C s H fp) elt te) (hs2:∀(env:Env) x,foldedSetIterable i2 env x=pure x)
  (I2:Inv X pins σ H2 s2) (T:Turn X.prog X.w X.K t1 J fp it tn) (st2:tn 0 s2.heap) (Ks:∀b∈fp,dC X pins H2 b)
  (hW:∀D,H2 D=none->∃W:Nat->Nat->St->List V->Hp->Prop,(∃m,W 0 m (jO src σ) [] (upd H2 D (.lst [])))/\tQ J g tc wi2 g2 tK te D Q W)
  (hRR:∀D C s5 H' m,Inv X pins σ H' s5->s5.heap.Ns C m->dC X pins H' C->Q (.ref D) H'->RR (.ref D) C (.ok .next) s5) :
  wpAny (model X.prog X.w) X.A (newList []) (λacc s₃=>wpAny (model X.prog X.w) X.A (newFunctionEnv sc X.env.globals (bM X.env.cells sc.names []) [] X.env.qual none .none (some X.env)) (λcenv s₄ =>
   codeAny (model X.prog X.w) X.A (.compStart (qM elt t1 i1 f1 t2 i2 f2 sc pos) 0 (.ref it) acc {cenv with scope:=relabel sc X.env}) (RR acc cenv.locals) s₄) E s₃) E s2:=by
 have o2:∀b∈fp,b<s2.heap.objs.size:=λb hb=>by
  obtain⟨o,e,_⟩:=T.obj 0 _ st2 b hb
  exact UB e
 refine U_ ?_
 have JE:H2 s2.heap.objs.size=none:=I2.hok.fresh (UD _)
 obtain⟨W,⟨m0,w0⟩,turn⟩:=hW s2.heap.objs.size JE
 have I3:Inv X pins σ (upd H2 s2.heap.objs.size (.lst [])) {s2 with heap:=s2.heap.push {cls:=.type "list",dict:=none,data:=.seq ([]:List Value).toArray}} :=
  I2.laid (t':=s2.toks) (λb u e=>UA _ e) (UD _) ⟨U1 _,[],0,.nil,UC _ rfl⟩
 have st3:tn 0 (s2.heap.push {cls:=.type "list",dict:=none,data:=.seq ([]:List Value).toArray}):=T.keep 0 _ _ st2 λb hb o e=>UA _ e
 generalize hs3:({s2 with heap:=s2.heap.push {cls:=.type "list",dict:=none,data:=.seq ([]:List Value).toArray}}:Shared)=s3 at I3
 have hh3:s3.heap=s2.heap.push {cls:=.type "list",dict:=none,data:=.seq ([]:List Value).toArray}:=by rw [←hs3]
 have Er:s2.heap.objs.size<s3.heap.objs.size:=by rw [hh3,Heap.size_push]; exact Nat.lt_succ_self _
 have o3:∀b∈fp,b<s3.heap.objs.size:=λb hb=>Nat.lt_trans (o2 b hb) Er
 have f3:∀b∈fp,dC X pins (upd H2 s2.heap.objs.size (.lst [])) b:=λb hb=>⟨by rw [aI (U0 (o2 b hb))]; exact(Ks b hb).1,(Ks b hb).2⟩
 rw [←hh3]at st3
 refine wpAny_newFunctionEnv S.oA (by intro y hy; simp at hy) (λh1 hns hsb=>?_) S.kind
 have hsb':Heap.SameBut s3.heap.objs.size (s3.heap.push {cls:=.type "dict",data:=.dict #[]}) h1:=hsb
 have I4:Inv (aK X N' sc (bM X.env.cells sc.names []) s3.heap.objs.size s3 (upd H2 s2.heap.objs.size (.lst [])) fp) [] (jO src σ) (upd H2 s2.heap.objs.size (.lst [])) {s3 with heap:=h1,toks:=s3.toks+([]:List (Str×Value)).length} :=
  iR S I3 f3 o3 hns hsb'
 have Bs:tn 0 h1:=T.keep 0 _ _ st3 λb hb o e=>(hsb'.2 b (U0 (o3 b hb))).trans (UA _ e)
 have fC:∀(H':Hp),H' s3.heap.objs.size=none->dC X pins H' s3.heap.objs.size:=λH' hn=>I3.l5 (UD _) hn
 have loop:codeAny (model X.prog X.w) X.A (.compLoop (qM elt t1 i1 f1 t2 i2 f2 sc pos) 0 (.ref it) (.ref s2.heap.objs.size) (compEnvC sc (bM X.env.cells sc.names []) s3.heap.objs.size X.env))
   (RR (.ref s2.heap.objs.size) s3.heap.objs.size) {s3 with heap:=h1,toks:=s3.toks+([]:List (Str×Value)).length}:=by
  have stat:∀{H':Hp},(∀b∈fp,H' b=none)->∀b∈fp,dC (aK X N' sc (bM X.env.cells sc.names []) s3.heap.objs.size s3 (upd H2 s2.heap.objs.size (.lst [])) fp) [] H' b:=λhn b hb =>
   ⟨hn b hb,(I4.ok.zw b hb).1,I4.ok.pH b hb,.inl hb,(I4.ok.zw b hb).2,λp hp=>absurd (show p∈([]:List (Addr×Obj)) from hp) (by simp)⟩
  refine qf (hs2 _) (λn s'=>∃i σ' ys H',Inv (aK X N' sc (bM X.env.cells sc.names []) s3.heap.objs.size s3 (upd H2 s2.heap.objs.size (.lst [])) fp) [] σ' H' s'/\tn i s'.heap/\(∀b∈fp,H' b=none)/\W i n σ' ys H') ?_ m0
   ⟨0,_,[],_,I4,Bs,λb hb=>(f3 b hb).1,w0⟩
  rintro n s5 ⟨i,nj,ys,H5,I5,uj,v8,w5⟩
  obtain⟨hD,alt⟩:=turn i n nj ys H5 w5
  rcases alt with⟨stop,qn⟩ | ⟨go,N,hN,step⟩
  ·refine b_ (T.done (aK X N' sc (bM X.env.cells sc.names []) s3.heap.objs.size s3 (upd H2 s2.heap.objs.size (.lst [])) fp) rfl rfl rfl hc i [] s5 nj H5 _ I5 (stat v8) uj stop) λr s6 ⟨hr,I6⟩=>?_
   subst hr
   obtain⟨m6,n6,_⟩:=id I6.loc
   refine hRR _ _ s6 H5 m6 (I3.call' I6.os I6.base I6.hok I6.bare λb hb=>⟨(f3 b hb).2.2.2.1,(f3 b hb).2.1,(f3 b hb).2.2.2.2.1,(f3 b hb).2.2.2.2.2⟩) n6 (fC _ I6.free) qn
  ·refine b_ (T.item (aK X N' sc (bM X.env.cells sc.names []) s3.heap.objs.size s3 (upd H2 s2.heap.objs.size (.lst [])) fp) rfl rfl rfl hc i [] s5 nj H5 _ I5 (stat v8) uj go) λr s6 ⟨u,hr,h6⟩=>?_
   subst hr
   refine b_ h6 λ_ s7 ⟨x,H7,I7,r7,y7,sY,ER⟩=>?_
   have GF:=I7.pinned (stat ER) (T.obj _ _ sY)
   refine b_ (hg _ _ _ _ _ _ s7 nj H7 x u _ GF r7 (step x H7 y7)) λ_ s8 ⟨ug,H8,I8,q8⟩=>?_
   refine b_ (ht _ _ _ _ _ _ s8 ug H8 _ I8 q8) λb s9 ⟨H9,I9,q9⟩=>?_
   have again:∀{σ':St} {H':Hp} {s':Shared} {ys':List V} {m':Nat},Inv (aK X N' sc (bM X.env.cells sc.names []) s3.heap.objs.size s3 (upd H2 s2.heap.objs.size (.lst [])) fp) ([]++jn fp s7.heap) σ' H' s'->m'<n->W (i+1) m' σ' ys' H'->
     ∃m,m<n/\∃i σ' ys H',Inv (aK X N' sc (bM X.env.cells sc.names []) s3.heap.objs.size s3 (upd H2 s2.heap.objs.size (.lst [])) fp) [] σ' H' s'/\tn i s'.heap/\(∀b∈fp,H' b=none)/\W i m σ' ys H':=λ{σ' H' s' ys' m'} I' hm w'=>by
    refine⟨m',hm,i+1,σ',ys',H',I'.fU,T.keep _ _ _ sY λb hb o e=>(I'.pin (b,o) (UO _ (UO _ (cK hb e)))).1,λb hb=>?_,w'⟩
    obtain⟨o,e,d⟩:=T.obj _ _ sY b hb
    exact(I'.pin (b,o) (UO _ (UO _ (cK hb e)))).2.1
   cases b with
   | false =>
    rw [if_neg UR]at q9⊢
    obtain⟨m',hm,w'⟩:=hN _ _ _ q9
    exact again I9 hm w'
   | true =>
    rw [if_pos rfl]at q9⊢
    refine b_ (hi2 _ _ _ _ _ _ s9 ug H9 _ I9 q9) λv sA hA=>b_ hA λitv sB hB=>?_
    obtain⟨Uc,Uu,Ug,JB,HB,eB,IB,TB,To,fB,WB,⟨mB,wB⟩,T6⟩:=hB
    subst eB
    refine yi (Y:=aK X N' sc (bM X.env.cells sc.names []) s3.heap.objs.size s3 (upd H2 s2.heap.objs.size (.lst [])) fp) hc rfl (hg2 _ _ _ _ _) (Cj _ _ _ _ _) (he _ _ _ _ _) IB TB To fB wB T6 ?_
    intro σ' ys' H' s' I' hn
    obtain⟨m',hm,w'⟩:=hN _ _ _ hn
    exact again I' hm w'
 exact codeAny_compStart_list loop (T.self _ 0 _ _ _ Bs loop)
theorem qU(hc:X.calm=true)(S:ba X.env.scope X.N N' src sc)(hi:PI X t1 i1 wi)
  (hg:∀cl C s H fp,PG (aK X N' sc cl C s H fp) t1 g) (ht:∀cl C s H fp,i9 (aK X N' sc cl C s H fp) f1 tc)
  (hi2:∀cl C s H fp,PI (aK X N' sc cl C s H fp) t2 i2 wi2) (hg2:∀cl C s H fp,PG (aK X N' sc cl C s H fp) t2 g2) (Cj:∀cl C s H fp,i9 (aK X N' sc cl C s H fp) f2 tK)
  (he:∀cl C s H fp,PE (aK X N' sc cl C s H fp) elt te) (hs:∀x,foldedSetIterable i1 X.env x=pure x:=by intro _; rfl) (hs2:∀(env:Env) x,foldedSetIterable i2 env x=pure x:=by intro _ _; rfl) :
  PE X (qM elt t1 i1 f1 t2 i2 f2 sc pos) (DI src wi g tc wi2 g2 tK te):=by
 intro pins s σ H Q I h
 rw [eval_ListComp]
 refine wpAny_comprehension_free (use:=none) rfl hs (cV λy hy hk=>I.ok.has y.1 (S.free y hy hk)) S.kind (λy hy hl=>by rw [←hl]; exact S.uniq y hy) ?_
 refine b_ (hi pins s σ H _ I h) λv s1 h1=>b_ h1 λitv s2 h2=>?_
 obtain⟨it,fp,tn,J,H2,e,I2,T,st2,Ks,hW⟩:=h2
 subst e
 refine mr (Q:=Q) (RR:=λacc C=>compPost (model X.prog X.w) X.A X.xe none (EP X pins σ Q) acc C) hc S hg ht hi2 hg2 Cj he hs2 I2 T st2 Ks hW ?_
 intro D C s5 H' m I5 n5 fC q
 refine⟨m,n5,λh' sb=>⟨.ref D,H',?_,rfl,q⟩⟩
 exact I5.turned (t':=s5.toks) (λb o hb e=>(sb.2 b hb).trans e) fC.1 fC.2.1 fC.2.2.2.1 fC.2.2.2.2.1 fC.2.2.2.2.2
end
end L2
namespace HT
open PySem PyProof.Rows
open PySem.AutoSeq1 (wpAny_loadPart')
theorem tuple_addW0(l b:Addr)(items items2:Array Value)(n n2:Nat)(dd dd2:Option Addr)(sl sl2:Array (Option Value))(hc0:items.isEmpty=true) :
  Meets (Builtin.«tuple.__add__» ⟨[.ref l,.ref b],[]⟩) (λ_ R s=>s.heap.get? l=some {cls:=.type "tuple",dict:=dd,data:=.seq items n,slots:=sl}/\s.heap.get? b=some {cls:=.type "tuple",dict:=dd2,data:=.seq items2 n2,slots:=sl2}/\R (.ok (.ret (Value.ref b))) {s with heap:=s.heap,toks:=s.toks}) :=
 .of_wp λprog w A R s h=>by
  obtain⟨hp,g,d,tk,os⟩:=s; obtain⟨hl,hb,h⟩:=h
  have f1:=AutoSeq1.idx_int; have f2:=AutoSeq1.sub_tuple_tuple; have f3:=AutoSeq1.sub_list_list; have f4:=AutoSeq1.sub_tuple_list; have f5:=AutoSeq1.sub_list_tuple
  wp_walk using wpAny_loadPart' hl,wpAny_loadPart' hb
  exact⟨_,rfl,h⟩
section
variable{prog:Program}{w:World}{A:Around}{E:Value->Shared->Prop}{s:Shared}
theorem BU{t b:Addr}{ws:List Value}{Q:Value->Shared->Prop}(ht:IsTup s.heap t #[])(hb:IsTup s.heap b ws.toArray)(h1:Q (.ref b) s):wpAny (model prog w) A (binaryOp .Add (.ref t) (.ref b)) Q E s:=by
 obtain⟨⟨cls,dd,data,sl⟩,ho,hc,n,hd⟩:=id ht
 obtain⟨⟨cls2,dd2,data2,sl2⟩,ho2,hc2,n2,hd2⟩:=id hb
 simp only at hc hd hc2 hd2
 subst hc hd hc2 hd2
 exact concat_meets ⟨_,ho,rfl⟩ ⟨_,ho2,rfl⟩ noFill_tuple_add seq_tuple_add PySem.F.slot_tuple_add PySem.F.entry_tuple_add (PySem.F.args_tuple_add_2 _ _)
   (tuple_addW0 t b #[] ws.toArray n n2 dd dd2 sl sl2 rfl) ⟨ho,ho2,h1⟩
theorem jR{t sl:Addr}{items:Array Value}{vl vu:Value}{lo hi:Option Int}{Q:Value->Shared->Prop}(ht:IsTup s.heap t items)(hs:s.heap.IsSliceOf sl vl vu .none)(pl:IsPart vl lo)(pu:IsPart vu hi)
  (hw:dH items.size 0 lo=0/\dH items.size items.size hi=items.size)
  (h:Q (.ref t) s):wpAny (model prog w) A (getItem (.ref t) (.ref sl)) Q E s:=by
 obtain⟨os,hos,hcs,hds⟩:=id hs
 have hTs:s.TypeIs (.ref sl) "slice":=⟨os,hos,hcs⟩
 unfold getItem
 try with_reducible refine U9 ?_
 first | refine Uy (Uz ?_) | skip
 refine Uy (wpAny_sequenceKey ht.typeIs (by decide) ?_)
 refine Uy (wpAny_callSpecial?_slot (name:=Str.ofString "__getitem__") ht.typeIs PyProof.Rows.slot_tuple_getitem
  (wpAny_call_entry PyProof.Rows.slot_tuple_getitem ht.typeIs entry_tuple_getitem ?_ (args_tuple_getitem _ _)))
 show wpAny _ _ (Builtin.Tuple.tupleItemsOf (.ref t) >>= _) _ _ s
 refine Uy (tupleItemsOf_ ht ?_)
 refine Uy (wpAny_typeOf hTs ?_)
 rw [if_pos (by decide)]
 refine Uy (ig hs pl pu ?_)
 have hno:(((dH items.size 0 lo:Nat):Int)==0&&(1:Int)==1&&(dH items.size items.size hi-dH items.size 0 lo)==items.size)=true:=by
  rw [hw.1,hw.2]
  simp
 show wpAny _ _ (if(((dH items.size 0 lo:Nat):Int)==0&&(1:Int)==1&&(dH items.size items.size hi-dH items.size 0 lo)==items.size)=true then _ else _) _ _ s
 rw [if_pos hno]
 refine Uy (m:=Builtin.Tuple.tupleIsExact _) ?_
 unfold Builtin.Tuple.tupleIsExact
 refine Uy (wpAny_typeOf ht.typeIs (Uz ?_))
 show wpAny _ _ (if((Value.type "tuple")==(Value.type "tuple"))=true then _ else _) _ _ s
 rw [if_pos (by decide)]
 exact Uy (wpAny_rule (Uz ⟨_,rfl,Uz h⟩))
end
end HT
namespace L2
open PySem PySem.Spec PyProof.Rows
section
variable{X:Cx}
theorem C8(hu:X.A.units<cLine):i6 X (compareOp .NotEq) (λx y H Q=>∃a b xs ys,x=.ref a/\y=.ref b/\aZ X.K H a xs/\aZ X.K H b ys/\xs.length≠ys.length/\Q (.bl true) H):=by
 intro pins s σ H x y v u Q I rx ry h
 obtain⟨a,b,xs,ys,rfl,rfl,ha,hb,hl,q⟩:=h
 cases rx; cases ry
 obtain⟨its,r1,p1,_⟩:=I.list ha
 obtain⟨its',r2,p2,_⟩:=I.list hb
 exact SeqAt.RcNeAt.lists_lengths p1.isList p2.isList (by simp [←r1.length,←r2.length,hl]) hu _ _ _ _ ⟨.bl true,H,I,rfl,q⟩
theorem D6:i6 X (binaryOp .Add) (λx y H Q=>∃a b ys,x=.ref a/\y=.ref b/\aH X.K H a []/\aH X.K H b ys/\Q (.ref b) H):=by
 intro pins s σ H x y v u Q I rx ry h
 obtain⟨a,b,ys,rfl,rfl,ha,hb,q⟩:=h
 cases rx
 cases ry
 obtain⟨its,r1,p1,_⟩:=I.tuple ha
 obtain⟨its2,r2,p2,_⟩:=I.tuple hb
 cases r1
 exact HT.BU p1 p2 ⟨.ref b,H,I,rfl,q⟩
def GQ(K:Ve):V->Option Int->Option Int->Hp->VK->Prop:=λx lo hi H Q=>∃a xs,x=.ref a/\aH K H a xs/\
 (HT.dH xs.length 0 lo=0/\HT.dH xs.length xs.length hi=xs.length)/\Q (.ref a) H
theorem FX:FQ X (GQ X.K):=by
 intro pins s σ H x v vl vu lo hi sl Q I rx hs pl pu h
 obtain⟨a,xs,rfl,hx,hw,q⟩:=h
 cases rx
 obtain⟨its,r,ht,hz⟩:=I.tuple hx
 have hlen:its.toArray.size=xs.length:=by rw [US]; exact r.length.symm
 refine⟨"tuple",_,PyProof.Rows.slot_tuple_getitem.lookup,ht.typeIs,?_⟩
 exact HT.jR ht hs pl pu (by rw [hlen]; exact hw) ⟨.ref a,H,I,rfl,q⟩
theorem Gs{x:V}{lo hi:Option Int}{H:Hp}{Q:VK}{a:Addr}{xs:List V}{K:Ve}(e:x=.ref a)(h:aH K H a xs)(q1:f_ xs lo hi=xs->Q (.ref a) H)(q2:∀p,H p=none->Q (.ref p) (upd H p (.tup (f_ xs lo hi)))):Mp K x lo hi H Q\/GQ K x lo hi H Q:=by
 by_cases hw:HT.dH xs.length 0 lo=0/\HT.dH xs.length xs.length hi=xs.length
 ·refine .inr ⟨a,xs,e,h,hw,q1 ?_⟩
  unfold f_
  rw [hw.1,hw.2]
  simp
 ·exact .inl ⟨a,xs,e,h,hw,q2⟩
end
inductive D where
 | int (i:Int) | str (x:Str) | non | bl (b:Bool) | tup (ds:List D) | lst (ds:List D)
deriving Inhabited
mutual
def aY(K:Ve)(H:Hp):D->V->Prop
 | .int i,v=>v=.int i
 | .str x,v=>v=.str x
 | .non,v=>v=.non
 | .bl b,v=>v=.bl b
 | .tup ds,v=>∃a vs,v=.ref a/\aH K H a vs/\bH K H ds vs
 | .lst ds,v=>∃a vs,v=.ref a/\H a=some (.lst vs)/\bH K H ds vs
def bH(K:Ve)(H:Hp):List D->List V->Prop
 | [],vs=>vs=[]
 | d::ds,vs=>∃v r,vs=v::r/\aY K H d v/\bH K H ds r
end
mutual
def D.depth:D->Nat
 | .tup ds=>1+cw ds
 | .lst ds=>1+cw ds
 | _=>0
def cw:List D->Nat
 | []=>0
 | d::ds=>max d.depth (cw ds)
end
def bI(b:Bool):Int:=if b then 1 else 0
mutual
def cN:D->D->Bool
 | .int i,.int j=>i==j
 | .int i,.bl b=>i==bI b
 | .bl b,.int j=>bI b==j
 | .bl b,.bl c=>b==c
 | .str x,.str y=>x==y
 | .non,.non=>true
 | .tup ds,.tup es=>iw ds es
 | .lst ds,.lst es=>iw ds es
 | _,_=>false
def iw:List D->List D->Bool
 | [],[]=>true
 | d::ds,e::es=>cN d e&&iw ds es
 | _,_=>false
end
mutual
theorem jt:∀d:D,cN d d=true
 | .int i=>by simp [cN]
 | .str x=>by simp [cN]
 | .non=>by simp [cN]
 | .bl b=>by simp [cN]
 | .tup ds=>by rw [cN]; exact iq ds
 | .lst ds=>by rw [cN]; exact iq ds
theorem iq:∀ds:List D,iw ds ds=true
 | []=>by simp [iw]
 | d::ds=>by rw [iw,jt d,iq ds]; rfl
end
section
variable{K:Ve}{H:Hp}
theorem bH.length:∀{ds:List D} {vs:List V},bH K H ds vs->ds.length=vs.length
 | [],vs,h=>by rw [bH]at h; rw [h]; rfl
 | d::ds,vs,h=>by
  rw [bH]at h
  obtain⟨v,r,rfl,_,h⟩:=h
  rw [Vb,Vb,bH.length h]
theorem bH.get:∀{ds:List D} {vs:List V} {i:Nat} {v:V},bH K H ds vs->vs[i]? = some v->∃d,ds[i]? = some d/\aY K H d v
 | [],vs,i,v,h,e=>by rw [bH]at h; rw [h]at e; cases e
 | d::ds,vs,i,v,h,e=>by
  rw [bH]at h
  obtain⟨u,r,rfl,h1,h2⟩:=h
  cases i with
  | zero=>cases e; exact⟨d,rfl,h1⟩
  | succ i=>obtain⟨d',e1,e2⟩:=bH.get (i:=i) h2 e; exact⟨d',e1,e2⟩
theorem bH.cons{d:D}{v:V}{ds:List D}{vs:List V}(h1:aY K H d v)(h2:bH K H ds vs):bH K H (d::ds) (v::vs):=by rw [bH]; exact⟨v,vs,rfl,h1,h2⟩
theorem bH.nil:bH K H [] []:=by rw [bH]
mutual
theorem aY.mono{H':Hp}(s:∀a xs,aH K H a xs->aH K H' a xs)(t:∀a xs,H a=some (.lst xs)->H' a=some (.lst xs)):∀{d:D} {v:V},aY K H d v->aY K H' d v
 | .int _,v,h=>by rw [aY]at h⊢; exact h
 | .str _,v,h=>by rw [aY]at h⊢; exact h
 | .non,v,h=>by rw [aY]at h⊢; exact h
 | .bl _,v,h=>by rw [aY]at h⊢; exact h
 | .tup ds,v,h=>by
  rw [aY]at h⊢
  obtain⟨a,vs,e,q,h⟩:=h
  exact⟨a,vs,e,s a vs q,bH.mono s t h⟩
 | .lst ds,v,h=>by
  rw [aY]at h⊢
  obtain⟨a,vs,e,q,h⟩:=h
  exact⟨a,vs,e,t a vs q,bH.mono s t h⟩
theorem bH.mono{H':Hp}(s:∀a xs,aH K H a xs->aH K H' a xs)(t:∀a xs,H a=some (.lst xs)->H' a=some (.lst xs)):∀{ds:List D} {vs:List V},bH K H ds vs->bH K H' ds vs
 | [],vs,h=>by rw [bH]at h⊢; exact h
 | d::ds,vs,h=>by
  rw [bH]at h⊢
  obtain⟨u,r,e,h1,h2⟩:=h
  exact⟨u,r,e,aY.mono s t h1,bH.mono s t h2⟩
end
end
theorem oE:∀{ds es:List D},ds.length≠es.length->iw ds es=false
 | [],[],h=>absurd rfl h
 | [],_::_,_=>by rw [iw]; all_goals simp
 | _::_,[],_=>by rw [iw]; all_goals simp
 | d::ds,e::es,h=>by rw [iw,oE (by simpa using h),Bool.and_false]
theorem nK:∀{ds es:List D},ds.length=es.length->(List.range ds.length).all (λj=>cN (ds.getD j .non) (es.getD j .non))=iw ds es
 | [],[],_=>by rw [iw]; rfl
 | d::ds,e::es,h=>by
  rw [iw,Vb,List.range_succ_eq_map,List.all_cons,List.all_map,←nK (by simpa using h)]
  rfl
 | [],_::_,h=>by cases h
 | _::_,[],h=>by cases h
theorem CK{ds es:List D}:((List.range (min ds.length es.length)).all (λj=>cN (ds.getD j .non) (es.getD j .non))&&ds.length==es.length)=iw ds es:=by
 by_cases h:ds.length=es.length
 ·rw [←nK h,h,Nat.min_self]; simp
 ·rw [oE h,beq_eq_false_iff_ne.mpr h,Bool.and_false]
theorem ke:∀{ds:List D} {i:Nat} {d:D},ds[i]? = some d->d.depth<=cw ds
 | [],i,d,e=>by cases e
 | d'::ds,0,d,e=>by cases e; rw [cw]; exact Nat.le_max_left _ _
 | d'::ds,i+1,d,e=>by rw [cw]; exact UE (ke (i:=i) (by simpa using e)) (Nat.le_max_right _ _)
section
variable{X:Cx}{pins:List (Addr×Obj)}{σ:St}{H:Hp}{s:Shared}
theorem kP{ds:List D}{j:Nat}{d:D}(h:ds[j]? = some d):ds.getD j .non=d:=by rw [List.getD_eq_getElem?_getD,h]; rfl
def both(A:Around)(s:Shared)(u v:Value)(b:Bool):Prop:=SeqAt.EqAt A s u v b/\SeqAt.RcAt A s u v b/\SeqAt.RcNeAt A s u v (!b)
def seqs:D->D->Bool
 | .tup _,.tup _=>true
 | .lst _,.lst _=>true
 | _,_=>false
theorem pq(I:Inv X pins σ H s){A:Around}(hu:A.units<cLine):∀{d e:D} {x y:V} {u v:Value},seqs d e=false->aY X.K H d x->aY X.K H e y->RelV x u->RelV y v->both A s u v (cN d e)
 | .int i,.int j,x,y,u,v,hs,h1,h2,r1,r2=>by
  rw [aY]at h1; subst h1; obtain⟨t,rfl⟩:=r1
  rw [aY]at h2; subst h2; obtain⟨w,rfl⟩:=r2
  rw [cN]
  exact⟨.int_int i t j w,.int_int i t j w,.int_int i t j w⟩
 | .int i,.str j,x,y,u,v,hs,h1,h2,r1,r2=>by
  rw [aY]at h1; subst h1; obtain⟨t,rfl⟩:=r1
  rw [aY]at h2; subst h2; obtain⟨w,rfl⟩:=r2
  rw [show cN (.int i) (.str j)=false by simp [cN]]
  exact⟨.int_str i t j w,.int_str i t j w,.int_str i t j w⟩
 | .int i,.non,x,y,u,v,hs,h1,h2,r1,r2=>by
  rw [aY]at h1; subst h1; obtain⟨t,rfl⟩:=r1
  rw [aY]at h2; subst h2; cases r2
  rw [show cN (.int i) (.non)=false by simp [cN]]
  exact⟨.int_none i t,.int_none i t,.int_none i t⟩
 | .int i,.bl j,x,y,u,v,hs,h1,h2,r1,r2=>by
  rw [aY]at h1; subst h1; obtain⟨t,rfl⟩:=r1
  rw [aY]at h2; subst h2; cases r2
  rw [cN]
  exact⟨.int_bool i t j,.int_bool i t j,.int_bool i t j⟩
 | .int i,.tup j,x,y,u,v,hs,h1,h2,r1,r2=>by
  rw [aY]at h1; subst h1; obtain⟨t,rfl⟩:=r1
  rw [aY]at h2; obtain⟨aw,Gp,rfl,q2,_⟩:=h2; cases r2; obtain⟨tY,Fm,pw,_⟩:=I.tuple q2
  rw [show cN (.int i) (.tup j)=false by simp [cN]]
  exact⟨.int_tuple i t pw hu,.int_tuple i t pw hu,.int_tuple i t pw hu⟩
 | .int i,.lst j,x,y,u,v,hs,h1,h2,r1,r2=>by
  rw [aY]at h1; subst h1; obtain⟨t,rfl⟩:=r1
  rw [aY]at h2; obtain⟨aw,Gp,rfl,q2,_⟩:=h2; cases r2; obtain⟨tY,Fm,FW,_⟩:=I.list (aZ.of q2); have pw:=FW.isList
  rw [show cN (.int i) (.lst j)=false by simp [cN]]
  exact⟨.int_list i t pw hu,.int_list i t pw hu,.int_list i t pw hu⟩
 | .str i,.int j,x,y,u,v,hs,h1,h2,r1,r2=>by
  rw [aY]at h1; subst h1; obtain⟨t,rfl⟩:=r1
  rw [aY]at h2; subst h2; obtain⟨w,rfl⟩:=r2
  rw [show cN (.str i) (.int j)=false by simp [cN]]
  exact⟨.str_int i t j w,.str_int i t j w,.str_int i t j w⟩
 | .str i,.str j,x,y,u,v,hs,h1,h2,r1,r2=>by
  rw [aY]at h1; subst h1; obtain⟨t,rfl⟩:=r1
  rw [aY]at h2; subst h2; obtain⟨w,rfl⟩:=r2
  rw [cN]
  exact⟨.str_str i t j w,.str_str i t j w,.str_str i t j w⟩
 | .str i,.non,x,y,u,v,hs,h1,h2,r1,r2=>by
  rw [aY]at h1; subst h1; obtain⟨t,rfl⟩:=r1
  rw [aY]at h2; subst h2; cases r2
  rw [show cN (.str i) (.non)=false by simp [cN]]
  exact⟨.str_none i t,.str_none i t,.str_none i t⟩
 | .str i,.bl j,x,y,u,v,hs,h1,h2,r1,r2=>by
  rw [aY]at h1; subst h1; obtain⟨t,rfl⟩:=r1
  rw [aY]at h2; subst h2; cases r2
  rw [show cN (.str i) (.bl j)=false by simp [cN]]
  exact⟨.str_bool i t j,.str_bool i t j,.str_bool i t j⟩
 | .str i,.tup j,x,y,u,v,hs,h1,h2,r1,r2=>by
  rw [aY]at h1; subst h1; obtain⟨t,rfl⟩:=r1
  rw [aY]at h2; obtain⟨aw,Gp,rfl,q2,_⟩:=h2; cases r2; obtain⟨tY,Fm,pw,_⟩:=I.tuple q2
  rw [show cN (.str i) (.tup j)=false by simp [cN]]
  exact⟨.str_tuple i t pw hu,.str_tuple i t pw hu,.str_tuple i t pw hu⟩
 | .str i,.lst j,x,y,u,v,hs,h1,h2,r1,r2=>by
  rw [aY]at h1; subst h1; obtain⟨t,rfl⟩:=r1
  rw [aY]at h2; obtain⟨aw,Gp,rfl,q2,_⟩:=h2; cases r2; obtain⟨tY,Fm,FW,_⟩:=I.list (aZ.of q2); have pw:=FW.isList
  rw [show cN (.str i) (.lst j)=false by simp [cN]]
  exact⟨.str_list i t pw hu,.str_list i t pw hu,.str_list i t pw hu⟩
 | .non,.int j,x,y,u,v,hs,h1,h2,r1,r2=>by
  rw [aY]at h1; subst h1; cases r1
  rw [aY]at h2; subst h2; obtain⟨w,rfl⟩:=r2
  rw [show cN (.non) (.int j)=false by simp [cN]]
  exact⟨.none_int j w,.none_int j w,.none_int j w⟩
 | .non,.str j,x,y,u,v,hs,h1,h2,r1,r2=>by
  rw [aY]at h1; subst h1; cases r1
  rw [aY]at h2; subst h2; obtain⟨w,rfl⟩:=r2
  rw [show cN (.non) (.str j)=false by simp [cN]]
  exact⟨.none_str j w,.none_str j w,.none_str j w⟩
 | .non,.non,x,y,u,v,hs,h1,h2,r1,r2=>by
  rw [aY]at h1; subst h1; cases r1
  rw [aY]at h2; subst h2; cases r2
  rw [cN]
  exact⟨.same _,.none_none,.none_none⟩
 | .non,.bl j,x,y,u,v,hs,h1,h2,r1,r2=>by
  rw [aY]at h1; subst h1; cases r1
  rw [aY]at h2; subst h2; cases r2
  rw [show cN (.non) (.bl j)=false by simp [cN]]
  exact⟨.none_bool j,.none_bool j,.none_bool j⟩
 | .non,.tup j,x,y,u,v,hs,h1,h2,r1,r2=>by
  rw [aY]at h1; subst h1; cases r1
  rw [aY]at h2; obtain⟨aw,Gp,rfl,q2,_⟩:=h2; cases r2; obtain⟨tY,Fm,pw,_⟩:=I.tuple q2
  rw [show cN (.non) (.tup j)=false by simp [cN]]
  exact⟨.none_tuple pw hu,.none_tuple pw hu,.none_tuple pw hu⟩
 | .non,.lst j,x,y,u,v,hs,h1,h2,r1,r2=>by
  rw [aY]at h1; subst h1; cases r1
  rw [aY]at h2; obtain⟨aw,Gp,rfl,q2,_⟩:=h2; cases r2; obtain⟨tY,Fm,FW,_⟩:=I.list (aZ.of q2); have pw:=FW.isList
  rw [show cN (.non) (.lst j)=false by simp [cN]]
  exact⟨.none_list pw hu,.none_list pw hu,.none_list pw hu⟩
 | .bl i,.int j,x,y,u,v,hs,h1,h2,r1,r2=>by
  rw [aY]at h1; subst h1; cases r1
  rw [aY]at h2; subst h2; obtain⟨w,rfl⟩:=r2
  rw [cN]
  exact⟨.bool_int i j w,.bool_int i j w,.bool_int i j w⟩
 | .bl i,.str j,x,y,u,v,hs,h1,h2,r1,r2=>by
  rw [aY]at h1; subst h1; cases r1
  rw [aY]at h2; subst h2; obtain⟨w,rfl⟩:=r2
  rw [show cN (.bl i) (.str j)=false by simp [cN]]
  exact⟨.bool_str i j w,.bool_str i j w,.bool_str i j w⟩
 | .bl i,.non,x,y,u,v,hs,h1,h2,r1,r2=>by
  rw [aY]at h1; subst h1; cases r1
  rw [aY]at h2; subst h2; cases r2
  rw [show cN (.bl i) (.non)=false by simp [cN]]
  exact⟨.bool_none i,.bool_none i,.bool_none i⟩
 | .bl i,.bl j,x,y,u,v,hs,h1,h2,r1,r2=>by
  rw [aY]at h1; subst h1; cases r1
  rw [aY]at h2; subst h2; cases r2
  rw [cN]
  exact⟨.bool_bool i j,.bool_bool i j,.bool_bool i j⟩
 | .bl i,.tup j,x,y,u,v,hs,h1,h2,r1,r2=>by
  rw [aY]at h1; subst h1; cases r1
  rw [aY]at h2; obtain⟨aw,Gp,rfl,q2,_⟩:=h2; cases r2; obtain⟨tY,Fm,pw,_⟩:=I.tuple q2
  rw [show cN (.bl i) (.tup j)=false by simp [cN]]
  exact⟨.bool_tuple i pw hu,.bool_tuple i pw hu,.bool_tuple i pw hu⟩
 | .bl i,.lst j,x,y,u,v,hs,h1,h2,r1,r2=>by
  rw [aY]at h1; subst h1; cases r1
  rw [aY]at h2; obtain⟨aw,Gp,rfl,q2,_⟩:=h2; cases r2; obtain⟨tY,Fm,FW,_⟩:=I.list (aZ.of q2); have pw:=FW.isList
  rw [show cN (.bl i) (.lst j)=false by simp [cN]]
  exact⟨.bool_list i pw hu,.bool_list i pw hu,.bool_list i pw hu⟩
 | .tup i,.int j,x,y,u,v,hs,h1,h2,r1,r2=>by
  rw [aY]at h1; obtain⟨Fu,Fb,rfl,q1,_⟩:=h1; cases r1; obtain⟨sJ,E_,pt,_⟩:=I.tuple q1
  rw [aY]at h2; subst h2; obtain⟨w,rfl⟩:=r2
  rw [show cN (.tup i) (.int j)=false by simp [cN]]
  exact⟨.tuple_int j w pt hu,.tuple_int j w pt hu,.tuple_int j w pt hu⟩
 | .tup i,.str j,x,y,u,v,hs,h1,h2,r1,r2=>by
  rw [aY]at h1; obtain⟨Fu,Fb,rfl,q1,_⟩:=h1; cases r1; obtain⟨sJ,E_,pt,_⟩:=I.tuple q1
  rw [aY]at h2; subst h2; obtain⟨w,rfl⟩:=r2
  rw [show cN (.tup i) (.str j)=false by simp [cN]]
  exact⟨.tuple_str j w pt hu,.tuple_str j w pt hu,.tuple_str j w pt hu⟩
 | .tup i,.non,x,y,u,v,hs,h1,h2,r1,r2=>by
  rw [aY]at h1; obtain⟨Fu,Fb,rfl,q1,_⟩:=h1; cases r1; obtain⟨sJ,E_,pt,_⟩:=I.tuple q1
  rw [aY]at h2; subst h2; cases r2
  rw [show cN (.tup i) (.non)=false by simp [cN]]
  exact⟨.tuple_none pt hu,.tuple_none pt hu,.tuple_none pt hu⟩
 | .tup i,.bl j,x,y,u,v,hs,h1,h2,r1,r2=>by
  rw [aY]at h1; obtain⟨Fu,Fb,rfl,q1,_⟩:=h1; cases r1; obtain⟨sJ,E_,pt,_⟩:=I.tuple q1
  rw [aY]at h2; subst h2; cases r2
  rw [show cN (.tup i) (.bl j)=false by simp [cN]]
  exact⟨.tuple_bool j pt hu,.tuple_bool j pt hu,.tuple_bool j pt hu⟩
 | .tup ds,.tup es,x,y,u,v,hs,h1,h2,r1,r2=>by cases hs
 | .tup i,.lst j,x,y,u,v,hs,h1,h2,r1,r2=>by
  rw [aY]at h1; obtain⟨Fu,Fb,rfl,q1,_⟩:=h1; cases r1; obtain⟨sJ,E_,pt,_⟩:=I.tuple q1
  rw [aY]at h2; obtain⟨aw,Gp,rfl,q2,_⟩:=h2; cases r2; obtain⟨tY,Fm,FW,_⟩:=I.list (aZ.of q2); have pw:=FW.isList
  rw [show cN (.tup i) (.lst j)=false by simp [cN]]
  exact⟨.tuple_list pt pw hu,.tuple_list pt pw hu,.tuple_list pt pw hu⟩
 | .lst i,.int j,x,y,u,v,hs,h1,h2,r1,r2=>by
  rw [aY]at h1; obtain⟨Fu,Fb,rfl,q1,_⟩:=h1; cases r1; obtain⟨sJ,E_,F7,_⟩:=I.list (aZ.of q1); have pt:=F7.isList
  rw [aY]at h2; subst h2; obtain⟨w,rfl⟩:=r2
  rw [show cN (.lst i) (.int j)=false by simp [cN]]
  exact⟨.list_int j w pt hu,.list_int j w pt hu,.list_int j w pt hu⟩
 | .lst i,.str j,x,y,u,v,hs,h1,h2,r1,r2=>by
  rw [aY]at h1; obtain⟨Fu,Fb,rfl,q1,_⟩:=h1; cases r1; obtain⟨sJ,E_,F7,_⟩:=I.list (aZ.of q1); have pt:=F7.isList
  rw [aY]at h2; subst h2; obtain⟨w,rfl⟩:=r2
  rw [show cN (.lst i) (.str j)=false by simp [cN]]
  exact⟨.list_str j w pt hu,.list_str j w pt hu,.list_str j w pt hu⟩
 | .lst i,.non,x,y,u,v,hs,h1,h2,r1,r2=>by
  rw [aY]at h1; obtain⟨Fu,Fb,rfl,q1,_⟩:=h1; cases r1; obtain⟨sJ,E_,F7,_⟩:=I.list (aZ.of q1); have pt:=F7.isList
  rw [aY]at h2; subst h2; cases r2
  rw [show cN (.lst i) (.non)=false by simp [cN]]
  exact⟨.list_none pt hu,.list_none pt hu,.list_none pt hu⟩
 | .lst i,.bl j,x,y,u,v,hs,h1,h2,r1,r2=>by
  rw [aY]at h1; obtain⟨Fu,Fb,rfl,q1,_⟩:=h1; cases r1; obtain⟨sJ,E_,F7,_⟩:=I.list (aZ.of q1); have pt:=F7.isList
  rw [aY]at h2; subst h2; cases r2
  rw [show cN (.lst i) (.bl j)=false by simp [cN]]
  exact⟨.list_bool j pt hu,.list_bool j pt hu,.list_bool j pt hu⟩
 | .lst i,.tup j,x,y,u,v,hs,h1,h2,r1,r2=>by
  rw [aY]at h1; obtain⟨Fu,Fb,rfl,q1,_⟩:=h1; cases r1; obtain⟨sJ,E_,F7,_⟩:=I.list (aZ.of q1); have pt:=F7.isList
  rw [aY]at h2; obtain⟨aw,Gp,rfl,q2,_⟩:=h2; cases r2; obtain⟨tY,Fm,pw,_⟩:=I.tuple q2
  rw [show cN (.lst i) (.tup j)=false by simp [cN]]
  exact⟨.list_tuple pt pw hu,.list_tuple pt pw hu,.list_tuple pt pw hu⟩
 | .lst ds,.lst es,x,y,u,v,hs,h1,h2,r1,r2=>by cases hs
theorem md(I:Inv X pins σ H s){a:Addr}{xs ys:List V}(h:aZ X.K H a xs)(h':aH X.K H a ys):False:=by
 obtain⟨_,_,p,_⟩:=I.list h
 obtain⟨_,_,p',_⟩:=I.tuple h'
 exact SeqAt.ne_of_list_tuple p.isList p' rfl
mutual
theorem aY.inj(I:Inv X pins σ H s):∀{d e:D} {v:V},aY X.K H d v->aY X.K H e v->d=e
 | .int i,.int j,v,h1,h2=>by
  rw [aY]at h1; rw [aY]at h2
  subst h1
  injection h2 with h2
  rw [h2]
 | .int i,.str j,v,h1,h2=>by
  rw [aY]at h1; rw [aY]at h2
  subst h1
  cases h2
 | .int i,.non,v,h1,h2=>by
  rw [aY]at h1; rw [aY]at h2
  subst h1
  cases h2
 | .int i,.bl j,v,h1,h2=>by
  rw [aY]at h1; rw [aY]at h2
  subst h1
  cases h2
 | .int i,.tup j,v,h1,h2=>by
  rw [aY]at h1; rw [aY]at h2
  obtain⟨a,vs,rfl,q,g⟩:=h2
  cases h1
 | .int i,.lst j,v,h1,h2=>by
  rw [aY]at h1; rw [aY]at h2
  obtain⟨a,vs,rfl,q,g⟩:=h2
  cases h1
 | .str i,.int j,v,h1,h2=>by
  rw [aY]at h1; rw [aY]at h2
  subst h1
  cases h2
 | .str i,.str j,v,h1,h2=>by
  rw [aY]at h1; rw [aY]at h2
  subst h1
  injection h2 with h2
  rw [h2]
 | .str i,.non,v,h1,h2=>by
  rw [aY]at h1; rw [aY]at h2
  subst h1
  cases h2
 | .str i,.bl j,v,h1,h2=>by
  rw [aY]at h1; rw [aY]at h2
  subst h1
  cases h2
 | .str i,.tup j,v,h1,h2=>by
  rw [aY]at h1; rw [aY]at h2
  obtain⟨a,vs,rfl,q,g⟩:=h2
  cases h1
 | .str i,.lst j,v,h1,h2=>by
  rw [aY]at h1; rw [aY]at h2
  obtain⟨a,vs,rfl,q,g⟩:=h2
  cases h1
 | .non,.int j,v,h1,h2=>by
  rw [aY]at h1; rw [aY]at h2
  subst h1
  cases h2
 | .non,.str j,v,h1,h2=>by
  rw [aY]at h1; rw [aY]at h2
  subst h1
  cases h2
 | .non,.non,v,h1,h2=>rfl
 | .non,.bl j,v,h1,h2=>by
  rw [aY]at h1; rw [aY]at h2
  subst h1
  cases h2
 | .non,.tup j,v,h1,h2=>by
  rw [aY]at h1; rw [aY]at h2
  obtain⟨a,vs,rfl,q,g⟩:=h2
  cases h1
 | .non,.lst j,v,h1,h2=>by
  rw [aY]at h1; rw [aY]at h2
  obtain⟨a,vs,rfl,q,g⟩:=h2
  cases h1
 | .bl i,.int j,v,h1,h2=>by
  rw [aY]at h1; rw [aY]at h2
  subst h1
  cases h2
 | .bl i,.str j,v,h1,h2=>by
  rw [aY]at h1; rw [aY]at h2
  subst h1
  cases h2
 | .bl i,.non,v,h1,h2=>by
  rw [aY]at h1; rw [aY]at h2
  subst h1
  cases h2
 | .bl i,.bl j,v,h1,h2=>by
  rw [aY]at h1; rw [aY]at h2
  subst h1
  injection h2 with h2
  rw [h2]
 | .bl i,.tup j,v,h1,h2=>by
  rw [aY]at h1; rw [aY]at h2
  obtain⟨a,vs,rfl,q,g⟩:=h2
  cases h1
 | .bl i,.lst j,v,h1,h2=>by
  rw [aY]at h1; rw [aY]at h2
  obtain⟨a,vs,rfl,q,g⟩:=h2
  cases h1
 | .tup i,.int j,v,h1,h2=>by
  rw [aY]at h1; rw [aY]at h2
  obtain⟨a,vs,rfl,q,g⟩:=h1
  cases h2
 | .tup i,.str j,v,h1,h2=>by
  rw [aY]at h1; rw [aY]at h2
  obtain⟨a,vs,rfl,q,g⟩:=h1
  cases h2
 | .tup i,.non,v,h1,h2=>by
  rw [aY]at h1; rw [aY]at h2
  obtain⟨a,vs,rfl,q,g⟩:=h1
  cases h2
 | .tup i,.bl j,v,h1,h2=>by
  rw [aY]at h1; rw [aY]at h2
  obtain⟨a,vs,rfl,q,g⟩:=h1
  cases h2
 | .tup i,.tup j,v,h1,h2=>by
  rw [aY]at h1; rw [aY]at h2
  obtain⟨a,vs,rfl,q,g⟩:=h1
  obtain⟨b,ws,e,q',g'⟩:=h2
  cases e
  rw [I.ic q' q]at g'
  rw [bH.inj I g g']
 | .tup i,.lst j,v,h1,h2=>by
  rw [aY]at h1; rw [aY]at h2
  obtain⟨a,vs,rfl,q,g⟩:=h1
  obtain⟨b,ws,e,q',g'⟩:=h2
  cases e
  exact(md I (aZ.of q') q).elim
 | .lst i,.int j,v,h1,h2=>by
  rw [aY]at h1; rw [aY]at h2
  obtain⟨a,vs,rfl,q,g⟩:=h1
  cases h2
 | .lst i,.str j,v,h1,h2=>by
  rw [aY]at h1; rw [aY]at h2
  obtain⟨a,vs,rfl,q,g⟩:=h1
  cases h2
 | .lst i,.non,v,h1,h2=>by
  rw [aY]at h1; rw [aY]at h2
  obtain⟨a,vs,rfl,q,g⟩:=h1
  cases h2
 | .lst i,.bl j,v,h1,h2=>by
  rw [aY]at h1; rw [aY]at h2
  obtain⟨a,vs,rfl,q,g⟩:=h1
  cases h2
 | .lst i,.tup j,v,h1,h2=>by
  rw [aY]at h1; rw [aY]at h2
  obtain⟨a,vs,rfl,q,g⟩:=h1
  obtain⟨b,ws,e,q',g'⟩:=h2
  cases e
  exact(md I (aZ.of q) q').elim
 | .lst i,.lst j,v,h1,h2=>by
  rw [aY]at h1; rw [aY]at h2
  obtain⟨a,vs,rfl,q,g⟩:=h1
  obtain⟨b,ws,e,q',g'⟩:=h2
  cases e
  rw [q]at q'
  cases q'
  rw [bH.inj I g g']
theorem bH.inj(I:Inv X pins σ H s):∀{ds es:List D} {vs:List V},bH X.K H ds vs->bH X.K H es vs->ds=es
 | [],[],vs,h1,h2=>rfl
 | [],e::es,vs,h1,h2=>by
  rw [bH]at h1; rw [bH]at h2
  obtain⟨v,r,rfl,_⟩:=h2
  cases h1
 | d::ds,[],vs,h1,h2=>by
  rw [bH]at h1; rw [bH]at h2
  obtain⟨v,r,rfl,_⟩:=h1
  cases h2
 | d::ds,e::es,vs,h1,h2=>by
  rw [bH]at h1; rw [bH]at h2
  obtain⟨v,r,rfl,a1,a2⟩:=h1
  obtain⟨v',r',z,b1,b2⟩:=h2
  injection z with z1 z2
  rw [←z1]at b1
  rw [←z2]at b2
  rw [aY.inj I a1 b1,bH.inj I a2 b2]
end
theorem wY(I:Inv X pins σ H s):∀(n:Nat) {A:Around} {d e:D} {x y:V} {u v:Value},d.depth<=n->A.units+n<cLine->aY X.K H d x->aY X.K H e y->RelV x u->RelV y v->both A s u v (cN d e):=by
 intro n
 induction n with
 | zero =>
  intro A d e x y u v hd hu h1 h2 r1 r2
  refine pq I (by omega) ?_ h1 h2 r1 r2
  cases d <;> cases e <;> first | rfl | (rw [D.depth]at hd; omega)
 | succ n ih =>
  intro A d e x y u v hd hu h1 h2 r1 r2
  cases hs:seqs d e with
  | false=>exact pq I (by omega) hs h1 h2 r1 r2
  | true =>
   have items:∀{ds es:List D} {vs ws:List V} {its its':List Value},1+cw ds<=n+1->bH X.K H ds vs->bH X.K H es ws->Vals vs its->Vals ws its'->∀j (h1:j<its.toArray.size) (h2:j<its'.toArray.size),SeqAt.EqAt A.in1 s its.toArray[j] its'.toArray[j] (cN (ds.getD j .non) (es.getD j .non)):=by
    intro ds es vs ws its its' hdd g g' rv xG j j1 j2
    obtain⟨x,e1,rx⟩:=ni rv j1
    obtain⟨y,e2,ry⟩:=ni xG j2
    obtain⟨d,ed,gd⟩:=g.get e1
    obtain⟨e,ee,ge⟩:=g'.get e2
    rw [kP ed,kP ee]
    have:=ke ed
    exact(ih (by omega) (by show A.units+1+n<cLine; omega) gd ge rx ry).1
   cases d <;> cases e <;> first | cases hs | skip
   ·rename_i ds es
    rw [D.depth]at hd
    have g1:=h1
    have g2:=h2
    rw [aY]at h1; rw [aY]at h2
    obtain⟨a,vs,rfl,q,g⟩:=h1
    obtain⟨b,ws,rfl,q',g'⟩:=h2
    cases r1; cases r2
    obtain⟨its,rv,p,_⟩:=I.tuple q
    obtain⟨its',xG,p',_⟩:=I.tuple q'
    have l1:its.toArray.size=ds.length:=by simp [←rv.length,g.length]
    have l2:its'.toArray.size=es.length:=by simp [←xG.length,g'.length]
    have z1:=SeqAt.RcAt.tuples p p' (by omega) (items hd g g' rv xG)
    have z2:=SeqAt.RcNeAt.tuples p p' (by omega) (items hd g g' rv xG)
    rw [l1,l2,CK]at z1 z2
    rw [cN]
    refine⟨?_,z1,z2⟩
    by_cases hab:a=b
    ·subst hab
     have e:=aY.inj I g1 g2
     injection e with e
     rw [e,iq]
     exact .same _
    ·exact .of_refs hab z1
   ·rename_i ds es
    rw [D.depth]at hd
    have g1:=h1
    have g2:=h2
    rw [aY]at h1; rw [aY]at h2
    obtain⟨a,vs,rfl,q,g⟩:=h1
    obtain⟨b,ws,rfl,q',g'⟩:=h2
    cases r1; cases r2
    obtain⟨its,rv,p,_⟩:=I.list (aZ.of q)
    obtain⟨its',xG,p',_⟩:=I.list (aZ.of q')
    have l1:its.toArray.size=ds.length:=by simp [←rv.length,g.length]
    have l2:its'.toArray.size=es.length:=by simp [←xG.length,g'.length]
    have zz:SeqAt.RcAt A s (.ref a) (.ref b) (iw ds es)/\SeqAt.RcNeAt A s (.ref a) (.ref b) (!iw ds es):=by
     by_cases hl:ds.length=es.length
     ·have z1:=SeqAt.RcAt.lists p.isList p'.isList (by rw [l1,l2,hl]) (by omega) (items hd g g' rv xG)
      have z2:=SeqAt.RcNeAt.lists p.isList p'.isList (by rw [l1,l2,hl]) (by omega) (items hd g g' rv xG)
      rw [l1,nK hl]at z1 z2
      exact⟨z1,z2⟩
     ·rw [oE hl]
      exact⟨SeqAt.RcAt.lists_lengths p.isList p'.isList (by rw [l1,l2]; simpa using hl) (by omega),SeqAt.RcNeAt.lists_lengths p.isList p'.isList (by rw [l1,l2]; simpa using hl) (by omega)⟩
    rw [cN]
    refine⟨?_,zz.1,zz.2⟩
    by_cases hab:a=b
    ·subst hab
     have e:=aY.inj I g1 g2
     injection e with e
     rw [e,iq]
     exact .same _
    ·exact .of_refs hab zz.1
def OU(K:Ve)(A:Around):R2:=λx y H Q=>∃d e,aY K H d x/\aY K H e y/\A.units+d.depth<cLine/\Q (.bl (cN d e)) H
def N4(K:Ve)(A:Around):R2:=λx y H Q=>∃d e,aY K H d x/\aY K H e y/\A.units+d.depth<cLine/\Q (.bl (!cN d e)) H
theorem I_:i6 X (compareOp .Eq) (OU X.K X.A):=by
 intro pins s σ H x y v u Q I rx ry h
 obtain⟨d,e,h1,h2,hu,q⟩:=h
 exact(wY I d.depth (UD _) hu h1 h2 rx ry).2.1 _ _ _ _ ⟨.bl _,H,I,rfl,q⟩
theorem js:i6 X (compareOp .NotEq) (N4 X.K X.A):=by
 intro pins s σ H x y v u Q I rx ry h
 obtain⟨d,e,h1,h2,hu,q⟩:=h
 exact(wY I d.depth (UD _) hu h1 h2 rx ry).2.2 _ _ _ _ ⟨.bl _,H,I,rfl,q⟩
def FO(d:D)(es:List D):Bool:=es.any λe=>cN e d
def Oh(K:Ve)(A:Around)(neg:Bool):R2:=λx y H Q=>∃d es p xs,y=.ref p/\(aZ K H p xs\/aH K H p xs)/\aY K H d x/\bH K H es xs/\A.units+1+cw es<cLine/\Q (.bl (if neg then !FO d es else FO d es)) H
theorem xp{α:Type}{f:α->Bool}:∀{l:List α},l.any f=(List.range l.length).any λj=>(l[j]?.map f).getD false
 | []=>rfl
 | a::l=>by
  rw [List.any_cons,Vb,List.range_succ_eq_map,List.any_cons,List.any_map,@xp _ f l]
  rfl
open Classical in
noncomputable def zM (its:List Value) (es:List D) (d:D) (y:Value):Bool:=decide (∃j,its[j]? = some y/\cN (es.getD j .non) d=true)
theorem Bl(I:Inv X pins σ H s){its:List Value}{es:List D}{xs:List V}{d:D}(g:bH X.K H es xs)(r:Vals xs its){j:Nat}{y:Value}(h:its[j]? = some y):zM its es d y=cN (es.getD j .non) d:=by
 have at':∀{j:Nat},its[j]? = some y->∃e v,es.getD j .non=e/\RelV v y/\aY X.K H e v:=λ{j} h=>by
  have hj:j<its.toArray.size:=by
   have:=(UT.mp h).1
   simpa using this
  obtain⟨v,e1,rv⟩:=ni r hj
  obtain⟨e,ee,ge⟩:=g.get e1
  have:its.toArray[j]=y:=by
   have:=(UT.mp h).2
   simpa using this
  rw [this]at rv
  exact⟨e,v,kP ee,rv,ge⟩
 obtain⟨e,v,q1,q2,q3⟩:=at' h
 unfold zM
 cases q:cN (es.getD j .non) d with
 | true=>exact @UH _ (Classical.propDecidable _) ⟨j,h,q⟩
 | false =>
  refine @UG _ (Classical.propDecidable _) ?_
  rintro⟨j',h',z⟩
  obtain⟨e',v',p1,p2,p3⟩:=at' h'
  have:=RelV.inj p2 q2
  subst this
  have:=aY.inj I p3 q3
  rw [p1,this,←q1,q]at z
  cases z
theorem yA(I:Inv X pins σ H s){its:List Value}{es:List D}{xs:List V}{d:D}(g:bH X.K H es xs)(r:Vals xs its):its.any (zM its es d)=FO d es:=by
 have hl:its.length=es.length:=by rw [←r.length,g.length]
 unfold FO
 rw [@xp _ (zM its es d),@xp _ (λe=>cN e d),hl]
 have key:∀j∈List.range es.length,((its[j]?.map (zM its es d)).getD false)=((es[j]?.map λe=>cN e d).getD false):=λj hj=>by
  have hj':=List.mem_range.mp hj
  have e1:its[j]? = some its[j]:=UN (by omega)
  have e2:es[j]? = some es[j]:=UN hj'
  rw [e1,e2]
  show zM its es d its[j]=cN es[j] d
  rw [Bl I g r e1,kP e2]
 generalize List.range es.length=l at key
 induction l with
 | nil=>rfl
 | cons a l ih=>rw [List.any_cons,List.any_cons,key a (Va ..),ih λj hj=>key j (UQ _ hj)]
theorem uF(I:Inv X pins σ H s){A:Around}{its:List Value}{es:List D}{xs:List V}{d:D}{x:V}{u:Value}(g:bH X.K H es xs)(r:Vals xs its)(h:aY X.K H d x)(rx:RelV x u)(hu:A.units+1+cw es<cLine):∀y∈its.toArray,SeqAt.EqAt A.in1 s y u (zM its es d y):=λy hy=>by
 have hy':y∈its:=by simpa using hy
 obtain⟨j,hj,e⟩:=List.getElem_of_mem hy'
 have e1:its[j]? = some y:=by rw [UN hj,e]
 rw [Bl I g r e1]
 obtain⟨v,e2,rv⟩:=ni r (j:=j) (by simpa using hj)
 obtain⟨e',e3,ge⟩:=g.get e2
 have:its.toArray[j]'(by simpa using hj)=y:=by simpa using e
 rw [this]at rv
 rw [kP e3]
 have:=ke e3
 exact(wY I e'.depth (UD _) (by show A.units+1+e'.depth<cLine; omega) ge h rv rx).1
theorem rb:i6 X (compareOp .NotIn) (Oh X.K X.A true):=by
 intro pins s σ H x y v u Q I rx ry h
 obtain⟨d,es,p,xs,rfl,hq,h1,g,hu,q⟩:=h
 cases ry
 rcases hq with hq | hq
 ·obtain⟨its,r,pl,hz⟩:=I.list hq
  refine SeqAt.notIn_listAt (zM its es d) pl.isList (uF I g r h1 rx hu) ⟨.bl _,H,I,rfl,?_⟩
  rw [show its.toArray.any (zM its es d)=its.any (zM its es d) by simp,yA I g r]
  exact q
 ·obtain⟨its,r,pl,hz⟩:=I.tuple hq
  refine SeqAt.notIn_tupleAt (zM its es d) pl (uF I g r h1 rx hu) ⟨.bl _,H,I,rfl,?_⟩
  rw [show its.toArray.any (zM its es d)=its.any (zM its es d) by simp,yA I g r]
  exact q
end
section
variable{K:Ve}{H H':Hp}{a:Addr}
theorem aM.Pt{xs:List V}(e:aM H H')(h:aH K H a xs):aH K H' a xs:=by
 rcases h with h | h
 ·rcases h with h | ⟨o,h⟩
  ·exact .inl (.inl (e _ _ h))
  ·exact .inl (.inr ⟨o,e _ _ h⟩)
 ·exact .inr h
theorem aY.same(s:aM H H'){d:D}{v:V}(h:aY K H d v):aY K H' d v:=h.mono (λ_ _ q=>s.Pt q) (λ_ _ q=>s _ _ q)
theorem F4:aY K H .non .non:=by rw [aY]
theorem yz(x:Int):aY K H (.int x) (.int x):=by rw [aY]
theorem gz(x:Str):aY K H (.str x) (.str x):=by rw [aY]
theorem Ic(x:Bool):aY K H (.bl x) (.bl x):=by rw [aY]
theorem iU{vs:List V}{ds:List D}(h:H a=some (.tup vs))(g:bH K H ds vs):aY K H (.tup ds) (.ref a):=by rw [aY]; exact⟨a,vs,rfl,aH.of h,g⟩
theorem lb{vs:List V}{ds:List D}(h:H a=some (.lst vs))(g:bH K H ds vs):aY K H (.lst ds) (.ref a):=by rw [aY]; exact⟨a,vs,rfl,h,g⟩
end
section
variable{X:Cx}
end
section
variable{X:Cx}
end
section
variable{X:Cx}
end
section
variable{X:Cx}{a b:Expr}{rest:List Expr}{ta tb:TE}{pos:Pos}
end
def Dq(xs:Array Nat):Prop:=xs.toList.Pairwise (· < ·)
theorem Dq.lt{xs:Array Nat}(h:Dq xs){i j a b:Nat}(hij:i<j)(ha:xs[i]? = some a)(hb:xs[j]? = some b):a<b:=by
 rw [←Array.getElem?_toList]at ha hb
 obtain⟨h1,e1⟩:=UT.mp ha
 obtain⟨h2,e2⟩:=UT.mp hb
 rw [←e1,←e2]
 exact List.pairwise_iff_getElem.mp h i j h1 h2 hij
theorem p8{xs:Array Nat}(h:Dq xs)(j:Nat):∀(fuel lo hi:Nat),hi<=xs.size->lo<=hi->hi-lo<=fuel->(∀i a,i<lo->xs[i]? = some a->a<j)->(∀i a,hi<=i->xs[i]? = some a->j<=a)->
  SetTable.below.go xs j fuel lo hi<=xs.size/\(∀i a,i<SetTable.below.go xs j fuel lo hi->xs[i]? = some a->a<j)/\∀i a,SetTable.below.go xs j fuel lo hi<=i->xs[i]? = some a->j<=a
 | 0,lo,hi,h1,h2,h3,h4,h5=>by
  have e:lo=hi:=by omega
  subst e
  exact⟨h1,h4,h5⟩
 | fuel+1,lo,hi,h1,h2,h3,h4,h5=>by
  unfold SetTable.below.go
  by_cases hlt:lo<hi
  ·rw [if_pos hlt]
   have hm:(lo+hi) / 2<xs.size:=by omega
   have eg:xs[(lo+hi) / 2]? = some xs[(lo+hi) / 2]:=U7 hm
   have ed:xs.getD ((lo+hi) / 2) j=xs[(lo+hi) / 2]:=by simp [Array.getD,hm]
   dsimp only
   rw [ed]
   by_cases hc:xs[(lo+hi) / 2]<j
   ·rw [if_pos hc]
    refine p8 h j fuel _ hi h1 (by omega) (by omega) (λi a hi' e=>?_) h5
    by_cases q:i=(lo+hi) / 2
    ·subst q
     rw [eg]at e
     cases e
     exact hc
    ·exact Nat.lt_trans (h.lt (by omega) e eg) hc
   ·rw [if_neg hc]
    refine p8 h j fuel lo _ (by omega) (by omega) (by omega) h4 λi a hi' e=>?_
    by_cases q:i=(lo+hi) / 2
    ·subst q
     rw [eg]at e
     cases e
     omega
    ·have:=h.lt (show(lo+hi) / 2<i by omega) eg e
     omega
  ·rw [if_neg hlt]
   have e:lo=hi:=by omega
   subst e
   exact⟨h1,h4,h5⟩
theorem kB{xs:Array Nat}(h:Dq xs)(j:Nat):SetTable.below xs j<=xs.size/\(∀i a,i<SetTable.below xs j->xs[i]? = some a->a<j)/\∀i a,SetTable.below xs j<=i->xs[i]? = some a->j<=a :=
 p8 h j xs.size 0 xs.size (UD _) (U1 _) (by omega) (λi a hi=>absurd hi (by omega)) λi a hi e=>by
  rw [Array.getElem?_eq_none hi]at e
  cases e
theorem xx{xs:Array Nat}(h:Dq xs){j:Nat}(hn:xs[SetTable.below xs j]?≠some j):Dq (SetTable.insertAt xs (SetTable.below xs j) j):=by
 obtain⟨h1,h2,h3⟩:=kB h j
 unfold Dq
 rw [SetTable.toList_insertAt]
 have hl:∀a∈xs.toList.take (SetTable.below xs j),a<j:=λa ha=>by
  obtain⟨i,hi⟩:=List.mem_iff_getElem?.mp ha
  rw [List.getElem?_take]at hi
  split at hi
  ·rename_i hlt
   exact h2 i a hlt (by rw [←Array.getElem?_toList]; exact hi)
  ·cases hi
 have hr:∀a∈xs.toList.drop (SetTable.below xs j),j<a:=λa ha=>by
  obtain⟨i,hi⟩:=List.mem_iff_getElem?.mp ha
  rw [List.getElem?_drop,Array.getElem?_toList]at hi
  have q:=h3 _ a (Nat.le_add_right _ i) hi
  rcases Nat.lt_or_eq_of_le q with q | q
  ·exact q
  ·exfalso
   subst q
   cases i with
   | zero=>exact hn hi
   | succ i =>
    have hb:SetTable.below xs j<xs.size:=by
     have:=(Array.getElem?_eq_some_iff.mp hi).1
     omega
    have e0:xs[SetTable.below xs j]? = some xs[SetTable.below xs j]:=U7 hb
    have l1:=h3 _ _ (UD _) e0
    have l2:=h.lt (show SetTable.below xs j<SetTable.below xs j+(i+1) by omega) e0 hi
    omega
 have hp:(xs.toList.take (SetTable.below xs j)++xs.toList.drop (SetTable.below xs j)).Pairwise (· < ·):=by rw [List.take_append_drop]; exact h
 rw [List.pairwise_append]at hp
 first
 | (rw [List.pairwise_append]
    refine⟨hp.1,?_,λa ha b hb=>?_⟩
    ·exact List.pairwise_cons.mpr ⟨hr,hp.2.1⟩
    ·rcases UX.mp hb with e | hb
     ·subst e; exact hl a ha
     ·exact hp.2.2 a ha b hb)
 | skip
structure TabOk(t:SetTable)(b:Bool):Prop where
 OC:Dq t.place
 O6:t.dummies = #[]
 led:t.led=b
theorem yR(j:Nat):SetTable.has #[] j=false:=by simp [SetTable.has]
theorem mz{t:SetTable}(hd:t.dummies = #[]){f:Nat->Int}{h:Int}(hf:∀i,(f i==h)=false):∀(fuel:Nat) (p:SetTable.Probe) (j:Nat) (d:Option Nat),p.dummy=none->SetTable.probe.go t f h fuel p=some (.empty j d)->
  d=none/\t.slot j=.empty
 | 0,p,j,d,_,e=>by
  unfold SetTable.probe.go at e
  cases e
 | fuel+1,p,j,d,hp,e=>by
  have RN:∀p:SetTable.Probe,p.dummy=none->(t.advance p).dummy=none:=λp hp=>by
   unfold SetTable.advance
   split
   ·exact hp
   ·exact hp
  unfold SetTable.probe.go at e
  split at e
  ·rename_i hs
   cases e
   exact⟨hp,hs⟩
  ·rename_i hs
   unfold SetTable.slot at hs
   dsimp only at hs
   rw [hd,yR]at hs
   split at hs <;> cases hs
  ·rename_i i hs
   rw [hf i]at e
   exact mz hd hf fuel _ j d (RN p hp) e
theorem ym{t:SetTable}{j:Nat}(h:t.slot j=.empty):t.place[SetTable.below t.place j]?≠some j:=λe=>by
 unfold SetTable.slot at h
 dsimp only at h
 rw [e]at h
 rw [if_pos (by simp)]at h
 cases h
theorem An(n:Nat):Dq (Array.range n):=by
 unfold Dq
 rw [Array.toList_range]
 exact List.pairwise_lt_range
theorem iC{t:SetTable}{b:Bool}(h:TabOk t b)(n:Nat):TabOk (t.standIn n) b:=⟨An n,rfl,h.led⟩
theorem AB{t:SetTable}{b:Bool}(ok:TabOk t b)(es:Array (Int×Value))(h:Int)(x:Value):TabOk (layNew t es h x).2.1 b:=by
 unfold layNew
 split
 ·rename_i slot wd e
  have hs:t.slot slot=.empty:=by
   unfold SetTable.freeSlot at e
   split at e
   ·rename_i j d e2
    unfold SetTable.probe at e2
    obtain⟨q1,q2⟩:=mz ok.O6 (λ_=>by simp; omega) _ _ _ _ rfl e2
    subst q1
    cases e
    exact q2
   ·cases e
  have o2:TabOk (t.put slot).1 b:=by
   unfold SetTable.put
   refine⟨xx ok.OC (ym hs),?_,ok.led⟩
   show(if SetTable.has t.dummies slot=true then _ else t.dummies) = #[]
   rw [ok.O6,yR]
   rfl
  dsimp only
  unfold SetTable.orStandIn
  split
  ·exact o2
  ·exact iC o2 _
 ·exact iC ok _
theorem qB{α:Type}(f:Nat->Option α)(n:Nat):(((List.range n).filterMap λj=>(f j).map (j,·)).map (·.1)).Pairwise (· < ·):=by
 have e:(((List.range n).filterMap λj=>(f j).map (j,·)).map (·.1))=(List.range n).filter λj=>(f j).isSome:=by
  rw [List.map_filterMap,←List.filterMap_eq_filter]
  congr 1
  funext j
  cases hf:f j <;> simp [Option.guard,hf]
 rw [e]
 exact List.Pairwise.filter _ List.pairwise_lt_range
theorem uP{t:SetTable}{b:Bool}(ok:TabOk t b)(es:Array (Int×Value))(n:Nat):TabOk (relayAll t es n).2.1 b:=by
 unfold relayAll
 split
 ·rename_i t' order e
  have o2:TabOk t' b:=by
   unfold SetTable.relaid SetTable.laid at e
   simp only [bind,Option.bind_eq_some_iff]at e
   obtain⟨owner,_,e⟩:=e
   cases e
   exact⟨qB _ _,rfl,ok.led⟩
  dsimp only
  split
  ·exact o2
  ·exact iC ok _
 ·exact iC ok _
section
variable{prog:Program}{w:World}{A:Around}{E:Value->Shared->Prop}{s:Shared}
def ck(w:World):Bool:=w.params.followText "set-order"
def A6:Value->Key
 | .int i _=>.inl i
 | .str x _=>.inr x
 | _=>.inl 0
theorem x5{k:Key}{v:Value}(h:fO k v=true):A6 v=k:=by
 rcases bC h with⟨i,t,rfl,rfl⟩ | ⟨x,t,rfl,rfl⟩ <;> rfl
structure ft(prog:Program)(w:World)(h:Heap)(a:Addr)(ks:List Key)(es:Array (Int×Value))(ep:Nat)(t:SetTable):Prop where
 obj:h.get? a=some {cls:=.type "set",dict:=none,data:=.set es ep t,slots:=#[]}
 els:ElemsOf (bD prog w) es.toList
 few:es.size<scanBound
 fits:t.fits es.size=true
 tab:TabOk t (!ck w)
 Nn:ks.Nodup
 keys:(es.toList.map λe=>A6 e.2).Perm ks
theorem ft.keep{h h':Heap}{a:Addr}{ks:List Key}{es:Array (Int×Value)}{ep:Nat}{t:SetTable}(r:ft prog w h a ks es ep t)(k:∀o,h.get? a=some o->h'.get? a=some o):ft prog w h' a ks es ep t :=
 ⟨k _ r.obj,r.els,r.few,r.fits,r.tab,r.Nn,r.keys⟩
theorem ft.mem{h:Heap}{a:Addr}{ks:List Key}{es:Array (Int×Value)}{ep:Nat}{t:SetTable}(r:ft prog w h a ks es ep t){k:Key}:(∃e∈es.toList,(bD prog w).is k e.2=true)↔k∈ks:=by
 constructor
 ·rintro⟨e,he,hk⟩
  refine r.keys.mem_iff.mp (UW.mpr ⟨e,he,x5 hk⟩)
 ·intro hk
  obtain⟨e,he,q⟩:=UW.mp (r.keys.mem_iff.mpr hk)
  obtain⟨⟨k',hk',_⟩,_⟩:=r.els e he
  refine⟨e,he,?_⟩
  have:A6 e.2=k':=x5 hk'
  rw [←q,this]
  exact hk'
open Classical in
noncomputable def lG (ks:List Key) (k:Key):List Key:=if k∈ks then ks else ks++[k]
theorem yu{h:Heap}{a:Addr}{es:Array (Int×Value)}{ep:Nat}{t:SetTable}(ho:h.get? a=some {cls:=.type "set",dict:=none,data:=.set es ep t,slots:=#[]})(es':Array (Int×Value))(t':SetTable) :
  (h.update a (Obj.putSet es' t')).get? a=some {cls:=.type "set",dict:=none,data:=.set es' (ep+1) t',slots:=#[]}:=by
 have:=Heap.get?_update_self (Obj.putSet es' t') ho (by rw [putSet_of es' t' rfl]; rfl)
 rw [putSet_of es' t' rfl]at this
 exact this
theorem uK{g:Bool->Sem Unit}(hg:∀(b:Bool) (s₁:Shared) (Q':Unit->Shared->Prop),Q' () s₁->wpAny (model prog w) A (g b) Q' E s₁)
  {a:Addr} {es:Array (Int×Value)} {ep:Nat} {t:SetTable} (ho:s.heap.get? a=some {cls:=.type "set",dict:=none,data:=.set es ep t,slots:=#[]})
  {es1:Array (Int×Value)} {t2:SetTable} {ks:List Key} (he:ElemsOf (bD prog w) es1.toList) (hb:es1.size<scanBound) (hf:t2.fits es1.size=true) (ht:TabOk t2 (!ck w)) (hn:ks.Nodup) (hk:(es1.toList.map λe=>A6 e.2).Perm ks)
  {wasDummy:Bool} {R:Option Bool->Shared->Prop}
  (h:∀h' es' ep' t',Heap.SameBut a s.heap h'->ft prog w h' a ks es' ep' t'->R (some true) {s with heap:=h'}) :
  wpAny (model prog w) A (do
    storeSet a es1 t2
    if(!wasDummy&&t2.tooFull)=true then do
      g (relayAll t2 es1 (SetTable.grown es1.size)).2.2
      storeSet a (relayAll t2 es1 (SetTable.grown es1.size)).1 (relayAll t2 es1 (SetTable.grown es1.size)).2.1
      pure (some true)
     else pure (some true)) R E s:=by
 refine Uy (wpAny_storeSet_of ho rfl ?_ (fits_of_scanBound hb))
 have ho1:=yu ho es1 t2
 have Qq:=Heap.SameBut.update s.heap a (Obj.putSet es1 t2)
 split
 ·have hp:=relayAll_perm t2 es1 (SetTable.grown es1.size)
  have hfr:=relayAll_fits t2 es1 (SetTable.grown es1.size)
  have hto:=uP ht es1 (SetTable.grown es1.size)
  generalize hRl:relayAll t2 es1 (SetTable.grown es1.size)=Rl at hp hfr hto⊢
  obtain⟨es2,t3,gave2⟩:=Rl
  dsimp only at hp hfr hto⊢
  have hsz:es2.size=es1.size:=by rw [←Array.length_toList,hp.length_eq,Array.length_toList]
  have hb2:es2.size<scanBound:=by rw [hsz]; exact hb
  refine Uy (hg _ _ _ ?_)
  refine Uy (wpAny_storeSet_of ho1 rfl ?_ (fits_of_scanBound hb2))
  exact Uz (h _ es2 _ t3 (Qq.trans (Heap.SameBut.update _ a _)) ⟨yu ho1 es2 t3,he.perm hp,hb2,hfr,hto,hn,(hp.map _).trans hk⟩)
 ·exact Uz (h _ es1 _ t2 Qq ⟨ho1,he,hb,hf,ht,hn,hk⟩)
theorem xI{a:Addr}{ks:List Key}{es:Array (Int×Value)}{ep:Nat}{t:SetTable}{k:Key}{x:Value}{Q:Bool->Shared->Prop}(hkey:fO k x=true)(hsc:x.scannable=true)(hS:ft prog w s.heap a ks es ep t)
  (hroom:ks.length+1<scanBound)
  (h:∀b h' es' ep' t',Heap.SameBut a s.heap h'->ft prog w h' a (lG ks k) es' ep' t'->Q b {s with heap:=h'}) :
  wpAny (model prog w) A (setAddHashed a x ((bD prog w).hash k)) Q E s:=by
 have Mr:es.size=ks.length:=by rw [←hS.keys.length_eq,UI,Array.length_toList]
 have hkey':(bD prog w).is k x=true:=hkey
 have hel:=hS.els
 unfold setAddHashed setAddHashedIn
 refine U9 (Uy (wpAny_setState_of hS.obj rfl hS.fits ?_))
 dsimp only
 rw [byScan_of hsc hS.few hel]
 simp only [↓reduceIte]
 unfold setAddByScan
 refine Uy ?_
 refine Uy (wpAny_rule ?_)
 refine Uy (wpAny_setScan_of hkey' hS.obj rfl hS.fits hel ?_)
 cases hr:List.findIdx? (λe=>(bD prog w).is k e.2) es.toList with
 | some j =>
  dsimp only
  obtain⟨hj,hpj,_⟩:=List.findIdx?_eq_some_iff_getElem.mp hr
  have hin:k∈ks:=hS.mem.mp ⟨es.toList[j],List.getElem_mem hj,hpj⟩
  refine Uz (Uz ?_)
  have e:s ={s with heap:=s.heap}:=by cases s; rfl
  have:=h false s.heap es ep t (Heap.SameBut.refl a s.heap) (by unfold lG; rw [if_pos hin]; exact hS)
  rw [e]
  exact this
 | none =>
  dsimp only
  have hout:k∉ks:=λhin=>by
   obtain⟨e,he,hp⟩:=hS.mem.mpr hin
   have:=List.findIdx?_eq_none_iff.mp hr e he
   rw [hp]at this
   exact Bool.noConfusion this
  have hgw:∀(b:Bool) {s₁:Shared} {Q':Unit->Shared->Prop},Q' () s₁->wpAny (model prog w) A (match b with | true=>rule "set.scan.the-table-gave-way" | false=>pure ()) Q' E s₁ :=
   λb s₁ Q' hq=>by cases b <;> first | exact Uz hq | exact wpAny_rule hq
  have hperm:=layNew_perm t es ((bD prog w).hash k) x
  have hfits:=layNew_fits t es ((bD prog w).hash k) x
  have htab:=AB hS.tab es ((bD prog w).hash k) x
  generalize hL:layNew t es ((bD prog w).hash k) x=L at hperm hfits htab⊢
  obtain⟨es1,t1,wasDummy,gave⟩:=L
  dsimp only at hperm hfits htab⊢
  rw [Array.toList_push]at hperm
  have hel1:ElemsOf (bD prog w) es1.toList:=(hel.push hkey' hsc).perm hperm
  have hb1':es1.size<scanBound:=by
   rw [←Array.length_toList,hperm.length_eq,UJ,Array.length_toList,Mr]
   simpa using hroom
  have P0:lG ks k=ks++[k]:=by unfold lG; rw [if_neg hout]
  have Ar:(lG ks k).Nodup:=by
   rw [P0,List.nodup_append]
   exact⟨hS.Nn,by simp,λx hx y hy e=>by simp at hy; subst hy; subst e; exact hout hx⟩
  have hkeys:(es1.toList.map λe=>A6 e.2).Perm (lG ks k):=by
   rw [P0]
   refine(hperm.map _).trans ?_
   rw [UK]
   refine hS.keys.append ?_
   show [A6 x].Perm [k]
   rw [x5 hkey]
  refine Uy (hgw _ ?_)
  split
  ·refine Uy ?_
   rw [hashByValue_scannable 8 hsc]
   refine Uz ?_
   refine uK (ks:=lG ks k) ?_ hS.obj hel1 hb1' ?_ ?_ Ar hkeys ?_
   ·intro b s₁ Q' hq; cases b <;> first | exact Uz hq | exact wpAny_rule hq
   ·split
    ·exact hfits
    ·exact SetTable.fits_plain_off hfits
   ·split
    ·exact htab
    ·exact⟨htab.OC,htab.O6,htab.led⟩
   ·intro h' es' ep' t' hsb hS'; dsimp only; exact Uz (h true h' es' ep' t' hsb hS')
  ·refine Uy (Uz ?_)
   simp only [↓reduceIte]
   refine uK (ks:=lG ks k) ?_ hS.obj hel1 hb1' hfits htab Ar hkeys ?_
   ·intro b s₁ Q' hq; cases b <;> first | exact Uz hq | exact wpAny_rule hq
   ·intro h' es' ep' t' hsb hS'; dsimp only; exact Uz (h true h' es' ep' t' hsb hS')
noncomputable def kf (key:Nat->Key):Nat->List Key
 | 0=>[]
 | i+1=>lG (kf key i) (key i)
theorem B7(ks:List Key)(k:Key):(lG ks k).length<=ks.length+1:=by
 unfold lG
 split
 ·omega
 ·simp
theorem nQ(key:Nat->Key):∀i,(kf key i).length<=i
 | 0=>UD _
 | i+1=>UE (B7 _ _) (Nat.succ_le_succ (nQ key i))
theorem BJ{ks:List Key}{k x:Key}:x∈lG ks k↔x∈ks\/x=k:=by
 unfold lG
 split
 ·rename_i h
  exact⟨.inl,λq=>q.elim id λe=>e▸h⟩
 ·simp
theorem vP{key:Nat->Key}{x:Key}:∀{i:Nat},x∈kf key i↔∃j,j<i/\key j=x
 | 0=>by simp [kf]
 | i+1=>by
  show x∈lG (kf key i) (key i)↔_
  rw [BJ,vP]
  constructor
  ·rintro(⟨j,hj,e⟩ | e)
   ·exact⟨j,Nat.lt_succ_of_lt hj,e⟩
   ·exact⟨i,Nat.lt_succ_self _,e.symm⟩
  ·rintro⟨j,hj,e⟩
   rcases Nat.lt_succ_iff_lt_or_eq.mp hj with q | q
   ·exact .inl ⟨j,q,e⟩
   ·exact .inr (by rw [←e,q])
end
section
variable{prog:Program}{w:World}{A:Around}{R:Result->Shared->Prop}{I:Addr}{fp wr:List Addr}{G:Array GenState->Array GenState->Prop}{n:Nat}{P:Nat->Value->Prop}{St:Nat->Shared->Prop}
theorem DQ(W:WalksS prog w A.in1 I fp wr G n P St)(S:Addr)(hSf:S∉fp)(key:Nat->Key)(hval:∀i v,P i v->fO (key i) v=true/\v.scannable=true)(hb:n+1<scanBound) :
  ∀(k i:Nat) (s:Shared) (es:Array (Int×Value)) (ep:Nat) (t:SetTable),n-i=k->i<=n->St i s->ft prog w s.heap S (kf key i) es ep t->
   (∀s' es' ep' t',Moved (S::wr) G s s'->ft prog w s'.heap S (kf key n) es' ep' t'->R (.ok (.ret .none)) s')->
   codeAny (model prog w) A (.builtin "set.update.loop" ⟨[.ref S,.ref I],[]⟩) R s:=by
 have hSw:S∉wr:=λh=>hSf (W.sub _ h)
 have hsub:∀b∈wr,b∈S::wr:=λb hb=>UQ _ hb
 intro k
 induction k with
 | zero =>
  intro i s es ep t hk hi hst hS hR
  have hin:i=n:=by omega
  subst hin
  refine codeAny_builtin F.entry_set_update_loop ?_
  rw [Around.under_plainId F.plain_set_update_loop _]
  show wpAny _ A.in1 (pyNext (.ref I) >>= _) _ _ s
  refine Uy (W.done s _ _ hst λs' hm=>?_)
  show wpAny _ A.in1 (ret Value.none) _ _ s'
  exact Uz (hR s' es ep t (hm.mono hsub) (hS.keep λo e=>hm.heap S o hSw e))
 | succ k ih =>
  intro i s es ep t hk hi hst hS hR
  have hlt:i<n:=by omega
  refine codeAny_builtin F.entry_set_update_loop ?_
  rw [Around.under_plainId F.plain_set_update_loop _]
  show wpAny _ A.in1 (pyNext (.ref I) >>= _) _ _ s
  refine Uy (W.item i s _ _ hlt hst λv s' hP hst' hm=>?_)
  obtain⟨hv1,hv2⟩:=hval i v hP
  have hS':=hS.keep (h':=s'.heap) λo e=>hm.heap S o hSw e
  show wpAny _ A.in1 (holding [v] (setAdd S v) >>= _) _ _ s'
  refine Uy (U9 ?_)
  unfold setAdd
  refine U9 ?_
  refine Uy ((bD prog w).pyHash (k:=key i) hv1 ?_)
  have hroom:(kf key i).length+1<scanBound:=by have:=nQ key i; omega
  refine xI (s:={s' with toks:=s'.toks+1}) hv1 hv2 hS' hroom λb h' es' ep' t' hsb hS2=>?_
  refine Uz ⟨plainId_quiet F.plain_set_update_loop _,ih (i+1) _ es' ep' t' (by omega) hlt (W.frame _ s' _ _ hst' (Nat.le_succ _) λb hb o e=>?_) hS2 λs'' es2 RZ t2 hm'' hS''=>?_⟩
  ·rw [hsb.2 b (λh:b=S=>hSf (by rw [←h]; exact hb))]; exact e
  ·refine hR s'' es2 RZ t2 (Moved.trans W.gtrans ((hm.mono hsub).then_heap (Nat.le_succ _) λb o hb e=>?_) hm'') hS''
   rw [hsb.2 b (λh:b=S=>hb (by rw [h]; exact Va))]; exact e
end
section
variable{prog:Program}{w:World}{A:Around}{E:Value->Shared->Prop}{s:Shared}
theorem vX(a:Value){Q₁:Value->Shared->Prop}
  (h:Q₁ (.ref s.heap.objs.size) {s with heap:=s.heap.push {cls:=.type "set",dict:=none,data:=.set #[] 0 (.fresh 0 0 (!ck w))}}) :
  codeAny (model prog w) A (.call (.builtin "set.__new__") ⟨[.type "set",a],[]⟩) (wants Q₁ E) s:=by
 refine codeAny_of_tree ?_
 show wpAny _ A.in1 (do checkBuiltinCall "set.__new__" ⟨[.type "set",a],[]⟩; again (.builtin "set.__new__" ⟨[.type "set",a],[]⟩)) _ _ s
 refine Uy (wpAny_of_eq (F.newCall_set_1 a) (Uz ⟨plainId_quiet F.plain_set_new _,codeAny_builtin F.entry_set_new ?_⟩))
 rw [Around.under_plainId F.plain_set_new _]
 unfold Builtin.«set.__new__» Builtin.Frozenset.newClass
 have hsub:=sub_set_self
 obtain⟨hp,g,d,tk,os⟩:=s
 dsimp only
 wp_walk
 refine wpAny_askSetting (Uz ?_)
 dsimp only
 simp only [newObj]
 refine Uy (wpAny_alloc (Uz ?_))
 exact Uz h
end
theorem sub_tuple_set:isSubtype (.type "tuple") (.type "set")=pure false:=by rw [isSubtype_type]; kernel_rfl
theorem sub_tuple_frozenset:isSubtype (.type "tuple") (.type "frozenset")=pure false:=by rw [isSubtype_type]; kernel_rfl
structure sd(prog:Program)(w:World)(T:String)(l:Addr)(items:Array Value):Prop where
 J0:isSubtype (.type T) (.type "set")=pure false
 Je:isSubtype (.type T) (.type "frozenset")=pure false
 nd:(Value.type T==Value.type "dict")=false
 it:∀(A:Around) (s:Shared) (o:Obj),A.handled=none->s.heap.get? l=some o->o.cls=.type T->(∃n,o.data=.seq items n)->∃(oI:Obj) (St:Nat->Heap->Prop),
  (∀(E:Value->Shared->Prop) (Q:Value->Shared->Prop),Q (.ref s.heap.objs.size) {s with heap:=s.heap.push oI}->wpAny (model prog w) A (pyIter (.ref l)) Q E s)/\
  Walks prog w A s.heap.objs.size [s.heap.objs.size,l] [s.heap.objs.size] items.size (λi v=>items[i]? = some v) St/\St 0 (s.heap.push oI)
theorem src_list{prog:Program}{w:World}{l:Addr}{items:Array Value}:sd prog w "list" l items where
 J0:=F.sub_list_set
 Je:=F.sub_list_frozenset
 nd:=by decide
 it:=λA s o hh ho hc hd=>by
  have hl:s.heap.IsList l items:=⟨o,ho,hc,hd⟩
  refine⟨_,_,λE Q q=>wpAny_pyIter_list hl q,Walks.list hh _ l (U0 (UB ho)) items,⟨_,UC _ rfl,rfl,rfl⟩,hl.push _⟩
theorem EY{prog:Program}{w:World}{l:Addr}{items:Array Value}:sd prog w "tuple" l items where
 J0:=sub_tuple_set
 Je:=sub_tuple_frozenset
 nd:=by decide
 it:=λA s o hh ho hc hd=>by
  have hl:s.heap.IsTuple l items:=⟨o,ho,hc,hd⟩
  refine⟨_,_,λE Q q=>wpAny_pyIter_tuple hl q,Walks.tuple hh _ l (U0 (UB ho)) items,⟨_,UC _ rfl,rfl,rfl⟩,hl.push _⟩
section
variable{prog:Program}{w:World}{A:Around}{E:Value->Shared->Prop}{s:Shared}
theorem vH{T:String}{l:Addr}{items:Array Value}{o:Obj}{key:Nat->Key}{Q:Value->Shared->Prop}(src:sd prog w T l items)
  (hh:A.handled=none) (ho:s.heap.get? l=some o) (hc:o.cls=.type T) (hdt:∃n,o.data=.seq items n) (hi:∀i v,items[i]? = some v->fO (key i) v=true/\v.scannable=true) (hb:items.size+1<scanBound)
  (h:∀(h':Heap) (tk:Nat) es ep t,ft prog w h' s.heap.objs.size (kf key items.size) es ep t->(∀b o,s.heap.get? b=some o->h'.get? b=some o)->Q (.ref s.heap.objs.size) {s with heap:=h',toks:=tk}) :
  wpAny (model prog w) A (call (.type "set") [.ref l]) Q E s:=by
 obtain⟨c,tl,hmro⟩:=F.called_set.mro
 have hmade:=F.called_set.made
 have hsub:=F.called_set.sub
 refine wpAny_call (codeAny_of_tree ?_)
 show wpAny _ _ (callAny (.type "set") _) _ _ _
 refine Uz ⟨Code.quiet_builtin _ (by decide +kernel),codeAny_builtin F.entry_type_call ?_⟩
 rw [Around.under_plain (weight_type_call_type "set" [.ref l] []) rfl]
 have h1:=F.called_set.notType
 have h2:=F.called_set.canCreate
 have hct:=F.typeCall_set_1 (.ref l)
 repeat (any_goals (first | assumption | wp_step))
 refine codeAny_mono (vX (.ref l) (E:=E) (Q₁:=λobj s₁=>obj=.ref s.heap.objs.size/\s₁ ={s with heap:=s.heap.push {cls:=.type "set",dict:=none,data:=.set #[] 0 (.fresh 0 0 (!ck w))}}) ⟨rfl,rfl⟩) λr s₁ hr=>?_
 cases r with
 | error e=>exact hr
 | ok fl =>
  cases fl with
  | ret obj =>
   obtain⟨rfl,rfl⟩:=hr
   have hS:(s.heap.push {cls:=.type "set",dict:=none,data:=.set #[] 0 (.fresh 0 0 (!ck w))}).get? s.heap.objs.size=some {cls:=.type "set",dict:=none,data:=.set #[] 0 (.fresh 0 0 (!ck w))}:=UC _ rfl
   have hT:Shared.TypeIs {s with heap:=s.heap.push {cls:=.type "set",dict:=none,data:=.set #[] 0 (.fresh 0 0 (!ck w))}} (.ref s.heap.objs.size) "set":=⟨_,hS,rfl⟩
   have hli:=F.called_set.init.lookup
   have hbi:=F.called_set.init.bind (.ref s.heap.objs.size)
   repeat (any_goals (first | assumption | wp_step))
   refine codeAny_mono (codeAny_call_builtin (R:=wants (λr s₂=>r=.none/\∃h' tk es ep t,s₂ ={s with heap:=h',toks:=tk}/\
     ft prog w h' s.heap.objs.size (kf key items.size) es ep t/\(∀b o,s.heap.get? b=some o->h'.get? b=some o)) E) F.called_set.init.plain F.entry_set_init (check_set_init_1 hT ?_)) λr₂ s₂ hr₂=>?_
   ·have ho':(s.heap.push {cls:=.type "set",dict:=none,data:=.set #[] 0 (.fresh 0 0 (!ck w))}).get? l=some o:=UA _ ho
    have Us:Shared.TypeIs {s with heap:=s.heap.push {cls:=.type "set",dict:=none,data:=.set #[] 0 (.fresh 0 0 (!ck w))}} (.ref l) T:=⟨_,ho',hc⟩
    have hsls:=src.J0
    have hslf:=src.Je
    have hne:=src.nd
    obtain⟨oI,St,hit,W,st⟩:=src.it A.in1.in1.in1 {s with heap:=s.heap.push {cls:=.type "set",dict:=none,data:=.set #[] 0 (.fresh 0 0 (!ck w))}} o (by simpa using hh) ho' hc hdt
    unfold Builtin.«set.__init__» noKeywords Builtin.Frozenset.updateFrom
    generalize hPI:pyIter=PI
    wp_walk
    subst hPI
    refine wpAny_of_in1 (hit _ _ ?_)
    refine Uy (wpAny_runValue ?_)
    have hlS:l<s.heap.objs.size:=UB ho
    have hsz:(s.heap.push {cls:=.type "set",dict:=none,data:=.set #[] 0 (.fresh 0 0 (!ck w))}).objs.size=s.heap.objs.size+1:=Heap.size_push _ _
    have hSf:s.heap.objs.size∉[(s.heap.push {cls:=.type "set",dict:=none,data:=.set #[] 0 (.fresh 0 0 (!ck w))}).objs.size,l]:=by
     rw [hsz]; simp only [UX,List.not_mem_nil,or_false,not_or]
     exact⟨U0 (Nat.lt_succ_self _),Nat.ne_of_gt hlS⟩
    refine DQ W.toS s.heap.objs.size hSf key (λi v hv=>hi i v hv) hb (items.size-0) 0 _ #[] 0 (SetTable.fresh 0 0 (!ck w)) (by omega) (U1 _) st ?hS0 ?hR
    case hS0 =>
     have hget:=UA oI hS
     exact⟨hget,λe he=>absurd he (by simp),by unfold scanBound; decide,by simp [SetTable.fits,SetTable.fresh,SetTable.fill],⟨List.Pairwise.nil,rfl,rfl⟩,List.nodup_nil,by simp [kf]⟩
    case hR =>
     intro s' es' ep' t' hm hS'
     obtain⟨h',g',d',tk',os'⟩:=s'
     have eg:g'=s.gens:=hm.gens
     have ed:d'=s.drawn:=hm.drawn
     have eo:os'=s.os:=hm.os
     subst eg; subst ed; subst eo
     show wpAny _ _ _ _ _ _
     refine Uz ?_
     show wpAny _ _ (ret Value.none) _ _ _
     refine Uz ⟨rfl,h',tk',es',ep',t',rfl,hS',λb o e=>?_⟩
     have hb1:b≠s.heap.objs.size:=U0 (UB e)
     have hb2:b≠(s.heap.push {cls:=.type "set",dict:=none,data:=.set #[] 0 (.fresh 0 0 (!ck w))}).objs.size:=by
      rw [hsz]; exact U0 (Nat.lt_succ_of_lt (UB e))
     exact hm.heap b o (by simp only [UX,List.not_mem_nil,or_false,not_or]; exact⟨hb1,hb2⟩) (UA _ (UA _ e))
   ·cases r₂ with
    | error e=>exact hr₂
    | ok fl₂ =>
     cases fl₂ with
     | ret r =>
      obtain⟨rfl,h',tk,es,ep,t,rfl,hS',hk'⟩:=hr₂
      repeat (any_goals (first | assumption | wp_step))
      exact h _ _ es ep t hS' hk'
     | _=>exact hr₂.elim
  | _=>exact hr.elim
end
theorem mM:entryFor table "set.__iter__"=some Builtin.«frozenset.__iter__» :=
 entryFor_alias (id':="frozenset.__iter__") (by kernel_rfl) rfl (by decide +kernel) (by kernel_rfl)
theorem eO:Slot "set_iterator" "__next__" "set_iterator.__next__" :=
 .of (owner:="set_iterator") (n:="__next__") (by rw [typeLookup_type,builtinLookup_eq_fast]; kernel_rfl) (by decide +kernel) (by decide +kernel) (by decide +kernel)
  (by first | exact .inl (by decide +kernel) | exact .inr (by decide +kernel)) (by rw [isSubtype_type]; kernel_rfl)
theorem qg:entryFor table "set_iterator.__next__"=some Builtin.«set_iterator.__next__»:=entryFor_of_fast (by kernel_rfl)
theorem s_(a:Value):argsOk "set_iterator.__next__" ⟨[a],[]⟩:=by unfold argsOk; kernel_rfl
section
variable{prog:Program}{w:World}{A:Around}{E:Value->Shared->Prop}{s:Shared}
theorem Ah{src:Source}{n:Nat}{Q:Nat->Shared->Prop}(hn:n≠0)(h:∀k d,k<n->Q k {s with drawn:=d}):wpAny (model prog w) A (choose src n) Q E s:=λ_ _ _ =>
 ⟨hn,h _ _ (Nat.mod_lt _ (Nat.pos_of_ne_zero hn))⟩
theorem gQ{α:Type}:∀{xs:List α} {i:Nat} {x:α},xs[i]? = some x->(x::xs.eraseIdx i).Perm xs
 | [],i,x,h=>by simp at h
 | y::ys,0,x,h=>by
  have e:y=x:=by simpa using h
  subst e
  exact List.Perm.refl _
 | y::ys,i+1,x,h=>by
  have h':ys[i]? = some x:=by simpa using h
  exact(List.Perm.swap _ _ _).trans ((gQ h').cons y)
theorem lE{α:Type}:∀(n:Nat) (xs:List α) (s:Shared) {Q:List α->Shared->Prop},xs.length=n->(∀ys d,ys.Perm xs->Q ys {s with drawn:=d})->wpAny (model prog w) A (drawOrder n xs) Q E s
 | 0,xs,s,Q,e,h=>by
  have:xs=[]:=List.length_eq_zero_iff.mp e
  subst this
  unfold drawOrder
  exact Uz (h [] s.drawn (List.Perm.refl _))
 | n+1,[],s,Q,e,h=>by cases e
 | n+1,x::xs,s,Q,e,h=>by
  unfold drawOrder
  refine Uy (Ah (by simp) λk d hk=>?_)
  have hk':(x::xs)[k]? = some (x::xs)[k]:=UN hk
  rw [hk']
  dsimp only
  refine Uy (lE n _ _ (by rw [List.length_eraseIdx_of_lt hk,e]; rfl) λys d' hp=>?_)
  exact Uz (h _ d' ((hp.cons _).trans (gQ hk')))
abbrev eX(first:Value)(i:Nat)(S:Addr)(n ep:Nat):Obj:={cls:=.type "set_iterator",data:=.fields #[first,.int i 0,.ref S,.int n 0,.int ep 0]}
def lN(es:Array (Int×Value))(t:SetTable):Bool:=!t.plain&&decide (es.size > 1)
theorem Bv{S:Addr}{ks:List Key}{es:Array (Int×Value)}{ep:Nat}{t:SetTable}{Q:Value->Shared->Prop}(hS:ft prog w s.heap S ks es ep t)
  (h1:(!ck w&&lN es t)=false->Q (.ref s.heap.objs.size) {s with heap:=s.heap.push (eX (.int 0 0) 0 S es.size ep)})
  (h2:(!ck w&&lN es t)=true->∀(d:Drawn) (ps:List Nat),ps.Perm (List.range es.size)->Q (.ref (s.heap.objs.size+1)) {s with heap:=(s.heap.push {cls:=.type "tuple",data:=.seq (ps.map λ(i:Nat)=>Value.int i 0).toArray}).push (eX (.ref s.heap.objs.size) 0 S es.size ep),drawn:=d}) :
  wpAny (model prog w) A (pyIter (.ref S)) Q E s:=by
 have hT:s.TypeIs (.ref S) "set":=⟨_,hS.obj,rfl⟩
 have hz:es.size<=sizeLine:=fits_of_scanBound hS.few
 refine wpAny_pyIter_slot hT F.slot_set_iter (wpAny_call_entry F.slot_set_iter hT mM ?_ (F.args_set_iter_1 _))
 unfold Builtin.«frozenset.__iter__» Builtin.Frozenset.slot0 slotArgs
 simp only [List.isEmpty_nil,Bool.not_true,Bool.false_eq_true,↓reduceIte,bind_assoc,List.length_nil,bne_self_eq_false]
 unfold Builtin.Frozenset.addrOf Builtin.Frozenset.sizeOf
 refine Uy (Uz ?_)
 try dsimp only
 refine Uy (Uz ?_)
 refine Uy (Uy (wpAny_setEntries_of hS.obj rfl hS.fits (Uz ?_)))
 unfold setDrawn setsByText
 refine Uy (Uy (wpAny_setState_of hS.obj rfl hS.fits (Uy (Uy (wpAny_askSetting (Uz (Uz ?_)))))))
 show wpAny _ _ (if(!ck w&&lN es t)=true then _ else _) _ _ _
 cases hb:(!ck w&&lN es t)
 ·rw [if_neg (by simp)]
  refine Uy (Uz ?_)
  refine Uy (wpAny_setEpoch_of hS.obj rfl hS.fits ?_)
  refine Uy (U_ (Uz ⟨_,rfl,"set_iterator",_,⟨_,UC _ rfl,rfl⟩,eO.lookup,?_⟩))
  exact h1 hb
 ·rw [if_pos rfl]
  refine Uy (lE es.size (List.range es.size) s (by simp) λps d hp=>?_)
  have hl:ps.length=es.size:=by rw [hp.length_eq]; simp
  refine Uy (wpAny_newTuple ?_ (by rw [UI,hl]; exact hz))
  have hS2:=hS.keep (h':=s.heap.push {cls:=.type "tuple",data:=.seq (ps.map λ(i:Nat)=>rawInt i).toArray}) λo e=>UA _ e
  refine Uy (wpAny_setEpoch_of hS2.obj rfl hS2.fits ?_)
  refine Uy (U_ (Uz ⟨_,rfl,"set_iterator",_,⟨_,UC _ rfl,rfl⟩,eO.lookup,?_⟩))
  have:=h2 hb d ps hp
  rw [size_push']
  exact this
theorem lj{I S:Addr}{first:Value}{i n ep:Nat}{Q:Option Value->Shared->Prop}(hI:s.heap.get? I=some (eX first i S n ep))
  (h:wpAny (model prog w) A.in1 (Builtin.«set_iterator.__next__» ⟨[.ref I],[]⟩) (λfin s'=>∃r,fin=.done (.ret r)/\Q (some r) s') (λe s'=>wpAny (model prog w) A (do if←isInstance e (.type "StopIteration")then pure none else throw e) Q E s') s) :
  wpAny (model prog w) A (pyNext (.ref I)) Q E s:=by
 have hT:s.TypeIs (.ref I) "set_iterator":=⟨_,hI,rfl⟩
 unfold pyNext
 refine Uy (wpAny_attempt (wpAny_callSpecial?_slot (name:=Str.ofString "__next__") hT eO (wpAny_call_entry eO hT qg ?_ (s_ _))))
 refine U8 h (λfin s' q=>?_) λe s' q=>?_
 ·obtain⟨r,rfl,q⟩:=q
  exact⟨_,rfl,Uz q⟩
 ·exact q
theorem kQ{I S:Addr}{first:Value}{i n ep:Nat}(hI:s.heap.get? I=some (eX first i S n ep)){first':Value}{i':Nat}{fs:Array Value}(k:Nat)(v:Value)(hk:k<5)(e:(#[first,.int i 0,.ref S,.int n 0,.int ep 0]:Array Value).setIfInBounds k v=fs) :
  (s.heap.update I (Obj.mapFields (·.setIfInBounds k v))).get? I=some {cls:=.type "set_iterator",data:=.fields fs}:=by
 have:=Heap.get?_update_self (Obj.mapFields (·.setIfInBounds k v)) hI (Obj.isFreed_of_fields (Obj.data_mapFields (o:=eX first i S n ep) rfl _))
 rw [this,←e]
 rfl
end
section
variable{prog:Program}{w:World}{A:Around}{E:Value->Shared->Prop}{s:Shared}
theorem uY{Q:Option Value->Shared->Prop}{h0:Heap}{I:Addr}(hh:A.handled=none)(hQ:∀h',Heap.ExtBut I h0 h'->Q none {s with heap:=h'})(hs:Heap.ExtBut I h0 s.heap) :
  wpAny (model prog w) A.in1 (newExc (.type "StopIteration") [] >>= λe=>(raiseNew e:Sem Fin)) (λfin s'=>∃r,fin=.done (.ret r)/\Q (some r) s') (λe s'=>wpAny (model prog w) A (do if←isInstance e (.type "StopIteration")then pure none else throw e) Q E s') s:=by
 refine Uy ?_
 simp only [newExc,newTuple]
 refine Uy (U_ ?_ (by size_fits))
 refine Uy (m:=firstArgMember _ _) (wpAny_of_eq (a:=Value.none) (by first | rfl | (simp only [firstArgMember]; rfl)) ?_)
 refine U_ ?_ (by size_fits)
 simp only [raiseNew]
 refine Uy (wpAny_handled ?_)
 rw [show A.in1.handled=none from hh]
 refine Uy (Uz (wpAny_throw ?_))
 refine Uy (wpAny_isInstance (T:="StopIteration") (b:=true) ⟨_,UC _ rfl,rfl⟩ isSubtype_stop ?_)
 exact Uz (hQ _ ((hs.push _).push _))
theorem nE{I S:Addr}{ks:List Key}{es:Array (Int×Value)}{i ep:Nat}{t:SetTable}{first:Value}{R:Fin->Shared->Prop}{F:Value->Shared->Prop}(hI:s.heap.get? I=some (eX first i S es.size ep))(hS:ft prog w s.heap S ks es ep t)
  (h:wpAny (model prog w) A (if let .int slot _:=first then do
    match←setNext S slot.toNat i ep with
    | some (x,next) =>
     setField (.ref I) 0 (rawInt next)
     setField (.ref I) 1 (rawInt (i+1))
     ret x
    | none=>setField (.ref I) 2 .none; raiseNew (←newExc (.type "StopIteration") [])
   else do
    let some places←seqItems? first | unsupported "internal:set_iterator"
    match places[i]? with
    | some (.int place _) =>
     let x←setNextDrawn S place.toNat ep
     setField (.ref I) 1 (rawInt (i+1))
     ret x
    | some _=>unsupported "internal:set_iterator"
    | none=>setField (.ref I) 0 (rawInt 0); setField (.ref I) 2 .none; raiseNew (←newExc (.type "StopIteration") [])) R F s) :
  wpAny (model prog w) A (Builtin.«set_iterator.__next__» ⟨[.ref I],[]⟩) R F s:=by
 unfold Builtin.«set_iterator.__next__» slotArgs
 simp only [List.isEmpty_nil,Bool.not_true,Bool.false_eq_true,↓reduceIte,bind_assoc,List.length_nil,bne_self_eq_false]
 refine Uy (Uz ?_)
 try dsimp only
 refine Uy (wpAny_fieldsOf hI rfl ?_)
 dsimp only
 refine Uy (wpAny_setEntries_of hS.obj rfl hS.fits ?_)
 rw [if_neg (by simp)]
 exact h
theorem E3{I S:Addr}{ks:List Key}{es:Array (Int×Value)}{i ep slot next:Nat}{t:SetTable}{v:Value}{Q:Option Value->Shared->Prop}(hI:s.heap.get? I=some (eX (.int slot 0) i S es.size ep))(hS:ft prog w s.heap S ks es ep t)
  (hn:∀(Q:Option (Value×Nat)->Shared->Prop) (E:Value->Shared->Prop),Q (some (v,next)) s->wpAny (model prog w) A.in1 (setNext S slot i ep) Q E s)
  (hQ:∀h',h'.get? I=some (eX (.int next 0) (i+1) S es.size ep)->(∀b,b≠I->h'.get? b=s.heap.get? b)->Q (some v) {s with heap:=h'}):wpAny (model prog w) A (pyNext (.ref I)) Q E s:=by
 refine lj hI (nE hI hS ?_)
 dsimp only
 refine Uy (hn _ _ ?_)
 dsimp only
 refine Uy (wpAny_setField hI rfl (by simp) ?_)
 have h1:=kQ (s:=s) hI (first':=.none) (i':=0) (fs:=#[.int next 0,.int i 0,.ref S,.int es.size 0,.int ep 0]) 0 (rawInt next) (by decide) (by simp [rawInt])
 refine Uy (wpAny_setField h1 rfl (by simp) ?_)
 have h2:=kQ (s:={s with heap:=s.heap.update I (Obj.mapFields (·.setIfInBounds 0 (rawInt next)))}) (first:=.int next 0) (i:=i) (S:=S) (n:=es.size) (ep:=ep) h1 (first':=.none) (i':=0) (fs:=#[.int next 0,.int ((i+1:Nat):Int) 0,.ref S,.int es.size 0,.int ep 0]) 1 (rawInt ((i:Int)+1)) (by decide) (by simp [rawInt])
 refine Uz ⟨_,rfl,hQ _ h2 λb hb=>?_⟩
 exact((Heap.SameBut.update _ I _).2 b hb).trans ((Heap.SameBut.update _ I _).2 b hb)
theorem Jb{I S:Addr}{ks:List Key}{es:Array (Int×Value)}{i ep slot:Nat}{t:SetTable}{Q:Option Value->Shared->Prop}(hh:A.handled=none)(hI:s.heap.get? I=some (eX (.int slot 0) i S es.size ep))(hS:ft prog w s.heap S ks es ep t)
  (hn:∀(Q:Option (Value×Nat)->Shared->Prop) (E:Value->Shared->Prop),Q none s->wpAny (model prog w) A.in1 (setNext S slot i ep) Q E s)
  (hQ:∀h',Heap.ExtBut I s.heap h'->Q none {s with heap:=h'}):wpAny (model prog w) A (pyNext (.ref I)) Q E s:=by
 refine lj hI (nE hI hS ?_)
 dsimp only
 refine Uy (hn _ _ ?_)
 dsimp only
 refine Uy (wpAny_setField hI rfl (by simp) ?_)
 exact uY (s:={s with heap:=s.heap.update I (Obj.mapFields (·.setIfInBounds 2 .none))}) (I:=I) (h0:=s.heap) hh hQ (Heap.SameBut.update ..).extBut
theorem FF{I S T:Addr}{ks:List Key}{es:Array (Int×Value)}{i ep p:Nat}{t:SetTable}{ps:Array Value}{hv:Int}{v:Value}{Q:Option Value->Shared->Prop}(hI:s.heap.get? I=some (eX (.ref T) i S es.size ep))(hS:ft prog w s.heap S ks es ep t)
  (hT:s.heap.get? T=some {cls:=.type "tuple",data:=.seq ps}) (hp:ps[i]? = some (.int p 0)) (he:es[p]? = some (hv,v))
  (hQ:∀h',h'.get? I=some (eX (.ref T) (i+1) S es.size ep)->(∀b,b≠I->h'.get? b=s.heap.get? b)->Q (some v) {s with heap:=h'}):wpAny (model prog w) A (pyNext (.ref I)) Q E s:=by
 refine lj hI (nE hI hS ?_)
 dsimp only
 unfold seqItems?
 refine Uy (Uy (wpAny_load hT (Uz ?_)))
 dsimp only
 rw [hp]
 dsimp only
 unfold setNextDrawn
 refine Uy (Uy (wpAny_setState_of hS.obj rfl hS.fits ?_))
 dsimp only
 rw [if_neg (by simp)]
 rw [show es[(p:Int).toNat]? = some (hv,v) from he]
 refine Uz ?_
 refine Uy (wpAny_setField hI rfl (by simp) ?_)
 have h2:=kQ (s:=s) hI (first':=.none) (i':=0) (fs:=#[.ref T,.int ((i+1:Nat):Int) 0,.ref S,.int es.size 0,.int ep 0]) 1 (rawInt ((i:Int)+1)) (by decide) (by simp [rawInt])
 exact Uz ⟨_,rfl,hQ _ h2 λb hb=>(Heap.SameBut.update _ I _).2 b hb⟩
theorem HL{I S T:Addr}{ks:List Key}{es:Array (Int×Value)}{i ep:Nat}{t:SetTable}{ps:Array Value}{Q:Option Value->Shared->Prop}(hh:A.handled=none)(hI:s.heap.get? I=some (eX (.ref T) i S es.size ep))(hS:ft prog w s.heap S ks es ep t)
  (hT:s.heap.get? T=some {cls:=.type "tuple",data:=.seq ps}) (hp:ps[i]? = none)
  (hQ:∀h',Heap.ExtBut I s.heap h'->Q none {s with heap:=h'}):wpAny (model prog w) A (pyNext (.ref I)) Q E s:=by
 refine lj hI (nE hI hS ?_)
 dsimp only
 unfold seqItems?
 refine Uy (Uy (wpAny_load hT (Uz ?_)))
 dsimp only
 rw [hp]
 dsimp only
 refine Uy (wpAny_setField hI rfl (by simp) ?_)
 have h1:=kQ (s:=s) hI (first':=.none) (i':=0) (fs:=#[.int 0 0,.int i 0,.ref S,.int es.size 0,.int ep 0]) 0 (rawInt 0) (by decide) (by simp [rawInt])
 refine Uy (wpAny_setField h1 rfl (by simp) ?_)
 refine uY (s:={s with heap:=(s.heap.update I (Obj.mapFields (·.setIfInBounds 0 (rawInt 0)))).update I (Obj.mapFields (·.setIfInBounds 2 .none))}) (I:=I) (h0:=s.heap) hh hQ ?_
 exact((Heap.SameBut.update s.heap I _).trans (Heap.SameBut.update _ I _)).extBut
end
theorem y0{α:Type}(next:Nat->Nat):∀(fuel k:Nat) (left:List α) (out:Array α),left.length=fuel->(pickOrder.go next fuel k left out).toList.Perm (out.toList++left)
 | 0,k,left,out,e=>by
  have:left=[]:=List.length_eq_zero_iff.mp e
  subst this
  unfold pickOrder.go
  simp
 | fuel+1,k,left,out,e=>by
  unfold pickOrder.go
  have hlt:next k % left.length<left.length:=Nat.mod_lt _ (by omega)
  have hg:left[next k % left.length]? = some left[next k % left.length]:=UN hlt
  rw [hg]
  dsimp only
  refine(y0 next fuel (k+1) _ _ (by rw [List.length_eraseIdx_of_lt hlt,e]; rfl)).trans ?_
  rw [Array.toList_push,List.append_assoc]
  refine List.Perm.append_left _ ?_
  exact gQ hg
theorem rH{α:Type}(next:Nat->Nat)(xs:Array α):(pickOrder next xs).toList.Perm xs.toList:=by
 unfold pickOrder
 have:=y0 next xs.size 0 xs.toList #[] (by simp)
 simpa using this
def F2(place:Array Nat):Nat->Nat
 | 0=>0
 | i+1=>(place[i]?.getD 0)+1
theorem xS{place:Array Nat}(h:Dq place):∀{i:Nat},i<=place.size->SetTable.below place (F2 place i)=i
 | 0,_=>by
  obtain⟨h1,h2,h3⟩:=kB h 0
  show SetTable.below place 0=0
  rcases Nat.eq_zero_or_pos (SetTable.below place 0)with q | q
  ·exact q
  ·have hz:0<place.size:=by omega
   have:=h2 0 _ q (U7 hz)
   omega
 | i+1,hi=>by
  have hlt:i<place.size:=hi
  have eg:place[i]? = some place[i]:=U7 hlt
  have es:F2 place (i+1)=place[i]+1:=by show(place[i]?.getD 0)+1=_; rw [eg]; rfl
  rw [es]
  obtain⟨h1,h2,h3⟩:=kB h (place[i]+1)
  rcases Nat.lt_trichotomy (SetTable.below place (place[i]+1)) (i+1)with q | q | q
  ·have:=h3 i _ (by omega) eg
   omega
  ·exact q
  ·have hlt2:i+1<place.size:=by omega
   have e2:place[i+1]? = some place[i+1]:=U7 hlt2
   have a:=h2 (i+1) _ q e2
   have b:=h.lt (Nat.lt_succ_self i) eg e2
   omega
section
variable{prog:Program}{w:World}
def Nx(prog:Program)(w:World)(S:Addr)(ks:List Key)(es:Array (Int×Value))(ep:Nat)(t:SetTable)(sl:Nat->Nat)(vs:List Value):Prop :=
 ∀(i:Nat) (s:Shared) (A:Around) (E:Value->Shared->Prop) (Q:Option (Value×Nat)->Shared->Prop),ft prog w s.heap S ks es ep t->i<=es.size->Q ((vs[i]?).map λv=>(v,sl (i+1))) s->wpAny (model prog w) A (setNext S (sl i) i ep) Q E s
theorem Fj{S:Addr}{ks:List Key}{es:Array (Int×Value)}{ep:Nat}{t:SetTable}(hb:ck w=true):Nx prog w S ks es ep t (λ_=>0) ((pickOrder (w.params.setOrder S ep) es).toList.map (·.2)):=by
 intro i s A E Q hS hi q
 unfold setNext setsByText
 refine Uy (wpAny_setState_of hS.obj rfl hS.fits ?_)
 dsimp only
 refine Uy (Uy (wpAny_askSetting (Uz ?_)))
 rw [if_pos (show(model prog w).w.params.followText "set-order"=true from hb),if_neg (by simp)]
 unfold setWalk setsByText
 refine Uy (Uy (wpAny_setState_of hS.obj rfl hS.fits ?_))
 dsimp only
 refine Uy (Uy (wpAny_askSetting (Uz ?_)))
 rw [if_pos (show(model prog w).w.params.followText "set-order"=true from hb)]
 refine Uy (wpAny_askSetting (Uz (Uz ?_)))
 rw [U5,Option.map_map,Array.getElem?_toList]at q
 exact q
theorem C5{S:Addr}{ks:List Key}{es:Array (Int×Value)}{ep:Nat}{t:SetTable}(hb:ck w=false)(hd:lN es t=false):Nx prog w S ks es ep t (F2 t.place) (es.toList.map (·.2)):=by
 intro i s A E Q hS hi q
 have hps:t.place.size=es.size:=by have:=hS.fits; simp [SetTable.fits]at this; exact this.1
 unfold setNext setsByText
 refine Uy (wpAny_setState_of hS.obj rfl hS.fits ?_)
 dsimp only
 refine Uy (Uy (wpAny_askSetting (Uz ?_)))
 rw [if_neg (show¬(model prog w).w.params.followText "set-order"=true by show¬ck w=true; rw [hb]; decide)]
 have Pl:t.led=true:=by rw [hS.tab.led,hb]; rfl
 show wpAny _ _ (if lN es t=true then _ else _) _ _ _
 rw [if_neg (by rw [hd]; decide)]
 show wpAny _ _ ((if(!t.led && !es.isEmpty)=true then unsupported _ else pure ()) >>= _) _ _ _
 rw [if_neg (by rw [Pl]; simp)]
 refine Uy (Uz (Uz ?_))
 rw [xS hS.tab.OC (by rw [hps]; exact hi)]
 rw [U5,Option.map_map,Array.getElem?_toList]at q
 by_cases hlt:i<es.size
 ·rw [U7 hlt]at q⊢
  have hp2:i<t.place.size:=by rw [hps]; exact hlt
  have e2:F2 t.place (i+1)=t.place[i]+1:=by show(t.place[i]?.getD 0)+1=_; rw [U7 hp2]; rfl
  rw [U7 hp2]
  dsimp only [Option.map_some,Function.comp]at q⊢
  rw [e2]at q
  exact q
 ·rw [Array.getElem?_eq_none (by omega)]at q⊢
  exact q
theorem kY:Slot "set_iterator" "__iter__" "set_iterator.__iter__" :=
 .of (owner:="set_iterator") (n:="__iter__") (by rw [typeLookup_type,builtinLookup_eq_fast]; kernel_rfl) (by decide +kernel) (by decide +kernel) (by decide +kernel)
  (by first | exact .inl (by decide +kernel) | exact .inr (by decide +kernel)) (by rw [isSubtype_type]; kernel_rfl)
theorem qE:entryFor table "set_iterator.__iter__"=some Builtin.«dict_keyiterator.__iter__» :=
 entryFor_alias (id':="dict_keyiterator.__iter__") (by kernel_rfl) rfl (by decide +kernel) (by kernel_rfl)
theorem tJ(a:Value):argsOk "set_iterator.__iter__" ⟨[a],[]⟩:=by unfold argsOk; kernel_rfl
theorem yI{A:Around}{E:Value->Shared->Prop}{s:Shared}{I S:Addr}{first:Value}{i n ep:Nat}{Q:Value->Shared->Prop}(hI:s.heap.get? I=some (eX first i S n ep))(h:Q (.ref I) s):wpAny (model prog w) A (pyIter (.ref I)) Q E s:=by
 have hT:s.TypeIs (.ref I) "set_iterator":=⟨_,hI,rfl⟩
 refine wpAny_pyIter_slot hT kY (wpAny_call_entry kY hT qE ?_ (tJ _))
 show wpAny _ _ (ret (.ref I)) _ _ s
 exact Uz ⟨_,rfl,"set_iterator",_,hT,eO.lookup,h⟩
theorem Bj{A:Around}(hh:A.handled=none){I S:Addr}(hne:S≠I){ks:List Key}{es:Array (Int×Value)}{ep:Nat}{t:SetTable}{sl:Nat->Nat}{vs:List Value}(hv:vs.length=es.size)(hn:Nx prog w S ks es ep t sl vs) :
  Walks prog w A I [I,S] [I] es.size (λi v=>vs[i]? = some v) (λi h=>h.get? I=some (eX (.int (sl i) 0) i S es.size ep)/\ft prog w h S ks es ep t) where
 sub:=λb hb=>by simp at hb; simp [hb]
 frame:=λ_ _ _ st hk=>⟨hk I (by simp) _ st.1,st.2.keep λo e=>hk S (by simp) o e⟩
 item:=λi s Q E hi st hQ=>by
  have e:vs[i]? = some (vs[i]'(by omega)):=UN (by omega)
  refine E3 (v:=vs[i]'(by omega)) (next:=sl (i+1)) st.1 st.2 (λQ E q=>hn i s _ E Q st.2 (Nat.le_of_lt hi) (by rw [e]; exact q)) λh' h1 h2=>?_
  exact hQ _ h' s.toks e ⟨h1,st.2.keep λo q=>(h2 S hne).trans q⟩ λb o hb q=>(h2 b (by simpa using hb)).trans q
 done:=λs Q E st hQ=>Jb hh st.1 st.2 (λQ E q=>hn es.size s _ E Q st.2 (UD _) (by rw [List.getElem?_eq_none (by omega)]; exact q)) λh' he=>hQ h' s.toks λb o hb e=>he b o (λh=>hb (by simp [h])) e
 self:=λi s Q E st hQ=>yI st.1 hQ
theorem xN{A:Around}(hh:A.handled=none){I S T:Addr}(hne:S≠I)(hnt:T≠I){ks:List Key}{es:Array (Int×Value)}{ep:Nat}{t:SetTable}{ps:List Nat}(hp:ps.Perm (List.range es.size)) :
  Walks prog w A I [I,S,T] [I] es.size (λi v=>(ps.filterMap λj=>(es[j]?).map (·.2))[i]? = some v) (λi h=>h.get? I=some (eX (.ref T) i S es.size ep)/\ft prog w h S ks es ep t/\h.get? T=some {cls:=.type "tuple",data:=.seq (ps.map λ(i:Nat)=>Value.int i 0).toArray}) where
 sub:=λb hb=>by simp at hb; simp [hb]
 frame:=λ_ _ _ st hk=>⟨hk I (by simp) _ st.1,st.2.1.keep λo e=>hk S (by simp) o e,hk T (by simp) _ st.2.2⟩
 item:=λi s Q E hi st hQ=>by
  have hl:ps.length=es.size:=by rw [hp.length_eq]; simp
  have hlt:i<ps.length:=by omega
  have hpi:ps[i]<es.size:=List.mem_range.mp (hp.mem_iff.mp (List.getElem_mem hlt))
  have em:(ps.filterMap λj=>(es[j]?).map (·.2))=ps.map λj=>(es.getD j (0,.none)).2:=by
   have gen:∀l:List Nat,(∀j∈l,j<es.size)->(l.filterMap λj=>(es[j]?).map (·.2))=l.map λj=>(es.getD j (0,.none)).2:=by
    intro l
    induction l with
    | nil=>intro _; rfl
    | cons a l ih =>
     intro hl
     have ha:=hl a Va
     rw [List.filterMap_cons,ih λj hj=>hl j (UQ _ hj)]
     simp [Array.getD,ha]
   exact gen ps λj hj=>List.mem_range.mp (hp.mem_iff.mp hj)
  refine FF (p:=ps[i]) (hv:=es[ps[i]].1) (v:=es[ps[i]].2) st.1 st.2.1 st.2.2 (by simp [hlt]) (by rw [U7 hpi]) λh' h1 h2=>?_
  refine hQ _ h' s.toks ?_ ⟨h1,st.2.1.keep λo q=>(h2 S hne).trans q,(h2 T hnt).trans st.2.2⟩ λb o hb q=>(h2 b (by simpa using hb)).trans q
  rw [em,U5,UN hlt]
  simp [Array.getD,hpi]
 done:=λs Q E st hQ=>by
  have hl:ps.length=es.size:=by rw [hp.length_eq]; simp
  exact HL hh st.1 st.2.1 st.2.2 (by simp [hl]) λh' he=>hQ h' s.toks λb o hb e=>he b o (λh=>hb (by simp [h])) e
 self:=λi s Q E st hQ=>yI st.1 hQ
end
section
variable{prog:Program}{w:World}{A:Around}{E:Value->Shared->Prop}{s:Shared}
theorem BW(hh:A.handled=none){S:Addr}{ks:List Key}{es:Array (Int×Value)}{ep:Nat}{t:SetTable}{Q:Value->Shared->Prop}(hS:ft prog w s.heap S ks es ep t)
  (h:∀(I:Addr) (h1:Heap) (d:Drawn) (fp:List Addr) (vs:List Value) (St:Nat->Heap->Prop),(∀b o,s.heap.get? b=some o->h1.get? b=some o)->s.heap.objs.size<=I->(∀b∈fp,b=S\/s.heap.objs.size<=b)->
   Walks prog w A I fp [I] es.size (λi v=>vs[i]? = some v) St->St 0 h1->vs.length=es.size->vs.Perm (es.toList.map (·.2))->Q (.ref I) {s with heap:=h1,drawn:=d}) :
  wpAny (model prog w) A (pyIter (.ref S)) Q E s:=by
 have hlt:S<s.heap.objs.size:=UB hS.obj
 refine Bv hS (λhb=>?_) λhb d ps hp=>?_
 ·have key:∀sl vs,sl 0=0->vs.length=es.size->vs.Perm (es.toList.map (·.2))->Nx prog w S ks es ep t sl vs->Q (.ref s.heap.objs.size) {s with heap:=s.heap.push (eX (.int 0 0) 0 S es.size ep)}:=λsl vs h0 hl hpm hn=>by
   have W:=Bj (A:=A) hh (I:=s.heap.objs.size) (S:=S) (U0 hlt) hl hn
   have:=h s.heap.objs.size (s.heap.push (eX (.int 0 0) 0 S es.size ep)) s.drawn _ vs _ (λb o e=>UA _ e) (UD _) (λb hb=>?_) W ⟨?_,hS.keep λo e=>UA _ e⟩ hl hpm
   ·exact this
   ·simp only [UX,List.not_mem_nil,or_false]at hb
    rcases hb with rfl | rfl
    ·exact .inr (UD _)
    ·exact .inl rfl
   ·rw [h0]
    exact UC _ rfl
  cases hbt:ck w with
  | true=>exact key _ _ rfl (by rw [UI,(rH _ _).length_eq,Array.length_toList]) ((rH _ _).map _) (Fj hbt)
  | false =>
   rw [hbt]at hb
   exact key _ _ rfl (by rw [UI,Array.length_toList]) (List.Perm.refl _) (C5 hbt (by simpa using hb))
 ·have hl:ps.length=es.size:=by rw [hp.length_eq]; simp
  have W:=xN (prog:=prog) (w:=w) (A:=A) hh (I:=s.heap.objs.size+1) (S:=S) (T:=s.heap.objs.size) (U0 (Nat.lt_succ_of_lt hlt)) (U0 (Nat.lt_succ_self _)) (ks:=ks) (es:=es) (ep:=ep) (t:=t) hp
  have pm:(ps.filterMap λj=>(es[j]?).map (·.2)).Perm (es.toList.map (·.2)):=by
   refine(hp.filterMap _).trans ?_
   rw [←List.map_filterMap]
   rw [filterMap_getElem?_range]
  refine h (s.heap.objs.size+1) _ d _ _ _ (λb o e=>UA _ (UA _ e)) (Nat.le_succ _) (λb hb=>?_) W ⟨?_,hS.keep λo e=>UA _ (UA _ e),UA _ (UC _ rfl)⟩ (by rw [pm.length_eq,UI,Array.length_toList]) pm
  ·simp only [UX,List.not_mem_nil,or_false]at hb
   rcases hb with rfl | rfl | rfl
   ·exact .inr (Nat.le_succ _)
   ·exact .inl rfl
   ·exact .inr (UD _)
  ·have:=UC (s.heap.push {cls:=.type "tuple",data:=.seq (ps.map λ(i:Nat)=>Value.int i 0).toArray}) (o:=eX (.ref s.heap.objs.size) 0 S es.size ep) rfl
   rw [size_push']at this
   exact this
theorem Dv{r:Addr}{Q:Bool->Shared->Prop}(hT:s.TypeIs (.ref r) "set")(h:Q false s):wpAny (model prog w) A (Builtin.List.listLengthHint (.ref r)) Q E s:=by
 unfold Builtin.List.listLengthHint
 refine Uy (wpAny_specialOf hT PySem.F.slot_set_len.lookup ?_)
 generalize hid:("set.__len__" : String)=id0
 wp_delta
 rw [show splitId id0=some ("set","__len__") from by subst hid; decide +kernel]
 subst hid
 refine Uy (wpAny_isInstance (T:="set") (b:=true) hT (by rw [isSubtype_type]; kernel_rfl) ?_)
 refine wpAny_ite_split (λhab=>absurd hab (by decide)) (λ_=>?_)
 refine wpAny_ite_split (λ_=>?_) (λhab=>absurd (by decide +kernel) hab)
 refine Uy (wpAny_typeOf hT ?_)
 exact Uz h
theorem xU{S L:Addr}{ks:List Key}{es:Array (Int×Value)}{ep:Nat}{t:SetTable}{R:Result->Shared->Prop}(hh:A.handled=none)(hS:ft prog w s.heap S ks es ep t)(Q9:L≠S)(res:Value)(c₀:Nat)(hL:s.heap.get? L=some {cls:=.type "list",data:=.seq #[] c₀})
  (hR:∀h' tk d acc' c',(∀b o,b≠L->s.heap.get? b=some o->h'.get? b=some o)->h'.get? L=some {cls:=.type "list",dict:=none,data:=.seq acc' c',slots:=#[]}->acc'.toList.Perm (es.toList.map (·.2))->R (.ok (.ret res)) {s with heap:=h',toks:=tk,drawn:=d}) :
  wpAny (model prog w) A.in1 (Builtin.List.listExtendWith (.ref L) (.ref S) res)
   (λfin s'=>match fin with | .done f=>R (.ok f) s' | .again c'=>c'.quiet=true/\codeAny (model prog w) A c' R s') (λe s'=>R (.error e) s') s:=by
 have hT:s.TypeIs (.ref S) "set":=⟨_,hS.obj,rfl⟩
 have hz:es.size<=sizeLine:=fits_of_scanBound hS.few
 unfold Builtin.List.listExtendWith
 refine Uy (wpAny_typeOf hT ?_)
 have h1:Builtin.List.listSameRef (.ref L) (.ref S)=false:=by simp [Builtin.List.listSameRef,Q9]
 have h2:(Value.type "set"==Value.type "list")=false:=by decide
 have h3:(Value.type "set"==Value.type "tuple")=false:=by decide
 simp only [h1,h2,h3,Bool.or_false,Bool.false_eq_true,if_false]
 refine Uy (BW (A:=A.in1) hh hS λI h1 d fp vs St hk hI hfp W st hvl hpm=>?_)
 have hLlt:L<s.heap.objs.size:=UB hL
 have hLI:L≠I:=U0 (UM hLlt hI)
 have hLf:L∉fp:=λhb=>by
  rcases hfp L hb with e | e
  ·exact Q9 e
  ·exact absurd hLlt (Nat.not_lt.mpr e)
 have key:∀(h:Heap) (c₁ tk:Nat),St 0 h->(∀b o,b≠L->s.heap.get? b=some o->h.get? b=some o)->
   h.get? L=some {cls:=.type "list",data:=.seq #[] c₁}->codeAny (model prog w) A (.builtin "list.extend.loop" ⟨[.ref L,.ref I,res],[]⟩) R {s with heap:=h,toks:=tk,drawn:=d}:=by
  intro h c₁ tk hst hkk hS₁
  refine codeAny_extend_loopS W.toS hz L hLf res es.size 0 _ #[] c₁ rfl (U1 _) hst hS₁ (ItemsOf.nil _) λs' acc' c' hm hS' hacc=>?_
  rw [Moved.eq_with hm]
  refine hR s'.heap s'.toks d acc' c' (λb o hb e=>hm.heap b o (λhmem=>?_) (hkk b o hb e)) hS' ?_
  ·rcases UX.mp hmem with e' | hmem
   ·exact hb e'
   ·have:=UU.mp hmem
    subst this
    exact absurd (UB e) (Nat.not_lt.mpr hI)
  ·have ev:acc'.toList=vs:=by
    refine List.ext_getElem? λi=>?_
    rw [Array.getElem?_toList]
    by_cases hlt:i<es.size
    ·have:i<acc'.size:=by rw [hacc.1]; exact hlt
     rw [U7 this]
     exact(hacc.2 i _ (U7 this)).symm
    ·rw [Array.getElem?_eq_none (by rw [hacc.1]; omega),List.getElem?_eq_none (by omega)]
   rw [ev]
   exact hpm
 have hS₁:h1.get? L=some {cls:=.type "list",data:=.seq #[] c₀}:=hk _ _ hL
 refine Uy (U9 (Dv (s:={s with heap:=h1,drawn:=d}) ⟨_,hk _ _ hS.obj,rfl⟩ ?_))
 refine wpAny_ite_split (λ_=>?_) (λ_=>Uz ⟨plainId_quiet PySem.F.plain_extend_loop _,key _ c₀ _ st (λb o _ e=>hk b o e) hS₁⟩)
 refine Uy (wpAny_rule ?_)
 refine Uy ?_
 show wpAny _ _ (updateSeq L (·.push .none) >>= λ_=>updateSeq L (·.pop)) _ _ _
 refine Uy (wpAny_updateSeq hS₁ rfl ?_)
 have hS₂:=Heap.get?_update_self (Obj.mapSeq (·.push Value.none)) hS₁ rfl
 refine wpAny_updateSeq (hz:=by seq_fits) hS₂ rfl ?_
 have hS₃:=Heap.get?_update_self (Obj.mapSeq (·.pop)) hS₂ rfl
 refine Uz ⟨plainId_quiet PySem.F.plain_extend_loop _,key _ _ _ ?_ (λb o hb e=>?_) hS₃⟩
 ·refine W.frame 0 _ _ st λb hb o e=>?_
  have hbS:b≠L:=λh=>hLf (h▸hb)
  exact(Heap.get?_update_other _ _ (Ne.symm hbS)).trans ((Heap.get?_update_other _ _ (Ne.symm hbS)).trans e)
 ·exact(Heap.get?_update_other _ _ (Ne.symm hb)).trans ((Heap.get?_update_other _ _ (Ne.symm hb)).trans (hk _ _ e))
theorem uH{S:Addr}{ks:List Key}{es:Array (Int×Value)}{ep:Nat}{t:SetTable}{R:List Value->Shared->Prop}(hh:A.handled=none)(hS:ft prog w s.heap S ks es ep t)
  (h:∀(h':Heap) (tk:Nat) (d:Drawn) (vs:List Value),s.heap.objs.size<=h'.objs.size->(∀b o,s.heap.get? b=some o->h'.get? b=some o)->vs.Perm (es.toList.map (·.2))->R vs {s with heap:=h',toks:=tk,drawn:=d}) :
  wpAny (model prog w) A (collect (.ref S)) R E s:=by
 have hlt:S<s.heap.objs.size:=UB hS.obj
 unfold collect
 refine Uy (wpAny_runValue (codeAny_builtin entry_proto_collect' ?_))
 rw [Around.under_plainId PySem.F.plain_proto_collect _]
 show wpAny _ A.in1 (newList [] >>= λl=>again (.builtin "list.__iadd__" ⟨[l,.ref S],[]⟩)) _ _ s
 refine Uy (U_ ?_)
 refine Uz ⟨plainId_quiet PySem.F.plain_list_iadd _,codeAny_builtin entry_list_iadd' ?_⟩
 rw [Around.under_plainId PySem.F.plain_list_iadd _]
 have hL:(s.heap.push {cls:=.type "list",data:=.seq ([]:List Value).toArray}).get? s.heap.objs.size=some {cls:=.type "list",data:=.seq #[]}:=UC _ rfl
 show wpAny _ A.in1 (Builtin.List.listExtendWith (.ref s.heap.objs.size) (.ref S) (.ref s.heap.objs.size)) _ _ _
 have key:=xU (A:=A) (s:={s with heap:=s.heap.push {cls:=.type "list",data:=.seq ([]:List Value).toArray}})
  (R:=λ(q:Result) (s':Shared)=>∃(h':Heap) (tk:Nat) (d:Drawn) (acc':Array Value) (c':Nat),q=.ok (.ret (.ref s.heap.objs.size))/\s' ={s with heap:=h',toks:=tk,drawn:=d}/\
   (∀b o,s.heap.get? b=some o->h'.get? b=some o)/\h'.get? s.heap.objs.size=some {cls:=.type "list",dict:=none,data:=.seq acc' c',slots:=#[]}/\acc'.toList.Perm (es.toList.map (·.2)))
  hh (hS.keep λo e=>UA _ e) (Nat.ne_of_gt hlt) (.ref s.heap.objs.size) 0 hL
  (λh' tk d acc' c' hk hS' hacc=>⟨h',tk,d,acc',c',rfl,rfl,λb o e=>hk b o (U0 (UB e)) (UA _ e),hS',hacc⟩)
 refine U8 key (λfin s' x=>?_) λe s' x=>?_
 ·cases fin with
  | done f =>
   obtain⟨h',tk,d,acc',c',e,rfl,hk,hS',hacc⟩:=x
   cases e
   show wpAny _ A (load s.heap.objs.size >>= _) _ _ _
   refine Uy (wpAny_load hS' ?_)
   exact Uz (h h' tk d acc'.toList (Nat.le_of_lt (UB hS')) hk hacc)
  | again c₁ =>
   refine⟨x.1,codeAny_mono x.2 λq s₂ y=>?_⟩
   obtain⟨h',tk,d,acc',c',rfl,rfl,hk,hS',hacc⟩:=y
   show wpAny _ A (load s.heap.objs.size >>= _) _ _ _
   refine Uy (wpAny_load hS' ?_)
   exact Uz (h h' tk d acc'.toList (Nat.le_of_lt (UB hS')) hk hacc)
 ·obtain⟨_,_,_,_,_,e',_⟩:=x
  cases e'
theorem xE{S:Addr}{ks:List Key}{es:Array (Int×Value)}{ep:Nat}{t:SetTable}{Q:Value->Shared->Prop}(hh:A.handled=none)(hS:ft prog w s.heap S ks es ep t)
  (h:∀(h':Heap) (tk:Nat) (d:Drawn) (vs:List Value),s.heap.objs.size<=h'.objs.size->(∀b o,s.heap.get? b=some o->h'.get? b=some o)->vs.Perm (es.toList.map (·.2))->
   wpAny (model prog w) A.in1 (call (.builtin "list.sort") [.ref h'.objs.size]) (λ_ s'=>Q (.ref h'.objs.size) s') E {s with heap:=h'.push (seqObj "list" vs.toArray 0),toks:=tk,drawn:=d}) :
  wpAny (model prog w) A (call (.builtin "sorted") [.ref S]) Q E s:=by
 refine Calls.call_function_entry kind_sorted plain_sorted entry_sorted (args_sorted1 _) ?_
 unfold Builtin.«sorted»
 refine Uy (m:=checkCount "sorted" 1 1 _) (Uz ?_)
 refine Uy (uH (A:=A.in1) hh hS λh' tk d vs hz hk hp=>?_)
 have hl:vs.length<=sizeLine:=by rw [hp.length_eq,UI,Array.length_toList]; exact fits_of_scanBound hS.few
 refine Uy (wpAny_newList ?_ hl)
 refine Uy (U9 (U8 (h h' tk d vs hz hk hp) (λ_ s' x=>?_) λ_ _ e=>e))
 exact Uz ⟨_,rfl,x⟩
end
def v3(x y:Str):Prop:=x.cps.toList<y.cps.toList
theorem zA:bootBuiltins "set"=some (.type "set"):=by kernel_rfl
theorem HP{x y:Str}(h:¬y.cps.toList<x.cps.toList)(n:x≠y):v3 x y:=by
 unfold v3
 have hle:x.cps.toList<=y.cps.toList:=List.not_lt.mp h
 refine Decidable.byContradiction λh2=>n ?_
 have O1:y.cps.toList<=x.cps.toList:=List.not_lt.mp h2
 have e:=List.le_antisymm hle O1
 cases x; cases y
 simp at e
 subst e
 rfl
theorem E9{vs:List Value}{ss:List Str}(hS:StrsAre vs ss){xs:Array Keyed}(hp:xs.Perm (pairsOf vs))(hs:SortedToK strKind xs (pairsOf vs).size) :
  ∃ss',StrsAre (xs.map (·.2)).toList ss'/\ss'.Perm ss/\ss'.Pairwise λa b=>¬b.cps.toList<a.cps.toList:=by
 have hl:xs.toList.Perm (vs.zip vs):=by rw [←pairsOf_toList]; exact Array.perm_iff_toList_perm.mp hp
 have hmem:∀p,p∈xs.toList->p.1=p.2/\p.1∈vs:=λp hp'=>mem_zip_self (hl.mem_iff.mp hp')
 refine⟨xs.toList.map (λp=>strOf p.1),?_,?_,?_⟩
 ·have e:(xs.map (·.2)).toList=xs.toList.map (·.1):=by
   rw [Array.toList_map]; exact List.map_congr_left λp hp'=>(hmem p hp').1.symm
  rw [e]
  have h1:=strsAre_map (xs.toList.map (·.1)) (by
   intro v hv
   obtain⟨p,hp',rfl⟩:=UW.mp hv
   exact hS.all _ (hmem p hp').2)
  rwa [List.map_map]at h1
 ·have h1:=hl.map (λp=>strOf p.1)
  have e2:(vs.zip vs).map (λp=>strOf p.1)=ss:=by
   have:(vs.zip vs).map (λp=>strOf p.1)=((vs.zip vs).map Prod.fst).map strOf:=by rw [List.map_map]; rfl
   rw [this,List.map_fst_zip (UD _),hS.strs]
  rwa [e2]at h1
 ·rw [List.pairwise_iff_getElem]
  intro i j hi hj hij
  have hi':i<xs.size:=by simpa using hi
  have hj':j<xs.size:=by simpa using hj
  have h1:=hs i j (Nat.le_of_lt hij) (by rw [←hp.size_eq]; exact hj')
  obtain⟨x,t,ex⟩:=hS.all _ (hmem xs[i] (by simp)).2
  obtain⟨y,u,ey⟩:=hS.all _ (hmem xs[j] (by simp)).2
  rw [KK_str hi' (x:=x) (t:=t) (q:=xs[i].2) (Prod.ext ex rfl),KK_str hj' (x:=y) (t:=u) (q:=xs[j].2) (Prod.ext ey rfl)]at h1
  change decide (y.cps.toList<x.cps.toList)=false at h1
  simp only [List.getElem_map,Array.getElem_toList]
  rw [show strOf xs[i].1=x by rw [ex]; rfl,show strOf xs[j].1=y by rw [ey]; rfl]
  exact of_decide_eq_false h1
section
variable{prog:Program}{w:World}{A:Around}{E:Value->Shared->Prop}{s:Shared}
theorem zD{a:Addr}{vs:List Value}{ns:List Int}{Q:Value->Shared->Prop}(ho:s.heap.get? a=some (seqObj "list" vs.toArray 0))(hI:IntsAre vs ns)(h64:vs.length<64)
  (h:∀(out:Array Value) (ns':List Int),IntsAre out.toList ns'->ns'.Perm ns->ns'.Pairwise (·<=·)->Q .none {s with heap:=sortedHeap s.heap a vs out}):wpAny (model prog w) A (call (.builtin "list.sort") [.ref a]) Q E s :=
 wpAny_call_entry slot_list_sort ⟨_,ho,rfl⟩ entry_list_sort (list_sort_tree ho hI h64 λout ns' a1 a2 a3=>⟨_,rfl,h out ns' a1 a2 a3⟩) (args_list_sort _)
theorem Az{a:Addr}{vs:List Value}{ss:List Str}{Q:Value->Shared->Prop}(ho:s.heap.get? a=some (seqObj "list" vs.toArray 0))(hS:StrsAre vs ss)(h64:vs.length<64)
  (h:∀(out:Array Value) (ss':List Str),StrsAre out.toList ss'->ss'.Perm ss->(ss'.Pairwise λa b=>¬b.cps.toList<a.cps.toList)->Q .none {s with heap:=sortedHeap s.heap a vs out}):wpAny (model prog w) A (call (.builtin "list.sort") [.ref a]) Q E s :=
 wpAny_call_entry slot_list_sort ⟨_,ho,rfl⟩ entry_list_sort (list_sort_treeK strKind_oneLt ho hS.keysOf (λv₁ v₂ rest e=>keyKind_strs (by rw [←e]; exact hS)) h64 λst' hp hs=>⟨_,rfl,by
  obtain⟨ss',h1,h2,h3⟩:=E9 hS hp hs
  exact h _ ss' h1 h2 h3⟩) (args_list_sort _)
end
def lF(xs ys:List V):Prop :=
 (∃ns ms:List Int,xs=ns.map V.int/\ys=ms.map V.int/\ms.Pairwise (· < ·)/\∀n,n∈ms↔n∈ns)\/∃ns ms:List Str,xs=ns.map V.str/\ys=ms.map V.str/\ms.Pairwise v3/\∀n,n∈ms↔n∈ns
def C6(K:Ve)(te:TE):TE:=λσ H Q=>te σ H λx H1=>∃a xs,x=.ref a/\(aZ K H1 a xs\/aH K H1 a xs)/\xs.length<64/\((∃ns:List Int,xs=ns.map V.int)\/∃ss:List Str,xs=ss.map V.str)/\
 ∀p ys,H1 p=none->lF xs ys->Q (.ref p) (upd H1 p (.lst ys))
theorem ID{ms ms':List Int}(h:ms.Pairwise (·<=·))(n:ms.Nodup):ms.Pairwise (· < ·):=by
 rw [List.pairwise_iff_getElem]at h⊢
 intro i j hi hj hij
 have h1:=h i j hi hj hij
 have h2:=List.pairwise_iff_getElem.mp n i j hi hj hij
 omega
theorem xZ{ns:List Int}:∀{us:List Value},IntsAre us ns->Vals (ns.map V.int) us:=by
 induction ns with
 | nil=>intro us r; cases r; exact .nil
 | cons y ys ih=>intro us r; cases r with | cons _ t r=>exact .cons ⟨t,rfl⟩ (ih r)
theorem wo{ns:List Str}:∀{us:List Value},StrsAre us ns->Vals (ns.map V.str) us:=by
 induction ns with
 | nil=>intro us r; cases r; exact .nil
 | cons y ys ih=>intro us r; cases r with | cons _ t r=>exact .cons ⟨t,rfl⟩ (ih r)
def keyV:V->Key
 | .int n=>.inl n
 | .str x=>.inr x
 | _=>.inl 0
def jl(xs:List V)(i:Nat):Key:=((xs[i]?).map keyV).getD (.inl 0)
theorem jI{xs:List V}{k:Key}:k∈kf (jl xs) xs.length↔∃x∈xs,keyV x=k:=by
 rw [vP]
 constructor
 ·rintro⟨j,hj,e⟩
  refine⟨xs[j],List.getElem_mem hj,?_⟩
  unfold jl at e
  rw [UN hj]at e
  exact e
 ·rintro⟨x,hx,e⟩
  obtain⟨j,hj,rfl⟩:=List.mem_iff_getElem.mp hx
  refine⟨j,hj,?_⟩
  unfold jl
  rw [UN hj]
  exact e
theorem DJ{xs:List V}{its:List Value}(r:Vals xs its)(hx:∀x∈xs,(∃n,x=.int n)\/∃y,x=.str y)(i:Nat)(v:Value)(e:its.toArray[i]? = some v):fO (jl xs i) v=true/\v.scannable=true:=by
 have e':its[i]? = some v:=by simpa using e
 have hl:=r.length
 have hi:i<xs.length:=by rw [hl]; exact(UT.mp e').1
 obtain⟨u,hu,ru⟩:=r.get (UN hi)
 rw [e']at hu
 cases hu
 have ek:jl xs i=keyV xs[i]:=by unfold jl; rw [UN hi]; rfl
 rw [ek]
 rcases hx xs[i] (List.getElem_mem hi)with⟨n,q⟩ | ⟨y,q⟩
 ·rw [q]at ru⊢
  obtain⟨t,rfl⟩:=ru
  exact⟨ma n t,rfl⟩
 ·rw [q]at ru⊢
  obtain⟨t,rfl⟩:=ru
  exact⟨lY y t,rfl⟩
section
variable{X:Cx}{e:Expr}{te:TE}{p1 p2 pos pos2:Pos}
theorem ur{pins:List (Addr×Obj)}{σ:St}{H:Hp}{s:Shared}{Q:VK}{S:Addr}{xs:List V}{es:Array (Int×Value)}{ep:Nat}{t:SetTable}(hc:X.calm=true)(I:Inv X pins σ H s)(hS:ft X.prog X.w s.heap S (kf (jl xs) xs.length) es ep t)(h64:xs.length<64)
  (hx:(∃ns:List Int,xs=ns.map V.int)\/∃ss:List Str,xs=ss.map V.str) (q:∀p ys,H p=none->lF xs ys->Q (.ref p) (upd H p (.lst ys))) :
  wpAny (model X.prog X.w) X.A (call (.builtin "sorted") [.ref S]) (EP X pins σ Q) X.xe s:=by
 refine xE (I.ok.hd hc) hS λh' tk d vs hz hk hp=>?_
 have hn:H h'.objs.size=none:=I.hok.fresh hz
 have hperm:(vs.map A6).Perm (kf (jl xs) xs.length):=by
  refine(hp.map A6).trans ?_
  rw [List.map_map]
  exact hS.keys
 have hlen:vs.length<64:=by
  have h1:=hperm.length_eq
  have h2:=nQ (jl xs) xs.length
  rw [UI]at h1
  omega
 have hel:∀v∈vs,∃k,fO k v=true/\k∈kf (jl xs) xs.length:=λv hv=>by
  obtain⟨e,he,rfl⟩:=UW.mp (hp.mem_iff.mp hv)
  obtain⟨⟨k,hk',_⟩,_⟩:=hS.els e he
  exact⟨k,hk',hS.mem.mp ⟨e,he,hk'⟩⟩
 have hob:(h'.push (seqObj "list" vs.toArray 0)).get? h'.objs.size=some (seqObj "list" vs.toArray 0):=UC _ rfl
 have fin:∀(ys:List V) (out:Array Value),Vals ys out.toList->ys.length<64->lF xs ys->EP X pins σ Q (.ref h'.objs.size) {s with heap:=sortedHeap (h'.push (seqObj "list" vs.toArray 0)) h'.objs.size vs out,toks:=tk,drawn:=d}:=λys out r hl so=>by
  have keep:∀b o,s.heap.get? b=some o->(sortedHeap (h'.push (seqObj "list" vs.toArray 0)) h'.objs.size vs out).get? b=some o:=λb o e=>by
   have hb:=hk b o e
   have hlt:=UB hb
   rw [sortedHeap_old (U0 hlt) (by rw [size_push']; exact Nat.lt_succ_of_lt hlt)]
   exact UA _ hb
  obtain⟨c,hat⟩ :∃c,(sortedHeap (h'.push (seqObj "list" vs.toArray 0)) h'.objs.size vs out).get? h'.objs.size=some (seqObj "list" out c):=sortedHeap_at hob
  have hobj:cz X.prog X.w (upd H h'.objs.size (.lst ys)) (sortedHeap (h'.push (seqObj "list" vs.toArray 0)) h'.objs.size vs out) h'.objs.size (.lst ys):=⟨by rw [sizeLine_eq]; omega,out.toList,c,r,by rw [hat]⟩
  refine⟨.ref h'.objs.size,upd H h'.objs.size (.lst ys),?_,rfl,q _ _ hn so⟩
  exact I.call' (s':={s with heap:=sortedHeap (h'.push (seqObj "list" vs.toArray 0)) h'.objs.size vs out,toks:=tk,drawn:=d}) (ch:=[]) rfl (Un.laid keep hz hn) (I.hok.laid keep hz hobj) I.bare λb hb=>absurd hb (by simp)
 rcases hx with⟨ns,rfl⟩ | ⟨ss,rfl⟩
 ·have hint:∀v∈vs,∃n t,v=Value.int n t:=λv hv=>by
   obtain⟨k,hk1,hk2⟩:=hel v hv
   obtain⟨x,hx,e⟩:=jI.mp hk2
   obtain⟨n,hn',rfl⟩:=UW.mp hx
   subst e
   rcases bC hk1 with⟨i,t,e1,e2⟩ | ⟨y,t,e1,e2⟩
   ·exact⟨i,t,e2⟩
   ·cases e1
  have hI:=intsAre_map vs hint
  refine zD hob hI hlen λout ns' a1 a2 a3=>?_
  have ek:vs.map A6=(vs.map numOf).map Sum.inl:=by
   rw [List.map_map]
   refine List.map_congr_left λv hv=>?_
   obtain⟨n,t,rfl⟩:=hint v hv
   rfl
  have Ar:ns'.Nodup:=by
   refine a2.nodup_iff.mpr ?_
   have h1:=hperm.nodup_iff.mpr hS.Nn
   rw [ek]at h1
   exact(List.pairwise_map.mp h1).imp λhne e=>hne (congrArg _ e)
  refine fin (ns'.map V.int) out (xZ a1) (by rw [UI,a2.length_eq,UI]; exact hlen) (.inl ⟨ns,ns',rfl,rfl,ID (ms':=[]) a3 Ar,λn=>?_⟩)
  rw [a2.mem_iff]
  have:n∈vs.map numOf↔(Sum.inl n:Key)∈vs.map A6:=by
   rw [ek]
   constructor
   ·exact λh=>UW.mpr ⟨n,h,rfl⟩
   ·intro h
    obtain⟨m,hm,e⟩:=UW.mp h
    cases e
    exact hm
  rw [this,hperm.mem_iff,jI]
  constructor
  ·rintro⟨x,hx,e⟩
   obtain⟨m,hm,rfl⟩:=UW.mp hx
   cases e
   exact hm
  ·exact λh=>⟨.int n,UW.mpr ⟨n,h,rfl⟩,rfl⟩
 ·have hstr:∀v∈vs,∃n t,v=Value.str n t:=λv hv=>by
   obtain⟨k,hk1,hk2⟩:=hel v hv
   obtain⟨x,hx,e⟩:=jI.mp hk2
   obtain⟨n,hn',rfl⟩:=UW.mp hx
   subst e
   rcases bC hk1 with⟨i,t,e1,e2⟩ | ⟨y,t,e1,e2⟩
   ·cases e1
   ·exact⟨y,t,e2⟩
  have hI:=strsAre_map vs hstr
  refine Az hob hI hlen λout ns' a1 a2 a3=>?_
  have ek:vs.map A6=(vs.map strOf).map Sum.inr:=by
   rw [List.map_map]
   refine List.map_congr_left λv hv=>?_
   obtain⟨n,t,rfl⟩:=hstr v hv
   rfl
  have Ar:ns'.Nodup:=by
   refine a2.nodup_iff.mpr ?_
   have h1:=hperm.nodup_iff.mpr hS.Nn
   rw [ek]at h1
   exact(List.pairwise_map.mp h1).imp λhne e=>hne (congrArg _ e)
  refine fin (ns'.map V.str) out (wo a1) (by rw [UI,a2.length_eq,UI]; exact hlen) (.inr ⟨ss,ns',rfl,rfl,?_,λn=>?_⟩)
  ·rw [List.pairwise_iff_getElem]at a3⊢
   intro i j hi hj hij
   exact HP (a3 i j hi hj hij) (List.pairwise_iff_getElem.mp Ar i j hi hj hij)
  rw [a2.mem_iff]
  have:n∈vs.map strOf↔(Sum.inr n:Key)∈vs.map A6:=by
   rw [ek]
   constructor
   ·exact λh=>UW.mpr ⟨n,h,rfl⟩
   ·intro h
    obtain⟨m,hm,e⟩:=UW.mp h
    cases e
    exact hm
  rw [this,hperm.mem_iff,jI]
  constructor
  ·rintro⟨x,hx,e⟩
   obtain⟨m,hm,rfl⟩:=UW.mp hx
   cases e
   exact hm
  ·exact λh=>⟨.str n,UW.mpr ⟨n,h,rfl⟩,rfl⟩
theorem kE(hc:X.calm=true)(hg1:Gl X "sorted")(hm1:X.mg "sorted"=none)(hg2:Gl X "set")(hm2:X.mg "set"=none)(he:PE X e te)(hs1:starEach [e] X.env=[(false,eval e X.env)]:=by rfl)
  (hs2:starEach [Expr.Call (.Name "set" p2) [e] [] pos2] X.env=[(false,eval (.Call (.Name "set" p2) [e] [] pos2) X.env)]:=by rfl) :
  PE X (.Call (.Name "sorted" p1) [.Call (.Name "set" p2) [e] [] pos2] [] pos) (C6 X.K te):=by
 intro pins s σ H Q I h
 refine wpAny_Call_Name_kw (iM I hg1 hm1 boot_sorted ?_ (by decide) (by decide))
 refine PyProof.Rows.callWith_builtin1 ?_ hs2 rfl
 rw [hs2]
 refine Calls.spliced_cons ?_
 refine wpAny_Call_Name_kw (iM I hg2 hm2 zA ?_ (by decide) (by decide))
 refine PyProof.Rows.callWith_type1 ?_ hs1 rfl
 rw [hs1]
 refine Calls.spliced_cons (b_ (he pins s σ H _ I h) λu s1 ⟨x,H1,I1,r1,a,xs,ex,MK,h64,hx,q⟩=>?_)
 refine Calls.spliced_nil ?_
 subst ex
 cases r1
 have hx':∀x∈xs,(∃n,x=.int n)\/∃y,x=.str y:=λx Qb=>by
  rcases hx with⟨ns,rfl⟩ | ⟨ss,rfl⟩
  ·obtain⟨n,_,rfl⟩:=UW.mp Qb; exact .inl ⟨n,rfl⟩
  ·obtain⟨n,_,rfl⟩:=UW.mp Qb; exact .inr ⟨n,rfl⟩
 have go:∀{T:String} {its:List Value} {o:Obj},sd X.prog X.w T a its.toArray->Vals xs its->s1.heap.get? a=some o->o.cls=.type T->(∃n,o.data=.seq its.toArray n)->
   wpAny (model X.prog X.w) X.A (call (.type "set") [.ref a]) (λv s2=>wpAny (model X.prog X.w) X.A (spliced []) (λvs s3=>wpAny (model X.prog X.w) X.A (call (.builtin "sorted") (v::vs)) (EP X pins σ Q) X.xe s3) X.xe s2) X.xe s1:=λ{T its o} src r ho hcl hd=>by
  have hl:=r.length
  refine vH (key:=jl xs) src (I1.ok.hd hc) ho hcl hd (DJ r hx') (by simp [scanBound]; omega) λh' tk es ep t hS hk=>?_
  refine Calls.spliced_nil ?_
  have SY:its.toArray.size=xs.length:=by rw [US,hl]
  rw [SY]at hS
  exact ur hc (I1.kept (t':=tk) hk) hS h64 hx q
 rcases MK with MK | MK
 ·obtain⟨its,r,pl,_⟩:=I1.list MK
  obtain⟨o,ho,hcl,hd⟩:=pl.isList
  exact go src_list r ho hcl hd
 ·obtain⟨its,r,pl,_⟩:=I1.tuple MK
  obtain⟨o,ho,hcl,hd⟩:=pl
  exact go EY r ho hcl hd
end
end L2
namespace CS
open PySem L2
abbrev DL:=Option Int×Option Int
def eV:Option Int->V
 | none=>.non
 | some n=>.int n
inductive B0 where
 | num (ui:List DL)
 | HY (b:Bool) (ws:List Str)
structure Ny(H:Hp)(t:Addr)(as:List Addr)(ui:List DL):Prop where
 tup:H t=some (.tup (as.map V.ref))
 len:as.length=ui.length
 at_:∀(i:Nat) a s,as[i]? = some a->ui[i]? = some s->H a=some (.tup [eV s.1,eV s.2])
def O2(s:DL)(n:Int):Bool:=s.1.all (λl=>decide (l<=n))&&s.2.all (λh=>decide (n<=h))
def Iy:B0->V->Bool
 | .num ui,.int n=>ui.any λs=>O2 s n
 | .num _,_=>false
 | .HY b ws,.str x=>decide (x∈ws)==b
 | .HY _ _,_=>false
def MW(s s':DL):Prop:=∃h l,s.2=some h/\s'.1=some l/\h+1<l
def Oo(s:DL):Prop:=(∀l h,s.1=some l->s.2=some h->l<=h)/\∀n,s.1=some n\/s.2=some n->-(10 ^ 60)<n/\n<10 ^ 60
def Jj:DL->List Int
 | (none,none)=>[0,1]
 | (none,some h)=>[h,h-1]
 | (some l,hh)=>if hh=some l then [l]else [l,l+1]
def Ql:Nat->Nat->List Nat->List Nat
 | 0,_,w=>w
 | f+1,l,w=>if l=0 then w else Ql f ((l-1) / 26) ((97+(l-1) % 26)::w)
def Sn(n:Nat):Str:=⟨(Ql (n+1) (n+1) []).toArray⟩
def besides(ws:List Str):List Str:=((List.range (ws.length+2)).map Sn).filter λx=>!decide (x∈ws)
def vc:B0->List V
 | .num ui=>(ui.flatMap Jj).map V.int
 | .HY true ws=>ws.map V.str
 | .HY false ws=>(besides ws).map V.str
def C2:Int->List DL->Int
 | acc,[]=>acc
 | acc,(some l,some h)::r=>C2 (acc+if h-l+1<3 then h-l+1 else 3) r
 | _,_::_=>3
def A9:B0->Int
 | .num ui=>C2 0 ui
 | .HY b ws=>if b=true then ws.length else 3
def B8:B0->V->Prop
 | .num _,v=>∃n,v=.int n
 | .HY _ _,v=>∃x,v=.str x/\isW x
theorem wm{x:Str}(h:v3 x x):False:=List.lt_irrefl _ h
theorem Dk{ws:List Str}(h:ws.Pairwise v3):ws.Nodup:=h.imp λhl e=>by subst e; exact wm hl
structure P6(S:B0):Prop where
 mem:∀x∈vc S,Iy S x=true/\B8 S x
 tri:(A9 S=0/\vc S=[]/\∀v,Iy S v=false)\/(A9 S=1/\∃c,vc S=[c]/\∀v,Iy S v=true->v=c)\/(2<=A9 S/\∃x∈vc S,∃y∈vc S,x≠y)
end CS
namespace L2
open PySem
end L2
namespace My
open PySem L2 CT CS
abbrev wK:Stmt:=top 56
abbrev wQ:Stmt:=top 57
abbrev JF:Stmt:=top 58
abbrev rQ:Stmt:=top 59
abbrev oq:Stmt:=top 60
abbrev wu:Stmt:=top 61
abbrev wR:Stmt:=top 62
abbrev rJ:Stmt:=top 63
abbrev xb:Stmt:=top 64
abbrev uf:Stmt:=top 65
abbrev wL:Stmt:=top 66
theorem Fh:az ["_law_pot_here","_law_sort"] ["_law_pot_here","_law_sort"] (ar wK):=fs
theorem FJ:az ["_law_pot_here","_law_sort"] ["_law_pot_here","_law_sort"] (ar wQ):=fs
theorem DG:az ["_law_pot_here","_law_sort","_law_low","_law_some"] ["_law_pot_here","_law_sort"] (ar JF):=fs
theorem C_:az ["_law_pot_here","_law_head"] ["_law_pot_here","_law_head"] (ar rQ):=fs
theorem zR:az ["_law_pot_here","_law_head","_law_many_here"] ["_law_pot_here","_law_head","_law_many_here"] (ar oq):=fs
theorem Ft:az ["_law_pot_here"] ["_law_pot_here"] (ar wR):=fs
structure iL(mg:Str->Option Value):Prop where
 int:mg "int"=none
 min:mg "min"=none
 all:mg "all"=none
 sorted:mg "sorted"=none
 set:mg "set"=none
def dN(v:V):Prop:=(∃n,v=.int n)\/∃x,v=.str x
structure cU(K:Ve)(H:Hp)(a:Addr)(hs:List Str):Prop where
 tup:H a=some (.tup (hs.map V.str))
 pos:1<=hs.length
 few:hs.length<=6
theorem cU.grow{K:Ve}{p a:Addr}{H H1:Hp}{hs:List Str}(hP:dj H p)(g:bo p H H1)(h:cU K H a hs):cU K H1 a hs :=
 ⟨g.keep _ _ (λz=>by obtain⟨x,y,e,_⟩:=hP; have:=h.tup; rw [z,e]at this; cases this) h.tup,h.pos,h.few⟩
def tE:Sp:=λvs H Q _=>∃(p:Addr) (s:Str),vs=[.ref p,.str s]/\dj H p/\∀x H',bo p H H'->Q (.str x) H'
def rX:Sp:=λvs H Q _=>∃(p:Addr) (s:Str),vs=[.ref p,.str s]/\dj H p/\∀v H',bo p H H'->dN v->Q v H'
def iy(K:Ve):Sp:=λvs H Q _=>∃(p a:Addr) (hs:List Str),vs=[.ref p,.ref a]/\dj H p/\cU K H a hs/\∀(n:Int) H',bo p H H'->1<=n->n<=12->Q (.int n) H'
def l7(K:Ve):Sp:=λvs H Q _=>∃(p a:Addr) (hs:List Str) (m:Int),vs=[.ref p,.ref a,.int m]/\dj H p/\cU K H a hs/\0<=m/\m<=10/\∀t (ns:List Int) H',bo p H H'->H' t=some (.tup (ns.map V.int))->ns.length=m.toNat->(∀n∈ns,1<=n)->Q (.ref t) H'
def ud:Sp:=λvs H Q _=>∃(p:Addr),vs=[.ref p]/\dj H p/\∀x H',bo p H H'->Q (.str x) H'
theorem ra{m:Int}(h0:0<m)(h1:m<=1000):m.natAbs.log2<9000:=UL (Nat.log2_le_self _) (by omega)
theorem jQ{j:Int}(h:0<=j)(h1:j<=1000):-(2 ^ 62)<=j/\j<2 ^ 62:=by
 have e:((2:Int) ^ 62)=4611686018427387904:=by decide
 rw [e]; omega
variable{P:Program}{w:World}{K:Ve}{mg:Str->Option Value}{base:Heap}
theorem BI(B2:iL mg)(F:FA K mg "_law_a_sort" wK)(G:bc bf P w K mg base 1 "_law_draw" ["_law_pot_here","_law_many_here"] dv) :
  bc bf P w K mg base 2 "_law_a_sort" ["_law_pot_here","_law_sort"] tE:=by
 refine F.ok Fh λf cdv A outer s H vs Q E hr h=>?_
 obtain⟨p,x,rfl,hP,q⟩:=h
 refine⟨_,aq (dy (aW aP (ay G hr (ae (pv 0) (ae ai ah))) ai) (ax (bj K (aQ (ae ao (ae ao ah))) (ay G hr (ae (pv 0) (ae ai ah))))) cb)
  (ax (bj K (aQ (ae ao (ae (pv 1) ah))) (aV cA rfl B2.int PyProof.Rows.boot_int (ae (bU mn (pv 1) ao) ah)))),?_⟩
 refine⟨_,rfl,p,_,rfl,hP,by decide,by decide,λe1 H1 g1 a1 b1=>⟨rfl,_,rfl,?_⟩⟩
 refine cG (λ_=>?_) (λ_=>?_)
 ·refine⟨cJ,λD hD=>?_⟩
  have g2:=g1.new (o:=.lst [.str "n",.str "w"]) hD
  refine⟨_,rfl,p,_,rfl,g2.cf,by decide,by decide,λe2 H2 g3 a2 b2=>?_⟩
  have hd:e2=0\/e2=1:=by omega
  have hk:=g3.keep D _ (g1.ne hD) ag
  rcases hd with z | z <;> subst z
  ·exact⟨D,_,_,_,rfl,rfl,aZ.of hk,rfl,q _ _ (g2.trans g3)⟩
  ·exact⟨D,_,_,_,rfl,rfl,aZ.of hk,rfl,q _ _ (g2.trans g3)⟩
 ·refine⟨_,rfl,cJ,λD hD=>?_⟩
  have g2:=g1.new (o:=.lst [.str "n",.str x]) hD
  refine⟨_,rfl,rfl,.inr ⟨_,rfl,?_⟩⟩
  have pK:∃z:Str,i_ [V.str "n",V.str x] (if(!decide (V.str x=V.str "t"))=true then 1 else 0)=some (.str z):=by
   cases(!decide (V.str x=V.str "t"))
   ·exact⟨_,rfl⟩
   ·exact⟨_,rfl⟩
  obtain⟨z,hz⟩:=pK
  exact⟨D,_,_,_,rfl,rfl,aZ.of ag,hz,q z _ g2⟩
theorem Ek(F:FA K mg "_law_cell" wQ)(G:bc bf P w K mg base 2 "_law_a_sort" ["_law_pot_here","_law_sort"] tE)(G3:bc bf P w K mg base 2 "_law_word" ["_law_pot_here"] sh)(G2:bc bf P w K mg base 2 "_law_number" ["_law_pot_here"] oN) :
  bc bf P w K mg base 3 "_law_cell" ["_law_pot_here","_law_sort"] rX:=by
 refine F.ok FJ λf cdv A outer s H vs Q E hr h=>?_
 obtain⟨p,x,rfl,hP,q⟩:=h
 refine⟨_,aq (dy (aW aP (ay G hr (ae (pv 0) (ae (pv 1) ah))) ao) (ax (ay G3 hr (ae (pv 0) ah))) cb)
  (ax (ay G2 hr (ae (pv 0) ah))),?_⟩
 refine⟨_,rfl,_,rfl,p,x,rfl,hP,λy H1 g1=>⟨rfl,_,rfl,?_⟩⟩
 refine cG (λ_=>?_) (λ_=>?_)
 ·exact⟨_,rfl,p,rfl,g1.cf,λz H2 g2 n1=>q _ _ (g1.trans g2) (.inr ⟨z,rfl⟩)⟩
 ·exact⟨_,rfl,p,rfl,g1.cf,λn H2 g2 n1 n2=>q _ _ (g1.trans g2) (.inl ⟨n,rfl⟩)⟩
theorem Ac(B:jU mg)(F:FA K mg "_law_column" rQ)(G:bc bf P w K mg base 1 "_law_draw" ["_law_pot_here","_law_many_here"] dv) :
  bc bf P w K mg base 2 "_law_column" ["_law_pot_here","_law_head"] (iy K):=by
 refine F.ok C_ λf cdv A outer s H vs Q E hr h=>?_
 obtain⟨p,a,hs,rfl,hP,hh,q⟩:=h
 refine⟨_,aq (dy (aW aP (ay G hr (ae (pv 0) (ae ai ah))) ai) (ax (aF cY ai (ay G hr (ae (pv 0) (ae ai ah))))) cb)
  (ax (aF cY ai (ay G hr (ae (pv 0) (ae (a_ bF rfl B.len PySem.boot_len (ae (pv 1) ah)) ah))))),?_⟩
 refine⟨_,rfl,p,_,rfl,hP,by decide,by decide,λe1 H1 g1 a1 b1=>⟨rfl,_,rfl,?_⟩⟩
 refine cG (λ_=>?_) (λ_=>?_)
 ·exact⟨_,rfl,p,_,rfl,g1.cf,by decide,by decide,λe2 H2 g2 a2 b2=>⟨_,_,rfl,rfl,q _ _ (g1.trans g2) (by omega) (by omega)⟩⟩
 ·have h1:=hh.grow hP g1
  have hl:(hs.map V.str).length=hs.length:=UI _
  have:=hh.pos
  have:=hh.few
  exact⟨_,rfl,_,rfl,a,_,rfl,.inr (aH.of h1.tup),p,_,rfl,g1.cf,by omega,ra (by omega) (by omega),λe2 H2 g2 a2 b2=>⟨_,_,rfl,rfl,q _ _ (g1.trans g2) (by omega) (by omega)⟩⟩
theorem yk(B:jU mg)(F:FA K mg "_law_columns" oq)(G:bc bf P w K mg base 2 "_law_column" ["_law_pot_here","_law_head"] (iy K)) :
  bc bf P w K mg base 3 "_law_columns" ["_law_pot_here","_law_head","_law_many_here"] (l7 K):=by
 refine F.ok zR λf cdv A outer s H vs Q E hr h=>?_
 obtain⟨p,a,hs,m,rfl,hP,hh,m0,m1,q⟩:=h
 refine⟨_,bK (Ce (aV bA rfl B.tuple PyProof.Rows.boot_tuple (ae (bw (N':=["_law_k","_law_pot_here","_law_head"]) (src:=[none,some 0,some 1]) rfl (ba.jK (by kernel_rfl)) (dm rfl B.range (ae (pv 2) ah)) (λcl C s H fp=>eA (i:=0)) (λcl C s H fp=>aX)
   (λcl C s H fp=>ay (hg:=xA) G hr (ae (yV 1) (ae (yV 2) ah)))) ah))),?_⟩
 have g0:=bo.refl hP
 refine⟨_,rfl,m,rfl,(jQ m0 (by omega)).1,(jQ m0 (by omega)).2,λD hD=>?_⟩
 have nD:=g0.ne hD
 refine iV (n:=m.toNat) (λi σ ys H'=>(∃o,σ=[o,some (.ref p),some (.ref a)])/\(∃ns:List Int,ys=ns.map V.int/\ns.length=i/\∀n∈ns,1<=n)/\H' D=some (.lst ys)/\bo p H H')
  ⟨⟨none,rfl⟩,⟨[],rfl,rfl,by simp⟩,ag,g0.new hD⟩ ?_ ?_ ?_ ?_
 ·rintro i σ ys H' _ ⟨_,⟨ns,rfl,rfl,_⟩,h,_⟩
  exact⟨h,by rw [UI]; exact UD _⟩
 ·exact UE (show m.toNat<=10 by omega) (by decide)
 ·rintro i σ ys H' hi ⟨⟨o,rfl⟩,⟨ns,rfl,rfl,hp⟩,h,g⟩
  exact⟨_,rfl,_,rfl,p,a,hs,rfl,g.cf,hh.grow hP g,λn H2 g2 n1 n2=>⟨g2.keep D _ nD h,⟨_,rfl⟩,⟨ns++[n],by rw [UK]; rfl,by rw [UJ]; rfl,λk hk=>by rcases UZ.mp hk with z | z; exact hp k z; rw [UU.mp z]; exact n1⟩,ag,g0.put hD nD (g.trans g2)⟩⟩
 ·rintro σ ys H' ⟨_,⟨ns,rfl,hn,hp⟩,h,g⟩
  exact⟨D,_,rfl,.inl ⟨aZ.of h,λt ht=>q t ns _ (g.new ht) ag hn hp⟩⟩
theorem DK(F:FA K mg "_law_state" wR)(G:bc bf P w K mg base 2 "_law_draw" ["_law_pot_here","_law_many_here"] dv)(G3:bc bf P w K mg base 2 "_law_word" ["_law_pot_here"] sh) :
  bc bf P w K mg base 3 "_law_state" ["_law_pot_here"] ud:=by
 refine F.ok Ft λf cdv A outer s H vs Q E hr h=>?_
 obtain⟨p,rfl,hP,q⟩:=h
 refine⟨_,aq (dy (aW aP (ay G hr (ae (pv 0) (ae ai ah))) ai) (ax (ay G3 hr (ae (pv 0) ah))) cb)
  (ax (bj K (aQ (ae ao (ae ao (ae ao ah)))) (ay G hr (ae (pv 0) (ae ai ah))))),?_⟩
 refine⟨_,rfl,p,_,rfl,hP,by decide,by decide,λe1 H1 g1 a1 b1=>⟨rfl,_,rfl,?_⟩⟩
 refine cG (λ_=>?_) (λ_=>?_)
 ·exact⟨_,rfl,p,rfl,g1.cf,λz H2 g2 n1=>q _ _ (g1.trans g2)⟩
 ·refine⟨gv,λD hD=>?_⟩
  have g2:=g1.new (o:=.lst [.str "s",.str "t",.str "u"]) hD
  refine⟨_,rfl,p,_,rfl,g2.cf,by decide,by decide,λe2 H2 g3 a2 b2=>?_⟩
  have hd:e2=0\/e2=1\/e2=2:=by omega
  have hk:=g3.keep D _ (g1.ne hD) ag
  rcases hd with z | z | z <;> subst z
  ·exact⟨D,_,_,_,rfl,rfl,aZ.of hk,rfl,q _ _ (g2.trans g3)⟩
  ·exact⟨D,_,_,_,rfl,rfl,aZ.of hk,rfl,q _ _ (g2.trans g3)⟩
  ·exact⟨D,_,_,_,rfl,rfl,aZ.of hk,rfl,q _ _ (g2.trans g3)⟩
end My
namespace My
open PySem L2
theorem ia{p a:Addr}{H H':Hp}{xs:List V}(hP:dj H p)(g:bo p H H')(e:H a=some (.tup xs)):H' a=some (.tup xs):=g.keep _ _ (λz=>by obtain⟨x,y,e2,_⟩:=hP; rw [z,e2]at e; cases e) e
def aE(H H':Hp):Prop:=∀a xs,H a=some (.tup xs)->H' a=some (.tup xs)
theorem aE.of{H H':Hp}(s:aM H H'):aE H H':=λ_ _ e=>s _ _ e
theorem aE.grow{p:Addr}{H H':Hp}(hP:dj H p)(g:bo p H H'):aE H H':=λa xs e=>ia hP g e
abbrev Hd:=List Str
theorem bq{H H':Hp}{D:Addr}{o:HO}(hD:H D=none)(s:aM H H'):aM H (upd H' D o):=λb u e=>by
 rw [aI (aU e hD)]; exact s _ _ e
theorem take_one{α:Type}{ws:List α}{i:Nat}{w:α}(h:ws[i]? = some w):ws.take (i+1)=ws.take i++[w]:=by
 rw [List.take_add_one,h]; rfl
theorem aG{D:Ends}{σ:St}{H:Hp}(h:D.nx σ H):CH D σ H:=h
def sW:V->Str
 | .str _=>"w"
 | _=>"n"
def bt(hd:Hd)(c:Int):Str:=hd.getD (c-1).toNat ""
inductive W1 where
 | keep (c:Int) (t:Str)
 | same (c d:Int)
 | cut (cs:List Int)
 | turn (c:Int) (ps:List (V×V))
 | must (c:Int) (ps:List (V×V))
 | walk (c:Int) (mv:List V)
 | sort (cs:List Int)
 | apart
 | count (cs:List Int)
 | sum (cs:List Int) (c:Int)
 | number
 | first (n:Int)
inductive Wk where
 | one (x:W1)
 | both (p q:List Wk)
 | meet (c d:Int) (p q:List Wk)
def W1.nm:W1->Str
 | .keep ..=>"keep"
 | .same ..=>"same"
 | .cut ..=>"cut"
 | .turn ..=>"turn"
 | .must ..=>"must"
 | .walk ..=>"walk"
 | .sort ..=>"sort"
 | .apart=>"apart"
 | .count ..=>"count"
 | .sum ..=>"sum"
 | .number=>"number"
 | .first ..=>"first"
def Wk.nm:Wk->Str
 | .one x=>x.nm
 | .both ..=>"both"
 | .meet ..=>"meet"
structure bP{α:Type}(At:Hp->Addr->α->Prop)(H:Hp)(p:Addr)(bs:List Addr)(xs:List α):Prop where
 tup:H p=some (.tup (bs.map V.ref))
 len:bs.length=xs.length
 at_:∀(i:Nat) a x,bs[i]? = some a->xs[i]? = some x->At H a x
theorem bP.keep{α:Type}{At:Hp->Addr->α->Prop}{H H':Hp}{p:Addr}{bs:List Addr}{xs:List α}(k:aE H H')(kA:∀a x,At H a x->At H' a x)(h:bP At H p bs xs):bP At H' p bs xs:=⟨k _ _ h.tup,h.len,λi a x e1 e2=>kA _ _ (h.at_ i a x e1 e2)⟩
theorem bP.get{α:Type}{At:Hp->Addr->α->Prop}{H:Hp}{p:Addr}{bs:List Addr}{xs:List α}(h:bP At H p bs xs){i:Nat}{x:V}(hx:(bs.map V.ref)[i]? = some x):∃(a:Addr) (y:α),x=.ref a/\xs[i]? = some y/\At H a y:=by
 rw [U5]at hx
 cases e:bs[i]? with
 | none=>rw [e]at hx; cases hx
 | some b =>
  rw [e]at hx
  have hx':V.ref b=x:=U2 hx
  subst hx'
  have hi:i<xs.length:=by rw [←h.len]; exact(UT.mp e).1
  have er:xs[i]? = some xs[i]:=UN hi
  exact⟨b,xs[i],rfl,er,h.at_ i b _ e er⟩
abbrev ku(H:Hp)(a:Addr)(p:V×V):Prop:=H a=some (.tup [p.1,p.2])
def zx(H:Hp)(a:Addr)(v:V):Prop:=∃s t,H a=some (.tup [.str s,v,.str t])
def zo(H:Hp)(a:Addr)(c:Int):Prop:=∃b,H a=some (.tup [.int c,.bl b])
def jV(H:Hp)(a:Addr):W1->Prop
 | .keep c t=>∃s xs,H a=some (.tup [.str "keep",.int c,.ref s])/\H s=some (.tup (.str t::xs))
 | .same c d=>H a=some (.tup [.str "same",.int c,.int d])
 | .cut cs=>∃t,H a=some (.tup [.str "cut",.ref t])/\H t=some (.tup (cs.map V.int))
 | .turn c ps=>∃t bs,H a=some (.tup [.str "turn",.int c,.ref t])/\bP ku H t bs ps
 | .must c ps=>∃t bs,H a=some (.tup [.str "must",.int c,.ref t])/\bP ku H t bs ps
 | .walk c mv=>∃s t bs,H a=some (.tup [.str "walk",.int c,.str s,.ref t])/\bP zx H t bs mv
 | .sort cs=>∃t bs,H a=some (.tup [.str "sort",.ref t])/\bP zo H t bs cs
 | .apart=>H a=some (.tup [.str "apart"])
 | .count cs=>∃t,H a=some (.tup [.str "count",.ref t])/\H t=some (.tup (cs.map V.int))
 | .sum cs c=>∃t,H a=some (.tup [.str "sum",.ref t,.int c])/\H t=some (.tup (cs.map V.int))
 | .number=>H a=some (.tup [.str "number"])
 | .first n=>H a=some (.tup [.str "first",.int n])
theorem zx.keep{H H':Hp}(k:aE H H'){a:Addr}{v:V}(h:zx H a v):zx H' a v:=by
 obtain⟨s,t,h⟩:=h; exact⟨s,t,k _ _ h⟩
theorem zo.keep{H H':Hp}(k:aE H H'){a:Addr}{c:Int}(h:zo H a c):zo H' a c:=by
 obtain⟨b,h⟩:=h; exact⟨b,k _ _ h⟩
theorem jV.keep{H H':Hp}{a:Addr}{x:W1}(k:aE H H')(h:jV H a x):jV H' a x:=by
 cases x with
 | keep c t=>obtain⟨s,xs,h1,h2⟩:=h; exact⟨s,xs,k _ _ h1,k _ _ h2⟩
 | same c d=>exact k _ _ h
 | cut cs=>obtain⟨t,h1,h2⟩:=h; exact⟨t,k _ _ h1,k _ _ h2⟩
 | turn c ps=>obtain⟨t,bs,h1,h2⟩:=h; exact⟨t,bs,k _ _ h1,h2.keep k λ_ _ z=>k _ _ z⟩
 | must c ps=>obtain⟨t,bs,h1,h2⟩:=h; exact⟨t,bs,k _ _ h1,h2.keep k λ_ _ z=>k _ _ z⟩
 | walk c mv=>obtain⟨s,t,bs,h1,h2⟩:=h; exact⟨s,t,bs,k _ _ h1,h2.keep k λ_ _ z=>z.keep k⟩
 | sort cs=>obtain⟨t,bs,h1,h2⟩:=h; exact⟨t,bs,k _ _ h1,h2.keep k λ_ _ z=>z.keep k⟩
 | apart=>exact k _ _ h
 | count cs=>obtain⟨t,h1,h2⟩:=h; exact⟨t,k _ _ h1,k _ _ h2⟩
 | sum cs c=>obtain⟨t,h1,h2⟩:=h; exact⟨t,k _ _ h1,k _ _ h2⟩
 | number=>exact k _ _ h
 | first n=>exact k _ _ h
theorem jV.first{H:Hp}{a:Addr}{x:W1}(h:jV H a x):∃xs,H a=some (.tup (.str x.nm::xs)):=by
 cases x with
 | keep c t=>obtain⟨s,xs,h1,h2⟩:=h; exact⟨_,h1⟩
 | same c d=>exact⟨_,h⟩
 | cut cs=>obtain⟨t,h1,h2⟩:=h; exact⟨_,h1⟩
 | turn c ps=>obtain⟨t,bs,h1,h2⟩:=h; exact⟨_,h1⟩
 | must c ps=>obtain⟨t,bs,h1,h2⟩:=h; exact⟨_,h1⟩
 | walk c mv=>obtain⟨s,t,bs,h1,h2⟩:=h; exact⟨_,h1⟩
 | sort cs=>obtain⟨t,bs,h1,h2⟩:=h; exact⟨_,h1⟩
 | apart=>exact⟨_,h⟩
 | count cs=>obtain⟨t,h1,h2⟩:=h; exact⟨_,h1⟩
 | sum cs c=>obtain⟨t,h1,h2⟩:=h; exact⟨_,h1⟩
 | number=>exact⟨_,h⟩
 | first n=>exact⟨_,h⟩
def dk:Nat->Hp->Addr->Wk->Prop
 | _,H,a,.one x=>jV H a x
 | 0,_,_,_=>False
 | n+1,H,a,.both p q=>∃b c bs cs,H a=some (.tup [.str "both",.ref b,.ref c])/\bP (dk n) H b bs p/\bP (dk n) H c cs q
 | n+1,H,a,.meet c d p q=>∃b e bs es,H a=some (.tup [.str "meet",.int c,.int d,.ref b,.ref e])/\bP (dk n) H b bs p/\bP (dk n) H e es q
abbrev jo(n:Nat)(H:Hp)(p:Addr)(ws:List Wk):Prop:=∃bs,bP (dk n) H p bs ws
theorem dk.keep{H H':Hp}(k:aE H H'):∀{n:Nat} {a:Addr} {x:Wk},dk n H a x->dk n H' a x
 | 0,a,.one x,h=>jV.keep k h
 | n+1,a,.one x,h=>jV.keep k h
 | n+1,a,.both p q,h=>by
  obtain⟨b,c,bs,cs,h1,h2,h3⟩:=h
  exact⟨b,c,bs,cs,k _ _ h1,h2.keep k λ_ _ z=>z.keep k,h3.keep k λ_ _ z=>z.keep k⟩
 | n+1,a,.meet c d p q,h=>by
  obtain⟨b,e,bs,es,h1,h2,h3⟩:=h
  exact⟨b,e,bs,es,k _ _ h1,h2.keep k λ_ _ z=>z.keep k,h3.keep k λ_ _ z=>z.keep k⟩
theorem dk.first{H:Hp}:∀{n:Nat} {a:Addr} {x:Wk},dk n H a x->∃xs,H a=some (.tup (.str x.nm::xs))
 | 0,a,.one x,h=>jV.first h
 | n+1,a,.one x,h=>jV.first h
 | n+1,a,.both p q,h=>by obtain⟨b,c,bs,cs,h1,_⟩:=h; exact⟨_,h1⟩
 | n+1,a,.meet c d p q,h=>by obtain⟨b,e,bs,es,h1,_⟩:=h; exact⟨_,h1⟩
theorem jo.keep{n:Nat}{H H':Hp}{p:Addr}{ws:List Wk}(k:aE H H')(h:jo n H p ws):jo n H' p ws:=by
 obtain⟨bs,h⟩:=h
 exact⟨bs,h.keep k λ_ _ z=>z.keep k⟩
abbrev dX(H:Hp)(a:Addr)(h:Hd):Prop:=H a=some (.tup (h.map V.str))
structure f9(H:Hp)(l:Addr)(as:List Addr)(hs:List Hd):Prop where
 lst:H l=some (.lst (as.map V.ref))
 len:as.length=hs.length
 at_:∀(i:Nat) a h,as[i]? = some a->hs[i]? = some h->dX H a h
theorem f9.same{H H':Hp}{l:Addr}{as:List Addr}{hs:List Hd}(s:aM H H')(h:f9 H l as hs):f9 H' l as hs:=⟨s _ _ h.lst,h.len,λi a r e1 e2=>s _ _ (h.at_ i a r e1 e2)⟩
theorem f9.nth{H:Hp}{l:Addr}{as:List Addr}{hs:List Hd}{i:Nat}{h:Hd}(x:f9 H l as hs)(e:hs[i]? = some h):∃a,(as.map V.ref)[i]? = some (.ref a)/\dX H a h:=by
 have hi:i<as.length:=by rw [x.len]; exact(UT.mp e).1
 exact⟨as[i],by rw [U5,UN hi]; rfl,x.at_ i _ _ (UN hi) e⟩
theorem dE{hd:List Str}{c:Int}(h:1<=c/\c<=hd.length):i_ (hd.map V.str) (c-1)=some (.str (bt hd c)):=by
 have hi:(c-1).toNat<hd.length:=by omega
 have e:(((c-1).toNat:Nat):Int)=c-1:=by omega
 have:=av (xs:=hd.map V.str) (j:=(c-1).toNat) (v:=.str (bt hd c)) (by
  rw [U5,UN hi]
  unfold bt
  rw [List.getD_eq_getElem?_getD,UN hi]
  rfl)
 rw [e]at this
 exact this
def c8:W1->List Int
 | .keep c _=>[c]
 | .same c d=>[c,d]
 | .cut cs=>cs
 | .turn c _=>[c]
 | .must c _=>[c]
 | .walk c _=>[c]
 | .sort cs=>cs
 | .count cs=>cs
 | .sum cs c=>cs++[c]
 | _=>[]
def p9:W1->Prop
 | .cut cs=>cs.length<=1000
 | .sort cs=>cs.length<=1000
 | .count cs=>cs.length<=1000
 | .sum cs _=>cs.length<=1000
 | .turn _ ps=>ps.length<=1000
 | .must _ ps=>ps.length<=1000
 | .walk _ mv=>mv.length<=1000
 | _=>True
def Ho:W1->Prop
 | .turn _ ps=>∀p∈ps,dN p.1/\dN p.2
 | .must _ ps=>∀p∈ps,dN p.1/\dN p.2
 | .walk _ mv=>∀v∈mv,v=.non\/dN v
 | _=>True
def ne1:W1->Prop
 | .turn _ ps=>ps≠[]/\ps.length<=50
 | .must _ ps=>ps≠[]/\ps.length<=50
 | .walk _ mv=>mv.length<=50
 | .cut cs=>cs≠[]
 | _=>True
structure D7(x:W1):Prop where
 sm:p9 x
 good:Ho x
 ne:ne1 x
 pos:∀c∈c8 x,1<=c
end My
namespace CS
open PySem L2
structure Uw(H:Hp)(l:Addr)(as:List Addr)(ui:List DL):Prop where
 lst:H l=some (.lst (as.map V.ref))
 len:as.length=ui.length
 at_:∀(i:Nat) a s,as[i]? = some a->ui[i]? = some s->H a=some (.tup [eV s.1,eV s.2])
def Bd(ms:List Int)(s:DL):Prop:=∃l h,s=(some l,some h)/\l<=h/\(-(10 ^ 60)<l/\h<10 ^ 60)/\∀m∈ms,h<m
structure P7(ms:List Int)(ui:List DL):Prop where
 pw:ui.Pairwise MW
 bd:∀s∈ui,Bd ms s
structure Uj(ui:List DL):Prop where
 pw:ui.Pairwise MW
 ok:∀s∈ui,Oo s
theorem vb{α:Type} [DecidableEq α]:∀{ms ns:List α},ms.Nodup->(∀m∈ms,m∈ns)->ms.length<=ns.length
 | [],_,_,_=>U1 _
 | m::ms,ns,nd,h=>by
  have Qu:=List.nodup_cons.mp nd
  have hm:=h m Va
  have ih:=vb (ms:=ms) (ns:=ns.erase m) Qu.2 λx hx=>(List.mem_erase_of_ne (λe=>Qu.1 (by rw [←e]; exact hx))).mpr (h x (UQ _ hx))
  rw [List.length_erase_of_mem hm]at ih
  have:0<ns.length:=List.length_pos_of_mem hm
  rw [Vb]
  omega
theorem sorted_strs{ns:List Str}{ys:List V}(h:lF (ns.map V.str) ys):∃ms:List Str,ys=ms.map V.str/\ms.Pairwise v3/\(∀n∈ms,n∈ns)/\ms.length<=ns.length:=by
 rcases h with⟨ss,ms,e1,e2,h1,h2⟩ | ⟨ns',ms,e1,e2,h1,h2⟩
 ·cases ns with
  | nil =>
   cases ss with
   | nil =>
    cases ms with
    | nil=>exact⟨[],e2,.nil,by simp,UD _⟩
    | cons m ms=>exact absurd ((h2 m).mp Va) (by simp)
   | cons s ss=>cases e1
  | cons n ns =>
   cases ss with
   | nil=>cases e1
   | cons s ss=>simp at e1
 ·have:ns=ns':=by
   have:=congrArg (List.map λv=>match v with | V.str n=>n | _=>"") e1
   simpa [List.map_map,Function.comp_def] using this
  subst this
  exact⟨ms,e2,h1,λn hn=>(h2 n).mp hn,vb (Dk h1) λn hn=>(h2 n).mp hn⟩
end CS
namespace My
open PySem L2 CT CS
theorem ak{i:Nat}{v:V}{σ:St}{H:Hp}{k:St->Hp->Prop}(h:k (σ.set i (some v)) H):bz i v σ H k:=h
def B5(K:Ve):Sp:=λvs H Q _=>∃(p:Addr) (s:Str),vs=[.ref p,.str s]/\dj H p/\∀(a:Addr) (t:Str) (xs:List V) H',bo p H H'->H' a=some (.tup (.str t::xs))->Q (.ref a) H'
theorem lJ{K:Ve}{H:Hp}:∀ws:List Str,bH K H (ws.map D.str) (ws.map V.str)
 | []=>bH.nil
 | w::ws=>bH.cons (gz w) (lJ ws)
variable{P:Program}{w:World}{K:Ve}{mg:Str->Option Value}{base:Heap}
theorem Iz(B:jU mg)(B2:iL mg)(F:FA K mg "_law_set" JF)(GA:bc bf P w K mg base 2 "_law_a_sort" ["_law_pot_here","_law_sort"] tE)(G:bc bf P w K mg base 2 "_law_draw" ["_law_pot_here","_law_many_here"] dv)(G3:bc bf P w K mg base 2 "_law_word" ["_law_pot_here"] sh)(G2:bc bf P w K mg base 2 "_law_number" ["_law_pot_here"] oN) :
  bc bf P w K mg base 3 "_law_set" ["_law_pot_here","_law_sort"] (B5 K):=by
 refine F.ok DG λf cdv A outer s H vs Q E hr h=>?_
 obtain⟨p,x,rfl,hP,q⟩:=h
 refine⟨_,aq (dy (aW aP (ay GA hr (ae (pv 0) (ae (pv 1) ah))) ao)
   (ax (aJ (ae ao (ae (bU aP (ay G hr (ae (pv 0) (ae ai ah))) ai) (ae (aV bA rfl B.tuple PyProof.Rows.boot_tuple (ae (kE rfl rfl B2.sorted rfl B2.set
    (bw (N':=["_law_k","_law_pot_here"]) (src:=[none,some 0]) rfl (ba.jK (by kernel_rfl)) (dm rfl B.range (ae (ay G hr (ae (pv 0) (ae ai ah))) ah)) (λcl C s H fp=>eA (i:=0)) (λcl C s H fp=>aX)
     (λcl C s H fp=>ay (hg:=xA) G3 hr (ae (yV 1) ah)))) ah)) ah))))) cb)
  (aq (aL (i:=2) DG.nd rfl (Or.inl rfl) (a_ (qP rfl) rfl B2.min PyProof.Rows.boot_min (ae (ay G2 hr (ae (pv 0) ah)) (ae (aF bJ (aF l9 ai ai) ai) ah))))
  (aq (aL (i:=3) DG.nd rfl (Or.inl rfl) (aQ (ae (aJ ah) (ae (aJ (ae (aJ (ae iQ (ae iQ ah))) ah)) (ae (aJ (ae (aJ (ae (pv 2) (ae (aF cY (pv 2) (ay G hr (ae (pv 0) (ae ai ah)))) ah))) ah))
    (ae (aJ (ae (aJ (ae iQ (ae (pv 2) ah))) ah)) (ae (aJ (ae (aJ (ae (pv 2) (ae iQ ah))) ah)) ah)))))))
  (ax (aJ (ae ao (ae (bj K (aF og (pv 3) (aQ (ae (aJ (ae (aJ (ae (pv 2) (ae (pv 2) ah))) (ae (aJ (ae (aF cY (pv 2) ai) (ae (aF cY (pv 2) ai) ah))) ah))) ah))) (ay G hr (ae (pv 0) (ae ai ah)))) ah)))))),?_⟩
 refine⟨_,rfl,_,rfl,p,x,rfl,hP,λy H1 g1=>⟨rfl,_,rfl,?_⟩⟩
 refine cG (λ_=>?_) (λ_=>?_)
 ·refine⟨_,rfl,p,_,rfl,g1.cf,by decide,by decide,λe2 H2 g2 a2 b2=>⟨rfl,_,rfl,p,_,rfl,g2.cf,by decide,by decide,λj H3 g3 j0 j1=>?_⟩⟩
  have gg:=(g1.trans g2).trans g3
  refine⟨j,rfl,(jQ j0 (by omega)).1,(jQ j0 (by omega)).2,λDw hD=>?_⟩
  have nD:Dw≠p:=gg.ne hD
  refine iV (n:=j.toNat) (λi σ ys H'=>∃(o:Option V) (ns:List Str),σ=[o,some (.ref p)]/\ys=ns.map V.str/\ns.length=i/\H' Dw=some (.lst ys)/\bo p H H')
   ⟨none,[],rfl,rfl,rfl,ag,gg.new hD⟩ ?_ ?_ ?_ ?_
  ·rintro i σ ys H' _ ⟨o,ns,_,rfl,rfl,h,_⟩
   exact⟨h,by rw [UI]; exact UD _⟩
  ·exact UE (show j.toNat<=40 by omega) (by decide)
  ·rintro i σ ys H' hi ⟨o,ns,rfl,rfl,rfl,h,g'⟩
   exact⟨_,rfl,p,rfl,g'.cf,λn H4 g4 n1=>⟨g4.keep Dw _ nD h,some (.int (0+(ns.length:Nat))),ns++[n],rfl,by rw [UK]; rfl,by rw [UJ]; rfl,ag,gg.put hD nD (g'.trans g4)⟩⟩
  rintro qd Nl H4 ⟨o0,ns,_,rfl,hns,Ts,g4⟩
  refine⟨Dw,_,rfl,.inl (aZ.of Ts),by rw [UI]; omega,.inr ⟨ns,rfl⟩,λSA ys Rp hso=>?_⟩
  obtain⟨ms,rfl,hms,hsub,PX⟩:=sorted_strs hso
  refine⟨SA,_,rfl,.inl ⟨aZ.of ag,λt ht=>⟨gv,λa ha=>?_⟩⟩⟩
  have gf:=((g4.new (o:=.lst (ms.map V.str)) Rp).new (o:=.tup (ms.map V.str)) ht).new (o:=.tup [.str "w",.bl (decide (V.int e2=V.int 0)),.ref t]) ha
  exact q a "w" _ _ gf ag
 ·refine⟨_,rfl,p,rfl,g1.cf,λn H2 g2 n1 n2=>⟨_,_,rfl,rfl,⟨by decide,by decide,by decide⟩,_,_,rfl,rfl,_,_,rfl,?_⟩⟩
  have gg:=g1.trans g2
  generalize (if _<n then _ else n:Int)=low
  refine⟨U1 _,λt0 h0=>⟨cJ,λt1 h1=>⟨dP,λt2 h2=>?_⟩⟩⟩
  have k0:=gg.new (o:=.tup []) h0
  have k1:=k0.new (o:=.tup [.non,.non]) h1
  have k2:=k1.new (o:=.tup [.ref t1]) h2
  refine⟨_,rfl,_,rfl,_,rfl,p,_,rfl,k2.cf,by decide,by decide,λe3 H3 g3 a3 b3=>?_⟩
  have k3:=k2.trans g3
  refine⟨_,_,rfl,rfl,cJ,λt3 h3=>⟨dP,λt4 h4=>?_⟩⟩
  refine⟨_,rfl,cJ,λt5 h5=>⟨dP,λt6 h6=>?_⟩⟩
  refine⟨_,rfl,cJ,λt7 h7=>⟨dP,λt8 h8=>?_⟩⟩
  refine⟨sF,λL hL=>?_⟩
  have k5:=k3.new (o:=.tup [.int low,.int (low+e3)]) h3
  have k6:=k5.new (o:=.tup [.ref t3]) h4
  have k7:=k6.new (o:=.tup [.non,.int low]) h5
  have k8:=k7.new (o:=.tup [.ref t5]) h6
  have k9:=k8.new (o:=.tup [.int low,.non]) h7
  have k10:=k9.new (o:=.tup [.ref t7]) h8
  have k11:=k10.new (o:=.lst [.ref t0,.ref t2,.ref t4,.ref t6,.ref t8]) hL
  have nL:=k10.ne hL
  refine ak ?_
  dsimp only
  refine⟨_,rfl,_,rfl,_,rfl,cJ,λt9 h9=>?_⟩
  refine⟨_,rfl,_,_,rfl,rfl,_,rfl,_,_,rfl,rfl,cJ,λQ4 h10=>⟨cJ,λNC h11=>⟨dP,λL2 hL2=>?_⟩⟩⟩
  have k12:=k11.new (o:=.tup [.int low,.int low]) h9
  have k13:=k12.new (o:=.tup [.int (low+2),.int (low+5)]) h10
  have k14:=k13.new (o:=.tup [.ref t9,.ref Q4]) h11
  have Qr:=k14.new (o:=.lst [.ref NC]) hL2
  have s12:=(aj h9 (.tup [.int low,.int low])).trans ((aj h10 (.tup [.int (low+2),.int (low+5)])).trans ((aj h11 (.tup [.ref t9,.ref Q4])).trans (aj hL2 (.lst [.ref NC]))))
  refine⟨L,L2,_,_,rfl,rfl,s12 _ _ ag,ag,Ma,λL3 KO=>?_⟩
  have QF:=Qr.new (o:=.lst ([.ref t0,.ref t2,.ref t4,.ref t6,.ref t8]++[.ref NC])) KO
  have Sm:=Qr.ne KO
  refine⟨_,rfl,p,_,rfl,QF.cf,by decide,by decide,λe4 H4 g4 a4 b4=>?_⟩
  have Tw:=g4.keep L3 _ Sm ag
  have pK:∃v,i_ ([V.ref t0,.ref t2,.ref t4,.ref t6,.ref t8]++[.ref NC]) e4=some v:=by
   have hd:e4=0\/e4=1\/e4=2\/e4=3\/e4=4\/e4=5:=by omega
   rcases hd with z | z | z | z | z | z <;> rw [z] <;> exact⟨_,rfl⟩
  obtain⟨v,hv⟩:=pK
  refine⟨L3,_,_,v,rfl,rfl,aZ.of Tw,hv,cJ,λa ha=>?_⟩
  exact q a "n" _ _ ((QF.trans g4).new ha) ag
theorem ng:az ["_law_pot_here","_law_here","_law_there","_law_pairs_here","_law_k","_law_pair"] ["_law_pot_here","_law_here","_law_there"] (ar wu):=fs
theorem nF:az ["_law_pot_here","_law_head","_law_order_here","_law_k","_law_column_here"] ["_law_pot_here","_law_head"] (ar xb):=fs
def yy:Sp:=λvs H Q _=>∃(p:Addr) (s1 s2:Str),vs=[.ref p,.str s1,.str s2]/\dj H p/\∀t bs (ps:List (V×V)) H',bo p H H'->bP ku H' t bs ps->ps≠[]->ps.length<=8->(∀q∈ps,dN q.1/\dN q.2)->Q (.ref t) H'
def y8(K:Ve):Sp:=λvs H Q _=>∃(p a:Addr) (hs:List Str),vs=[.ref p,.ref a]/\cU K H a hs/\dj H p/\∀t bs (cs:List Int) H',bo p H H'->bP zo H' t bs cs->cs.length<=8->(∀c∈cs,1<=c)->Q (.ref t) H'
structure d_{α:Type}(At:Hp->Addr->α->Prop)(H:Hp)(bs:List Addr)(xs:List α):Prop where
 len:bs.length=xs.length
 at_:∀(i:Nat) a x,bs[i]? = some a->xs[i]? = some x->At H a x
theorem d_.nil{α:Type}{At:Hp->Addr->α->Prop}{H:Hp}:d_ At H [] []:=⟨rfl,λi a x e=>by cases e⟩
theorem d_.keep{α:Type}{At:Hp->Addr->α->Prop}{H H':Hp}{bs:List Addr}{xs:List α}(k:∀a x,At H a x->At H' a x)(h:d_ At H bs xs):d_ At H' bs xs:=⟨h.len,λi a x e1 e2=>k _ _ (h.at_ i a x e1 e2)⟩
theorem d_.snoc{α:Type}{At:Hp->Addr->α->Prop}{H:Hp}{bs:List Addr}{xs:List α}{b:Addr}{x:α}(h:d_ At H bs xs)(hx:At H b x):d_ At H (bs++[b]) (xs++[x]):=by
 refine⟨by rw [UJ,UJ,h.len]; rfl,λi a y e1 e2=>?_⟩
 by_cases hi:i<bs.length
 ·rw [U4 hi]at e1
  rw [U4 (by rw [←h.len]; exact hi)]at e2
  exact h.at_ i a y e1 e2
 ·have hi':i=bs.length:=by
   have:=(UT.mp e1).1
   rw [UJ]at this
   simp at this
   omega
  rw [hi',U3 (UD _),Nat.sub_self]at e1
  rw [hi',h.len,U3 (UD _),Nat.sub_self]at e2
  cases e1
  cases e2
  exact hx
theorem d_.get{α:Type}{At:Hp->Addr->α->Prop}{H:Hp}{bs:List Addr}{xs:List α}(h:d_ At H bs xs){i:Nat}{v:V}(hx:(bs.map V.ref)[i]? = some v):∃(a:Addr) (y:α),v=.ref a/\xs[i]? = some y/\At H a y:=by
 rw [U5]at hx
 cases e:bs[i]? with
 | none=>rw [e]at hx; cases hx
 | some b =>
  rw [e]at hx
  have hx':V.ref b=v:=U2 hx
  subst hx'
  have hi:i<xs.length:=by rw [←h.len]; exact(UT.mp e).1
  have er:xs[i]? = some xs[i]:=UN hi
  exact⟨b,xs[i],rfl,er,h.at_ i b _ e er⟩
theorem sC{v:V}(h:dN v):eW v=true:=by rcases h with⟨n,rfl⟩ | ⟨x,rfl⟩ <;> rfl
theorem BB(B:jU mg)(B2:iL mg)(F:FA K mg "_law_pairs" wu)(G:bc bf P w K mg base 3 "_law_draw" ["_law_pot_here","_law_many_here"] dv)(G2:bc bf P w K mg base 3 "_law_cell" ["_law_pot_here","_law_sort"] rX) :
  bc bf P w K mg base 4 "_law_pairs" ["_law_pot_here","_law_here","_law_there"] yy:=by
 refine F.ok ng λf cdv A outer s H vs Q E hr h=>?_
 obtain⟨p,s1,s2,rfl,hP,q⟩:=h
 refine⟨_,aq (aL (i:=3) ng.nd rfl (Or.inl rfl) (aQ ah))
  (aq (gH PassesOwn.never rfl (dm rfl B.range (ae (bj K (aQ (ae (aF cY ai (ay G hr (ae (pv 0) (ae ai ah)))) (ae ai ah))) (aV cA rfl B2.int PyProof.Rows.boot_int (ae (bU aP (ay G hr (ae (pv 0) (ae ai ah))) ai) ah))) ah)) (bT (i:=4) ng.nd rfl (Or.inl rfl))
   (aq (aL (i:=5) ng.nd rfl (Or.inl rfl) (aJ (ae (ay G2 hr (ae (pv 0) (ae (pv 1) ah))) (ae (ay G2 hr (ae (pv 0) (ae (pv 2) ah))) ah))))
   (bK (dy (dc iN (IY (pv 5) ai (λ_ _=>rfl)) (bw (N':=["_law_a","_law_b"]) (src:=[none,none]) rfl (ba.jK (by kernel_rfl)) (fj (pv 3))
     (g:=iO K 2 (bO (bz 0) (bO (bz 1) iX))) (λcl C s H fp=>cC rfl (aD (eA (i:=0)) (aD (eA (i:=1)) bS))) (λcl C s H fp=>aX) (λcl C s H fp=>i3 0)) rfl)
    (bK (fK (kW PySem.F.plainAttrs_list PySem.F.slot_list_append PySem.F.type_list_append cX (pv 3) (ae (pv 5) ah)))) cb))))
  (ax (aV bA rfl B.tuple PyProof.Rows.boot_tuple (ae (pv 3) ah)))),?_⟩
 have g0:=bo.refl hP
 refine⟨U1 _,λL hL=>?_⟩
 have nL:=g0.ne hL
 have gL:=g0.new (o:=.lst []) hL
 refine⟨_,rfl,p,_,rfl,gL.cf,by decide,by decide,λe1 H1 g1 a1 b1=>⟨_,_,rfl,rfl,cJ,λR hR=>?_⟩⟩
 have k1:=gL.trans g1
 have k2:=k1.new (o:=.lst [.int (1+e1),.int 8]) hR
 refine⟨_,rfl,p,_,rfl,k2.cf,by decide,by decide,λe2 H2 g2 a2 b2=>⟨rfl,.inr ⟨_,rfl,?_⟩⟩⟩
 have k3:=k2.trans g2
 have pK:∃m:Int,i_ [V.int (1+e1),V.int 8] (if decide (V.int e2=V.int 8)=true then 1 else 0)=some (.int m)/\1<=m/\m<=8:=by
  cases decide (V.int e2=V.int 8)
  ·exact⟨_,rfl,by omega,by omega⟩
  ·exact⟨_,rfl,by decide,by decide⟩
 obtain⟨m,hm,m0,m1⟩:=pK
 refine⟨R,_,_,_,rfl,rfl,aZ.of (g2.keep R _ (k1.ne hR) ag),hm,m,rfl,(jQ (by omega) (by omega)).1,(jQ (by omega) (by omega)).2,?_⟩
 have KO:=g2.keep L _ nL ((aj hR (.lst [.int (1+e1),.int 8])) _ _ (g1.keep L _ nL ag))
 refine fL (n:=m.toNat) (λi σ H'=>(∃o4 o5,σ=[some (.ref p),some (.str s1),some (.str s2),some (.ref L),o4,o5])/\(∃(bs:List Addr) (ps:List (V×V)),H' L=some (.lst (bs.map V.ref))/\ps.length<=i/\d_ ku H' bs ps/\(∀q∈ps,dN q.1/\dN q.2)/\(1<=i->ps≠[]))/\bo p H H')
  ⟨⟨none,none,rfl⟩,⟨[],[],KO,UD _,d_.nil,by simp,λz=>absurd z (by decide)⟩,k3⟩ ?_ ?_
 ·rintro i σ H' hi ⟨⟨o4,o5,rfl⟩,⟨bs,ps,hv,hl,hp,hcl,hne⟩,g⟩
  refine⟨_,rfl,_,rfl,p,s1,rfl,g.cf,λx H4 g4 cx=>?_⟩
  refine⟨_,rfl,_,rfl,p,s2,rfl,g4.cf,λy H5 g5 cy=>⟨cJ,λT hT=>?_⟩⟩
  have sT:=aj hT (.tup [x,y])
  have KQ:=g4.trans g5
  have gT:=(g.trans KQ).new (o:=.tup [x,y]) hT
  have A7:=sT _ _ (KQ.keep L _ nL hv)
  have JC:d_ ku (upd H5 T (.tup [x,y])) bs ps:=hp.keep λ_ _ e=>sT _ _ (ia g.cf KQ e)
  have hlb:(bs.map V.ref).length=ps.length:=by rw [UI,hp.len]
  refine⟨_,rfl,T,_,_,_,rfl,rfl,aH.of ag,rfl,?_⟩
  refine⟨_,rfl,L,rfl,⟨_,aZ.of A7⟩,λDc Fd=>?_⟩
  refine dJ (xs:=bs.map V.ref) (λi σ ys H'=>(∃o o',σ=[o,o'])/\ys.length=i/\ys.all eW=true/\H' Dc=some (.lst ys)/\aM (upd H5 T (.tup [x,y])) H')
   ⟨⟨none,none,rfl⟩,rfl,rfl,ag,aj Fd _⟩ ?_ ?_ ?_ ?_ ?_
  ·rintro i σ ys H' _ ⟨_,hl,_,h,_⟩
   exact⟨h,Nat.le_of_eq hl⟩
  ·rintro i σ ys H' _ ⟨_,_,_,_,sm⟩
   exact aZ.of (sm _ _ A7)
  ·rw [hlb]; exact UE (show ps.length<=1000 by omega) (by decide)
  ·rintro i v σ ys H' hv ⟨⟨o,o',rfl⟩,hl,hf,h,sm⟩
   obtain⟨t,q',rfl,eq',ht⟩:=JC.get hv
   have fx:=sC (hcl q' (UP eq')).1
   refine⟨t,_,rfl,aH.of (sm _ _ ht),rfl,_,_,rfl,_,_,rfl,rfl,_,rfl,h,⟨_,_,rfl⟩,by rw [UJ,hl]; rfl,?_,ag,λb u eb=>?_⟩
   ·rw [List.all_append,hf]; simp [fx]
   ·by_cases hb:b=Dc
    ·subst hb; exact absurd eb (by rw [Fd]; simp)
    ·rw [aI hb]; exact sm _ _ eb
  ·rintro σ ys H6 ⟨_,hyl,hf,h,sm⟩
   refine⟨Dc,_,rfl,.inl (aZ.of h),sC cx,hf,_,rfl,?_⟩
   have gS:=gT.trans (bo.same gT.cf sm)
   refine cG (λ_=>?_) (λc=>?_)
   ·refine⟨_,rfl,.inl ⟨rfl,_,aZ.of (sm _ _ A7)⟩,_,rfl,L,_,_,rfl,rfl,sm _ _ A7,by rw [hlb]; exact UL (show ps.length<=1000 by omega) (by decide),?_⟩
    have kk:∀a xs,upd H5 T (.tup [x,y]) a=some (.tup xs)->upd H6 L (.lst (bs.map V.ref++[.ref T])) a=some (.tup xs):=λa xs e=>by
     rw [aI (λz=>by rw [z,A7]at e; cases e)]; exact sm _ _ e
    refine⟨⟨_,_,rfl⟩,⟨bs++[T],ps++[(x,y)],by rw [ag,UK]; rfl,by rw [UJ]; exact Nat.add_le_add_right hl 1,(JC.keep λ_ _ e=>kk _ _ e).snoc (kk _ _ ag),λq' hq'=>?_,λ_=>by simp⟩,g0.put hL nL gS⟩
    rcases UZ.mp hq' with z | z
    ·exact hcl q' z
    ·rw [UU.mp z]; exact⟨cx,cy⟩
   ·refine⟨⟨_,_,rfl⟩,⟨bs,ps,sm _ _ A7,Nat.le_succ_of_le hl,JC.keep λ_ _ e=>sm _ _ e,hcl,λ_=>?_⟩,gS⟩
    rintro rfl
    have:ys=[]:=List.eq_nil_of_length_eq_zero (by rw [hyl,hlb]; rfl)
    subst this
    exact c rfl
 ·rintro σ H' ⟨⟨o4,o5,rfl⟩,⟨bs,ps,hv,hl,hp,hcl,hne⟩,g⟩
  refine⟨_,rfl,L,_,rfl,.inl ⟨aZ.of hv,λt ht=>?_⟩⟩
  have st:=aj ht (.tup (bs.map V.ref))
  exact q t bs ps _ (g.new ht) ⟨ag,hp.len,λi a x e1 e2=>st _ _ (hp.at_ i a x e1 e2)⟩ (hne (by omega)) (by omega) hcl
theorem d_.cons{α:Type}{At:Hp->Addr->α->Prop}{H:Hp}{bs:List Addr}{xs:List α}{b:Addr}{x:α}(hx:At H b x)(h:d_ At H bs xs):d_ At H (b::bs) (x::xs) :=
 ⟨by rw [Vb,Vb,h.len],λi a y e1 e2=>by
  cases i with
  | zero=>cases e1; cases e2; exact hx
  | succ i=>exact h.at_ i a y e1 e2⟩
def Kt(H:Hp)(v:V):Prop:=∃t n b,v=.ref t/\H t=some (.tup [.int n,.bl b])/\1<=n
theorem Kt.keep{H H':Hp}{v:V}(k:∀a xs,H a=some (.tup xs)->H' a=some (.tup xs))(h:Kt H v):Kt H' v:=by
 obtain⟨t,x,y,e,h1,h2⟩:=h
 exact⟨t,x,y,e,k _ _ h1,h2⟩
theorem rG{H:Hp}:∀{vs:List V},(∀v∈vs,Kt H v)->∃(bs:List Addr) (cs:List Int),vs=bs.map V.ref/\d_ zo H bs cs/\∀c∈cs,1<=c
 | [],_=>⟨[],[],rfl,d_.nil,by simp⟩
 | v::vs,h=>by
  obtain⟨bs,cs,rfl,h1,h2⟩:=rG (vs:=vs) λw hw=>h w (UQ _ hw)
  obtain⟨t,n,b,rfl,ht,hn⟩:=h v (Va ..)
  refine⟨t::bs,n::cs,rfl,h1.cons ⟨b,ht⟩,λc hc=>?_⟩
  rcases UX.mp hc with rfl | z
  ·exact hn
  ·exact h2 c z
theorem BK(B:jU mg)(F:FA K mg "_law_order" xb)(G:bc bf P w K mg base 2 "_law_draw" ["_law_pot_here","_law_many_here"] dv)(G2:bc bf P w K mg base 2 "_law_column" ["_law_pot_here","_law_head"] (iy K)) :
  bc bf P w K mg base 3 "_law_order" ["_law_pot_here","_law_head"] (y8 K):=by
 refine F.ok nF λf cdv A outer s H vs Q E hr h=>?_
 obtain⟨p,a,hs,rfl,hh,hP,q⟩:=h
 refine⟨_,aq (aL (i:=2) nF.nd rfl (Or.inl rfl) (aQ ah))
  (aq (gH PassesOwn.never rfl (dm rfl B.range (ae (aF cY ai (ay G hr (ae (pv 0) (ae ai ah)))) ah)) (bT (i:=3) nF.nd rfl (Or.inl rfl))
   (aq (aL (i:=4) nF.nd rfl (Or.inl rfl) (ay G2 hr (ae (pv 0) (ae (pv 1) ah))))
   (bK (dy (dc iN (pv 4) (bw (N':=["_law_other_here","_law_is_falling"]) (src:=[none,none]) rfl (ba.jK (by kernel_rfl)) (fj (pv 2))
     (g:=iO K 2 (bO (bz 0) (bO (bz 1) iX))) (λcl C s H fp=>cC rfl (aD (eA (i:=0)) (aD (eA (i:=1)) bS))) (λcl C s H fp=>aX) (λcl C s H fp=>i3 0)) rfl)
    (bK (fK (kW PySem.F.plainAttrs_list PySem.F.slot_list_append PySem.F.type_list_append cX (pv 2) (ae (aJ (ae (pv 4) (ae (bU aP (ay G hr (ae (pv 0) (ae ai ah))) ai) ah))) ah)))) cb))))
  (ax (aV bA rfl B.tuple PyProof.Rows.boot_tuple (ae (pv 2) ah)))),?_⟩
 have g0:=bo.refl hP
 refine⟨U1 _,λL hL=>?_⟩
 have nL:=g0.ne hL
 have gL:=g0.new (o:=.lst []) hL
 refine⟨_,rfl,p,_,rfl,gL.cf,by decide,by decide,λe1 H1 g1 a1 b1=>⟨_,_,rfl,rfl,1+e1,rfl,(jQ (by omega) (by omega)).1,(jQ (by omega) (by omega)).2,?_⟩⟩
 have k1:=gL.trans g1
 have hL1:=g1.keep L _ nL ag
 refine fL (n:=(1+e1).toNat) (λi σ H'=>(∃o4 o5,σ=[some (.ref p),some (.ref a),some (.ref L),o4,o5])/\(∃vs,H' L=some (.lst vs)/\vs.length<=i/\∀v∈vs,Kt H' v)/\bo p H H')
  ⟨⟨none,none,rfl⟩,⟨[],hL1,UD _,by simp⟩,k1⟩ ?_ ?_
 ·rintro i σ H' hi ⟨⟨o4,o5,rfl⟩,⟨vs,hv,hl,hp⟩,g⟩
  refine⟨_,rfl,_,rfl,p,a,hs,rfl,g.cf,hh.grow hP g,λn H5 g5 n1 n2=>?_⟩
  refine ak ?_
  dsimp only
  have A7:=g5.keep L _ nL hv
  have JC:∀v∈vs,Kt H5 v:=λv h=>(hp v h).keep λa xs e=>ia g.cf g5 e
  refine⟨_,rfl,_,rfl,L,rfl,⟨_,aZ.of A7⟩,λDc Fd=>?_⟩
  refine dJ (xs:=vs) (λi σ ys H'=>(∃o o',σ=[o,o'])/\ys.length<=i/\ys.all eW=true/\H' Dc=some (.lst ys)/\aM H5 H')
   ⟨⟨none,none,rfl⟩,UD _,rfl,ag,aj Fd _⟩ ?_ ?_ ?_ ?_ ?_
  ·rintro i σ ys H' _ ⟨_,hl,_,h,_⟩
   exact⟨h,hl⟩
  ·rintro i σ ys H' _ ⟨_,_,_,_,sm⟩
   exact aZ.of (sm _ _ A7)
  ·exact UE (show vs.length<=1000 by omega) (by decide)
  ·rintro i v σ ys H' hv ⟨⟨o,o',rfl⟩,hl,hf,h,sm⟩
   obtain⟨t,x',y',rfl,ht,_⟩:=JC v (UP hv)
   refine⟨t,_,rfl,aH.of (sm _ _ ht),rfl,_,_,rfl,_,_,rfl,rfl,_,rfl,h,⟨_,_,rfl⟩,by rw [UJ]; exact Nat.add_le_add_right hl 1,?_,ag,λb u eb=>?_⟩
   ·rw [List.all_append,hf]; rfl
   ·by_cases hb:b=Dc
    ·subst hb; exact absurd eb (by rw [Fd]; simp)
    ·rw [aI hb]; exact sm _ _ eb
  ·rintro σ ys H6 ⟨_,_,hf,h,sm⟩
   refine⟨Dc,_,rfl,.inl (aZ.of h),rfl,hf,_,rfl,?_⟩
   have P1:=g.trans g5
   have gS:=P1.trans (bo.same P1.cf sm)
   refine cG (λ_=>?_) (λ_=>?_)
   ·refine⟨_,rfl,.inl ⟨rfl,_,aZ.of (sm _ _ A7)⟩,_,rfl,_,rfl,p,_,rfl,gS.cf,by decide,by decide,λe7 H7 g7 a7 b7=>⟨rfl,cJ,λT hT=>?_⟩⟩
    have sT:=aj hT (.tup [.int n,.bl (decide (V.int e7=V.int 0))])
    have Fq:=sT _ _ (g7.keep L _ nL (sm _ _ A7))
    refine⟨L,_,_,rfl,rfl,Fq,UL (show vs.length<=1000 by omega) (by decide),?_⟩
    refine⟨⟨_,_,rfl⟩,⟨vs++[.ref T],ag,by rw [UJ]; exact Nat.add_le_add_right hl 1,λv hv=>?_⟩,g0.put hL nL ((gS.trans g7).new hT)⟩
    have kk:∀a xs,upd H7 T (.tup [.int n,.bl (decide (V.int e7=V.int 0))]) a=some (.tup xs)->upd (upd H7 T (.tup [.int n,.bl (decide (V.int e7=V.int 0))])) L (.lst (vs++[.ref T])) a=some (.tup xs):=λa xs e=>by
     rw [aI (λz=>by rw [z,Fq]at e; cases e)]; exact e
    rcases UZ.mp hv with z | z
    ·exact(JC v z).keep λa xs e=>kk _ _ (sT _ _ (ia gS.cf g7 (sm _ _ e)))
    ·rw [UU.mp z]; exact⟨T,n,_,rfl,kk _ _ ag,n1⟩
   ·exact⟨⟨_,_,rfl⟩,⟨vs,sm _ _ A7,Nat.le_succ_of_le hl,λv hv=>(JC v hv).keep λa xs e=>sm _ _ e⟩,gS⟩
 ·rintro σ H' ⟨⟨o4,o5,rfl⟩,⟨vs,hv,hl,hp⟩,g⟩
  refine⟨_,rfl,L,_,rfl,.inl ⟨aZ.of hv,λt ht=>?_⟩⟩
  have st:=aj ht (.tup vs)
  obtain⟨bs,cs,rfl,h1,h2⟩:=rG hp
  exact q t bs cs _ (g.new ht) ⟨ag,h1.len,λi a x e1 e2=>by obtain⟨b,hb⟩:=h1.at_ i a x e1 e2; exact⟨b,st _ _ hb⟩⟩ (by rw [←h1.len]; rw [UI]at hl; omega) h2
theorem nv:az ["_law_pot_here","_law_sort","_law_moves_here","_law_k","_law_move"] ["_law_pot_here","_law_sort"] (ar rJ):=fs
def yS:Sp:=λvs H Q _=>∃(p:Addr) (s1:Str),vs=[.ref p,.str s1]/\dj H p/\∀t bs (mv:List V) H',bo p H H'->bP zx H' t bs mv->mv.length<=16->(∀v∈mv,v=.non\/dN v)->Q (.ref t) H'
def uX(H:Hp)(v:V):Prop:=∃t x y,v=.ref t/\H t=some (.tup [x,y])/\eW x=true/\eW y=true
theorem uX.keep{H H':Hp}{v:V}(k:∀a xs,H a=some (.tup xs)->H' a=some (.tup xs))(h:uX H v):uX H' v:=by
 obtain⟨t,x,y,e,h1,h2,h3⟩:=h
 exact⟨t,x,y,e,k _ _ h1,h2,h3⟩
def KH:V->D
 | .int i=>.int i
 | .str x=>.str x
 | .bl b=>.bl b
 | _=>.non
theorem pf{K:Ve}{H:Hp}{v:V}(h:eW v=true):aY K H (KH v) v:=by
 cases v <;> first | (first | exact yz _ | exact gz _ | exact Ic _ | exact F4) | (simp [eW]at h)
def oi(H:Hp)(v:V):Prop:=∃t x y z,v=.ref t/\H t=some (.tup [.str x,y,.str z])/\(y=.non\/dN y)
theorem oi.keep{H H':Hp}{v:V}(k:∀a xs,H a=some (.tup xs)->H' a=some (.tup xs))(h:oi H v):oi H' v:=by
 obtain⟨t,x,y,z,e,h1,h2⟩:=h
 exact⟨t,x,y,z,e,k _ _ h1,h2⟩
theorem me{H:Hp}:∀{vs:List V},(∀v∈vs,oi H v)->∃(bs:List Addr) (mv:List V),vs=bs.map V.ref/\d_ zx H bs mv/\∀c∈mv,c=.non\/dN c
 | [],_=>⟨[],[],rfl,d_.nil,by simp⟩
 | v::vs,h=>by
  obtain⟨bs,cs,rfl,h1,h2⟩:=me (vs:=vs) λw hw=>h w (UQ _ hw)
  obtain⟨t,x,y,z,rfl,ht,hn⟩:=h v (Va ..)
  refine⟨t::bs,y::cs,rfl,h1.cons ⟨x,z,ht⟩,λc hc=>?_⟩
  rcases UX.mp hc with rfl | z
  ·exact hn
  ·exact h2 c z
theorem vo{y:V}(h:y=.non\/dN y):eW y=true:=by
 rcases h with rfl | h
 ·rfl
 ·exact sC h
theorem AH(v:V):(KH v).depth=0:=by cases v <;> simp [KH,D.depth]
theorem oy{K:Ve}{H:Hp}:∀{vs:List V},(∀v∈vs,uX H v)->∃ds,bH K H ds vs/\cw ds<=1
 | [],_=>⟨[],bH.nil,by simp [cw]⟩
 | v::vs,h=>by
  obtain⟨ds,h1,h2⟩:=oy (K:=K) (vs:=vs) λw hw=>h w (UQ _ hw)
  obtain⟨t,x,y,rfl,ht,fx,fy⟩:=h v (Va ..)
  refine⟨.tup [KH x,KH y]::ds,bH.cons (iU ht (bH.cons (pf fx) (bH.cons (pf fy) bH.nil))) h1,?_⟩
  simp only [cw,D.depth,AH]; omega
theorem CQ(B:jU mg)(B2:iL mg)(F:FA K mg "_law_moves" rJ)(G:bc bf P w K mg base 3 "_law_draw" ["_law_pot_here","_law_many_here"] dv)(G3:bc bf P w K mg base 3 "_law_state" ["_law_pot_here"] ud)(G2:bc bf P w K mg base 3 "_law_cell" ["_law_pot_here","_law_sort"] rX) :
  bc bf P w K mg base 4 "_law_moves" ["_law_pot_here","_law_sort"] yS:=by
 refine F.ok nv λf cdv A outer s H vs Q E hr h=>?_
 obtain⟨p,s1,rfl,hP,q⟩:=h
 have hu:(A.deeper (PyProof.Rows.envOfC "_law_moves" (ar rJ) s.heap.objs.size f cdv)).units+1+1<cLine:=by have:=hr.units; omega
 refine⟨_,aq (aL (i:=2) nv.nd rfl (Or.inl rfl) (aQ ah))
  (aq (gH PassesOwn.never rfl (dm rfl B.range (ae (bj K (aQ (ae (ay G hr (ae (pv 0) (ae ai ah))) (ae ai ah))) (aV cA rfl B2.int PyProof.Rows.boot_int (ae (bU aP (ay G hr (ae (pv 0) (ae ai ah))) ai) ah))) ah)) (bT (i:=3) nv.nd rfl (Or.inl rfl))
   (aq (aL (i:=4) nv.nd rfl (Or.inl rfl) (aJ (ae (ay G3 hr (ae (pv 0) ah)) (ae (bj K (aQ (ae (ay G2 hr (ae (pv 0) (ae (pv 1) ah))) (ae iQ ah))) (aV cA rfl B2.int PyProof.Rows.boot_int (ae (bU aP (ay G hr (ae (pv 0) (ae ai ah))) ai) ah))) (ae (ay G3 hr (ae (pv 0) ah)) ah)))))
   (bK (dy (dc rb (cu B6 (pv 4) dz (cB ai)) (bw (N':=["_law_state_here","_law_cell_here","_law_after"]) (src:=[none,none,none]) rfl (ba.jK (by kernel_rfl)) (fj (pv 2))
     (g:=iO K 3 (bO (bz 0) (bO (bz 1) (bO (bz 2) iX)))) (λcl C s H fp=>cC rfl (aD (eA (i:=0)) (aD (eA (i:=1)) (aD (eA (i:=2)) bS)))) (λcl C s H fp=>aX) (λcl C s H fp=>aJ (ae (i3 0) (ae (i3 1) ah)))) rfl)
    (bK (fK (kW PySem.F.plainAttrs_list PySem.F.slot_list_append PySem.F.type_list_append cX (pv 2) (ae (pv 4) ah)))) cb))))
  (ax (aV bA rfl B.tuple PyProof.Rows.boot_tuple (ae (pv 2) ah)))),?_⟩
 have g0:=bo.refl hP
 refine⟨U1 _,λL hL=>?_⟩
 have nL:=g0.ne hL
 have gL:=g0.new (o:=.lst []) hL
 refine⟨_,rfl,p,_,rfl,gL.cf,by decide,by decide,λe1 H1 g1 a1 b1=>⟨cJ,λR hR=>?_⟩⟩
 have k1:=gL.trans g1
 have k2:=k1.new (o:=.lst [.int e1,.int 16]) hR
 refine⟨_,rfl,p,_,rfl,k2.cf,by decide,by decide,λe2 H2 g2 a2 b2=>⟨rfl,.inr ⟨_,rfl,?_⟩⟩⟩
 have k3:=k2.trans g2
 have pK:∃m:Int,i_ [V.int e1,V.int 16] (if decide (V.int e2=V.int 8)=true then 1 else 0)=some (.int m)/\0<=m/\m<=16:=by
  cases decide (V.int e2=V.int 8)
  ·exact⟨_,rfl,by omega,by omega⟩
  ·exact⟨_,rfl,by decide,by decide⟩
 obtain⟨m,hm,m0,m1⟩:=pK
 refine⟨R,_,_,_,rfl,rfl,aZ.of (g2.keep R _ (k1.ne hR) ag),hm,m,rfl,(jQ m0 (by omega)).1,(jQ m0 (by omega)).2,?_⟩
 have KO:=g2.keep L _ nL ((aj hR (.lst [.int e1,.int 16])) _ _ (g1.keep L _ nL ag))
 refine fL (n:=m.toNat) (λi σ H'=>(∃o4 o5,σ=[some (.ref p),some (.str s1),some (.ref L),o4,o5])/\(∃vs,H' L=some (.lst vs)/\vs.length<=i/\∀v∈vs,oi H' v)/\bo p H H')
  ⟨⟨none,none,rfl⟩,⟨[],KO,UD _,by simp⟩,k3⟩ ?_ ?_
 ·rintro i σ H' hi ⟨⟨o4,o5,rfl⟩,⟨vs,hv,hl,hp⟩,g⟩
  refine⟨_,rfl,p,rfl,g.cf,λx H3 g3=>?_⟩
  refine⟨_,rfl,_,rfl,p,s1,rfl,g3.cf,λy H4 g4 cy=>⟨cJ,λR2 yN=>?_⟩⟩
  have l1:=(g3.trans g4).new (o:=.lst [y,.non]) yN
  refine⟨_,rfl,p,_,rfl,l1.cf,by decide,by decide,λe5 H5 g5 a5 b5=>⟨rfl,.inr ⟨_,rfl,?_⟩⟩⟩
  have Dj:∃y2:V,i_ [y,V.non] (if decide (V.int e5=V.int 0)=true then 1 else 0)=some y2/\(y2=.non\/dN y2):=by
   cases decide (V.int e5=V.int 0)
   ·exact⟨_,rfl,.inr cy⟩
   ·exact⟨_,rfl,.inl rfl⟩
  obtain⟨y2,hy2,Q7⟩:=Dj
  have SW:=vo Q7
  refine⟨R2,_,_,_,rfl,rfl,aZ.of (g5.keep R2 _ ((g3.trans g4).ne yN) ag),hy2,?_⟩
  have l2:=l1.trans g5
  refine⟨_,rfl,p,rfl,l2.cf,λz H6 g6=>⟨gv,λT hT=>?_⟩⟩
  have l3:=l2.trans g6
  have sT:=aj hT (.tup [.str x,y2,.str z])
  have S_:=sT _ _ (l3.keep L _ nL hv)
  have SS:∀v∈vs,oi (upd H6 T (.tup [.str x,y2,.str z])) v:=λv h=>(hp v h).keep λa xs e=>sT _ _ (ia g.cf l3 e)
  have gT:=(g.trans l3).new (o:=.tup [.str x,y2,.str z]) hT
  refine ak ?_
  dsimp only
  refine⟨_,rfl,_,rfl,T,_,rfl,aH.of ag,(by show¬(HT.dH 3 0 none=0/\HT.dH 3 3 (some 2)=3); decide),λr hr=>?_⟩
  have sr:=aj hr (.tup [.str x,y2])
  have Fq:=sr _ _ S_
  have FE:∀v∈vs,oi (upd (upd H6 T (.tup [.str x,y2,.str z])) r (.tup [.str x,y2])) v:=λv h=>(SS v h).keep λa xs e=>sr _ _ e
  have SM:=sr _ _ (ag (H:=H6) (a:=T) (o:=.tup [.str x,y2,.str z]))
  have Ub:=ag (H:=upd H6 T (.tup [.str x,y2,.str z])) (a:=r) (o:=.tup [.str x,y2])
  have gr:=gT.trans (bo.same gT.cf sr)
  refine⟨_,rfl,L,rfl,⟨_,aZ.of Fq⟩,λDc Fd=>?_⟩
  rw [show f_ [V.str x,y2,V.str z] none (some 2)=[V.str x,y2] from rfl]at Fd⊢
  generalize upd (upd H6 T (.tup [.str x,y2,.str z])) r (.tup [.str x,y2])=H7 at *
  refine dJ (xs:=vs) (λi σ ys H'=>(∃o o' Q8,σ=[o,o',Q8])/\ys.length<=i/\(∀v∈ys,uX H' v)/\H' Dc=some (.lst ys)/\aM H7 H')
   ⟨⟨none,none,none,rfl⟩,UD _,by simp,ag,aj Fd _⟩ ?_ ?_ ?_ ?_ ?_
  ·rintro i σ ys H' _ ⟨_,hl,_,h,_⟩
   exact⟨h,hl⟩
  ·rintro i σ ys H' _ ⟨_,_,_,_,sm⟩
   exact aZ.of (sm _ _ Fq)
  ·exact UE (show vs.length<=1000 by omega) (by decide)
  ·rintro i v σ ys H' hv ⟨⟨o,o',Q8,rfl⟩,hl,hf,h,sm⟩
   obtain⟨t,x',y',z',rfl,ht,R7⟩:=FE v (UP hv)
   refine⟨t,_,rfl,aH.of (sm _ _ ht),rfl,_,_,rfl,_,_,rfl,_,_,rfl,rfl,_,rfl,_,rfl,cJ,λU hU=>?_⟩
   have sU:=aj hU (.tup [.str x',y'])
   have QN:=sU _ _ h
   refine⟨QN,⟨_,_,_,rfl⟩,by rw [UJ]; exact Nat.add_le_add_right hl 1,λv hv=>?_,ag,λb u eb=>?_⟩
   ·have kk:∀a xs,upd H' U (.tup [.str x',y']) a=some (.tup xs)->upd (upd H' U (.tup [.str x',y'])) Dc (.lst (ys++[.ref U])) a=some (.tup xs):=λa xs e=>by
     rw [aI (λz=>by rw [z,QN]at e; cases e)]; exact e
    rcases UZ.mp hv with z | z
    ·exact(hf v z).keep λa xs e=>kk _ _ (sU _ _ e)
    ·rw [UU.mp z]; exact⟨U,.str x',y',rfl,kk _ _ ag,rfl,vo R7⟩
   ·by_cases hb:b=Dc
    ·subst hb; exact absurd eb (by rw [Fd]; simp)
    ·rw [aI hb]; exact sU _ _ (sm _ _ eb)
  ·rintro σ ys H8 ⟨_,_,hf,h,sm⟩
   obtain⟨es,h1,h2⟩:=oy (K:=K) hf
   refine⟨.tup [.str x,KH y2],es,Dc,ys,rfl,.inl (aZ.of h),iU (sm _ _ Ub) (bH.cons (gz _) (bH.cons (pf SW) bH.nil)),h1,?_,_,rfl,?_⟩
   ·exact UL (Nat.add_le_add_left h2 _) hu
   have gS:=gr.trans (bo.same gr.cf sm)
   refine cG (λ_=>?_) (λ_=>?_)
   ·refine⟨_,rfl,.inl ⟨rfl,_,aZ.of (sm _ _ Fq)⟩,_,rfl,L,_,_,rfl,rfl,sm _ _ Fq,UL (show vs.length<=1000 by omega) (by decide),?_⟩
    refine⟨⟨_,_,rfl⟩,⟨vs++[.ref T],ag,by rw [UJ]; exact Nat.add_le_add_right hl 1,λv hv=>?_⟩,g0.put hL nL gS⟩
    have kk:∀a xs,H7 a=some (.tup xs)->upd H8 L (.lst (vs++[.ref T])) a=some (.tup xs):=λa xs e=>by
     rw [aI (λz=>by rw [z,Fq]at e; cases e)]; exact sm _ _ e
    rcases UZ.mp hv with z | z
    ·exact(FE v z).keep kk
    ·rw [UU.mp z]; exact⟨T,_,_,_,rfl,kk _ _ SM,Q7⟩
   ·exact⟨⟨_,_,rfl⟩,⟨vs,sm _ _ Fq,Nat.le_succ_of_le hl,λv hv=>(FE v hv).keep λa xs e=>sm _ _ e⟩,gS⟩
 ·rintro σ H' ⟨⟨o4,o5,rfl⟩,⟨vs,hv,hl,hp⟩,g⟩
  refine⟨_,rfl,L,_,rfl,.inl ⟨aZ.of hv,λt ht=>?_⟩⟩
  have st:=aj ht (.tup vs)
  obtain⟨bs,mv,rfl,h1,h2⟩:=me hp
  exact q t bs mv _ (g.new ht) ⟨ag,h1.len,λi a x e1 e2=>by obtain⟨b,c,hb⟩:=h1.at_ i a x e1 e2; exact⟨b,c,st _ _ hb⟩⟩ (by rw [←h1.len]; rw [UI]at hl; omega) h2
end My
namespace L2
open PySem PySem.Spec PyProof.Rows
theorem fP:fillsNumberSlot (.type "tuple") "mul"=pure false:=PySem.fillsNumberSlot_seq (id:="tuple.__mul__") (r:=some (.builtin "tuple.__rmul__")) F.slot_tuple_mul.lookup (by decide +kernel) F.slot_tuple_rmul.lookup (by decide +kernel)
theorem sP:seqRepeat? (.type "tuple")=pure (some (.builtin "tuple.__mul__")):=by
 unfold seqRepeat?
 rw [PySem.seqSlot_of (T:="tuple") (name:="__mul__") F.slot_tuple_mul.lookup (by decide +kernel),PySem.seqSlot_of (T:="tuple") (name:="__rmul__") F.slot_tuple_rmul.lookup (by decide +kernel)]
 rfl
theorem iP(a:Int)(t:Tok)(l:Addr)(items:Array Value)(n:Nat)(dd:Option Addr)(sl:Array (Option Value)):Meets (Builtin.«int.__rmul__» ⟨[.int a t,.ref l],[]⟩) (λ_ R s=>s.heap.get? l=some ⟨.type "tuple",dd,.seq items n,sl⟩/\R (.ok (.ret Value.notImplemented)) s) :=
 .of_wp λprog w A R s h=>by
  obtain⟨hp,g,d,tk,os⟩:=s; obtain⟨hl,h⟩:=h
  wp_walk
  exact⟨_,rfl,h⟩
theorem EN(l:Addr)(items:Array Value)(n:Nat)(dd:Option Addr)(sl:Array (Option Value))(k:Int)(t:Tok)(h1:2<=k)(h2:k<1000)(hi:items.isEmpty=false)(hz:items.size*k.toNat<=10000) :
  Meets (Builtin.«tuple.__mul__» ⟨[.ref l,.int k t],[]⟩) (λ_ R s=>s.heap.get? l=some ⟨.type "tuple",dd,.seq items n,sl⟩/\
   R (.ok (.ret (.ref s.heap.objs.size))) {s with heap:=s.heap.push {cls:=.type "tuple",data:=.seq ((List.replicate k.toNat items).foldl (· ++ ·) #[])}}) :=
 .of_wp λprog w A R s h=>by
  obtain⟨hp,g,d,tk,os⟩:=s; obtain⟨hl,h⟩:=h
  have QB:(2:Int) ^ 63=9223372036854775808:=by decide
  have hsk:(items.size:Int)*k<=10000:=by
   have:((items.size*k.toNat:Nat):Int)<=10000:=by exact_mod_cast hz
   rw [Int.natCast_mul,Int.toNat_of_nonneg (by omega)]at this
   exact this
  have c1:¬(decide (k < -2 ^ 63)||decide (k≥2 ^ 63))=true:=by
   rw [QB]; simp; omega
  have c2:¬(items.isEmpty||k==1)=true:=by
   rw [hi,Bool.false_or]; simp; omega
  have c3:¬(decide (k<=0)||items.isEmpty)=true:=by
   rw [hi,Bool.or_false]; simp; omega
  have c4:¬(items.size:Int)*k > (2 ^ 63-1) / 8:=by
   rw [QB]; omega
  have c5:¬Builtin.Tuple.tupleTooMany ((items.size:Int)*k)=true:=by
   unfold Builtin.Tuple.tupleTooMany
   have:((sizeLine:Nat):Int)≥10000:=by decide
   simp; omega
  have c6:¬(List.foldl (λx1 x2=>x1++x2) #[] (List.replicate k.toNat items)).size > sizeLine:=by
   have e:List.foldl (λx1 x2=>x1++x2) #[] (List.replicate k.toNat items)=(List.replicate k.toNat items.toList).flatten.toArray:=by
    have:=foldl_rep items.toList k.toNat []
    rw [List.nil_append]at this
    exact this
   rw [e,US,len_rep,Array.length_toList,Nat.mul_comm]
   have:10000<=sizeLine:=by decide
   omega
  wp_walk
  rw [if_neg c1]
  wp_walk
  rw [if_neg c2]
  wp_walk
  rw [if_neg c3]
  wp_walk
  rw [if_neg c4]
  wp_walk
  exact⟨_,rfl,h⟩
section
variable{X:Cx}
def Hb(K:Ve):R2:=λx y H Q=>∃l k xs,x=.ref l/\y=.int k/\aH K H l xs/\xs≠[]/\2<=k/\k<1000/\xs.length*k.toNat<=10000/\
 ∀p,H p=none->Q (.ref p) (upd H p (.tup (List.replicate k.toNat xs).flatten))
theorem yB:i6 X (binaryOp .Mult) (Hb X.K):=by
 intro pins s σ H x y v u Q I rx ry h
 obtain⟨l,k,xs,rfl,rfl,hq,hx,h1,h2,hz,q⟩:=h
 cases rx
 obtain⟨t,rfl⟩:=ry
 obtain⟨its,r,⟨o,e,hc,n,hd⟩,_⟩:=I.tuple hq
 obtain⟨c,dd,da,sl⟩:=o
 cases(show c=.type "tuple" from hc)
 cases(show da=.seq its.toArray n from hd)
 have hl:=r.length
 have hi:its.toArray.isEmpty=false:=by
  cases its with
  | nil=>exact absurd (List.eq_nil_of_length_eq_zero (by rw [hl]; rfl)) hx
  | cons a r=>rfl
 have hnew:List.foldl (λx1 x2=>x1++x2) #[] (List.replicate k.toNat its.toArray)=(List.replicate k.toNat its).flatten.toArray:=by
  have:=foldl_rep its k.toNat []
  rw [List.nil_append]at this
  exact this
 refine wpAny_binaryOp_repeat_ref (T:="tuple") (U:="int") (by decide) ⟨_,e,rfl⟩ (λs'=>typeIs_int s' k t) fP F.fills_int_mul F.slot_int_rmul sP F.slot_int_index.lookup
  (call_meets F.slot_int_rmul (typeIs_int s k t) F.entry_int_rmul (F.args_int_rmul_2 _ _) (iP k t l its.toArray n dd sl)
   ⟨e,rfl,⟨_,e,rfl⟩,call_meets F.slot_tuple_mul ⟨_,e,rfl⟩ F.entry_tuple_mul (F.args_tuple_mul_2 _ _) (EN l its.toArray n dd sl k t h1 h2 hi (by rw [US,←hl]; exact hz)) ⟨e,?_⟩⟩)
 rw [hnew]
 refine⟨.ref s.heap.objs.size,_,I.laid (t':=s.toks) (o:=.tup (List.replicate k.toNat xs).flatten) (λb ob q=>UA _ q) (UD _) ?_,rfl,q _ (I.hok.fresh (UD _))⟩
 exact⟨by rw [len_rep,Nat.mul_comm]; exact UE hz (by decide),_,r.rep k.toNat,g_.new _ _⟩
end
end L2
namespace My
open PySem L2 CT CS
theorem nV:az ["_law_pot_here","_law_head","_law_word_here","_law_column_here","_law_sort"] ["_law_pot_here","_law_head","_law_word_here"] (ar uf):=fs
theorem yU:az ["_law_pot_here","_law_head","_law_word_here","_law_column_here"] ["_law_pot_here","_law_head","_law_word_here"] (ar wL):=fs
def nz(K:Ve)(ok:Str->Prop):Sp:=λvs H Q _=>∃(p a:Addr) (hs:List Str) (wd:Str),vs=[.ref p,.ref a,.str wd]/\dj H p/\cU K H a hs/\ok wd/\∀t (x:W1) H',bo p H H'->jV H' t x->D7 x->x.nm=wd->Q (.ref t) H'
def IJ(s:Str):Prop:=s="keep"\/s="same"\/s="cut"\/s="turn"\/s="must"
def Di(s:Str):Prop:=s="walk"\/s="sort"\/s="apart"\/s="count"\/s="sum"\/s="number"\/s="first"
theorem yp{K:Ve}{H:Hp}{p a:Addr}{hs:List Str}{σ:St}{Q:VK}{c:Int}{i j:Nat}(hP:dj H p)(hh:cU K H a hs)(e1:σ[i]? = some (some (.ref a)))(e2:σ[j]? = some (some (.int c)))(c1:1<=c)(c2:c<=12)(q:∀x H',bo p H H'->Q (.str x) H') :
  gE (sy K) (gE (GX K) (bx i) (gE (Hb K) (Es (bp (tC (.str "n")) fD)) (tC (.int 12)))) (gE (zy λi j=>.int (i-j)) (bx j) (tC (.int 1))) σ H Q:=by
 refine⟨_,e1,dP,λt ht=>⟨t,12,_,rfl,rfl,aH.of ag,by simp,by decide,by decide,by decide,λu hu=>?_⟩⟩
 have g0:=bo.refl hP
 have g1:=g0.new (o:=.tup [.str "n"]) ht
 have g2:=g1.new (o:=.tup (List.replicate (12:Int).toNat [V.str "n"]).flatten) hu
 have h2:=hh.grow hP g2
 have hp1:=hh.pos
 have hf:=hh.few
 refine⟨a,u,_,_,rfl,rfl,aH.of h2.tup,aH.of ag,?_,?_,λz=>absurd z (by decide),λ_ w hw=>?_⟩
 ·intro z
  rw [List.map_eq_nil_iff.mp z]at hp1
  exact absurd hp1 (by decide)
 ·rw [UI]
  exact UE (show hs.length+12<=18 by omega) (by decide)
 have hl:(hs.map V.str++(List.replicate (12:Int).toNat [V.str "n"]).flatten).length=hs.length+12:=by rw [UJ,UI]; rfl
 have hi:(c-1).toNat<(hs.map V.str++(List.replicate (12:Int).toNat [V.str "n"]).flatten).length:=by rw [hl]; omega
 have hv:i_ (hs.map V.str++(List.replicate (12:Int).toNat [V.str "n"]).flatten) (c-1)=some ((hs.map V.str++(List.replicate (12:Int).toNat [V.str "n"]).flatten)[(c-1).toNat]):=by
  have:=av (j:=(c-1).toNat) (UN hi)
  rw [show(((c-1).toNat:Nat):Int)=c-1 by omega]at this
  exact this
 have hm:=List.getElem_mem hi
 have hx:∃x:Str,(hs.map V.str++(List.replicate (12:Int).toNat [V.str "n"]).flatten)[(c-1).toNat]=.str x:=by
  rcases UZ.mp hm with z | z
  ·obtain⟨x,_,e⟩:=UW.mp z
   exact⟨x,e.symm⟩
  ·obtain⟨l,hl,hz⟩:=List.mem_flatten.mp z
   rw [List.eq_of_mem_replicate hl]at hz
   exact⟨"n",UU.mp hz⟩
 obtain⟨x,ex⟩:=hx
 rw [ex]at hv
 exact⟨_,e2,_,_,rfl,rfl,w,_,_,_,rfl,rfl,aH.of ag,hv,q x _ (g2.new hw)⟩
variable{P:Program}{w:World}{K:Ve}{mg:Str->Option Value}{base:Heap}
theorem zt(B2:iL mg)(F:FA K mg "_law_one_row" uf)(GC:bc bf P w K mg base 4 "_law_column" ["_law_pot_here","_law_head"] (iy K))(Nw:bc bf P w K mg base 4 "_law_columns" ["_law_pot_here","_law_head","_law_many_here"] (l7 K))(GD:bc bf P w K mg base 4 "_law_draw" ["_law_pot_here","_law_many_here"] dv)(GS:bc bf P w K mg base 4 "_law_set" ["_law_pot_here","_law_sort"] (B5 K))(GP:bc bf P w K mg base 4 "_law_pairs" ["_law_pot_here","_law_here","_law_there"] yy) :
  bc bf P w K mg base 5 "_law_one_row" ["_law_pot_here","_law_head","_law_word_here"] (nz K IJ):=by
 refine F.ok nV λf cdv A outer s H vs Q E hr h=>?_
 obtain⟨p,a,hs,wd,rfl,hP,hh,HH,q⟩:=h
 refine⟨_,aq (dy (aW aP (pv 2) ao) (ax (aJ (ae ao (ae (ay GC hr (ae (pv 0) (ae (pv 1) ah))) (ae (ay GC hr (ae (pv 0) (ae (pv 1) ah))) ah))))) cb)
  (aN (aW aP (pv 2) ao) (aJ (ae ao (ae (ay Nw hr (ae (pv 0) (ae (pv 1) (ae (aF cY ai (ay GD hr (ae (pv 0) (ae ai ah)))) ah)))) ah)))
  (aq (aL (i:=3) nV.nd rfl (Or.inl rfl) (ay GC hr (ae (pv 0) (ae (pv 1) ah))))
  (aq (aL (i:=4) nV.nd rfl (Or.inl rfl) (aA K (aF sO (pv 1) (aF yB (aJ (ae ao ah)) ai)) (aF bJ (pv 3) ai)))
  (aN (aW aP (pv 2) ao) (aJ (ae ao (ae (pv 3) (ae (ay GS hr (ae (pv 0) (ae (pv 4) ah))) ah))))
  (ax (aJ (ae (pv 2) (ae (pv 3) (ae (ay GP hr (ae (pv 0) (ae (pv 4) (ae (bj K (aQ (ae (pv 4) (ae (bj K (aQ (ae ao (ae ao ah))) (ay GD hr (ae (pv 0) (ae ai ah)))) ah))) (aV cA rfl B2.int PyProof.Rows.boot_int (ae (bU aP (pv 2) ao) ah))) ah)))) ah))))))))),?_⟩
 refine⟨_,rfl,rfl,_,rfl,?_⟩
 refine cG (λc=>?_) (λns=>?_)
 ·have e:wd="same":=by have:=Vd c; injection this
  subst e
  refine⟨_,rfl,_,rfl,p,a,hs,rfl,hP,hh,λn H1 g1 n1 _=>?_⟩
  refine⟨_,rfl,_,rfl,p,a,hs,rfl,g1.cf,hh.grow hP g1,λm H2 g2 m1 _=>⟨gv,λt ht=>?_⟩⟩
  exact q t (.same n m) _ ((g1.trans g2).new ht) ag ⟨trivial,trivial,trivial,λc hc=>by rcases UX.mp hc with rfl | z; exact n1; rw [UU.mp z]; exact m1⟩ rfl
 refine⟨_,rfl,rfl,_,rfl,?_⟩
 refine cG (λc=>?_) (λnc=>?_)
 ·have e:wd="cut":=by have:=Vd c; injection this
  subst e
  refine⟨_,rfl,_,rfl,_,rfl,p,_,rfl,hP,by decide,by decide,λd H1 g1 a1 b1=>⟨_,_,rfl,rfl,?_⟩⟩
  refine⟨p,a,hs,_,rfl,g1.cf,hh.grow hP g1,by omega,by omega,λt2 ns H2 g2 h2 hn hp=>⟨cJ,λt ht=>?_⟩⟩
  exact q t (.cut ns) _ ((g1.trans g2).new ht) ⟨t2,ag,aj ht _ _ _ h2⟩ ⟨by show ns.length<=1000; omega,trivial,by rintro rfl; rw [List.length_nil]at hn; omega,hp⟩ rfl
 refine⟨_,rfl,_,rfl,p,a,hs,rfl,hP,hh,λn H1 g1 n1 n2=>?_⟩
 refine ak ?_
 dsimp only
 have hh1:=hh.grow hP g1
 refine yp g1.cf hh1 rfl rfl n1 n2 λx H2 g2=>?_
 have gg:=g1.trans g2
 refine ak ?_
 dsimp only
 refine⟨_,rfl,rfl,_,rfl,?_⟩
 refine cG (λc=>?_) (λnk=>?_)
 ·have e:wd="keep":=by have:=Vd c; injection this
  subst e
  refine⟨_,rfl,_,rfl,_,rfl,p,x,rfl,gg.cf,λv d xs H3 g3 hd=>⟨gv,λt ht=>?_⟩⟩
  have st:=aj ht (.tup [.str "keep",.int n,.ref v])
  exact q t (.keep n d) _ ((gg.trans g3).new ht) ⟨v,xs,ag,st _ _ hd⟩ ⟨trivial,trivial,trivial,λc hc=>by rw [UU.mp hc]; exact n1⟩ rfl
 refine⟨_,rfl,_,rfl,_,rfl,_,rfl,_,rfl,cJ,λR hR=>?_⟩
 have k1:=gg.new (o:=.lst [.str "n",.str "w"]) hR
 refine⟨_,rfl,p,_,rfl,k1.cf,by decide,by decide,λd H3 g3 a3 b3=>?_⟩
 have hk:=g3.keep R _ (gg.ne hR) ag
 have DD:∃y:Str,i_ [V.str "n",V.str "w"] d=some (.str y):=by
  have hd:d=0\/d=1:=by omega
  rcases hd with z | z <;> rw [z]
  ·exact⟨_,rfl⟩
  ·exact⟨_,rfl⟩
 obtain⟨y,hy⟩:=DD
 refine⟨R,_,_,_,rfl,rfl,aZ.of hk,hy,cJ,λR2 yN=>?_⟩
 have k2:=(k1.trans g3).new (o:=.lst [.str x,.str y]) yN
 refine⟨_,rfl,rfl,.inr ⟨_,rfl,?_⟩⟩
 have Dj:∃z:Str,i_ [V.str x,V.str y] (if decide (V.str wd=V.str "must")=true then 1 else 0)=some (.str z):=by
  cases decide (V.str wd=V.str "must")
  ·exact⟨_,rfl⟩
  ·exact⟨_,rfl⟩
 obtain⟨z,hz⟩:=Dj
 refine⟨R2,_,_,_,rfl,rfl,aZ.of ag,hz,?_⟩
 refine⟨p,x,z,rfl,k2.cf,λt2 bs ps H4 g4 hI hne hz8 hcl=>⟨gv,λt ht=>?_⟩⟩
 have st:=aj ht (.tup [.str wd,.int n,.ref t2])
 have hI':bP ku (upd H4 t (.tup [.str wd,.int n,.ref t2])) t2 bs ps:=hI.keep (aE.of st) λ_ _ e=>st _ _ e
 have hpos:∀c∈[n],1<=c:=λc hc=>by rw [UU.mp hc]; exact n1
 rcases HH with e | e | e | e | e
 ·exact absurd (by rw [e]; rfl) nk
 ·exact absurd (by rw [e]; rfl) ns
 ·exact absurd (by rw [e]; rfl) nc
 ·subst e
  exact q t (.turn n ps) _ ((k2.trans g4).new ht) ⟨t2,bs,ag,hI'⟩ ⟨by show ps.length<=1000; omega,hcl,⟨hne,by omega⟩,hpos⟩ rfl
 ·subst e
  exact q t (.must n ps) _ ((k2.trans g4).new ht) ⟨t2,bs,ag,hI'⟩ ⟨by show ps.length<=1000; omega,hcl,⟨hne,by omega⟩,hpos⟩ rfl
theorem DM(F:FA K mg "_law_other" wL)(GC:bc bf P w K mg base 4 "_law_column" ["_law_pot_here","_law_head"] (iy K))(GT:bc bf P w K mg base 4 "_law_state" ["_law_pot_here"] ud)(GM:bc bf P w K mg base 4 "_law_moves" ["_law_pot_here","_law_sort"] yS)(GO:bc bf P w K mg base 4 "_law_order" ["_law_pot_here","_law_head"] (y8 K))(Nw:bc bf P w K mg base 4 "_law_columns" ["_law_pot_here","_law_head","_law_many_here"] (l7 K))(GD:bc bf P w K mg base 4 "_law_draw" ["_law_pot_here","_law_many_here"] dv) :
  bc bf P w K mg base 5 "_law_other" ["_law_pot_here","_law_head","_law_word_here"] (nz K Di):=by
 refine F.ok yU λf cdv A outer s H vs Q E hr h=>?_
 obtain⟨p,a,hs,wd,rfl,hP,hh,HH,q⟩:=h
 refine⟨_,aq (dy (aW aP (pv 2) ao) (aq (aL (i:=3) yU.nd rfl (Or.inl rfl) (ay GC hr (ae (pv 0) (ae (pv 1) ah))))
   (ax (aJ (ae ao (ae (pv 3) (ae (ay GT hr (ae (pv 0) ah)) (ae (ay GM hr (ae (pv 0) (ae (aA K (aF sO (pv 1) (aF yB (aJ (ae ao ah)) ai)) (aF bJ (pv 3) ai)) ah))) ah))))))) cb)
  (aN (aW aP (pv 2) ao) (aJ (ae ao (ae (ay GO hr (ae (pv 0) (ae (pv 1) ah))) ah)))
  (aN (aW aP (pv 2) ao) (aJ (ae ao (ae (ay Nw hr (ae (pv 0) (ae (pv 1) (ae (ay GD hr (ae (pv 0) (ae ai ah))) ah)))) ah)))
  (aN (aW aP (pv 2) ao) (aJ (ae ao (ae (ay Nw hr (ae (pv 0) (ae (pv 1) (ae (ay GD hr (ae (pv 0) (ae ai ah))) ah)))) (ae (ay GC hr (ae (pv 0) (ae (pv 1) ah))) ah))))
  (aN (aW aP (pv 2) ao) (aJ (ae ao (ae (bj K (aQ (ae (ay GD hr (ae (pv 0) (ae ai ah))) (ae (ay GD hr (ae (pv 0) (ae ai ah))) ah))) (ay GD hr (ae (pv 0) (ae ai ah)))) ah)))
  (ax (aJ (ae (pv 2) ah))))))),?_⟩
 refine⟨_,rfl,rfl,_,rfl,?_⟩
 refine cG (λc=>?_) (λn1=>?_)
 ·have e:wd="walk":=by have:=Vd c; injection this
  subst e
  refine⟨_,rfl,_,rfl,p,a,hs,rfl,hP,hh,λn H1 g1 n1 n2=>?_⟩
  refine ak ?_
  dsimp only
  refine⟨_,rfl,_,rfl,p,rfl,g1.cf,λst H2 g2=>?_⟩
  have gg:=g1.trans g2
  refine⟨_,rfl,yp gg.cf (hh.grow hP gg) rfl rfl n1 n2 λx H3 g3=>?_⟩
  have g5:=gg.trans g3
  refine⟨p,x,rfl,g5.cf,λt2 bs mv H4 g4 hI Rq hcl=>⟨M5,λt ht=>?_⟩⟩
  have sn:=aj ht (.tup [.str "walk",.int n,.str st,.ref t2])
  exact q t (.walk n mv) _ ((g5.trans g4).new ht) ⟨st,t2,bs,ag,hI.keep (aE.of sn) λ_ _ e=>e.keep (aE.of sn)⟩ ⟨by show mv.length<=1000; omega,hcl,by show mv.length<=50; omega,λc hc=>by rw [UU.mp hc]; exact n1⟩ rfl
 refine⟨_,rfl,rfl,_,rfl,?_⟩
 refine cG (λc=>?_) (λn2=>?_)
 ·have e:wd="sort":=by have:=Vd c; injection this
  subst e
  refine⟨_,rfl,_,rfl,p,a,hs,rfl,hh,hP,λt2 bs cs H4 g4 hI OP hcp=>⟨cJ,λt ht=>?_⟩⟩
  have sn:=aj ht (.tup [.str "sort",.ref t2])
  exact q t (.sort cs) _ (g4.new ht) ⟨t2,bs,ag,hI.keep (aE.of sn) λ_ _ e=>e.keep (aE.of sn)⟩ ⟨by show cs.length<=1000; omega,trivial,trivial,hcp⟩ rfl
 refine⟨_,rfl,rfl,_,rfl,?_⟩
 refine cG (λc=>?_) (λn3=>?_)
 ·have e:wd="count":=by have:=Vd c; injection this
  subst e
  refine⟨_,rfl,_,rfl,_,rfl,p,_,rfl,hP,by decide,by decide,λd H1 g1 a1 b1=>?_⟩
  refine⟨p,a,hs,_,rfl,g1.cf,hh.grow hP g1,by omega,by omega,λt2 ns H2 g2 h2 hn hp=>⟨cJ,λt ht=>?_⟩⟩
  exact q t (.count ns) _ ((g1.trans g2).new ht) ⟨t2,ag,aj ht _ _ _ h2⟩ ⟨by show ns.length<=1000; omega,trivial,trivial,hp⟩ rfl
 refine⟨_,rfl,rfl,_,rfl,?_⟩
 refine cG (λc=>?_) (λn4=>?_)
 ·have e:wd="sum":=by have:=Vd c; injection this
  subst e
  refine⟨_,rfl,_,rfl,_,rfl,p,_,rfl,hP,by decide,by decide,λd H1 g1 a1 b1=>?_⟩
  refine⟨p,a,hs,_,rfl,g1.cf,hh.grow hP g1,by omega,by omega,λt2 ns H2 g2 h2 hn hp=>?_⟩
  have gg:=g1.trans g2
  refine⟨_,rfl,_,rfl,p,a,hs,rfl,gg.cf,hh.grow hP gg,λn H3 g3 n1 n2=>⟨gv,λt ht=>?_⟩⟩
  have h3:=ia gg.cf g3 h2
  exact q t (.sum ns n) _ ((gg.trans g3).new ht) ⟨t2,ag,aj ht _ _ _ h3⟩ ⟨by show ns.length<=1000; omega,trivial,trivial,λc hc=>by rcases UZ.mp hc with z | z; exact hp c z; rw [UU.mp z]; exact n1⟩ rfl
 refine⟨_,rfl,rfl,_,rfl,?_⟩
 refine cG (λc=>?_) (λn5=>?_)
 ·have e:wd="first":=by have:=Vd c; injection this
  subst e
  refine⟨_,rfl,p,_,rfl,hP,by decide,by decide,λd H1 g1 a1 b1=>?_⟩
  refine⟨_,rfl,p,_,rfl,g1.cf,by decide,by decide,λd2 H2 g2 a2 b2=>⟨cJ,λR hR=>?_⟩⟩
  have gg:=(g1.trans g2).new (o:=.lst [.int d,.int d2]) hR
  refine⟨_,rfl,p,_,rfl,gg.cf,by decide,by decide,λd3 H3 g3 a3 b3=>?_⟩
  have hk:=g3.keep R _ ((g1.trans g2).ne hR) ag
  have DD:∃y:Int,i_ [V.int d,V.int d2] d3=some (.int y):=by
   have hd:d3=0\/d3=1:=by omega
   rcases hd with z | z <;> rw [z]
   ·exact⟨_,rfl⟩
   ·exact⟨_,rfl⟩
  obtain⟨y,hy⟩:=DD
  refine⟨R,_,_,_,rfl,rfl,aZ.of hk,hy,cJ,λt ht=>?_⟩
  exact q t (.first y) _ ((gg.trans g3).new ht) ag ⟨trivial,trivial,trivial,λc hc=>by cases hc⟩ rfl
 refine⟨_,rfl,dP,λt ht=>?_⟩
 have g9:=(bo.refl hP).new (o:=.tup [.str wd]) ht
 rcases HH with e | e | e | e | e | e | e
 ·exact absurd (by rw [e]; rfl) n1
 ·exact absurd (by rw [e]; rfl) n2
 ·subst e
  exact q t .apart _ g9 ag ⟨trivial,trivial,trivial,λc hc=>by cases hc⟩ rfl
 ·exact absurd (by rw [e]; rfl) n3
 ·exact absurd (by rw [e]; rfl) n4
 ·subst e
  exact q t .number _ g9 ag ⟨trivial,trivial,trivial,λc hc=>by cases hc⟩ rfl
 ·exact absurd (by rw [e]; rfl) n5
end My
namespace L2
open PySem PySem.Spec PyProof.Rows
section
variable{X:Cx}
end
end L2
namespace L2
open PySem
def MA(K:Ve):List V->Hp->VK->Prop:=λxs H Q=>∃p ys,xs=[.ref p]/\(aZ K H p ys\/aH K H p ys)/\Q (.int ys.length) H
variable{X:Cx}
theorem Aa:fq X (.builtin "len") (MA X.K):=bF
end L2
namespace L2
open PySem PySem.Spec PyProof.Rows
variable{X:Cx}
def LA(K:Ve)(n:String):List V->Hp->VK->Prop:=λxs H Q=>∃x t b,xs=[x,.ty n]/\km K H x t/\PySem.W.kitOne K t (.type n)=some b/\Q (.bl b) H
theorem vK{n:String}:fq X (.builtin "isinstance") (LA X.K n):=by
 intro pins s σ H xs us Q I r h
 obtain⟨x,t,b,rfl,ty,e,q⟩:=h
 obtain⟨u,w',rfl,r1,r2⟩:=vals2 r
 cases(show w'=Value.type n from r2)
 exact qS I r1 ty e λtk=>⟨.bl b,H,I.tok _,rfl,q⟩
def Pe(K:Ve)(ta tb:TE):TE:=λσ H Q=>ta σ H λx H1=>∃k,K0 K x H1 k/\if k=true then Q x H1 else tb σ H1 Q
theorem Jc{a b:Expr}{ta tb:TE}{pos:Pos}(ha:PE X a ta)(hb:PE X b tb):PE X (.BoolOp .Or [a,b] pos) (Pe X.K ta tb):=by
 intro pins s σ H Q I h
 refine BoolOp_or (b_ (ha pins s σ H _ I h) λv s1 ⟨x,H1,I1,r1,k,hk,q1⟩=>?_)
 refine b_ (JH pins s1 σ H1 x v (λb H2=>b=k/\H2=H1) I1 r1 ⟨k,hk,rfl,rfl⟩) λb s2 ⟨H2,I2,e1,e2⟩=>?_
 subst e1 e2
 cases b with
 | false=>exact cZ hb pins s2 σ _ Q I2 q1
 | true=>exact⟨x,_,I2,r1,q1⟩
structure NO(yD:Scope)(ON N':List Str)(src:List (Option Nat))(sc:Scope):Prop where
 kind:sc.kind=.function
 Lo:yD.kind=.function
 uniq:∀y∈sc.names,sc.names.lookup y.1=some y.2
 free:∀y∈sc.names,y.2=.free->yD.names.lookup y.1=some .cell\/yD.names.lookup y.1=some .free
 len:src.length=N'.length
 src:∀(i:Nat) (x:Str) (j:Nat),N'[i]? = some x->src[i]? = some (some j)->ON[j]? = some x/\sc.names.lookup x=some .free
section
variable{X:Cx}{elt target iter:Expr}{ifs:List Expr}{sc:Scope}{pos:Pos}{wi:TI}{g:TG}{tc:TT}{te:TE}{N':List Str}{src:List (Option Nat)}
end
section
variable{X:Cx}{N':List Str}{sc:Scope}{cl:List (Str×Addr)}{C:Addr}{s:Shared}{H:Hp}{fp:List Addr}
end
end L2
namespace L2
open PySem
def HF:R2:=λx y H Q=>∃a b xs ys,x=.ref a/\y=.ref b/\H a=some (.tup xs)/\H b=some (.tup ys)/\xs.length+ys.length<=sizeLine/\∀t H',aM H H'->H' t=some (.tup (xs++ys))->Q (.ref t) H'
theorem b9{X:Cx}:i6 X (binaryOp .Add) HF:=by
 intro pins s σ H x y v u Q I rx ry h
 obtain⟨a,b,xs,ys,rfl,rfl,ha,hb,hz,q⟩:=h
 by_cases hx:xs=[]
 ·subst hx
  exact D6 pins s σ H _ _ v u Q I rx ry ⟨a,b,ys,rfl,rfl,aH.of ha,aH.of hb,q b H (aM.refl _) hb⟩
 ·exact sO pins s σ H _ _ v u Q I rx ry ⟨a,b,xs,ys,rfl,rfl,aH.of ha,aH.of hb,hx,hz,λz=>q a H (aM.refl _) (by rw [z,List.append_nil]; exact ha),λ_ p hp=>q p _ (λb' u' e=>by rw [aI (aU e hp)]; exact e) ag⟩
def PB:V->Option Int->Option Int->Hp->VK->Prop:=λx lo hi H Q=>∃a xs,x=.ref a/\H a=some (.tup xs)/\∀t H',aM H H'->H' t=some (.tup (f_ xs lo hi))->Q (.ref t) H'
theorem c_{X:Cx}:FQ X PB:=by
 intro pins s σ H x v vl vu lo hi sl Q I rx hs pl pu h
 obtain⟨a,xs,rfl,hx,q⟩:=h
 exact(B6.or FX) pins s σ H _ v vl vu lo hi sl Q I rx hs pl pu (Gs rfl (aH.of hx) (λz=>q a H (aM.refl _) (by rw [z]; exact hx)) λp hp=>q p _ (λb' u' e=>by rw [aI (aU e hp)]; exact e) ag)
theorem xn{xs:List V}{n:Nat}(h:n<=xs.length):f_ xs none (some (n:Int))=xs.take n:=by
 unfold f_
 rw [HT.y_,HT.oC]
 simp [Nat.min_eq_left h]
theorem Du{xs:List V}{n:Nat}(h:n<=xs.length):f_ xs (some (n:Int)) none=xs.drop n:=by
 unfold f_
 rw [HT.y_,HT.oC,Nat.min_eq_left h]
 exact List.take_of_length_le (by rw [List.length_drop]; exact UD _)
structure EO(X:Cx)(e:Expr)(t:TE):Prop where
 h:PE X e t
structure AO(X:Cx)(es:List Expr)(t:TA):Prop where
 h:PA X es t
structure SO(X:Cx)(sts:List Stmt)(t:TS):Prop where
 h:nN X sts t
section
variable{X:Cx}{a b e:Expr}{es:List Expr}{ta tb te:TE}{t:TA}{pos pos':Pos}
theorem IC:AO X [] fD:=⟨ah⟩
theorem dZ(ha:EO X e te)(hr:AO X es t)(hs:starEach (e::es) X.env=(false,eval e X.env)::starEach es X.env:=by rfl):AO X (e::es) (bp te t):=⟨ae ha.h hr.h hs⟩
theorem Ig(h:AO X es t):EO X (.List es pos) (xR t):=⟨aQ h.h⟩
theorem IE{i:Nat}{x:Str}{rest:List Stmt}{u:TS}(hN:X.N.Nodup)(hi:X.N[i]? = some x)(hx:Loc X.env.scope x)(he:EO X e te)(h2:SO X rest u)(hs:swapsWith e (some (.Name x pos')) pos.line X.env=pure false:=by rfl)(hf:X.fn x=true\/X.env.scope.names.lookup x=some .local:=by first | exact .inl rfl | exact .inr rfl | assumption) :
  SO X (.Assign [.Name x pos'] e pos::rest) (FC (BC te (bz i)) u):=⟨aq (aL hN hi hx he.h hs hf) h2.h⟩
end
theorem M4{X:Cx}{sts:List Stmt}{t:TS}{R:TS->Prop}(h:SO X sts t)(r:R t):∃t,nN X sts t/\R t:=⟨t,h.h,r⟩
end L2
namespace L2
open PySem PySem.Spec PyProof.Rows
def dB(K:Ve)(d:Addr)(key:Str)(f:Addr):Prop :=
 ∃(es:Array DictEntry) (ep:Nat) (i:Nat) (x:Int) (t:Tok),K.lookup d=some ⟨.type "dict",none,.dict es ep,#[]⟩/\es.all (λe=>isExactStrKey e.key)=true/\es.findIdx? (λe=>e.key.isStr key)=some i/\es[i]? = some ⟨x,.str key t,.ref f⟩
def EJ(K:Ve):R2:=λx y H Q=>∃d k f,x=.ref d/\y=.str k/\dB K d k f/\Q (.ref f) H
section
variable{X:Cx}
theorem ou:LU X (EJ X.K):=by
 intro value slice pins s σ H x y v u Q I rx ry h hs
 obtain⟨d,k,f,rfl,rfl,⟨es,ep,i,hx,te,lk,ha,hi,he⟩,q⟩:=h
 cases rx
 obtain⟨t,rfl⟩:=ry
 have ho:s.heap.get? d=some ⟨.type "dict",none,.dict es ep,#[]⟩:=I.jJ _ _ lk
 have hT:s.TypeIs (.ref d) "dict":=⟨_,ho,rfl⟩
 have fin:EP X pins σ Q (.ref f) {s with toks:=s.toks+1}:=⟨.ref f,H,I.kept (h':=s.heap) (t':=s.toks+1) λ_ _ e=>e,rfl,q⟩
 refine subscriptTail_builtinR (x:=.ref f) hT slot_dict_getitem.lookup ?_ hs
 unfold getItem
 try with_reducible refine U9 ?_
 refine Uy (wpAny_sequenceKey hT (by decide) ?_)
 refine Uy (wpAny_callSpecial?_slot (name:=Str.ofString "__getitem__") hT slot_dict_getitem
  (wpAny_call_entry slot_dict_getitem hT entry_dict_getitem ?_ (args_dict_getitem _ _)))
 show wpAny _ _ (dictGet d (.str k t) >>= _) _ _ s
 refine Uy ?_
 unfold dictGet
 try with_reducible refine U9 ?_
 refine Uy (wpAny_pyHash_str ?_)
 unfold dictFind
 refine Uy ?_
 try with_reducible refine U9 ?_
 refine Uy (wpAny_dictEntries (s:={s with toks:=s.toks+1}) ho rfl ?_)
 dsimp only
 rw [if_pos ha]
 unfold foundByValue
 rw [hi]
 dsimp only
 rw [he]
 dsimp only
 refine Uy (wpAny_dictEpoch (s:={s with toks:=s.toks+1}) ho rfl ?_)
 refine Uy (wpAny_eqBool_str ?_)
 refine Uy (wpAny_dictEpoch (s:={s with toks:=s.toks+1}) ho rfl ?_)
 rw [if_neg (by simp),UH rfl]
 refine Uy (wpAny_rule (Uz ?_))
 refine Uy (wpAny_dictEntries (s:={s with toks:=s.toks+1}) ho rfl (Uz ?_))
 rw [he]
 refine Uz ⟨.ref f,rfl,Uz ⟨rfl,fin⟩⟩
def Jd(X:Cx)(CX:m8)(k:Nat)(E:XK)(te:TE)(t:TA):TE:=λσ H Q=>te σ H λv H1=>∃f fd ps sp,v=.ref f/\e_ X.prog X.w X.K X.mg X.base CX k f fd ps sp/\PySem.W.keepIn X.K (.ref f)=true/\Binds X.K fd ps []/\t σ H1 λvs H2=>sp vs H2 Q E
variable{CX:m8}{k:Nat}{E:XK}{x:Str}{p pos:Pos}{e:Expr}{es:List Expr}{te:TE}{t:TA}
theorem nJ(hn:PE X (.Name x p) te)(hr:eK k X.A)(hx:Passes CX X E)(ha:PA X (e::es) t)
  (he:starEach (e::es) X.env=(false,eval e X.env)::starEach es X.env:=by rfl) (hpl:(backTo pos (starEach es X.env)).any (·.1)=false:=by rfl) :
  PE X (.Call (.Name x p) (e::es) [] pos) (Jd X CX k E te t):=by
 intro pins s σ H Q I h
 refine wpAny_Call_Name_kw (b_ (hn pins s σ H _ I h) λu s1 ⟨v,H1,I1,rv,f,fd,ps,sp,ev,F,hk,hb,q⟩=>?_)
 subst ev
 cases rv
 refine PySem.W.callWith_K (h₀:=X.base) I1.ok.mod.Kw hk (b_ (ha pos pins s1 σ H1 _ I1 q) λus s2 ⟨vs,H2,I2,r,q2⟩=>⟨I2.jJ,?_⟩) he hpl
 exact Dd F hr hb .nil hx I2 r (by rw [List.append_nil]; exact q2)
end
end L2
namespace My
open PySem L2
structure Ao(mg:Str->Option Value):Prop where
 str:mg "str"=none
 any:mg "any"=none
 zip:mg "zip"=none
 enumerate:mg "enumerate"=none
theorem ux{K:Ve}{t:Value}(h:(t==t)=true):PySem.W.kitOne K t t=some true:=by
 unfold PySem.W.kitOne
 exact if_pos h
def fW:Sp:=λvs H Q _=>∃v,vs=[v]/\dN v/\Q (.str (sW v)) H
abbrev lR:Stmt:=top 8
theorem xP:az ["cell"] ["cell"] (ar lR):=fs
variable{P:Program}{w:World}{K:Ve}{mg:Str->Option Value}{base:Heap}
theorem AZ(B:jU mg)(B3:Ao mg)(Ki:PySem.W.kitOne K (.type "int") (.type "str")=some false)(F:FA K mg "sort_of" lR) :
  bc bf P w K mg base 1 "sort_of" ["cell"] fW:=by
 refine F.ok xP λf cdv A outer s H vs Q E hr h=>?_
 obtain⟨v,rfl,hv,q⟩:=h
 refine⟨_,(ax (eM (fw (a_ (vK (n:="str")) rfl B.isinstance PyProof.Rows.boot_isinstance (ae (pv 0) (ae (xr (n:="str") rfl B3.str (by decide +kernel)) ah)))) ao ao)),?_⟩
 rcases hv with⟨n,rfl⟩ | ⟨x,rfl⟩
 ·exact⟨_,rfl,_,_,false,rfl,.int n,Ki,_,rfl,bB q⟩
 ·exact⟨_,rfl,_,_,true,rfl,.str x,ux (by decide),_,rfl,bY q⟩
def eU(ok:W1->Prop):Sp:=λvs H Q _=>∃(a:Addr) (x:W1),vs=[.ref a]/\jV H a x/\ok x/\p9 x/\∀(u:Addr) (H':Hp),aM H H'->H' u=some (.tup ((c8 x).map V.int))->Q (.ref u) H'
def Py(x:W1):Prop:=x=.apart\/x=.number\/∃n,x=.first n
def yY:Sp:=λvs H Q _=>∃v,vs=[v]/\∀(u:Addr) (H':Hp),aM H H'->H' u=some (.tup [])->Q (.ref u) H'
abbrev iA:Stmt:=top 12
theorem ql:az ["worker"] ["worker"] (ar iA):=fs
theorem AS(F:FA K mg "no_columns" iA) :
  bc bf P w K mg base 1 "no_columns" ["worker"] yY:=by
 refine F.ok ql λf cdv A outer s H vs Q E hr h=>?_
 have hu:=iW hr
 obtain⟨v,rfl,q⟩:=h
 refine⟨_,(ax (aJ ah)),?_⟩
 exact⟨U1 _,λu hu=>q u _ (aj hu _) ag⟩
theorem BV:∀vs H Q E,eU Py vs H Q E->yY vs H Q E:=by
 rintro vs H Q E ⟨a,x,rfl,_,ho,_,q⟩
 refine⟨_,rfl,λu H' s hu=>q u H' s ?_⟩
 rw [hu]
 rcases ho with rfl | rfl | ⟨n,rfl⟩ <;> rfl
def vY(x:W1):Prop:=∃c,(∃t,x=.keep c t)\/(∃ps,x=.turn c ps)\/(∃ps,x=.must c ps)\/∃mv,x=.walk c mv
theorem vY.at_{x:W1}{H:Hp}{a:Addr}(h:vY x)(ha:jV H a x):∃c y ys,H a=some (.tup (y :: .int c::ys))/\c8 x=[c]:=by
 obtain⟨c,⟨t,rfl⟩ | ⟨ps,rfl⟩ | ⟨ps,rfl⟩ | ⟨mv,rfl⟩⟩:=h
 ·obtain⟨s,xs,h1,h2⟩:=ha; exact⟨c,_,_,h1,rfl⟩
 ·obtain⟨t,bs,h1,h2⟩:=ha; exact⟨c,_,_,h1,rfl⟩
 ·obtain⟨t,bs,h1,h2⟩:=ha; exact⟨c,_,_,h1,rfl⟩
 ·obtain⟨s,t,bs,h1,h2⟩:=ha; exact⟨c,_,_,h1,rfl⟩
abbrev iF:Stmt:=top 13
theorem qL:az ["worker"] ["worker"] (ar iF):=fs
theorem A1(F:FA K mg "one_column" iF) :
  bc bf P w K mg base 1 "one_column" ["worker"] (eU vY):=by
 refine F.ok qL λf cdv A outer s H vs Q E hr h=>?_
 have hu:=iW hr
 obtain⟨a,x,rfl,ha,ho,hs,q⟩:=h
 refine⟨_,(ax (aJ (ae (aA K (pv 0) ai) ah))),?_⟩
 obtain⟨c,y,ys,h1,hc⟩:=ho.at_ ha
 refine⟨_,rfl,a,_,1,_,rfl,rfl,aH.of h1,av (j:=1) rfl,dP,λu hu=>q u _ (aj hu _) ?_⟩
 rw [ag,hc]
 rfl
def Ha(x:W1):Prop:=∃c d,x=.same c d
abbrev hV:Stmt:=top 14
theorem pQ:az ["worker"] ["worker"] (ar hV):=fs
theorem xW(F:FA K mg "two_columns" hV) :
  bc bf P w K mg base 1 "two_columns" ["worker"] (eU Ha):=by
 refine F.ok pQ λf cdv A outer s H vs Q E hr h=>?_
 obtain⟨a,x,rfl,ha,ho,hs,q⟩:=h
 refine⟨_,(ax (cu c_ (pv 0) (cB ai) (cB ai))),?_⟩
 obtain⟨c,d,rfl⟩:=ho
 have h1:H a=some (.tup [.str "same",.int c,.int d]):=ha
 exact⟨_,rfl,_,rfl,_,rfl,a,_,rfl,h1,λt H' s' ht=>q t H' s' (by rw [ht]; rfl)⟩
def xQ(x:W1):Prop:=∃cs,x=.cut cs\/x=.count cs
abbrev fe:Stmt:=top 15
theorem kS:az ["worker"] ["worker"] (ar fe):=fs
theorem vN(F:FA K mg "listed_columns" fe) :
  bc bf P w K mg base 1 "listed_columns" ["worker"] (eU xQ):=by
 refine F.ok kS λf cdv A outer s H vs Q E hr h=>?_
 obtain⟨a,x,rfl,ha,ho,hs,q⟩:=h
 refine⟨_,(ax (aA K (pv 0) ai)),?_⟩
 obtain⟨cs,rfl | rfl⟩:=ho
 ·obtain⟨t,h1,h2⟩:=ha
  exact⟨_,rfl,a,_,1,_,rfl,rfl,aH.of h1,rfl,q t H (aM.refl _) h2⟩
 ·obtain⟨t,h1,h2⟩:=ha
  exact⟨_,rfl,a,_,1,_,rfl,rfl,aH.of h1,rfl,q t H (aM.refl _) h2⟩
def C4(x:W1):Prop:=∃cs,x=.sort cs
abbrev fR:Stmt:=top 16
theorem mR:az ["worker"] ["worker"] (ar fR):=fs
theorem vI(B:jU mg)(F:FA K mg "sort_columns" fR) :
  bc bf P w K mg base 1 "sort_columns" ["worker"] (eU C4):=by
 refine F.ok mR λf cdv A outer s H vs Q E hr h=>?_
 have hu:=iW hr
 obtain⟨a,x,rfl,ha,ho,hs,q⟩:=h
 refine⟨_,(ax (aV bA rfl B.tuple PyProof.Rows.boot_tuple (ae (bw (N':=["column","greatest_first"]) (src:=[none,none]) rfl (ba.jK (by kernel_rfl)) (cM (aA K (pv 0) ai)) (g:=(iO K 2 (bO (bz 0) (bO (bz 1) iX)))) (λcl C s H fp=>(cC rfl (aD (eA (i:=0)) (aD (eA (i:=1)) bS)))) (λcl C s H fp=>aX) (te:=(bx 0)) (λcl C s H fp=>(i3 0))) ah))),?_⟩
 obtain⟨cs,rfl⟩:=ho
 obtain⟨t,bs,h1,hI⟩:=ha
 have hs:cs.length<=1000:=hs
 have hl:(bs.map V.ref).length=cs.length:=by rw [UI,hI.len]
 refine⟨_,rfl,a,_,1,_,rfl,rfl,aH.of h1,rfl,t,rfl,⟨_,aH.of hI.tup⟩,λD hD=>?_⟩
 refine cF (xs:=bs.map V.ref) (λi σ ys H'=>(∃o1 o2,σ=[o1,o2])/\ys=(cs.take i).map V.int/\ys.length=i/\H' D=some (.lst ys)/\aM H H') ⟨⟨none,none,rfl⟩,rfl,rfl,ag,aj hD _⟩ ?_ ?_ ?_ ?_ ?_
 ·rintro i σ ys H' _ ⟨_,_,hi,h,_⟩
  exact⟨h,Nat.le_of_eq hi⟩
 ·rintro i σ ys H' _ ⟨_,_,_,_,sm⟩
  exact aH.of (sm _ _ hI.tup)
 ·rw [hl]; exact UE hs (by decide)
 ·rintro i x σ ys H' hx ⟨⟨o1,o2,rfl⟩,rfl,hi,h,sm⟩
  obtain⟨b,c,rfl,ec,bb,hb⟩:=hI.get hx
  refine⟨b,_,rfl,aH.of (sm _ _ hb),rfl,_,_,rfl,ak ⟨_,_,rfl,ak ⟨rfl,?_⟩⟩⟩
  refine⟨_,rfl,h,⟨_,_,rfl⟩,?_,?_,ag,bq hD sm⟩
  ·rw [List.take_add_one,ec,UK]; rfl
  ·rw [UJ,hi]; rfl
 ·rintro σ ys H' ⟨_,rfl,_,h,sm⟩
  rw [hl,List.take_length]at h
  exact⟨D,_,rfl,.inl ⟨aZ.of h,λu hu=>q u _ (sm.trans (aj hu _)) ag⟩⟩
def Hl(x:W1):Prop:=∃cs c,x=.sum cs c
abbrev gY:Stmt:=top 17
theorem pB:az ["worker"] ["worker"] (ar gY):=fs
theorem yd(F:FA K mg "sum_columns" gY) :
  bc bf P w K mg base 1 "sum_columns" ["worker"] (eU Hl):=by
 refine F.ok pB λf cdv A outer s H vs Q E hr h=>?_
 have hu:=iW hr
 obtain⟨a,x,rfl,ha,ho,hs,q⟩:=h
 refine⟨_,(ax (aF b9 (aA K (pv 0) ai) (aJ (ae (aA K (pv 0) ai) ah)))),?_⟩
 obtain⟨cs,c,rfl⟩:=ho
 obtain⟨t,h1,h2⟩:=ha
 have hs:cs.length<=1000:=hs
 refine⟨_,rfl,a,_,1,_,rfl,rfl,aH.of h1,rfl,_,rfl,a,_,2,_,rfl,rfl,aH.of h1,rfl,dP,λu hu=>?_⟩
 have su:=aj hu (.tup [.int c])
 refine⟨t,u,_,_,rfl,rfl,su _ _ h2,ag,?_,λt' H' s' ht'=>q t' H' (su.trans s') ?_⟩
 ·rw [UI]
  exact UE (show cs.length+1<=1001 by omega) (by decide)
 ·rw [ht']
  show _=some (HO.tup ((cs++[c]).map V.int))
  rw [UK]
  rfl
def there(c:Int)(h:Hd):Bool:=decide (1<=c)&&decide (c<=(h.length:Nat))
def sx:Sp:=λvs H Q _=>∃(c:Int) (a:Addr) (h:Hd),vs=[.int c,.ref a]/\dX H a h/\Q (.bl (there c h)) H
abbrev kH:Stmt:=top 19
theorem uZ:az ["column","head"] ["column","head"] (ar kH):=fs
theorem Eh(B:jU mg)(F:FA K mg "is_there" kH) :
  bc bf P w K mg base 1 "is_there" ["column","head"] sx:=by
 refine F.ok uZ λf cdv A outer s H vs Q E hr h=>?_
 obtain⟨c,a,h,rfl,ha,q⟩:=h
 refine⟨_,(ax (D9 DO DO ai (pv 0) (a_ bF rfl B.len PySem.boot_len (ae (pv 1) ah)))),?_⟩
 refine⟨_,rfl,_,_,rfl,rfl,_,rfl,?_⟩
 unfold there at q
 refine cG (λk=>?_) (λk=>?_)
 ·rw [k]at q
  refine⟨_,rfl,a,_,rfl,.inr (aH.of ha),_,_,rfl,rfl,?_⟩
  rw [UI]
  rw [Bool.true_and]at q
  exact q
 ·rw [UY.mpr k]at q
  exact q
def c9:Wk->List Hd->Bool
 | .one x,hs=>(c8 x).all λc=>there c (hs.headD [])
 | .both ..,_=>true
 | .meet c d _ _,hs=>there c (hs.headD [])&&there d (hs.getD 1 [])
def Dt:Wk->Nat
 | .one _=>1
 | _=>2
def kj:Wk->Prop
 | .one x=>p9 x
 | _=>True
def dA(n:Nat)(F:Wk->List Hd->Bool)(ok:Wk->List Hd->Prop):Sp:=λvs H Q _=>∃(a l:Addr) (x:Wk) (as:List Addr) (hs:List Hd),vs=[.ref a,.ref l]/\dk n H a x/\f9 H l as hs/\hs.length=Dt x/\kj x/\ok x hs/\∀H',aM H H'->Q (.bl (F x hs)) H'
def Hw(P:Program)(w:World)(K:Ve)(mg:Str->Option Value)(base:Heap)(aR:Addr)(L:Nat)(x:W1):Prop :=
 ∃(f:Addr) (fd:FuncData),dB K aR x.nm f/\e_ P w K mg base bf L f fd ["worker"] (eU λy=>y=x)/\PySem.W.keepIn K (.ref f)=true/\Binds K fd ["worker"] []
theorem cE{ok ok':W1->Prop}(h:∀x,ok' x->ok x):∀vs H Q E,eU ok' vs H Q E->eU ok vs H Q E:=by
 rintro vs H Q E ⟨a,x,h1,h2,h3,h4⟩
 exact⟨a,x,h1,h2,h x h3,h4⟩
theorem AV{aR:Addr}{f1 f2 f3 f4 f5 f6:Addr}
  (tk:dB K aR "keep" f2) (ts:dB K aR "same" f3) (tc:dB K aR "cut" f4) (tt:dB K aR "turn" f2) (tm:dB K aR "must" f2) (tw:dB K aR "walk" f2) (to:dB K aR "sort" f5) (ta:dB K aR "apart" f1) (tn:dB K aR "count" f4) (tu:dB K aR "sum" f6) (tb:dB K aR "number" f1) (tf:dB K aR "first" f1)
  (G0:FnAt P w K mg base 1 f1 ["worker"] yY) (G2:FnAt P w K mg base 1 f2 ["worker"] (eU vY)) (G3:FnAt P w K mg base 1 f3 ["worker"] (eU Ha)) (G4:FnAt P w K mg base 1 f4 ["worker"] (eU xQ)) (G5:FnAt P w K mg base 1 f5 ["worker"] (eU C4)) (G6:FnAt P w K mg base 1 f6 ["worker"] (eU Hl)):∀x,Hw P w K mg base aR 1 x:=by
 obtain⟨d1,G0,b1,k1⟩:=G0
 obtain⟨d2,G2,b2,k2⟩:=G2
 obtain⟨d3,G3,b3,k3⟩:=G3
 obtain⟨d4,G4,b4,k4⟩:=G4
 obtain⟨d5,G5,b5,k5⟩:=G5
 obtain⟨d6,G6,b6,k6⟩:=G6
 have G1:=G0.imp BV
 intro x
 cases x with
 | keep c t=>exact⟨f2,d2,tk,G2.imp (cE λ_ e=>⟨c,.inl ⟨t,e⟩⟩),k2,b2⟩
 | same c d=>exact⟨f3,d3,ts,G3.imp (cE λ_ e=>⟨c,d,e⟩),k3,b3⟩
 | cut cs=>exact⟨f4,d4,tc,G4.imp (cE λ_ e=>⟨cs,.inl e⟩),k4,b4⟩
 | turn c ps=>exact⟨f2,d2,tt,G2.imp (cE λ_ e=>⟨c,.inr (.inl ⟨ps,e⟩)⟩),k2,b2⟩
 | must c ps=>exact⟨f2,d2,tm,G2.imp (cE λ_ e=>⟨c,.inr (.inr (.inl ⟨ps,e⟩))⟩),k2,b2⟩
 | walk c mv=>exact⟨f2,d2,tw,G2.imp (cE λ_ e=>⟨c,.inr (.inr (.inr ⟨mv,e⟩))⟩),k2,b2⟩
 | sort cs=>exact⟨f5,d5,to,G5.imp (cE λ_ e=>⟨cs,e⟩),k5,b5⟩
 | apart=>exact⟨f1,d1,ta,G1.imp (cE λ_ e=>.inl e),k1,b1⟩
 | count cs=>exact⟨f4,d4,tn,G4.imp (cE λ_ e=>⟨cs,.inr e⟩),k4,b4⟩
 | sum cs c=>exact⟨f6,d6,tu,G6.imp (cE λ_ e=>⟨cs,c,e⟩),k6,b6⟩
 | number=>exact⟨f1,d1,tb,G1.imp (cE λ_ e=>.inr (.inl e)),k1,b1⟩
 | first n=>exact⟨f1,d1,tf,G1.imp (cE λ_ e=>.inr (.inr ⟨n,e⟩)),k1,b1⟩
theorem dg{x:W1}{hs:List Hd}(h:hs.length=Dt (.one x)):∃hd,hs=[hd]:=by
 cases hs with
 | nil=>cases h
 | cons hd r =>
  cases r with
  | nil=>exact⟨hd,rfl⟩
  | cons _ _=>cases h
theorem dG{hs:List Hd}(h:hs.length=2):∃h1 h2,hs=[h1,h2]:=by
 match hs,h with
 | [h1,h2],_=>exact⟨h1,h2,rfl⟩
theorem AD{x:W1}(h:p9 x):(c8 x).length<=1001:=by
 cases x <;> simp only [c8,UJ,Vb,List.length_nil] <;> first | omega | (simp only [p9]at h; omega)
theorem KR{x:W1}:x.nm≠"meet"/\x.nm≠"both":=by cases x <;> (simp only [W1.nm]; decide +kernel)
def gx:Wk->List Int
 | .one x=>c8 x
 | _=>[]
def zi(n:Nat)(x:Wk):Sp:=λvs H Q _=>∃(a:Addr),vs=[.ref a]/\dk n H a x/\kj x/\∀(u:Addr) (H':Hp),aM H H'->H' u=some (.tup ((gx x).map V.int))->Q (.ref u) H'
def DU(P:Program)(w:World)(K:Ve)(mg:Str->Option Value)(base:Heap)(aR:Addr)(n:Nat)(x:Wk):Prop :=
 ∃(f:Addr) (fd:FuncData),dB K aR x.nm f/\e_ P w K mg base bf 1 f fd ["worker"] (zi n x)/\PySem.W.keepIn K (.ref f)=true/\Binds K fd ["worker"] []
theorem bW{n:Nat}{H:Hp}{a:Addr}{x:W1}:dk n H a (.one x)↔jV H a x:=by cases n <;> exact Iff.rfl
theorem Ja{P:Program}{w:World}{K:Ve}{mg:Str->Option Value}{base:Heap}{aR f:Addr}{n:Nat}(h:∀x,Hw P w K mg base aR 1 x)(tb:dB K aR "both" f)(G:FnAt P w K mg base 1 f ["worker"] yY) :
  ∀x:Wk,x.nm≠"meet"->DU P w K mg base aR n x:=by
 obtain⟨fd,G,b,k⟩:=G
 intro x hx
 cases x with
 | one x =>
  obtain⟨g,gd,h1,h2,h3⟩:=h x
  refine⟨g,gd,h1,h2.imp ?_,h3⟩
  rintro vs H Q E ⟨a,rfl,ha,hs,q⟩
  exact⟨a,x,rfl,bW.mp ha,rfl,hs,q⟩
 | both p q =>
  refine⟨f,fd,tb,G.imp ?_,k,b⟩
  rintro vs H Q E ⟨a,rfl,ha,hs,q⟩
  exact⟨_,rfl,q⟩
 | meet c d p q=>exact absurd rfl hx
theorem rp{x:Wk}(h:kj x):(gx x).length<=1001:=by
 cases x with
 | one x=>exact AD h
 | both p q=>exact U1 _
 | meet c d p q=>exact U1 _
abbrev gI:Stmt:=top 20
theorem jc:az ["worker","heads","columns_of"] ["worker","heads"] (ar gI):=fs
theorem AU{n:Nat}{aC:Addr}(B:jU mg)(B2:iL mg)(mC:mg "COLUMNS_OF"=some (.ref aC))(GC:∀x:Wk,x.nm≠"meet"->DU P w K mg base aC n x)(F:FA K mg "columns_fit" gI)
  (kC:bc bf P w K mg base 1 "is_there" ["column","head"] sx) :
  bc bf P w K mg base 2 "columns_fit" ["worker","heads"] (dA n c9 (λ_ _=>True)):=by
 refine F.ok jc λf cdv A outer s H vs Q E hr h=>?_
 have hu:=iW hr
 have hu1:=jW hr
 obtain⟨a,l,x,as,hs,rfl,ha,hL,hn,hsm,Up,q⟩:=h
 refine⟨_,(aN (aW aP (aA K (pv 0) ai) ao) (pY (ay kC hr (ae (aA K (pv 0) ai) (ae (bj K (pv 1) ai) ah))) (cZ (ay kC hr (ae (aA K (pv 0) ai) (ae (bj K (pv 1) ai) ah)))))
   (aq (aL (i:=2) jc.nd rfl (Or.inl rfl) (fX (r:=EJ K) ou (cS rfl mC (show RelV (.ref aC) (.ref aC) from rfl)) (aA K (pv 0) ai) (λ_ _=>rfl)))
   (ax (a_ (il rfl) rfl B2.all PyProof.Rows.boot_all (ae (bw (N':=["column","heads"]) (src:=[none,some 1]) rfl (ba.jK (by kernel_rfl)) (cM (nJ (k:=1) (pv 2) hr uv (ae (pv 0) ah))) (λcl C s H fp=>(eA (i:=0))) (λcl C s H fp=>aX) (te:=(i4 sx [] E0 (bp (bx 0) (bp (gE (xy K) (bx 1) (tC (.int 0))) fD)))) (λcl C s H fp=>(ay (hg:=xA) kC hr (ae (i3 0) (ae (bj K (yV 1) ai) ah))))) ah))))),?_⟩
 obtain⟨xs,h1⟩:=ha.first
 refine⟨_,rfl,a,_,0,_,rfl,rfl,aH.of h1,av (j:=0) rfl,rfl,_,rfl,cG (λk=>?_) (λk=>aG ?_)⟩
 ·have k:V.str x.nm=V.str "meet":=Vd k
  injection k with k
  cases x with
  | one x=>exact absurd k KR.1
  | both p q=>exact absurd k (by show("both" : Str)≠"meet"; decide +kernel)
  | meet c d p q' =>
  obtain⟨h0,h2,rfl⟩:=dG hn
  obtain⟨a0,e0,gu⟩:=hL.nth (i:=0) rfl
  obtain⟨a1,e1,vk⟩:=hL.nth (i:=1) rfl
  cases n with
  | zero=>exact False.elim ha
  | succ n =>
  obtain⟨b,e,bs,es,h1,_⟩:=ha
  refine⟨_,rfl,a,_,1,_,rfl,rfl,aH.of h1,rfl,_,rfl,l,_,0,_,rfl,rfl,aZ.of hL.lst,av (j:=0) e0,c,a0,h0,rfl,gu,_,rfl,?_⟩
  have q:=q H (aM.refl _)
  have q:Q (.bl (there c h0&&there d h2)) H:=q
  refine cG (λk=>?_) (λk=>?_)
  ·rw [k,Bool.true_and]at q
   exact⟨_,rfl,a,_,2,_,rfl,rfl,aH.of h1,rfl,_,rfl,l,_,1,_,rfl,rfl,aZ.of hL.lst,av (j:=1) e1,d,a1,h2,rfl,vk,q⟩
  ·rw [UY.mpr k]at q
   exact q
 ·have hx:x.nm≠"meet":=λe=>k (UH (by rw [e]))
  obtain⟨g,gd,JO,FG,kG,bG⟩:=GC x hx
  refine⟨_,rfl,a,_,0,_,rfl,rfl,aH.of h1,av (j:=0) rfl,aC,x.nm,g,rfl,rfl,JO,ak ?_⟩
  dsimp only
  refine⟨_,rfl,g,gd,_,zi n x,rfl,FG,kG,bG,_,rfl,a,rfl,ha,hsm,λu H1 s1 hu1=>⟨u,rfl,⟨_,aH.of hu1⟩,λD hD=>?_⟩⟩
  have hh:∃h0,hs[0]? = some h0/\hs.headD []=h0:=by
   cases hs with
   | nil=>cases x <;> cases hn
   | cons h0 r=>exact⟨h0,rfl,rfl⟩
  obtain⟨h0,RA,eh⟩:=hh
  obtain⟨a0,e0,gu⟩:=hL.nth RA
  refine cF (xs:=(gx x).map V.int) (λi σ ys H'=>(∃o,σ=[o,some (.ref l)])/\ys=(((gx x).take i).map λc=>there c h0).map V.bl/\ys.length=i/\H' D=some (.lst ys)/\aM H1 H') ⟨⟨none,rfl⟩,rfl,rfl,ag,aj hD _⟩ ?_ ?_ ?_ ?_ ?_
  ·rintro i σ ys H' _ ⟨_,_,hi,h,_⟩
   exact⟨h,Nat.le_of_eq hi⟩
  ·rintro i σ ys H' _ ⟨_,_,_,_,sm⟩
   exact aH.of (sm _ _ hu1)
  ·rw [UI]; exact UE (rp hsm) (by decide)
  ·rintro i v σ ys H' hv ⟨⟨o,rfl⟩,rfl,hi,h,sm⟩
   rw [U5]at hv
   cases ec:(gx x)[i]? with
   | none=>rw [ec]at hv; cases hv
   | some c =>
    rw [ec]at hv
    have hv:V.int c=v:=U2 hv
    subst hv
    have s2:=s1.trans sm
    refine⟨_,rfl,_,rfl,l,_,0,_,rfl,rfl,aZ.of (s2 _ _ hL.lst),av (j:=0) e0,c,a0,h0,rfl,s2 _ _ gu,h,⟨_,rfl⟩,?_,?_,ag,bq hD sm⟩
    ·rw [take_one ec,UK,UK]; rfl
    ·rw [UJ,hi]; rfl
  ·rintro σ ys H' ⟨_,rfl,_,h,sm⟩
   rw [UI,List.take_length]at h
   refine⟨D,_,rfl,aZ.of h,?_⟩
   have e:c9 x hs=((gx x).map λc=>there c h0).all id:=by
    cases x with
    | one x =>
     show(c8 x).all (λc=>there c (hs.headD []))=_
     rw [eh,List.all_map]
     rfl
    | both p q=>rfl
    | meet c d p q=>exact absurd rfl hx
   rw [←e]
   exact q H' (s1.trans sm)
end My
namespace L2
open PySem
section
variable{g g2:TG}{tc tK:TT}{te:TE}{wi2:TI}{D:Addr}{Q:VK}{N:St->List V->Hp->Prop}{qd:St}{H0:Hp}{Nl:List V}{K:Ve}{a:Addr}{xs:List V}
theorem xq(Pv:Nat->St->List V->Hp->Prop)(h0:Pv 0 qd [] H0)(hD:∀i σ ys H,i<=xs.length->Pv i σ ys H->H D=some (.lst ys))(hl:∀i σ ys H,i<=xs.length->Pv i σ ys H->aZ K H a xs)
  (hs:∀i x σ ys H,xs[i]? = some x->Pv i σ ys H->g x σ H λdf H2=>tc df H2 λb H3=>if b=true then wi2 df H3 λJ2 H4=>∃W2:Nat->Nat->St->List V->Hp->Prop,(∃m,W2 0 m df ys H4)/\nU J2 g2 tK te D (Pv (i+1)) W2 else Pv (i+1) df ys H3)
  (hd:∀σ ys H,Pv xs.length σ ys H->Q (.ref D) H):∃W:Nat->Nat->St->List V->Hp->Prop,(∃m,W 0 m qd [] H0)/\tQ (NB K a) g tc wi2 g2 tK te D Q W:=by
 refine⟨λi m σ ys H=>m=xs.length-i/\i<=xs.length/\Pv i σ ys H,⟨xs.length,by simp,U1 _,h0⟩,?_⟩
 rintro i m σ ys H ⟨rfl,hi,p⟩
 have q:=hl i σ ys H hi p
 refine⟨hD i σ ys H hi p,?_⟩
 by_cases hlt:i<xs.length
 ·refine .inr ⟨⟨xs,xs[i],q,by simp [hlt]⟩,Pv (i+1),λσ' ys' H' p'=>⟨xs.length-(i+1),by omega,rfl,hlt,p'⟩,λx H' y=>?_⟩
  obtain⟨e,y⟩:=y
  subst e
  exact hs i x σ ys _ (y xs q) p
 ·have e:i=xs.length:=by omega
  subst e
  exact .inl ⟨⟨xs,q,UD _⟩,hd σ ys H p⟩
end
end L2
namespace My
open PySem L2
def alike(s t:Str):Bool:=decide (s=t) && !decide (s="t")
def rK:Sp:=λvs H Q _=>∃s t:Str,vs=[.str s,.str t]/\Q (.bl (alike s t)) H
theorem bL(s t:Str):decide (V.str s=V.str t)=decide (s=t):=by
 by_cases e:s=t
 ·rw [e]; simp
 ·rw [UG e,UG (λz=>e (V.str.inj z))]
abbrev fz:Stmt:=top 21
theorem lS:az ["one","other"] ["one","other"] (ar fz):=fs
variable{P:Program}{w:World}{K:Ve}{mg:Str->Option Value}{base:Heap}
theorem CG{tk:Tok}(mT:mg "TALLY"=some (.str "t" tk))(F:FA K mg "are_same_sort" fz) :
  bc bf P w K mg base 1 "are_same_sort" ["one","other"] rK:=by
 refine F.ok lS λf cdv A outer s H vs Q E hr h=>?_
 obtain⟨s1,t1,rfl,q⟩:=h
 refine⟨_,(ax (pY (bU aP (pv 0) (pv 1)) (cZ (bU mn (pv 0) (cS (v:=.str "t") rfl mT ⟨_,rfl⟩))))),?_⟩
 unfold alike at q
 refine⟨_,rfl,_,rfl,rfl,_,rfl,?_⟩
 rw [bL]
 refine cG (λk=>?_) (λk=>?_)
 ·rw [k,Bool.true_and,←bL]at q
  exact⟨_,rfl,rfl,q⟩
 ·rw [UY.mpr k]at q
  exact q
def cT(vs:List V)(t:Str):Bool:=!decide (t="t")&&vs.all λv=>decide (sW v=t)
def iG:Sp:=λvs H Q _=>∃(l:Addr) (us:List V) (t:Str),vs=[.ref l,.str t]/\H l=some (.lst us)/\us.length<=100000/\(∀v∈us,dN v)/\∀H',aM H H'->Q (.bl (cT us t)) H'
abbrev jd:Stmt:=top 22
theorem ub:az ["cells","column_sort"] ["cells","column_sort"] (ar jd):=fs
theorem vg{tk:Tok}(B2:iL mg)(mT:mg "TALLY"=some (.str "t" tk))(F:FA K mg "cells_fit" jd)
  (ip:bc bf P w K mg base 1 "sort_of" ["cell"] fW) :
  bc bf P w K mg base 2 "cells_fit" ["cells","column_sort"] iG:=by
 refine F.ok ub λf cdv A outer s H vs Q E hr h=>?_
 obtain⟨l,us,t,rfl,hl,hz,hc,q⟩:=h
 refine⟨_,(ax (pY (bU mn (pv 1) (cS (v:=.str "t") rfl mT ⟨_,rfl⟩)) (cZ (a_ (il rfl) rfl B2.all PyProof.Rows.boot_all (ae (bw (N':=["cell","column_sort"]) (src:=[none,some 1]) rfl (ba.jK (by kernel_rfl)) (fj (pv 0)) (λcl C s H fp=>(eA (i:=0))) (λcl C s H fp=>aX) (te:=(gE He (i4 fW [] E0 (bp (bx 0) fD)) (bx 1))) (λcl C s H fp=>(bU aP (ay (hg:=xA) ip hr (ae (i3 0) ah)) (yV 1)))) ah))))),?_⟩
 unfold cT at q
 refine⟨_,rfl,rfl,_,rfl,?_⟩
 rw [bL]
 refine cG (λk=>?_) (λk=>?_)
 ·rw [k,Bool.true_and]at q
  refine⟨_,rfl,l,rfl,⟨_,aZ.of hl⟩,λD hD=>?_⟩
  refine dJ (xs:=us) (λi σ ys H'=>(∃o,σ=[o,some (.str t)])/\ys=((us.take i).map λv=>decide (sW v=t)).map V.bl/\ys.length=i/\H' D=some (.lst ys)/\aM H H') ⟨⟨none,rfl⟩,rfl,rfl,ag,aj hD _⟩ ?_ ?_ ?_ ?_ ?_
  ·rintro i σ ys H' _ ⟨_,_,hi,h,_⟩
   exact⟨h,Nat.le_of_eq hi⟩
  ·rintro i σ ys H' _ ⟨_,_,_,_,sm⟩
   exact aZ.of (sm _ _ hl)
  ·exact UE hz (by decide)
  ·rintro i v σ ys H' hv ⟨⟨o,rfl⟩,rfl,hi,h,sm⟩
   refine⟨_,rfl,v,rfl,hc v (UP hv),_,rfl,rfl,h,⟨_,rfl⟩,?_,?_,ag,bq hD sm⟩
   ·rw [take_one hv,UK,UK,bL]; rfl
   ·rw [UJ,hi]; rfl
  ·rintro σ ys H' ⟨_,rfl,_,h,sm⟩
   rw [List.take_length]at h
   refine⟨D,_,rfl,aZ.of h,?_⟩
   have e:(us.all λv=>decide (sW v=t))=(us.map λv=>decide (sW v=t)).all id:=by rw [List.all_map]; rfl
   rw [←e]
   exact q H' sm
 ·rw [UY.mpr k]at q
  exact q H (aM.refl _)
def goodW:Wk->Prop
 | .one x=>Ho x
 | _=>True
def cQ(ss:List Str):Bool:=ss.all λs=>decide (s=ss.headD "")
def gp(t:Str):Str:=if t="t" then "n" else t
def bg:Wk->List Hd->Bool
 | .one (.keep c t),hs=>decide (t=gp (bt (hs.headD []) c))
 | .one (.same c d),hs=>alike (bt (hs.headD []) c) (bt (hs.headD []) d)
 | .one (.turn c ps),hs=>cT (ps.flatMap λp=>[p.1,p.2]) (bt (hs.headD []) c)
 | .one (.must c ps),hs=>cQ (ps.map λp=>sW p.2)&&cT (ps.map λp=>p.1) (bt (hs.headD []) c)
 | .one (.walk c mv),hs=>cT (mv.filter λv=>!decide (v=.non)) (bt (hs.headD []) c)
 | .one (.sum _ c),hs=>!decide (bt (hs.headD []) c="w")
 | .both ..,hs=>decide (hs.headD []=hs.getD 1 [])
 | .meet c d _ _,hs=>alike (bt (hs.headD []) c) (bt (hs.getD 1 []) d)
 | _,_=>true
def qz(k:Wk->Prop)(x:Wk)(hs:List Hd):Prop:=k x/\c9 x hs=true/\goodW x
theorem e9{c:Int}{h:Hd}(e:there c h=true):1<=c/\c<=h.length:=by
 unfold there at e
 simp only [Vc,decide_eq_true_eq]at e
 exact e
theorem cH{x:W1}{h:Hd}{c:Int}(e:c9 (.one x) [h]=true)(hc:c∈c8 x):1<=c/\c<=h.length:=e9 (List.all_eq_true.mp e c hc)
abbrev jy:Stmt:=top 23
theorem lq:az ["worker","heads","column_sort"] ["worker","heads"] (ar jy):=fs
theorem vj{n:Nat}{tk:Tok}(mT:mg "TALLY"=some (.str "t" tk))(F:FA K mg "keep_fits" jy) :
  bc bf P w K mg base 1 "keep_fits" ["worker","heads"] (dA n bg (qz λx=>∃c t,x=.one (.keep c t))):=by
 refine F.ok lq λf cdv A outer s H vs Q E hr h=>?_
 obtain⟨a,l,x,as,hs,rfl,ha,hL,hn,hsm,ho,q⟩:=h
 refine⟨_,(aq (aL (i:=2) lq.nd rfl (Or.inl rfl) (aA K (bj K (pv 1) ai) (aF bJ (aA K (pv 0) ai) ai)))
   (ax (bU aP (aA K (aA K (pv 0) ai) ai) (eM (aW aP (pv 2) (cS (v:=.str "t") rfl mT ⟨_,rfl⟩)) ao (pv 2))))),?_⟩
 obtain⟨⟨c,t,rfl⟩,hf,hg⟩:=ho
 obtain⟨hd,rfl⟩:=dg hn
 obtain⟨a0,e0,gu⟩:=hL.nth (i:=0) rfl
 obtain⟨st,xs,h1,h2⟩:=bW.mp ha
 have hc:=cH hf (c:=c) (by simp [c8])
 refine⟨_,rfl,l,_,0,_,rfl,rfl,aZ.of hL.lst,av (j:=0) e0,_,rfl,a,_,1,_,rfl,rfl,aH.of h1,rfl,_,_,rfl,rfl,a0,_,_,_,rfl,rfl,aH.of gu,dE hc,ak ?_⟩
 dsimp only
 refine⟨_,rfl,a,_,2,_,rfl,rfl,aH.of h1,rfl,st,_,0,_,rfl,rfl,aH.of h2,av (j:=0) rfl,_,rfl,rfl,_,rfl,?_⟩
 have q:=q H (aM.refl _)
 have q:Q (.bl (decide (t=gp (bt hd c)))) H:=q
 unfold gp at q
 rw [bL]
 refine cG (λk=>?_) (λk=>?_)
 ·rw [if_pos (Vd k),←bL]at q
  exact⟨rfl,q⟩
 ·rw [if_neg (λe=>k (UH e)),←bL]at q
  exact⟨_,rfl,rfl,q⟩
abbrev jF:Stmt:=top 24
theorem sE:az ["worker","heads"] ["worker","heads"] (ar jF):=fs
theorem uL{n:Nat}(F:FA K mg "same_fits" jF)
  (fE:bc bf P w K mg base 1 "are_same_sort" ["one","other"] rK) :
  bc bf P w K mg base 2 "same_fits" ["worker","heads"] (dA n bg (qz λx=>∃c d,x=.one (.same c d))):=by
 refine F.ok sE λf cdv A outer s H vs Q E hr h=>?_
 obtain⟨a,l,x,as,hs,rfl,ha,hL,hn,hsm,ho,q⟩:=h
 refine⟨_,(ax (ay fE hr (ae (aA K (bj K (pv 1) ai) (aF bJ (aA K (pv 0) ai) ai)) (ae (aA K (bj K (pv 1) ai) (aF bJ (aA K (pv 0) ai) ai)) ah)))),?_⟩
 obtain⟨⟨c,d,rfl⟩,hf,hg⟩:=ho
 obtain⟨hd,rfl⟩:=dg hn
 obtain⟨a0,e0,gu⟩:=hL.nth (i:=0) rfl
 have h1:H a=some (.tup [.str "same",.int c,.int d]):=bW.mp ha
 have hc:=cH hf (c:=c) (by simp [c8])
 have hc2:=cH hf (c:=d) (by simp [c8])
 refine⟨_,rfl,l,_,0,_,rfl,rfl,aZ.of hL.lst,av (j:=0) e0,_,rfl,a,_,1,_,rfl,rfl,aH.of h1,rfl,_,_,rfl,rfl,a0,_,_,_,rfl,rfl,aH.of gu,dE hc,?_⟩
 exact⟨_,rfl,l,_,0,_,rfl,rfl,aZ.of hL.lst,av (j:=0) e0,_,rfl,a,_,2,_,rfl,rfl,aH.of h1,rfl,_,_,rfl,rfl,a0,_,_,_,rfl,rfl,aH.of gu,dE hc2,_,_,rfl,q H (aM.refl _)⟩
abbrev ky:Stmt:=top 28
theorem uB:az ["worker","heads"] ["worker","heads"] (ar ky):=fs
theorem x9{n:Nat}(F:FA K mg "sum_fits" ky) :
  bc bf P w K mg base 1 "sum_fits" ["worker","heads"] (dA n bg (qz λx=>∃cs c,x=.one (.sum cs c))):=by
 refine F.ok uB λf cdv A outer s H vs Q E hr h=>?_
 obtain⟨a,l,x,as,hs,rfl,ha,hL,hn,hsm,ho,q⟩:=h
 refine⟨_,(ax (bU mn (aA K (bj K (pv 1) ai) (aF bJ (aA K (pv 0) ai) ai)) ao)),?_⟩
 obtain⟨⟨cs,c,rfl⟩,hf,hg⟩:=ho
 obtain⟨hd,rfl⟩:=dg hn
 obtain⟨a0,e0,gu⟩:=hL.nth (i:=0) rfl
 obtain⟨t,h1,h2⟩:=bW.mp ha
 have hc:=cH hf (c:=c) (by simp [c8])
 have q:=q H (aM.refl _)
 have q:Q (.bl (!decide (bt hd c="w"))) H:=q
 rw [←bL]at q
 exact⟨_,rfl,l,_,0,_,rfl,rfl,aZ.of hL.lst,av (j:=0) e0,_,rfl,a,_,2,_,rfl,rfl,aH.of h1,rfl,_,_,rfl,rfl,a0,_,_,_,rfl,rfl,aH.of gu,dE hc,rfl,q⟩
abbrev jr:Stmt:=top 30
theorem sj:az ["worker","heads"] ["worker","heads"] (ar jr):=fs
theorem uW{n:Nat}(F:FA K mg "meet_fits" jr)
  (fE:bc bf P w K mg base 1 "are_same_sort" ["one","other"] rK) :
  bc bf P w K mg base 2 "meet_fits" ["worker","heads"] (dA n bg (qz λx=>∃c d p q,x=.meet c d p q)):=by
 refine F.ok sj λf cdv A outer s H vs Q E hr h=>?_
 obtain⟨a,l,x,as,hs,rfl,ha,hL,hn,hsm,ho,q⟩:=h
 refine⟨_,(ax (ay fE hr (ae (aA K (bj K (pv 1) ai) (aF bJ (aA K (pv 0) ai) ai)) (ae (aA K (bj K (pv 1) ai) (aF bJ (aA K (pv 0) ai) ai)) ah)))),?_⟩
 obtain⟨⟨c,d,p1,p2,rfl⟩,hf,hg⟩:=ho
 obtain⟨h0,h2,rfl⟩:=dG hn
 obtain⟨a0,e0,gu⟩:=hL.nth (i:=0) rfl
 obtain⟨a1,e1,vk⟩:=hL.nth (i:=1) rfl
 cases n with
 | zero=>exact False.elim ha
 | succ n =>
 obtain⟨b,e,bs,es,h1,_⟩:=ha
 have hf:(there c h0&&there d h2)=true:=hf
 rw [Vc]at hf
 refine⟨_,rfl,l,_,0,_,rfl,rfl,aZ.of hL.lst,av (j:=0) e0,_,rfl,a,_,1,_,rfl,rfl,aH.of h1,rfl,_,_,rfl,rfl,a0,_,_,_,rfl,rfl,aH.of gu,dE (e9 hf.1),?_⟩
 exact⟨_,rfl,l,_,1,_,rfl,rfl,aZ.of hL.lst,av (j:=1) e1,_,rfl,a,_,2,_,rfl,rfl,aH.of h1,rfl,_,_,rfl,rfl,a1,_,_,_,rfl,rfl,aH.of vk,dE (e9 hf.2),_,_,rfl,q H (aM.refl _)⟩
theorem oz(s t:List Str):cN (.tup (s.map D.str)) (.tup (t.map D.str))=decide (s=t):=by
 have gen:∀s t:List Str,iw (s.map D.str) (t.map D.str)=decide (s=t):=by
  intro s
  induction s with
  | nil=>intro t; cases t <;> simp [iw]
  | cons x s ih =>
   intro t
   cases t with
   | nil=>simp [iw]
   | cons y t =>
    rw [List.map_cons,List.map_cons,iw,ih t]
    by_cases e1:x=y <;> by_cases e2:s=t <;> simp [cN,e1,e2]
 rw [cN,gen]
theorem yX{K:Ve}{H:Hp}{a:Addr}{h:Hd}(e:dX H a h):aY K H (.tup (h.map D.str)) (.ref a):=iU e (lJ h)
theorem kd(h:List Str):(D.tup (h.map D.str)).depth<=1:=by
 rw [D.depth]
 have:cw (h.map D.str)<=0:=by
  induction h with
  | nil=>rw [List.map_nil,cw]; exact UD _
  | cons x h ih=>rw [List.map_cons,cw]; exact Nat.max_le.mpr ⟨by simp [D.depth],ih⟩
 omega
abbrev jj:Stmt:=top 29
theorem sk:az ["worker","heads"] ["worker","heads"] (ar jj):=fs
theorem vF{n:Nat}(F:FA K mg "both_fits" jj) :
  bc bf P w K mg base 1 "both_fits" ["worker","heads"] (dA n bg (qz λx=>∃p q,x=.both p q)):=by
 refine F.ok sk λf cdv A outer s H vs Q E hr h=>?_
 have hu:=iW hr
 obtain⟨a,l,x,as,hs,rfl,ha,hL,hn,hsm,ho,q⟩:=h
 refine⟨_,(ax (bU I_ (bj K (pv 1) ai) (bj K (pv 1) ai))),?_⟩
 obtain⟨⟨p1,p2,rfl⟩,hf,hg⟩:=ho
 obtain⟨h0,h2,rfl⟩:=dG hn
 obtain⟨a0,e0,gu⟩:=hL.nth (i:=0) rfl
 obtain⟨a1,e1,vk⟩:=hL.nth (i:=1) rfl
 refine⟨_,rfl,l,_,0,_,rfl,rfl,aZ.of hL.lst,av (j:=0) e0,_,rfl,l,_,1,_,rfl,rfl,aZ.of hL.lst,av (j:=1) e1,_,_,yX gu,yX vk,?_,?_⟩
 ·exact UL (Nat.add_le_add_left (UE (kd h0) (by decide:1<=8)) _) hu
 ·rw [oz]
  exact q H (aM.refl _)
end My
namespace L2
open PySem
section
variable{g g2:TG}{tc tK:TT}{te:TE}{wi2:TI}{D:Addr}{Q:VK}{N:St->List V->Hp->Prop}{qd:St}{H0:Hp}{Nl:List V}{K:Ve}{a:Addr}{xs:List V}
theorem qQ(Pv:Nat->St->List V->Hp->Prop)(h0:Pv 0 qd [] H0)(hD:∀i σ ys H,i<=xs.length->Pv i σ ys H->H D=some (.lst ys))(hl:∀i σ ys H,i<=xs.length->Pv i σ ys H->aH K H a xs)
  (hs:∀i x σ ys H,xs[i]? = some x->Pv i σ ys H->g x σ H λdf H2=>tc df H2 λb H3=>if b=true then wi2 df H3 λJ2 H4=>∃W2:Nat->Nat->St->List V->Hp->Prop,(∃m,W2 0 m df ys H4)/\nU J2 g2 tK te D (Pv (i+1)) W2 else Pv (i+1) df ys H3)
  (hd:∀σ ys H,Pv xs.length σ ys H->Q (.ref D) H):∃W:Nat->Nat->St->List V->Hp->Prop,(∃m,W 0 m qd [] H0)/\tQ (Fw K a) g tc wi2 g2 tK te D Q W:=by
 refine⟨λi m σ ys H=>m=xs.length-i/\i<=xs.length/\Pv i σ ys H,⟨xs.length,by simp,U1 _,h0⟩,?_⟩
 rintro i m σ ys H ⟨rfl,hi,p⟩
 have q:=hl i σ ys H hi p
 refine⟨hD i σ ys H hi p,?_⟩
 by_cases hlt:i<xs.length
 ·refine .inr ⟨⟨xs,xs[i],q,by simp [hlt]⟩,Pv (i+1),λσ' ys' H' p'=>⟨xs.length-(i+1),by omega,rfl,hlt,p'⟩,λx H' y=>?_⟩
  obtain⟨e,y⟩:=y
  subst e
  exact hs i x σ ys _ (y xs q) p
 ·have e:i=xs.length:=by omega
  subst e
  exact .inl ⟨⟨xs,q,UD _⟩,hd σ ys H p⟩
theorem lQ(Pv:Nat->St->List V->Hp->Prop)(h0:Pv 0 qd Nl H0)(hD:∀i σ ys H,i<=xs.length->Pv i σ ys H->H D=some (.lst ys)/\(i<xs.length->ys.length<sizeLine))(hl:∀i σ ys H,i<=xs.length->Pv i σ ys H->aH K H a xs)
  (hs:∀i x σ ys H,xs[i]? = some x->Pv i σ ys H->g x σ H λdf H2=>tc df H2 λb H3=>if b=true then te df H3 λv H4=>H4 D=some (.lst ys)/\Pv (i+1) df (ys++[v]) (upd H4 D (.lst (ys++[v])))else Pv (i+1) df ys H3)
  (hd:∀σ ys H,Pv xs.length σ ys H->N σ ys H):∃W:Nat->Nat->St->List V->Hp->Prop,(∃m,W 0 m qd Nl H0)/\nU (Fw K a) g tc te D N W:=by
 refine⟨λi m σ ys H=>m=xs.length-i/\i<=xs.length/\Pv i σ ys H,⟨xs.length,by simp,U1 _,h0⟩,?_⟩
 rintro i m σ ys H ⟨rfl,hi,p⟩
 have q:=hl i σ ys H hi p
 refine⟨(hD i σ ys H hi p).1,?_⟩
 by_cases hlt:i<xs.length
 ·refine .inr ⟨⟨xs,xs[i],q,by simp [hlt]⟩,(hD i σ ys H hi p).2 hlt,Pv (i+1),λσ' ys' H' p'=>⟨xs.length-(i+1),by omega,rfl,hlt,p'⟩,λx H' y=>?_⟩
  obtain⟨e,y⟩:=y
  subst e
  exact hs i x σ ys _ (y xs q) p
 ·have e:i=xs.length:=by omega
  subst e
  exact .inl ⟨⟨xs,q,UD _⟩,hd σ ys H p⟩
end
end L2
namespace My
open PySem L2
abbrev jk:Stmt:=top 25
theorem sG:az ["worker","heads"] ["worker","heads"] (ar jk):=fs
variable{P:Program}{w:World}{K:Ve}{mg:Str->Option Value}{base:Heap}
theorem uA{n:Nat}(F:FA K mg "turn_fits" jk)
  (fv:bc bf P w K mg base 2 "cells_fit" ["cells","column_sort"] iG) :
  bc bf P w K mg base 3 "turn_fits" ["worker","heads"] (dA n bg (qz λx=>∃c ps,x=.one (.turn c ps))):=by
 refine F.ok sG λf cdv A outer s H vs Q E hr h=>?_
 have hu:=iW hr
 obtain⟨a,l,x,as,hs,rfl,ha,hL,hn,hsm,ho,q⟩:=h
 refine⟨_,(ax (ay fv hr (ae (qU (N':=["pair","cell"]) (src:=[none,none]) rfl (ba.jK (by kernel_rfl)) (cM (aA K (pv 0) ai)) (λcl C s H fp=>(eA (i:=0))) (λcl C s H fp=>aX) (wi2:=(Fs K (bx 0))) (λcl C s H fp=>(cM (i3 0))) (λcl C s H fp=>(eA (i:=1))) (λcl C s H fp=>aX) (te:=(bx 1)) (λcl C s H fp=>(i3 1))) (ae (aA K (bj K (pv 1) ai) (aF bJ (aA K (pv 0) ai) ai)) ah)))),?_⟩
 obtain⟨⟨c,ps,rfl⟩,hf,hg⟩:=ho
 obtain⟨hd,rfl⟩:=dg hn
 obtain⟨a0,e0,gu⟩:=hL.nth (i:=0) rfl
 obtain⟨t,bs,h1,hI⟩:=bW.mp ha
 have hc:=cH hf (c:=c) (by simp [c8])
 have hz:ps.length<=1000:=hsm
 have hg:∀p∈ps,dN p.1/\dN p.2:=hg
 have hlb:(bs.map V.ref).length=ps.length:=by rw [UI,hI.len]
 refine⟨_,rfl,a,_,2,_,rfl,rfl,aH.of h1,rfl,t,rfl,⟨_,aH.of hI.tup⟩,λD hD=>?_⟩
 refine qQ (xs:=bs.map V.ref) (λi σ ys H'=>(∃o1 o2,σ=[o1,o2])/\ys=(ps.take i).flatMap (λp=>[p.1,p.2])/\ys.length=2*i/\H' D=some (.lst ys)/\aM H H') ⟨⟨none,none,rfl⟩,rfl,rfl,ag,aj hD _⟩ ?_ ?_ ?_ ?_
 ·rintro i σ ys H' _ ⟨_,_,_,h,_⟩
  exact h
 ·rintro i σ ys H' _ ⟨_,_,_,_,sm⟩
  exact aH.of (sm _ _ hI.tup)
 ·rintro i v σ ys H' hv ⟨⟨o1,o2,rfl⟩,rfl,hi,h,sm⟩
  obtain⟨b,p,rfl,ep,hb⟩:=hI.get hv
  have hib:i<1000:=by have:=(UT.mp ep).1; omega
  refine ak ⟨_,rfl,b,rfl,⟨_,aH.of (sm _ _ hb)⟩,?_⟩
  refine lQ (xs:=[p.1,p.2]) (λj σ zs H2=>(∃o,σ=[some (.ref b),o])/\zs=(ps.take i).flatMap (λp=>[p.1,p.2])++[p.1,p.2].take j/\zs.length=2*i+j/\H2 D=some (.lst zs)/\aM H H2) ⟨⟨o2,rfl⟩,by rw [List.take_zero,List.append_nil],hi,h,sm⟩ ?_ ?_ ?_ ?_
  ·rintro j σ zs H2 hj ⟨_,_,Mo,h2,_⟩
   refine⟨h2,λ_=>?_⟩
   rw [Mo]
   exact UL (show 2*i+j<=3000 by have:j<=2:=hj; omega) (by decide)
  ·rintro j σ zs H2 _ ⟨_,_,_,_,s2⟩
   exact aH.of (s2 _ _ hb)
  ·rintro j u σ zs H2 hu' ⟨⟨o,rfl⟩,rfl,Mo,h2,s2⟩
   refine ak ⟨_,rfl,h2,⟨_,rfl⟩,?_,?_,ag,bq hD s2⟩
   ·rw [take_one hu',List.append_assoc]
   ·rw [UJ,Mo]; rfl
  ·rintro σ zs H2 ⟨⟨o,rfl⟩,rfl,Mo,h2,s2⟩
   refine⟨⟨_,_,rfl⟩,?_,by rw [Mo]; show 2*i+2=_; omega,h2,s2⟩
   rw [take_one ep,List.flatMap_append]
   rfl
 ·rintro σ ys H1 ⟨_,rfl,hyl,h,sm⟩
  rw [hlb,List.take_length]at h hyl
  refine⟨_,rfl,l,_,0,_,rfl,rfl,aZ.of (sm _ _ hL.lst),av (j:=0) e0,_,rfl,a,_,1,_,rfl,rfl,aH.of (sm _ _ h1),rfl,_,_,rfl,rfl,a0,_,_,_,rfl,rfl,aH.of (sm _ _ gu),dE hc,?_⟩
  refine⟨D,_,_,rfl,h,by omega,λv hv=>?_,λH' s'=>q H' (sm.trans s')⟩
  obtain⟨p,hp,hv⟩:=List.mem_flatMap.mp hv
  simp only [UX,List.not_mem_nil,or_false]at hv
  rcases hv with rfl | rfl
  ·exact(hg p hp).1
  ·exact(hg p hp).2
abbrev jA:Stmt:=top 27
theorem lh:az ["worker","heads","cells"] ["worker","heads"] (ar jA):=fs
theorem vd{n:Nat}(F:FA K mg "walk_fits" jA)
  (fv:bc bf P w K mg base 2 "cells_fit" ["cells","column_sort"] iG) :
  bc bf P w K mg base 3 "walk_fits" ["worker","heads"] (dA n bg (qz λx=>∃c mv,x=.one (.walk c mv))):=by
 refine F.ok lh λf cdv A outer s H vs Q E hr h=>?_
 obtain⟨a,l,x,as,hs,rfl,ha,hL,hn,hsm,ho,q⟩:=h
 refine⟨_,(aq (kl (i:=2) (N':=["state","cell","after"]) (src:=[none,none,none]) lh.nd rfl (Or.inl rfl) rfl rfl (ba.jK (by kernel_rfl)) (cM (aA K (pv 0) ai)) (g:=(iO K 3 (bO (bz 0) (bO (bz 1) (bO (bz 2) iX))))) (λcl C s H fp=>(cC rfl (aD (eA (i:=0)) (aD (eA (i:=1)) (aD (eA (i:=2)) bS))))) (tc:=(rC (gE (λx y H Q=>y=.non/\Q (.bl (!decide (x=.non))) H) (bx 1) (tC .non)))) (λcl C s H fp=>nZ (aW tq (i3 1) iQ)) (te:=(bx 1)) (λcl C s H fp=>(i3 1)))
   (ax (ay fv hr (ae (pv 2) (ae (aA K (bj K (pv 1) ai) (aF bJ (aA K (pv 0) ai) ai)) ah))))),?_⟩
 obtain⟨⟨c,mv,rfl⟩,hf,hg⟩:=ho
 obtain⟨hd,rfl⟩:=dg hn
 obtain⟨a0,e0,gu⟩:=hL.nth (i:=0) rfl
 obtain⟨st,t,bs,h1,hI⟩:=bW.mp ha
 have hc:=cH hf (c:=c) (by simp [c8])
 have hz:mv.length<=1000:=hsm
 have hg:∀v∈mv,v=.non\/dN v:=hg
 have hlb:(bs.map V.ref).length=mv.length:=by rw [UI,hI.len]
 refine⟨_,rfl,a,_,3,_,rfl,rfl,aH.of h1,rfl,t,rfl,⟨_,aH.of hI.tup⟩,λD hD=>?_⟩
 refine cF (xs:=bs.map V.ref) (λi σ ys H'=>(∃o1 o2 o3,σ=[o1,o2,o3])/\ys=(mv.take i).filter (λv=>!decide (v=.non))/\ys.length<=i/\H' D=some (.lst ys)/\aM H H') ⟨⟨none,none,none,rfl⟩,rfl,UD _,ag,aj hD _⟩ ?_ ?_ ?_ ?_ ?_
 ·rintro i σ ys H' _ ⟨_,_,hi,h,_⟩
  exact⟨h,hi⟩
 ·rintro i σ ys H' _ ⟨_,_,_,_,sm⟩
  exact aH.of (sm _ _ hI.tup)
 ·rw [hlb]; exact UE hz (by decide)
 ·rintro i v σ ys H' hv ⟨⟨o1,o2,o3,rfl⟩,rfl,hi,h,sm⟩
  obtain⟨b,u,rfl,eu,s1,t1,hb⟩:=hI.get hv
  refine⟨b,_,rfl,aH.of (sm _ _ hb),rfl,_,_,rfl,ak ⟨_,_,rfl,ak ⟨_,_,rfl,ak ⟨rfl,?_⟩⟩⟩⟩
  refine⟨_,rfl,rfl,_,rfl,?_⟩
  refine cG (λk=>?_) (λk=>?_)
  ·refine⟨_,rfl,h,⟨_,_,_,rfl⟩,?_,by rw [UJ]; simp only [List.length_singleton]; omega,ag,bq hD sm⟩
   rw [take_one eu,List.filter_append,List.filter_cons,if_pos k]
   rfl
  ·refine⟨⟨_,_,_,rfl⟩,?_,by omega,h,sm⟩
   rw [take_one eu,List.filter_append,List.filter_cons,if_neg k]
   simp
 ·rintro σ ys H1 ⟨_,rfl,hyl,h,sm⟩
  rw [hlb,List.take_length]at h hyl
  refine ak ?_
  dsimp only
  refine⟨_,rfl,_,rfl,l,_,0,_,rfl,rfl,aZ.of (sm _ _ hL.lst),av (j:=0) e0,_,rfl,a,_,1,_,rfl,rfl,aH.of (sm _ _ h1),rfl,_,_,rfl,rfl,a0,_,_,_,rfl,rfl,aH.of (sm _ _ gu),dE hc,?_⟩
  refine⟨D,_,_,rfl,h,by omega,λv hv=>?_,λH' s'=>q H' (sm.trans s')⟩
  obtain⟨hm,hk⟩:=List.mem_filter.mp hv
  rcases hg v hm with rfl | z
  ·simp at hk
  ·exact z
end My
namespace L2
open PySem PySem.Spec PyProof.Rows
open Classical in
noncomputable def ll (ks:List Key) (k:Key):Bool:=decide (k∈ks)
open Classical in
theorem gb{ks:List Key}{k:Key}:ll ks k=true↔k∈ks:=by
 unfold ll
 exact decide_eq_true_iff
noncomputable def fH (ks:List Key) (k:Key):List Key:=if ll ks k=true then ks else ks++[k]
theorem BM(ks:List Key)(k k':Key):ll (fH ks k) k'=(ll ks k'||decide (k'=k)):=by
 rw [Bool.eq_iff_iff,Bool.or_eq_true,decide_eq_true_eq,gb,gb]
 unfold fH
 by_cases h:ll ks k=true
 ·rw [if_pos h]
  exact⟨.inl,λz=>z.elim id λe=>by rw [e]; exact gb.mp h⟩
 ·rw [if_neg h,UZ,UU]
def wj(J:It)(g:TG)(te:TE)(Q:VK)(W:Nat->Nat->St->List Key->Hp->Prop):Prop :=
 ∀i m σ ks H,W i m σ ks H->ks.length+1<scanBound/\((J.stop i H/\Q (.int (ks.length:Nat)) H)\/(J.go i H/\∃N:St->List Key->Hp->Prop,(∀σ' ks' H',N σ' ks' H'->∃m',m'<m/\W (i+1) m' σ' ks' H')/\
  ∀x H',J.FV i H x H'->g x σ H' λdf H2=>te df H2 λv H3=>∃k,v=kV k/\N df (fH ks k) H3))
def FR(src:List (Option Nat))(wi:TI)(g:TG)(te:TE):TE:=λσ H Q=>wi σ H λJ H1=>∃W:Nat->Nat->St->List Key->Hp->Prop,(∃m,W 0 m (jO src σ) [] H1)/\wj J g te Q W
section
variable{prog:Program}{w:World}{A:Around}{s:Shared}{R:Result->Shared->Prop}{elt target iter:Expr}{sc:Scope}{pos:Pos}{it acc:Value}{env:Env}
theorem zE:compTurn (.SetComp elt [⟨target,iter,[],0⟩] sc pos) 0 it acc env=(standAt iter.pos >>= λ_=>pyNext it >>= λr=>match r with
   | none=>pure (.done .next)
   | some v=>letOwnedTupleGo target it v >>= λ_=>assign target env v >>= λ_=>(eval elt env >>= λx=>standAt elt.pos >>= λ_=>call (.builtin "set.add") [acc,x] >>= λ_=>pure ()) >>= λ_=>again (.compLoop (.SetComp elt [⟨target,iter,[],0⟩] sc pos) 0 it acc env)):=by rfl
theorem yh(h0:codeAny (model prog w) A (.compLoop (.SetComp elt [⟨target,iter,[],0⟩] sc pos) 0 it acc env) R s)
  (h:wpAny (model prog w) A (pyIter it) (λit' s'=>codeAny (model prog w) A (.compLoop (.SetComp elt [⟨target,iter,[],0⟩] sc pos) 0 it' acc env) R s') (notedBy (model prog w) A env λx s'=>R (.error x) s') s) :
  codeAny (model prog w) A (.compStart (.SetComp elt [⟨target,iter,[],0⟩] sc pos) 0 it acc env) R s:=by
 refine codeAny_of_tree (show wpAny _ _ ((compStart (.SetComp elt [⟨target,iter,[],0⟩] sc pos) 0 it acc env).onRaise (λx=>do noteFrame x env; standAt theWindowsPlace)) _ _ s from wpAny_notedAt ?_)
 unfold compStart
 refine show wpAny _ _ (ask >>= _) _ _ s from Uy (wpAny_askSetting (wpAny_ite ?_))
 split
 ·first | exact Uy (Uz (Uz ⟨rfl,h0⟩)) | exact Uz ⟨rfl,h0⟩
 ·refine Uy (wpAny_rule (show wpAny _ _ (standAt iter.pos >>= _) _ _ s from ?_))
  exact Uy (wpAny_standAt (Uy (b_ h λit' s' h'=>Uz ⟨rfl,h'⟩)))
theorem zk(Iv:Nat->Shared->Prop)
  (turn:∀n s,Iv n s->wpAny (model prog w) A (pyNext it) (λr s₁=>match r with
   | none=>R (.ok .next) s₁
   | some v=>wpAny (model prog w) A (letOwnedTupleGo target it v) (λ_ s₁'=>wpAny (model prog w) A (assign target env v) (λ_ s₂=>wpAny (model prog w) A (eval elt env) (λx s₄ =>
       wpAny (model prog w) A (call (.builtin "set.add") [acc,x]) (λ_ s₅=>∃m,m<n/\Iv m s₅) (λ_ _=>False) s₄) (λ_ _=>False) s₂) (λ_ _=>False) s₁') (λ_ _=>False) s₁) (λ_ _=>False) s)
  (n:Nat) (h:Iv n s):codeAny (model prog w) A (.compLoop (.SetComp elt [⟨target,iter,[],0⟩] sc pos) 0 it acc env) R s:=by
 refine codeAny_loop rfl Iv (λn s hI=>?_) n h
 show wpAny _ A ((compTurn (.SetComp elt [⟨target,iter,[],0⟩] sc pos) 0 it acc env).onRaise (λx=>do noteFrame x env; theTreesLotGoes x)) _ _ s
 refine wpAny_noted ?_
 rw [zE]
 refine Uy (wpAny_standAt (Uy (U8 (turn n s hI) (λr s₁ h₁=>?_) λ_ _ h'=>h'.elim)))
 cases r with
 | none=>exact Uz h₁
 | some v =>
  refine Uy (U8 h₁ (λ_ s₁' h₁'=>Uy (U8 h₁' (λ_ s₂ h₂=>?_) λ_ _ h'=>h'.elim)) λ_ _ h'=>h'.elim)
  exact Uy (Uy (U8 h₂ (λx s₄ h₄=>Uy (wpAny_standAt (Uy (U8 h₄ (λ_ s₅ h₅=>Uz (Uz ⟨rfl,h₅⟩)) λ_ _ h'=>h'.elim)))) λ_ _ h'=>h'.elim))
end
theorem HN{k:Key}{u:Value}(r:RelV (kV k) u):fO k u=true/\u.scannable=true:=by
 cases k with
 | inl i=>obtain⟨t,rfl⟩:=r; exact⟨ma _ _,rfl⟩
 | inr x=>obtain⟨t,rfl⟩:=r; exact⟨lY _ _,rfl⟩
section
variable{X:Cx}{elt target iter:Expr}{sc:Scope}{pos:Pos}{wi:TI}{g:TG}{te:TE}{N':List Str}{src:List (Option Nat)}
abbrev uc(h:Heap)(prog:Program)(w:World)(S:Addr)(ks:List Key):Prop:=h.SetOf (bD prog w) S (λk=>ll ks k) ks.length
theorem BF{h:Heap}{prog:Program}{w:World}{S:Addr}{ks:List Key}(x:uc h prog w S ks):∃o,h.get? S=some o/\∀v,o.data≠ .cell v:=by
 obtain⟨o,es,ep,t,ho,_,hd,_⟩:=x
 exact⟨o,ho,λv z=>by rw [hd]at z; cases z⟩
theorem jL{h h':Heap}{prog:Program}{w:World}{S:Addr}{ks:List Key}(x:uc h prog w S ks)(k:∀o,h.get? S=some o->h'.get? S=some o):uc h' prog w S ks:=by
 obtain⟨o,es,ep,t,ho,z⟩:=x
 exact⟨o,es,ep,t,k _ ho,z⟩
theorem w6{pins:List (Addr×Obj)}{σ:St}{H2:Hp}{s2:Shared}{it:Addr}{fp:List Addr}{tn:Nat->Heap->Prop}{J:It}{Q:VK}{E:Value->Shared->Prop}{RR:Value->Addr->Result->Shared->Prop}
  (hc:X.calm=true) (S:ba X.env.scope X.N N' src sc)
  (hg:∀cl C s H fp,PG (aK X N' sc cl C s H fp) target g) (he:∀cl C s H fp,PE (aK X N' sc cl C s H fp) elt te)
  (I2:Inv X pins σ H2 s2) (T:Turn X.prog X.w X.K target J fp it tn) (st2:tn 0 s2.heap) (f2:∀b∈fp,dC X pins H2 b)
  (hW:∃W:Nat->Nat->St->List Key->Hp->Prop,(∃m,W 0 m (jO src σ) [] H2)/\wj J g te Q W)
  (hRR:∀D C s5 H' m ks,Inv X pins σ H' s5->s5.heap.Ns C m->dC X pins H' C->C≠D->uc s5.heap X.prog X.w D ks->Q (.int (ks.length:Nat)) H'->RR (.ref D) C (.ok .next) s5) :
  wpAny (model X.prog X.w) X.A (newSet (.type "set")) (λacc s₃=>wpAny (model X.prog X.w) X.A (newFunctionEnv sc X.env.globals (bM X.env.cells sc.names []) [] X.env.qual none .none (some X.env)) (λcenv s₄ =>
   codeAny (model X.prog X.w) X.A (.compStart (.SetComp elt [⟨target,iter,[],0⟩] sc pos) 0 (.ref it) acc {cenv with scope:=relabel sc X.env}) (RR acc cenv.locals) s₄) E s₃) E s2:=by
 have o2:∀b∈fp,b<s2.heap.objs.size:=λb hb=>by
  obtain⟨o,e,_⟩:=T.obj 0 _ st2 b hb
  exact UB e
 refine wpAny_newSet_of (knd:=bD X.prog X.w) λled hS=>?_
 have JE:H2 s2.heap.objs.size=none:=I2.hok.fresh (UD _)
 obtain⟨W,⟨m0,w0⟩,turn⟩:=hW
 have Hm:∀b o,s2.heap.get? b=some o->(s2.heap.push {cls:=.type "set",dict:=none,data:=.set #[] 0 (.fresh 0 0 led)}).get? b=some o:=λb o e=>UA _ e
 have I3:Inv X pins σ H2 {s2 with heap:=s2.heap.push {cls:=.type "set",dict:=none,data:=.set #[] 0 (.fresh 0 0 led)}}:=I2.kept (t':=s2.toks) Hm
 have fS:dC X pins H2 s2.heap.objs.size:=I2.l5 (UD _) JE
 have st3:tn 0 (s2.heap.push {cls:=.type "set",dict:=none,data:=.set #[] 0 (.fresh 0 0 led)}):=T.keep 0 _ _ st2 λb hb o e=>Hm b o e
 generalize hs3:({s2 with heap:=s2.heap.push {cls:=.type "set",dict:=none,data:=.set #[] 0 (.fresh 0 0 led)}}:Shared)=s3 at I3
 have hh3:s3.heap=s2.heap.push {cls:=.type "set",dict:=none,data:=.set #[] 0 (.fresh 0 0 led)}:=by rw [←hs3]
 have Er:s2.heap.objs.size<s3.heap.objs.size:=by rw [hh3,Heap.size_push]; exact Nat.lt_succ_self _
 generalize Ut:s2.heap.objs.size=Sa at *
 have o3:∀b∈Sa::fp,b<s3.heap.objs.size:=λb hb=>by
  rcases UX.mp hb with rfl | hb
  ·exact Er
  ·exact Nat.lt_trans (o2 b hb) Er
 have nS:∀b∈fp,b≠Sa:=λb hb=>U0 (o2 b hb)
 have f3:∀b∈Sa::fp,dC X pins H2 b:=λb hb=>by
  rcases UX.mp hb with rfl | hb
  ·exact fS
  ·exact f2 b hb
 rw [←hh3]at st3 hS
 refine wpAny_newFunctionEnv S.oA (by intro y hy; simp at hy) (λh1 hns hsb=>?_) S.kind
 have hsb':Heap.SameBut s3.heap.objs.size (s3.heap.push {cls:=.type "dict",data:=.dict #[]}) h1:=hsb
 have I4:Inv (aK X N' sc (bM X.env.cells sc.names []) s3.heap.objs.size s3 H2 (Sa::fp)) [] (jO src σ) H2 {s3 with heap:=h1,toks:=s3.toks+([]:List (Str×Value)).length} :=
  iR S I3 f3 o3 hns hsb'
 have k4:∀b o,b<s3.heap.objs.size->s3.heap.get? b=some o->h1.get? b=some o:=λb o hb e=>(hsb'.2 b (U0 hb)).trans (UA _ e)
 have Bs:tn 0 h1:=T.keep 0 _ _ st3 λb hb o e=>k4 b o (o3 b (UQ _ hb)) e
 have e0:(λk:Key=>ll [] k) = λ_=>false:=by
  funext k
  exact UY.mpr λz=>by cases gb.mp z
 have SI:uc s3.heap X.prog X.w Sa []:=by
  show Heap.SetOf _ _ _ (λk=>ll [] k) _
  rw [e0]
  exact hS
 have SH:uc h1 X.prog X.w Sa []:=jL SI λo e=>k4 _ o Er e
 have fC:∀(H':Hp),H' s3.heap.objs.size=none->dC X pins H' s3.heap.objs.size:=λH' hn=>I3.l5 (UD _) hn
 generalize hY:aK X N' sc (bM X.env.cells sc.names []) s3.heap.objs.size s3 H2 (Sa::fp)=Y at I4
 have Nz:Y.prog=X.prog:=by rw [←hY]
 have Na:Y.w=X.w:=by rw [←hY]
 have QE:Y.K=X.K:=by rw [←hY]
 have Qw:Y.calm=X.calm:=by rw [←hY]
 have NL:Y.A=X.A:=by rw [←hY]
 have PY:Y.env=compEnvC sc (bM X.env.cells sc.names []) s3.heap.objs.size X.env:=by rw [←hY]
 have Nh:Y.ex=Sa::fp:=by rw [←hY]
 have P_:Y.xe = λ_ _=>False:=by rw [←hY]
 have TF:Y.pn=[]:=by rw [←hY]
 have PL:PG Y target g:=by rw [←hY]; exact hg _ _ _ _ _
 have OT:PE Y elt te:=by rw [←hY]; exact he _ _ _ _ _
 have stat:∀{pl:List (Addr×Obj)} {H':Hp} {b:Addr},H' b=none->b∈Sa::fp->(∀p∈pl,p.1≠b)->dC Y pl H' b:=λ{pl H' b} hn hb hp =>
  ⟨hn,(I4.ok.zw b (by rw [Nh]; exact hb)).1,I4.ok.pH b (by rw [Nh]; exact hb),.inl (by rw [Nh]; exact hb),(I4.ok.zw b (by rw [Nh]; exact hb)).2,λp h=>hp p (by rw [TF]at h; exact h)⟩
 have LI:∀{σ':St} {H':Hp} {s':Shared} {pl:List (Addr×Obj)} {o:Obj},Inv Y pl σ' H' s'->s'.heap.get? Sa=some o->(∀v,o.data≠ .cell v)->H' Sa=none->Inv Y [(Sa,o)] σ' H' s':=λ{σ' H' s' pl o} J e d hn =>
  J.iK λp hp=>by
   have:p=(Sa,o):=by simpa using hp
   subst this
   exact⟨e,hn,(stat (pl:=[]) hn Va λ_ z=>nomatch z).2.1,(stat (pl:=[]) hn Va λ_ z=>nomatch z).2.2.1,d⟩
 have loop:codeAny (model X.prog X.w) X.A (.compLoop (.SetComp elt [⟨target,iter,[],0⟩] sc pos) 0 (.ref it) (.ref Sa) (compEnvC sc (bM X.env.cells sc.names []) s3.heap.objs.size X.env))
   (RR (.ref Sa) s3.heap.objs.size) {s3 with heap:=h1,toks:=s3.toks+([]:List (Str×Value)).length}:=by
  refine zk (λn s'=>∃i σ' ks H',Inv Y [] σ' H' s'/\tn i s'.heap/\(∀b∈Sa::fp,H' b=none)/\uc s'.heap X.prog X.w Sa ks/\W i n σ' ks H') ?_ m0
   ⟨0,_,[],_,I4,Bs,λb hb=>(f3 b hb).1,SH,w0⟩
  rintro n s5 ⟨i,nj,ks,H5,I5,uj,v8,OG,w5⟩
  obtain⟨hroom,alt⟩:=turn i n nj ks H5 w5
  obtain⟨oS,eS,dS⟩:=BF OG
  have QG:=LI I5 eS dS (v8 _ Va)
  have Dg:∀{H':Hp},(∀b∈fp,H' b=none)->∀b∈fp,dC Y [(Sa,oS)] H' b:=λhn b hb=>stat (hn b hb) (UQ _ hb) λp hp=>by
   have:p=(Sa,oS):=by simpa using hp
   subst this
   exact(nS b hb).symm
  have Q_:∀b∈fp,H5 b=none:=λb hb=>v8 b (UQ _ hb)
  rcases alt with⟨stop,qn⟩ | ⟨go,N,hN,step⟩
  ·have:=T.done Y Nz Na QE (by rw [Qw]; exact hc) i [(Sa,oS)] s5 nj H5 (λ_ _=>False) QG (Dg Q_) uj stop
   rw [NL]at this
   refine b_ this λr s6 ⟨hr,I6⟩=>?_
   subst hr
   have Tz:uc s6.heap X.prog X.w Sa ks:=jL OG λo e=>by
    rw [eS]at e; cases e
    exact(I6.pin (Sa,oS) (UO _ (.head _))).1
   subst hY
   obtain⟨m6,n6,_⟩:=id I6.loc
   exact hRR _ _ s6 H5 m6 ks (I3.call' I6.os I6.base I6.hok I6.bare λb hb=>⟨(f3 b hb).2.2.2.1,(f3 b hb).2.1,(f3 b hb).2.2.2.2.1,(f3 b hb).2.2.2.2.2⟩) n6 (fC _ I6.free) (Nat.ne_of_gt Er) Tz qn
  ·have:=T.item Y Nz Na QE (by rw [Qw]; exact hc) i [(Sa,oS)] s5 nj H5 (λ_ _=>False) QG (Dg Q_) uj go
   rw [NL]at this
   refine b_ this λr s6 ⟨u,hr,h6⟩=>?_
   subst hr
   refine b_ h6 λ_ s7 ⟨x,H7,I7,r7,y7,sY,ER⟩=>?_
   have GF:=I7.pinned (Dg ER) (T.obj _ _ sY)
   have Qi:=PL _ s7 nj H7 x u _ GF r7 (step x H7 y7)
   rw [Nz,Na,NL,PY,P_]at Qi
   refine b_ Qi λ_ s8 ⟨ug,H8,I8,q8⟩=>?_
   have P4:=OT _ s8 ug H8 _ I8 q8
   rw [Nz,Na,NL,PY,P_]at P4
   refine b_ P4 λxv s9 ⟨v,H9,I9,r9,k,ek,w9⟩=>?_
   subst ek
   obtain⟨hk1,hk2⟩:=HN r9
   have pS:=I9.pin (Sa,oS) (UO _ (List.mem_append_left _ (.head _)))
   have Sl:uc s9.heap X.prog X.w Sa ks:=jL OG λo e=>by
    rw [eS]at e; cases e
    exact pS.1
   refine call_set_add (knd:=bD X.prog X.w) (k:=k) hk1 hk2 Sl hroom λh' hsb hS'=>?_
   obtain⟨m',hm,w'⟩:=hN _ _ _ w9
   have Hq:∀b∈fp,∀o,s7.heap.get? b=some o->s9.heap.get? b=some o/\H9 b=none:=λb hb o e=>by
    have:=I9.pin (b,o) (UO _ (UO _ (cK hb e)))
    exact⟨this.1,this.2.1⟩
   have SE:Inv Y [] ug H9 s9:=I9.iK λp hp=>nomatch hp
   have LY:=stat (pl:=[]) (H':=H9) (b:=Sa) pS.2.1 Va λ_ z=>nomatch z
   refine⟨m',hm,i+1,ug,fH ks k,H9,SE.turned (t':=s9.toks+1) (λb o hb e=>(hsb.2 b hb).trans e) LY.1 LY.2.1 LY.2.2.2.1 LY.2.2.2.2.1 LY.2.2.2.2.2,T.keep _ _ _ sY λb hb o e=>(hsb.2 b (nS b hb)).trans (Hq b hb o e).1,λb hb=>?_,?_,w'⟩
   ·rcases UX.mp hb with rfl | hb
    ·exact pS.2.1
    ·obtain⟨o,e,_⟩:=T.obj _ _ sY b hb
     exact(Hq b hb o e).2
   ·have e1:(λk'=>ll ks k'||decide (k'=k)) = λk'=>ll (fH ks k) k':=by
     funext k'
     exact(BM ks k k').symm
    have e2:(if ll ks k=true then ks.length else ks.length+1)=(fH ks k).length:=by
     unfold fH
     by_cases h:ll ks k=true
     ·rw [if_pos h,if_pos h]
     ·rw [if_neg h,if_neg h,UJ]; rfl
    show h'.SetOf (bD X.prog X.w) Sa (λk'=>ll (fH ks k) k') (fH ks k).length
    rw [←e1,←e2]
    exact hS'
 exact yh loop (T.self _ 0 _ _ _ Bs loop)
theorem x8{np lp:Pos}(hc:X.calm=true)(RK:Gl X "len")(PX:X.mg "len"=none)(S:ba X.env.scope X.N N' src sc)(hi:PI X target iter wi)
  (hg:∀cl C s H fp,PG (aK X N' sc cl C s H fp) target g) (he:∀cl C s H fp,PE (aK X N' sc cl C s H fp) elt te)
  (hs:∀x,foldedSetIterable iter X.env x=pure x:=by intro _; rfl) (hs1:starEach [Expr.SetComp elt [⟨target,iter,[],0⟩] sc pos] X.env=[(false,eval (.SetComp elt [⟨target,iter,[],0⟩] sc pos) X.env)]:=by rfl) :
  PE X (.Call (.Name "len" np) [.SetComp elt [⟨target,iter,[],0⟩] sc pos] [] lp) (FR src wi g te):=by
 intro pins s σ H Q I h
 refine wpAny_Call_Name_kw (iM I RK PX PySem.boot_len ?_ (by decide) (by decide))
 refine PyProof.Rows.callWith_builtin1 ?_ hs1 rfl
 rw [hs1]
 refine Calls.spliced_cons ?_
 rw [arm_eval_SetComp]
 refine wpAny_comprehension_free (use:=none) (e:=.SetComp elt [⟨target,iter,[],0⟩] sc pos) (g:=⟨target,iter,[],0⟩) (gs:=[]) rfl hs (cV λy hy hk=>I.ok.has y.1 (S.free y hy hk)) S.kind (λy hy hl=>by rw [←hl]; exact S.uniq y hy) ?_
 refine b_ (hi pins s σ H _ I h) λv s1 h1=>b_ h1 λitv s2 h2=>?_
 obtain⟨it,fp,tn,J,H2,e,I2,T,st2,f2,hW⟩:=h2
 subst e
 refine w6 (Q:=Q) (RR:=λacc C=>compPost (model X.prog X.w) X.A X.xe none (λv s2=>wpAny (model X.prog X.w) X.A (spliced []) (λvs s3=>wpAny (model X.prog X.w) X.A (call (.builtin "len") (v::vs)) (EP X pins σ Q) X.xe s3) X.xe s2) acc C) hc S hg he I2 T st2 f2 hW ?_
 intro D C s5 H' m ks I5 n5 fC hCD hS q
 refine⟨m,n5,λh' sb=>Calls.spliced_nil ?_⟩
 have I6:=I5.turned (t':=s5.toks) (λb o hb e=>(sb.2 b hb).trans e) fC.1 fC.2.1 fC.2.2.2.1 fC.2.2.2.2.1 fC.2.2.2.2.2
 obtain⟨o,es,ep,t,ho,hex,hd,hel,_,hb,hf,hn⟩:=jL (h':=h') hS λo e=>(sb.2 _ hCD.symm).trans e
 have hsc:(scanBound:Int)<2 ^ 63:=by decide
 have hlt:((es.size:Nat):Int)<2 ^ 63:=Int.lt_trans (Int.ofNat_lt.mpr hb) hsc
 refine call_len_set (s:={s5 with heap:=h',toks:=s5.toks}) ho hex hd hf hlt ?_
 exact⟨.int (ks.length:Nat),H',I6.kept (h':=h') (t':=s5.toks+1+1) λ_ _ e=>e,⟨_,by rw [hn]⟩,q⟩
end
end L2
namespace L2
open PySem
theorem xf{K:Ve}{a:Addr}{xs:List V}{g:TG}{te:TE}{Q:VK}{qd:St}{H0:Hp}(Pv:Nat->St->List Key->Hp->Prop)(h0:Pv 0 qd [] H0)(hb:∀i σ ks H,i<=xs.length->Pv i σ ks H->ks.length+1<scanBound)(hl:∀i σ ks H,i<=xs.length->Pv i σ ks H->aH K H a xs)
  (hs:∀i x σ ks H,xs[i]? = some x->Pv i σ ks H->g x σ H λdf H2=>te df H2 λv H3=>∃k,v=kV k/\Pv (i+1) df (fH ks k) H3)
  (hd:∀σ ks H,Pv xs.length σ ks H->Q (.int (ks.length:Nat)) H):∃W:Nat->Nat->St->List Key->Hp->Prop,(∃m,W 0 m qd [] H0)/\wj (Fw K a) g te Q W:=by
 refine⟨λi m σ ks H=>m=xs.length-i/\i<=xs.length/\Pv i σ ks H,⟨xs.length,by simp,U1 _,h0⟩,?_⟩
 rintro i m σ ks H ⟨rfl,hi,p⟩
 have q:=hl i σ ks H hi p
 refine⟨hb i σ ks H hi p,?_⟩
 by_cases hlt:i<xs.length
 ·refine .inr ⟨⟨xs,xs[i],q,by simp [hlt]⟩,Pv (i+1),λσ' ks' H' p'=>⟨xs.length-(i+1),by omega,rfl,hlt,p'⟩,λx H' y=>?_⟩
  obtain⟨e,y⟩:=y
  subst e
  exact hs i x σ ks _ (y xs q) p
 ·have e:i=xs.length:=by omega
  subst e
  exact .inl ⟨⟨xs,q,UD _⟩,hd σ ks H p⟩
theorem Ej(ks:List Key)(k:Key):ks.length<=(fH ks k).length/\(fH ks k).length<=ks.length+1:=by
 unfold fH
 split
 ·exact⟨UD _,Nat.le_succ _⟩
 ·rw [UJ]; simp
end L2
namespace My
open PySem L2
noncomputable def gw (acc:List Key) (ss:List Str):List Key:=ss.foldl (λacc s=>fH acc (.inr s)) acc
theorem pP:∀(ss:List Str) (acc:List Key),acc.length<=(gw acc ss).length/\(gw acc ss).length<=acc.length+ss.length
 | [],acc=>⟨UD _,UD _⟩
 | s::ss,acc=>by
  have h1:=pP ss (fH acc (.inr s))
  have h2:=Ej acc (.inr s)
  show acc.length<=(gw (fH acc (.inr s)) ss).length/\(gw (fH acc (.inr s)) ss).length<=acc.length+(ss.length+1)
  omega
theorem uR(s0:Str):∀ss:List Str,((gw [.inr s0] ss).length > 1) =¬(∀s∈ss,s=s0)
 | []=>by simp [gw]
 | s::ss=>by
  by_cases e:s=s0
  ·have:gw [.inr s0] (s::ss)=gw [.inr s0] ss:=by
    show gw (fH [.inr s0] (.inr s)) ss=_
    unfold fH
    rw [if_pos (gb.mpr (by rw [e]; exact UU.mpr rfl))]
   rw [this,uR s0 ss]
   simp [e]
  ·have:gw [.inr s0] (s::ss)=gw [.inr s0,.inr s] ss:=by
    show gw (fH [.inr s0] (.inr s)) ss=_
    unfold fH
    rw [if_neg (λz=>e (by have:=UU.mp (gb.mp z); injection this))]
    rfl
   have hl:=(pP ss [.inr s0,.inr s]).1
   rw [this]
   simp only [Vb,List.length_nil]at hl
   simp [e]
   omega
theorem zH(ss:List Str):decide ((1:Int)<((gw [] ss).length:Nat)) = !cQ ss:=by
 cases ss with
 | nil=>simp [gw,cQ]
 | cons s ss =>
  have:gw [] (s::ss)=gw [.inr s] ss:=by
   show gw (fH [] (.inr s)) ss=_
   unfold fH
   rw [if_neg (λz=>by cases gb.mp z)]
   rfl
  rw [this]
  have h:=uR s ss
  have e:cQ (s::ss)=decide (∀x∈ss,x=s):=by
   unfold cQ
   rw [Bool.eq_iff_iff,List.all_eq_true,decide_eq_true_eq]
   constructor
   ·intro z x hx
    exact Vd (z x (UQ _ hx))
   ·intro z x hx
    rcases UX.mp hx with rfl | hx
    ·exact UH rfl
    ·exact UH (z x hx)
  rw [e,←decide_not,decide_eq_decide]
  constructor
  ·intro z
   have:(gw [.inr s] ss).length > 1:=by omega
   rwa [h]at this
  ·intro z
   rw [←h]at z
   omega
theorem Ai{ss:List Str}{i:Nat}{s:Str}(h:ss[i]? = some s):gw [] (ss.take (i+1))=fH (gw [] (ss.take i)) (.inr s):=by
 unfold gw
 rw [take_one h,List.foldl_append]
 rfl
abbrev jb:Stmt:=top 26
theorem sg:az ["worker","heads"] ["worker","heads"] (ar jb):=fs
variable{P:Program}{w:World}{K:Ve}{mg:Str->Option Value}{base:Heap}
theorem uI{n:Nat}(B:jU mg)(F:FA K mg "must_fits" jb)
  (ip:bc bf P w K mg base 1 "sort_of" ["cell"] fW)
  (fv:bc bf P w K mg base 2 "cells_fit" ["cells","column_sort"] iG) :
  bc bf P w K mg base 3 "must_fits" ["worker","heads"] (dA n bg (qz λx=>∃c ps,x=.one (.must c ps))):=by
 refine F.ok sg λf cdv A outer s H vs Q E hr h=>?_
 obtain⟨a,l,x,as,hs,rfl,ha,hL,hn,hsm,ho,q⟩:=h
 refine⟨_,(aN (aW ie (x8 (N':=["old","new"]) (src:=[none,none]) rfl rfl B.len (ba.jK (by kernel_rfl)) (cM (aA K (pv 0) ai)) (g:=iO K 2 (bO (bz 0) (bO (bz 1) iX))) (λcl C s H fp=>(cC rfl (aD (eA (i:=0)) (aD (eA (i:=1)) bS)))) (te:=(i4 fW [] E0 (bp (bx 1) fD))) (λcl C s H fp=>(ay (hg:=xA) ip hr (ae (i3 1) ah)))) ai) fY
   (ax (ay fv hr (ae (bw (N':=["old","new"]) (src:=[none,none]) rfl (ba.jK (by kernel_rfl)) (cM (aA K (pv 0) ai)) (g:=(iO K 2 (bO (bz 0) (bO (bz 1) iX)))) (λcl C s H fp=>(cC rfl (aD (eA (i:=0)) (aD (eA (i:=1)) bS)))) (λcl C s H fp=>aX) (te:=(bx 0)) (λcl C s H fp=>(i3 0))) (ae (aA K (bj K (pv 1) ai) (aF bJ (aA K (pv 0) ai) ai)) ah))))),?_⟩
 obtain⟨⟨c,ps,rfl⟩,hf,hg⟩:=ho
 obtain⟨hd,rfl⟩:=dg hn
 obtain⟨a0,e0,gu⟩:=hL.nth (i:=0) rfl
 obtain⟨t,bs,h1,hI⟩:=bW.mp ha
 have hc:=cH hf (c:=c) (by simp [c8])
 have hz:ps.length<=1000:=hsm
 have hg:∀p∈ps,dN p.1/\dN p.2:=hg
 have hlb:(bs.map V.ref).length=ps.length:=by rw [UI,hI.len]
 have hls:(ps.map λp=>sW p.2).length=ps.length:=UI _
 refine⟨_,rfl,a,_,2,_,rfl,rfl,aH.of h1,rfl,t,rfl,⟨_,aH.of hI.tup⟩,?_⟩
 refine xf (xs:=bs.map V.ref) (λi σ ks H'=>(∃o1 o2,σ=[o1,o2])/\ks=gw [] ((ps.map λp=>sW p.2).take i)/\H'=H) ⟨⟨none,none,rfl⟩,rfl,rfl⟩ ?_ ?_ ?_ ?_
 ·rintro i σ ks H' hi ⟨_,rfl,_⟩
  have:=(pP ((ps.map λp=>sW p.2).take i) []).2
  rw [U6,List.length_nil]at this
  exact UL (show _<=1001 by omega) (by decide)
 ·rintro i σ ks H' _ ⟨_,_,rfl⟩
  exact aH.of hI.tup
 ·rintro i v σ ks H' hv ⟨⟨o1,o2,rfl⟩,rfl,rfl⟩
  obtain⟨b,p,rfl,ep,hb⟩:=hI.get hv
  refine⟨b,_,rfl,aH.of hb,rfl,_,_,rfl,ak ⟨_,_,rfl,ak ⟨rfl,?_⟩⟩⟩
  refine⟨_,rfl,p.2,rfl,(hg p (UP ep)).2,.inr (sW p.2),rfl,⟨_,_,rfl⟩,?_,rfl⟩
  rw [Ai (by rw [U5,ep]; rfl)]
 ·rintro σ ks H' ⟨_,rfl,rfl⟩
  rw [hlb,←hls,List.take_length]
  refine⟨_,_,rfl,rfl,_,rfl,?_⟩
  have q:∀IS,aM H' IS->Q (.bl (cQ (ps.map λp=>sW p.2)&&cT (ps.map λp=>p.1) (bt hd c))) IS:=q
  rw [zH]
  cases hO:cQ (ps.map λp=>sW p.2)with
  | false =>
   rw [hO]at q
   exact bY (q H' (aM.refl _))
  | true =>
   rw [hO]at q
   refine bB (aG ⟨_,rfl,a,_,2,_,rfl,rfl,aH.of h1,rfl,t,rfl,⟨_,aH.of hI.tup⟩,λD hD=>?_⟩)
   refine cF (xs:=bs.map V.ref) (λi σ ys H2=>(∃o1 o2,σ=[o1,o2])/\ys=(ps.take i).map (λp=>p.1)/\ys.length=i/\H2 D=some (.lst ys)/\aM H' H2) ⟨⟨none,none,rfl⟩,rfl,rfl,ag,aj hD _⟩ ?_ ?_ ?_ ?_ ?_
   ·rintro i σ ys H2 _ ⟨_,_,hi,h,_⟩
    exact⟨h,Nat.le_of_eq hi⟩
   ·rintro i σ ys H2 _ ⟨_,_,_,_,sm⟩
    exact aH.of (sm _ _ hI.tup)
   ·rw [hlb]; exact UE hz (by decide)
   ·rintro i v σ ys H2 hv ⟨⟨o1,o2,rfl⟩,rfl,hi,h,sm⟩
    obtain⟨b,p,rfl,ep,hb⟩:=hI.get hv
    refine⟨b,_,rfl,aH.of (sm _ _ hb),rfl,_,_,rfl,ak ⟨_,_,rfl,ak ⟨rfl,?_⟩⟩⟩
    refine⟨_,rfl,h,⟨_,_,rfl⟩,?_,?_,ag,bq hD sm⟩
    ·rw [take_one ep,UK]; rfl
    ·rw [UJ,hi]; rfl
   ·rintro σ ys H2 ⟨_,rfl,hyl,h,sm⟩
    rw [hlb,List.take_length]at h hyl
    refine⟨_,rfl,l,_,0,_,rfl,rfl,aZ.of (sm _ _ hL.lst),av (j:=0) e0,_,rfl,a,_,1,_,rfl,rfl,aH.of (sm _ _ h1),rfl,_,_,rfl,rfl,a0,_,_,_,rfl,rfl,aH.of (sm _ _ gu),dE hc,?_⟩
    refine⟨D,_,_,rfl,h,by omega,λv hv=>?_,λH3 s'=>q H3 (sm.trans s')⟩
    obtain⟨p,hp,rfl⟩:=UW.mp hv
    exact(hg p hp).1
end My
namespace L2
open PySem PySem.Spec PyProof.Rows
def jw(K:Ve)(d:Addr)(key:Str):Prop :=
 (d==sysModules)=false/\∃(es:Array DictEntry) (ep:Nat),K.lookup d=some ⟨.type "dict",none,.dict es ep,#[]⟩/\es.all (λe=>isExactStrKey e.key)=true/\es.findIdx? (λe=>e.key.isStr key)=none
def FN(K:Ve):R2:=λx y H Q=>∃d k,x=.str k/\y=.ref d/\(((∃f,dB K d k f)/\Q (.bl false) H)\/(jw K d k/\Q (.bl true) H))
section
variable{X:Cx}
theorem qR:i6 X (compareOp .NotIn) (FN X.K):=by
 intro pins s σ H x y v u Q I rx ry h
 obtain⟨d,k,rfl,rfl,h⟩:=h
 cases ry
 obtain⟨t,rfl⟩:=rx
 rcases h with⟨⟨f,es,ep,i,hx,te,lk,ha,hi,he⟩,q⟩ | ⟨⟨hd,es,ep,lk,ha,hi⟩,q⟩
 ·have ho:s.heap.get? d=some ⟨.type "dict",none,.dict es ep,#[]⟩:=I.jJ _ _ lk
  have hT:s.TypeIs (.ref d) "dict":=⟨_,ho,rfl⟩
  have fin:EP X pins σ Q (.bool false) {s with toks:=s.toks+1}:=⟨.bl false,H,I.kept (h':=s.heap) (t':=s.toks+1) λ_ _ e=>e,rfl,q⟩
  show wpAny _ _ (do return Value.bool (!(←contains (.ref d) (.str k t)))) (EP X pins σ Q) X.xe s
  refine Uy (wpAny_contains_slot hT slot_dict_contains (wpAny_call_entry slot_dict_contains hT entry_dict_contains ?_ (args_dict_contains _ _)))
  show wpAny _ _ (dictGet d (.str k t) >>= _) _ _ s
  refine Uy ?_
  unfold dictGet
  try with_reducible refine U9 ?_
  refine Uy (wpAny_pyHash_str ?_)
  unfold dictFind
  refine Uy ?_
  try with_reducible refine U9 ?_
  refine Uy (wpAny_dictEntries (s:={s with toks:=s.toks+1}) ho rfl ?_)
  dsimp only
  rw [if_pos ha]
  unfold foundByValue
  rw [hi]
  dsimp only
  rw [he]
  dsimp only
  refine Uy (wpAny_dictEpoch (s:={s with toks:=s.toks+1}) ho rfl ?_)
  refine Uy (wpAny_eqBool_str ?_)
  refine Uy (wpAny_dictEpoch (s:={s with toks:=s.toks+1}) ho rfl ?_)
  rw [if_neg (by simp),UH rfl]
  refine Uy (wpAny_rule (Uz ?_))
  refine Uy (wpAny_dictEntries (s:={s with toks:=s.toks+1}) ho rfl (Uz ?_))
  rw [he]
  show wpAny _ _ (ret (.bool true)) _ _ _
  exact Uz ⟨_,rfl,wpAny_truthy_bool (Uz fin)⟩
 ·have ho:s.heap.get? d=some ⟨.type "dict",none,.dict es ep,#[]⟩:=I.jJ _ _ lk
  have hT:s.TypeIs (.ref d) "dict":=⟨_,ho,rfl⟩
  have fin:EP X pins σ Q (.bool true) {s with toks:=s.toks+1}:=⟨.bl true,H,I.kept (h':=s.heap) (t':=s.toks+1) λ_ _ e=>e,rfl,q⟩
  show wpAny _ _ (do return Value.bool (!(←contains (.ref d) (.str k t)))) (EP X pins σ Q) X.xe s
  refine Uy (wpAny_contains_slot hT slot_dict_contains (wpAny_call_entry slot_dict_contains hT entry_dict_contains ?_ (args_dict_contains _ _)))
  show wpAny _ _ (dictGet d (.str k t) >>= _) _ _ s
  refine Uy ?_
  unfold dictGet
  try with_reducible refine U9 ?_
  refine Uy (wpAny_pyHash_str ?_)
  unfold dictFind
  refine Uy ?_
  try with_reducible refine U9 ?_
  refine Uy (wpAny_dictEntries (s:={s with toks:=s.toks+1}) ho rfl ?_)
  dsimp only
  rw [if_pos ha]
  unfold foundByValue
  rw [hi]
  dsimp only
  refine Uz ?_
  show wpAny _ _ (pure none) _ _ _
  refine Uz ?_
  show wpAny _ _ (Builtin.Dict.pendingKey? d _ >>= _) _ _ _
  exact Uy (wpAny_pendingKey_other hd (Uz ⟨_,rfl,wpAny_truthy_bool (Uz fin)⟩))
end
end L2
namespace My
open PySem L2
def Hz(P:Program)(w:World)(K:Ve)(mg:Str->Option Value)(base:Heap)(aS:Addr)(n:Nat)(x:Wk):Prop :=
 (∃(f:Addr) (fd:FuncData),dB K aS x.nm f/\e_ P w K mg base bf 3 f fd ["worker","heads"] (dA n bg (qz λy=>y=x))/\PySem.W.keepIn K (.ref f)=true/\Binds K fd ["worker","heads"] [])\/(jw K aS x.nm/\∀hs,bg x hs=true)
theorem ej{n:Nat}{F:Wk->List Hd->Bool}{k k':Wk->Prop}(h:∀x,k' x->k x):∀vs H Q E,dA n F (qz k') vs H Q E->dA n F (qz k) vs H Q E:=by
 rintro vs H Q E ⟨a,l,x,as,hs,h1,h2,h3,h4,h5,⟨h6,h7⟩,h8⟩
 exact⟨a,l,x,as,hs,h1,h2,h3,h4,h5,⟨h x h6,h7⟩,h8⟩
variable{P:Program}{w:World}{K:Ve}{mg:Str->Option Value}{base:Heap}
theorem AR{n:Nat}{aS:Addr}{f1 f2 f3 f4 f5 f6 f7 f8:Addr}
  (t1:dB K aS "keep" f1) (t2:dB K aS "same" f2) (t3:dB K aS "turn" f3) (t4:dB K aS "must" f4) (t5:dB K aS "walk" f5) (t6:dB K aS "sum" f6) (t7:dB K aS "both" f7) (t8:dB K aS "meet" f8)
  (u1:jw K aS "cut") (u2:jw K aS "sort") (u3:jw K aS "apart") (u4:jw K aS "count") (u5:jw K aS "number") (u6:jw K aS "first")
  (G1:FnAt P w K mg base 1 f1 ["worker","heads"] (dA n bg (qz λx=>∃c t,x=.one (.keep c t)))) (G2:FnAt P w K mg base 2 f2 ["worker","heads"] (dA n bg (qz λx=>∃c d,x=.one (.same c d)))) (G3:FnAt P w K mg base 3 f3 ["worker","heads"] (dA n bg (qz λx=>∃c ps,x=.one (.turn c ps)))) (G4:FnAt P w K mg base 3 f4 ["worker","heads"] (dA n bg (qz λx=>∃c ps,x=.one (.must c ps))))
  (G5:FnAt P w K mg base 3 f5 ["worker","heads"] (dA n bg (qz λx=>∃c mv,x=.one (.walk c mv)))) (G6:FnAt P w K mg base 1 f6 ["worker","heads"] (dA n bg (qz λx=>∃cs c,x=.one (.sum cs c)))) (G7:FnAt P w K mg base 1 f7 ["worker","heads"] (dA n bg (qz λx=>∃p q,x=.both p q))) (G8:FnAt P w K mg base 2 f8 ["worker","heads"] (dA n bg (qz λx=>∃c d p q,x=.meet c d p q))):∀x,Hz P w K mg base aS n x:=by
 obtain⟨d1,G1,b1,k1⟩:=G1
 obtain⟨d2,G2,b2,k2⟩:=G2
 obtain⟨d3,G3,b3,k3⟩:=G3
 obtain⟨d4,G4,b4,k4⟩:=G4
 obtain⟨d5,G5,b5,k5⟩:=G5
 obtain⟨d6,G6,b6,k6⟩:=G6
 obtain⟨d7,G7,b7,k7⟩:=G7
 obtain⟨d8,G8,b8,k8⟩:=G8
 intro x
 match x with
 | .one (.keep c t)=>exact .inl ⟨f1,d1,t1,(G1.imp (ej λ_ e=>⟨c,t,e⟩)).mono (by omega),k1,b1⟩
 | .one (.same c d)=>exact .inl ⟨f2,d2,t2,(G2.imp (ej λ_ e=>⟨c,d,e⟩)).mono (by omega),k2,b2⟩
 | .one (.turn c ps)=>exact .inl ⟨f3,d3,t3,G3.imp (ej λ_ e=>⟨c,ps,e⟩),k3,b3⟩
 | .one (.must c ps)=>exact .inl ⟨f4,d4,t4,G4.imp (ej λ_ e=>⟨c,ps,e⟩),k4,b4⟩
 | .one (.walk c mv)=>exact .inl ⟨f5,d5,t5,G5.imp (ej λ_ e=>⟨c,mv,e⟩),k5,b5⟩
 | .one (.sum cs c)=>exact .inl ⟨f6,d6,t6,(G6.imp (ej λ_ e=>⟨cs,c,e⟩)).mono (by omega),k6,b6⟩
 | .both p q=>exact .inl ⟨f7,d7,t7,(G7.imp (ej λ_ e=>⟨p,q,e⟩)).mono (by omega),k7,b7⟩
 | .meet c d p q=>exact .inl ⟨f8,d8,t8,(G8.imp (ej λ_ e=>⟨c,d,p,q,e⟩)).mono (by omega),k8,b8⟩
 | .one (.cut _)=>exact .inr ⟨u1,λ_=>rfl⟩
 | .one (.sort _)=>exact .inr ⟨u2,λ_=>rfl⟩
 | .one .apart=>exact .inr ⟨u3,λ_=>rfl⟩
 | .one (.count _)=>exact .inr ⟨u4,λ_=>rfl⟩
 | .one .number=>exact .inr ⟨u5,λ_=>rfl⟩
 | .one (.first _)=>exact .inr ⟨u6,λ_=>rfl⟩
abbrev jC:Stmt:=top 32
theorem lz:az ["worker","heads","fit"] ["worker","heads"] (ar jC):=fs
theorem uO{n:Nat}{aS:Addr}(mS:mg "SORTS_FIT"=some (.ref aS))(GS:∀x:Wk,Hz P w K mg base aS n x)(F:FA K mg "sorts_fit" jC) :
  bc bf P w K mg base 4 "sorts_fit" ["worker","heads"] (dA n bg (qz λ_=>True)):=by
 refine F.ok lz λf cdv A outer s H vs Q E hr h=>?_
 obtain⟨a,l,x,as,hs,rfl,ha,hL,hn,hsm,ho,q⟩:=h
 refine⟨_,(aN (dc qR (aA K (pv 0) ai) (cS rfl mS (show RelV (.ref aS) (.ref aS) from rfl)) rfl) fY
   (aq (aL (i:=2) lz.nd rfl (Or.inl rfl) (fX (r:=EJ K) ou (cS rfl mS (show RelV (.ref aS) (.ref aS) from rfl)) (aA K (pv 0) ai) (λ_ _=>rfl)))
   (ax (nJ (k:=3) (pv 2) hr uv (ae (pv 0) (ae (pv 1) ah)))))),?_⟩
 obtain⟨xs,h1⟩:=ha.first
 obtain⟨_,hf,hg⟩:=ho
 refine⟨_,rfl,a,_,0,_,rfl,rfl,aH.of h1,av (j:=0) rfl,aS,x.nm,rfl,rfl,?_⟩
 rcases GS x with⟨g,gd,JO,FG,kG,bG⟩ | ⟨hno,he⟩
 ·refine .inl ⟨⟨g,JO⟩,_,rfl,bB (aG ?_)⟩
  refine⟨_,rfl,a,_,0,_,rfl,rfl,aH.of h1,av (j:=0) rfl,aS,x.nm,g,rfl,rfl,JO,ak ?_⟩
  dsimp only
  exact⟨_,rfl,g,gd,_,_,rfl,FG,kG,bG,_,rfl,_,rfl,a,l,x,as,hs,rfl,ha,hL,hn,hsm,⟨rfl,hf,hg⟩,q⟩
 ·refine .inr ⟨hno,_,rfl,bY ?_⟩
  have q:=q H (aM.refl _)
  rw [he hs]at q
  exact q
def wz(h:Hd)(cs:List Int):Prop:=∀c∈cs,1<=c/\c<=h.length
def oH:Sp:=λvs H Q _=>∃(a b:Addr) (h:Hd) (cs:List Int),vs=[.ref a,.ref b]/\dX H a h/\H b=some (.tup (cs.map V.int))/\cs.length<=1000/\wz h cs/\∀(u:Addr) (H':Hp),aM H H'->dX H' u (cs.map (bt h))->Q (.ref u) H'
abbrev nP:Stmt:=top 33
theorem zP:az ["head","columns"] ["head","columns"] (ar nP):=fs
theorem zN(B:jU mg)(F:FA K mg "picked" nP) :
  bc bf P w K mg base 1 "picked" ["head","columns"] oH:=by
 refine F.ok zP λf cdv A outer s H vs Q E hr h=>?_
 have hu:=iW hr
 obtain⟨a,b,h,cs,rfl,ha,hb,hz,ht,q⟩:=h
 refine⟨_,(ax (aV bA rfl B.tuple PyProof.Rows.boot_tuple (ae (bw (N':=["column","head"]) (src:=[none,some 0]) rfl (ba.jK (by kernel_rfl)) (cM (pv 1)) (λcl C s H fp=>(eA (i:=0))) (λcl C s H fp=>aX) (te:=(gE (sy K) (bx 1) (gE (zy λi j=>V.int (i-j)) (bx 0) (tC (.int 1))))) (λcl C s H fp=>(aA K (yV 1) (aF bJ (i3 0) ai)))) ah))),?_⟩
 refine⟨_,rfl,b,rfl,⟨_,aH.of hb⟩,λD hD=>?_⟩
 refine cF (xs:=cs.map V.int) (λi σ ys H'=>(∃o,σ=[o,some (.ref a)])/\ys=((cs.take i).map (bt h)).map V.str/\ys.length=i/\H' D=some (.lst ys)/\aM H H') ⟨⟨none,rfl⟩,rfl,rfl,ag,aj hD _⟩ ?_ ?_ ?_ ?_ ?_
 ·rintro i σ ys H' _ ⟨_,_,hi,h,_⟩
  exact⟨h,Nat.le_of_eq hi⟩
 ·rintro i σ ys H' _ ⟨_,_,_,_,sm⟩
  exact aH.of (sm _ _ hb)
 ·rw [UI]; exact UE hz (by decide)
 ·rintro i v σ ys H' hv ⟨⟨o,rfl⟩,rfl,hi,hh,sm⟩
  rw [U5]at hv
  cases ec:cs[i]? with
  | none=>rw [ec]at hv; cases hv
  | some c =>
   rw [ec]at hv
   have hv:V.int c=v:=U2 hv
   subst hv
   refine⟨_,rfl,_,rfl,_,_,rfl,rfl,a,_,_,_,rfl,rfl,aH.of (sm _ _ ha),dE (ht c (UP ec)),hh,⟨_,rfl⟩,?_,?_,ag,bq hD sm⟩
   ·rw [take_one ec,UK,UK]; rfl
   ·rw [UJ,hi]; rfl
 ·rintro σ ys H' ⟨_,rfl,_,hh,sm⟩
  rw [UI,List.take_length]at hh
  exact⟨D,_,rfl,.inl ⟨aZ.of hh,λu hu=>q u _ (sm.trans (aj hu _)) ag⟩⟩
theorem nq{ts:List Str}{c:Int}(h1:1<=c)(h2:c<=ts.length):f_ (ts.map V.str) none (some (c-1))=(ts.take (c-1).toNat).map V.str:=by
 have:=xn (xs:=ts.map V.str) (n:=(c-1).toNat) (by rw [UI]; omega)
 rw [show(((c-1).toNat:Nat):Int)=c-1 by omega]at this
 rw [this,List.map_take]
theorem jM{ts:List Str}{c:Int}(h1:1<=c)(h2:c<=ts.length):f_ (ts.map V.str) (some c) none=(ts.drop c.toNat).map V.str:=by
 have:=Du (xs:=ts.map V.str) (n:=c.toNat) (by rw [UI]; omega)
 rw [show((c.toNat:Nat):Int)=c by omega]at this
 rw [this,List.map_drop]
def bE:Wk->List Hd->Hd
 | .one (.cut cs),hs=>cs.map (bt (hs.headD []))
 | .one (.must c ps),hs=>(hs.headD []).take (c-1).toNat++(ps.take 1).map (λp=>sW p.2)++(hs.headD []).drop c.toNat
 | .one (.walk _ _),hs=>hs.headD []++(["w"]:Hd)
 | .one (.count cs),hs=>cs.map (bt (hs.headD []))++(["t"]:Hd)
 | .one (.sum cs _),hs=>cs.map (bt (hs.headD []))++(["t"]:Hd)
 | .one .number,hs=>hs.headD []++(["t"]:Hd)
 | .meet _ d _ _,hs=>hs.headD []++(hs.getD 1 []).take (d-1).toNat++(hs.getD 1 []).drop d.toNat
 | _,hs=>hs.headD []
def QA:Wk->Prop
 | .one (.must _ ps)=>ps≠[]
 | _=>True
structure OZ(k:Wk->Prop)(x:Wk)(hs:List Hd):Prop where
 k:k x
 fit:c9 x hs=true
 good:goodW x
 ne:QA x
 sm:∀h∈hs,h.length<=1000
def dn(n:Nat)(k:Wk->Prop):Sp:=λvs H Q _=>∃(a l:Addr) (x:Wk) (as:List Addr) (hs:List Hd),vs=[.ref a,.ref l]/\dk n H a x/\f9 H l as hs/\hs.length=Dt x/\kj x/\OZ k x hs/\∀u H',aM H H'->dX H' u (bE x hs)->Q (.ref u) H'
theorem eG{a b:Addr}{xs ys:Hd}{H:Hp}{Q:VK}(h1:dX H a xs)(h2:dX H b ys)(hz:xs.length+ys.length<=100000)(q:∀t H',aM H H'->dX H' t (xs++ys)->Q (.ref t) H'):HF (.ref a) (.ref b) H Q :=
 ⟨a,b,_,_,rfl,rfl,h1,h2,by rw [UI,UI]; exact UE hz (by decide),λt H' s' ht=>q t H' s' (by rw [dX,UK]; exact ht)⟩
abbrev fM:Stmt:=top 36
theorem mJ:az ["worker","heads"] ["worker","heads"] (ar fM):=fs
theorem Cn{n:Nat}(F:FA K mg "head_of_walk" fM) :
  bc bf P w K mg base 1 "head_of_walk" ["worker","heads"] (dn n (λx=>∃c mv,x=.one (.walk c mv))):=by
 refine F.ok mJ λf cdv A outer s H vs Q E hr h=>?_
 have hu:=iW hr
 obtain⟨a,l,x,as,hs,rfl,ha,hL,hn,hsm,ho,q⟩:=h
 refine⟨_,(ax (aF b9 (bj K (pv 1) ai) (aJ (ae ao ah)))),?_⟩
 obtain⟨c,mv,rfl⟩:=ho.k
 obtain⟨hd,rfl⟩:=dg hn
 obtain⟨a0,e0,gu⟩:=hL.nth (i:=0) rfl
 have hz:=ho.sm hd (by simp)
 refine⟨_,rfl,l,_,0,_,rfl,rfl,aZ.of hL.lst,av (j:=0) e0,dP,λu hu=>?_⟩
 have su:=aj hu (.tup [.str "w"])
 exact eG (ys:=["w"]) (su _ _ gu) ag (by show _+1<=_; omega) λt H' s' ht=>q t H' (su.trans s') ht
abbrev eY:Stmt:=top 38
theorem k_:az ["worker","heads"] ["worker","heads"] (ar eY):=fs
theorem wU{n:Nat}{tk:Tok}(mT:mg "TALLY"=some (.str "t" tk))(F:FA K mg "head_of_number" eY) :
  bc bf P w K mg base 1 "head_of_number" ["worker","heads"] (dn n (λx=>x=.one .number)):=by
 refine F.ok k_ λf cdv A outer s H vs Q E hr h=>?_
 have hu:=iW hr
 obtain⟨a,l,x,as,hs,rfl,ha,hL,hn,hsm,ho,q⟩:=h
 refine⟨_,(ax (aF b9 (bj K (pv 1) ai) (aJ (ae (cS (v:=.str "t") rfl mT ⟨_,rfl⟩) ah)))),?_⟩
 cases ho.k
 obtain⟨hd,rfl⟩:=dg hn
 obtain⟨a0,e0,gu⟩:=hL.nth (i:=0) rfl
 have hz:=ho.sm hd (by simp)
 refine⟨_,rfl,l,_,0,_,rfl,rfl,aZ.of hL.lst,av (j:=0) e0,dP,λu hu=>?_⟩
 have su:=aj hu (.tup [.str "t"])
 exact eG (ys:=["t"]) (su _ _ gu) ag (by show _+1<=_; omega) λt H' s' ht=>q t H' (su.trans s') ht
abbrev gZ:Stmt:=top 34
theorem o_:az ["worker","heads"] ["worker","heads"] (ar gZ):=fs
theorem Fv{n:Nat}(F:FA K mg "head_of_cut" gZ)
  (oK:bc bf P w K mg base 1 "picked" ["head","columns"] oH) :
  bc bf P w K mg base 2 "head_of_cut" ["worker","heads"] (dn n (λx=>∃cs,x=.one (.cut cs))):=by
 refine F.ok o_ λf cdv A outer s H vs Q E hr h=>?_
 obtain⟨a,l,x,as,hs,rfl,ha,hL,hn,hsm,ho,q⟩:=h
 refine⟨_,(ax (ay oK hr (ae (bj K (pv 1) ai) (ae (aA K (pv 0) ai) ah)))),?_⟩
 obtain⟨cs,rfl⟩:=ho.k
 obtain⟨hd,rfl⟩:=dg hn
 obtain⟨a0,e0,gu⟩:=hL.nth (i:=0) rfl
 obtain⟨t,h1,h2⟩:=bW.mp ha
 exact⟨_,rfl,l,_,0,_,rfl,rfl,aZ.of hL.lst,av (j:=0) e0,_,rfl,a,_,1,_,rfl,rfl,aH.of h1,rfl,a0,t,hd,cs,rfl,gu,h2,hsm,λc hc=>cH ho.fit hc,q⟩
abbrev eL:Stmt:=top 37
theorem kc:az ["worker","heads"] ["worker","heads"] (ar eL):=fs
theorem BG{n:Nat}{tk:Tok}(mT:mg "TALLY"=some (.str "t" tk))(F:FA K mg "head_of_tallied" eL)
  (oK:bc bf P w K mg base 1 "picked" ["head","columns"] oH) :
  bc bf P w K mg base 2 "head_of_tallied" ["worker","heads"] (dn n (λx=>∃cs,x=.one (.count cs)\/∃c,x=.one (.sum cs c))):=by
 refine F.ok kc λf cdv A outer s H vs Q E hr h=>?_
 have hu:=iW hr
 have hu1:=jW hr
 obtain⟨a,l,x,as,hs,rfl,ha,hL,hn,hsm,ho,q⟩:=h
 refine⟨_,(ax (aF b9 (ay oK hr (ae (bj K (pv 1) ai) (ae (aA K (pv 0) ai) ah))) (aJ (ae (cS (v:=.str "t") rfl mT ⟨_,rfl⟩) ah)))),?_⟩
 have key:∃(cs:List Int) (hd:Hd) (t y:Addr) (v:V) (vs:List V),hs=[hd]/\H a=some (.tup (v :: .ref t::vs))/\H t=some (.tup (cs.map V.int))/\cs.length<=1000/\wz hd cs/\bE x hs=cs.map (bt hd)++(["t"]:Hd):=by
  obtain⟨cs,rfl | ⟨c,rfl⟩⟩:=ho.k
  ·obtain⟨hd,rfl⟩:=dg hn
   obtain⟨t,h1,h2⟩:=bW.mp ha
   exact⟨cs,hd,t,t,_,_,rfl,h1,h2,hsm,λc hc=>cH ho.fit hc,rfl⟩
  ·obtain⟨hd,rfl⟩:=dg hn
   obtain⟨t,h1,h2⟩:=bW.mp ha
   exact⟨cs,hd,t,t,_,_,rfl,h1,h2,hsm,λc hc=>cH ho.fit (List.mem_append_left _ hc),rfl⟩
 obtain⟨cs,hd,t,_,v,vs,rfl,h1,h2,hz,hth,eh⟩:=key
 obtain⟨a0,e0,gu⟩:=hL.nth (i:=0) rfl
 refine⟨_,rfl,l,_,0,_,rfl,rfl,aZ.of hL.lst,av (j:=0) e0,_,rfl,a,_,1,_,rfl,rfl,aH.of h1,av (j:=1) rfl,a0,t,hd,cs,rfl,gu,h2,hz,hth,λu1 H1 s1 hu1=>?_⟩
 refine⟨dP,λu hu=>?_⟩
 have su:=aj hu (.tup [.str "t"])
 refine eG (ys:=["t"]) (su _ _ hu1) ag ?_ λt' H' s' ht=>q t' H' (s1.trans (su.trans s')) (by rw [eh]; exact ht)
 rw [UI]
 show _+1<=_
 omega
abbrev gc:Stmt:=top 39
theorem mQ:az ["worker","heads"] ["worker","heads"] (ar gc):=fs
theorem Ec{n:Nat}(F:FA K mg "head_of_meet" gc) :
  bc bf P w K mg base 1 "head_of_meet" ["worker","heads"] (dn n (λx=>∃c d p q,x=.meet c d p q)):=by
 refine F.ok mQ λf cdv A outer s H vs Q E hr h=>?_
 obtain⟨a,l,x,as,hs,rfl,ha,hL,hn,hsm,ho,q⟩:=h
 refine⟨_,(ax (aF b9 (aF b9 (bj K (pv 1) ai) (cu c_ (bj K (pv 1) ai) dz (cB (aF bJ (aA K (pv 0) ai) ai)))) (cu c_ (bj K (pv 1) ai) (cB (aA K (pv 0) ai)) dz))),?_⟩
 obtain⟨c,d,p,q',rfl⟩:=ho.k
 obtain⟨h0,h2,rfl⟩:=dG hn
 obtain⟨a0,e0,gu⟩:=hL.nth (i:=0) rfl
 obtain⟨a1,e1,vk⟩:=hL.nth (i:=1) rfl
 have hz0:=ho.sm h0 (by simp)
 have hz1:=ho.sm h2 (by simp)
 have hf:(there c h0&&there d h2)=true:=ho.fit
 rw [Vc]at hf
 obtain⟨d1,d2⟩:=e9 hf.2
 cases n with
 | zero=>exact False.elim ha
 | succ n =>
 obtain⟨b,e,bs,es,h1,_⟩:=ha
 refine⟨_,rfl,l,_,0,_,rfl,rfl,aZ.of hL.lst,av (j:=0) e0,_,rfl,l,_,1,_,rfl,rfl,aZ.of hL.lst,av (j:=1) e1,?_⟩
 refine⟨_,rfl,a,_,2,_,rfl,rfl,aH.of h1,rfl,_,_,rfl,rfl,_,rfl,a1,_,rfl,vk,λt1 H1 s1 ht1=>?_⟩
 rw [nq d1 d2]at ht1
 refine eG (s1 _ _ gu) ht1 (by rw [U6]; omega) λt2 H2 s2 Cj=>?_
 have s12:=s1.trans s2
 refine⟨_,rfl,l,_,1,_,rfl,rfl,aZ.of (s12 _ _ hL.lst),av (j:=1) e1,_,rfl,a,_,2,_,rfl,rfl,aH.of (s12 _ _ h1),rfl,_,rfl,a1,_,rfl,s12 _ _ vk,λt3 H3 s3 En=>?_⟩
 rw [jM d1 d2]at En
 refine eG (s3 _ _ Cj) En (by rw [UJ,U6,List.length_drop]; omega) λt4 H4 s4 A4=>q t4 H4 (s12.trans (s3.trans s4)) A4
abbrev gn:Stmt:=top 35
theorem fA:az ["worker","heads","column","pairs","told"] ["worker","heads"] (ar gn):=fs
theorem DB{n:Nat}(B:jU mg)(F:FA K mg "head_of_must" gn)
  (ip:bc bf P w K mg base 1 "sort_of" ["cell"] fW) :
  bc bf P w K mg base 2 "head_of_must" ["worker","heads"] (dn n (λx=>∃c ps,x=.one (.must c ps))):=by
 refine F.ok fA λf cdv A outer s H vs Q E hr h=>?_
 have hu:=iW hr
 obtain⟨a,l,x,as,hs,rfl,ha,hL,hn,hsm,ho,q⟩:=h
 refine⟨_,(aq (IV (i:=2) (j:=3) rfl fA.nd rfl rfl (by decide) rfl rfl (ae (aA K (pv 0) ai) (ae (aA K (pv 0) ai) ah)) rfl)
   (aq (kl (i:=4) (N':=["old","new"]) (src:=[none,none]) fA.nd rfl (Or.inl rfl) rfl rfl (ba.jK (by kernel_rfl)) (cM (cu c_ (pv 3) dz (cB ai))) (g:=(iO K 2 (bO (bz 0) (bO (bz 1) iX)))) (λcl C s H fp=>(cC rfl (aD (eA (i:=0)) (aD (eA (i:=1)) bS)))) (λcl C s H fp=>aX) (te:=(i4 fW [] E0 (bp (bx 1) fD))) (λcl C s H fp=>(ay (hg:=xA) ip hr (ae (i3 1) ah))))
   (ax (aF b9 (aF b9 (cu c_ (bj K (pv 1) ai) dz (cB (aF bJ (pv 2) ai))) (Jc (aV bA rfl B.tuple PyProof.Rows.boot_tuple (ae (pv 4) ah)) (cu c_ (bj K (pv 1) ai) (cB (aF bJ (pv 2) ai)) (cB (pv 2))))) (cu c_ (bj K (pv 1) ai) (cB (pv 2)) dz))))),?_⟩
 obtain⟨c,ps,rfl⟩:=ho.k
 obtain⟨hd,rfl⟩:=dg hn
 obtain⟨a0,e0,gu⟩:=hL.nth (i:=0) rfl
 obtain⟨t,bs,h1,hI⟩:=bW.mp ha
 obtain⟨c1,c2⟩:=cH ho.fit (c:=c) (by simp [c8])
 have hz:=ho.sm hd (by simp)
 have hne:ps≠[]:=ho.ne
 have hg:∀p∈ps,dN p.1/\dN p.2:=ho.good
 have Pr:f_ (bs.map V.ref) none (some 1)=(bs.take 1).map V.ref:=by
  have e:=xn (xs:=bs.map V.ref) (n:=1) (by rw [UI,hI.len]; cases ps with | nil=>exact absurd rfl hne | cons _ _=>simp)
  rw [List.map_take]
  exact e
 refine⟨_,rfl,a,_,1,_,rfl,rfl,aH.of h1,rfl,_,rfl,a,_,2,_,rfl,rfl,aH.of h1,rfl,_,_,rfl,?_⟩
 dsimp only
 refine⟨_,rfl,_,rfl,t,_,rfl,hI.tup,λt1 H1 s1 ht1=>?_⟩
 rw [Pr]at ht1
 refine⟨t1,rfl,⟨_,aH.of ht1⟩,λD hD=>?_⟩
 have hl1:((bs.take 1).map V.ref).length=1:=by
  rw [UI,U6,hI.len]; cases ps with | nil=>exact absurd rfl hne | cons _ _=>simp
 refine cF (xs:=(bs.take 1).map V.ref) (λi σ ys H'=>(∃o1 o2,σ=[o1,o2])/\ys=((ps.take i).map λp=>sW p.2).map V.str/\ys.length=i/\H' D=some (.lst ys)/\aM H1 H') ⟨⟨none,none,rfl⟩,rfl,rfl,ag,aj hD _⟩ ?_ ?_ ?_ ?_ ?_
 ·rintro i σ ys H' _ ⟨_,_,hi,h,_⟩
  exact⟨h,Nat.le_of_eq hi⟩
 ·rintro i σ ys H' _ ⟨_,_,_,_,sm⟩
  exact aH.of (sm _ _ ht1)
 ·rw [hl1]; decide
 ·rintro i v σ ys H' hv ⟨⟨o1,o2,rfl⟩,rfl,hi,h,sm⟩
  have hv':(bs.map V.ref)[i]? = some v:=by
   rw [List.map_take,List.getElem?_take]at hv
   split at hv
   ·exact hv
   ·cases hv
  obtain⟨b,p,rfl,ep,hb⟩:=hI.get hv'
  refine⟨b,_,rfl,aH.of (sm _ _ (s1 _ _ hb)),rfl,_,_,rfl,ak ⟨_,_,rfl,ak ⟨rfl,?_⟩⟩⟩
  refine⟨_,rfl,p.2,rfl,(hg p (UP ep)).2,h,⟨_,_,rfl⟩,?_,?_,ag,bq hD sm⟩
  ·rw [take_one ep,UK,UK]; rfl
  ·rw [UJ,hi]; rfl
 ·rintro σ ys H' ⟨_,rfl,hi,h,sm⟩
  rw [hl1]at h hi
  have s2:=s1.trans sm
  refine ak ?_
  dsimp only
  refine⟨_,rfl,l,_,0,_,rfl,rfl,aZ.of (s2 _ _ hL.lst),av (j:=0) e0,_,rfl,_,_,rfl,rfl,_,rfl,a0,_,rfl,s2 _ _ gu,λt3 H3 s3 En=>?_⟩
  rw [nq c1 c2]at En
  refine⟨_,rfl,D,_,rfl,.inl ⟨aZ.of (s3 _ _ h),λu hu=>⟨true,.inr (.inl ⟨_,aH.of ag,?_⟩),bY ?_⟩⟩⟩
  ·cases ps with | nil=>exact absurd rfl hne | cons _ _=>rfl
  have su:=aj hu (.tup (((ps.take 1).map λp=>sW p.2).map V.str))
  refine eG (su _ _ En) ag (by rw [U6,UI,U6]; omega) λt4 H4 s4 A4=>?_
  have s5:=s2.trans (s3.trans (su.trans s4))
  refine⟨_,rfl,l,_,0,_,rfl,rfl,aZ.of (s5 _ _ hL.lst),av (j:=0) e0,_,rfl,_,rfl,a0,_,rfl,s5 _ _ gu,λt6 H6 s6 HA=>?_⟩
  rw [jM c1 c2]at HA
  refine eG (s6 _ _ A4) HA (by rw [UJ,U6,UI,U6,List.length_drop]; omega) λt7 H7 s7 KC=>q t7 H7 (s5.trans (s6.trans s7)) KC
def Ck(P:Program)(w:World)(K:Ve)(mg:Str->Option Value)(base:Heap)(aT:Addr)(n:Nat)(x:Wk):Prop :=
 (∃(f:Addr) (fd:FuncData),dB K aT x.nm f/\e_ P w K mg base bf 2 f fd ["worker","heads"] (dn n λy=>y=x)/\PySem.W.keepIn K (.ref f)=true/\Binds K fd ["worker","heads"] [])\/(jw K aT x.nm/\∀hs,bE x hs=hs.headD [])
theorem d9{n:Nat}{k k':Wk->Prop}(h:∀x,k' x->k x):∀vs H Q E,dn n k' vs H Q E->dn n k vs H Q E:=by
 rintro vs H Q E ⟨a,l,x,as,hs,h1,h2,h3,h4,h5,⟨h6,h7,h8,h9,h10⟩,h11⟩
 exact⟨a,l,x,as,hs,h1,h2,h3,h4,h5,⟨h x h6,h7,h8,h9,h10⟩,h11⟩
theorem xh{n:Nat}{aT:Addr}{f1 f2 f3 f4 f5 f6:Addr}
  (t1:dB K aT "cut" f1) (t2:dB K aT "must" f2) (t3:dB K aT "walk" f3) (t4:dB K aT "count" f4) (TN:dB K aT "sum" f4) (t5:dB K aT "number" f5) (t6:dB K aT "meet" f6)
  (u1:jw K aT "keep") (u2:jw K aT "same") (u3:jw K aT "turn") (u4:jw K aT "sort") (u5:jw K aT "apart") (u6:jw K aT "first") (u7:jw K aT "both")
  (G1:FnAt P w K mg base 2 f1 ["worker","heads"] (dn n λx=>∃cs,x=.one (.cut cs))) (G2:FnAt P w K mg base 2 f2 ["worker","heads"] (dn n λx=>∃c ps,x=.one (.must c ps))) (G3:FnAt P w K mg base 1 f3 ["worker","heads"] (dn n λx=>∃c mv,x=.one (.walk c mv))) (G4:FnAt P w K mg base 2 f4 ["worker","heads"] (dn n λx=>∃cs,x=.one (.count cs)\/∃c,x=.one (.sum cs c)))
  (G5:FnAt P w K mg base 1 f5 ["worker","heads"] (dn n λx=>x=.one .number)) (G6:FnAt P w K mg base 1 f6 ["worker","heads"] (dn n λx=>∃c d p q,x=.meet c d p q)):∀x,Ck P w K mg base aT n x:=by
 obtain⟨d1,G1,b1,k1⟩:=G1
 obtain⟨d2,G2,b2,k2⟩:=G2
 obtain⟨d3,G3,b3,k3⟩:=G3
 obtain⟨d4,G4,b4,k4⟩:=G4
 obtain⟨d5,G5,b5,k5⟩:=G5
 obtain⟨d6,G6,b6,k6⟩:=G6
 intro x
 match x with
 | .one (.cut cs)=>exact .inl ⟨f1,d1,t1,G1.imp (d9 λ_ e=>⟨cs,e⟩),k1,b1⟩
 | .one (.must c ps)=>exact .inl ⟨f2,d2,t2,G2.imp (d9 λ_ e=>⟨c,ps,e⟩),k2,b2⟩
 | .one (.walk c mv)=>exact .inl ⟨f3,d3,t3,(G3.imp (d9 λ_ e=>⟨c,mv,e⟩)).mono (by omega),k3,b3⟩
 | .one (.count cs)=>exact .inl ⟨f4,d4,t4,G4.imp (d9 λ_ e=>⟨cs,.inl e⟩),k4,b4⟩
 | .one (.sum cs c)=>exact .inl ⟨f4,d4,TN,G4.imp (d9 λ_ e=>⟨cs,.inr ⟨c,e⟩⟩),k4,b4⟩
 | .one .number=>exact .inl ⟨f5,d5,t5,(G5.imp (d9 λ_ e=>e)).mono (by omega),k5,b5⟩
 | .meet c d p q=>exact .inl ⟨f6,d6,t6,(G6.imp (d9 λ_ e=>⟨c,d,p,q,e⟩)).mono (by omega),k6,b6⟩
 | .one (.keep _ _)=>exact .inr ⟨u1,λ_=>rfl⟩
 | .one (.same _ _)=>exact .inr ⟨u2,λ_=>rfl⟩
 | .one (.turn _ _)=>exact .inr ⟨u3,λ_=>rfl⟩
 | .one (.sort _)=>exact .inr ⟨u4,λ_=>rfl⟩
 | .one .apart=>exact .inr ⟨u5,λ_=>rfl⟩
 | .one (.first _)=>exact .inr ⟨u6,λ_=>rfl⟩
 | .both _ _=>exact .inr ⟨u7,λ_=>rfl⟩
theorem D8{x:Wk}{hs:List Hd}(hn:hs.length=Dt x):∃h0,hs[0]? = some h0/\hs.headD []=h0:=by
 cases hs with
 | nil=>cases x <;> cases hn
 | cons h0 r=>exact⟨h0,rfl,rfl⟩
abbrev jB:Stmt:=top 41
theorem lA:az ["worker","heads","head_of_told"] ["worker","heads"] (ar jB):=fs
theorem uG{n:Nat}{aT:Addr}(mH:mg "HEADS_TOLD"=some (.ref aT))(GH:∀x:Wk,Ck P w K mg base aT n x)(F:FA K mg "head_told" jB) :
  bc bf P w K mg base 3 "head_told" ["worker","heads"] (dn n (λ_=>True)):=by
 refine F.ok lA λf cdv A outer s H vs Q E hr h=>?_
 obtain⟨a,l,x,as,hs,rfl,ha,hL,hn,hsm,ho,q⟩:=h
 refine⟨_,(aN (dc qR (aA K (pv 0) ai) (cS rfl mH (show RelV (.ref aT) (.ref aT) from rfl)) rfl) (bj K (pv 1) ai)
   (aq (aL (i:=2) lA.nd rfl (Or.inl rfl) (fX (r:=EJ K) ou (cS rfl mH (show RelV (.ref aT) (.ref aT) from rfl)) (aA K (pv 0) ai) (λ_ _=>rfl)))
   (ax (nJ (k:=2) (pv 2) hr uv (ae (pv 0) (ae (pv 1) ah)))))),?_⟩
 obtain⟨xs,h1⟩:=ha.first
 refine⟨_,rfl,a,_,0,_,rfl,rfl,aH.of h1,av (j:=0) rfl,aT,x.nm,rfl,rfl,?_⟩
 rcases GH x with⟨g,gd,JO,FG,kG,bG⟩ | ⟨hno,he⟩
 ·refine .inl ⟨⟨g,JO⟩,_,rfl,bB (aG ?_)⟩
  refine⟨_,rfl,a,_,0,_,rfl,rfl,aH.of h1,av (j:=0) rfl,aT,x.nm,g,rfl,rfl,JO,ak ?_⟩
  dsimp only
  exact⟨_,rfl,g,gd,_,_,rfl,FG,kG,bG,_,rfl,_,rfl,a,l,x,as,hs,rfl,ha,hL,hn,hsm,⟨rfl,ho.fit,ho.good,ho.ne,ho.sm⟩,q⟩
 ·refine .inr ⟨hno,_,rfl,bY ?_⟩
  obtain⟨h0,e0,eh⟩:=D8 hn
  obtain⟨a0,e0,gu⟩:=hL.nth e0
  refine⟨_,rfl,l,_,0,_,rfl,rfl,aZ.of hL.lst,av (j:=0) e0,q a0 H (aM.refl _) ?_⟩
  rw [he hs,eh]
  exact gu
def dF:Wk->List (List Wk)
 | .one _=>[]
 | .both p q=>[p,q]
 | .meet _ _ p q=>[p,q]
def Cs(n:Nat):Sp:=λvs H Q _=>∃(a:Addr) (x:Wk),vs=[.ref a]/\dk n H a x/\∀(u:Addr) (bs:List Addr) (H':Hp),aM H H'->bP (jo (n-1)) H' u bs (dF x)->Q (.ref u) H'
def Dm:List V:=[.str "both",.str "meet"]
def mL:List V:=[.str "keep",.str "same",.str "cut",.str "turn",.str "must"]
structure F6(K:Ve)(mg:Str->Option Value)(nm:Str)(a:Addr)(vs:List V):Prop where
 m:mg nm=some (.ref a)
 t:∀H,aH K H a vs
theorem rO{x y:Str}:FT (.str x) (.str y)=decide (y=x):=by
 show(x==y)=_
 by_cases h:x=y
 ·rw [h]; simp
 ·rw [UG (λe=>h e.symm)]
  exact beq_false_of_ne h
def bZ:Wk->Bool
 | .one _=>false
 | _=>true
def cD(s:Str):Bool:=inV (.str s) mL
theorem y3{x:Wk}:inV (.str x.nm) Dm=bZ x:=by
 cases x with
 | one x=>cases x <;> (simp only [Wk.nm,W1.nm,bZ]; decide +kernel)
 | both p q=>simp only [Wk.nm,bZ]; decide +kernel
 | meet c d p q=>simp only [Wk.nm,bZ]; decide +kernel
theorem uC{us:List V}{a b:V}:f_ (us++[a,b]) (some (-2)) none=[a,b]:=by
 unfold f_ HT.dH
 have hl:(us++[a,b]).length=us.length+2:=by simp
 rw [hl]
 show List.take (us.length+2-(if(-2:Int)<0 then((-2:Int)+((us.length+2:Nat):Int)).toNat else _)) (List.drop (if(-2:Int)<0 then((-2:Int)+((us.length+2:Nat):Int)).toNat else _) (us++[a,b]))=_
 rw [if_pos (by decide)]
 have:((-2:Int)+((us.length+2:Nat):Int)).toNat=us.length:=by omega
 rw [this,List.drop_left]
 simp
abbrev gG:Stmt:=top 2
theorem oj:az ["worker"] ["worker"] (ar gG):=fs
theorem Jw{n:Nat}{aB:Addr}(Cb:F6 K mg "BRANCHED" aB Dm)(F:FA K mg "branches_of" gG) :
  bc bf P w K mg base 1 "branches_of" ["worker"] (Cs n):=by
 refine F.ok oj λf cdv A outer s H vs Q E hr h=>?_
 obtain⟨a,x,rfl,ha,q⟩:=h
 refine⟨_,(ax (eM (dc cn (aA K (pv 0) ai) (cS (v:=.ref aB) rfl Cb.m rfl) rfl) (cu c_ (pv 0) (cB (rj l0 ai)) dz) (aJ ah))),?_⟩
 obtain⟨xs,h1⟩:=ha.first
 refine⟨_,rfl,a,_,0,_,rfl,rfl,aH.of h1,av (j:=0) rfl,aB,Dm,rfl,.inr (Cb.t _),rfl,rfl,_,rfl,?_⟩
 show if inV (.str x.nm) Dm=true then _ else _
 rw [y3]
 cases x with
 | one x =>
  refine bB ⟨wt,λp hp=>q p [] _ (aj hp _) ⟨ag,rfl,λi a x e=>by cases e⟩⟩
 | both p q' =>
  cases n with
  | zero=>exact False.elim ha
  | succ n =>
  obtain⟨b,c,bs,cs,h1,h2,h3⟩:=ha
  refine bY ⟨_,rfl,_,rfl,_,rfl,a,_,rfl,h1,λt H' s' ht=>?_⟩
  rw [show [V.str "both",.ref b,.ref c]=[V.str "both"]++[.ref b,.ref c] from rfl,uC]at ht
  refine q t [b,c] H' s' ⟨ht,rfl,λi a x e1 e2=>?_⟩
  have k:=aE.of s'
  match i with
  | 0=>cases e1; cases e2; exact jo.keep k ⟨bs,h2⟩
  | 1=>cases e1; cases e2; exact jo.keep k ⟨cs,h3⟩
  | i+2=>cases e1
 | meet c d p q' =>
  cases n with
  | zero=>exact False.elim ha
  | succ n =>
  obtain⟨b,e,bs,es,h1,h2,h3⟩:=ha
  refine bY ⟨_,rfl,_,rfl,_,rfl,a,_,rfl,h1,λt H' s' ht=>?_⟩
  rw [show [V.str "meet",.int c,.int d,.ref b,.ref e]=[V.str "meet",.int c,.int d]++[.ref b,.ref e] from rfl,uC]at ht
  refine q t [b,e] H' s' ⟨ht,rfl,λi a x e1 e2=>?_⟩
  have k:=aE.of s'
  match i with
  | 0=>cases e1; cases e2; exact jo.keep k ⟨bs,h2⟩
  | 1=>cases e1; cases e2; exact jo.keep k ⟨es,h3⟩
  | i+2=>cases e1
def au:Wk->Str
 | .one (.first n)=>if n<=0 then "first 0" else "first"
 | x=>x.nm
def xX(n:Nat):Sp:=λvs H Q _=>∃(a:Addr) (x:Wk),vs=[.ref a]/\dk n H a x/\Q (.str (au x)) H
theorem lg{x:Wk}(h:x.nm="first"):∃n,x=.one (.first n):=by
 revert h
 cases x with
 | one x=>cases x <;> simp only [Wk.nm,W1.nm] <;> first | (intro h; exact⟨_,rfl⟩) | (intro h; exact absurd h (by decide +kernel))
 | both p q=>simp only [Wk.nm]; intro h; exact absurd h (by decide +kernel)
 | meet c d p q=>simp only [Wk.nm]; intro h; exact absurd h (by decide +kernel)
theorem la{x:Wk}(h:x.nm≠"first"):au x=x.nm:=by
 cases x with
 | one x=>cases x <;> first | rfl | exact absurd rfl h
 | both p q=>rfl
 | meet c d p q=>rfl
abbrev gF:Stmt:=top 42
theorem oo:az ["worker"] ["worker"] (ar gF):=fs
theorem ED{n:Nat}(F:FA K mg "name_passed" gF) :
  bc bf P w K mg base 1 "name_passed" ["worker"] (xX n):=by
 refine F.ok oo λf cdv A outer s H vs Q E hr h=>?_
 obtain⟨a,x,rfl,ha,q⟩:=h
 refine⟨_,(aN (PW.pt (j7 (aW aP (aA K (pv 0) ai) ao) (iT (aW DO (aA K (pv 0) ai) ai)))) ao
   (ax (aA K (pv 0) ai))),?_⟩
 obtain⟨xs,h1⟩:=ha.first
 refine⟨_,rfl,a,_,0,_,rfl,rfl,aH.of h1,av (j:=0) rfl,rfl,_,rfl,?_⟩
 rw [bL]
 by_cases e:x.nm="first"
 ·rw [UH e]
  obtain⟨m,rfl⟩:=lg e
  have h1:H a=some (.tup [.str "first",.int m]):=bW.mp ha
  refine bY ⟨_,rfl,a,_,1,_,rfl,rfl,aH.of h1,rfl,_,_,rfl,rfl,_,rfl,?_⟩
  have q:Q (.str (if m<=0 then "first 0" else "first")) H:=q
  refine cG (λk=>?_) (λk=>aG ?_)
  ·rw [if_pos (Vd k)]at q
   exact q
  ·rw [if_neg (λz=>k (UH z))]at q
   exact⟨_,rfl,a,_,0,_,rfl,rfl,aH.of h1,rfl,q⟩
 ·rw [UG e]
  rw [la e]at q
  exact bB (bB (aG ⟨_,rfl,a,_,0,_,rfl,rfl,aH.of h1,av (j:=0) rfl,q⟩))
structure Kn where
 hd:Hd
 ps:List Str
 lo:Bool
def gq(H:Hp)(a:Addr)(k:Kn):Prop:=∃h p,H a=some (.tup [.ref h,.ref p,.bl k.lo])/\dX H h k.hd/\dX H p k.ps
theorem gq.same{H H':Hp}{a:Addr}{k:Kn}(s:aM H H')(h:gq H a k):gq H' a k:=by
 obtain⟨u,p,h1,h2,h3⟩:=h
 exact⟨u,p,s _ _ h1,s _ _ h2,s _ _ h3⟩
def jH:Wk->List Str->Bool
 | .one (.walk _ _),ps=>ps.all cD
 | .meet _ _ p q,_=>(p++q).all λw=>cD w.nm
 | _,_=>true
def Ee(x:Wk):Prop:=∀p∈dF x,p.length<=1000
def DC(n:Nat):Sp:=λvs H Q _=>∃(a b:Addr) (x:Wk) (k:Kn),vs=[.ref a,.ref b]/\dk n H a x/\gq H b k/\k.ps.length<=1000/\Ee x/\∀H',aM H H'->Q (.bl (jH x k.ps)) H'
theorem yr{x:Wk}(h:x.nm="walk"):∃c mv,x=.one (.walk c mv):=by
 revert h
 cases x with
 | one x=>cases x <;> simp only [Wk.nm,W1.nm] <;> first | (intro h; exact⟨_,_,rfl⟩) | (intro h; exact absurd h (by decide +kernel))
 | both p q=>simp only [Wk.nm]; intro h; exact absurd h (by decide +kernel)
 | meet c d p q=>simp only [Wk.nm]; intro h; exact absurd h (by decide +kernel)
theorem iH{x:Wk}(h:x.nm="meet"):∃c d p q,x=.meet c d p q:=by
 revert h
 cases x with
 | one x=>cases x <;> simp only [Wk.nm,W1.nm] <;> (intro h; exact absurd h (by decide +kernel))
 | both p q=>simp only [Wk.nm]; intro h; exact absurd h (by decide +kernel)
 | meet c d p q=>intro h; exact⟨_,_,_,_,rfl⟩
theorem C0{x:Wk}{ps:List Str}(h:x.nm≠"walk")(h2:x.nm≠"meet"):jH x ps=true:=by
 cases x with
 | one x=>cases x <;> first | rfl | exact absurd rfl h
 | both p q=>rfl
 | meet c d p q=>exact absurd rfl h2
abbrev kg:Stmt:=top 43
theorem uq:az ["worker","known"] ["worker","known"] (ar kg):=fs
theorem wx{n:Nat}{aO:Addr}(B2:iL mg)(Co:F6 K mg "ONE_ROW" aO mL)(F:FA K mg "rows_fit" kg)
  (gK:bc bf P w K mg base 1 "branches_of" ["worker"] (Cs n)) :
  bc bf P w K mg base 2 "rows_fit" ["worker","known"] (DC n):=by
 refine F.ok uq λf cdv A outer s H vs Q E hr h=>?_
 have hu:=iW hr
 obtain⟨a,b,x,k,rfl,ha,hk,hps,HH,q⟩:=h
 refine⟨_,(aN (aW aP (aA K (pv 0) ai) ao) (a_ (il rfl) rfl B2.all PyProof.Rows.boot_all (ae (bw (N':=["name"]) (src:=[none]) rfl (ba.jK (by kernel_rfl)) (cM (aA K (pv 1) ai)) (λcl C s H fp=>(eA (i:=0))) (λcl C s H fp=>aX) (te:=(gE (Hn K false) (bx 0) (tC (.ref aO)))) (λcl C s H fp=>(fF cn (i3 0) (cS (v:=.ref aO) xA Co.m rfl) rfl))) ah))
   (aN (aW aP (aA K (pv 0) ai) ao) (a_ (il rfl) rfl B2.all PyProof.Rows.boot_all (ae (qU (N':=["branch","inner"]) (src:=[none,none]) rfl (ba.jK (by kernel_rfl)) (cM (ay gK hr (ae (pv 0) ah))) (λcl C s H fp=>(eA (i:=0))) (λcl C s H fp=>aX) (wi2:=(Fs K (bx 0))) (λcl C s H fp=>(cM (i3 0))) (λcl C s H fp=>(eA (i:=1))) (λcl C s H fp=>aX) (te:=(gE (Hn K false) (gE (sy K) (bx 1) (tC (.int 0))) (tC (.ref aO)))) (λcl C s H fp=>(fF cn (aA K (i3 1) ai) (cS (v:=.ref aO) xA Co.m rfl) rfl))) ah))
   (ax fY))),?_⟩
 obtain⟨xs,h1⟩:=ha.first
 refine⟨_,rfl,a,_,0,_,rfl,rfl,aH.of h1,av (j:=0) rfl,rfl,_,rfl,?_⟩
 rw [bL]
 by_cases e:x.nm="walk"
 ·rw [UH e]
  obtain⟨c,mv,rfl⟩:=yr e
  obtain⟨hh,p,hk1,hk2,hk3⟩:=hk
  refine bY ⟨_,rfl,b,_,1,_,rfl,rfl,aH.of hk1,rfl,p,rfl,⟨_,aH.of hk3⟩,λD hD=>?_⟩
  refine cF (xs:=k.ps.map V.str) (λi σ ys H'=>(∃o,σ=[o])/\ys=((k.ps.take i).map cD).map V.bl/\ys.length=i/\H' D=some (.lst ys)/\aM H H') ⟨⟨none,rfl⟩,rfl,rfl,ag,aj hD _⟩ ?_ ?_ ?_ ?_ ?_
  ·rintro i σ ys H' _ ⟨_,_,hi,h,_⟩
   exact⟨h,Nat.le_of_eq hi⟩
  ·rintro i σ ys H' _ ⟨_,_,_,_,sm⟩
   exact aH.of (sm _ _ hk3)
  ·rw [UI]; exact UE hps (by decide)
  ·rintro i v σ ys H' hv ⟨⟨o,rfl⟩,rfl,hi,h,sm⟩
   rw [U5]at hv
   cases ec:k.ps[i]? with
   | none=>rw [ec]at hv; cases hv
   | some s0 =>
    rw [ec]at hv
    have hv:V.str s0=v:=U2 hv
    subst hv
    refine⟨_,rfl,aO,mL,rfl,.inr (Co.t _),rfl,rfl,h,⟨_,rfl⟩,?_,?_,ag,bq hD sm⟩
    ·rw [take_one ec,UK,UK]; rfl
    ·rw [UJ,hi]; rfl
  ·rintro σ ys H' ⟨_,rfl,_,h,sm⟩
   rw [UI,List.take_length]at h
   refine⟨D,_,rfl,aZ.of h,?_⟩
   rw [show(k.ps.map cD).all id=k.ps.all cD by rw [List.all_map]; rfl]
   exact q H' sm
 ·rw [UG e]
  refine bB (aG ⟨_,rfl,a,_,0,_,rfl,rfl,aH.of h1,av (j:=0) rfl,rfl,_,rfl,?_⟩)
  rw [bL]
  by_cases e2:x.nm="meet"
  ·rw [UH e2]
   obtain⟨c,d,p1,p2,rfl⟩:=iH e2
   refine bY ⟨_,rfl,a,_,rfl,ha,λu bs H1 s1 hI=>⟨u,rfl,⟨_,aH.of hI.tup⟩,λD hD=>?_⟩⟩
   let ws:Nat->List Wk:=λi=>(([p1,p2]:List (List Wk)).take i).flatten
   have hw1:p1.length<=1000:=HH p1 (by simp [dF])
   have hw2:p2.length<=1000:=HH p2 (by simp [dF])
   have hlb:(bs.map V.ref).length=2:=by rw [UI,hI.len]; rfl
   have hws:∀i,(ws i).length<=2000:=by
    intro i
    match i with
    | 0=>exact U1 _
    | 1=>show(p1++[]).length<=_; rw [List.append_nil]; omega
    | i+2=>show((p1::p2::List.take i []).flatten).length<=_; rw [List.take_nil]; show(p1++(p2++[])).length<=_; rw [List.append_nil,UJ]; omega
   refine qQ (xs:=bs.map V.ref) (λi σ ys H'=>(∃o1 o2,σ=[o1,o2])/\ys=(ws i).map (λw=>V.bl (cD w.nm))/\H' D=some (.lst ys)/\aM H1 H') ⟨⟨none,none,rfl⟩,rfl,ag,aj hD _⟩ ?_ ?_ ?_ ?_
   ·rintro i σ ys H' _ ⟨_,_,h,_⟩
    exact h
   ·rintro i σ ys H' _ ⟨_,_,_,sm⟩
    exact aH.of (sm _ _ hI.tup)
   ·rintro i v σ ys H' hv ⟨⟨o1,o2,rfl⟩,rfl,h,sm⟩
    obtain⟨b',pp,rfl,ep,cs,hJ⟩:=hI.get hv
    have hpl:pp.length<=1000:=HH pp (UP ep)
    refine ak ⟨_,rfl,b',rfl,⟨_,aH.of (sm _ _ hJ.tup)⟩,?_⟩
    refine lQ (xs:=cs.map V.ref) (λj σ zs H2=>(∃o,σ=[some (.ref b'),o])/\zs=(ws i).map (λw=>V.bl (cD w.nm))++(pp.take j).map (λw=>V.bl (cD w.nm))/\H2 D=some (.lst zs)/\aM H1 H2) ⟨⟨o2,rfl⟩,by rw [List.take_zero,List.map_nil,List.append_nil],h,sm⟩ ?_ ?_ ?_ ?_
    ·rintro j σ zs H2 hj ⟨_,rfl,h2,_⟩
     refine⟨h2,λ_=>?_⟩
     rw [UJ,UI,UI,U6]
     have:=hws i
     exact UL (show _<=3000 by omega) (by decide)
    ·rintro j σ zs H2 _ ⟨_,_,_,s2⟩
     exact aH.of (s2 _ _ hJ.tup)
    ·rintro j v2 σ zs H2 hu' ⟨⟨o,rfl⟩,rfl,h2,s2⟩
     obtain⟨c',wk,rfl,ew,hW⟩:=hJ.get hu'
     obtain⟨ys',hW⟩:=hW.first
     refine ak ⟨_,rfl,c',_,0,_,rfl,rfl,aH.of (s2 _ _ hW),av (j:=0) rfl,aO,mL,rfl,.inr (Co.t _),rfl,rfl,h2,⟨_,rfl⟩,?_,ag,bq hD s2⟩
     rw [take_one ew,UK,List.append_assoc]; rfl
    ·rintro σ zs H2 ⟨⟨o,rfl⟩,rfl,h2,s2⟩
     refine⟨⟨_,_,rfl⟩,?_,h2,s2⟩
     rw [UI,hJ.len,List.take_length,←UK]
     congr 1
     show _=((dF (.meet c d p1 p2)).take (i+1)).flatten
     rw [take_one ep,List.flatten_append]
     show _=_++(pp++[])
     rw [List.append_nil]
     rfl
   ·rintro σ ys H' ⟨_,rfl,h,sm⟩
    rw [hlb]at h
    refine⟨D,(p1++p2).map λw=>cD w.nm,rfl,aZ.of ?_,?_⟩
    ·rw [h,List.map_map]
     show some (HO.lst ((p1++(p2++[])).map _))=_
     rw [List.append_nil]
     rfl
    ·rw [List.all_map]
     exact q H' (s1.trans sm)
  ·rw [UG e2]
   rw [C0 e e2]at q
   exact bB (aG (q H (aM.refl _)))
theorem qT(ss:List Str):(ss.map V.str).all eW=true:=by
 rw [List.all_eq_true]
 intro v hv
 obtain⟨s,_,rfl⟩:=UW.mp hv
 rfl
def kK(ps:List Str)(s:Str):Bool:=inV (.str s) (ps.map V.str)
theorem Gf{ps:List Str}{s:Str}:kK ps s=true↔s∈ps:=by
 unfold kK inV
 rw [List.any_eq_true]
 constructor
 ·rintro⟨v,hv,e⟩
  obtain⟨t,ht,rfl⟩:=UW.mp hv
  rw [rO]at e
  rw [Vd e]
  exact ht
 ·intro h
  exact⟨.str s,UW.mpr ⟨s,h,rfl⟩,by rw [rO]; exact UH rfl⟩
def eZ:Wk->Kn->Bool
 | .one (.keep c _),k=>decide (bt k.hd c="t")
 | .one (.first n),k=>decide (¬n<=0)&&(kK k.ps "walk"||kK k.ps "both"||kK k.ps "meet")
 | .meet ..,k=>kK k.ps "walk"||kK k.ps "first"
 | _,_=>false
def keepIn(x:Wk)(h:Hd):Prop:=∀c t,x=.one (.keep c t)->1<=c/\c<=h.length
def zd(n:Nat):Sp:=λvs H Q _=>∃(a b:Addr) (x:Wk) (k:Kn),vs=[.ref a,.ref b]/\dk n H a x/\gq H b k/\keepIn x k.hd/\∀H',aM H H'->Q (.bl (eZ x k)) H'
theorem rL{x:Wk}(h:x.nm="keep"):∃c t,x=.one (.keep c t):=by
 revert h
 cases x with
 | one x=>cases x <;> simp only [Wk.nm,W1.nm] <;> first | (intro h; exact⟨_,_,rfl⟩) | (intro h; exact absurd h (by decide +kernel))
 | both p q=>simp only [Wk.nm]; intro h; exact absurd h (by decide +kernel)
 | meet c d p q=>simp only [Wk.nm]; intro h; exact absurd h (by decide +kernel)
theorem pZ{x:Wk}:au x="first"↔∃n,¬n<=(0:Int)/\x=.one (.first n):=by
 constructor
 ·intro h
  by_cases e:x.nm="first"
  ·obtain⟨n,rfl⟩:=lg e
   refine⟨n,λz=>?_,rfl⟩
   have h:(if n<=0 then("first 0" : Str)else "first")="first":=h
   rw [if_pos z]at h
   exact absurd h (by decide +kernel)
  ·rw [la e]at h
   exact absurd h e
 ·rintro⟨n,h,rfl⟩
  show(if n<=0 then("first 0" : Str)else "first")="first"
  rw [if_neg h]
theorem Ab{x:Wk}{k:Kn}(h1:x.nm≠"keep")(h2:au x≠"first")(h3:x.nm≠"meet"):eZ x k=false:=by
 match x with
 | .one (.keep _ _)=>exact absurd rfl h1
 | .one (.first n) =>
  have:n<=0:=by
   by_cases z:n<=0
   ·exact z
   ·exact absurd (pZ.mpr ⟨n,z,rfl⟩) h2
  show(decide (¬n<=0)&&_)=false
  rw [UG (λz=>z this)]
  rfl
 | .meet ..=>exact absurd rfl h3
 | .both ..=>rfl
 | .one (.same ..)=>rfl
 | .one (.cut ..)=>rfl
 | .one (.turn ..)=>rfl
 | .one (.must ..)=>rfl
 | .one (.walk ..)=>rfl
 | .one (.sort ..)=>rfl
 | .one .apart=>rfl
 | .one (.count ..)=>rfl
 | .one (.sum ..)=>rfl
 | .one .number=>rfl
abbrev gO:Stmt:=top 45
theorem eT:az ["worker","known","head","passed","loose"] ["worker","known"] (ar gO):=fs
theorem Cm{n:Nat}{tk:Tok}(B3:Ao mg)(mT:mg "TALLY"=some (.str "t" tk))(F:FA K mg "makes_loose" gO)
  (gW:bc bf P w K mg base 1 "name_passed" ["worker"] (xX n)) :
  bc bf P w K mg base 2 "makes_loose" ["worker","known"] (zd n):=by
 refine F.ok eT λf cdv A outer s H vs Q E hr h=>?_
 have hu:=iW hr
 have hu1:=jW hr
 obtain⟨a,b,x,k,rfl,ha,hk,hkp,q⟩:=h
 refine⟨_,(aq (pD (pv 1) (cC rfl (aD (bT (i:=2) eT.nd rfl (Or.inl rfl)) (aD (bT (i:=3) eT.nd rfl (Or.inr rfl)) (aD (bT (i:=4) eT.nd rfl (Or.inl rfl)) bS)))))
   (aN (aW aP (aA K (pv 0) ai) ao) (bU aP (aA K (pv 2) (aF bJ (aA K (pv 0) ai) ai)) (cS (v:=.str "t") rfl mT ⟨_,rfl⟩))
   (aN (aW aP (ay gW hr (ae (pv 0) ah)) ao) (a_ (l_ rfl) rfl B3.any PyProof.Rows.boot_any (ae (bw (N':=["name","passed"]) (src:=[none,some 3]) rfl (ba.jK (by kernel_rfl)) (cM (aJ (ae ao (ae ao (ae ao ah))))) (λcl C s H fp=>(eA (i:=0))) (λcl C s H fp=>aX) (te:=(gE (Hn K false) (bx 0) (bx 1))) (λcl C s H fp=>(fF cn (i3 0) (yV 1) rfl))) ah))
   (aN (aW aP (aA K (pv 0) ai) ao) (a_ (l_ rfl) rfl B3.any PyProof.Rows.boot_any (ae (bw (N':=["name","passed"]) (src:=[none,some 3]) rfl (ba.jK (by kernel_rfl)) (cM (aJ (ae ao (ae ao ah)))) (λcl C s H fp=>(eA (i:=0))) (λcl C s H fp=>aX) (te:=(gE (Hn K false) (bx 0) (bx 1))) (λcl C s H fp=>(fF cn (i3 0) (yV 1) rfl))) ah))
   (ax fY))))),?_⟩
 obtain⟨xs,h1⟩:=ha.first
 obtain⟨hh,p,hk1,hk2,hk3⟩:=hk
 refine⟨_,rfl,b,_,rfl,aH.of hk1,rfl,_,_,rfl,ak ⟨_,_,rfl,ak ⟨_,_,rfl,ak ⟨rfl,?_⟩⟩⟩⟩
 dsimp only
 refine⟨_,rfl,a,_,0,_,rfl,rfl,aH.of h1,av (j:=0) rfl,rfl,_,rfl,?_⟩
 rw [bL]
 by_cases e:x.nm="keep"
 ·rw [UH e]
  obtain⟨c,t,rfl⟩:=rL e
  obtain⟨st,ys,hx1,hx2⟩:=bW.mp ha
  refine bY ⟨_,rfl,_,rfl,a,_,1,_,rfl,rfl,aH.of hx1,rfl,_,_,rfl,rfl,hh,_,_,_,rfl,rfl,aH.of hk2,dE (hkp c t rfl),rfl,?_⟩
  rw [bL]
  exact q H (aM.refl _)
 rw [UG e]
 refine bB (aG ⟨_,rfl,a,x,rfl,ha,rfl,_,rfl,?_⟩)
 rw [bL]
 by_cases e2:au x="first"
 ·rw [UH e2]
  obtain⟨m,hm,rfl⟩:=pZ.mp e2
  refine bY ⟨gv,λu hu=>?_⟩
  have su:=aj hu (.tup [V.str "walk",.str "both",.str "meet"])
  have hu1:upd H u (.tup [V.str "walk",.str "both",.str "meet"]) u=_:=ag
  revert su hu1
  generalize upd H u (.tup [V.str "walk",.str "both",.str "meet"])=H1
  intro su hu1
  refine⟨u,rfl,⟨_,aH.of hu1⟩,λD hD=>?_⟩
  refine cF (xs:=(["walk","both","meet"]:List Str).map V.str) (λi σ ys H'=>(∃o,σ=[o,some (.ref p)])/\ys=(((["walk","both","meet"]:List Str).take i).map (kK k.ps)).map V.bl/\ys.length=i/\H' D=some (.lst ys)/\aM H1 H') ⟨⟨none,rfl⟩,rfl,rfl,ag,aj hD _⟩ ?_ ?_ ?_ ?_ ?_
  ·rintro i σ ys H' _ ⟨_,_,hi,h,_⟩
   exact⟨h,Nat.le_of_eq hi⟩
  ·rintro i σ ys H' _ ⟨_,_,_,_,sm⟩
   exact aH.of (sm _ _ hu1)
  ·decide
  ·rintro i v σ ys H' hv ⟨⟨o,rfl⟩,rfl,hi,h,sm⟩
   rw [U5]at hv
   cases ec:(["walk","both","meet"]:List Str)[i]? with
   | none=>rw [ec]at hv; cases hv
   | some s0 =>
    rw [ec]at hv
    have hv:V.str s0=v:=U2 hv
    subst hv
    refine⟨_,rfl,_,rfl,p,_,rfl,.inr (aH.of (sm _ _ (su _ _ hk3))),rfl,qT _,h,⟨_,rfl⟩,?_,?_,ag,bq hD sm⟩
    ·rw [take_one ec,UK,UK]; rfl
    ·rw [UJ,hi]; rfl
  ·rintro σ ys H' ⟨_,rfl,_,h,sm⟩
   refine⟨D,_,rfl,aZ.of h,?_⟩
   have q:=q H' (su.trans sm)
   have q:Q (.bl (decide (¬m<=0)&&(kK k.ps "walk"||kK k.ps "both"||kK k.ps "meet"))) H':=q
   rw [UH hm,Bool.true_and]at q
   show Q (.bl (kK k.ps "walk"||(kK k.ps "both"||(kK k.ps "meet"||false)))) H'
   rw [Bool.or_false,←Bool.or_assoc]
   exact q
 rw [UG e2]
 refine bB (aG ⟨_,rfl,a,_,0,_,rfl,rfl,aH.of h1,av (j:=0) rfl,rfl,_,rfl,?_⟩)
 rw [bL]
 by_cases e3:x.nm="meet"
 ·rw [UH e3]
  obtain⟨c,d,p1,p2,rfl⟩:=iH e3
  refine bY ⟨cJ,λu hu=>?_⟩
  have su:=aj hu (.tup [V.str "walk",.str "first"])
  have hu1:upd H u (.tup [V.str "walk",.str "first"]) u=_:=ag
  revert su hu1
  generalize upd H u (.tup [V.str "walk",.str "first"])=H1
  intro su hu1
  refine⟨u,rfl,⟨_,aH.of hu1⟩,λD hD=>?_⟩
  refine cF (xs:=(["walk","first"]:List Str).map V.str) (λi σ ys H'=>(∃o,σ=[o,some (.ref p)])/\ys=(((["walk","first"]:List Str).take i).map (kK k.ps)).map V.bl/\ys.length=i/\H' D=some (.lst ys)/\aM H1 H') ⟨⟨none,rfl⟩,rfl,rfl,ag,aj hD _⟩ ?_ ?_ ?_ ?_ ?_
  ·rintro i σ ys H' _ ⟨_,_,hi,h,_⟩
   exact⟨h,Nat.le_of_eq hi⟩
  ·rintro i σ ys H' _ ⟨_,_,_,_,sm⟩
   exact aH.of (sm _ _ hu1)
  ·decide
  ·rintro i v σ ys H' hv ⟨⟨o,rfl⟩,rfl,hi,h,sm⟩
   rw [U5]at hv
   cases ec:(["walk","first"]:List Str)[i]? with
   | none=>rw [ec]at hv; cases hv
   | some s0 =>
    rw [ec]at hv
    have hv:V.str s0=v:=U2 hv
    subst hv
    refine⟨_,rfl,_,rfl,p,_,rfl,.inr (aH.of (sm _ _ (su _ _ hk3))),rfl,qT _,h,⟨_,rfl⟩,?_,?_,ag,bq hD sm⟩
    ·rw [take_one ec,UK,UK]; rfl
    ·rw [UJ,hi]; rfl
  ·rintro σ ys H' ⟨_,rfl,_,h,sm⟩
   refine⟨D,_,rfl,aZ.of h,?_⟩
   have q:=q H' (su.trans sm)
   have q:Q (.bl (kK k.ps "walk"||kK k.ps "first")) H':=q
   show Q (.bl (kK k.ps "walk"||(kK k.ps "first"||false))) H'
   rw [Bool.or_false]
   exact q
 rw [UG e3]
 rw [Ab e e2 e3]at q
 exact bB (aG (q H (aM.refl _)))
def jf:Wk->Bool
 | .one (.must ..)=>true
 | _=>false
def r_(x:Wk)(k:Kn)(hs:List Hd):Option Str :=
 if c9 x hs=true then
  if bg x hs=true then
   if(bE x hs).length<=6 then
    if jH x k.ps=true then
     if(jf x&&k.lo)=true then some "loose" else none
    else some "rows"
   else some "wide"
  else some "sort"
 else some "column"
def wV:Option Str->V
 | none=>.non
 | some s=>.str s
structure AN(x:Wk):Prop where
 sm:kj x
 good:goodW x
 ne:QA x
 wide:Ee x
def Hf(n:Nat):Sp:=λvs H Q _=>∃(a b l:Addr) (x:Wk) (k:Kn) (as:List Addr) (hs:List Hd),vs=[.ref a,.ref b,.ref l]/\dk n H a x/\gq H b k/\f9 H l as hs/\hs.length=Dt x/\AN x/\k.ps.length<=1000/\(∀h∈hs,h.length<=1000)/\∀H',aM H H'->Q (wV (r_ x k hs)) H'
theorem za{x:Wk}:decide (x.nm="must")=jf x:=by
 cases x with
 | one x=>cases x <;> (simp only [Wk.nm,W1.nm,jf]; first | exact UH rfl | decide +kernel | exact UG (by decide +kernel))
 | both p q=>simp only [Wk.nm,jf]; exact UG (by decide +kernel)
 | meet c d p q=>simp only [Wk.nm,jf]; exact UG (by decide +kernel)
abbrev lU:Stmt:=top 44
theorem xV:az ["worker","known","heads"] ["worker","known","heads"] (ar lU):=fs
theorem Ad{n:Nat}(B:jU mg){tw:Tok}(mW:mg "WIDEST_ROW"=some (.int 6 tw))(F:FA K mg "why_not" lU)
  (qp:bc bf P w K mg base 2 "columns_fit" ["worker","heads"] (dA n c9 λ_ _=>True))
  (uM:bc bf P w K mg base 4 "sorts_fit" ["worker","heads"] (dA n bg (qz λ_=>True)))
  (je:bc bf P w K mg base 3 "head_told" ["worker","heads"] (dn n λ_=>True))
  (xm:bc bf P w K mg base 2 "rows_fit" ["worker","known"] (DC n)) :
  bc bf P w K mg base 5 "why_not" ["worker","known","heads"] (Hf n):=by
 refine F.ok xV λf cdv A outer s H vs Q E hr h=>?_
 have hu:=iW hr
 obtain⟨a,b,l,x,k,as,hs,rfl,ha,hk,hL,hn,hok,hps,TJ,q⟩:=h
 refine⟨_,(aN (sH (fw (ay qp hr (ae (pv 0) (ae (pv 2) ah))))) ao
   (aN (sH (fw (ay uM hr (ae (pv 0) (ae (pv 2) ah))))) ao
   (aN (aW ie (a_ bF rfl B.len PySem.boot_len (ae (ay je hr (ae (pv 0) (ae (pv 2) ah))) ah)) (cS (v:=.int 6) rfl mW ⟨_,rfl⟩)) ao
   (aN (sH (fw (ay xm hr (ae (pv 0) (ae (pv 1) ah))))) ao
   (aN (PW.pt (j7 (aW aP (aA K (pv 0) ai) ao) (iT (fw (aA K (pv 1) ai))))) ao
   (ax iQ)))))),?_⟩
 unfold r_ at q
 refine⟨_,rfl,_,rfl,a,l,x,as,hs,rfl,ha,hL,hn,hok.sm,trivial,λH1 s1=>⟨_,rfl,?_⟩⟩
 by_cases e1:c9 x hs=false
 ·rw [e1]
  rw [if_neg (by rw [e1]; decide)]at q
  exact bY (q H1 s1)
 have e1:c9 x hs=true:=by simpa using e1
 rw [e1]
 rw [if_pos e1]at q
 have ha1:=ha.keep (aE.of s1)
 refine bB (aG ⟨_,rfl,_,rfl,a,l,x,as,hs,rfl,ha1,hL.same s1,hn,hok.sm,⟨trivial,e1,hok.good⟩,λH2 s2=>⟨_,rfl,?_⟩⟩)
 have s12:=s1.trans s2
 by_cases e2:bg x hs=false
 ·rw [e2]
  rw [if_neg (by rw [e2]; decide)]at q
  exact bY (q H2 s12)
 have e2:bg x hs=true:=by simpa using e2
 rw [e2]
 rw [if_pos e2]at q
 have ha2:=ha.keep (aE.of s12)
 refine bB (aG ⟨_,rfl,_,rfl,a,l,x,as,hs,rfl,ha2,hL.same s12,hn,hok.sm,⟨trivial,e1,hok.good,hok.ne,TJ⟩,λu H3 s3 hu=>?_⟩)
 have qe:=s12.trans s3
 refine⟨u,_,rfl,.inr (aH.of hu),_,_,rfl,rfl,_,rfl,?_⟩
 rw [UI]
 by_cases e3:¬(bE x hs).length<=6
 ·rw [if_neg e3]at q
  rw [UH (show(6:Int)<((bE x hs).length:Nat) by omega)]
  exact bY (q H3 qe)
 have e3:(bE x hs).length<=6:=by omega
 rw [if_pos e3]at q
 rw [UG (show¬(6:Int)<((bE x hs).length:Nat) by omega)]
 have ha3:=ha.keep (aE.of qe)
 refine bB (aG ⟨_,rfl,_,rfl,a,b,x,k,rfl,ha3,hk.same qe,hps,hok.wide,λH4 s4=>⟨_,rfl,?_⟩⟩)
 have qj:=qe.trans s4
 by_cases e4:jH x k.ps=false
 ·rw [e4]
  rw [if_neg (by rw [e4]; decide)]at q
  exact bY (q H4 qj)
 have e4:jH x k.ps=true:=by simpa using e4
 rw [e4]
 rw [if_pos e4]at q
 have Rt:=ha.keep (aE.of qj)
 obtain⟨xs,h1⟩:=Rt.first
 refine bB (aG ⟨_,rfl,a,_,0,_,rfl,rfl,aH.of h1,av (j:=0) rfl,rfl,_,rfl,?_⟩)
 rw [bL,za]
 cases e5:jf x with
 | false =>
  rw [e5]at q
  exact bB (bB (aG (q H4 qj)))
 | true =>
  rw [e5,Bool.true_and]at q
  obtain⟨hh,p,hk1,_⟩:=hk.same qj
  refine bY ⟨_,rfl,b,_,2,_,rfl,rfl,aH.of hk1,rfl,_,rfl,?_⟩
  refine cG (λz=>?_) (λz=>aG ?_)
  ·rw [if_pos z]at q
   exact q H4 qj
  ·rw [if_neg z]at q
   exact q H4 qj
end My
namespace L2
open PySem PySem.Spec PyProof.Rows
section
variable{X:Cx}{N':List Str}{src:List (Option Nat)}{sc:Scope}{elt t1 i1 t2 i2:Expr}{f1 f2:List Expr}{pos:Pos}{wi wi2:TI}{g g2:TG}{tc tK:TT}{te:TE}
theorem va{i:Nat}{x:Str}{pos' spos:Pos}(hN:X.N.Nodup)(hi':X.N[i]? = some x)(hx:Loc X.env.scope x)(hsw:swapsWith (qM elt t1 i1 f1 t2 i2 f2 sc pos) (some (.Name x pos')) spos.line X.env=pure true)
  (hc:X.calm=true) (S:ba X.env.scope X.N N' src sc) (hi:PI X t1 i1 wi)
  (hg:∀cl C s H fp,PG (aK X N' sc cl C s H fp) t1 g) (ht:∀cl C s H fp,i9 (aK X N' sc cl C s H fp) f1 tc)
  (hi2:∀cl C s H fp,PI (aK X N' sc cl C s H fp) t2 i2 wi2) (hg2:∀cl C s H fp,PG (aK X N' sc cl C s H fp) t2 g2) (Cj:∀cl C s H fp,i9 (aK X N' sc cl C s H fp) f2 tK)
  (he:∀cl C s H fp,PE (aK X N' sc cl C s H fp) elt te)
  (hf:X.fn x=true\/X.env.scope.names.lookup x=some .local:=by first | exact .inl rfl | exact .inr rfl | assumption)
  (hs:∀x,foldedSetIterable i1 X.env x=pure x:=by intro _; rfl) (hs2:∀(env:Env) x,foldedSetIterable i2 env x=pure x:=by intro _ _; rfl) :
  PS X (.Assign [.Name x pos'] (qM elt t1 i1 f1 t2 i2 f2 sc pos) spos) (BC (DI src wi g tc wi2 g2 tK te) (bz i)):=by
 intro pins s σ H D I h
 rw [exec_Assign_Name_used _ _ _ _ hsw]
 refine Uy (wpAny_standAt (Uy ?_))
 show wpAny _ _ (comprehension _ _ _ _ _ _ _ _ >>= _) _ _ s
 refine Uy (wpAny_comprehension_free (use:=some (assign (.Name x pos') X.env)) rfl hs (cV λy hy hk=>I.ok.has y.1 (S.free y hy hk)) S.kind (λy hy hl=>by rw [←hl]; exact S.uniq y hy) ?_)
 refine b_ (hi pins s σ H _ I h) λv s1 h1=>b_ h1 λitv s2 h2=>?_
 obtain⟨it,fp,tn,J,H2,e,I2,T,st2,Ks,hW⟩:=h2
 subst e
 refine mr (Q:=λy H'=>D.nx (σ.set i (some y)) H') (RR:=λacc C=>compPost (model X.prog X.w) X.A X.xe (some (assign (.Name x pos') X.env)) _ acc C) hc S hg ht hi2 hg2 Cj he hs2 I2 T st2 Ks hW ?_
 intro D' C s5 H' m I5 n5 fC q
 refine wpAny_assign_Name (lW I5 hN hi' hx (show RelV (.ref D') (.ref D') from rfl) (λs6 I6 hsb=>?_) hf)
 obtain⟨a,sb,ha⟩:=hsb
 have OH:C≠a:=by
  rcases ha with z | z
  ·rw [z]; exact fC.2.1
  ·exact λe=>fC.2.2.2.2.1 x a z e.symm
 refine⟨m,n5.sameBut sb OH,λh' OA=>?_⟩
 refine Uz (Uz ?_)
 exact⟨_,H',I6.turned (t':=s6.toks) (λb o hb e=>(OA.2 b hb).trans e) fC.1 fC.2.1 fC.2.2.2.1 fC.2.2.2.2.1 fC.2.2.2.2.2,q⟩
end
end L2
namespace My
open PySem L2
structure jh(H:Hp)(l:Addr)(as:List Addr)(ks:List Kn):Prop where
 lst:H l=some (.lst (as.map V.ref))
 len:as.length=ks.length
 at_:∀(i:Nat) a k,as[i]? = some a->ks[i]? = some k->gq H a k
theorem jh.same{H H':Hp}{l:Addr}{as:List Addr}{ks:List Kn}(s:aM H H')(h:jh H l as ks):jh H' l as ks:=⟨s _ _ h.lst,h.len,λi a k e1 e2=>(h.at_ i a k e1 e2).same s⟩
theorem jh.get{H:Hp}{l:Addr}{as:List Addr}{ks:List Kn}(h:jh H l as ks){i:Nat}{x:V}(hx:(as.map V.ref)[i]? = some x):∃(a:Addr) (k:Kn),x=.ref a/\ks[i]? = some k/\gq H a k:=by
 rw [U5]at hx
 cases e:as[i]? with
 | none=>rw [e]at hx; cases hx
 | some b =>
  rw [e]at hx
  have hx':V.ref b=x:=U2 hx
  subst hx'
  have hi:i<ks.length:=by rw [←h.len]; exact(UT.mp e).1
  have er:ks[i]? = some ks[i]:=UN hi
  exact⟨b,ks[i],rfl,er,h.at_ i b _ e er⟩
def Ay(ps ns:List Str):Prop:=ps.Pairwise v3/\∀s,s∈ps↔s∈ns
def jP(ks:List Kn):List Hd:=ks.map λk=>k.hd
structure OV(x:Wk)(k:Kn)(ks:List Kn):Prop where
 n:ks.length=Dt x
 ok:AN x
 fit:c9 x (jP ks)=true
 keep:keepIn x k.hd
 hd:∀k∈ks,k.hd.length<=1000
 ps:∀k∈ks,k.ps.length<=20
def vR(n:Nat):Sp:=λvs H Q _=>∃(a b l:Addr) (x:Wk) (k:Kn) (as:List Addr) (ks:List Kn),vs=[.ref a,.ref b,.ref l]/\dk n H a x/\gq H b k/\jh H l as ks/\OV x k ks/\
 ∀(u:Addr) (k':Kn) (H':Hp),aM H H'->gq H' u k'->k'.hd=bE x (jP ks)->Ay k'.ps (ks.flatMap (λk=>k.ps)++[au x])->k'.lo=(eZ x k||ks.any λk=>k.lo)->Q (.ref u) H'
theorem DH{x:Wk}:Dt x<=2:=by cases x <;> simp [Dt]
theorem CP{ks:List Kn}{m:Nat}(hl:ks.length<=m)(h:∀k∈ks,k.ps.length<=20):(ks.flatMap λk=>k.ps).length<=20*m:=by
 induction ks generalizing m with
 | nil=>exact U1 _
 | cons k ks ih =>
  rw [List.flatMap_cons,UJ]
  have h1:=h k (by simp)
  have h2:=ih (m:=m-1) (by simp at hl; omega) λk hk=>h k (by simp [hk])
  simp at hl
  omega
theorem yw{H:Hp}{D:Addr}{ks:List Kn}{bs:List Addr}(h:H D=some (.lst (bs.map V.ref)))(hl:bs.length=ks.length)(ha:∀(i:Nat) a k,bs[i]? = some a->ks[i]? = some k->dX H a k.hd):f9 H D bs (jP ks):=by
 refine⟨h,by rw [hl,jP,UI],λi a r e1 e2=>?_⟩
 rw [jP,U5]at e2
 cases ek:ks[i]? with
 | none=>rw [ek]at e2; cases e2
 | some k =>
  rw [ek]at e2
  cases e2
  exact ha i a k e1 ek
abbrev gm:Stmt:=top 46
theorem i5:az ["worker","known","told","names"] ["worker","known","told"] (ar gm):=fs
variable{P:Program}{w:World}{K:Ve}{mg:Str->Option Value}{base:Heap}
theorem zX{n:Nat}(B:jU mg)(B2:iL mg)(B3:Ao mg)(F:FA K mg "known_behind" gm)
  (je:bc bf P w K mg base 3 "head_told" ["worker","heads"] (dn n λ_=>True))
  (gW:bc bf P w K mg base 1 "name_passed" ["worker"] (xX n))
  (qJ:bc bf P w K mg base 2 "makes_loose" ["worker","known"] (zd n)) :
  bc bf P w K mg base 4 "known_behind" ["worker","known","told"] (vR n):=by
 refine F.ok i5 λf cdv A outer s H vs Q E hr h=>?_
 have hu:=iW hr
 have hu1:=jW hr
 obtain⟨a,b,l,x,k,as,ks,rfl,ha,hk,hL,ho,q⟩:=h
 refine⟨_,(aq (va (i:=3) (N':=["head","passed","loose","name"]) (src:=[none,none,none,none]) i5.nd rfl (Or.inl rfl) rfl rfl (ba.jK (by kernel_rfl)) (fj (pv 2)) (g:=(iO K 3 (bO (bz 0) (bO (bz 1) (bO (bz 2) iX))))) (λcl C s H fp=>(cC rfl (aD (eA (i:=0)) (aD (eA (i:=1)) (aD (eA (i:=2)) bS))))) (λcl C s H fp=>aX) (wi2:=(Fs K (bx 1))) (λcl C s H fp=>(cM (i3 1))) (λcl C s H fp=>(eA (i:=3))) (λcl C s H fp=>aX) (te:=(bx 3)) (λcl C s H fp=>(i3 3)))
   (ax (aJ (ae (ay je hr (ae (pv 0) (ae (bw (N':=["head","passed","loose"]) (src:=[none,none,none]) rfl (ba.jK (by kernel_rfl)) (fj (pv 2)) (g:=(iO K 3 (bO (bz 0) (bO (bz 1) (bO (bz 2) iX))))) (λcl C s H fp=>(cC rfl (aD (eA (i:=0)) (aD (eA (i:=1)) (aD (eA (i:=2)) bS))))) (λcl C s H fp=>aX) (te:=(bx 0)) (λcl C s H fp=>(i3 0))) ah))) (ae (aV bA rfl B.tuple PyProof.Rows.boot_tuple (ae (kE rfl rfl B2.sorted rfl B2.set (aF og (pv 3) (aQ (ae (ay gW hr (ae (pv 0) ah)) ah)))) ah)) (ae (fQ (ay qJ hr (ae (pv 0) (ae (pv 1) ah))) (cZ (a_ (l_ rfl) rfl B3.any PyProof.Rows.boot_any (ae (bw (N':=["head","passed","loose"]) (src:=[none,none,none]) rfl (ba.jK (by kernel_rfl)) (fj (pv 2)) (g:=(iO K 3 (bO (bz 0) (bO (bz 1) (bO (bz 2) iX))))) (λcl C s H fp=>(cC rfl (aD (eA (i:=0)) (aD (eA (i:=1)) (aD (eA (i:=2)) bS))))) (λcl C s H fp=>aX) (te:=(bx 2)) (λcl C s H fp=>(i3 2))) ah)))) ah)))))),?_⟩
 have hn2:ks.length<=2:=by rw [ho.n]; exact DH
 have hla:(as.map V.ref).length=ks.length:=by rw [UI,hL.len]
 refine⟨_,rfl,l,rfl,⟨_,aZ.of hL.lst⟩,λD hD=>?_⟩
 have hfl:∀i,((ks.take i).flatMap λk=>k.ps).length<=40:=λi=>CP (m:=2) (by rw [U6]; omega) λk hk=>ho.ps k (List.mem_of_mem_take hk)
 refine xq (xs:=as.map V.ref) (λi σ ys H'=>(∃o1 o2 o3 o4,σ=[o1,o2,o3,o4])/\ys=((ks.take i).flatMap λk=>k.ps).map V.str/\H' D=some (.lst ys)/\aM H H') ⟨⟨none,none,none,none,rfl⟩,rfl,ag,aj hD _⟩ ?_ ?_ ?_ ?_
 ·rintro i σ ys H' _ ⟨_,_,h,_⟩
  exact h
 ·rintro i σ ys H' _ ⟨_,_,_,sm⟩
  exact aZ.of (sm _ _ hL.lst)
 ·rintro i v σ ys H' hv ⟨⟨o1,o2,o3,o4,rfl⟩,rfl,h,sm⟩
  obtain⟨b',k',rfl,ek,hh,p,hk1,hk2,hk3⟩:=hL.get hv
  have hpl:k'.ps.length<=20:=ho.ps k' (UP ek)
  refine⟨b',_,rfl,aH.of (sm _ _ hk1),rfl,_,_,rfl,ak ⟨_,_,rfl,ak ⟨_,_,rfl,ak ⟨rfl,?_⟩⟩⟩⟩
  refine⟨_,rfl,p,rfl,⟨_,aH.of (sm _ _ hk3)⟩,?_⟩
  refine lQ (xs:=k'.ps.map V.str) (λj σ zs H2=>(∃o1 o2 o3 o4,σ=[o1,o2,o3,o4])/\zs=((ks.take i).flatMap λk=>k.ps).map V.str++(k'.ps.take j).map V.str/\H2 D=some (.lst zs)/\aM H H2) ⟨⟨_,_,_,_,rfl⟩,by rw [List.take_zero,List.map_nil,List.append_nil],h,sm⟩ ?_ ?_ ?_ ?_
  ·rintro j σ zs H2 hj ⟨_,rfl,h2,_⟩
   refine⟨h2,λ_=>?_⟩
   rw [UJ,UI,UI,U6]
   have:=hfl i
   exact UL (show _<=60 by omega) (by decide)
  ·rintro j σ zs H2 _ ⟨_,_,_,s2⟩
   exact aH.of (s2 _ _ hk3)
  ·rintro j v2 σ zs H2 hu' ⟨⟨o1,o2,o3,o4,rfl⟩,rfl,h2,s2⟩
   rw [U5]at hu'
   cases es:k'.ps[j]? with
   | none=>rw [es]at hu'; cases hu'
   | some s0 =>
    rw [es]at hu'
    have hv2:V.str s0=v2:=U2 hu'
    subst hv2
    refine ak ⟨_,rfl,h2,⟨_,_,_,_,rfl⟩,?_,ag,bq hD s2⟩
    rw [take_one es,UK,List.append_assoc]; rfl
  ·rintro σ zs H2 ⟨⟨o1,o2,o3,o4,rfl⟩,rfl,h2,s2⟩
   refine⟨⟨_,_,_,_,rfl⟩,?_,h2,s2⟩
   rw [UI,List.take_length,←UK,take_one ek,List.flatMap_append]
   show _=(_++(k'.ps++[])).map V.str
   rw [List.append_nil]
 ·rintro σ ys H1 ⟨_,rfl,h1,s1⟩
  rw [hla,List.take_length]at h1
  have hfl:=hfl ks.length
  rw [List.take_length]at hfl
  refine ak ?_
  dsimp only
  have hL1:=hL.same s1
  refine⟨_,rfl,_,rfl,l,rfl,⟨_,aZ.of hL1.lst⟩,λD2 hD2=>?_⟩
  refine dJ (xs:=as.map V.ref) (λi σ ys H'=>(∃o1 o2 o3,σ=[o1,o2,o3])/\(∃bs:List Addr,ys=bs.map V.ref/\bs.length=i/\∀(j:Nat) a k,bs[j]? = some a->ks[j]? = some k->dX H1 a k.hd)/\H' D2=some (.lst ys)/\aM H1 H') ⟨⟨none,none,none,rfl⟩,⟨[],rfl,rfl,λj a k e=>by cases e⟩,ag,aj hD2 _⟩ ?_ ?_ ?_ ?_ ?_
  ·rintro i σ ys H' _ ⟨_,⟨bs,rfl,hi,_⟩,h,_⟩
   exact⟨h,by rw [UI]; exact Nat.le_of_eq hi⟩
  ·rintro i σ ys H' _ ⟨_,_,_,sm⟩
   exact aZ.of (sm _ _ hL1.lst)
  ·rw [hla]; exact UE hn2 (by decide)
  ·rintro i v σ ys H' hv ⟨⟨o1,o2,o3,rfl⟩,⟨bs,rfl,hi,hb⟩,h,sm⟩
   obtain⟨b',k',rfl,ek,hh,p,hk1,hk2,hk3⟩:=hL1.get hv
   refine⟨b',_,rfl,aH.of (sm _ _ hk1),rfl,_,_,rfl,ak ⟨_,_,rfl,ak ⟨_,_,rfl,ak ⟨rfl,?_⟩⟩⟩⟩
   refine⟨_,rfl,h,⟨_,_,_,rfl⟩,⟨bs++[hh],by rw [UK]; rfl,by rw [UJ,hi]; rfl,λj a k e1 e2=>?_⟩,ag,bq hD2 sm⟩
   by_cases hj:j<bs.length
   ·rw [U4 hj]at e1
    exact hb j a k e1 e2
   ·have hj':j=bs.length:=by
     have:=(UT.mp e1).1
     rw [UJ]at this
     simp at this
     omega
    rw [hj',U3 (UD _),Nat.sub_self]at e1
    cases e1
    rw [hj',hi,ek]at e2
    cases e2
    exact hk2
  ·rintro σ ys H2 ⟨_,⟨bs,rfl,hi,hb⟩,h2,s2⟩
   rw [hla]at hi
   have s12:=s1.trans s2
   refine⟨a,D2,x,bs,jP ks,rfl,ha.keep (aE.of s12),yw h2 hi (λi a k e1 e2=>s2 _ _ (hb i a k e1 e2)),by rw [jP,UI,ho.n],ho.ok.sm,⟨trivial,ho.fit,ho.ok.good,ho.ok.ne,λh hh=>by obtain⟨k,hk,rfl⟩:=UW.mp hh; exact ho.hd k hk⟩,λu1 H3 s3 hu1=>?_⟩
   have qe:=s12.trans s3
   refine⟨_,rfl,_,rfl,a,x,rfl,ha.keep (aE.of qe),dP,λu2 hu2=>?_⟩
   have s4:=aj hu2 (.lst [V.str (au x)])
   refine⟨D,u2,_,_,rfl,rfl,s4 _ _ (s3 _ _ (s2 _ _ h1)),ag,by rw [UI]; exact UE (show _+1<=41 by omega) (by decide),λu3 v5=>?_⟩
   have s5:=aj v5 (.lst (((ks.flatMap λk=>k.ps).map V.str)++[V.str (au x)]))
   have hmap:(ks.flatMap λk=>k.ps).map V.str++[V.str (au x)]=((ks.flatMap λk=>k.ps)++[au x]).map V.str:=by rw [UK]; rfl
   refine⟨u3,_,rfl,.inl (aZ.of ag),?_,.inr ⟨_,hmap⟩,λu4 ys x6 hS=>?_⟩
   ·rw [UJ,UI]
    show _+1<64
    omega
   have s6:=aj x6 (.lst ys)
   have hys:∃ms:List Str,ys=ms.map V.str/\Ay ms ((ks.flatMap λk=>k.ps)++[au x]):=by
    rcases hS with⟨ns,ms,e1,e2,_⟩ | ⟨ns,ms,e1,e2,e3,e4⟩
    ·rw [hmap]at e1
     cases ns with
     | nil=>rw [UK]at e1; simp at e1
     | cons n ns =>
      exfalso
      have:V.int n∈((ks.flatMap λk=>k.ps)++[au x]).map V.str:=by rw [e1]; simp
      obtain⟨s,_,e⟩:=UW.mp this
      cases e
    ·rw [hmap]at e1
     have:ns=(ks.flatMap λk=>k.ps)++[au x]:=(List.map_inj_right (f:=V.str) (λa b e=>V.str.inj e)).mp e1.symm
     subst this
     exact⟨ms,e2,e3,e4⟩
   obtain⟨ms,rfl,hms⟩:=hys
   refine⟨u4,_,rfl,.inl ⟨aZ.of ag,λu5 TQ=>?_⟩⟩
   have s7:=aj TQ (.tup (ms.map V.str))
   have Ni:=s4.trans (s5.trans (s6.trans s7))
   have Jt:upd (upd (upd (upd H3 u2 (.lst [V.str (au x)])) u3 (.lst (((ks.flatMap λk=>k.ps).map V.str)++[V.str (au x)]))) u4 (.lst (ms.map V.str))) u5 (.tup (ms.map V.str)) u5=some (.tup (ms.map V.str)):=ag
   revert Ni Jt
   generalize upd (upd (upd (upd H3 u2 (.lst [V.str (au x)])) u3 (.lst (((ks.flatMap λk=>k.ps).map V.str)++[V.str (au x)]))) u4 (.lst (ms.map V.str))) u5 (.tup (ms.map V.str))=H4
   intro Ni Jt
   have qj:=qe.trans Ni
   refine⟨_,rfl,_,rfl,a,b,x,k,rfl,ha.keep (aE.of qj),hk.same qj,ho.keep,λH5 s8=>?_⟩
   have Lb:=qj.trans s8
   have fin:∀(v:Bool) (H6:Hp),aM H5 H6->v=(eZ x k||ks.any λk=>k.lo)->∀u6,H6 u6=none->Q (.ref u6) (upd H6 u6 (.tup [.ref u1,.ref u5,.bl v])):=by
    intro v H6 s9 hv u6 RI
    have Cw:=aj RI (.tup [.ref u1,.ref u5,.bl v])
    have MO:=(s8.trans s9).trans Cw
    exact q u6 ⟨bE x (jP ks),ms,v⟩ _ ((Lb.trans s9).trans Cw) ⟨u1,u5,ag,MO _ _ (Ni _ _ hu1),MO _ _ Jt⟩ rfl hms hv
   refine⟨_,rfl,cG (λe=>?_) (λe=>?_)⟩
   ·exact⟨gv,fin true H5 (aM.refl _) (by rw [e]; rfl)⟩
   have Og:=hL.same Lb
   refine⟨_,rfl,l,rfl,⟨_,aZ.of Og.lst⟩,λD3 QO=>?_⟩
   refine dJ (xs:=as.map V.ref) (λi σ ys H'=>(∃o1 o2 o3,σ=[o1,o2,o3])/\ys=((ks.take i).map λk=>k.lo).map V.bl/\ys.length=i/\H' D3=some (.lst ys)/\aM H5 H') ⟨⟨none,none,none,rfl⟩,rfl,rfl,ag,aj QO _⟩ ?_ ?_ ?_ ?_ ?_
   ·rintro i σ ys H' _ ⟨_,_,hi,h,_⟩
    exact⟨h,Nat.le_of_eq hi⟩
   ·rintro i σ ys H' _ ⟨_,_,_,_,sm⟩
    exact aZ.of (sm _ _ Og.lst)
   ·rw [hla]; exact UE hn2 (by decide)
   ·rintro i v σ ys H' hv ⟨⟨o1,o2,o3,rfl⟩,rfl,hi,h,sm⟩
    obtain⟨b',k',rfl,ek,hh,p,hk1,hk2,hk3⟩:=Og.get hv
    refine⟨b',_,rfl,aH.of (sm _ _ hk1),rfl,_,_,rfl,ak ⟨_,_,rfl,ak ⟨_,_,rfl,ak ⟨rfl,?_⟩⟩⟩⟩
    refine⟨_,rfl,h,⟨_,_,_,rfl⟩,?_,?_,ag,bq QO sm⟩
    ·rw [take_one ek,UK,UK]; rfl
    ·rw [UJ,hi]; rfl
   ·rintro σ ys H' ⟨_,rfl,_,h,sm⟩
    rw [hla,List.take_length]at h
    refine⟨D3,_,rfl,aZ.of h,gv,fin _ H' sm ?_⟩
    rw [UY.mpr e,Bool.false_or,List.any_map]
    rfl
end My
namespace L2
open PySem PySem.Spec PyProof.Rows
section
variable{X:Cx}{tg e:Expr}
theorem PG.yC{g:TG}(h:PG X.yC tg g):PG X tg g:=λpins s σ H v u Q I r hw =>
 U8 (h pins s σ H v u Q (I.wish _) r hw) (λ_ _ ⟨σ',H',I',q⟩=>⟨σ',H',I'.de,q⟩) λ_ _ z=>False.elim z
theorem i9.yC{ifs:List Expr}{t:TT}(h:i9 X.yC ifs t):i9 X ifs t:=λpins s σ H Q I hw =>
 U8 (h pins s σ H Q (I.wish _) hw) (λ_ _ ⟨H',I',q⟩=>⟨H',I'.de,q⟩) λ_ _ z=>False.elim z
end
section
variable{X:Cx}{elt target iter:Expr}{ifs:List Expr}{sc:Scope}{pos:Pos}{wi:TI}{g:TG}{tc:TT}{te:TE}{N':List Str}{src:List (Option Nat)}{E:XK}{L:Addr}
theorem xl{it acc:Value}{env:Env}{prog:Program}{w:World}{A:Around}{s:Shared}{R:Result->Shared->Prop}{F:Value->Shared->Prop}(hF:∀ev s',F ev s'->notedBy (model prog w) A env (λx s'=>R (.error x) s') ev s')(Iv:Nat->Shared->Prop)
  (turn:∀n s,Iv n s->wpAny (model prog w) A (pyNext it) (λr s₁=>match r with
   | none=>R (.ok .next) s₁
   | some v=>wpAny (model prog w) A (letOwnedTupleGo target it v) (λ_ s₁'=>wpAny (model prog w) A (assign target env v) (λ_ s₂ =>
     wpAny (model prog w) A (forIn ifs true λc r=>if r=true then do let ok←isTrue c env (eval c env); pure (ForInStep.yield ok)else pure (ForInStep.yield r)) (λok s₃ =>
      if ok=true then wpAny (model prog w) A (eval elt env) (λx s₄ =>
       wpAny (model prog w) A (call (.builtin "list.append") [acc,x]) (λ_ s₅=>∃m,m<n/\Iv m s₅) F s₄) F s₃
      else∃m,m<n/\Iv m s₃) F s₂) F s₁') F s₁) F s)
  (n:Nat) (h:Iv n s):codeAny (model prog w) A (.compLoop (.ListComp elt [⟨target,iter,ifs,0⟩] sc pos) 0 it acc env) R s:=by
 refine codeAny_loop rfl Iv (λn s hI=>?_) n h
 show wpAny _ A ((compTurn (.ListComp elt [⟨target,iter,ifs,0⟩] sc pos) 0 it acc env).onRaise (λx=>do noteFrame x env; theTreesLotGoes x)) _ _ s
 refine wpAny_noted ?_
 rw [compTurn_list]
 refine U8 (E:=F) ?_ (λ_ _ z=>z) hF
 refine Uy (wpAny_standAt (Uy (b_ (turn n s hI) λr s₁ h₁=>?_)))
 cases r with
 | none=>exact Uz h₁
 | some v =>
  refine Uy (b_ h₁ λ_ s₁' h₁'=>Uy (b_ h₁' λ_ s₂ h₂=>Uy (b_ h₂ λok s₃ h₃=>?_)))
  cases ok with
  | false=>exact Uz ⟨rfl,h₃⟩
  | true=>exact Uy (Uy (b_ h₃ λx s₄ h₄=>Uy (b_ h₄ λ_ s₅ h₅=>Uz (Uz ⟨rfl,h₅⟩))))
theorem yc{pins:List (Addr×Obj)}{σ:St}{H2:Hp}{s3:Shared}{fp:List Addr}{cl:List (Str×Addr)}{use:Option (Value->Sem Unit)}{QQ:Value->Shared->Prop}{acc:Value}{ev:Value}{s':Shared}(tp:Top X L)(I3:Inv X pins σ H2 s3)
  (f3:∀b∈fp,dC X pins H2 b) (h:XE (aK X N' sc cl s3.heap.objs.size s3 H2 fp) E ev s') :
  notedBy (model X.prog X.w) X.A (compEnvC sc cl s3.heap.objs.size X.env) (λx s''=>compPost (model X.prog X.w) X.A (XE X E) use QQ acc s3.heap.objs.size (.error x) s'') ev s':=by
 obtain⟨e,C,od,σ',H,rfl,I,f,hE⟩:=h
 have R8:Top (aK X N' sc cl s3.heap.objs.size s3 H2 fp) L:=⟨tp.ex,tp.fr⟩
 refine ny (X:=aK X N' sc cl s3.heap.objs.size s3 H2 fp) I.ok.frames R8 tp.fr I f λs5 T I5 f5=>?_
 obtain⟨m6,n6,_⟩:=id I5.loc
 have fin:∃m,s5.heap.Ns s3.heap.objs.size m/\∀h',Heap.SameBut s3.heap.objs.size s5.heap h'->∀cenv:Env,cenv.locals=s3.heap.objs.size->wpAny (model X.prog X.w) X.A (PySem.passOn "comprehension.variables-let-go" (.ref e) cenv:Sem Value) (λ_ _=>False) (XE X E) {s5 with heap:=h'}:=by
  refine⟨m6,n6,λh' sb cenv hcl=>?_⟩
  have J:Inv X [] σ H s5:=(I3.call' I5.os I5.base I5.hok I5.bare λb hb=>⟨(f3 b hb).2.2.2.1,(f3 b hb).2.1,(f3 b hb).2.2.2.2.1,(f3 b hb).2.2.2.2.2⟩).iK (pins':=[]) λp hp=>absurd hp (by simp)
  have fC:dC X [] H s3.heap.objs.size:=by
   have z:=I3.l5 (H':=H) (b:=s3.heap.objs.size) (UD _) I5.free
   exact⟨z.1,z.2.1,z.2.2.1,z.2.2.2.1,z.2.2.2.2.1,λp hp=>z.2.2.2.2.2 p (List.mem_append_left _ (by simpa using hp))⟩
  have J2:Inv X [] σ H {s5 with heap:=h'}:=J.turned (t':=s5.toks) (λb o hb z=>(sb.2 b hb).trans z) fC.1 fC.2.1 fC.2.2.2.1 fC.2.2.2.2.1 fC.2.2.2.2.2
  obtain⟨vs,sl,g1,g2⟩:=f5.obj
  obtain⟨oT,ts,t1,t2,t3⟩:=f5.tb.obj
  have Ky:∀b,H b≠none->b≠s3.heap.objs.size:=λb hb z=>hb (by rw [z]; exact I5.free)
  have neT:T≠s3.heap.objs.size:=λz=>by
   obtain⟨o,es,ep,ho,hd,_⟩:=n6
   have ho':s5.heap.get? s3.heap.objs.size=some o:=ho
   rw [z,ho']at t1
   cases t1
   rw [hd]at t2
   cases t2
  have f6:nX X H h' e C od T:=⟨f5.at_,⟨vs,sl,(sb.2 e (Ky e (by rw [f5.at_]; simp))).trans g1,g2⟩,f5.tb.free,UE I3.sz f5.tb.new,λp hp z=>by
   have:=(I3.pin p (List.mem_append_left _ hp)).1
   exact absurd (UM (UB this) f5.tb.new) (by rw [z]; exact Nat.lt_irrefl _),oT,ts,(sb.2 T neT).trans t1,t2,t3⟩
  obtain⟨vs',sl',Gy,RT⟩:=f6.obj
  unfold PySem.passOn
  refine Uy (wpAny_field Gy rfl RT ?_)
  have ne:¬((Value.ref T==Value.none)=true):=by simp
  rw [if_neg ne]
  have go:=ib (M:=model X.prog X.w) (A:=X.A) (E:=XE X E) (Q:=λ_ s7=>wpAny (model X.prog X.w) X.A (throw (.ref e):Sem Value) (λ_ _=>False) (XE X E) s7) J2 f6 cenv.frame λs7 I7 f7=>wpAny_throw ⟨e,C,od,σ,H,rfl,I7,f7.P9,hE⟩
  first
   | exact Uy go
   | exact Uy (Uz (Uy go))
 cases use <;> exact fin
theorem vi{pins:List (Addr×Obj)}{σ:St}{H2:Hp}{s2:Shared}{it:Addr}{fp:List Addr}{tn:Nat->Heap->Prop}{J:It}{Q:VK}{E2:Value->Shared->Prop}{use:Option (Value->Sem Unit)}{QQ:Value->Shared->Prop}
  (hc:X.calm=true) (tp:Top X L) (S:ba X.env.scope X.N N' src sc)
  (hg:∀cl C s H fp,PG ((aK X N' sc cl C s H fp).xs E) target g) (ht:∀cl C s H fp,i9 ((aK X N' sc cl C s H fp).xs E) ifs tc) (he:∀cl C s H fp,PE ((aK X N' sc cl C s H fp).xs E) elt te)
  (I2:Inv X pins σ H2 s2) (T:Turn X.prog X.w X.K target J fp it tn) (st2:tn 0 s2.heap) (f2:∀b∈fp,dC X pins H2 b)
  (hW:∀D,H2 D=none->∃W:Nat->Nat->St->List V->Hp->Prop,(∃m,W 0 m (jO src σ) [] (upd H2 D (.lst [])))/\pI J g tc te D Q W)
  (hRR:∀D C s5 H' m,Inv X pins σ H' s5->s5.heap.Ns C m->dC X pins H' C->Q (.ref D) H'->compPost (model X.prog X.w) X.A (XE X E) use QQ (.ref D) C (.ok .next) s5) :
  wpAny (model X.prog X.w) X.A (newList []) (λacc s₃=>wpAny (model X.prog X.w) X.A (newFunctionEnv sc X.env.globals (bM X.env.cells sc.names []) [] X.env.qual none .none (some X.env)) (λcenv s₄ =>
   codeAny (model X.prog X.w) X.A (.compStart (.ListComp elt [⟨target,iter,ifs,0⟩] sc pos) 0 (.ref it) acc {cenv with scope:=relabel sc X.env}) (compPost (model X.prog X.w) X.A (XE X E) use QQ acc cenv.locals) s₄) E2 s₃) E2 s2:=by
 have o2:∀b∈fp,b<s2.heap.objs.size:=λb hb=>by
  obtain⟨o,z,_⟩:=T.obj 0 _ st2 b hb
  exact UB z
 refine U_ ?_
 have JE:H2 s2.heap.objs.size=none:=I2.hok.fresh (UD _)
 obtain⟨W,⟨m0,w0⟩,turn⟩:=hW s2.heap.objs.size JE
 have I3:Inv X pins σ (upd H2 s2.heap.objs.size (.lst [])) {s2 with heap:=s2.heap.push {cls:=.type "list",dict:=none,data:=.seq ([]:List Value).toArray}} :=
  I2.laid (t':=s2.toks) (λb u z=>UA _ z) (UD _) ⟨U1 _,[],0,.nil,UC _ rfl⟩
 have st3:tn 0 (s2.heap.push {cls:=.type "list",dict:=none,data:=.seq ([]:List Value).toArray}):=T.keep 0 _ _ st2 λb hb o z=>UA _ z
 generalize hs3:({s2 with heap:=s2.heap.push {cls:=.type "list",dict:=none,data:=.seq ([]:List Value).toArray}}:Shared)=s3 at I3
 have hh3:s3.heap=s2.heap.push {cls:=.type "list",dict:=none,data:=.seq ([]:List Value).toArray}:=by rw [←hs3]
 have Er:s2.heap.objs.size<s3.heap.objs.size:=by rw [hh3,Heap.size_push]; exact Nat.lt_succ_self _
 have o3:∀b∈fp,b<s3.heap.objs.size:=λb hb=>Nat.lt_trans (o2 b hb) Er
 have f3:∀b∈fp,dC X pins (upd H2 s2.heap.objs.size (.lst [])) b:=λb hb=>⟨by rw [aI (U0 (o2 b hb))]; exact(f2 b hb).1,(f2 b hb).2⟩
 rw [←hh3]at st3
 refine wpAny_newFunctionEnv S.oA (by intro y hy; simp at hy) (λh1 hns hsb=>?_) S.kind
 have hsb':Heap.SameBut s3.heap.objs.size (s3.heap.push {cls:=.type "dict",data:=.dict #[]}) h1:=hsb
 generalize hY:aK X N' sc (bM X.env.cells sc.names []) s3.heap.objs.size s3 (upd H2 s2.heap.objs.size (.lst [])) fp=Y
 have I4:Inv Y [] (jO src σ) (upd H2 s2.heap.objs.size (.lst [])) {s3 with heap:=h1,toks:=s3.toks+([]:List (Str×Value)).length}:=by
  rw [←hY]
  exact iR S I3 f3 o3 hns hsb'
 have Bs:tn 0 h1:=T.keep 0 _ _ st3 λb hb o z=>(hsb'.2 b (U0 (o3 b hb))).trans (UA _ z)
 have fC:∀(H':Hp),H' s3.heap.objs.size=none->dC X pins H' s3.heap.objs.size:=λH' hn=>I3.l5 (UD _) hn
 have loop:codeAny (model X.prog X.w) X.A (.compLoop (.ListComp elt [⟨target,iter,ifs,0⟩] sc pos) 0 (.ref it) (.ref s2.heap.objs.size) (compEnvC sc (bM X.env.cells sc.names []) s3.heap.objs.size X.env))
   (compPost (model X.prog X.w) X.A (XE X E) use QQ (.ref s2.heap.objs.size) s3.heap.objs.size) {s3 with heap:=h1,toks:=s3.toks+([]:List (Str×Value)).length}:=by
  have stat:∀{H':Hp},(∀b∈fp,H' b=none)->∀b∈fp,dC (Y.xs E) [] H' b:=λhn b hb=>by
   have z:=I4.ok
   subst hY
   exact⟨hn b hb,(z.zw b hb).1,z.pH b hb,.inl hb,(z.zw b hb).2,λp hp=>absurd (show p∈([]:List (Addr×Obj)) from hp) (by simp)⟩
  have PL:=hg (bM X.env.cells sc.names []) s3.heap.objs.size s3 (upd H2 s2.heap.objs.size (.lst [])) fp
  have htY:=ht (bM X.env.cells sc.names []) s3.heap.objs.size s3 (upd H2 s2.heap.objs.size (.lst [])) fp
  have OT:=he (bM X.env.cells sc.names []) s3.heap.objs.size s3 (upd H2 s2.heap.objs.size (.lst [])) fp
  refine xl (F:=XE Y E) (λev s' hx=>by subst hY; exact yc tp I3 f3 hx) (λn s'=>∃i σ' ys H',Inv (Y.xs E) [] σ' H' s'/\tn i s'.heap/\(∀b∈fp,H' b=none)/\W i n σ' ys H') ?_ m0
   ⟨0,_,[],_,I4.wish _,Bs,λb hb=>(f3 b hb).1,w0⟩
  rintro n s5 ⟨i,nj,ys,H5,I5,uj,v8,w5⟩
  obtain⟨hD,alt⟩:=turn i n nj ys H5 w5
  subst hY
  rcases alt with⟨stop,qn⟩ | ⟨go,hsz,N,hN,step⟩
  ·refine b_ (T.done ((aK X N' sc (bM X.env.cells sc.names []) s3.heap.objs.size s3 (upd H2 s2.heap.objs.size (.lst [])) fp).xs E) rfl rfl rfl hc i [] s5 nj H5 _ I5 (stat v8) uj stop) λr s6 ⟨hr,I6⟩=>?_
   subst hr
   obtain⟨m6,n6,_⟩:=id I6.loc
   exact hRR _ _ s6 H5 m6 (I3.call' I6.os I6.base I6.hok I6.bare λb hb=>⟨(f3 b hb).2.2.2.1,(f3 b hb).2.1,(f3 b hb).2.2.2.2.1,(f3 b hb).2.2.2.2.2⟩) n6 (fC _ I6.free) qn
  ·refine b_ (T.item ((aK X N' sc (bM X.env.cells sc.names []) s3.heap.objs.size s3 (upd H2 s2.heap.objs.size (.lst [])) fp).xs E) rfl rfl rfl hc i [] s5 nj H5 _ I5 (stat v8) uj go) λr s6 ⟨u,hr,h6⟩=>?_
   subst hr
   refine b_ h6 λ_ s7 ⟨x,H7,I7,r7,y7,sY,ER⟩=>?_
   have GF:=I7.pinned (stat ER) (T.obj _ _ sY)
   refine b_ (PL _ s7 nj H7 x u _ GF r7 (step x H7 y7)) λ_ s8 ⟨ug,H8,I8,q8⟩=>?_
   refine b_ (htY _ s8 ug H8 _ I8 q8) λb s9 ⟨H9,I9,q9⟩=>?_
   have again:∀{σ':St} {H':Hp} {s':Shared} {ys':List V} {m':Nat},Inv ((aK X N' sc (bM X.env.cells sc.names []) s3.heap.objs.size s3 (upd H2 s2.heap.objs.size (.lst [])) fp).xs E) ([]++jn fp s7.heap) σ' H' s'->m'<n->W (i+1) m' σ' ys' H'->
     ∃m,m<n/\∃i σ' ys H',Inv ((aK X N' sc (bM X.env.cells sc.names []) s3.heap.objs.size s3 (upd H2 s2.heap.objs.size (.lst [])) fp).xs E) [] σ' H' s'/\tn i s'.heap/\(∀b∈fp,H' b=none)/\W i m σ' ys H':=λ{σ' H' s' ys' m'} I' hm w'=>by
    refine⟨m',hm,i+1,σ',ys',H',I'.fU,T.keep _ _ _ sY λb hb o z=>(I'.pin (b,o) (UO _ (UO _ (cK hb z)))).1,λb hb=>?_,w'⟩
    obtain⟨o,z,d⟩:=T.obj _ _ sY b hb
    exact(I'.pin (b,o) (UO _ (UO _ (cK hb z)))).2.1
   cases b with
   | false =>
    rw [if_neg UR]at q9⊢
    obtain⟨m',hm,w'⟩:=hN _ _ _ q9
    exact again I9 hm w'
   | true =>
    rw [if_pos rfl]at q9⊢
    refine b_ (OT _ s9 ug H9 _ I9 q9) λxv Cw ⟨v,AF,K8,r10,BE,w10⟩=>?_
    obtain⟨m',hm,w'⟩:=hN _ _ _ w10
    have LK:m4 (.ref s2.heap.objs.size) [v] AF λ_ H'=>H'=upd AF s2.heap.objs.size (.lst (ys++[v])):=⟨_,ys,v,rfl,rfl,BE,hsz,rfl⟩
    refine b_ (cX _ Cw ug AF _ _ _ _ _ K8 (show RelV (.ref s2.heap.objs.size) (.ref s2.heap.objs.size) from rfl) (.cons r10 .nil) LK) λ_ QL ⟨_,PK,GG,_,L8⟩=>?_
    rw [L8]at GG
    exact again GG hm w'
 exact codeAny_compStart_list loop (T.self _ 0 _ _ _ Bs loop)
theorem zY(hc:X.calm=true)(tp:Top X L)(S:ba X.env.scope X.N N' src sc)(hi:PI (X.xs E) target iter wi)
  (hg:∀cl C s H fp,PG ((aK X N' sc cl C s H fp).xs E) target g) (ht:∀cl C s H fp,i9 ((aK X N' sc cl C s H fp).xs E) ifs tc) (he:∀cl C s H fp,PE ((aK X N' sc cl C s H fp).xs E) elt te)
  (hs:∀x,foldedSetIterable iter X.env x=pure x:=by intro _; rfl) :
  PE (X.xs E) (.ListComp elt [⟨target,iter,ifs,0⟩] sc pos) (C7 src wi g tc te):=by
 intro pins s σ H Q I h
 rw [eval_ListComp]
 refine wpAny_comprehension_free (use:=none) rfl hs (cV λy hy hk=>I.ok.has y.1 (S.free y hy hk)) S.kind (λy hy hl=>by rw [←hl]; exact S.uniq y hy) ?_
 refine b_ (hi pins s σ H _ I h) λv s1 h1=>b_ h1 λitv s2 h2=>?_
 obtain⟨it,fp,tn,J,H2,z,I2,T,st2,f2,hW⟩:=h2
 subst z
 refine vi (Q:=Q) (QQ:=EP (X.xs E) pins σ Q) (use:=none) hc tp S hg ht he I2.de T st2 f2 hW ?_
 intro D C s5 H' m I5 n5 fC q
 refine⟨m,n5,λh' sb=>⟨.ref D,H',?_,rfl,q⟩⟩
 exact(I5.turned (t':=s5.toks) (λb o hb z=>(sb.2 b hb).trans z) fC.1 fC.2.1 fC.2.2.2.1 fC.2.2.2.2.1 fC.2.2.2.2.2).wish _
end
section
variable{X:Cx}{pins:List (Addr×Obj)}{σ:St}{H:Hp}{s:Shared}
theorem mZ{M:Model}{A:Around}{E2:Value->Shared->Prop}{i:Nat}{n:Str}{pos:Pos}{Q:Unit->Shared->Prop}(I:Inv X pins σ H s)(hN:X.N.Nodup)(hi:X.N[i]? = some n)(hk:X.env.scope.names.lookup n=some .local)
  (q:∀s',Inv X pins (σ.set i none) H s'->Q () s'):wpAny M A (do bindName X.env n .none; unbindBehindTheSuite X.env n pos) Q E2 s:=by
 refine Uy (wpAny_bindName (hZ I hN hi (.inl hk) (show RelV .non .none from rfl) (λs1 I1=>?_) (.inr hk)))
 have Ei:i<σ.length:=by rw [I.len]; exact(UT.mp hi).1
 obtain⟨m,hn,hl⟩:=id I1.loc
 obtain⟨u,ru,lk⟩:=hl i n .non hi (List.getElem?_set_self Ei) (.inl hk)
 have hv:m n=some u:=by
  rcases lk with⟨_,z⟩ | ⟨z,_⟩
  ·exact z
  ·have hk':X.env.kindOf n=some .local:=hk
   rw [hk']at z
   rcases z with z | z <;> cases z
 have hp:(X.env.scope.kind == .class||(X.env.scope.kind == .module&&X.env.locals != X.env.globals))=false:=by rw [I.ok.kind]; rfl
 unfold unbindBehindTheSuite
 refine wpAny_onRaise (wpAny_unbindName_local hk hn hv hp λh' u' hn' hs=>q _ ?_)
 obtain⟨oL,_,_,hoL,_⟩:=id hn
 have below:∀b o,X.s₀.heap.get? b=some o->b≠X.env.locals:=λb o z=>U0 (UM (UB z) I1.ok.above)
 refine⟨I1.ok,I1.os,I1.bare,⟨λb o z nn hb hx=>(hs.2 b (below b o z)).trans (I1.base.keep b o z nn hb hx),λb o z nn hb hx=>?_,I1.base.free,λb o z hx=>?_,I1.base.tups,I1.base.oZ,I1.base.qD⟩,⟨_,hn',λj y v' e1 e2 e3=>?_⟩,λy c z=>?_,I1.free,I1.fV,λp hp'=>?_,λb ob z=>?_,by simpa using I.len⟩
 ·obtain⟨sl,z1⟩:=I1.base.slot b o z nn hb hx
  exact⟨sl,(hs.2 b (below b o z)).trans z1⟩
 ·obtain⟨o',z1⟩:=I1.base.there b o z hx
  exact⟨o',(hs.2 b (below b o z)).trans z1⟩
 ·have hj:j≠i:=λz=>by
   rw [z,List.getElem?_set_self Ei]at e2
   cases e2
  rw [List.getElem?_set_ne (Ne.symm hj)]at e2
  obtain⟨u2,r2,Sz⟩:=hl j y v' e1 (by rw [List.getElem?_set_ne (Ne.symm hj)]; exact e2) e3
  refine⟨u2,r2,?_⟩
  have SD:y≠n:=λz=>hj (pE hN e1 (z▸hi))
  rcases Sz with⟨k,z⟩ | ⟨k,c,z1,z2⟩
  ·exact .inl ⟨k,by simp [SD,z]⟩
  ·exact .inr ⟨k,c,z1,z2.sameBut hs (I1.EX y c z1)⟩
 ·obtain⟨w',z1⟩:=I1.cell y c z
  exact⟨w',z1.sameBut hs (I1.EX y c z)⟩
 ·obtain⟨z1,z2,z3,z4,z5⟩:=I1.pin p hp'
  exact⟨(hs.2 p.1 z3).trans z1,z2,z3,z4,z5⟩
 ·refine(I1.hok b ob z).stay (λc w' hc z1=>(hs.2 c ?_).trans z1) (λ_ z1=>z1) λ_ _ z1=>z1
  rintro rfl
  rcases hc with rfl | hc
  ·rw [I1.free]at z; cases z
  ·rw [I1.free]at hc; cases hc
end
abbrev Cx.bear(X:Cx)(pins:List (Addr×Obj)):Cx:={X with pn:=X.pn++pins}
abbrev Cx.Gb(X:Cx)(e:Addr):Cx:={X with A:=X.A.mark (some (.ref e)),calm:=false,xe:=λ_ _=>False}
section
variable{X:Cx}{pins:List (Addr×Obj)}{σ:St}{H:Hp}{s:Shared}
theorem Inv.bear(I:Inv X pins σ H s):Inv (X.bear pins) [] σ H s :=
 ⟨⟨I.ok.mod,I.ok.kind,I.ok.glob,I.ok.blt,I.ok.above,I.ok.inj,I.ok.has,I.ok.cab,I.ok.hd,I.ok.frames,I.ok.J8,I.ok.zw,I.ok.bs,I.ok.A3,I.ok.um,I.ok.pH,I.ok.j8,I.ok.Ep⟩,I.os,I.bare,I.base,I.loc,I.cell,I.free,I.fV,λp hp=>I.pin p (by simpa using hp),I.hok,I.len⟩
theorem Inv.lH(I:Inv (X.bear pins) [] σ H s):Inv X pins σ H s :=
 ⟨⟨I.ok.mod,I.ok.kind,I.ok.glob,I.ok.blt,I.ok.above,I.ok.inj,I.ok.has,I.ok.cab,I.ok.hd,I.ok.frames,I.ok.J8,I.ok.zw,I.ok.bs,I.ok.A3,I.ok.um,I.ok.pH,I.ok.j8,I.ok.Ep⟩,I.os,I.bare,I.base,I.loc,I.cell,I.free,I.fV,λp hp=>I.pin p (by simpa using hp),I.hok,I.len⟩
theorem Inv.Gb(I:Inv X pins σ H s)(e:Addr):Inv (X.Gb e) pins σ H s :=
 ⟨⟨I.ok.mod,I.ok.kind,I.ok.glob,I.ok.blt,I.ok.above,I.ok.inj,I.ok.has,I.ok.cab,(λz=>absurd (show false=true from z) (by decide)),I.ok.frames,I.ok.J8,I.ok.zw,I.ok.bs,I.ok.A3,I.ok.um,I.ok.pH,I.ok.j8,I.ok.Ep⟩,I.os,I.bare,I.base,I.loc,I.cell,I.free,I.fV,I.pin,I.hok,I.len⟩
theorem Inv.F1{e:Addr}(ok:X.Ok)(I:Inv (X.Gb e) pins σ H s):Inv X pins σ H s:=⟨ok,I.os,I.bare,I.base,I.loc,I.cell,I.free,I.fV,I.pin,I.hok,I.len⟩
end
def PN(K:Ve)(tb:TS)(E:XK)(Cc:Addr)(i:Nat)(ts:TS):TS:=λD σ H=>tb D σ H/\∀(σ':St) (C e:Addr) (od:Option Addr) (H':Hp),σ'.length=σ.length->H' e=some (xO e C od)->E (.ref C) (some e) H'->
 PySem.W.exmOne K (.ref C) (.ref Cc)=some true/\ts {nx:=λdf H2=>D.nx (df.set i none) H2,rt:=D.rt,bk:=λdf H2=>D.bk (df.set i none) H2,ct:=λdf H2=>D.ct (df.set i none) H2} (σ'.set i (some (.ref e))) H'
theorem Kj{X:Cx}{E:XK}{L Cc:Addr}{i:Nat}{n x:Str}{body suite:List Stmt}{b0:Stmt}{np hpos pos:Pos}{tb ts:TS}(tp:Top X L)(hN:X.N.Nodup)(hi:X.N[i]? = some n)(hk:X.env.scope.names.lookup n=some .local)(hg:Gl X x)(hm:X.mg x=some (.ref Cc))
  (hb:∀pins,nN ((X.bear pins).xs E) body tb) (hs:∀e,nN (X.Gb e) (b0::suite) ts) (hdb:(x==("__debug__" : Str))=false:=by decide) :
  PS X (.Try body [.ExceptHandler (some (.Name x np)) (some n) (b0::suite) hpos] [] [] pos) (PN X.K tb E Cc i ts):=by
 intro pins s σ H D I h
 obtain⟨h1,h2⟩:=h
 have back:∀{f:Flow} {s1:Shared},SP ((X.bear pins).xs E) [] D f s1->SP X pins D f s1:=λ{f s1} z=>by
  cases f with
  | next=>obtain⟨σ',H',I',q⟩:=z; exact⟨σ',H',I'.de.lH,q⟩
  | brk=>obtain⟨σ',H',I',q⟩:=z; exact⟨σ',H',I'.de.lH,q⟩
  | cont=>obtain⟨σ',H',I',q⟩:=z; exact⟨σ',H',I'.de.lH,q⟩
  | ret u=>obtain⟨v,σ',H',I',r,q⟩:=z; exact⟨v,σ',H',I'.de.lH,r,q⟩
 refine wpAny_Try_except (U8 (hb pins [] s σ H D (I.bear.wish _) h1) (λf s1 z=>?_) λev s1 hx=>?_)
 ·cases f with
  | next=>exact wpAny_execs_nil (back z)
  | brk=>exact back (f:=.brk) z
  | cont=>exact back (f:=.cont) z
  | ret u=>exact back (f:=.ret u) z
 obtain⟨e,C,od,El,H1,rfl,I1,f1,hE⟩:=hx
 have SK:Top (X.bear pins) L:=⟨tp.ex,tp.fr⟩
 have hlen:El.length=σ.length:=by rw [I1.len]; exact I.len.symm
 obtain⟨hm1,hts⟩:=h2 El C e od H1 hlen f1.at_ hE
 refine ny (X:=X.bear pins) I1.ok.frames SK tp.fr I1 f1 λs2 T I2 f2=>?_
 refine ib I2 f2 none λs3 I3 f3=>?_
 refine wpAny_handleBy_cons (codeAny_handlers_test ?_) (by intro z; cases z)
 have Qe:Inv (X.Gb e) pins El H1 s3:=I3.lH.Gb e
 refine nh (X:=X.Gb e) Qe hg hm ?_ hdb
 obtain⟨⟨fl,sl,KI⟩,_⟩:=I3.hok e _ f3.at_
 have LT:PySem.W.Looks (model X.prog X.w) s3.heap (typeOf (.ref e)) (.ref C):=(PySem.W.Looks.ld KI).andThen .now
 refine(PySem.W.exm_one Qe.jJ LT hm1).here ?_
 refine codeAny_handlers_suite_as ?_
 refine ib I3 f3 none λs5 I5 f5=>?_
 refine hZ (X:=X.Gb e) (I5.lH.Gb e) hN hi (.inl hk) (show RelV (.ref e) (.ref e) from rfl) (λs6 I6=>?_) (.inr hk)
 refine U8 (hs e pins s6 _ H1 _ I6 hts) (λf s7 z=>?_) λ_ _ z=>False.elim z
 cases f with
 | next=>obtain⟨σ',H',I',q⟩:=z; exact mZ (I'.F1 I.ok) hN hi hk λs8 I8=>⟨_,H',I8,q⟩
 | brk=>obtain⟨σ',H',I',q⟩:=z; exact mZ (I'.F1 I.ok) hN hi hk λs8 I8=>⟨_,H',I8,q⟩
 | cont=>obtain⟨σ',H',I',q⟩:=z; exact mZ (I'.F1 I.ok) hN hi hk λs8 I8=>⟨_,H',I8,q⟩
 | ret u=>obtain⟨v,σ',H',I',r,q⟩:=z; exact mZ (I'.F1 I.ok) hN hi hk λs8 I8=>⟨v,_,H',I8,r,q⟩
end L2
namespace L2
open PySem
end L2
namespace L2
open PySem PySem.Spec PyProof.Rows
abbrev KA(t:Addr):Array Value:=#[.ref t,.none,.none,.none,.bool false,.none]
abbrev xF(a C:Addr)(od:Option Addr):HO:=.ext λh=>∃t sl,h.get? a=some {cls:=.ref C,dict:=od,data:=.fields (KA t),slots:=sl}
section
variable{P:Program}{w:World}{H:Hp}{h h':Heap}{a C d:Addr}{od:Option Addr}{fs:List (Str×V)}{o:HO}
theorem HD{tt:Addr}{sl:Array (Option Value)}(e:h.get? a=some {cls:=.ref C,dict:=od,data:=.fields (KA tt),slots:=sl}):cz P w H h a (xF a C od) :=
 ⟨⟨tt,sl,e⟩,⟨_,e⟩,λ_ _ ⟨tt,sl,e⟩ k=>⟨tt,sl,k _ e⟩⟩
end
section
variable{X:Cx}{pins:List (Addr×Obj)}{σ:St}{H:Hp}{s:Shared}{a C dx:Addr}{fs:List (Str×V)}{f:Str}{v y:V}{u:Value}{A:Around}{E:Value->Shared->Prop}
theorem J7{Q:Unit->Shared->Prop}(I:Inv X pins σ H s)(e:H a=some (xF a C (some dx)))(ed:H dx=some (xD dx fs))(c:jE X.K C)(n:iD X.K C f)(hz:fs.length<1000)(ry:RelV y u)
  (h:∀s',Inv X pins σ (upd H dx (xD dx (mK f y fs))) s'->Q () s'):wpAny (model X.prog X.w) A (setAttr (.ref a) f u) Q E s:=by
 obtain⟨⟨tt,sl,ha⟩,_⟩:=I.hok a _ e
 obtain⟨⟨mA,ns,r⟩,_⟩:=I.hok dx _ ed
 obtain⟨od,ho,hl⟩:=lT ns
 have J:PySem.W.InstAt s.heap a {cls:=.ref C,dict:=some dx,data:=.fields (KA tt),slots:=sl} C (some od):=⟨ha,rfl,rfl,ho⟩
 have wi:=q5 r
 have S3:(fs.map (·.1)).length+1<=sizeLine:=by rw [UI,sizeLine_eq]; omega
 obtain⟨cd,PE,hc,_,hd'⟩:=c.cls
 refine PySem.W.set_plain I.jJ J c.sa (rD (s:={s with toks:=s.toks+1}) c I.jJ J n λb=>?_)
 refine Uy (Uz (Uy (Uy (wpAny_loadPart ha (Uy (PySem.W.Looks.here (s:={s with toks:=s.toks+1}) (PySem.W.looks_clsIn I.jJ hc) ?_))))))
 rw [hd']
 refine Uz (a:=some dx) (Uy (Uz (Uy ?_)))
 refine wpAny_nsSet1 (s:={s with toks:=s.toks+1}) ns λh' hn2 hs2=>?_
 obtain⟨oD,esD,epD,hoD,hdD,hcD⟩:=hn2.count (PySem.Within.cons f u wi)
 refine Uy (wpAny_lookBehind hoD (by rw [hdD]; exact pastItsLine_dict (UE hcD (by rw [Vb]; exact Nat.le_succ_of_le S3))) ?_)
 refine Uz (h _ ?_)
 refine I.write (x:=dx) (e:=dx) (by rw [ed]; exact True.intro) (.inl rfl) (λb q hb z=>(hs2.2 b hb).trans z) ⟨_,hoD⟩ (DZ hn2 λg=>?_)
 show jq ((mK f y fs).lookup g) (if g=f then some u else mA g)
 rw [el]
 by_cases q:g=f
 ·rw [if_pos q,if_pos q]; exact ry
 ·rw [if_neg q,if_neg q]; exact r g
theorem J4{Q:Unit->Shared->Prop}(I:Inv X pins σ H s)(e:H a=some (xF a C none))(c:jE X.K C)(n:iD X.K C f)(ry:RelV y u)
  (h:∀dx s',H dx=none->Inv X pins σ (upd (upd (upd H dx (xD dx [])) a (xF a C (some dx))) dx (xD dx (mK f y []))) s'->Q () s'):wpAny (model X.prog X.w) A (setAttr (.ref a) f u) Q E s:=by
 obtain⟨⟨tt,sl,ha⟩,_⟩:=I.hok a _ e
 have J:PySem.W.InstAt s.heap a {cls:=.ref C,dict:=none,data:=.fields (KA tt),slots:=sl} C none:=⟨ha,rfl,rfl,True.intro⟩
 obtain⟨cd,PE,hc,_,hd'⟩:=c.cls
 refine PySem.W.set_plain I.jJ J c.sa (rD (s:={s with toks:=s.toks+1}) c I.jJ J n λb=>?_)
 refine Uy (Uz (Uy (Uy (wpAny_loadPart ha (Uy (PySem.W.Looks.here (s:={s with toks:=s.toks+1}) (PySem.W.looks_clsIn I.jJ hc) ?_))))))
 rw [hd']
 have na:a≠s.heap.objs.size:=U0 (UB ha)
 have fr:H s.heap.objs.size=none:=I.hok.fresh (UD _)
 have hgd:(s.heap.push {cls:=.type "dict",data:=.dict #[]}).get? s.heap.objs.size=some {cls:=.type "dict",data:=.dict #[]}:=UC _ rfl
 have hn0:(s.heap.push {cls:=.type "dict",data:=.dict #[]}).Ns1 s.heap.objs.size (λ_=>none):=Heap.Ns1.of_empty ⟨_,#[],_,hgd,rfl,λe he=>absurd he (by simp),λ_=>rfl⟩
 have I1:Inv X pins σ (upd H s.heap.objs.size (xD s.heap.objs.size [])) {s with heap:=s.heap.push {cls:=.type "dict",data:=.dict #[]},toks:=s.toks+1} :=
  I.laid (λb u q=>UA _ q) (UD _) (DZ hn0 λg=>True.intro)
 have ha1:(s.heap.push {cls:=.type "dict",data:=.dict #[]}).get? a=some {cls:=.ref C,dict:=none,data:=.fields (KA tt),slots:=sl}:=UA _ ha
 refine Uy (wpAny_alloc' ?_)
 refine Uy (wpAny_update' ha1 ?_)
 have ha2:((s.heap.push {cls:=.type "dict",data:=.dict #[]}).update a λo=>{cls:=o.cls,dict:=some s.heap.objs.size,data:=o.data,slots:=o.slots}).get? a=some {cls:=.ref C,dict:=some s.heap.objs.size,data:=.fields (KA tt),slots:=sl}:=Heap.get?_update_self _ ha1 rfl
 have I2:Inv X pins σ (upd (upd H s.heap.objs.size (xD s.heap.objs.size [])) a (xF a C (some s.heap.objs.size))) {s with heap:=(s.heap.push {cls:=.type "dict",data:=.dict #[]}).update a λo=>{cls:=o.cls,dict:=some s.heap.objs.size,data:=o.data,slots:=o.slots},toks:=s.toks+1} :=
  I1.write (x:=a) (e:=a) (by rw [aI na,e]; exact True.intro) (.inl rfl) (λb q hb z=>(Heap.get?_update_ne _ _ _ _ hb).trans z) ⟨_,ha2⟩ (HD ha2)
 have hd2:=I2.hok s.heap.objs.size (xD s.heap.objs.size []) (by rw [aI (Ne.symm na)]; exact ag)
 obtain⟨⟨mA,ns,r⟩,_⟩:=hd2
 refine Uz (Uy (Uz (Uy ?_)))
 refine wpAny_nsSet1 (s:={s with heap:=(s.heap.push {cls:=.type "dict",data:=.dict #[]}).update a λo=>{cls:=o.cls,dict:=some s.heap.objs.size,data:=o.data,slots:=o.slots},toks:=s.toks+1}) ns λh' hn2 hs2=>?_
 obtain⟨oD,esD,epD,hoD,hdD,hcD⟩:=hn2.count (PySem.Within.cons f u (q5 r))
 refine Uy (wpAny_lookBehind hoD (by rw [hdD]; exact pastItsLine_dict (UE hcD (by show 1<=sizeLine+1; exact Nat.succ_le_succ (U1 _)))) ?_)
 refine Uz (h s.heap.objs.size _ fr ?_)
 refine I2.write (x:=s.heap.objs.size) (e:=s.heap.objs.size) (by rw [aI (Ne.symm na),ag]; exact True.intro) (.inl rfl) (λb q hb z=>(hs2.2 b hb).trans z) ⟨_,hoD⟩ (DZ hn2 λg=>?_)
 show jq ((mK f y []).lookup g) (if g=f then some u else mA g)
 rw [el]
 by_cases q:g=f
 ·rw [if_pos q,if_pos q]; exact ry
 ·rw [if_neg q,if_neg q]; exact r g
end
section
variable{X:Cx}{CX:m8}{k:Nat}{f C:Addr}{fd:FuncData}{ps:List Str}{sp:Sp}{E:XK}{x:Str}{p pos:Pos}{e:Expr}{es:List Expr}{t:TA}
theorem Inv.Me{pins:List (Addr×Obj)}{σ:St}{H:Hp}{s:Shared}{h':Heap}{a:Addr}{rest:List Value}(I:Inv X pins σ H s)(m:Heap.MadeExcOf s.heap h' a (.ref C) rest):H a=none/\Inv X pins σ (upd H a (xF a C none)) {s with heap:=h'}:=by
 obtain⟨t,et,_,_⟩:=m.there
 have hn:=I.hok.none_of m.new
 exact⟨hn,I.un (t':=s.toks) (Un.laidN m.keeps m.new hn) (I.hok.laidN m.keeps m.new (HD et))⟩
def L9(C:Addr)(sp:Sp)(E:XK)(t:TA):TE:=λσ H Q=>t σ H λvs H1=>vs.length<=sizeLine/\∀a,H1 a=none->sp (.ref a::vs) (upd H1 a (xF a C none)) (λv H2=>v=.non/\Q (.ref a) H2) E
theorem Fc(hx:l8 X.K C z_ "ValueError.__new__" (some (.ref f))=true)(hk:PySem.W.keepIn X.K (.ref C)=true)(hf:PySem.W.isFn X.K (.ref f)=true)(F:e_ X.prog X.w X.K X.mg X.base CX k f fd ps sp)(hr:eK (k+1) X.A)(hg:Gl X x)(hm:X.mg x=some (.ref C))
  (hb:Binds X.K fd ps []) (hpx:Passes CX X E) (ha:PA X (e::es) t)
  (hdb:(x==("__debug__" : Str))=false:=by decide) (he:starEach (e::es) X.env=(false,eval e X.env)::starEach es X.env:=by rfl) (hpl:(backTo pos (starEach es X.env)).any (·.1)=false:=by rfl) :
  PE X (.Call (.Name x p) (e::es) [] pos) (L9 C sp E t):=by
 intro pins s σ H Q I h
 refine wpAny_Call_Name_kw (nh I hg hm ?_ hdb)
 refine PySem.W.callWith_K (h₀:=X.base) I.ok.mod.Kw hk (b_ (ha pos pins s σ H _ I h) λus s1 ⟨vs,H1,I1,r,hz,q⟩=>⟨I1.jJ,?_⟩) he hpl
 obtain⟨bm,N,nm,q',bs,hd,sn,sub,ab,col,dd,k0,k1,k2,k3,k5,mN,hC,hN,hni,T⟩:=rn I1.jJ hx
 have hfn:∃oI,s1.heap.get? f=some oI/\oI.cls=.type "function":=by
  have z:PySem.W.typeIn X.K (.ref f)=some (.type "function"):=beq_iff_eq.mp hf
  obtain⟨o,ho,hc⟩:=Option.map_eq_some_iff.mp (show(X.K.lookup f).map (·.cls)=some _ from z)
  exact⟨o,I1.jJ _ _ ho,hc⟩
 obtain⟨oI,hfI,hfc⟩:=hfn
 obtain⟨hp,gs,dr,tk,os⟩:=s1
 refine pV PySem.F.excBase_ValueError T hC hN hni hfI hfc (λh' a m=>?_) (by show us.length<=sizeLine; rw [←r.length]; exact hz)
 obtain⟨hn,I2⟩:=I1.Me m
 have hq:=q a hn
 have r2:Vals (V.ref a::vs) (Value.ref a::us):=.cons rfl r
 have hl:(Value.ref a::us).length=ps.length:=by rw [←r2.length]; exact F.len _ _ _ _ hq
 have hl':((Value.ref a::us)++([]:List Value)).length=ps.length:=by rw [List.append_nil]; exact hl
 have hb':=hb _ (Value.ref a::us) I2.jJ hl'
 rw [List.append_nil]at hb'
 refine wpAny_call (codeAny_mono (F.run _ X.stack _ _ ⟨Value.ref a::us,[]⟩ (Value.ref a::us) _ _ E (hr.make C us []) (I2.env0.make C us []) hb' r2 hq) λr s' hq'=>?_)
 cases r with
 | error ee=>exact hpx pins σ _ _ ee s' I2 hq'
 | ok fl =>
  cases fl with
  | ret u =>
   obtain⟨v,H',I3,rv,ev,q3⟩:=I2.after hq'
   subst ev
   exact⟨rv,⟨V.ref a,H',I3,rfl,q3⟩⟩
  | next=>exact False.elim hq'
  | brk=>exact False.elim hq'
  | cont=>exact False.elim hq'
end
section
variable{X:Cx}{o value:Expr}{ta tv:TE}{f:Str}{pos pos':Pos}
def Im(K:Ve)(ta tv:TE)(f:Str):TS:=λD σ H=>tv σ H λy H1=>ta σ H1 λx H2=>∃a C,x=.ref a/\jE K C/\iD K C f/\
 ((H2 a=some (xF a C none)/\∀dx,H2 dx=none->D.nx σ (upd (upd (upd H2 dx (xD dx [])) a (xF a C (some dx))) dx (xD dx (mK f y []))))\/
  ∃dx fs,H2 a=some (xF a C (some dx))/\H2 dx=some (xD dx fs)/\fs.length<1000/\D.nx σ (upd H2 dx (xD dx (mK f y fs))))
theorem vD(ha:PE X o ta)(hv:PE X value tv)(hs:swapsWith value (some (.Attribute o f pos')) pos.line X.env=pure false):PS X (.Assign [.Attribute o f pos'] value pos) (Im X.K ta tv f):=by
 intro pins s σ H D I h
 refine plainObj_wpAny_Assign_Attribute (b_ (hv pins s σ H _ I h) λu s1 ⟨y,H1,I1,ry,q⟩=>b_ (ha pins s1 σ H1 _ I1 q) λov s2 ⟨x,H2,I2,rx,a,C,ex,c,n,q2⟩=>?_) hs
 subst ex
 obtain rfl:ov=Value.ref a:=rx
 rcases q2 with⟨ea,q3⟩ | ⟨dx,fs,ea,ed,l,q3⟩
 ·exact J4 I2 ea c n ry λdx s3 hn I3=>⟨σ,_,I3,q3 dx hn⟩
 ·exact J7 I2 ea ed c n l ry λs3 I3=>⟨σ,_,I3,q3⟩
end
end L2
namespace PySem
section
variable{M:Model}{A:Around}{E:Value->Shared->Prop}{env:Env}
variable{nm q:Str}{C N:Addr}{bs bm:List Value}{hdct:Bool}{sn:List Str}{sub:List Value}{ab:Bool}{col:Option Bool}{dd:Option Addr}{k0 k1 k2 k3 k5:Option Value}{newId:String}
theorem uT{s:Shared}{x:Sem Value}{Q:Flow->Shared->Prop}(hbase:bm.contains (.type "BaseException")=true)(hh:A.handled=none)
  (h:wpAny M A x (λv s₁=>∃e t od sl,v=.ref e/\s₁.heap.get? C=some (excClassObj nm q C N bs bm hdct sn sub ab col dd k0 k1 k2 k3 k5 newId)/\
   s₁.heap.get? e=some {cls:=.ref C,dict:=od,data:=.fields #[.ref t,.none,.none,.none,.bool false,.none],slots:=sl}/\E (.ref e) s₁) E s) :
  wpAny M A (raiseStmt env (some x) none) Q E s:=by
 have hcB:(Value.ref C::bm).contains (.type "BaseException")=true:=by rw [List.contains_cons,hbase,Bool.or_true]
 unfold raiseStmt
 refine Uy (U8 h (λv s₁ h₁=>?_) λ_ _ x=>x)
 obtain⟨e,t,od,sl,rfl,hC,he,hE⟩:=h₁
 obtain⟨hp,g,d,tk,os⟩:=s₁
 repeat (first | with_reducible refine wpAny_loadPart_at he ?_ | with_reducible refine wpAny_loadPart_at hC ?_ | (with_reducible refine wpAny_isSubtype_exc hC ?_; rw [hcB]) | wp_step)
 exact wpAny_raiseNew_none hh hE
end
end PySem
namespace L2
open PySem PySem.Spec PyProof.Rows
def F3(C:Addr)(E:XK)(te:TE):TS:=λ_ σ H=>te σ H λv H1=>∃a od,v=.ref a/\H1 a=some (xF a C od)/\E (.ref C) (some a) (upd H1 a (xO a C od))
theorem Af{X:Cx}{E:XK}{C:Addr}{pos:Pos}{e:Expr}{te:TE}{ini:Option Value}(hc:X.calm=true)(hx:l8 X.K C z_ "ValueError.__new__" ini=true)(he:PE (X.xs E) e te) :
  PS (X.xs E) (.Raise (some e) none pos) (F3 C E te):=by
 intro pins s σ H D I h
 obtain⟨bm,N,nm,q',bs,hd,sn,sub,ab,col,dd,k0,k1,k2,k3,k5,mN,hC,hN,hni,T⟩:=rn I.ok.mod.Kw hx
 rw [arm_exec_Raise]
 show wpAny _ _ (do standAt pos; raiseStmt X.env (some (do let v←eval e X.env; standAt pos; pure v)) none) _ _ s
 refine Uy (wpAny_standAt (uT (C:=C) (nm:=nm) (q:=q') (N:=N) (bs:=bs) (bm:=bm) (hdct:=hd) (sn:=sn) (sub:=sub) (ab:=ab) (col:=col) (dd:=dd) (k0:=k0) (k1:=k1) (k2:=k2) (k3:=k3) (k5:=k5) (newId:="ValueError.__new__") (T.hasType PySem.F.excBase_ValueError.hasBase) (I.ok.hd hc) ?_))
 refine Uy (b_ (he pins s σ H _ I h) λu s1 ⟨v,H1,I1,rv,a,od,ev,ea,q⟩=>Uy (wpAny_standAt (Uz ?_)))
 subst ev
 cases rv
 obtain⟨⟨tt,sl,ha⟩,_⟩:=I1.hok a _ ea
 refine⟨a,tt,od,sl,rfl,I1.bk _ _ hC,ha,?_⟩
 have I2:=(I1.iK (pins':=[]) λp hp=>absurd hp (by simp)).de
 have I3:Inv X [] σ (upd H1 a (xO a C od)) s1:=by
  have:=I2.write (x:=a) (e:=a) (h':=s1.heap) (t':=s1.toks) (o:=xO a C od) (by rw [ea]; exact True.intro) (.inl rfl) (λb q hb z=>z) ⟨_,ha⟩ (GN ha)
  exact this
 exact⟨a,C,od,σ,upd H1 a (xO a C od),rfl,I3,⟨ag,_,_,ha,.inl rfl⟩,q⟩
end L2
namespace My
open PySem L2
structure Fl where
 o:Bool
 j:Bool
 f:Bool
 w:Bool
 l:Bool
def pO(s:Str):Bool:=!cD s
def pJ(s:Str):Bool:=decide (s="walk")||decide (s="both")||decide (s="meet")
def pF(s:Str):Bool:=decide (s="first")
def pW(s:Str):Bool:=decide (s="walk")
def flagsOf(ps:List Str)(l:Bool):Fl:=⟨ps.any pO,ps.any pJ,ps.any pF,ps.any pW,l⟩
def Kn.fl(k:Kn):Fl:=flagsOf k.ps k.lo
def looseW:Wk->Hd->Fl->Bool
 | .one (.keep c _),h,_=>decide (bt h c="t")
 | .one (.first n),_,f=>decide (¬n<=0)&&f.j
 | .meet ..,_,f=>f.w||f.f
 | _,_,_=>false
def mh:Wk->Fl->Bool
 | .one (.walk _ _),f=>!f.o
 | .meet _ _ p q,_=>(p++q).all λw=>cD w.nm
 | _,_=>true
def i7(x:Wk)(f:Fl)(hs:List Hd):Option Str :=
 if c9 x hs=true then
  if bg x hs=true then
   if(bE x hs).length<=6 then
    if mh x f=true then
     if(jf x&&f.l)=true then some "loose" else none
    else some "rows"
   else some "wide"
  else some "sort"
 else some "column"
theorem any_eq(ps:List Str)(s:Str):ps.any (λt=>decide (t=s))=kK ps s:=by
 apply Bool.eq_iff_iff.mpr
 rw [Gf,List.any_eq_true]
 constructor
 ·rintro⟨t,h,e⟩; rw [←Vd e]; exact h
 ·intro h; exact⟨s,h,UH rfl⟩
theorem Bg(ps:List Str)(p q:Str->Bool):ps.any (λs=>p s||q s)=(ps.any p||ps.any q):=by
 induction ps with
 | nil=>rfl
 | cons a ps ih=>rw [List.any_cons,List.any_cons,List.any_cons,ih]; cases p a <;> cases q a <;> simp
theorem IU(ps:List Str):ps.any pJ=(kK ps "walk"||kK ps "both"||kK ps "meet"):=by
 unfold pJ
 rw [Bg ps (λs=>decide (s="walk")||decide (s="both")) (λs=>decide (s="meet")),Bg,any_eq,any_eq,any_eq]
theorem Dy(x:Wk)(k:Kn):eZ x k=looseW x k.hd k.fl:=by
 have e1:=IU k.ps
 have e2:k.ps.any pF=kK k.ps "first":=any_eq _ _
 have e3:k.ps.any pW=kK k.ps "walk":=any_eq _ _
 cases x with
 | one x =>
  cases x <;> try rfl
  show(decide _&&(kK k.ps "walk"||kK k.ps "both"||kK k.ps "meet"))=(decide _&&k.ps.any pJ)
  rw [e1]
 | both p q=>rfl
 | meet c d p q =>
  show(kK k.ps "walk"||kK k.ps "first")=(k.ps.any pW||k.ps.any pF)
  rw [e2,e3]
theorem Ez(x:Wk)(k:Kn):jH x k.ps=mh x k.fl:=by
 cases x with
 | one x =>
  cases x <;> try rfl
  show k.ps.all cD = !(k.ps.any pO)
  rw [List.not_any_eq_all_not]
  congr 1
  funext s
  show _ = !(!cD s)
  rw [Bool.not_not]
 | both p q=>rfl
 | meet c d p q=>rfl
theorem IT(x:Wk)(k:Kn)(hs:List Hd):r_ x k hs=i7 x k.fl hs:=by
 unfold r_ i7
 rw [Ez]
 rfl
def Eo(x:Wk)(h:Hd)(f:Fl)(fs:List Fl):Fl:=⟨fs.any (λg=>g.o)||pO (au x),fs.any (λg=>g.j)||pJ (au x),fs.any (λg=>g.f)||pF (au x),fs.any (λg=>g.w)||pW (au x),looseW x h f||fs.any λg=>g.l⟩
theorem GB{a b:List Str}{p:Str->Bool}(h:∀s,s∈a↔s∈b):a.any p=b.any p:=by
 apply Bool.eq_iff_iff.mpr
 rw [List.any_eq_true,List.any_eq_true]
 constructor
 ·rintro⟨t,m,e⟩; exact⟨t,(h t).mp m,e⟩
 ·rintro⟨t,m,e⟩; exact⟨t,(h t).mpr m,e⟩
theorem rV(ks:List Kn)(x:Wk)(p:Str->Bool){ps:List Str}(h:Ay ps (ks.flatMap (λk=>k.ps)++[au x])):ps.any p=((ks.any λk=>k.ps.any p)||p (au x)):=by
 rw [GB h.2,List.any_append,List.any_flatMap]
 simp
theorem Lu{x:Wk}{k k':Kn}{ks:List Kn}(h:Ay k'.ps (ks.flatMap (λk=>k.ps)++[au x]))(hl:k'.lo=(eZ x k||ks.any λk=>k.lo)):k'.fl=Eo x k.hd k.fl (ks.map Kn.fl):=by
 unfold Kn.fl flagsOf Eo
 rw [rV ks x pO h,rV ks x pJ h,rV ks x pF h,rV ks x pW h,hl,Dy,List.any_map,List.any_map,List.any_map,List.any_map,List.any_map]
 rfl
inductive Res where
 | ok (h:Hd) (f:Fl)
 | no (p:List Int) (s:Str)
def ik(x:Wk)(h:Hd)(f:Fl)(pl:List Int)(es:List (Hd×Fl)):Res:=match i7 x f (es.map λe=>e.1)with
 | some s=>.no pl s
 | none=>.ok (bE x (es.map λe=>e.1)) (Eo x h f (es.map λe=>e.2))
def c7(r:Res)(g:Hd->Fl->Res):Res:=match r with
 | .ok h f=>g h f
 | .no a s=>.no a s
def putL(step:Hd->Fl->List Int->Wk->Res)(pl:List Int):Nat->Hd->Fl->List Wk->Res
 | _,h,f,[]=>.ok h f
 | i,h,f,x::ws=>c7 (step h f (pl++[(i:Int)]) x) λh' f'=>putL step pl (i+1) h' f' ws
def Dp(step:Hd->Fl->List Int->Wk->Res)(x:Wk)(h:Hd)(f:Fl)(pl:List Int):List (List Wk)->Nat->List (Hd×Fl)->Res
 | [],_,es=>ik x h f pl es
 | p::ps,j,es=>c7 (putL step (pl++[(j:Int)]) 0 h f p) λh' f'=>Dp step x h f pl ps (j+1) (es++[(h',f')])
def cq:Nat->Hd->Fl->List Int->Wk->Res
 | 0,h,f,pl,x=>ik x h f pl [(h,f)]
 | n+1,h,f,pl,x=>match x with
  | .one _=>ik x h f pl [(h,f)]
  | _=>Dp (cq n) x h f pl (dF x) 0 []
def fo:List Str:=["keep","same","cut","turn","must","walk","sort","apart","count","sum","number","first","both","meet","first 0"]
theorem CB(x:Wk):au x∈fo:=by
 match x with
 | .one (.first n) =>
  show(if n<=0 then("first 0" : Str)else "first")∈fo
  split <;> simp [fo]
 | .one (.keep ..)=>simp [fo,au,Wk.nm,W1.nm]
 | .one (.same ..)=>simp [fo,au,Wk.nm,W1.nm]
 | .one (.cut ..)=>simp [fo,au,Wk.nm,W1.nm]
 | .one (.turn ..)=>simp [fo,au,Wk.nm,W1.nm]
 | .one (.must ..)=>simp [fo,au,Wk.nm,W1.nm]
 | .one (.walk ..)=>simp [fo,au,Wk.nm,W1.nm]
 | .one (.sort ..)=>simp [fo,au,Wk.nm,W1.nm]
 | .one .apart=>simp [fo,au,Wk.nm,W1.nm]
 | .one (.count ..)=>simp [fo,au,Wk.nm,W1.nm]
 | .one (.sum ..)=>simp [fo,au,Wk.nm,W1.nm]
 | .one .number=>simp [fo,au,Wk.nm,W1.nm]
 | .both ..=>simp [fo,au,Wk.nm]
 | .meet ..=>simp [fo,au,Wk.nm]
theorem sub_len:∀{l m:List Str},l.Nodup->(∀s∈l,s∈m)->l.length<=m.length
 | [],m,_,_=>U1 _
 | a::l,m,hn,hs=>by
  rw [List.nodup_cons]at hn
  have ha:a∈m:=hs a (by simp)
  have:=sub_len (l:=l) (m:=m.erase a) hn.2 λs h=>by
   have ne:s≠a:=by rintro rfl; exact hn.1 h
   exact(List.mem_erase_of_ne ne).mpr (hs s (by simp [h]))
  rw [List.length_erase_of_mem ha]at this
  have hp:0<m.length:=List.length_pos_of_mem ha
  rw [Vb]
  omega
theorem m7{x:Str}:¬v3 x x:=λh=>List.lt_irrefl _ h
structure mU(k:Kn):Prop where
 hd:k.hd.length<=6
 nd:k.ps.Nodup
 sub:∀s∈k.ps,s∈fo
theorem mU.few{k:Kn}(h:mU k):k.ps.length<=15:=sub_len h.nd h.sub
theorem mU.next{k':Kn}{ks:List Kn}{x:Wk}(hk:∀k∈ks,mU k)(hh:k'.hd.length<=6)(h:Ay k'.ps (ks.flatMap (λk=>k.ps)++[au x])):mU k':=by
 refine⟨hh,h.1.imp λ{a b} e z=>by subst z; exact m7 e,λs hs=>?_⟩
 rcases UZ.mp ((h.2 s).mp hs)with z | z
 ·obtain⟨k,h1,h2⟩:=List.mem_flatMap.mp z
  exact(hk k h1).sub s h2
 ·rw [UU.mp z]
  exact CB x
def inClass(s:Stmt)(i:Nat):Stmt:=match s with
 | .ClassDef _ _ _ body _ _ _ _ _ _ _=>body.getD i (.Pass ⟨0,0,0,0⟩)
 | _=>.Pass ⟨0,0,0,0⟩
abbrev lM:Stmt:=inClass (top 5) 0
theorem Fi:az ["self","place","why"] ["self","place","why"] (ar lM):=⟨rfl,rfl,rfl,by decide +kernel,rfl,by decide +kernel,by decide +kernel⟩
abbrev AK(pl wy:V):List (Str×V):=mK "why" wy (mK "place" pl [])
def zf(K:Ve)(C:Addr):Sp:=λvs H Q _=>∃a v1 v2,vs=[.ref a,v1,v2]/\H a=some (xF a C none)/\jE K C/\iD K C "place"/\iD K C "why"/\
 ∀dx H',H dx=none->(∀b o,b≠a->H b=some o->H' b=some o)->H' a=some (xF a C (some dx))->H' dx=some (xD dx (AK v1 v2))->Q .non H'
structure HQ(K:Ve)(mg:Str->Option Value)(C fI:Addr):Prop where
 xc:jE K C
 np:iD K C "place"
 nr:iD K C "why"
 Qa:l8 K C z_ "ValueError.__new__" (some (.ref fI))=true
 kp:PySem.W.keepIn K (.ref C)=true
 fn:PySem.W.isFn K (.ref fI)=true
 mf:mg "NoPipe"=some (.ref C)
section
variable{P:Program}{w:World}{K:Ve}{mg:Str->Option Value}{base:Heap}{f C:Addr}{fd:FuncData}
theorem D4(F:A2 K "__init__" "NoPipe.__init__" lM f fd):e_ P w K mg base bf 1 f fd ["self","place","why"] (zf K C):=by
 refine F.ok Fi (λvs H Q E h=>?_) (λcdv A outer s H vs Q E hr h=>?_)
 ·obtain⟨a,v1,v2,rfl,_⟩:=h
  rfl
 obtain⟨a,v1,v2,rfl,ha,c,n1,n2,q⟩:=h
 refine⟨_,aq (vD (pv 0) (pv 1) rfl) (bK (vD (pv 0) (pv 2) rfl)),?_⟩
 refine⟨_,rfl,_,rfl,a,C,rfl,c,n1,.inl ⟨ha,λdx hdx=>?_⟩⟩
 have nd:a≠dx:=aU ha hdx
 refine⟨_,rfl,_,rfl,a,C,rfl,c,n2,.inr ⟨dx,_,by rw [aI nd]; exact ag,ag,by show 1<1000; decide,?_⟩⟩
 refine q dx _ hdx (λb o nb e=>?_) (by rw [aI nd,aI nd]; exact ag) ag
 have N7:b≠dx:=aU e hdx
 rw [aI N7,aI N7,aI nb,aI N7]
 exact e
end
end My
namespace L2
open PySem PySem.Spec PyProof.Rows
section
variable{X:Cx}{pins:List (Addr×Obj)}{σ:List (Option V)}{H H':Hp}{s:Shared}{h':Heap}
theorem Inv.qZ{t':Nat}{fp:List Addr}{T:Addr}{xs:List V}(I:Inv X pins σ H s)(hf:∀b∈fp,dC X pins H b)(k:∀b o,b∉fp->s.heap.get? b=some o->h'.get? b=some o)(hT:s.heap.objs.size<=T)
  (new:cz X.prog X.w (upd H T (.tup xs)) h' T (.tup xs)):Inv X pins σ (upd H T (.tup xs)) {s with heap:=h',toks:=t'}:=by
 have nT:H T=none:=I.hok.fresh hT
 have GR:∀b u,H b=some u->b∉fp:=λb u e z=>by rw [(hf b z).1]at e; cases e
 have Rw:∀b o,s.heap.get? b=some o->b≠T:=λb o e z=>by
  have:=UB e
  rw [z]at this
  exact absurd (UM this hT) (Nat.lt_irrefl _)
 refine I.step (g':=s.gens) (d':=s.drawn) (ch:=fp) (λb hb=>?_) (λb o _ _ hc e _=>k b o hc e) (λb o _ _ hc e _=>⟨o.slots,k b o hc e⟩) (λb o hc e n=>by rw [aI (Rw b o e)]; exact n)
  (λb o hc e=>⟨o,k b o hc e⟩) (λb ys e=>by rw [aI (aU e nT)]; exact e) (λb o u e=>by rw [aI (aU e nT)]; exact e) (λb ps e=>⟨#[],by rw [aI (aU e nT),e]; simp⟩) (λm hm=>?_) (λb u e=>?_) I.bare
 ·obtain⟨f0,f1,f2,f3,f4,f5⟩:=hf b hb
  exact⟨f3,f1,f4,f5⟩
 ·obtain⟨o,es,ep,ho,r⟩:=hm
  exact⟨o,es,ep,k _ o (λz=>(hf _ z).2.1 rfl) ho,r⟩
 ·by_cases hb:b=T
  ·subst hb; rw [ag]at e; cases e; exact new
  ·rw [aI hb]at e
   refine(I.hok b u e).stay (λc v hc q=>k c v ?_ q) (λc q=>by rw [aI (aU q nT)]; exact q) λc ys q=>by rw [aI (aU q nT)]; exact q
   rcases hc with z | z
   ·rw [z]; exact GR b u e
   ·exact GR c _ z
theorem Inv.om{t':Nat}{fp:List Addr}(I:Inv X pins σ H s)(hf:∀b∈fp,dC X pins H b)(k:∀b o,b∉fp->s.heap.get? b=some o->h'.get? b=some o):Inv X pins σ H {s with heap:=h',toks:=t'}:=by
 have GR:∀b u,H b=some u->b∉fp:=λb u e z=>by rw [(hf b z).1]at e; cases e
 refine I.step (g':=s.gens) (d':=s.drawn) (ch:=fp) (λb hb=>?_) (λb o _ _ hc e _=>k b o hc e) (λb o _ _ hc e _=>⟨o.slots,k b o hc e⟩) (λb o hc e n=>n)
  (λb o hc e=>⟨o,k b o hc e⟩) (λb ys e=>e) (λb o u e=>e) (λb ps e=>⟨#[],by rw [e]; simp⟩) (λm hm=>?_) (λb u e=>?_) I.bare
 ·obtain⟨f0,f1,f2,f3,f4,f5⟩:=hf b hb
  exact⟨f3,f1,f4,f5⟩
 ·obtain⟨o,es,ep,ho,r⟩:=hm
  exact⟨o,es,ep,k _ o (λz=>(hf _ z).2.1 rfl) ho,r⟩
 ·refine(I.hok b u e).stay (λc v hc q=>k c v ?_ q) (λ_ q=>q) λ_ _ q=>q
  rcases hc with z | z
  ·rw [z]; exact GR b u e
  ·exact GR c _ z
end
section
variable{X:Cx}
end
section
variable{prog:Program}{w:World}{A:Around}{E:Value->Shared->Prop}{s:Shared}
theorem kJ{it t:Addr}{i:Nat}{items:Array Value}{x:Value}{Q:Value->Shared->Prop}(hit:s.heap.IsTupleIter it t i)(ht:s.heap.IsTuple t items)(hx:items[i]? = some x)
  (hQ:∀h',h'.IsTupleIter it t (i+1)->Heap.SameBut it s.heap h'->Q x {s with heap:=h'}):wpAny (model prog w) A (Builtin.SmallTypes.nextOf (.ref it)) Q E s:=by
 obtain⟨o,ho,hc,hd⟩:=id hit
 obtain⟨ol,hol,_,nl,hdl⟩:=ht
 unfold Builtin.SmallTypes.nextOf
 refine Uy (wpAny_callSpecial?_slot (name:=Str.ofString "__next__") hit.typeIs F.slot_tuple_iterator_next (wpAny_call_entry F.slot_tuple_iterator_next hit.typeIs F.entry_tuple_iterator_next ?_ (F.args_tuple_iterator_next_1 _)))
 show wpAny _ _ (field (.ref it) 0 >>= _) _ _ s
 refine Uy (wpAny_field ho hd (x:=.ref t) rfl ?_)
 show wpAny _ _ (if(Value.ref t==Value.none)=true then _ else _) _ _ s
 rw [if_neg (show¬((Value.ref t==Value.none)=true) from UR)]
 show wpAny _ _ (field (.ref it) 1 >>= _) _ _ s
 refine Uy (wpAny_field ho hd (x:=.int i 0) rfl ?_)
 show wpAny _ _ (seqItems? (.ref t) >>= _) _ _ s
 refine Uy (wpAny_seqItems hol hdl ?_)
 simp only [Int.toNat_natCast,hx]
 refine Uy (wpAny_setField ho hd (by simp) (Uz ⟨x,rfl,Uz (hQ _ ?_ (Heap.SameBut.update ..))⟩))
 exact⟨_,Heap.get?_update_self _ ho (Obj.isFreed_of_fields (Obj.data_mapFields hd _)),(Obj.cls_mapFields ..).trans hc,by rw [Obj.data_mapFields hd]; simp [rawInt]⟩
end
section
variable{X:Cx}
end
section
variable{prog:Program}{w:World}{A:Around}{E:Value->Shared->Prop}{s:Shared}
theorem fZ{it t:Addr}{i:Nat}{items:Array Value}{Q:Value->Shared->Prop}(hh:A.handled=none)(hit:s.heap.IsTupleIter it t i)(ht:s.heap.IsTuple t items)(hx:items[i]? = none)
  (hE:∀h' e,Heap.ExtBut it s.heap h'->(∃o,h'.get? e=some o/\o.cls=.type "StopIteration")->E (.ref e) {s with heap:=h'}):wpAny (model prog w) A (Builtin.SmallTypes.nextOf (.ref it)) Q E s:=by
 obtain⟨o,ho,hc,hd⟩:=id hit
 obtain⟨ol,hol,_,nl,hdl⟩:=ht
 unfold Builtin.SmallTypes.nextOf
 refine Uy (wpAny_callSpecial?_slot (name:=Str.ofString "__next__") hit.typeIs F.slot_tuple_iterator_next (wpAny_call_entry F.slot_tuple_iterator_next hit.typeIs F.entry_tuple_iterator_next ?_ (F.args_tuple_iterator_next_1 _)))
 show wpAny _ _ (field (.ref it) 0 >>= _) _ _ s
 refine Uy (wpAny_field ho hd (x:=.ref t) rfl ?_)
 show wpAny _ _ (if(Value.ref t==Value.none)=true then _ else _) _ _ s
 rw [if_neg (show¬((Value.ref t==Value.none)=true) from UR)]
 show wpAny _ _ (field (.ref it) 1 >>= _) _ _ s
 refine Uy (wpAny_field ho hd (x:=.int i 0) rfl ?_)
 show wpAny _ _ (seqItems? (.ref t) >>= _) _ _ s
 refine Uy (wpAny_seqItems hol hdl ?_)
 simp only [Int.toNat_natCast,hx]
 refine Uy (wpAny_rule (Uy (wpAny_setField ho hd (by simp) ?_)))
 show wpAny _ _ (newExc (.type "StopIteration") [] >>= _) _ _ _
 refine Uy ?_
 simp only [newExc,newTuple]
 refine Uy (U_ ?_ (by size_fits))
 refine Uy (m:=firstArgMember _ _) (wpAny_of_eq (a:=Value.none) (by first | rfl | (simp only [firstArgMember]; rfl)) ?_)
 refine U_ ?_ (by size_fits)
 simp only [raiseNew]
 refine Uy (wpAny_handled ?_)
 first | rw [show A.in1.handled=none from hh] | rw [hh]
 refine Uy (Uz (wpAny_throw ?_))
 exact hE _ _ (((Heap.SameBut.update ..).extBut.push _).push _) ⟨_,UC _ rfl,rfl⟩
theorem rM{h h':Heap}{a b:Addr}{xs:Array Value}(x:h.IsTuple a xs)(hs:Heap.ExtBut b h h')(hab:a≠b):h'.IsTuple a xs:=let ⟨o,ho,r⟩:=x; ⟨o,hs a o hab ho,r⟩
theorem AI(hh:A.handled=none)(it t:Addr)(hne:t≠it)(items:Array Value):Draws prog w A it [it,t] items.size (λi v=>items[i]? = some v) (λi h=>h.IsTupleIter it t i/\h.IsTuple t items) where
 live:=λ_ _ st=>let ⟨o,ho,_⟩:=st.1; ⟨o,ho⟩
 frame:=λ_ _ _ st hk=>⟨st.1.at λo e=>hk it (by simp) o e,let ⟨o,ho,r⟩:=st.2; ⟨o,hk t (by simp) o ho,r⟩⟩
 item:=λi s Q E hi st hQ=>by
  refine kJ st.1 st.2 (x:=items[i]) (by simp [hi]) λh' hit' hs'=>?_
  exact hQ _ h' s.toks (by simp [hi]) ⟨hit',rM st.2 hs'.extBut hne⟩ hs'
 done:=λs Q E st hE=>fZ hh st.1 st.2 (by simp) hE
abbrev Nf(h:Heap)(t:Addr):Heap:=h.push {cls:=.type "tuple_iterator",data:=.fields #[.ref t,.int 0 0]}
abbrev QV(h:Heap)(t:Addr):Heap:=(Nf h t).push {cls:=.type "enumerate",data:=.fields #[.none,.bool false,.ref h.objs.size,rawInt 0,.none,.none]}
theorem uz(t:Addr)(items:Array Value)(n:Nat)(dct:Option Addr)(sl:Array (Option Value)) :
  Meets (Builtin.«enumerate.__new__» ⟨[.type "enumerate",.ref t],[]⟩) (λ_ R s=>s.heap.get? t=some {cls:=.type "tuple",dict:=dct,data:=.seq items n,slots:=sl}/\R (.ok (.ret (.ref (Nf s.heap t).objs.size))) {s with heap:=QV s.heap t}) :=
 .of_wp λprog w A R s h=>by
  obtain⟨hp,g,d,tk,os⟩:=s; obtain⟨hl,h⟩:=h
  have hsub:=sub_enumerate
  have hL:Heap.IsTuple (Shared.heap ⟨hp,g,d,tk,os⟩) t items:=⟨_,hl,rfl,n,rfl⟩
  wp_walk using AutoSeq1.wpAny_loadPart' hl
  refine wpAny_stack_any λst=>Uz ?_
  split
  ·rename_i c _ _ _ _ _
   cases(c==Value.type "enumerate")
   ·wp_walk using AutoSeq1.wpAny_loadPart' hl,wpAny_pyIter_tuple hL
    exact⟨_,rfl,h⟩
   ·wp_walk using AutoSeq1.wpAny_loadPart' hl,wpAny_pyIter_tuple hL
    exact⟨_,rfl,h⟩
  ·wp_walk using AutoSeq1.wpAny_loadPart' hl,wpAny_pyIter_tuple hL
   exact⟨_,rfl,h⟩
theorem xY{t:Addr}{items:Array Value}{Q:Value->Shared->Prop}(hL:s.heap.IsTuple t items)
  (h:∀h',IsEnum h' (s.heap.objs.size+1) s.heap.objs.size 0 .none->h'.IsTupleIter s.heap.objs.size t 0->h'.objs.size=s.heap.objs.size+2->(∀b o,s.heap.get? b=some o->h'.get? b=some o)->Q (.ref (s.heap.objs.size+1)) {s with heap:=h'}) :
  wpAny (model prog w) A (call (.type "enumerate") [.ref t]) Q E s:=by
 obtain⟨⟨c,dct,dt,sl⟩,hl,hc,n,hd⟩:=hL
 replace hc:c=.type "tuple":=hc
 replace hd:dt=.seq items n:=hd
 subst hc hd
 refine callType_new F.called_enumerate (by decide) (F.typeCall_enumerate_1 _) (F.newCall_enumerate_1 _) (λobj=>F.args_object_init_2 obj _) F.entry_enumerate_new (uz t items n dct sl) ⟨hl,?_⟩
 have hz:(Nf s.heap t).objs.size=s.heap.objs.size+1:=Heap.size_push ..
 show _/\_
 have he:(QV s.heap t).get? (Nf s.heap t).objs.size=some _:=UC _ rfl
 rw [hz]at he
 rw [hz]
 exact⟨⟨_,he,rfl⟩,h _ he ⟨_,UA _ (UC _ rfl),rfl,rfl⟩ (by rw [Heap.size_push,hz]) λb o x=>UA _ (UA _ x)⟩
end
def Mn(K:Ve)(a:Addr):It :=
 ⟨λi H=>∃xs x,aH K H a xs/\xs[i]? = some x,
   λi H v H'=>∃T x,v=.ref T/\H T=none/\H'=upd H T (.tup [.int (i:Nat),x])/\∀xs,aH K H a xs->xs[i]? = some x,
   λi H=>∃xs,aH K H a xs/\xs.length<=i⟩
theorem wX{P:Program}{w:World}{K:Ve}{es:List Expr}{x1:Nat}{pos:Pos}(a e it:Addr)(hne:e≠it) :
  Turn P w K (.Tuple es x1 pos) (Mn K a) [e,it] e (λi h=>(∃old,IsEnum h e it (i:Nat) old)/\h.IsTupleIter it a i) where
 mem:=by simp
 obj:=λi h st c hc=>by
  obtain⟨⟨old,h1⟩,⟨o4,e4,c4,d4⟩⟩:=st
  simp only [UX,List.not_mem_nil,or_false]at hc
  rcases hc with rfl | rfl
  ·exact⟨_,h1,λv z=>by cases(show Data.fields _=Data.cell v from z)⟩
  ·exact⟨o4,e4,λv z=>by rw [d4]at z; cases z⟩
 keep:=λi h h' st k=>by
  obtain⟨⟨old,h1⟩,h4⟩:=st
  exact⟨⟨old,k e (by simp) _ h1⟩,h4.at λo q=>k it (by simp) o q⟩
 item:=by
  intro X hP hw hK hc i pins s σ H E I hf st hg
  subst hP hw hK
  obtain⟨xs,x,hq,hx⟩:=hg
  obtain⟨its,rv,p,hz⟩:=I.tuple hq
  obtain⟨u,hu,ru⟩:=rv.get hx
  obtain⟨⟨old,h1⟩,h4⟩:=st
  have p':s.heap.IsTuple a its.toArray:=p
  have TR:e≠a:=λz=>by obtain⟨o,eo,co,_⟩:=p'; rw [←z,h1]at eo; cases eo; exact absurd (Value.type.inj co) (by decide)
  have Rm:a≠it:=λz=>by obtain⟨o,eo,co,_⟩:=p'; obtain⟨o4,e4,c4,_⟩:=h4; rw [z,e4]at eo; cases eo; exact absurd (Value.type.inj (c4.symm.trans co)) (by decide)
  have hu':its.toArray[i]? = some u:=by simpa using hu
  have hlt:i<its.toArray.size:=by
   rcases Nat.lt_or_ge i its.toArray.size with z | z
   ·exact z
   ·rw [Array.getElem?_eq_none z]at hu'; cases hu'
  refine wpAny_pyNext_enum_itemD (AI (show X.A.in1.handled=none from I.ok.hd hc) it a Rm its.toArray) h1 ⟨h4,p'⟩ hlt hne (by simp [hne,TR]) λy h' tk hy g1 g2 g3 gs g6=>⟨_,rfl,?_⟩
  have Ry:y=u:=by rw [hu']at hy; exact(U2 hy).symm
  subst Ry
  refine wpAny_letOwnedTupleGo_enum (show IsEnumOut h' e it ((i:Int)+1) y s.heap.objs.size from g1) λh'' f1 fs=>?_
  have elt:e<s.heap.objs.size:=UB h1
  have O7:s.heap.objs.size≠e:=Nat.ne_of_gt elt
  have kk:∀c o,c∉[e,it]->s.heap.get? c=some o->h''.get? c=some o:=λc o hc q=>by
   simp only [UX,List.not_mem_nil,or_false,not_or]at hc
   exact fs.extBut _ _ hc.1 (g6 c o hc.1 hc.2 q)
  have pT:=fs.extBut _ _ O7 g3
  have I1:Inv X pins σ (upd H s.heap.objs.size (.tup [.int (i:Nat),x])) {s with heap:=h'',toks:=tk+1}:=I.qZ hf kk (UD _) ⟨by show 2<=sizeLine; decide,[.int (i:Nat) tk,y],.cons ⟨tk,rfl⟩ (.cons ru .nil),⟨_,pT,rfl,⟨_,rfl⟩,rfl⟩⟩
  refine⟨.ref s.heap.objs.size,_,I1,rfl,⟨_,x,rfl,I.hok.fresh (UD _),rfl,λys hy'=>by rw [I.ic hy' hq]; exact hx⟩,⟨⟨_,f1⟩,g2.1.extBut fs.extBut hne.symm⟩,λc hc=>?_⟩
  have hn:=(hf c hc).1
  have:c≠s.heap.objs.size:=by
   simp only [UX,List.not_mem_nil,or_false]at hc
   obtain⟨o4,e4,_⟩:=h4
   rcases hc with rfl | rfl
   ·exact U0 elt
   ·exact U0 (UB e4)
  rw [aI this]; exact hn
 done:=by
  intro X hP hw hK hc i pins s σ H E I hf st hg
  subst hP hw hK
  obtain⟨xs,hq,hx⟩:=hg
  obtain⟨its,rv,p,hz⟩:=I.tuple hq
  obtain⟨⟨old,h1⟩,h4⟩:=st
  have hl:=rv.length
  have hn:its.toArray[i]? = none:=by simp; omega
  unfold pyNext
  have hT:s.TypeIs (.ref e) "enumerate":=⟨_,h1,rfl⟩
  refine Uy (wpAny_attempt (wpAny_callSpecial?_slot (name:=Str.ofString "__next__") hT F.slot_enumerate_next (wpAny_call_entry F.slot_enumerate_next hT F.entry_enumerate_next ?_ (F.args_enumerate_next_1 _))))
  show wpAny _ _ (field (.ref e) 2 >>= _) _ _ _
  refine Uy (wpAny_field h1 rfl (x:=.ref it) rfl ?_)
  refine Uy (fZ (show X.A.in1.handled=none from I.ok.hd hc) h4 (show s.heap.IsTuple a its.toArray from p) hn λh' x he' hx'=>?_)
  obtain⟨o,ho,hco⟩:=hx'
  refine Uy (wpAny_isInstance (T:="StopIteration") (b:=true) ⟨o,ho,hco⟩ isSubtype_stop ?_)
  refine Uz ⟨rfl,I.om (t':=s.toks) hf λc o hc q=>?_⟩
  simp only [UX,List.not_mem_nil,or_false,not_or]at hc
  exact he' c o hc.2 q
 self:=λ_ _ _ _ _ st h=>let ⟨⟨_,h1⟩,_⟩:=st; wpAny_pyIter_enum h1 h
section
variable{X:Cx}
def KZ(K:Ve)(ta:TA):TI:=λσ H R=>ta σ H λvs H1=>∃a,vs=[.ref a]/\(∃xs,aH K H1 a xs)/\R (Mn K a) H1
theorem pe{es:List Expr}{x1:Nat}{tpos:Pos}{a:Expr}{ta:TA}{p pos:Pos}(hg:Gl X "enumerate")(hm:X.mg "enumerate"=none)(ha:PA X [a] ta)(hs:starEach [a] X.env=[(false,eval a X.env)]:=by rfl) :
  PI X (.Tuple es x1 tpos) (.Call (.Name "enumerate" p) [a] [] pos) (KZ X.K ta):=by
 intro pins s σ H R I h
 refine Call_ (iM I hg hm (by decide +kernel:bootBuiltins "enumerate"=some (.type "enumerate")) (PyProof.Rows.callWith_type1 (b_ (ha pos pins s σ H _ I h) λus s1 ⟨vs,H1,I1,r1,q1⟩=>?_) hs rfl))
 obtain⟨l1,e,⟨xs,hq1⟩,q⟩:=q1
 subst e
 cases r1 with
 | cons r rr =>
  cases rr
  cases r
  obtain⟨its,rv,p1,hz⟩:=I1.tuple hq1
  refine xY p1 λh' he hi hsz hk=>?_
  refine wpAny_pyIter_enum (show IsEnum h' _ _ _ _ from he) ?_
  refine⟨_,[s1.heap.objs.size+1,s1.heap.objs.size],_,_,H1,rfl,I1.kept (t':=s1.toks) hk,wX _ _ _ (Nat.succ_ne_self _),⟨⟨_,he⟩,hi⟩,λc hc=>?_,q⟩
  simp only [UX,List.not_mem_nil,or_false]at hc
  have hle:s1.heap.objs.size<=c:=by rcases hc with rfl | rfl <;> first | exact UD _ | exact Nat.le_add_right _ _
  exact I1.l5 hle (I1.hok.fresh hle)
end
theorem l6{K:Ve}{a:Addr}{xs:List V}{g:TG}{tb:TS}{D:Ends}{σ:St}{H:Hp}(Pv:Nat->St->Hp->Prop)(h0:Pv 0 σ H)(hl:∀i σ H,i<=xs.length->Pv i σ H->aH K H a xs)
  (hs:∀i x σ H T,xs[i]? = some x->Pv i σ H->H T=none->g (.ref T) σ (upd H T (.tup [.int (i:Nat),x])) λdf H2=>tb {D with nx:=Pv (i+1),ct:=Pv (i+1),bk:=D.nx} df H2) (hd:∀σ H,Pv xs.length σ H->D.nx σ H) :
  ∃W:Nat->Nat->St->Hp->Prop,(∃m,W 0 m σ H)/\∀i m σ H,W i m σ H->
   ((Mn K a).stop i H/\D.nx σ H)\/((Mn K a).go i H/\∃N:St->Hp->Prop,(∀σ' H',N σ' H'->∃m',m'<m/\W (i+1) m' σ' H')/\∀x H',(Mn K a).FV i H x H'->g x σ H' λdf H2=>tb {D with nx:=N,ct:=N,bk:=D.nx} df H2):=by
 refine⟨λi m σ H=>m=xs.length-i/\i<=xs.length/\Pv i σ H,⟨xs.length,by simp,U1 _,h0⟩,?_⟩
 rintro i m σ H ⟨rfl,hi,p⟩
 have q:=hl i σ H hi p
 by_cases hlt:i<xs.length
 ·refine .inr ⟨⟨xs,xs[i],q,by simp [hlt]⟩,Pv (i+1),λσ' H' p'=>⟨xs.length-(i+1),by omega,rfl,hlt,p'⟩,λv H' y=>?_⟩
  obtain⟨T,x,rfl,hT,rfl,hx⟩:=y
  exact hs i x σ H T (hx xs q) p hT
 ·have e:i=xs.length:=by omega
  subst e
  exact .inl ⟨⟨xs,q,UD _⟩,hd σ H p⟩
end L2
namespace My
open PySem L2
section
variable{X:Cx}{N':List Str}{sc:Scope}{cl:List (Str×Addr)}{C:Addr}{s:Shared}{H:Hp}{fp:List Addr}{E:XK}
theorem Jq{i:Nat}{x:Str}{pos:Pos}(hn:N'.Nodup:=by decide +kernel)(hN:N'[i]? = some x:=by rfl)(hv:sc.names.lookup x=some .local:=by rfl):PG ((aK X N' sc cl C s H fp).xs E) (.Name x pos) (bz i):=PG.yC (eA (X:=X) (cl:=cl) (C:=C) (s:=s) (H:=H) (fp:=fp) (N':=N') hn hN hv)
theorem PD(i:Nat){x:Str}{pos:Pos}(hN:N'[i]? = some x:=by rfl)(hv:sc.names.lookup x=some .local:=by rfl)(hd:(x==("__debug__" : Str))=false:=by decide)(hcd:(x==("__classdict__" : Str))=false:=by decide):PE ((aK X N' sc cl C s H fp).xs E) (.Name x pos) (bx i):=PE.yC (i3 (X:=X) (cl:=cl) (C:=C) (s:=s) (H:=H) (fp:=fp) (N':=N') i hN hv hd hcd)
end
theorem ly{t1 t2:TS}{D:Ends}{σ:St}{H:Hp}(Pm:St->Hp->Prop)(h:∀T:St->Hp->Prop,(∀σ' H',Pm σ' H'->T σ' H')->t1 {D with nx:=T} σ H)(t:∀σ' H',Pm σ' H'->t2 D σ' H'):FC t1 t2 D σ H:=h _ t
theorem nA{α:Type}{l:List α}{i:Nat}{x:α}(h:l[i]? = some x):l.drop i=x::l.drop (i+1):=by
 obtain⟨hi,rfl⟩:=UT.mp h
 exact List.drop_eq_getElem_cons hi
def eN(fl:Addr)(H H':Hp):Prop:=∀b o,b≠fl->H b=some o->H' b=some o
theorem eN.of{fl:Addr}{H H':Hp}(s:aM H H'):eN fl H H':=λ_ _ _ e=>s _ _ e
theorem eN.trans{fl:Addr}{H H1 H2:Hp}(a:eN fl H H1)(b:eN fl H1 H2):eN fl H H2:=λ_ _ n e=>b _ _ n (a _ _ n e)
theorem eN.put{fl:Addr}{H H1:Hp}{o:HO}(a:eN fl H H1):eN fl H (upd H1 fl o):=λb u n e=>by rw [aI n]; exact a _ _ n e
theorem eN.new{fl L:Addr}{H H1:Hp}{o:HO}(hL:H L=none)(a:eN fl H H1):eN fl H (upd H1 L o):=λb u n e=>by rw [aI (aU e hL)]; exact a _ _ n e
theorem eN.gp{fl:Addr}{H H':Hp}{xs:List V}(g:eN fl H H')(h:H fl=some (.lst xs)):aE H H':=λa ys e=>g _ _ (λz=>by rw [z,h]at e; cases e) e
theorem gq.keep{H H':Hp}{a:Addr}{k:Kn}(s:aE H H')(h:gq H a k):gq H' a k:=by
 obtain⟨u,p,h1,h2,h3⟩:=h
 exact⟨u,p,s _ _ h1,s _ _ h2,s _ _ h3⟩
def uh:Nat->List Wk->Prop
 | 0,ws=>ws.length<=9/\∀x∈ws,AN x
 | n+1,ws=>ws.length<=9/\∀x∈ws,AN x/\∀p∈dF x,uh n p
theorem uh.len{n:Nat}{ws:List Wk}(h:uh n ws):ws.length<=9:=by cases n <;> exact h.1
theorem uh.ok{n:Nat}{ws:List Wk}(h:uh n ws){x:Wk}(hx:x∈ws):AN x:=by
 cases n with
 | zero=>exact h.2 x hx
 | succ n=>exact(h.2 x hx).1
def cW:Nat->Nat
 | 0=>1
 | n+1=>1+2*(9*cW n+1)
def bnd(n:Nat):Nat:=9*cW n+1
def Ua(C fl:Addr)(H:Hp)(a:List Int)(s:Str)(E:XK):Prop:=∀(e dx q:Addr) (H':Hp),eN fl H H'->H' e=some (xO e C (some dx))->H' dx=some (xD dx (AK (.ref q) (.str s)))->H' q=some (.tup (a.map V.int))->E (.ref C) (some e) H'
def Hs(H:Hp)(t:Addr)(h:Hd):Prop:=∃q hh b,H t=some (.tup [q,.ref hh,b])/\dX H hh h
structure PM(n:Nat)(H:Hp)(p b pl fl:Addr)(ws:List Wk)(k:Kn)(pi:List Int)(xs:List V):Prop where
 pp:jo n H p ws
 kn:gq H b k
 pl:H pl=some (.tup (pi.map V.int))
 fl:H fl=some (.lst xs)
 ok:uh n ws
 ko:mU k
 pz:pi.length+2*n<=100
 xz:xs.length+bnd n<=100000
def y6(C:Addr):Nat->Sp
 | 0=>λ_ _ _ _=>False
 | n+1=>λvs H Q E=>∃(p b pl fl:Addr) (ws:List Wk) (k:Kn) (pi:List Int) (xs:List V),vs=[.ref p,.ref b,.ref pl,.ref fl]/\PM n H p b pl fl ws k pi xs/\
  (∀a s,putL (cq n) pi 0 k.hd k.fl ws=.no a s->Ua C fl H a s E)/\
  (∀h f,putL (cq n) pi 0 k.hd k.fl ws=.ok h f->∀(u:Addr) (k':Kn) (H':Hp) (xs':List V) (t:Addr),eN fl H H'->gq H' u k'->mU k'->k'.hd=h->k'.fl=f->H' fl=some (.lst (xs'++[.ref t]))->xs'.length+1<=xs.length+bnd n->Hs H' t h->Q (.ref u) H')
theorem kO{x:Wk}(h:bZ x=false):dF x=[]/\Dt x=1:=by cases x <;> first | exact⟨rfl,rfl⟩ | cases h
theorem iI{n:Nat}{x:Wk}{h:Hd}{f:Fl}{pl:List Int}(hx:bZ x=false):cq n h f pl x=ik x h f pl [(h,f)]:=by
 cases x with
 | one x=>cases n <;> rfl
 | both p q=>cases hx
 | meet c d p q=>cases hx
theorem pC{n:Nat}{x:Wk}{h:Hd}{f:Fl}{pl:List Int}(hx:bZ x=true):cq (n+1) h f pl x=Dp (cq n) x h f pl (dF x) 0 []:=by
 cases x with
 | one x=>cases hx
 | both p q=>rfl
 | meet c d p q=>rfl
theorem lX{x:Wk}(hx:bZ x=true):(dF x).length=2/\Dt x=2:=by cases x <;> first | exact⟨rfl,rfl⟩ | cases hx
theorem JS{x:Wk}{H:Hp}{a:Addr}(h:dk 0 H a x):bZ x=false:=by cases x <;> first | rfl | exact False.elim h
def mY(ks:List Kn):List (Hd×Fl):=ks.map λk=>(k.hd,k.fl)
theorem Ex(ks:List Kn):(mY ks).map (λe=>e.1)=jP ks:=by rw [mY,List.map_map]; rfl
theorem F9(ks:List Kn):(mY ks).map (λe=>e.2)=ks.map Kn.fl:=by rw [mY,List.map_map]; rfl
theorem ue{x:Wk}{f:Fl}{hs:List Hd}(h:i7 x f hs=none):c9 x hs=true/\(bE x hs).length<=6:=by
 unfold i7 at h
 split at h
 ·split at h
  ·split at h
   ·exact⟨by assumption,by assumption⟩
   ·cases h
  ·cases h
 ·cases h
theorem EE{x:Wk}{k:Kn}{ks:List Kn}(hk:bZ x=false->ks=[k])(h:c9 x (jP ks)=true):keepIn x k.hd:=by
 rintro c t rfl
 rw [hk rfl]at h
 exact cH h (by simp [c8])
theorem DP(n:Nat):1<=cW n:=by
 cases n with
 | zero=>exact UD _
 | succ n=>show 1<=1+_; omega
theorem nu(n:Nat):cW (n+1)=1+2*bnd n:=rfl
theorem uE{H H':Hp}{L u:Addr}{as:List Addr}{ks:List Kn}{k:Kn}(h:jh H L as ks)(g:∀a k,gq H a k->gq H' a k)(hk:gq H' u k)(hL:H' L=some (.lst ((as++[u]).map V.ref))):jh H' L (as++[u]) (ks++[k]):=by
 refine⟨hL,by rw [UJ,UJ,h.len]; rfl,λi a k' e1 e2=>?_⟩
 by_cases hi:i<as.length
 ·rw [U4 hi]at e1
  rw [U4 (by rw [←h.len]; exact hi)]at e2
  exact g _ _ (h.at_ i a k' e1 e2)
 ·have hi':i=as.length:=by
   have:=(UT.mp e1).1
   rw [UJ]at this
   simp at this
   omega
  rw [hi',U3 (UD _),Nat.sub_self]at e1
  rw [hi',h.len,U3 (UD _),Nat.sub_self]at e2
  cases e1
  cases e2
  exact hk
theorem aE.refl{H:Hp}:aE H H:=λ_ _ e=>e
theorem aE.trans{H H1 H2:Hp}(a:aE H H1)(b:aE H1 H2):aE H H2:=λ_ _ e=>b _ _ (a _ _ e)
theorem aE.vA{H H':Hp}{L:Addr}{xs:List V}{o:HO}(k:aE H H')(h:H' L=some (.lst xs)):aE H (upd H' L o):=λa ys e=>by
 have:=k _ _ e
 rw [aI (λz=>by rw [z,h]at this; cases this)]
 exact this
theorem DE(pi:List Int)(i:Int):pi.map V.int++[V.int i]=(pi++[i]).map V.int:=by rw [UK]; rfl
abbrev fG:Stmt:=top 47
theorem bQ:az ["pipe","begun","prefix","found","known","at","worker","place","told","side","branch","why"] ["pipe","begun","prefix","found"] (ar fG):=fs
variable{P:Program}{w:World}{K:Ve}{mg:Str->Option Value}{base:Heap}
theorem x_{C fI:Addr}{d2:FuncData}{n L:Nat}(B:jU mg)(mE:mg "enumerate"=none)(Cf:HQ K mg C fI)(F:FA K mg "go_through" fG)(GI:e_ P w K mg base bf 1 fI d2 ["self","place","why"] (zf K C))(bI:Binds K d2 ["self","place","why"] [])
  (gK:bc bf P w K mg base 1 "branches_of" ["worker"] (Cs n))
  (iB:bc (AE P w) P w K mg base (L+5) "go_through" ["pipe","begun","prefix","found"] (y6 C n))
  (AQ:bc bf P w K mg base 5 "why_not" ["worker","known","heads"] (Hf n))
  (oB:bc bf P w K mg base 4 "known_behind" ["worker","known","told"] (vR n)) :
  bc (AE P w) P w K mg base (L+6) "go_through" ["pipe","begun","prefix","found"] (y6 C (n+1)):=by
 refine F.KJ bQ λf cdv A outer s H vs Q E hr h=>?_
 have hu:=iW hr
 have hu1:=jW hr
 obtain⟨p,b,pl,fl,ws,k,pi,xs,rfl,hG,qx,q⟩:=h
 refine⟨_,(aq (aL (i:=4) bQ.nd rfl (Or.inl rfl) (pv 1))
   (aq (gH (Cr r6) rfl (pe rfl mE (ae (pv 0) ah)) (cC rfl (aD (bT (i:=5) bQ.nd rfl (Or.inl rfl)) (aD (bT (i:=6) bQ.nd rfl (Or.inl rfl)) bS)))
    (aq (aL (i:=7) bQ.nd rfl (Or.inl rfl) (aF b9 (pv 2) (aJ (ae (pv 5) ah))))
     (aq (fK (kW PySem.F.plainAttrs_list PySem.F.slot_list_append PySem.F.type_list_append cX (pv 3) (ae (aJ (ae (pv 7) (ae (aA K (pv 4) ai) (ae (aA K (pv 4) ai) ah)))) ah)))
     (aq (aL (i:=8) bQ.nd rfl (Or.inl rfl) (aQ ah))
     (aq (gH (Cr r6) rfl (pe rfl mE (ae (ay gK hr (ae (pv 6) ah)) ah)) (cC rfl (aD (bT (i:=9) bQ.nd rfl (Or.inl rfl)) (aD (bT (i:=10) bQ.nd rfl (Or.inl rfl)) bS)))
      (bK (fK (kW PySem.F.plainAttrs_list PySem.F.slot_list_append PySem.F.type_list_append cX (pv 8) (ae (uy iB hr rfl yE (ae (pv 10) (ae (pv 4) (ae (aF b9 (pv 7) (aJ (ae (pv 9) ah))) (ae (pv 3) ah))))) ah)))))
     (aq (dy (aW aP (a_ bF rfl B.len PySem.boot_len (ae (pv 8) ah)) ai)
      (bK (fK (kW PySem.F.plainAttrs_list PySem.F.slot_list_append PySem.F.type_list_append cX (pv 8) (ae (pv 4) ah))))
      cb)
     (aq (aL (i:=11) bQ.nd rfl (Or.inl rfl) (ay AQ hr (ae (pv 6) (ae (pv 4) (ae (zY (N':=["head","passed","loose"]) (src:=[none,none,none]) rfl r6 (ba.jK (by kernel_rfl)) (fj (pv 8)) (g:=(iO K 3 (bO (bz 0) (bO (bz 1) (bO (bz 2) iX))))) (λcl C s H fp=>(cC rfl (aD (Jq (i:=0)) (aD (Jq (i:=1)) (aD (Jq (i:=2)) bS))))) (λcl C s H fp=>i9.yC aX) (te:=(bx 0)) (λcl C s H fp=>(PD 0))) ah)))))
     (aq (dy (aW tq (pv 11) iQ)
      (bK (Af rfl Cf.Qa (Fc Cf.Qa Cf.kp Cf.fn (GI.mono (by omega)) hr rfl Cf.mf bI uv (ae (pv 7) (ae (pv 11) ah)))))
      cb)
     (bK (aL (i:=4) bQ.nd rfl (Or.inl rfl) (ay oB hr (ae (pv 6) (ae (pv 4) (ae (pv 8) ah))))))))))))))
   (aq (fK (kW PySem.F.plainAttrs_list PySem.F.slot_list_append PySem.F.type_list_append cX (pv 3) (ae (aJ (ae (aF b9 (pv 2) (aJ (ae (a_ bF rfl B.len PySem.boot_len (ae (pv 0) ah)) ah))) (ae (aA K (pv 4) ai) (ae (aA K (pv 4) ai) ah)))) ah)))
   (ax (pv 4))))),?_⟩
 obtain⟨⟨bs,hI⟩,hk,hpl,hfl,hok,hko,hpz,Uo⟩:=hG
 have hlb:(bs.map V.ref).length=ws.length:=by rw [UI,hI.len]
 have hcw:=DP n
 have hw9:=hok.len
 have hbn:bnd n=9*cW n+1:=rfl
 refine⟨_,rfl,ak ?_⟩
 dsimp only
 refine⟨_,rfl,p,rfl,⟨_,aH.of hI.tup⟩,?_⟩
 refine l6 (xs:=bs.map V.ref) (λi σ H'=>∃(kb:Addr) (ki:Kn) (ys:List V),(∃o5 o6 o7 o8 o9 p_ qa,σ=[some (.ref p),some (.ref b),some (.ref pl),some (.ref fl),some (.ref kb),o5,o6,o7,o8,o9,p_,qa])/\gq H' kb ki/\mU ki/\eN fl H H'/\H' fl=some (.lst ys)/\ys.length<=xs.length+i*cW n/\putL (cq n) pi 0 k.hd k.fl ws=putL (cq n) pi i ki.hd ki.fl (ws.drop i))
  ⟨b,k,xs,⟨_,_,_,_,_,_,_,rfl⟩,hk,hko,eN.of (aM.refl _),hfl,Nat.le_add_right _ _,rfl⟩ ?_ ?_ ?_
 ·rintro i σ H' _ ⟨kb,ki,ys,_,_,_,g,_⟩
  exact aH.of (g.gp hfl _ _ hI.tup)
 ·rintro i v σ H' T hx ⟨kb,ki,ys,⟨o5,o6,o7,o8,o9,p_,qa,rfl⟩,hki,hoi,g,hfl',hyz,hrun⟩ hT
  obtain⟨a,x,rfl,ex,ha⟩:=hI.get hx
  have NI:i<9:=by have:=(UT.mp ex).1; omega
  have hic:i*cW n+cW n<=9*cW n:=by have:=Nat.mul_le_mul_right (cW n) NI; rw [Nat.succ_mul]at this; exact this
  have K7:=hok.ok (UP ex)
  rw [nA ex]at hrun
  have hrun:putL (cq n) pi 0 k.hd k.fl ws=c7 (cq n ki.hd ki.fl (pi++[(i:Int)]) x) λh' f'=>putL (cq n) pi (i+1) h' f' (ws.drop (i+1)):=hrun
  have sT:=aj hT (.tup [.int (i:Nat),.ref a])
  refine⟨T,_,rfl,aH.of ag,rfl,_,_,rfl,ak ⟨_,_,rfl,ak ⟨rfl,?_⟩⟩⟩
  dsimp only
  refine⟨_,rfl,_,rfl,dP,λu1 jS=>?_⟩
  have sU:=aj jS (.tup [.int (i:Nat)])
  refine⟨pl,u1,_,_,rfl,rfl,sU _ _ (sT _ _ (g.gp hfl _ _ hpl)),ag,by rw [UI]; exact UE (show _+1<=1000 by omega) (by decide),λu2 H2 Jv hu2=>ak ?_⟩
  rw [DE]at hu2
  have s2:=sT.trans (sU.trans Jv)
  dsimp only
  obtain⟨hh,ph,hk1,hk2,hk3⟩:=hki
  have hki:gq H' kb ki:=⟨hh,ph,hk1,hk2,hk3⟩
  refine⟨_,rfl,.inl ⟨rfl,_,aZ.of (s2 _ _ hfl')⟩,_,rfl,_,rfl,kb,_,0,_,rfl,rfl,aH.of (s2 _ _ hk1),av (j:=0) rfl,_,rfl,kb,_,2,_,rfl,rfl,aH.of (s2 _ _ hk1),rfl,gv,λu3 v5=>?_⟩
  have s3:=aj v5 (.tup [.ref u2,.ref hh,.bl ki.lo])
  refine⟨fl,_,_,rfl,rfl,s3 _ _ (s2 _ _ hfl'),UL (show ys.length<=100000 by omega) (by decide),?_⟩
  have g4:eN fl H' (upd (upd H2 u3 (.tup [.ref u2,.ref hh,.bl ki.lo])) fl (.lst (ys++[.ref u3]))):=(eN.of (s2.trans s3)).put
  have Ae:upd (upd H2 u3 (.tup [.ref u2,.ref hh,.bl ki.lo])) fl (.lst (ys++[.ref u3])) fl=some (.lst (ys++[.ref u3])):=ag
  have x6:upd (upd H2 u3 (.tup [.ref u2,.ref hh,.bl ki.lo])) fl (.lst (ys++[.ref u3])) u2=some (.tup ((pi++[(i:Int)]).map V.int)):=by
   rw [aI (λz=>by have:=s2 _ _ hfl'; rw [←z,hu2]at this; cases this)]
   exact s3 _ _ hu2
  revert g4 Ae x6
  generalize upd (upd H2 u3 (.tup [.ref u2,.ref hh,.bl ki.lo])) fl (.lst (ys++[.ref u3]))=H4
  intro g4 Ae x6
  have BY:aE H' H4:=g4.gp hfl'
  have IA:aE H H4:=(g.gp hfl).trans BY
  refine⟨U1 _,λL hL=>ak ?_⟩
  have KN:L≠fl:=λz=>by rw [z,Ae]at hL; cases hL
  dsimp only
  refine ly (λσ H6=>∃(as:List Addr) (ks:List Kn) (zs:List V),(∃o9 p_ qa,σ=[some (.ref p),some (.ref b),some (.ref pl),some (.ref fl),some (.ref kb),some (.int (i:Nat)),some (.ref a),some (.ref u2),some (.ref L),o9,p_,qa])/\jh H6 L as ks/\ks.length=(dF x).length/\(∀k∈ks,mU k)/\aE H4 H6/\eN fl H4 H6/\H6 fl=some (.lst zs)/\zs.length<=ys.length+cW n/\(bZ x=true->putL (cq n) pi 0 k.hd k.fl ws=c7 (ik x ki.hd ki.fl (pi++[(i:Int)]) (mY ks)) λh' f'=>putL (cq n) pi (i+1) h' f' (ws.drop (i+1)))) (λT2 hT2=>?_) ?_
  ·have sL:=aj hL (.lst [])
   refine⟨_,rfl,a,x,rfl,ha.keep (IA.trans (aE.of sL)),λu5 cs H5 s5 hJ=>⟨u5,rfl,⟨_,aH.of hJ.tup⟩,?_⟩⟩
   have Rk:(cs.map V.ref).length=(dF x).length:=by rw [UI,hJ.len]
   refine l6 (xs:=cs.map V.ref) (λj σ H6=>∃(as:List Addr) (ks:List Kn) (zs:List V),(∃o9 p_ qa,σ=[some (.ref p),some (.ref b),some (.ref pl),some (.ref fl),some (.ref kb),some (.int (i:Nat)),some (.ref a),some (.ref u2),some (.ref L),o9,p_,qa])/\jh H6 L as ks/\ks.length=j/\(∀k∈ks,mU k)/\aE H5 H6/\eN fl H4 H6/\H6 fl=some (.lst zs)/\(∀m,n=m+1->zs.length<=ys.length+1+j*bnd m)/\(j=0->zs.length<=ys.length+1)/\(∀m,n=m+1->bZ x=true->putL (cq n) pi 0 k.hd k.fl ws=c7 (Dp (cq m) x ki.hd ki.fl (pi++[(i:Int)]) ((dF x).drop j) j (mY ks)) λh' f'=>putL (cq n) pi (i+1) h' f' (ws.drop (i+1))))
    ⟨[],[],ys++[.ref u3],⟨_,_,_,rfl⟩,⟨s5 _ _ ag,rfl,λi a k e=>by cases e⟩,rfl,λk hk=>(by cases hk),aE.refl,(eN.of sL).trans (eN.of s5),s5 _ _ (sL _ _ Ae),?_,?_,?_⟩ ?_ ?_ ?_
   ·intro m _; rw [UJ,Nat.zero_mul]; simp
   ·intro _; rw [UJ]; simp
   ·rintro m rfl hb
    rw [hrun,pC hb]
    rfl
   ·rintro j σ H6 _ ⟨as,ks,zs,_,_,_,_,kT,_⟩
    exact aH.of (kT _ _ hJ.tup)
   ·rintro j v σ H6 Tn hv ⟨as,ks,zs,⟨o9,p_,qa,rfl⟩,A5,hkl,I0,Qz,g6,xC,KP,_,dW⟩ hT2'
    obtain⟨c',pp,rfl,ep,ds,Sw⟩:=hJ.get hv
    have hbr:bZ x=true:=by
     cases hq:bZ x with
     | true=>rfl
     | false=>rw [(kO hq).1]at ep; cases ep
    obtain⟨m,rfl⟩ :∃m,n=m+1:=by
     cases n with
     | zero=>rw [JS ha]at hbr; cases hbr
     | succ m=>exact⟨m,rfl⟩
    have hj2:j<2:=by have:=(UT.mp ep).1; rw [(lX hbr).1]at this; exact this
    have KP:=KP m rfl
    have hcs:=nu m
    have RY:j*bnd m+bnd m<=2*bnd m:=by have:=Nat.mul_le_mul_right (bnd m) hj2; rw [Nat.succ_mul]at this; exact this
    have dW:=dW m rfl hbr
    rw [nA ep]at dW
    have sA:=aj hT2' (.tup [.int (j:Nat),.ref c'])
    refine⟨Tn,_,rfl,aH.of ag,rfl,_,_,rfl,ak ⟨_,_,rfl,ak ⟨rfl,?_⟩⟩⟩
    dsimp only
    refine⟨_,rfl,.inl ⟨rfl,_,aZ.of (sA _ _ A5.lst)⟩,_,rfl,_,rfl,_,rfl,_,rfl,dP,λu7 Px=>?_⟩
    have sB:=aj Px (.tup [.int (j:Nat)])
    have rE:aE H4 H6:=g6.gp Ae
    refine⟨u2,u7,_,_,rfl,rfl,sB _ _ (sA _ _ (rE _ _ x6)),ag,by rw [UI,UJ]; exact UE (show _+1+1<=1000 by omega) (by decide),λu8 H8 s8 iW=>?_⟩
    rw [DE]at iW
    have qo:=sA.trans (sB.trans s8)
    have O0:=Qz.trans (aE.of qo)
    have g8:eN fl H H8:=(g.trans g4).trans (g6.trans (eN.of qo))
    have Ph:gq H8 kb ki:=(hki.keep BY).keep (rE.trans (aE.of qo))
    refine⟨_,rfl,c',kb,u8,fl,pp,ki,(pi++[(i:Int)])++[(j:Int)],zs,rfl,⟨⟨ds,Sw.keep O0 λ_ _ z=>z.keep O0⟩,Ph,iW,qo _ _ xC,(hok.2 x (UP ex)).2 pp (UP ep),hoi,by rw [UJ,UJ]; show _+1+1+_<=_; omega,by omega⟩,?_,?_⟩
    ·intro a' s' he
     have ht:putL (cq (m+1)) pi 0 k.hd k.fl ws=.no a' s':=by
      rw [dW]
      show c7 (c7 (putL (cq m) ((pi++[(i:Int)])++[(j:Int)]) 0 ki.hd ki.fl pp) _) _=_
      rw [he]
      rfl
     exact λe dx q' H9 g9=>qx a' s' ht e dx q' H9 (g8.trans g9)
    ·intro h' f' he u k' H9 xs' t' g9 hk' Ld eh ef Pq Sh _
     have hL9:H9 L=some (.lst (as.map V.ref)):=g9 _ _ KN (qo _ _ A5.lst)
     have NQ:aE H8 H9:=g9.gp (qo _ _ xC)
     refine⟨L,_,_,rfl,rfl,hL9,?_,as++[u],ks++[k'],xs'++[.ref t'],⟨_,_,_,rfl⟩,?_,?_,?_,(O0.trans NQ).vA hL9,?_,?_,?_,?_,?_⟩
     ·rw [UI,A5.len,hkl]; exact Nat.lt_trans hj2 (by decide)
     ·refine uE A5 (λa k z=>z.keep (((aE.of qo).trans NQ).vA hL9)) (hk'.keep (aE.refl.vA hL9)) ?_
      rw [ag,UK]; rfl
     ·rw [UJ,hkl]; rfl
     ·intro k2 hk2
      rcases UZ.mp hk2 with z | z
      ·exact I0 k2 z
      ·rw [UU.mp z]; exact Ld
     ·exact eN.new hL ((g6.trans (eN.of qo)).trans g9)
     ·rw [aI (Ne.symm KN)]; exact Pq
     ·rintro m' e
      cases e
      rw [UJ,Nat.succ_mul]
      show xs'.length+1<=_
      omega
     ·intro z; cases z
     ·rintro m' e _
      cases e
      rw [dW]
      show c7 (c7 (putL (cq m) ((pi++[(i:Int)])++[(j:Int)]) 0 ki.hd ki.fl pp) _) _=_
      rw [he]
      show c7 (Dp (cq m) x ki.hd ki.fl (pi++[(i:Int)]) _ (j+1) (mY ks++[(h',f')])) _=_
      rw [show mY (ks++[k'])=mY ks++[(h',f')] by rw [mY,UK,←eh,←ef]; rfl]
   ·rintro σ H6 ⟨as,ks,zs,⟨o9,p_,qa,rfl⟩,A5,hkl,I0,Qz,g6,xC,KP,hz0,dW⟩
    rw [Rk]at hkl KP hz0 dW
    refine hT2 _ _ ⟨as,ks,zs,⟨_,_,_,rfl⟩,A5,hkl,I0,g6.gp Ae,g6,xC,?_,?_⟩
    ·cases hq:bZ x with
     | false=>have:=hz0 (by rw [(kO hq).1]; rfl); omega
     | true =>
      obtain⟨m,rfl⟩ :∃m,n=m+1:=by
       cases n with
       | zero=>rw [JS ha]at hq; cases hq
       | succ m=>exact⟨m,rfl⟩
      have:=KP m rfl
      rw [(lX hq).1]at this
      rw [nu]
      omega
    ·intro hq
     obtain⟨m,rfl⟩ :∃m,n=m+1:=by
      cases n with
      | zero=>rw [JS ha]at hq; cases hq
      | succ m=>exact⟨m,rfl⟩
     have:=dW m rfl hq
     rw [List.drop_length]at this
     exact this
  rintro σ H6 ⟨as0,Q2,zs,⟨o9,p_,qa,rfl⟩,qK,Gk,NV,rE,g6,xC,KP,dW⟩
  refine ly (λσ H7=>∃(as:List Addr) (ks:List Kn),σ=[some (.ref p),some (.ref b),some (.ref pl),some (.ref fl),some (.ref kb),some (.int (i:Nat)),some (.ref a),some (.ref u2),some (.ref L),o9,p_,qa]/\jh H7 L as ks/\ks.length=Dt x/\(∀k∈ks,mU k)/\(bZ x=false->ks=[ki])/\aE H4 H7/\eN fl H4 H7/\H7 fl=some (.lst zs)/\putL (cq n) pi 0 k.hd k.fl ws=c7 (ik x ki.hd ki.fl (pi++[(i:Int)]) (mY ks)) λh' f'=>putL (cq n) pi (i+1) h' f' (ws.drop (i+1))) (λT3 Kx=>?_) ?_
  ·refine⟨_,rfl,L,_,rfl,.inl (aZ.of qK.lst),rfl,_,rfl,?_⟩
   cases hq:bZ x with
   | false =>
    have e0:as0=[]:=List.eq_nil_of_length_eq_zero (by rw [qK.len,Gk,(kO hq).1]; rfl)
    subst e0
    have ek:Q2=[]:=List.eq_nil_of_length_eq_zero (by rw [Gk,(kO hq).1]; rfl)
    subst ek
    refine bY ⟨_,rfl,.inl ⟨rfl,_,aZ.of qK.lst⟩,_,rfl,L,_,_,rfl,rfl,qK.lst,(by show 0<sizeLine; decide),Kx _ _ ⟨[kb],[ki],rfl,?_,(kO hq).2.symm,?_,λ_=>rfl,rE.vA qK.lst,eN.new hL g6,?_,?_⟩⟩
    ·exact uE qK (λa k z=>z.keep (aE.refl.vA qK.lst)) ((hki.keep BY).keep (rE.vA qK.lst)) (by rw [ag]; rfl)
    ·intro k2 hk2; rw [UU.mp hk2]; exact hoi
    ·rw [aI (Ne.symm KN)]; exact xC
    ·rw [hrun,iI hq]; rfl
   | true =>
    have e2:as0.length=2:=by rw [qK.len,Gk,(lX hq).1]
    rw [UG (by rw [UI,e2]; intro z; cases z)]
    exact bB (aG (Kx _ _ ⟨as0,Q2,rfl,qK,by rw [Gk,(lX hq).1,(lX hq).2],NV,λz=>(by rw [hq]at z; cases z),rE,g6,xC,dW hq⟩))
  rintro σ H7 ⟨as,ks,rfl,A5,hkn,F_,hone,N5,g7,OK,Hc⟩
  have Q1:aE H H7:=IA.trans N5
  have Lv:gq H7 kb ki:=(hki.keep BY).keep N5
  have hla:(as.map V.ref).length=ks.length:=by rw [UI,A5.len]
  have hn2:ks.length<=2:=by rw [hkn]; exact DH
  refine⟨_,rfl,_,rfl,_,rfl,L,rfl,⟨_,aZ.of A5.lst⟩,λD2 hD2=>?_⟩
  refine dJ (xs:=as.map V.ref) (λi σ ys H'=>(∃o1 o2 o3,σ=[o1,o2,o3])/\(∃bs:List Addr,ys=bs.map V.ref/\bs.length=i/\∀(j:Nat) a k,bs[j]? = some a->ks[j]? = some k->dX H7 a k.hd)/\H' D2=some (.lst ys)/\aM H7 H') ⟨⟨none,none,none,rfl⟩,⟨[],rfl,rfl,λj a k e=>by cases e⟩,ag,aj hD2 _⟩ ?_ ?_ ?_ ?_ ?_
  ·rintro i σ ys H' _ ⟨_,⟨bs,rfl,hi,_⟩,h,_⟩
   exact⟨h,by rw [UI]; exact Nat.le_of_eq hi⟩
  ·rintro i σ ys H' _ ⟨_,_,_,sm⟩
   exact aZ.of (sm _ _ A5.lst)
  ·rw [hla]; exact UE hn2 (by decide)
  ·rintro i v σ ys H' hv ⟨⟨o1,o2,o3,rfl⟩,⟨bs,rfl,hi,hb⟩,h,sm⟩
   obtain⟨b',k',rfl,ek,hh',p',hq1,hq2,Ui⟩:=A5.get hv
   refine⟨b',_,rfl,aH.of (sm _ _ hq1),rfl,_,_,rfl,ak ⟨_,_,rfl,ak ⟨_,_,rfl,ak ⟨rfl,?_⟩⟩⟩⟩
   refine⟨_,rfl,h,⟨_,_,_,rfl⟩,⟨bs++[hh'],by rw [UK]; rfl,by rw [UJ,hi]; rfl,λj a k e1 e2=>?_⟩,ag,bq hD2 sm⟩
   by_cases hj:j<bs.length
   ·rw [U4 hj]at e1
    exact hb j a k e1 e2
   ·have hj':j=bs.length:=by
     have:=(UT.mp e1).1
     rw [UJ]at this
     simp at this
     omega
    rw [hj',U3 (UD _),Nat.sub_self]at e1
    cases e1
    rw [hj',hi,ek]at e2
    cases e2
    exact hq2
  rintro σ ys' H8 ⟨_,⟨ds,rfl,hi,hb⟩,h8,s8⟩
  rw [hla]at hi
  have Po:=Q1.trans (aE.of s8)
  refine⟨a,kb,D2,x,ki,ds,jP ks,rfl,ha.keep Po,Lv.same s8,yw h8 hi (λi a k e1 e2=>s8 _ _ (hb i a k e1 e2)),by rw [jP,UI,hkn],K7,UE hoi.few (by decide),λh hh=>by obtain⟨k,hk,rfl⟩:=UW.mp hh; exact UE (F_ k hk).hd (by decide),λH9 s9=>ak ?_⟩
  have KL:=s8.trans s9
  have R_:=Q1.trans (aE.of KL)
  have g9:eN fl H H9:=(g.trans g4).trans (g7.trans (eN.of KL))
  rw [IT]
  have hfin:ik x ki.hd ki.fl (pi++[(i:Int)]) (mY ks)=match i7 x ki.fl (jP ks)with | some s=>.no (pi++[(i:Int)]) s | none=>.ok (bE x (jP ks)) (Eo x ki.hd ki.fl (ks.map Kn.fl)):=by
   unfold ik
   rw [Ex,F9]
   first | done | (cases i7 x ki.fl (jP ks) <;> rfl)
  cases ew:i7 x ki.fl (jP ks)with
  | some s =>
   rw [ew]at hfin
   have ht:putL (cq n) pi 0 k.hd k.fl ws=.no (pi++[(i:Int)]) s:=by rw [Hc,hfin]; rfl
   dsimp only
   refine⟨_,rfl,rfl,_,rfl,bY ⟨_,rfl,_,rfl,cJ,λe he=>?_⟩⟩
   have ne:∀d o,H9 d=some o->d≠e:=λd o z y=>by subst y; rw [he]at z; cases z
   refine⟨e,_,_,rfl,ag,Cf.xc,Cf.np,Cf.nr,λdx H3 hdx keep h2 h3=>⟨rfl,e,some dx,rfl,h2,?_⟩⟩
   have kk:∀d o,H9 d=some o->H3 d=some o:=λd o z=>keep d o (ne d o z) (by rw [aI (ne d o z)]; exact z)
   have RH:dx≠e:=λy=>by subst y; rw [ag]at hdx; cases hdx
   have NN:H9 u2=some (.tup ((pi++[(i:Int)]).map V.int)):=(N5.trans (aE.of KL)) _ _ x6
   refine qx _ s ht e dx u2 _ (λd o nd z=>?_) ag (by rw [aI RH]; exact h3) ?_
   ·have z9:=g9 _ _ nd z
    rw [aI (ne d o z9)]; exact kk _ _ z9
   ·rw [aI (ne u2 _ NN)]; exact kk _ _ NN
  | none =>
   rw [ew]at hfin
   obtain⟨hfit,Il⟩:=ue ew
   dsimp only
   refine⟨_,rfl,rfl,_,rfl,bB (aG ?_)⟩
   dsimp only
   refine⟨_,rfl,_,rfl,_,rfl,a,kb,L,x,ki,as,ks,rfl,ha.keep R_,Lv.same KL,A5.same KL,⟨hkn,K7,hfit,EE hone hfit,λk hk=>UE (F_ k hk).hd (by decide),λk hk=>UE (F_ k hk).few (by decide)⟩,λu k' AF Cw hk' e1 e2 e3=>ak ?_⟩
   refine⟨u,k',zs,⟨_,_,_,_,_,_,_,rfl⟩,hk',mU.next F_ (by rw [e1]; exact Il) e2,g9.trans (eN.of Cw),Cw _ _ (KL _ _ OK),?_,?_⟩
   ·rw [Nat.succ_mul]; omega
   ·rw [Hc,hfin,e1,Lu e2 e3]
    rfl
 ·rintro σ H' ⟨kb,ki,ys,⟨o5,o6,o7,o8,o9,p_,qa,rfl⟩,hki,hoi,g,hfl',hyz,hrun⟩
  rw [hlb]at hyz hrun
  rw [List.drop_length]at hrun
  have T_:=Nat.mul_le_mul_right (cW n) hw9
  obtain⟨hh,ph,hk1,hk2,hk3⟩:=hki
  have k0:=g.gp hfl
  dsimp only
  refine⟨_,rfl,.inl ⟨rfl,_,aZ.of hfl'⟩,_,rfl,_,rfl,p,_,rfl,.inr (aH.of (k0 _ _ hI.tup)),dP,λu1 jS=>?_⟩
  have sU:=aj jS (.tup [.int ((bs.map V.ref).length:Nat)])
  refine⟨pl,u1,_,_,rfl,rfl,sU _ _ (k0 _ _ hpl),ag,by rw [UI]; exact UE (show _+1<=1000 by omega) (by decide),λu2 H2 Jv hu2=>?_⟩
  have s2:=sU.trans Jv
  refine⟨_,rfl,kb,_,0,_,rfl,rfl,aH.of (s2 _ _ hk1),av (j:=0) rfl,_,rfl,kb,_,2,_,rfl,rfl,aH.of (s2 _ _ hk1),rfl,gv,λu3 v5=>?_⟩
  have s3:=aj v5 (.tup [.ref u2,.ref hh,.bl ki.lo])
  have Nk:=s2.trans s3
  refine⟨fl,_,_,rfl,rfl,Nk _ _ hfl',UL (show ys.length<=100000 by omega) (by decide),_,rfl,?_⟩
  have kU:aE H' (upd (upd H2 u3 (.tup [.ref u2,.ref hh,.bl ki.lo])) fl (.lst (ys++[.ref u3]))):=(aE.of Nk).vA (Nk _ _ hfl')
  refine q ki.hd ki.fl hrun kb ki _ ys u3 (g.trans (eN.of Nk)).put ⟨hh,ph,kU _ _ hk1,kU _ _ hk2,kU _ _ hk3⟩ hoi rfl rfl ag (by omega) ⟨.ref u2,hh,.bl ki.lo,?_,kU _ _ hk2⟩
  have nf:u3≠fl:=λz=>by have:=s2 _ _ hfl'; rw [←z,v5]at this; cases this
  rw [aI nf]
  exact ag
def f0:Fl:=⟨false,false,false,false,false⟩
def j9(n:Nat)(hd:Hd)(ws:List Wk):Res:=putL (cq n) [] 0 hd f0 ws
def QC(C:Addr)(H:Hp)(a:List Int)(s:Str)(E:XK):Prop:=∀(e dx q:Addr) (H':Hp),aM H H'->H' e=some (xO e C (some dx))->H' dx=some (xD dx (AK (.ref q) (.str s)))->H' q=some (.tup (a.map V.int))->E (.ref C) (some e) H'
structure LP(n:Nat)(H:Hp)(a p:Addr)(hd:Hd)(ws:List Wk):Prop where
 SG:dX H a hd
 six:hd.length<=6
 pp:jo n H p ws
 ok:uh n ws
def Bk(C:Addr)(n:Nat):Sp:=λvs H Q E=>∃(a p:Addr) (hd:Hd) (ws:List Wk),vs=[.ref a,.ref p]/\LP n H a p hd ws/\2*n<=100/\bnd n<=100000/\
 (∀x s,j9 n hd ws=.no x s->QC C H x s E)/\
 (∀h f,j9 n hd ws=.ok h f->∀(l:Addr) (H':Hp) (xs':List V) (t:Addr),aM H H'->H' l=some (.lst (xs'++[.ref t]))->Hs H' t h->Q (.ref l) H')
theorem kr{fl:Addr}{H H1 H':Hp}(hn:H fl=none)(s:aM H H1)(g:eN fl H1 H'):aM H H':=λb o e=>g _ _ (aU e hn) (s _ _ e)
abbrev oU:Stmt:=top 48
theorem qW:az ["head","pipe","found"] ["head","pipe"] (ar oU):=fs
theorem AM{C:Addr}{n L:Nat}(F:FA K mg "survey" oU)
  (iB:bc (AE P w) P w K mg base (L+6) "go_through" ["pipe","begun","prefix","found"] (y6 C (n+1))) :
  bc (AE P w) P w K mg base (L+7) "survey" ["head","pipe"] (Bk C n):=by
 refine F.KJ qW λf cdv A outer s H vs Q E hr h=>?_
 have hu:=iW hr
 have hu1:=jW hr
 obtain⟨a,p,hd,ws,rfl,hI,hn2,hbn,qx,q⟩:=h
 refine⟨_,(aq (aL (i:=2) qW.nd rfl (Or.inl rfl) (aQ ah))
   (aq (fK (uy iB hr rfl yE (ae (pv 1) (ae (aJ (ae (pv 0) (ae (aJ ah) (ae fY ah)))) (ae (aJ ah) (ae (pv 2) ah))))))
   (ax (pv 2)))),?_⟩
 refine⟨U1 _,λF hF=>ak ?_⟩
 dsimp only
 have s0:=aj hF (.lst [])
 have N0:upd H F (.lst []) F=some (.lst []):=ag
 revert s0 N0
 generalize upd H F (.lst [])=H0
 intro s0 N0
 refine⟨_,rfl,_,rfl,wt,λu1 jS=>?_⟩
 have s1:=aj jS (.tup [])
 refine⟨gv,λu2 hu2=>?_⟩
 have s2:=aj hu2 (.tup [.ref a,.ref u1,.bl false])
 refine⟨wt,λu3 v5=>?_⟩
 have s3:=aj v5 (.tup [])
 have HE:=s0.trans (s1.trans (s2.trans s3))
 have qe:=s1.trans (s2.trans s3)
 have e1:=s3 _ _ (s2 _ _ (ag (H:=H0) (a:=u1) (o:=.tup [])))
 have e2:=s3 _ _ (ag (H:=upd H0 u1 (.tup [])) (a:=u2) (o:=.tup [.ref a,.ref u1,.bl false]))
 have e3:upd (upd (upd H0 u1 (.tup [])) u2 (.tup [.ref a,.ref u1,.bl false])) u3 (.tup []) u3=some (.tup []):=ag
 revert HE qe e1 e2 e3
 generalize upd (upd (upd H0 u1 (.tup [])) u2 (.tup [.ref a,.ref u1,.bl false])) u3 (.tup [])=H3
 intro HE qe e1 e2 e3
 refine⟨_,rfl,p,u2,u3,F,ws,⟨hd,[],false⟩,[],[],rfl,⟨hI.pp.keep (aE.of HE),⟨a,u1,e2,HE _ _ hI.SG,e1⟩,e3,qe _ _ N0,hI.ok,⟨hI.six,List.nodup_nil,λs hs=>(by cases hs)⟩,by simpa using hn2,by simpa using hbn⟩,?_,?_⟩
 ·intro x s he e dx q' H' g
  exact qx x s he e dx q' H' (kr hF HE g)
 ·intro h f he u k' H' xs' t g hk' Ld eh ef hfl' Sh hE
  exact⟨_,rfl,q h f he F H' xs' t (kr hF HE g) hfl' hE⟩
def MR(C:Addr)(n:Nat):Sp:=λvs H Q E=>∃(a p:Addr) (hd:Hd) (ws:List Wk),vs=[.ref a,.ref p]/\LP n H a p hd ws/\2*n<=100/\bnd n<=100000/\
 (∀x s,j9 n hd ws=.no x s->QC C H x s E)/\
 (∀h f,j9 n hd ws=.ok h f->∀(u:Addr) (H':Hp),aM H H'->dX H' u h->Q (.ref u) H')
abbrev gN:Stmt:=top 49
theorem ow:az ["head","pipe"] ["head","pipe"] (ar gN):=fs
theorem qi{C:Addr}{n L:Nat}(F:FA K mg "head_behind" gN)
  (Bo:bc (AE P w) P w K mg base (L+7) "survey" ["head","pipe"] (Bk C n)) :
  bc (AE P w) P w K mg base (L+8) "head_behind" ["head","pipe"] (MR C n):=by
 refine F.KJ ow λf cdv A outer s H vs Q E hr h=>?_
 obtain⟨a,p,hd,ws,rfl,hI,hn2,hbn,qx,q⟩:=h
 refine⟨_,(ax (aA K (bj K (uy Bo hr rfl yE (ae (pv 0) (ae (pv 1) ah))) (rj l0 ai)) ai)),?_⟩
 refine⟨_,rfl,_,rfl,a,p,hd,ws,rfl,hI,hn2,hbn,qx,λh f he l H' xs' t s' hl hE=>?_⟩
 obtain⟨qq,hh,b,h1,h2⟩:=hE
 exact⟨_,rfl,l,_,-1,_,rfl,rfl,aZ.of hl,oX _ _,t,_,1,_,rfl,rfl,aH.of h1,rfl,q h f he hh H' s' h2⟩
end My
namespace L2
open PySem
def Bc:List V->Hp->VK->Prop:=λxs H Q=>(∃i,xs=[.int i]/\Q (.int i) H)\/∃k,xs=[.bl k]/\Q (.int (if k then 1 else 0)) H
theorem zQ{X:Cx}:fq X (.type "int") Bc:=cA
end L2
namespace My
open PySem L2
theorem AY{a b c:Str}(h1:v3 a b)(h2:v3 b c):v3 a c:=List.lt_trans h1 h2
theorem pR:∀{a b:List Str},a.Pairwise v3->b.Pairwise v3->(∀s,s∈a↔s∈b)->a=b
 | [],[],_,_,_=>rfl
 | [],y::b,_,_,h=>absurd ((h y).mpr (by simp)) (by simp)
 | x::a,[],_,_,h=>absurd ((h x).mp (by simp)) (by simp)
 | x::a,y::b,ha,hb,h=>by
  rw [List.pairwise_cons]at ha hb
  have e:x=y:=by
   rcases UX.mp ((h x).mp (by simp))with e | m1
   ·exact e
   ·rcases UX.mp ((h y).mpr (by simp))with e | m2
    ·exact e.symm
    ·exact absurd (AY (ha.1 y m2) (hb.1 x m1)) m7
  subst e
  rw [pR (a:=a) (b:=b) ha.2 hb.2 λs=>⟨λm=>?_,λm=>?_⟩]
  ·rcases UX.mp ((h s).mp (by simp [m]))with e | z
   ·subst e; exact absurd (ha.1 _ m) m7
   ·exact z
  ·rcases UX.mp ((h s).mpr (by simp [m]))with e | z
   ·subst e; exact absurd (hb.1 _ m) m7
   ·exact z
def i8(ss:List Str):List Str:=(if("n" : Str)∈ss then(["n"]:List Str)else [])++(if("w" : Str)∈ss then(["w"]:List Str)else [])
theorem lD{ss:List Str}(h:∀s∈ss,s="n"\/s="w")(s:Str):s∈i8 ss↔s∈ss:=by
 unfold i8
 by_cases h1:("n" : Str)∈ss <;> by_cases h2:("w" : Str)∈ss <;> simp only [h1,h2,if_true,if_false,UZ,UU,List.not_mem_nil,or_false,false_or] <;> constructor
 ·rintro(rfl | rfl) <;> assumption
 ·exact λm=>h s m
 ·rintro rfl; assumption
 ·intro m; rcases h s m with rfl | rfl
  ·rfl
  ·exact absurd m h2
 ·rintro rfl; assumption
 ·intro m; rcases h s m with rfl | rfl
  ·exact absurd m h1
  ·rfl
 ·exact False.elim
 ·intro m; rcases h s m with rfl | rfl
  ·exact h1 m
  ·exact h2 m
theorem Dr(ss:List Str):(i8 ss).Pairwise v3:=by
 have hlt:v3 "n" "w":=by unfold v3; decide +kernel
 unfold i8
 by_cases h1:("n" : Str)∈ss <;> by_cases h2:("w" : Str)∈ss <;> simp [h1,h2,hlt]
theorem GV(v:V):sW v="n"\/sW v="w":=by cases v <;> simp [sW]
theorem Kb{ms:List Str}{us:List V}(h:Ay ms (us.map sW)):ms=i8 (us.map sW):=by
 have hn:∀s∈us.map sW,s="n"\/s="w":=λs hs=>by obtain⟨v,_,rfl⟩:=UW.mp hs; exact GV v
 exact pR h.1 (Dr _) λs=>(h.2 s).trans (lD hn s).symm
def sS:Sp:=λvs H Q _=>∃(l:Addr) (us:List V),vs=[.ref l]/\H l=some (.lst us)/\us.length<60/\(∀v∈us,dN v)/\∀(u:Addr) (H':Hp),aM H H'->H' u=some (.lst ((i8 (us.map sW)).map V.str))->Q (.ref u) H'
abbrev iY:Stmt:=top 67
theorem qC:az ["_law_cells"] ["_law_cells"] (ar iY):=fs
variable{P:Program}{w:World}{K:Ve}{mg:Str->Option Value}{base:Heap}
theorem Ct(B:jU mg)(B2:iL mg)(B3:Ao mg)(Ki:PySem.W.kitOne K (.type "int") (.type "str")=some false)(F:FA K mg "_law_sorts" iY) :
  bc bf P w K mg base 1 "_law_sorts" ["_law_cells"] sS:=by
 refine F.ok qC λf cdv A outer s H vs Q E hr h=>?_
 have hu:=iW hr
 obtain⟨l,us,rfl,hl,hz,hc,q⟩:=h
 refine⟨_,(ax (kE rfl rfl B2.sorted rfl B2.set (bw (N':=["_law_cell_here"]) (src:=[none]) rfl (ba.jK (by kernel_rfl)) (fj (pv 0)) (λcl C s H fp=>(eA (i:=0))) (λcl C s H fp=>aX) (te:=(gE (xy K) (xR (bp (tC (.str "n")) (bp (tC (.str "w")) fD))) (KG Bc (bp (KG (LA K "str") (bp (bx 0) (bp (tC (.ty "str")) fD))) fD)))) (λcl C s H fp=>(bj K (aQ (ae ao (ae ao ah))) (aV zQ xA B2.int PyProof.Rows.boot_int (ae (a_ (vK (n:="str")) xA B.isinstance PyProof.Rows.boot_isinstance (ae (i3 0) (ae (xr (n:="str") xA B3.str (by decide +kernel)) ah))) ah))))))),?_⟩
 refine⟨_,rfl,l,rfl,⟨_,aZ.of hl⟩,λD hD=>?_⟩
 refine dJ (xs:=us) (λi σ ys H'=>(∃o,σ=[o])/\ys=((us.take i).map sW).map V.str/\ys.length=i/\H' D=some (.lst ys)/\aM H H') ⟨⟨none,rfl⟩,rfl,rfl,ag,aj hD _⟩ ?_ ?_ ?_ ?_ ?_
 ·rintro i σ ys H' _ ⟨_,_,hi,h,_⟩
  exact⟨h,Nat.le_of_eq hi⟩
 ·rintro i σ ys H' _ ⟨_,_,_,_,sm⟩
  exact aZ.of (sm _ _ hl)
 ·exact UE (show us.length<=60 by omega) (by decide)
 ·rintro i v σ ys H' hv ⟨⟨o,rfl⟩,rfl,hi,h,sm⟩
  refine⟨cJ,λR hR=>?_⟩
  have sR:=aj hR (.lst [V.str "n",.str "w"])
  have fin:∀s,sW v=s->upd H' R (.lst [V.str "n",.str "w"]) D=some (.lst (((us.take i).map sW).map V.str))/\((∃o,(List.set [o] 0 (some v))=[o])/\((us.take i).map sW).map V.str++[V.str s]=((us.take (i+1)).map sW).map V.str/\(((us.take i).map sW).map V.str++[V.str s]).length=i+1/\upd (upd H' R (.lst [V.str "n",.str "w"])) D (.lst (((us.take i).map sW).map V.str++[V.str s])) D=some (.lst (((us.take i).map sW).map V.str++[V.str s]))/\aM H (upd (upd H' R (.lst [V.str "n",.str "w"])) D (.lst (((us.take i).map sW).map V.str++[V.str s])))):=by
   rintro s rfl
   refine⟨sR _ _ h,⟨some v,rfl⟩,?_,?_,ag,bq hD (sm.trans sR)⟩
   ·rw [take_one hv,UK,UK]; rfl
   ·rw [UJ,hi]; rfl
  rcases hc v (UP hv)with⟨n,rfl⟩ | ⟨x,rfl⟩
  ·obtain⟨f1,f2,f3,f4,f5,f6⟩:=fin "n" rfl
   exact⟨_,rfl,_,_,false,rfl,.int n,Ki,.inr ⟨_,rfl,R,_,0,_,rfl,rfl,aZ.of ag,rfl,f1,⟨_,rfl⟩,f3,f4,f5,f6⟩⟩
  ·obtain⟨f1,f2,f3,f4,f5,f6⟩:=fin "w" rfl
   exact⟨_,rfl,_,_,true,rfl,.str x,ux (by decide),.inr ⟨_,rfl,R,_,1,_,rfl,rfl,aZ.of ag,rfl,f1,⟨_,rfl⟩,f3,f4,f5,f6⟩⟩
 ·rintro σ ys H1 ⟨_,rfl,hi,h,sm⟩
  rw [List.take_length]at h
  refine⟨D,_,rfl,.inl (aZ.of h),by rw [UI,UI]; omega,.inr ⟨_,rfl⟩,λu ys hu' hS=>?_⟩
  have hys:ys=(i8 (us.map sW)).map V.str:=by
   rcases hS with⟨ns,ms,e1,e2,e3,e4⟩ | ⟨ns,ms,e1,e2,e3,e4⟩
   ·cases hus:us with
    | nil =>
     rw [hus]at e1
     cases ns with
     | nil =>
      cases ms with
      | nil=>rw [e2]; rfl
      | cons m ms=>exact absurd ((e4 m).mp (by simp)) (by simp)
     | cons n ns=>cases e1
    | cons v vs =>
     rw [hus]at e1
     cases ns with
     | nil=>cases e1
     | cons n ns=>cases e1
   ·have:ns=us.map sW:=(List.map_inj_right (f:=V.str) (λa b e=>V.str.inj e)).mp e1.symm
    subst this
    rw [e2,Kb ⟨e3,e4⟩]
  rw [hys]
  exact q u _ (sm.trans (aj hu' _)) ag
def uk(n:Nat):Sp:=λvs H Q _=>∃(a:Addr) (x:Wk),vs=[.ref a]/\dk n H a x/\∀H',aM H H'->Q (.bl (cD x.nm)) H'
abbrev eD:Stmt:=top 73
theorem kD:az ["_law_worker_here"] ["_law_worker_here"] (ar eD):=fs
theorem Cq{n:Nat}(F:FA K mg "_law_is_one_row" eD) :
  bc bf P w K mg base 1 "_law_is_one_row" ["_law_worker_here"] (uk n):=by
 refine F.ok kD λf cdv A outer s H vs Q E hr h=>?_
 obtain⟨a,x,rfl,ha,q⟩:=h
 refine⟨_,(ax (fF cn (aA K (pv 0) ai) (aQ (ae ao (ae ao (ae ao (ae ao (ae ao ah)))))) rfl)),?_⟩
 obtain⟨xs,h1⟩:=ha.first
 refine⟨_,rfl,a,_,0,_,rfl,rfl,aH.of h1,av (j:=0) rfl,sF,λR hR=>?_⟩
 exact⟨R,mL,rfl,.inl (aZ.of ag),rfl,rfl,q _ (aj hR _)⟩
end My
namespace L2
open PySem
def N3(neg:Bool):R2:=λx y H Q=>∃a b xs,x=.ref a/\y=.ref b/\H a=some (.lst xs)/\H b=some (.lst [])/\Q (.bl (if neg then !xs.isEmpty else xs.isEmpty)) H
theorem Ef{X:Cx}(hu:X.A.units+8<cLine):i6 X (compareOp .NotEq) (N3 true):=by
 intro pins s σ H x y v u Q I rx ry h
 obtain⟨a,b,xs,rfl,rfl,ha,hb,q⟩:=h
 cases xs with
 | nil =>
  refine js pins s σ H _ _ v u Q I rx ry ⟨.lst [],.lst [],lb ha bH.nil,lb hb bH.nil,?_,?_⟩
  ·have:(D.lst []).depth<=8:=by simp [D.depth,cw]
   omega
  ·have e:cN (.lst []) (.lst [])=true:=jt _
   rw [e]; exact q
 | cons z zs=>exact C8 (by omega) pins s σ H _ _ v u Q I rx ry ⟨a,b,_,_,rfl,rfl,aZ.of ha,aZ.of hb,by simp,q⟩
end L2
namespace My
open PySem L2
theorem HK{x:Wk}:inV (.str x.nm) [.str "keep",.str "turn",.str "must",.str "walk"]=true->∃y,x=.one y/\vY y:=by
 cases x with
 | one x=>cases x <;> simp only [Wk.nm,W1.nm] <;> intro h <;> first | exact⟨_,rfl,_,.inl ⟨_,rfl⟩⟩ | exact⟨_,rfl,_,.inr (.inl ⟨_,rfl⟩)⟩ | exact⟨_,rfl,_,.inr (.inr (.inl ⟨_,rfl⟩))⟩ | exact⟨_,rfl,_,.inr (.inr (.inr ⟨_,rfl⟩))⟩ | exact absurd h (by decide +kernel)
 | both p q=>simp only [Wk.nm]; intro h; exact absurd h (by decide +kernel)
 | meet c d p q=>simp only [Wk.nm]; intro h; exact absurd h (by decide +kernel)
theorem in_list{x:Wk}:inV (.str x.nm) [.str "cut",.str "count"]=true->∃y,x=.one y/\xQ y:=by
 cases x with
 | one x=>cases x <;> simp only [Wk.nm,W1.nm] <;> intro h <;> first | exact⟨_,rfl,_,.inl rfl⟩ | exact⟨_,rfl,_,.inr rfl⟩ | exact absurd h (by decide +kernel)
 | both p q=>simp only [Wk.nm]; intro h; exact absurd h (by decide +kernel)
 | meet c d p q=>simp only [Wk.nm]; intro h; exact absurd h (by decide +kernel)
theorem y9{x:Wk}(h:x.nm="same"):∃c d,x=.one (.same c d):=by
 revert h
 cases x with
 | one x=>cases x <;> simp only [Wk.nm,W1.nm] <;> first | (intro h; exact⟨_,_,rfl⟩) | (intro h; exact absurd h (by decide +kernel))
 | both p q=>simp only [Wk.nm]; intro h; exact absurd h (by decide +kernel)
 | meet c d p q=>simp only [Wk.nm]; intro h; exact absurd h (by decide +kernel)
theorem FH{x:Wk}(h:x.nm="sort"):∃cs,x=.one (.sort cs):=by
 revert h
 cases x with
 | one x=>cases x <;> simp only [Wk.nm,W1.nm] <;> first | (intro h; exact⟨_,rfl⟩) | (intro h; exact absurd h (by decide +kernel))
 | both p q=>simp only [Wk.nm]; intro h; exact absurd h (by decide +kernel)
 | meet c d p q=>simp only [Wk.nm]; intro h; exact absurd h (by decide +kernel)
theorem DY{x:Wk}(h:x.nm="sum"):∃cs c,x=.one (.sum cs c):=by
 revert h
 cases x with
 | one x=>cases x <;> simp only [Wk.nm,W1.nm] <;> first | (intro h; exact⟨_,_,rfl⟩) | (intro h; exact absurd h (by decide +kernel))
 | both p q=>simp only [Wk.nm]; intro h; exact absurd h (by decide +kernel)
 | meet c d p q=>simp only [Wk.nm]; intro h; exact absurd h (by decide +kernel)
theorem C3{x:Wk}(h1:¬inV (.str x.nm) [.str "keep",.str "turn",.str "must",.str "walk"]=true)(h2:x.nm≠"same")(h3:¬inV (.str x.nm) [.str "cut",.str "count"]=true)(h4:x.nm≠"sort")(h5:x.nm≠"sum"):gx x=[]:=by
 cases x with
 | one x=>cases x <;> first | rfl | exact absurd rfl h2 | exact absurd rfl h4 | exact absurd rfl h5 | exact absurd (by simp only [Wk.nm,W1.nm]; decide +kernel) h1 | exact absurd (by simp only [Wk.nm,W1.nm]; decide +kernel) h3
 | both p q=>rfl
 | meet c d p q=>rfl
def v_(n:Nat):Sp:=λvs H Q _=>∃(a:Addr) (x:Wk),vs=[.ref a]/\dk n H a x/\kj x/\∀(u:Addr) (H':Hp),aM H H'->H' u=some (.lst ((gx x).map V.int))->Q (.ref u) H'
abbrev dM:Stmt:=top 68
theorem fu:az ["_law_worker_here","_law_word_here"] ["_law_worker_here"] (ar dM):=fs
variable{P:Program}{w:World}{K:Ve}{mg:Str->Option Value}{base:Heap}
theorem Gd{n:Nat}(B:jU mg)(F:FA K mg "_law_told_columns" dM) :
  bc bf P w K mg base 1 "_law_told_columns" ["_law_worker_here"] (v_ n):=by
 refine F.ok fu λf cdv A outer s H vs Q E hr h=>?_
 have hu:=iW hr
 obtain⟨a,x,rfl,ha,hsm,q⟩:=h
 refine⟨_,(aq (aL (i:=1) fu.nd rfl (Or.inl rfl) (aA K (pv 0) ai))
   (aN (dc cn (pv 1) (aQ (ae ao (ae ao (ae ao (ae ao ah))))) rfl) (aQ (ae (aA K (pv 0) ai) ah))
   (aN (aW aP (pv 1) ao) (aQ (ae (aA K (pv 0) ai) (ae (aA K (pv 0) ai) ah)))
   (aN (dc cn (pv 1) (aQ (ae ao (ae ao ah))) rfl) (aV lx rfl B.list PyProof.Rows.boot_list (ae (aA K (pv 0) ai) ah))
   (aN (aW aP (pv 1) ao) (bw (N':=["_law_column_here","_law_falling"]) (src:=[none,none]) rfl (ba.jK (by kernel_rfl)) (cM (aA K (pv 0) ai)) (g:=(iO K 2 (bO (bz 0) (bO (bz 1) iX)))) (λcl C s H fp=>(cC rfl (aD (eA (i:=0)) (aD (eA (i:=1)) bS)))) (λcl C s H fp=>aX) (te:=(bx 0)) (λcl C s H fp=>(i3 0)))
   (ax (eM (aW aP (pv 1) ao) (aF og (aV lx rfl B.list PyProof.Rows.boot_list (ae (aA K (pv 0) ai) ah)) (aQ (ae (aA K (pv 0) ai) ah))) (aQ ah)))))))),?_⟩
 obtain⟨xs,h1⟩:=ha.first
 refine⟨_,rfl,a,_,0,_,rfl,rfl,aH.of h1,av (j:=0) rfl,ak ?_⟩
 dsimp only
 refine⟨_,rfl,M5,λR1 Pp=>⟨R1,_,rfl,.inl (aZ.of ag),rfl,rfl,_,rfl,?_⟩⟩
 have t1:=aj Pp (.lst [V.str "keep",.str "turn",.str "must",.str "walk"])
 revert t1
 generalize upd H R1 (.lst [V.str "keep",.str "turn",.str "must",.str "walk"])=H1
 intro t1
 refine cG (λk=>?_) (λk1=>aG ?_)
 ·obtain⟨y,rfl,hy⟩:=HK k
  obtain⟨c,v,vs,h2,hc⟩:=hy.at_ (bW.mp ha)
  refine⟨_,rfl,a,_,1,_,rfl,rfl,aH.of (t1 _ _ h2),av (j:=1) rfl,dP,λu hu=>q u _ (t1.trans (aj hu _)) ?_⟩
  rw [ag]
  show _=some (HO.lst ((c8 y).map V.int))
  rw [hc]
  rfl
 refine⟨_,rfl,rfl,_,rfl,?_⟩
 rw [bL]
 by_cases e2:x.nm="same"
 ·rw [UH e2]
  obtain⟨c,d,rfl⟩:=y9 e2
  have h2:H a=some (.tup [.str "same",.int c,.int d]):=bW.mp ha
  exact bY ⟨_,rfl,a,_,1,_,rfl,rfl,aH.of (t1 _ _ h2),rfl,_,rfl,a,_,2,_,rfl,rfl,aH.of (t1 _ _ h2),rfl,cJ,λu hu=>q u _ (t1.trans (aj hu _)) ag⟩
 rw [UG e2]
 refine bB (aG ⟨_,rfl,cJ,λR2 yN=>⟨R2,_,rfl,.inl (aZ.of ag),rfl,rfl,_,rfl,?_⟩⟩)
 have TH:=aj yN (.lst [V.str "cut",.str "count"])
 have t2:=t1.trans TH
 revert t2
 generalize upd H1 R2 (.lst [V.str "cut",.str "count"])=H2
 intro t2
 refine cG (λk=>?_) (λk3=>aG ?_)
 ·obtain⟨y,rfl,cs,rfl | rfl⟩:=in_list k
  ·obtain⟨t,h2,h3⟩:=bW.mp ha
   exact⟨_,rfl,a,_,1,_,rfl,rfl,aH.of (t2 _ _ h2),rfl,t,_,rfl,.inr (aH.of (t2 _ _ h3)),λu hu=>q u _ (t2.trans (aj hu _)) ag⟩
  ·obtain⟨t,h2,h3⟩:=bW.mp ha
   exact⟨_,rfl,a,_,1,_,rfl,rfl,aH.of (t2 _ _ h2),rfl,t,_,rfl,.inr (aH.of (t2 _ _ h3)),λu hu=>q u _ (t2.trans (aj hu _)) ag⟩
 refine⟨_,rfl,rfl,_,rfl,?_⟩
 rw [bL]
 by_cases e4:x.nm="sort"
 ·rw [UH e4]
  obtain⟨cs,rfl⟩:=FH e4
  obtain⟨t,bs,h2,hI⟩:=bW.mp ha
  have hs:cs.length<=1000:=hsm
  have hl:(bs.map V.ref).length=cs.length:=by rw [UI,hI.len]
  refine bY ⟨_,rfl,a,_,1,_,rfl,rfl,aH.of (t2 _ _ h2),rfl,t,rfl,⟨_,aH.of (t2 _ _ hI.tup)⟩,λD hD=>?_⟩
  refine cF (xs:=bs.map V.ref) (λi σ ys H'=>(∃o1 o2,σ=[o1,o2])/\ys=(cs.take i).map V.int/\ys.length=i/\H' D=some (.lst ys)/\aM H2 H') ⟨⟨none,none,rfl⟩,rfl,rfl,ag,aj hD _⟩ ?_ ?_ ?_ ?_ ?_
  ·rintro i σ ys H' _ ⟨_,_,hi,h,_⟩
   exact⟨h,Nat.le_of_eq hi⟩
  ·rintro i σ ys H' _ ⟨_,_,_,_,sm⟩
   exact aH.of (sm _ _ (t2 _ _ hI.tup))
  ·rw [hl]; exact UE hs (by decide)
  ·rintro i x σ ys H' hx ⟨⟨o1,o2,rfl⟩,rfl,hi,h,sm⟩
   obtain⟨b,c,rfl,ec,bb,hb⟩:=hI.get hx
   refine⟨b,_,rfl,aH.of (sm _ _ (t2 _ _ hb)),rfl,_,_,rfl,ak ⟨_,_,rfl,ak ⟨rfl,?_⟩⟩⟩
   refine⟨_,rfl,h,⟨_,_,rfl⟩,?_,?_,ag,bq hD sm⟩
   ·rw [take_one ec,UK]; rfl
   ·rw [UJ,hi]; rfl
  ·rintro σ ys H' ⟨_,rfl,_,h,sm⟩
   rw [hl,List.take_length]at h
   exact q D H' (t2.trans sm) h
 rw [UG e4]
 refine bB (aG ⟨_,rfl,rfl,_,rfl,?_⟩)
 rw [bL]
 by_cases e5:x.nm="sum"
 ·rw [UH e5]
  obtain⟨cs,c,rfl⟩:=DY e5
  obtain⟨t,h2,h3⟩:=bW.mp ha
  have hs:cs.length<=1000:=hsm
  refine bY ⟨_,rfl,a,_,1,_,rfl,rfl,aH.of (t2 _ _ h2),rfl,t,_,rfl,.inr (aH.of (t2 _ _ h3)),λu hu=>?_⟩
  have s3:=aj hu (.lst (cs.map V.int))
  refine⟨_,rfl,a,_,2,_,rfl,rfl,aH.of (s3 _ _ (t2 _ _ h2)),rfl,dP,λu2 hu2=>?_⟩
  have s4:=aj hu2 (.lst [V.int c])
  refine⟨u,u2,_,_,rfl,rfl,s4 _ _ ag,ag,?_,λu3 v5=>q u3 _ (t2.trans (s3.trans (s4.trans (aj v5 _)))) ?_⟩
  ·rw [UI]
   exact UE (show cs.length+1<=1001 by omega) (by decide)
  ·rw [ag]
   show _=some (HO.lst ((cs++[c]).map V.int))
   rw [UK]
   rfl
 rw [UG e5]
 refine bB ⟨U1 _,λu hu=>q u _ (t2.trans (aj hu _)) ?_⟩
 rw [ag,C3 k1 e2 k3 e4 e5]
 rfl
def kL(x:Wk)(h:Hd)(es:List Hd):List Hd:=if bZ x=true then es else [h]
def LX(x:Wk):Prop:=∀c∈gx x,1<=c
def DW:Wk->Prop
 | .meet c d _ _=>1<=c/\1<=d
 | _=>True
def IK:Wk->Prop
 | .one x=>D7 x
 | _=>True
structure vz(n:Nat)(H:Hp)(a b l:Addr)(x:Wk)(h:Hd)(as:List Addr)(es:List Hd):Prop where
 wk:dk n H a x
 hd:dX H b h
 en:f9 H l as es
 n:bZ x=true->es.length=2
 sm:kj x
 pos:LX x
 posm:DW x
 dr:IK x
theorem vz.same{n:Nat}{H H':Hp}{a b l:Addr}{x:Wk}{h:Hd}{as:List Addr}{es:List Hd}(s:aM H H')(i:vz n H a b l x h as es):vz n H' a b l x h as es:=⟨i.wk.keep (aE.of s),s _ _ i.hd,i.en.same s,i.n,i.sm,i.pos,i.posm,i.dr⟩
def yq(n:Nat):Sp:=λvs H Q _=>∃(a b l:Addr) (x:Wk) (h:Hd) (as:List Addr) (es:List Hd),vs=[.ref a,.ref b,.ref l]/\vz n H a b l x h as es/\∀H',aM H H'->Q (.bl (!c9 x (kL x h es))) H'
theorem oY{c:Int}{h:Hd}(hc:1<=c):there c h=decide (c<=(h.length:Nat)):=by
 unfold there
 rw [UH hc,Bool.true_and]
theorem uU{cs:List Int}{i:Nat}{c:Int}{p:Int->Bool}(h:cs[i]? = some c):(cs.take (i+1)).filter p=(cs.take i).filter p++(if p c=true then [c]else []):=by
 rw [take_one h,List.filter_append]
 congr 1
 by_cases e:p c=true <;> simp [e]
theorem EF{cs:List Int}{h:Hd}(hp:∀c∈cs,1<=c):(cs.filter λc=>decide ((h.length:Int)<c)).isEmpty=cs.all λc=>there c h:=by
 induction cs with
 | nil=>rfl
 | cons c cs ih =>
  have ih:=ih λc hc=>hp c (by simp [hc])
  have hc:=hp c (by simp)
  rw [List.all_cons,←ih,oY hc,List.filter_cons]
  by_cases z:c<=(h.length:Nat)
  ·rw [UH z,UG (show¬(h.length:Int)<c by omega)]; simp
  ·rw [UG z,UH (show(h.length:Int)<c by omega)]; simp
abbrev fh:Stmt:=top 69
theorem kZ:az ["_law_worker_here","_law_head","_law_ends"] ["_law_worker_here","_law_head","_law_ends"] (ar fh):=fs
theorem Dx{n:Nat}(B:jU mg)(F:FA K mg "_law_no_column" fh)
  (dQ:bc bf P w K mg base 1 "_law_told_columns" ["_law_worker_here"] (v_ n)) :
  bc bf P w K mg base 2 "_law_no_column" ["_law_worker_here","_law_head","_law_ends"] (yq n):=by
 refine F.ok kZ λf cdv A outer s H vs Q E hr h=>?_
 have hu:=iW hr
 have hu1:=jW hr
 obtain⟨a,b,l,x,h,as,es,rfl,hI,q⟩:=h
 refine⟨_,(aN (aW aP (aA K (pv 0) ai) ao) (fQ (bU ie (aA K (pv 0) ai) (a_ bF rfl B.len PySem.boot_len (ae (bj K (pv 2) ai) ah))) (cZ (bU ie (aA K (pv 0) ai) (a_ bF rfl B.len PySem.boot_len (ae (bj K (pv 2) ai) ah)))))
   (ax (bU (Ef hu) (bw (N':=["_law_column_here","_law_head"]) (src:=[none,some 1]) rfl (ba.jK (by kernel_rfl)) (fj (ay dQ hr (ae (pv 0) ah))) (λcl C s H fp=>(eA (i:=0))) (tc:=(rC (gE (zy λi j=>.bl (decide (j<i))) (bx 0) (KG (MA K) (bp (bx 1) fD))))) (λcl C s H fp=>nZ (aW ie (i3 0) (a_ Aa xA B.len PySem.boot_len (ae (yV 1) ah)))) (te:=(bx 0)) (λcl C s H fp=>(i3 0))) (aQ ah)))),?_⟩
 obtain⟨xs,h1⟩:=hI.wk.first
 refine⟨_,rfl,a,_,0,_,rfl,rfl,aH.of h1,av (j:=0) rfl,rfl,_,rfl,?_⟩
 rw [bL]
 by_cases e:x.nm="meet"
 ·rw [UH e]
  obtain⟨c,d,p,q',rfl⟩:=iH e
  obtain⟨h0,h2,rfl⟩:=dG (hI.n rfl)
  obtain⟨a0,e0,gu⟩:=hI.en.nth (i:=0) rfl
  obtain⟨a1,e1,vk⟩:=hI.en.nth (i:=1) rfl
  have ha:=hI.wk
  have hp:1<=c/\1<=d:=hI.posm
  cases n with
  | zero=>exact False.elim ha
  | succ n =>
  obtain⟨b',e',bs,es',h1,_⟩:=ha
  have q:=q H (aM.refl _)
  have q:Q (.bl (!(there c h0&&there d h2))) H:=q
  rw [oY hp.1,oY hp.2]at q
  refine bY ⟨_,rfl,a,_,1,_,rfl,rfl,aH.of h1,rfl,_,rfl,l,_,0,_,rfl,rfl,aZ.of hI.en.lst,av (j:=0) e0,a0,_,rfl,.inr (aH.of gu),_,_,rfl,rfl,_,rfl,?_⟩
  rw [UI]
  refine cG (λk=>?_) (λk=>?_)
  ·have k:=Vd k
   rw [UG (show¬c<=(h0.length:Nat) by omega)]at q
   exact q
  ·have k:¬(h0.length:Nat)<c:=λz=>k (UH z)
   rw [UH (show c<=(h0.length:Nat) by omega),Bool.true_and]at q
   refine⟨_,rfl,a,_,2,_,rfl,rfl,aH.of h1,rfl,_,rfl,l,_,1,_,rfl,rfl,aZ.of hI.en.lst,av (j:=1) e1,a1,_,rfl,.inr (aH.of vk),_,_,rfl,rfl,?_⟩
   rw [UI]
   show Q (.bl (decide ((h2.length:Int)<d))) H
   by_cases z:d<=(h2.length:Nat)
   ·rw [UH z]at q
    rw [UG (show¬(h2.length:Int)<d by omega)]
    exact q
   ·rw [UG z]at q
    rw [UH (show(h2.length:Int)<d by omega)]
    exact q
 rw [UG e]
 have Pz:c9 x (kL x h es)=(gx x).all λc=>there c h:=by
  cases x with
  | one x=>rfl
  | both p q=>rfl
  | meet c d p q=>exact absurd rfl e
 have Rn:(h.map V.str).length=h.length:=UI _
 refine bB (aG ⟨_,rfl,a,x,rfl,hI.wk,hI.sm,λu H1 s1 jS=>⟨u,rfl,⟨_,aZ.of jS⟩,λD hD=>?_⟩⟩)
 refine dJ (xs:=(gx x).map V.int) (λi σ ys H'=>(∃o,σ=[o,some (.ref b)])/\ys=(((gx x).take i).filter λc=>decide ((h.length:Int)<c)).map V.int/\ys.length<=i/\H' D=some (.lst ys)/\aM H1 H') ⟨⟨none,rfl⟩,rfl,UD _,ag,aj hD _⟩ ?_ ?_ ?_ ?_ ?_
 ·rintro i σ ys H' _ ⟨_,_,hi,h,_⟩
  exact⟨h,hi⟩
 ·rintro i σ ys H' _ ⟨_,_,_,_,sm⟩
  exact aZ.of (sm _ _ jS)
 ·rw [UI]; exact UE (rp hI.sm) (by decide)
 ·rintro i v σ ys H' hv ⟨⟨o,rfl⟩,rfl,hi,hh,sm⟩
  rw [U5]at hv
  cases ec:(gx x)[i]? with
  | none=>rw [ec]at hv; cases hv
  | some c =>
   rw [ec]at hv
   have hv:V.int c=v:=U2 hv
   subst hv
   refine⟨_,rfl,_,rfl,b,_,rfl,.inr (aH.of (sm _ _ (s1 _ _ hI.hd))),_,_,rfl,rfl,_,rfl,?_⟩
   refine cG (λk=>?_) (λk=>?_) <;> rw [Rn]at k
   ·refine⟨_,rfl,hh,⟨_,rfl⟩,?_,by rw [UJ]; exact Nat.add_le_add_right hi 1,ag,bq hD sm⟩
    rw [uU ec,if_pos k,UK]; rfl
   ·refine⟨⟨_,rfl⟩,?_,Nat.le_succ_of_le hi,hh,sm⟩
    rw [uU ec,if_neg k,List.append_nil]
 ·rintro σ ys H' ⟨_,rfl,_,hh,sm⟩
  rw [UI,List.take_length]at hh
  refine⟨U1 _,λR hR=>⟨D,R,_,rfl,rfl,aj hR _ _ _ hh,ag,?_⟩⟩
  have q:=q _ (s1.trans (sm.trans (aj hR (.lst []))))
  rw [Pz,←EF hI.pos]at q
  show Q (.bl (!(((gx x).filter _).map V.int).isEmpty)) _
  rw [List.isEmpty_map]
  exact q
def sM:W1->Str->Bool
 | .walk _ mv,t=>!(decide (i8 ((mv.filter λv=>!decide (v=.non)).map sW)=[])||decide (i8 ((mv.filter λv=>!decide (v=.non)).map sW)=[t]))
 | .turn _ ps,t=>!decide (i8 ((ps.map λp=>p.1).map sW)=[t]) || !decide (i8 ((ps.map λp=>p.2).map sW)=[t])
 | .must _ ps,t=>!decide (i8 ((ps.map λp=>p.1).map sW)=[t])||decide (1<(i8 ((ps.map λp=>p.2).map sW)).length)
 | _,_=>false
def rz(x:W1):Prop:=(∃c ps,x=.turn c ps)\/(∃c ps,x=.must c ps)\/∃c mv,x=.walk c mv
def L_(n:Nat):Sp:=λvs H Q _=>∃(a:Addr) (x:W1) (t:Str),vs=[.ref a,.str t]/\dk n H a (.one x)/\rz x/\D7 x/\∀H',aM H H'->Q (.bl (sM x t)) H'
theorem jv(s t:List Str):cN (.lst (s.map D.str)) (.lst (t.map D.str))=decide (s=t):=by
 rw [←oz s t]
 simp only [cN]
theorem kh{K:Ve}{H:Hp}{a:Addr}{h:List Str}(e:H a=some (.lst (h.map V.str))):aY K H (.lst (h.map D.str)) (.ref a):=lb e (lJ h)
theorem vU(h:List Str):(D.lst (h.map D.str)).depth<=1:=by
 have:=kd h
 simp only [D.depth]at this⊢
 exact this
theorem rd{mv:List V}{i:Nat}{v:V}{p:V->Bool}(h:mv[i]? = some v):(mv.take (i+1)).filter p=(mv.take i).filter p++(if p v=true then [v]else []):=by
 rw [take_one h,List.filter_append]
 congr 1
 by_cases e:p v=true <;> simp [e]
theorem F5{x:W1}(hx:rz x)(h:x.nm="walk"):∃c mv,x=.walk c mv:=by
 rcases hx with⟨c,ps,rfl⟩ | ⟨c,ps,rfl⟩ | h
 ·exact absurd h (by simp only [W1.nm]; decide +kernel)
 ·exact absurd h (by simp only [W1.nm]; decide +kernel)
 ·exact h
theorem Gq{v:V}(h:v=.non\/dN v)(n:¬decide (v=.non)=true):dN v:=by
 rcases h with rfl | h
 ·exact absurd (UH rfl) n
 ·exact h
abbrev cL:Stmt:=top 70
theorem dO:az ["_law_worker_here","_law_here","_law_ones","_law_others"] ["_law_worker_here","_law_here"] (ar cL):=fs
theorem zK{n:Nat}(B:jU mg)(F:FA K mg "_law_cells_wrong" cL)
  (eJ:bc bf P w K mg base 1 "_law_sorts" ["_law_cells"] sS) :
  bc bf P w K mg base 2 "_law_cells_wrong" ["_law_worker_here","_law_here"] (L_ n):=by
 refine F.ok dO λf cdv A outer s H vs Q E hr h=>?_
 have hu:=iW hr
 have hu1:=jW hr
 obtain⟨a,x,t,rfl,ha,hx,hd,q⟩:=h
 refine⟨_,(aN (aW aP (aA K (pv 0) ai) ao) (fF rb (ay eJ hr (ae (bw (N':=["_law_state_here","_law_cell_here","_law_after"]) (src:=[none,none,none]) rfl (ba.jK (by kernel_rfl)) (cM (aA K (pv 0) ai)) (g:=(iO K 3 (bO (bz 0) (bO (bz 1) (bO (bz 2) iX))))) (λcl C s H fp=>(cC rfl (aD (eA (i:=0)) (aD (eA (i:=1)) (aD (eA (i:=2)) bS))))) (tc:=(rC (gE (λx y H Q=>y=.non/\Q (.bl (!decide (x=.non))) H) (bx 1) (tC .non)))) (λcl C s H fp=>nZ (aW tq (i3 1) iQ)) (te:=(bx 1)) (λcl C s H fp=>(i3 1))) ah)) (aQ (ae (aQ ah) (ae (aQ (ae (pv 1) ah)) ah))) rfl)
   (aq (aL (i:=2) dO.nd rfl (Or.inl rfl) (ay eJ hr (ae (bw (N':=["_law_a","_law_b"]) (src:=[none,none]) rfl (ba.jK (by kernel_rfl)) (cM (aA K (pv 0) ai)) (g:=(iO K 2 (bO (bz 0) (bO (bz 1) iX)))) (λcl C s H fp=>(cC rfl (aD (eA (i:=0)) (aD (eA (i:=1)) bS)))) (λcl C s H fp=>aX) (te:=(bx 0)) (λcl C s H fp=>(i3 0))) ah)))
   (aq (aL (i:=3) dO.nd rfl (Or.inl rfl) (ay eJ hr (ae (bw (N':=["_law_a","_law_b"]) (src:=[none,none]) rfl (ba.jK (by kernel_rfl)) (cM (aA K (pv 0) ai)) (g:=(iO K 2 (bO (bz 0) (bO (bz 1) iX)))) (λcl C s H fp=>(cC rfl (aD (eA (i:=0)) (aD (eA (i:=1)) bS)))) (λcl C s H fp=>aX) (te:=(bx 1)) (λcl C s H fp=>(i3 1))) ah)))
   (aN (aW aP (aA K (pv 0) ai) ao) (fQ (bU js (pv 2) (aQ (ae (pv 1) ah))) (cZ (bU js (pv 3) (aQ (ae (pv 1) ah)))))
   (ax (fQ (bU js (pv 2) (aQ (ae (pv 1) ah))) (cZ (bU ie (a_ bF rfl B.len PySem.boot_len (ae (pv 3) ah)) ai)))))))),?_⟩
 obtain⟨xs,h1⟩:=ha.first
 refine⟨_,rfl,a,_,0,_,rfl,rfl,aH.of h1,av (j:=0) rfl,rfl,_,rfl,?_⟩
 rw [bL]
 by_cases e:x.nm="walk"
 ·rw [UH (show(Wk.one x).nm="walk" from e)]
  obtain⟨c,mv,rfl⟩:=F5 hx e
  obtain⟨st,t',bs,h1,hI⟩:=bW.mp ha
  have hz:mv.length<=50:=hd.ne
  have hg:∀v∈mv,v=.non\/dN v:=hd.good
  have hlb:(bs.map V.ref).length=mv.length:=by rw [UI,hI.len]
  refine bY ⟨_,rfl,a,_,3,_,rfl,rfl,aH.of h1,rfl,t',rfl,⟨_,aH.of hI.tup⟩,λDl hD=>?_⟩
  refine cF (xs:=bs.map V.ref) (λi σ ys H'=>(∃o1 o2 o3,σ=[o1,o2,o3])/\ys=(mv.take i).filter (λv=>!decide (v=.non))/\ys.length<=i/\H' Dl=some (.lst ys)/\aM H H') ⟨⟨none,none,none,rfl⟩,rfl,UD _,ag,aj hD _⟩ ?_ ?_ ?_ ?_ ?_
  ·rintro i σ ys H' _ ⟨_,_,hi,h,_⟩
   exact⟨h,hi⟩
  ·rintro i σ ys H' _ ⟨_,_,_,_,sm⟩
   exact aH.of (sm _ _ hI.tup)
  ·rw [hlb]; exact UE hz (by decide)
  ·rintro i v σ ys H' hv ⟨⟨o1,o2,o3,rfl⟩,rfl,hi,h,sm⟩
   obtain⟨b,y,rfl,ey,s1,s2,hb⟩:=hI.get hv
   refine⟨b,_,rfl,aH.of (sm _ _ hb),rfl,_,_,rfl,ak ⟨_,_,rfl,ak ⟨_,_,rfl,ak ⟨rfl,?_⟩⟩⟩⟩
   refine⟨_,rfl,rfl,_,rfl,cG (λk=>?_) (λk=>?_)⟩
   ·refine⟨_,rfl,h,⟨_,_,_,rfl⟩,?_,by rw [UJ]; exact Nat.add_le_add_right hi 1,ag,bq hD sm⟩
    rw [rd ey,if_pos k]
   ·refine⟨⟨_,_,_,rfl⟩,?_,Nat.le_succ_of_le hi,h,sm⟩
    rw [rd ey,if_neg k,List.append_nil]
  ·rintro σ ys H1 ⟨_,rfl,hyl,h,sm⟩
   rw [hlb,List.take_length]at h
   rw [hlb,List.take_length]at hyl
   refine⟨Dl,_,rfl,h,by omega,λv hv=>?_,λu H2 s2 hu2=>?_⟩
   ·obtain⟨m1,m2⟩:=List.mem_filter.mp hv
    exact Gq (hg v m1) (by simpa using m2)
   refine⟨U1 _,λR1 Pp=>⟨_,rfl,dP,λR2 yN=>⟨cJ,λR3 OO=>?_⟩⟩⟩
   have t1:=aj Pp (.lst [])
   have t2:=aj yN (.lst [V.str t])
   have t3:=aj OO (.lst [V.ref R1,.ref R2])
   have EG:cw [D.lst [],.lst [.str t]]<=1:=by simp [cw,D.depth]
   refine⟨_,[D.lst [],.lst [.str t]],R3,_,rfl,.inl (aZ.of ag),kh ((t1.trans (t2.trans t3)) _ _ hu2),bH.cons (lb (t3 _ _ (t2 _ _ ag)) bH.nil) (bH.cons (lb (t3 _ _ ag) (bH.cons (gz _) bH.nil)) bH.nil),?_,?_⟩
   ·exact UL (show(A.deeper (PyProof.Rows.envOfC "_law_cells_wrong" (ar cL) s.heap.objs.size f cdv)).units+1+cw _<=_ by omega) hu
   ·have q:=q _ (sm.trans (s2.trans (t1.trans (t2.trans t3))))
    have e1:=jv [] (i8 ((mv.filter λv=>!decide (v=.non)).map sW))
    have e2:=jv [t] (i8 ((mv.filter λv=>!decide (v=.non)).map sW))
    show Q (.bl (!(cN (.lst []) _||(cN (.lst [.str t]) _||false)))) _
    rw [show D.lst []=.lst (([]:List Str).map D.str) from rfl,show D.lst [.str t]=.lst (([t]:List Str).map D.str) from rfl,e1,e2,Bool.or_false]
    have q:Q (.bl (!(decide (i8 ((mv.filter λv=>!decide (v=.non)).map sW)=[])||decide (i8 ((mv.filter λv=>!decide (v=.non)).map sW)=[t])))) _:=q
    rw [show decide (([]:List Str)=i8 ((mv.filter λv=>!decide (v=.non)).map sW))=decide (i8 ((mv.filter λv=>!decide (v=.non)).map sW)=[]) from by simp only [eq_comm],show decide ([t]=i8 ((mv.filter λv=>!decide (v=.non)).map sW))=decide (i8 ((mv.filter λv=>!decide (v=.non)).map sW)=[t]) from by simp only [eq_comm]]
    exact q
 rw [UG (show¬(Wk.one x).nm="walk" from e)]
 have key:∃(c:Int) (ps:List (V×V)) (t':Addr) (bs:List Addr),H a=some (.tup [.str x.nm,.int c,.ref t'])/\bP ku H t' bs ps/\ps.length<=50/\(∀p∈ps,dN p.1/\dN p.2)/\sM x t=(!decide (i8 ((ps.map λp=>p.1).map sW)=[t])||(if x.nm="turn" then !decide (i8 ((ps.map λp=>p.2).map sW)=[t])else decide (1<(i8 ((ps.map λp=>p.2).map sW)).length))):=by
  rcases hx with⟨c,ps,rfl⟩ | ⟨c,ps,rfl⟩ | ⟨c,mv,rfl⟩
  ·obtain⟨t',bs,h1,hI⟩:=bW.mp ha
   exact⟨c,ps,t',bs,h1,hI,hd.ne.2,hd.good,by rw [if_pos (show(W1.turn c ps).nm="turn" from rfl)]; rfl⟩
  ·obtain⟨t',bs,h1,hI⟩:=bW.mp ha
   exact⟨c,ps,t',bs,h1,hI,hd.ne.2,hd.good,by rw [if_neg (by simp only [W1.nm]; decide +kernel)]; rfl⟩
  ·exact absurd rfl e
 obtain⟨c,ps,t',bs,h1,hI,hz,hg,hcw⟩:=key
 rw [hcw]at q
 have hlb:(bs.map V.ref).length=ps.length:=by rw [UI,hI.len]
 refine bB (aG ⟨_,rfl,a,_,2,_,rfl,rfl,aH.of h1,rfl,t',rfl,⟨_,aH.of hI.tup⟩,λDl hD=>?_⟩)
 refine cF (xs:=bs.map V.ref) (λi σ ys H'=>(∃o1 o2,σ=[o1,o2])/\ys=(ps.take i).map (λp=>p.1)/\ys.length=i/\H' Dl=some (.lst ys)/\aM H H') ⟨⟨none,none,rfl⟩,rfl,rfl,ag,aj hD _⟩ ?_ ?_ ?_ ?_ ?_
 ·rintro i σ ys H' _ ⟨_,_,hi,h,_⟩
  exact⟨h,Nat.le_of_eq hi⟩
 ·rintro i σ ys H' _ ⟨_,_,_,_,sm⟩
  exact aH.of (sm _ _ hI.tup)
 ·rw [hlb]; exact UE hz (by decide)
 ·rintro i v σ ys H' hv ⟨⟨o1,o2,rfl⟩,rfl,hi,h,sm⟩
  obtain⟨b,y,rfl,ey,hb⟩:=hI.get hv
  refine⟨b,_,rfl,aH.of (sm _ _ hb),rfl,_,_,rfl,ak ⟨_,_,rfl,ak ⟨rfl,?_⟩⟩⟩
  refine⟨_,rfl,h,⟨_,_,rfl⟩,?_,?_,ag,bq hD sm⟩
  ·rw [take_one ey,UK]; rfl
  ·rw [UJ,hi]; rfl
 rintro σ ys H1 ⟨_,rfl,hyl,h,sm⟩
 rw [hlb,List.take_length]at h
 refine⟨Dl,_,rfl,h,by rw [UI]; omega,λv hv=>?_,λu1 H2 s2 jS=>ak ?_⟩
 ·obtain⟨p,hp,rfl⟩:=UW.mp hv
  exact(hg p hp).1
 have s12:=sm.trans s2
 dsimp only
 refine⟨_,rfl,a,_,2,_,rfl,rfl,aH.of (s12 _ _ h1),rfl,t',rfl,⟨_,aH.of (s12 _ _ hI.tup)⟩,λD2 hD2=>?_⟩
 refine cF (xs:=bs.map V.ref) (λi σ ys H'=>(∃o1 o2,σ=[o1,o2])/\ys=(ps.take i).map (λp=>p.2)/\ys.length=i/\H' D2=some (.lst ys)/\aM H2 H') ⟨⟨none,none,rfl⟩,rfl,rfl,ag,aj hD2 _⟩ ?_ ?_ ?_ ?_ ?_
 ·rintro i σ ys H' _ ⟨_,_,hi,h,_⟩
  exact⟨h,Nat.le_of_eq hi⟩
 ·rintro i σ ys H' _ ⟨_,_,_,_,sm⟩
  exact aH.of (sm _ _ (s12 _ _ hI.tup))
 ·rw [hlb]; exact UE hz (by decide)
 ·rintro i v σ ys H' hv ⟨⟨o1,o2,rfl⟩,rfl,hi,h,sm'⟩
  obtain⟨b,y,rfl,ey,hb⟩:=hI.get hv
  refine⟨b,_,rfl,aH.of (sm' _ _ (s12 _ _ hb)),rfl,_,_,rfl,ak ⟨_,_,rfl,ak ⟨rfl,?_⟩⟩⟩
  refine⟨_,rfl,h,⟨_,_,rfl⟩,?_,?_,ag,bq hD2 sm'⟩
  ·rw [take_one ey,UK]; rfl
  ·rw [UJ,hi]; rfl
 rintro df S0 H3 ⟨_,rfl,Oe,h2,sm3⟩
 rw [hlb,List.take_length]at h2
 refine⟨D2,_,rfl,h2,by rw [UI]; omega,λv hv=>?_,λu2 H4 s4 hu2=>ak ?_⟩
 ·obtain⟨p,hp,rfl⟩:=UW.mp hv
  exact(hg p hp).2
 have NG:=sm3.trans s4
 have qj:=s12.trans NG
 have Hu:=NG _ _ jS
 dsimp only
 have EG:∀ss:List Str,(A.deeper (PyProof.Rows.envOfC "_law_cells_wrong" (ar cL) s.heap.objs.size f cdv)).units+(D.lst (ss.map D.str)).depth<cLine:=λss=>UL (Nat.add_le_add_left (UE (vU ss) (by decide:1<=8)) _) hu
 refine⟨_,rfl,a,_,0,_,rfl,rfl,aH.of (qj _ _ h1),av (j:=0) rfl,rfl,_,rfl,?_⟩
 rw [bL]
 have step:∀(tb:TE) (H5:Hp),True:=λ_ _=>trivial
 by_cases e2:x.nm="turn"
 ·rw [UH e2]
  rw [if_pos e2]at q
  refine bY ⟨_,rfl,_,rfl,dP,λR hR=>?_⟩
  have tR:=aj hR (.lst [V.str t])
  refine⟨_,_,kh (tR _ _ Hu),kh (h:=[t]) ag,EG _,_,rfl,?_⟩
  rw [jv]
  by_cases z:i8 ((ps.map λp=>p.1).map sW)=[t]
  ·rw [UH z]at q⊢
   refine bB ⟨_,rfl,_,rfl,dP,λR2 yN=>?_⟩
   have QT:=aj yN (.lst [V.str t])
   refine⟨_,_,kh (QT _ _ (tR _ _ hu2)),kh (h:=[t]) ag,EG _,?_⟩
   rw [jv]
   exact q _ (qj.trans (tR.trans QT))
  ·rw [UG z]at q⊢
   exact bY (q _ (qj.trans tR))
 ·rw [UG e2]
  rw [if_neg e2]at q
  refine bB (aG ⟨_,rfl,_,rfl,dP,λR hR=>?_⟩)
  have tR:=aj hR (.lst [V.str t])
  refine⟨_,_,kh (tR _ _ Hu),kh (h:=[t]) ag,EG _,_,rfl,?_⟩
  rw [jv]
  by_cases z:i8 ((ps.map λp=>p.1).map sW)=[t]
  ·rw [UH z]at q⊢
   refine bB ⟨_,rfl,u2,_,rfl,.inl (aZ.of (tR _ _ hu2)),_,_,rfl,rfl,?_⟩
   have q:=q _ (qj.trans tR)
   show Q (.bl (decide ((1:Int)<(((i8 ((ps.map λp=>p.2).map sW)).map V.str).length:Nat)))) _
   rw [UI,show decide ((1:Int)<((i8 ((ps.map λp=>p.2).map sW)).length:Nat))=decide (1<(i8 ((ps.map λp=>p.2).map sW)).length) from by simp only [decide_eq_decide]; omega]
   exact q
  ·rw [UG z]at q⊢
   exact bY (q _ (qj.trans tR))
theorem sI(us:List V):∀s∈us.map sW,s="n"\/s="w":=λs hs=>by obtain⟨v,_,rfl⟩:=UW.mp hs; exact GV v
theorem tO{us:List V}(hn:us≠[])(t:Str):i8 (us.map sW)=[t]↔∀v∈us,sW v=t:=by
 constructor
 ·intro h v hv
  have:=(lD (sI us) (sW v)).mpr (UW.mpr ⟨v,hv,rfl⟩)
  rw [h]at this
  exact UU.mp this
 ·intro h
  refine pR (Dr _) (List.pairwise_singleton _ _) λs=>(lD (sI us) s).trans ⟨λm=>?_,λm=>?_⟩
  ·obtain⟨v,hv,rfl⟩:=UW.mp m
   rw [h v hv]; simp
  ·rw [UU.mp m]
   cases us with
   | nil=>exact absurd rfl hn
   | cons v vs=>exact UW.mpr ⟨v,by simp,h v (by simp)⟩
theorem rP{us:List V}(hn:us≠[])(t:Str):decide (i8 (us.map sW)=[t])=us.all λv=>decide (sW v=t):=by
 apply Bool.eq_iff_iff.mpr
 rw [decide_eq_true_iff,tO hn,List.all_eq_true]
 exact⟨λh v hv=>UH (h v hv),λh v hv=>Vd (h v hv)⟩
theorem FD(us:List V):decide (1<(i8 (us.map sW)).length) = !cQ (us.map sW):=by
 cases us with
 | nil=>rfl
 | cons v vs =>
  by_cases h:∀u∈v::vs,sW u=sW v
  ·rw [(tO (by simp) (sW v)).mpr h]
   have:cQ ((v::vs).map sW)=true:=by
    unfold cQ
    rw [List.all_eq_true]
    intro s hs
    obtain⟨u,hu,rfl⟩:=UW.mp hs
    exact UH (h u hu)
   rw [this]
   rfl
  ·have h2:cQ ((v::vs).map sW)=false:=by
    apply UY.mpr
    intro z
    unfold cQ at z
    rw [List.all_eq_true]at z
    exact h λu hu=>Vd (z (sW u) (UW.mpr ⟨u,hu,rfl⟩))
   rw [h2]
   have hlen:1<(i8 ((v::vs).map sW)).length:=by
    match hs:i8 ((v::vs).map sW)with
    | [] =>
     have:=(lD (sI (v::vs)) (sW v)).mpr (by simp)
     rw [hs]at this
     cases this
    | [a] =>
     exfalso
     have e:=(tO (by simp) a).mp hs
     exact h λu hu=>by rw [e u hu,e v (by simp)]
    | a::b::r=>simp
   rw [UH hlen]
   rfl
theorem FI{x:W1}{h:Hd}{t:Str}{c:Int}(hx:rz x)(hd:D7 x)(hc:c8 x=[c])(ht:bt h c=t)(nt:t≠"t"):bg (.one x) [h] = !sM x t:=by
 rcases hx with⟨c',ps,rfl⟩ | ⟨c',ps,rfl⟩ | ⟨c',mv,rfl⟩ <;> cases hc
 ·have hn:ps≠[]:=hd.ne.1
  show cT (ps.flatMap λp=>[p.1,p.2]) (bt h c) = !(_||_)
  rw [ht,rP (by simpa using hn),rP (by simpa using hn)]
  unfold cT
  rw [UG nt,List.all_flatMap,List.all_map,List.all_map]
  clear hd hn
  induction ps with
  | nil=>rfl
  | cons p ps ih =>
   simp only [Bool.not_false,Bool.true_and]at ih⊢
   rw [List.all_cons,List.all_cons,List.all_cons,ih]
   simp only [List.all_cons,List.all_nil,Function.comp,Bool.and_true]
   cases decide (sW p.1=t) <;> cases decide (sW p.2=t) <;> simp
 ·have hn:ps≠[]:=hd.ne.1
  show(cQ (ps.map λp=>sW p.2)&&cT (ps.map λp=>p.1) (bt h c)) = !(_||_)
  rw [ht,rP (by simpa using hn),FD]
  unfold cT
  rw [UG nt,List.map_map]
  simp only [Bool.not_or,Bool.not_not,Bool.not_false,Bool.true_and]
  rw [Bool.and_comm]
  rfl
 ·show cT (mv.filter λv=>!decide (v=.non)) (bt h c) = !(!(_||_))
  rw [ht,Bool.not_not]
  unfold cT
  rw [UG nt]
  by_cases e:mv.filter (λv=>!decide (v=.non))=[]
  ·rw [e]; rfl
  ·rw [rP e]
   have:decide (i8 ((mv.filter λv=>!decide (v=.non)).map sW)=[])=false:=by
    apply UG
    intro z
    cases hm:mv.filter (λv=>!decide (v=.non))with
    | nil=>exact e hm
    | cons v vs =>
     have:=(lD (sI (mv.filter λv=>!decide (v=.non))) (sW v)).mpr (by rw [hm]; simp)
     rw [z]at this
     cases this
   rw [this]
   rfl
def oR:W1->Int
 | .keep c _=>c
 | .same _ d=>d
 | .turn c _=>c
 | .must c _=>c
 | .walk c _=>c
 | .sum _ c=>c
 | _=>0
def CW(x:W1):Prop:=(∃c t,x=.keep c t)\/(∃c d,x=.same c d)\/(∃cs c,x=.sum cs c)\/rz x
theorem Bq{x:W1}(h:CW x):∃pre,c8 x=pre++[oR x]:=by
 rcases h with⟨c,t,rfl⟩ | ⟨c,d,rfl⟩ | ⟨cs,c,rfl⟩ | ⟨c,ps,rfl⟩ | ⟨c,ps,rfl⟩ | ⟨c,mv,rfl⟩
 ·exact⟨[],rfl⟩
 ·exact⟨[c],rfl⟩
 ·exact⟨cs,rfl⟩
 ·exact⟨[],rfl⟩
 ·exact⟨[],rfl⟩
 ·exact⟨[],rfl⟩
theorem J5{x:Wk}:inV (.str x.nm) [.str "keep",.str "same",.str "turn",.str "must",.str "walk",.str "sum"]=true->∃y,x=.one y/\CW y:=by
 cases x with
 | one x=>cases x <;> simp only [Wk.nm,W1.nm] <;> intro h <;> first | exact⟨_,rfl,.inl ⟨_,_,rfl⟩⟩ | exact⟨_,rfl,.inr (.inl ⟨_,_,rfl⟩)⟩ | exact⟨_,rfl,.inr (.inr (.inl ⟨_,_,rfl⟩))⟩ | exact⟨_,rfl,.inr (.inr (.inr (.inl ⟨_,_,rfl⟩)))⟩ | exact⟨_,rfl,.inr (.inr (.inr (.inr (.inl ⟨_,_,rfl⟩))))⟩ | exact⟨_,rfl,.inr (.inr (.inr (.inr (.inr ⟨_,_,rfl⟩))))⟩ | exact absurd h (by decide +kernel)
 | both p q=>simp only [Wk.nm]; intro h; exact absurd h (by decide +kernel)
 | meet c d p q=>simp only [Wk.nm]; intro h; exact absurd h (by decide +kernel)
theorem E8{x:Wk}{hs:List Hd}(h:¬inV (.str x.nm) [.str "keep",.str "same",.str "turn",.str "must",.str "walk",.str "sum"]=true)(h1:x.nm≠"both")(h2:x.nm≠"meet"):bg x hs=true:=by
 cases x with
 | one x=>cases x <;> first | rfl | exact absurd (by simp only [Wk.nm,W1.nm]; decide +kernel) h
 | both p q=>exact absurd rfl h1
 | meet c d p q=>exact absurd rfl h2
theorem yo{x:Wk}(h:x.nm="both"):∃p q,x=.both p q:=by
 revert h
 cases x with
 | one x=>cases x <;> simp only [Wk.nm,W1.nm] <;> (intro h; exact absurd h (by decide +kernel))
 | both p q=>intro h; exact⟨_,_,rfl⟩
 | meet c d p q=>simp only [Wk.nm]; intro h; exact absurd h (by decide +kernel)
theorem Gg{x:W1}(h:CW x)(h1:x.nm≠"keep")(h2:x.nm≠"same")(h3:x.nm≠"sum"):rz x:=by
 rcases h with⟨c,t,rfl⟩ | ⟨c,d,rfl⟩ | ⟨cs,c,rfl⟩ | h
 ·exact absurd rfl h1
 ·exact absurd rfl h2
 ·exact absurd rfl h3
 ·exact h
theorem Dn{x:W1}(h:rz x):c8 x=[oR x]:=by
 rcases h with⟨c,ps,rfl⟩ | ⟨c,ps,rfl⟩ | ⟨c,mv,rfl⟩ <;> rfl
def vE(n:Nat):Sp:=λvs H Q _=>∃(a b l:Addr) (x:Wk) (h:Hd) (as:List Addr) (es:List Hd),vs=[.ref a,.ref b,.ref l]/\vz n H a b l x h as es/\c9 x (kL x h es)=true/\∀H',aM H H'->Q (.bl (!bg x (kL x h es))) H'
abbrev gj:Stmt:=top 71
theorem d0:az ["_law_worker_here","_law_head","_law_ends","_law_word_here","_law_pair","_law_here"] ["_law_worker_here","_law_head","_law_ends"] (ar gj):=fs
theorem Av{n:Nat}(B2:iL mg)(F:FA K mg "_law_no_sort" gj)
  (dQ:bc bf P w K mg base 1 "_law_told_columns" ["_law_worker_here"] (v_ n))
  (kF:bc bf P w K mg base 2 "_law_cells_wrong" ["_law_worker_here","_law_here"] (L_ n)) :
  bc bf P w K mg base 3 "_law_no_sort" ["_law_worker_here","_law_head","_law_ends"] (vE n):=by
 refine F.ok d0 λf cdv A outer s H vs Q E hr h=>?_
 have hu:=iW hr
 obtain⟨a,b,l,x,h,as,es,rfl,hI,hf,q⟩:=h
 refine⟨_,(aq (aL (i:=3) d0.nd rfl (Or.inl rfl) (aA K (pv 0) ai))
   (aN (aW aP (pv 3) ao) (bU js (bj K (pv 2) ai) (bj K (pv 2) ai))
   (aq (dy (aW aP (pv 3) ao)
    (aq (aL (i:=4) d0.nd rfl (Or.inl rfl) (aJ (ae (aA K (bj K (pv 2) ai) (aF bJ (aA K (pv 0) ai) ai)) (ae (aA K (bj K (pv 2) ai) (aF bJ (aA K (pv 0) ai) ai)) ah))))
     (ax (fQ (bU mn (aA K (pv 4) ai) (aA K (pv 4) ai)) (cZ (bU aP (aA K (pv 4) ai) ao)))))
    cb)
   (aN (dc iN (pv 3) (aQ (ae ao (ae ao (ae ao (ae ao (ae ao (ae ao ah))))))) rfl) fY
   (aq (aL (i:=5) d0.nd rfl (Or.inl rfl) (aA K (pv 1) (aF bJ (bj K (ay dQ hr (ae (pv 0) ah)) (rj l0 ai)) ai)))
   (aN (aW aP (pv 3) ao) (bU mn (aA K (aA K (pv 0) ai) ai) (bj K (aQ (ae (pv 5) (ae ao ah))) (aV cA rfl B2.int PyProof.Rows.boot_int (ae (bU aP (pv 5) ao) ah))))
   (aN (aW aP (pv 3) ao) (fQ (bU aP (pv 5) ao) (cZ (bU mn (pv 5) (aA K (pv 1) (aF bJ (aA K (pv 0) ai) ai)))))
   (aN (aW aP (pv 3) ao) (bU aP (pv 5) ao)
   (ax (fQ (bU aP (pv 5) ao) (cZ (ay kF hr (ae (pv 0) (ae (pv 5) ah)))))))))))))),?_⟩
 obtain⟨xs,h1⟩:=hI.wk.first
 refine⟨_,rfl,a,_,0,_,rfl,rfl,aH.of h1,av (j:=0) rfl,ak ?_⟩
 dsimp only
 refine⟨_,rfl,rfl,_,rfl,?_⟩
 rw [bL]
 by_cases e1:x.nm="both"
 ·rw [UH e1]
  obtain⟨p,q',rfl⟩:=yo e1
  obtain⟨h0,h2,rfl⟩:=dG (hI.n rfl)
  obtain⟨a0,e0,gu⟩:=hI.en.nth (i:=0) rfl
  obtain⟨a1,e1',vk⟩:=hI.en.nth (i:=1) rfl
  refine bY ⟨_,rfl,l,_,0,_,rfl,rfl,aZ.of hI.en.lst,av (j:=0) e0,_,rfl,l,_,1,_,rfl,rfl,aZ.of hI.en.lst,av (j:=1) e1',_,_,yX gu,yX vk,?_,?_⟩
  ·exact UL (Nat.add_le_add_left (UE (kd h0) (by decide:1<=8)) _) hu
  ·rw [oz]
   exact q H (aM.refl _)
 rw [UG e1]
 refine bB (aG ⟨_,rfl,rfl,_,rfl,?_⟩)
 rw [bL]
 by_cases e2:x.nm="meet"
 ·rw [UH e2]
  obtain⟨c,d,p,q',rfl⟩:=iH e2
  obtain⟨h0,h2,rfl⟩:=dG (hI.n rfl)
  obtain⟨a0,e0,gu⟩:=hI.en.nth (i:=0) rfl
  obtain⟨a1,e1',vk⟩:=hI.en.nth (i:=1) rfl
  have hf:(there c h0&&there d h2)=true:=hf
  rw [Vc]at hf
  have ha:=hI.wk
  cases n with
  | zero=>exact False.elim ha
  | succ n =>
  obtain⟨b',e',bs,es',h1,_⟩:=ha
  refine bY ⟨_,rfl,l,_,0,_,rfl,rfl,aZ.of hI.en.lst,av (j:=0) e0,_,rfl,a,_,1,_,rfl,rfl,aH.of h1,rfl,_,_,rfl,rfl,a0,_,_,_,rfl,rfl,aH.of gu,dE (e9 hf.1),?_⟩
  refine⟨_,rfl,l,_,1,_,rfl,rfl,aZ.of hI.en.lst,av (j:=1) e1',_,rfl,a,_,2,_,rfl,rfl,aH.of h1,rfl,_,_,rfl,rfl,a1,_,_,_,rfl,rfl,aH.of vk,dE (e9 hf.2),cJ,λu hu'=>ak ?_⟩
  have su:=aj hu' (.tup [.str (bt h0 c),.str (bt h2 d)])
  have hu0:upd H u (.tup [.str (bt h0 c),.str (bt h2 d)]) u=_:=ag
  revert su hu0
  generalize upd H u (.tup [.str (bt h0 c),.str (bt h2 d)])=H1
  intro su hu0
  dsimp only
  refine⟨_,rfl,u,_,0,_,rfl,rfl,aH.of hu0,av (j:=0) rfl,_,rfl,u,_,1,_,rfl,rfl,aH.of hu0,rfl,rfl,_,rfl,?_⟩
  have q:=q H1 su
  have q:Q (.bl (!(decide (bt h0 c=bt h2 d) && !decide (bt h0 c="t")))) H1:=q
  rw [bL]
  by_cases z:bt h0 c=bt h2 d
  ·rw [UH z]at q⊢
   refine bB ⟨_,rfl,u,_,0,_,rfl,rfl,aH.of hu0,av (j:=0) rfl,rfl,?_⟩
   rw [bL]
   simpa using q
  ·rw [UG z]at q⊢
   exact bY q
 rw [UG e2]
 refine bB (aG ⟨_,rfl,Ma,λR hR=>⟨R,_,rfl,.inl (aZ.of ag),rfl,rfl,_,rfl,?_⟩⟩)
 have t1:=aj hR (.lst [V.str "keep",.str "same",.str "turn",.str "must",.str "walk",.str "sum"])
 revert t1
 generalize upd H R (.lst [V.str "keep",.str "same",.str "turn",.str "must",.str "walk",.str "sum"])=H1
 intro t1
 cases e3:inV (.str x.nm) [.str "keep",.str "same",.str "turn",.str "must",.str "walk",.str "sum"]with
 | false =>
  rw [E8 (by rw [e3]; decide) e1 e2]at q
  exact bY (q H1 t1)
 | true =>
 obtain⟨y,rfl,hy⟩:=J5 e3
 obtain⟨pre,hpre⟩:=Bq hy
 have PC:=hI.same t1
 have hc:1<=oR y/\oR y<=h.length:=cH hf (by rw [hpre]; simp)
 refine bB (aG ⟨_,rfl,_,rfl,a,.one y,rfl,PC.wk,PC.sm,λu H2 s2 hu2=>?_⟩)
 have s12:=t1.trans s2
 have Ij:=PC.same s2
 have hu2:H2 u=some (.lst ((pre.map V.int)++[.int (oR y)])):=by
  rw [hu2]
  show some (HO.lst ((c8 y).map V.int))=_
  rw [hpre,UK]
  rfl
 refine⟨_,rfl,u,_,-1,_,rfl,rfl,aZ.of hu2,oX _ _,_,_,rfl,rfl,b,_,_,_,rfl,rfl,aH.of Ij.hd,dE hc,ak ?_⟩
 dsimp only
 have EM:∀s:Str,(Wk.one y).nm=s↔y.nm=s:=λs=>Iff.rfl
 refine⟨_,rfl,rfl,_,rfl,?_⟩
 rw [bL]
 by_cases e4:y.nm="keep"
 ·rw [UH ((EM _).mpr e4)]
  obtain⟨c,t,hh⟩:=rL ((EM _).mpr e4)
  cases hh
  obtain⟨st,ys,hk1,hk2⟩:=bW.mp Ij.wk
  refine bY ⟨_,rfl,a,_,2,_,rfl,rfl,aH.of hk1,rfl,st,_,0,_,rfl,rfl,aH.of hk2,av (j:=0) rfl,_,rfl,cJ,λR2 yN=>?_⟩
  have t2:=aj yN (.lst [V.str (bt h c),.str "n"])
  refine⟨_,rfl,rfl,.inr ⟨_,rfl,R2,_,_,.str (gp (bt h c)),rfl,rfl,aZ.of ag,?_,rfl,?_⟩⟩
  ·show i_ [V.str (bt h c),.str "n"] (if decide (V.str (bt h c)=V.str "t")=true then 1 else 0)=_
   unfold gp
   rw [bL]
   by_cases z:bt h c="t"
   ·rw [UH z,if_pos z]; rfl
   ·rw [UG z,if_neg z]; rfl
  ·show Q (.bl (!decide (V.str t=V.str (gp (bt h c))))) _
   rw [bL]
   exact q _ (s12.trans t2)
 rw [UG (λz=>e4 ((EM _).mp z))]
 refine bB (aG ⟨_,rfl,rfl,_,rfl,?_⟩)
 rw [bL]
 by_cases e5:y.nm="same"
 ·rw [UH ((EM _).mpr e5)]
  obtain⟨c,d,hh⟩:=y9 ((EM _).mpr e5)
  cases hh
  have h2:H2 a=some (.tup [.str "same",.int c,.int d]):=bW.mp Ij.wk
  have hc1:=cH hf (c:=c) (by simp [c8])
  have q:=q H2 s12
  have q:Q (.bl (!(decide (bt h c=bt h d) && !decide (bt h c="t")))) H2:=q
  refine bY ⟨_,rfl,rfl,_,rfl,?_⟩
  rw [bL]
  show if decide (bt h d="t")=true then _ else _
  by_cases z:bt h d="t"
  ·rw [UH z]
   refine bY ?_
   have:(!(decide (bt h c=bt h d) && !decide (bt h c="t")))=true:=by
    by_cases y1:bt h c=bt h d
    ·rw [UH y1,y1,UH z]; rfl
    ·rw [UG y1]; rfl
   rw [this]at q
   exact q
  ·rw [UG z]
   refine bB ⟨_,rfl,_,rfl,_,rfl,a,_,1,_,rfl,rfl,aH.of h2,rfl,_,_,rfl,rfl,b,_,_,_,rfl,rfl,aH.of Ij.hd,dE hc1,rfl,?_⟩
   show Q (.bl (!decide (V.str (bt h d)=V.str (bt h c)))) H2
   rw [bL]
   have:(!(decide (bt h c=bt h d) && !decide (bt h c="t"))) = !decide (bt h d=bt h c):=by
    by_cases y1:bt h c=bt h d
    ·rw [UH y1,y1,UG z,UH rfl]; rfl
    ·rw [UG y1,UG (show¬bt h d=bt h c from λw=>y1 w.symm)]; rfl
   rw [this]at q
   exact q
 rw [UG (λz=>e5 ((EM _).mp z))]
 refine bB (aG ⟨_,rfl,rfl,_,rfl,?_⟩)
 rw [bL]
 by_cases e6:y.nm="sum"
 ·rw [UH ((EM _).mpr e6)]
  obtain⟨cs,c,hh⟩:=DY ((EM _).mpr e6)
  cases hh
  refine bY ⟨_,rfl,rfl,?_⟩
  show Q (.bl (decide (V.str (bt h c)=V.str "w"))) H2
  rw [bL]
  have q:=q H2 s12
  have q:Q (.bl (!(!decide (bt h c="w")))) H2:=q
  rw [Bool.not_not]at q
  exact q
 rw [UG (λz=>e6 ((EM _).mp z))]
 have ht:=Gg hy e4 e5 e6
 refine bB (aG ⟨_,rfl,rfl,_,rfl,?_⟩)
 rw [bL]
 by_cases z:bt h (oR y)="t"
 ·rw [UH z]
  have:bg (.one y) [h]=false:=by
   rcases ht with⟨c,ps,rfl⟩ | ⟨c,ps,rfl⟩ | ⟨c,mv,rfl⟩
   ·show cT _ (bt h c)=false
    rw [show bt h c="t" from z]; rfl
   ·show(_&&cT _ (bt h c))=false
    rw [show bt h c="t" from z,Bool.and_comm]; rfl
   ·show cT _ (bt h c)=false
    rw [show bt h c="t" from z]; rfl
  have q:=q H2 s12
  rw [show bg (.one y) (kL (.one y) h es)=false from this]at q
  exact bY q
 ·rw [UG z]
  refine bB ⟨_,rfl,_,rfl,a,y,_,rfl,Ij.wk,ht,Ij.dr,λH3 s3=>?_⟩
  have q:=q H3 (s12.trans s3)
  rw [show bg (.one y) (kL (.one y) h es) = !sM y (bt h (oR y)) from FI ht Ij.dr (Dn ht) rfl z,Bool.not_not]at q
  exact q
theorem E4{v:V}{vs:List V}(h:cQ ((v::vs).map sW)=true):i8 ((v::vs).map sW)=[sW v]:=by
 rw [tO (by simp)]
 unfold cQ at h
 rw [List.all_eq_true]at h
 intro u hu
 exact Vd (h (sW u) (UW.mpr ⟨u,hu,rfl⟩))
theorem Ka{x:Wk}:inV (.str x.nm) [.str "cut",.str "count",.str "sum"]=true->∃cs,x=.one (.cut cs)\/x=.one (.count cs)\/∃c,x=.one (.sum cs c):=by
 cases x with
 | one x=>cases x <;> simp only [Wk.nm,W1.nm] <;> intro h <;> first | exact⟨_,.inl rfl⟩ | exact⟨_,.inr (.inl rfl)⟩ | exact⟨_,.inr (.inr ⟨_,rfl⟩)⟩ | exact absurd h (by decide +kernel)
 | both p q=>simp only [Wk.nm]; intro h; exact absurd h (by decide +kernel)
 | meet c d p q=>simp only [Wk.nm]; intro h; exact absurd h (by decide +kernel)
structure Pj(x:Wk)(h:Hd)(es:List Hd):Prop where
 fit:c9 x (kL x h es)=true
 sort:bg x (kL x h es)=true
 hz:h.length<=1000
 ez:∀e∈es,e.length<=1000
def JD(n:Nat):Sp:=λvs H Q _=>∃(a b l:Addr) (x:Wk) (h:Hd) (as:List Addr) (es:List Hd),vs=[.ref a,.ref b,.ref l]/\vz n H a b l x h as es/\Pj x h es/\∀(u:Addr) (H':Hp),aM H H'->dX H' u (bE x (kL x h es))->Q (.ref u) H'
theorem K4{x:Wk}(h:x.nm="must"):∃c ps,x=.one (.must c ps):=by
 revert h
 cases x with
 | one x=>cases x <;> simp only [Wk.nm,W1.nm] <;> first | (intro h; exact⟨_,_,rfl⟩) | (intro h; exact absurd h (by decide +kernel))
 | both p q=>simp only [Wk.nm]; intro h; exact absurd h (by decide +kernel)
 | meet c d p q=>simp only [Wk.nm]; intro h; exact absurd h (by decide +kernel)
def zZ:Wk->Hd->Hd
 | .one (.cut cs),h=>cs.map (bt h)
 | .one (.count cs),h=>cs.map (bt h)
 | .one (.sum cs _),h=>cs.map (bt h)
 | _,h=>h
theorem E7{x:Wk}{h:Hd}(n:¬inV (.str x.nm) [.str "cut",.str "count",.str "sum"]=true):zZ x h=h:=by
 cases x with
 | one x=>cases x <;> first | rfl | exact absurd (by simp only [Wk.nm,W1.nm]; decide +kernel) n
 | both p q=>rfl
 | meet c d p q=>rfl
theorem DR{x:Wk}{h:Hd}{es:List Hd}(n1:x.nm≠"both")(n2:x.nm≠"meet")(n3:x.nm≠"must"):bE x (kL x h es)=if inV (.str x.nm) [.str "count",.str "sum",.str "number"]=true then zZ x h++(["t"]:Hd)else zZ x h++(if x.nm="walk" then(["w"]:Hd)else []):=by
 cases x with
 | one x =>
  cases x <;> first
   | exact absurd rfl n3
   | (rw [if_pos (by simp only [Wk.nm,W1.nm]; decide +kernel)]; rfl)
   | (rw [if_neg (by simp only [Wk.nm,W1.nm]; decide +kernel),if_pos (by simp only [Wk.nm,W1.nm])]; rfl)
   | (rw [if_neg (by simp only [Wk.nm,W1.nm]; decide +kernel),if_neg (by simp only [Wk.nm,W1.nm]; decide +kernel),List.append_nil]; rfl)
 | both p q=>exact absurd rfl n1
 | meet c d p q=>exact absurd rfl n2
abbrev e8:Stmt:=top 72
theorem eR:az ["_law_worker_here","_law_head","_law_ends","_law_word_here"] ["_law_worker_here","_law_head","_law_ends"] (ar e8):=fs
theorem vt{n:Nat}(B:jU mg)(F:FA K mg "_law_head_next" e8)
  (eJ:bc bf P w K mg base 1 "_law_sorts" ["_law_cells"] sS) :
  bc bf P w K mg base 2 "_law_head_next" ["_law_worker_here","_law_head","_law_ends"] (JD n):=by
 refine F.ok eR λf cdv A outer s H vs Q E hr h=>?_
 have hu:=iW hr
 obtain⟨a,b,l,x,h,as,es,rfl,hI,ho,q⟩:=h
 refine⟨_,(aq (aL (i:=3) eR.nd rfl (Or.inl rfl) (aA K (pv 0) ai))
   (aN (aW aP (pv 3) ao) (bj K (pv 2) ai)
   (aN (aW aP (pv 3) ao) (aF b9 (aF b9 (bj K (pv 2) ai) (cu c_ (bj K (pv 2) ai) dz (cB (aF bJ (aA K (pv 0) ai) ai)))) (cu c_ (bj K (pv 2) ai) (cB (aA K (pv 0) ai)) dz))
   (aN (aW aP (pv 3) ao) (aF b9 (aF b9 (cu c_ (pv 1) dz (cB (aF bJ (aA K (pv 0) ai) ai))) (aV bA rfl B.tuple PyProof.Rows.boot_tuple (ae (ay eJ hr (ae (bw (N':=["_law_a","_law_b"]) (src:=[none,none]) rfl (ba.jK (by kernel_rfl)) (cM (aA K (pv 0) ai)) (g:=(iO K 2 (bO (bz 0) (bO (bz 1) iX)))) (λcl C s H fp=>(cC rfl (aD (eA (i:=0)) (aD (eA (i:=1)) bS)))) (λcl C s H fp=>aX) (te:=(bx 1)) (λcl C s H fp=>(i3 1))) ah)) ah))) (cu c_ (pv 1) (cB (aA K (pv 0) ai)) dz))
   (aq (dy (dc cn (pv 3) (aQ (ae ao (ae ao (ae ao ah)))) rfl)
    (bK (aL (i:=1) eR.nd rfl (Or.inr rfl) (aV bA rfl B.tuple PyProof.Rows.boot_tuple (ae (bw (N':=["_law_column_here","_law_head"]) (src:=[none,some 1]) rfl (ba.jK (by kernel_rfl)) (cM (aA K (pv 0) ai)) (λcl C s H fp=>(eA (i:=0))) (λcl C s H fp=>aX) (te:=(gE (sy K) (bx 1) (gE (zy λi j=>V.int (i-j)) (bx 0) (tC (.int 1))))) (λcl C s H fp=>(aA K (yV 1) (aF bJ (i3 0) ai)))) ah))))
    cb)
   (aN (dc cn (pv 3) (aQ (ae ao (ae ao (ae ao ah)))) rfl) (aF b9 (pv 1) (aJ (ae ao ah)))
   (ax (aF b9 (pv 1) (eM (aW aP (pv 3) ao) (aJ (ae ao ah)) (aJ ah)))))))))),?_⟩
 obtain⟨xs,h1⟩:=hI.wk.first
 refine⟨_,rfl,a,_,0,_,rfl,rfl,aH.of h1,av (j:=0) rfl,ak ?_⟩
 dsimp only
 refine⟨_,rfl,rfl,_,rfl,?_⟩
 rw [bL]
 by_cases e1:x.nm="both"
 ·rw [UH e1]
  obtain⟨p,q',rfl⟩:=yo e1
  obtain⟨h0,h2,rfl⟩:=dG (hI.n rfl)
  obtain⟨a0,e0,gu⟩:=hI.en.nth (i:=0) rfl
  exact bY ⟨_,rfl,l,_,0,_,rfl,rfl,aZ.of hI.en.lst,av (j:=0) e0,q a0 H (aM.refl _) gu⟩
 rw [UG e1]
 refine bB (aG ⟨_,rfl,rfl,_,rfl,?_⟩)
 rw [bL]
 by_cases e2:x.nm="meet"
 ·rw [UH e2]
  obtain⟨c,d,p,q',rfl⟩:=iH e2
  obtain⟨h0,h2,rfl⟩:=dG (hI.n rfl)
  obtain⟨a0,e0,gu⟩:=hI.en.nth (i:=0) rfl
  obtain⟨a1,e1',vk⟩:=hI.en.nth (i:=1) rfl
  have hz0:=ho.ez h0 (by simp)
  have hz1:=ho.ez h2 (by simp)
  have hf:(there c h0&&there d h2)=true:=ho.fit
  rw [Vc]at hf
  obtain⟨d1,d2⟩:=e9 hf.2
  have ha:=hI.wk
  cases n with
  | zero=>exact False.elim ha
  | succ n =>
  obtain⟨b',e',bs,es',h1,_⟩:=ha
  refine bY ⟨_,rfl,l,_,0,_,rfl,rfl,aZ.of hI.en.lst,av (j:=0) e0,_,rfl,l,_,1,_,rfl,rfl,aZ.of hI.en.lst,av (j:=1) e1',?_⟩
  refine⟨_,rfl,a,_,2,_,rfl,rfl,aH.of h1,rfl,_,_,rfl,rfl,_,rfl,a1,_,rfl,vk,λt1 H1 s1 ht1=>?_⟩
  rw [nq d1 d2]at ht1
  refine eG (s1 _ _ gu) ht1 (by rw [U6]; omega) λt2 H2 s2 Cj=>?_
  have s12:=s1.trans s2
  refine⟨_,rfl,l,_,1,_,rfl,rfl,aZ.of (s12 _ _ hI.en.lst),av (j:=1) e1',_,rfl,a,_,2,_,rfl,rfl,aH.of (s12 _ _ h1),rfl,_,rfl,a1,_,rfl,s12 _ _ vk,λt3 H3 s3 En=>?_⟩
  rw [jM d1 d2]at En
  exact eG (s3 _ _ Cj) En (by rw [UJ,U6,List.length_drop]; omega) λt4 H4 s4 A4=>q t4 H4 (s12.trans (s3.trans s4)) A4
 rw [UG e2]
 refine bB (aG ⟨_,rfl,rfl,_,rfl,?_⟩)
 rw [bL]
 by_cases e3:x.nm="must"
 ·rw [UH e3]
  obtain⟨c,ps,rfl⟩:=K4 e3
  obtain⟨t,bs,h1,hP⟩:=bW.mp hI.wk
  obtain⟨c1,c2⟩:=cH ho.fit (c:=c) (by simp [c8])
  have hd:D7 (.must c ps):=hI.dr
  have hg:∀p∈ps,dN p.1/\dN p.2:=hd.good
  have hne:ps≠[]:=hd.ne.1
  have hpz:ps.length<=50:=hd.ne.2
  have QK:=ho.hz
  have hso:(cQ (ps.map λp=>sW p.2)&&cT (ps.map λp=>p.1) (bt h c))=true:=ho.sort
  rw [Vc]at hso
  have NX:i8 ((ps.map λp=>p.2).map sW)=(ps.take 1).map λp=>sW p.2:=by
   cases ps with
   | nil=>exact absurd rfl hne
   | cons p ps =>
    have:=hso.1
    rw [show((p::ps).map λp=>sW p.2)=((p::ps).map λp=>p.2).map sW by rw [List.map_map]; rfl]at this
    rw [List.map_cons]at this⊢
    rw [E4 this]
    rfl
  have hlb:(bs.map V.ref).length=ps.length:=by rw [UI,hP.len]
  refine bY ⟨_,rfl,_,rfl,a,_,1,_,rfl,rfl,aH.of h1,rfl,_,_,rfl,rfl,_,rfl,b,_,rfl,hI.hd,λt1 H1 s1 ht1=>?_⟩
  rw [nq c1 c2]at ht1
  refine⟨_,rfl,a,_,2,_,rfl,rfl,aH.of (s1 _ _ h1),rfl,t,rfl,⟨_,aH.of (s1 _ _ hP.tup)⟩,λDl hD=>?_⟩
  refine cF (xs:=bs.map V.ref) (λi σ ys H'=>(∃o1 o2,σ=[o1,o2])/\ys=(ps.take i).map (λp=>p.2)/\ys.length=i/\H' Dl=some (.lst ys)/\aM H1 H') ⟨⟨none,none,rfl⟩,rfl,rfl,ag,aj hD _⟩ ?_ ?_ ?_ ?_ ?_
  ·rintro i σ ys H' _ ⟨_,_,hi,h,_⟩
   exact⟨h,Nat.le_of_eq hi⟩
  ·rintro i σ ys H' _ ⟨_,_,_,_,sm⟩
   exact aH.of (sm _ _ (s1 _ _ hP.tup))
  ·rw [hlb]; exact UE hpz (by decide)
  ·rintro i v σ ys H' hv ⟨⟨o1,o2,rfl⟩,rfl,hi,hh,sm'⟩
   obtain⟨b',y,rfl,ey,hb⟩:=hP.get hv
   refine⟨b',_,rfl,aH.of (sm' _ _ (s1 _ _ hb)),rfl,_,_,rfl,ak ⟨_,_,rfl,ak ⟨rfl,?_⟩⟩⟩
   refine⟨_,rfl,hh,⟨_,_,rfl⟩,?_,?_,ag,bq hD sm'⟩
   ·rw [take_one ey,UK]; rfl
   ·rw [UJ,hi]; rfl
  rintro df S0 H3 ⟨_,rfl,Oe,h2,sm3⟩
  rw [hlb,List.take_length]at h2
  refine⟨Dl,_,rfl,h2,by rw [UI]; omega,λv hv=>?_,λu2 H4 s4 hu2=>?_⟩
  ·obtain⟨p,hp,rfl⟩:=UW.mp hv
   exact(hg p hp).2
  rw [NX]at hu2
  have NG:=sm3.trans s4
  refine⟨u2,_,rfl,.inl ⟨aZ.of hu2,λu3 v5=>?_⟩⟩
  have t5:=aj v5 (.tup (((ps.take 1).map λp=>sW p.2).map V.str))
  have Lb:=NG.trans t5
  refine eG (Lb _ _ ht1) ag (by rw [U6,UI,U6]; omega) λt6 H6 s6 HA=>?_
  have O5:=s1.trans (Lb.trans s6)
  refine⟨_,rfl,_,rfl,a,_,1,_,rfl,rfl,aH.of (O5 _ _ h1),rfl,_,rfl,b,_,rfl,O5 _ _ hI.hd,λt7 H7 s7 KC=>?_⟩
  rw [jM c1 c2]at KC
  exact eG (s7 _ _ HA) KC (by rw [UJ,U6,UI,U6,List.length_drop]; omega) λt8 H8 s8 Td=>q t8 H8 (O5.trans (s7.trans s8)) Td
 rw [UG e3]
 rw [DR e1 e2 e3]at q
 refine bB (aG ?_)
 dsimp only
 refine ly (λσ H'=>∃b',σ=[some (.ref a),some (.ref b'),some (.ref l),some (.str x.nm)]/\dX H' b' (zZ x h)/\(zZ x h).length<=1000/\aM H H') (λT hT=>?_) ?_
 ·refine⟨_,rfl,gv,λR hR=>⟨R,_,rfl,.inl (aZ.of ag),rfl,rfl,_,rfl,?_⟩⟩
  have t1:=aj hR (.lst [V.str "cut",.str "count",.str "sum"])
  revert t1
  generalize upd H R (.lst [V.str "cut",.str "count",.str "sum"])=H1
  intro t1
  refine cG (λk=>?_) (λk=>?_)
  ·have key:∃(cs:List Int) (t:Addr) (v:V) (vs:List V),H a=some (.tup (v :: .ref t::vs))/\H t=some (.tup (cs.map V.int))/\cs.length<=1000/\wz h cs/\zZ x h=cs.map (bt h):=by
    obtain⟨cs,rfl | rfl | ⟨c,rfl⟩⟩:=Ka k
    ·obtain⟨t,h1,h2⟩:=bW.mp hI.wk
     exact⟨cs,t,_,_,h1,h2,hI.sm,λc hc=>cH ho.fit hc,rfl⟩
    ·obtain⟨t,h1,h2⟩:=bW.mp hI.wk
     exact⟨cs,t,_,_,h1,h2,hI.sm,λc hc=>cH ho.fit hc,rfl⟩
    ·obtain⟨t,h1,h2⟩:=bW.mp hI.wk
     exact⟨cs,t,_,_,h1,h2,hI.sm,λc hc=>cH ho.fit (List.mem_append_left _ hc),rfl⟩
   obtain⟨cs,t,v,vs,h2,h3,OP,hth,em⟩:=key
   refine⟨_,rfl,a,_,1,_,rfl,rfl,aH.of (t1 _ _ h2),av (j:=1) rfl,t,rfl,⟨_,aH.of (t1 _ _ h3)⟩,λDl hD=>?_⟩
   refine cF (xs:=cs.map V.int) (λi σ ys H'=>(∃o,σ=[o,some (.ref b)])/\ys=((cs.take i).map (bt h)).map V.str/\ys.length=i/\H' Dl=some (.lst ys)/\aM H1 H') ⟨⟨none,rfl⟩,rfl,rfl,ag,aj hD _⟩ ?_ ?_ ?_ ?_ ?_
   ·rintro i σ ys H' _ ⟨_,_,hi,h,_⟩
    exact⟨h,Nat.le_of_eq hi⟩
   ·rintro i σ ys H' _ ⟨_,_,_,_,sm⟩
    exact aH.of (sm _ _ (t1 _ _ h3))
   ·rw [UI]; exact UE OP (by decide)
   ·rintro i v σ ys H' hv ⟨⟨o,rfl⟩,rfl,hi,hh,sm⟩
    rw [U5]at hv
    cases ec:cs[i]? with
    | none=>rw [ec]at hv; cases hv
    | some c =>
     rw [ec]at hv
     have hv:V.int c=v:=U2 hv
     subst hv
     refine⟨_,rfl,_,rfl,_,_,rfl,rfl,b,_,_,_,rfl,rfl,aH.of (sm _ _ (t1 _ _ hI.hd)),dE (hth c (UP ec)),hh,⟨_,rfl⟩,?_,?_,ag,bq hD sm⟩
     ·rw [take_one ec,UK,UK]; rfl
     ·rw [UJ,hi]; rfl
   ·rintro σ ys H' ⟨_,rfl,_,hh,sm⟩
    rw [UI,List.take_length]at hh
    refine⟨Dl,_,rfl,.inl ⟨aZ.of hh,λu hu'=>ak (hT _ _ ⟨u,rfl,?_,?_,t1.trans (sm.trans (aj hu' _))⟩)⟩⟩
    ·rw [em]; exact ag
    ·rw [em,UI]; exact OP
  ·rw [E7 k]at hT
   exact aG (hT _ _ ⟨b,rfl,t1 _ _ hI.hd,ho.hz,t1⟩)
 rintro σ H1 ⟨b',rfl,hb,Rq,s1⟩
 refine⟨_,rfl,gv,λR hR=>⟨R,_,rfl,.inl (aZ.of ag),rfl,rfl,_,rfl,?_⟩⟩
 have t1:=aj hR (.lst [V.str "count",.str "sum",.str "number"])
 have hb:=t1 _ _ hb
 have s2:=s1.trans t1
 revert s2 hb
 generalize upd H1 R (.lst [V.str "count",.str "sum",.str "number"])=H2
 intro hb s2
 refine cG (λk=>?_) (λk=>aG ?_)
 ·have k:inV (.str x.nm) [V.str "count",.str "sum",.str "number"]=true:=k
  rw [if_pos k]at q
  refine⟨_,rfl,dP,λu hu'=>?_⟩
  have su:=aj hu' (.tup [.str "t"])
  exact eG (ys:=["t"]) (su _ _ hb) ag (by show _+1<=_; omega) λt H' s' ht=>q t H' (s2.trans (su.trans s')) ht
 ·have k:¬inV (.str x.nm) [V.str "count",.str "sum",.str "number"]=true:=k
  rw [if_neg k]at q
  refine⟨_,rfl,_,rfl,rfl,_,rfl,?_⟩
  rw [bL]
  by_cases e4:x.nm="walk"
  ·rw [if_pos e4]at q
   rw [UH e4]
   refine bY ⟨dP,λu hu'=>?_⟩
   have su:=aj hu' (.tup [.str "w"])
   exact eG (ys:=["w"]) (su _ _ hb) ag (by show _+1<=_; omega) λt H' s' ht=>q t H' (s2.trans (su.trans s')) ht
  ·rw [if_neg e4]at q
   rw [UG e4]
   refine bB ⟨wt,λu hu'=>?_⟩
   have su:=aj hu' (.tup [])
   exact eG (ys:=[]) (su _ _ hb) ag (by show _+0<=_; omega) λt H' s' ht=>q t H' (s2.trans (su.trans s')) ht
theorem dk.up:∀{n:Nat} {H:Hp} {a:Addr} {x:Wk},dk n H a x->dk (n+1) H a x
 | 0,H,a,.one x,h=>h
 | n+1,H,a,.one x,h=>h
 | n+1,H,a,.both p q,h=>by
  obtain⟨b,c,bs,cs,h1,h2,h3⟩:=h
  exact⟨b,c,bs,cs,h1,⟨h2.tup,h2.len,λi a x e1 e2=>(h2.at_ i a x e1 e2).up⟩,⟨h3.tup,h3.len,λi a x e1 e2=>(h3.at_ i a x e1 e2).up⟩⟩
 | n+1,H,a,.meet c d p q,h=>by
  obtain⟨b,e,bs,es,h1,h2,h3⟩:=h
  exact⟨b,e,bs,es,h1,⟨h2.tup,h2.len,λi a x e1 e2=>(h2.at_ i a x e1 e2).up⟩,⟨h3.tup,h3.len,λi a x e1 e2=>(h3.at_ i a x e1 e2).up⟩⟩
abbrev rY(H:Hp)(a:Addr)(f:Fl):Prop:=H a=some (.tup [.bl f.o,.bl f.j,.bl f.f,.bl f.w,.bl f.l])
def Fy:Option Str->Str
 | none=>""
 | some s=>s
def Bp(n:Nat):Sp:=λvs H Q _=>∃(a b g l:Addr) (x:Wk) (h:Hd) (fl:Fl) (as:List Addr) (es:List Hd),vs=[.ref a,.ref b,.ref g,.ref l]/\vz n H a b l x h as es/\rY H g fl/\Ee x/\h.length<=1000/\(∀e∈es,e.length<=1000)/\∀H',aM H H'->Q (.str (Fy (i7 x fl (kL x h es)))) H'
theorem rB{x:Wk}{f:Fl}(h:x.nm="walk"):mh x f = !f.o:=by
 obtain⟨c,mv,rfl⟩:=yr h
 rfl
theorem zm{x:Wk}{f:Fl}(h:x.nm≠"walk")(h2:x.nm≠"meet"):mh x f=true:=by
 cases x with
 | one x=>cases x <;> first | rfl | exact absurd rfl h
 | both p q=>rfl
 | meet c d p q=>exact absurd rfl h2
abbrev j_:Stmt:=top 74
theorem vJ:az ["_law_worker_here","_law_head","_law_flags_here","_law_ends"] ["_law_worker_here","_law_head","_law_flags_here","_law_ends"] (ar j_):=fs
theorem Gx{n:Nat}(B:jU mg)(B2:iL mg)(F:FA K mg "_law_why" j_)
  (lZ:bc bf P w K mg base 2 "_law_no_column" ["_law_worker_here","_law_head","_law_ends"] (yq n))
  (pk:bc bf P w K mg base 3 "_law_no_sort" ["_law_worker_here","_law_head","_law_ends"] (vE n))
  (fb:bc bf P w K mg base 2 "_law_head_next" ["_law_worker_here","_law_head","_law_ends"] (JD n))
  (eQ:bc bf P w K mg base 1 "_law_is_one_row" ["_law_worker_here"] (uk n)) :
  bc bf P w K mg base 4 "_law_why" ["_law_worker_here","_law_head","_law_flags_here","_law_ends"] (Bp n):=by
 refine F.ok vJ λf cdv A outer s H vs Q E hr h=>?_
 have hu:=iW hr
 obtain⟨a,b,g,l,x,h,fl,as,es,rfl,hI,hF,hw,QK,hez,q⟩:=h
 refine⟨_,(aN (fw (ay lZ hr (ae (pv 0) (ae (pv 1) (ae (pv 3) ah))))) ao
   (aN (fw (ay pk hr (ae (pv 0) (ae (pv 1) (ae (pv 3) ah))))) ao
   (aN (aW ie (a_ bF rfl B.len PySem.boot_len (ae (ay fb hr (ae (pv 0) (ae (pv 1) (ae (pv 3) ah)))) ah)) ai) ao
   (aN (PW.pt (j7 (aW aP (aA K (pv 0) ai) ao) (iT (fw (aA K (pv 2) ai))))) ao
   (aN (PW.pt (j7 (aW aP (aA K (pv 0) ai) ao) (iT (sH (fw (a_ (il rfl) rfl B2.all PyProof.Rows.boot_all (ae (bw (N':=["_law_one"]) (src:=[none]) rfl (ba.jK (by kernel_rfl)) (cM (aF b9 (aA K (pv 0) ai) (aA K (pv 0) ai))) (λcl C s H fp=>(eA (i:=0))) (λcl C s H fp=>aX) (te:=(i4 (uk n) [] E0 (bp (bx 0) fD))) (λcl C s H fp=>(ay (hg:=xA) eQ hr (ae (i3 0) ah)))) ah))))))) ao
   (ax (eM (PW.pt (j7 (aW aP (aA K (pv 0) ai) ao) (iT (fw (aA K (pv 2) ai))))) ao ao))))))),?_⟩
 unfold i7 at q
 refine⟨_,rfl,_,rfl,_,rfl,a,b,l,x,h,as,es,rfl,hI,λH1 s1=>⟨_,rfl,?_⟩⟩
 by_cases e1:c9 x (kL x h es)=false
 ·rw [e1]
  rw [if_neg (by rw [e1]; decide)]at q
  exact bY (q H1 s1)
 have e1:c9 x (kL x h es)=true:=by simpa using e1
 rw [e1]
 rw [if_pos e1]at q
 refine bB (aG ⟨_,rfl,_,rfl,_,rfl,a,b,l,x,h,as,es,rfl,hI.same s1,e1,λH2 s2=>⟨_,rfl,?_⟩⟩)
 have s12:=s1.trans s2
 by_cases e2:bg x (kL x h es)=false
 ·rw [e2]
  rw [if_neg (by rw [e2]; decide)]at q
  exact bY (q H2 s12)
 have e2:bg x (kL x h es)=true:=by simpa using e2
 rw [e2]
 rw [if_pos e2]at q
 refine bB (aG ⟨_,rfl,_,rfl,_,rfl,a,b,l,x,h,as,es,rfl,hI.same s12,⟨e1,e2,QK,hez⟩,λu H3 s3 hu'=>?_⟩)
 have qe:=s12.trans s3
 refine⟨u,_,rfl,.inr (aH.of hu'),_,_,rfl,rfl,_,rfl,?_⟩
 rw [UI]
 by_cases e3:¬(bE x (kL x h es)).length<=6
 ·rw [if_neg e3]at q
  rw [UH (show(6:Int)<((bE x (kL x h es)).length:Nat) by omega)]
  exact bY (q H3 qe)
 have e3:(bE x (kL x h es)).length<=6:=by omega
 rw [if_pos e3]at q
 rw [UG (show¬(6:Int)<((bE x (kL x h es)).length:Nat) by omega)]
 have QR:=hI.same qe
 obtain⟨xs,h1⟩:=QR.wk.first
 have tail:∀H4,aM H3 H4->mh x fl=true->Qg (K1 (rC (gE He (gE (sy K) (bx 0) (tC (.int 0))) (tC (.str "must")))) (tB (gE (sy K) (bx 2) (tC (.int 4))))) (tC (.str "loose")) (tC (.str "")) [some (.ref a),some (.ref b),some (.ref g),some (.ref l)] H4 Q:=by
  intro H4 s4 hr
  have qj:=qe.trans s4
  rw [if_pos hr]at q
  refine⟨_,rfl,a,_,0,_,rfl,rfl,aH.of (s4 _ _ h1),av (j:=0) rfl,rfl,_,rfl,?_⟩
  rw [bL,za]
  cases e5:jf x with
  | false =>
   rw [e5]at q
   exact bB (bB (q H4 qj))
  | true =>
   rw [e5,Bool.true_and]at q
   refine bY ⟨_,rfl,g,_,4,_,rfl,rfl,aH.of (qj _ _ hF),rfl,_,rfl,cG (λz=>?_) (λz=>?_)⟩
   ·rw [if_pos z]at q; exact q H4 qj
   ·rw [if_neg z]at q; exact q H4 qj
 refine bB (aG ⟨_,rfl,a,_,0,_,rfl,rfl,aH.of h1,av (j:=0) rfl,rfl,_,rfl,?_⟩)
 rw [bL]
 by_cases e4:x.nm="walk"
 ·rw [UH e4]
  refine bY ⟨_,rfl,g,_,0,_,rfl,rfl,aH.of (qe _ _ hF),av (j:=0) rfl,_,rfl,cG (λz=>?_) (λz=>aG ?_)⟩
  ·rw [if_neg (by rw [rB e4,z]; decide)]at q
   exact q H3 qe
  ·have hr:mh x fl=true:=by rw [rB e4,UY.mpr z]; rfl
   refine⟨_,rfl,a,_,0,_,rfl,rfl,aH.of h1,av (j:=0) rfl,rfl,_,rfl,?_⟩
   rw [bL,UG (by rw [e4]; decide +kernel)]
   exact bB (bB (aG (tail H3 (aM.refl _) hr)))
 rw [UG e4]
 refine bB (bB (aG ⟨_,rfl,a,_,0,_,rfl,rfl,aH.of h1,av (j:=0) rfl,rfl,_,rfl,?_⟩))
 rw [bL]
 by_cases e5:x.nm="meet"
 ·rw [UH e5]
  obtain⟨c,d,p,q',rfl⟩:=iH e5
  have ha:=QR.wk
  cases n with
  | zero=>exact False.elim ha
  | succ n =>
  obtain⟨b',e',bs,es',h2,hp,hq⟩:=ha
  have hw1:p.length<=1000:=hw p (by simp [dF])
  have hw2:q'.length<=1000:=hw q' (by simp [dF])
  refine bY ⟨_,rfl,a,_,3,_,rfl,rfl,aH.of h2,rfl,_,rfl,a,_,4,_,rfl,rfl,aH.of h2,rfl,b',e',_,_,rfl,rfl,hp.tup,hq.tup,by rw [UI,UI,hp.len,hq.len]; exact UE (show _<=2000 by omega) (by decide),λu4 H4 s4 x6=>⟨u4,rfl,⟨_,aH.of x6⟩,λDl hD=>?_⟩⟩
  rw [←UK]at x6
  have hlen:((bs++es').map V.ref).length=(p++q').length:=by rw [UI,UJ,UJ,hp.len,hq.len]
  have hat:∀(i:Nat) v,((bs++es').map V.ref)[i]? = some v->∃a y,v=.ref a/\(p++q')[i]? = some y/\dk n H4 a y:=by
   intro i v hv
   by_cases hi:i<bs.length
   ·rw [UK,U4 (by rw [UI]; exact hi)]at hv
    obtain⟨a,y,e1,e2,e3⟩:=hp.get hv
    exact⟨a,y,e1,by rw [U4 (by rw [←hp.len]; exact hi)]; exact e2,e3.keep (aE.of s4)⟩
   ·have hi:bs.length<=i:=by omega
    rw [UK,U3 (by rw [UI]; exact hi),UI]at hv
    obtain⟨a,y,e1,e2,e3⟩:=hq.get hv
    exact⟨a,y,e1,by rw [U3 (by rw [←hp.len]; exact hi),←hp.len]; exact e2,e3.keep (aE.of s4)⟩
  refine cF (xs:=(bs++es').map V.ref) (λi σ ys H'=>(∃o,σ=[o])/\ys=(((p++q').take i).map λw=>cD w.nm).map V.bl/\ys.length=i/\H' Dl=some (.lst ys)/\aM H4 H') ⟨⟨none,rfl⟩,rfl,rfl,ag,aj hD _⟩ ?_ ?_ ?_ ?_ ?_
  ·rintro i σ ys H' _ ⟨_,_,hi,h,_⟩
   exact⟨h,Nat.le_of_eq hi⟩
  ·rintro i σ ys H' _ ⟨_,_,_,_,sm⟩
   exact aH.of (sm _ _ x6)
  ·rw [hlen,UJ]; exact UE (show _<=2000 by omega) (by decide)
  ·rintro i v σ ys H' hv ⟨⟨o,rfl⟩,rfl,hi,hh,sm⟩
   obtain⟨a',y,rfl,ey,hy⟩:=hat i v hv
   refine⟨_,rfl,a',y,rfl,(hy.keep (aE.of sm)).up,λH5 s5=>⟨s5 _ _ hh,⟨_,rfl⟩,?_,?_,ag,bq hD (sm.trans s5)⟩⟩
   ·rw [take_one ey,UK,UK]; rfl
   ·rw [UJ,hi]; rfl
  ·rintro σ ys H5 ⟨_,rfl,_,hh,sm⟩
   rw [hlen,List.take_length]at hh
   refine⟨Dl,_,rfl,aZ.of hh,_,rfl,?_⟩
   have er:((p++q').map λw=>cD w.nm).all id=mh (.meet c d p q') fl:=by rw [List.all_map]; rfl
   rw [er]
   cases z:mh (.meet c d p q') fl with
   | false =>
    rw [z]at q
    exact bY (q H5 (qe.trans (s4.trans sm)))
   | true=>exact bB (aG (tail H5 (s4.trans sm) z))
 ·rw [UG e5]
  exact bB (bB (aG (tail H3 (aM.refl _) (zm e4 e5))))
def jD(x:Wk)(h:Hd)(f:Fl):Fl:=⟨f.o || !cD x.nm,f.j||inV (.str x.nm) [.str "walk",.str "both",.str "meet"],f.f||pF (au x),f.w||pW x.nm,f.l||looseW x h f⟩
def zj(n:Nat):Sp:=λvs H Q _=>∃(a b g:Addr) (x:Wk) (h:Hd) (fl:Fl),vs=[.ref a,.ref b,.ref g]/\dk n H a x/\dX H b h/\rY H g fl/\keepIn x h/\∀(u:Addr) (H':Hp),aM H H'->rY H' u (jD x h fl)->Q (.ref u) H'
theorem xM{x:Wk}{h:Hd}{f:Fl}(h1:x.nm≠"keep")(h2:x.nm≠"first")(h3:x.nm≠"meet"):looseW x h f=false:=by
 match x with
 | .one (.keep _ _)=>exact absurd rfl h1
 | .one (.first n)=>exact absurd rfl h2
 | .meet ..=>exact absurd rfl h3
 | .both ..=>rfl
 | .one (.same ..)=>rfl
 | .one (.cut ..)=>rfl
 | .one (.turn ..)=>rfl
 | .one (.must ..)=>rfl
 | .one (.walk ..)=>rfl
 | .one (.sort ..)=>rfl
 | .one .apart=>rfl
 | .one (.count ..)=>rfl
 | .one (.sum ..)=>rfl
 | .one .number=>rfl
theorem xj{x:Wk}(h:x.nm≠"first"):pF (au x)=false:=by
 rw [la h]
 exact UG h
abbrev iS:Stmt:=top 75
theorem bR:az ["_law_worker_here","_law_head","_law_flags_here","_law_others","_law_joins","_law_firsts","_law_walks","_law_loose","_law_word_here"] ["_law_worker_here","_law_head","_law_flags_here"] (ar iS):=fs
theorem B4{n:Nat}(F:FA K mg "_law_flags" iS)
  (eQ:bc bf P w K mg base 1 "_law_is_one_row" ["_law_worker_here"] (uk n)) :
  bc bf P w K mg base 2 "_law_flags" ["_law_worker_here","_law_head","_law_flags_here"] (zj n):=by
 refine F.ok bR λf cdv A outer s H vs Q E hr h=>?_
 have hu:=iW hr
 obtain⟨a,b,g,x,h,fl,rfl,ha,hb,hF,hkp,q⟩:=h
 refine⟨_,(aq (pD (pv 2) (cC rfl (aD (bT (i:=3) bR.nd rfl (Or.inl rfl)) (aD (bT (i:=4) bR.nd rfl (Or.inl rfl)) (aD (bT (i:=5) bR.nd rfl (Or.inl rfl)) (aD (bT (i:=6) bR.nd rfl (Or.inl rfl)) (aD (bT (i:=7) bR.nd rfl (Or.inl rfl)) bS)))))))
   (aq (aL (i:=8) bR.nd rfl (Or.inl rfl) (aA K (pv 0) ai))
   (aq (dy (aW aP (pv 8) ao)
    (bK (aL (i:=7) bR.nd rfl (Or.inl rfl) (fQ (pv 7) (cZ (bU aP (aA K (pv 1) (aF bJ (aA K (pv 0) ai) ai)) ao)))))
    cb)
   (aq (dy (PW.pt (j7 (aW aP (pv 8) ao) (iT (aW ie (aA K (pv 0) ai) ai))))
    (aq (aL (i:=7) bR.nd rfl (Or.inl rfl) (fQ (pv 7) (cZ (pv 4))))
     (bK (aL (i:=5) bR.nd rfl (Or.inl rfl) fY)))
    cb)
   (aq (dy (aW aP (pv 8) ao)
    (bK (aL (i:=7) bR.nd rfl (Or.inl rfl) (fQ (pv 7) (fQ (pv 6) (cZ (pv 5))))))
    cb)
   (ax (aJ (ae (fQ (pv 3) (cZ (Jk (ay eQ hr (ae (pv 0) ah))))) (ae (fQ (pv 4) (cZ (fF cn (pv 8) (aQ (ae ao (ae ao (ae ao ah)))) rfl))) (ae (pv 5) (ae (fQ (pv 6) (cZ (bU aP (pv 8) ao))) (ae (pv 7) ah)))))))))))),?_⟩
 obtain⟨xs,h1⟩:=ha.first
 refine⟨_,rfl,g,_,rfl,aH.of hF,rfl,_,_,rfl,ak ⟨_,_,rfl,ak ⟨_,_,rfl,ak ⟨_,_,rfl,ak ⟨_,_,rfl,ak ⟨rfl,?_⟩⟩⟩⟩⟩⟩
 dsimp only
 refine⟨_,rfl,a,_,0,_,rfl,rfl,aH.of h1,av (j:=0) rfl,ak ?_⟩
 dsimp only
 have fin:∀(fi lo:Bool),fi=(fl.f||pF (au x))->lo=(fl.l||looseW x h fl)->D5 (Es (bp (uJ (bx 3) (GY (i4 (uk n) [] E0 (bp (bx 0) fD)))) (bp (uJ (bx 4) (gE (Hn K false) (bx 8) (xR (bp (tC (.str "walk")) (bp (tC (.str "both")) (bp (tC (.str "meet")) fD)))))) (bp (bx 5) (bp (uJ (bx 6) (gE He (bx 8) (tC (.str "walk")))) (bp (bx 7) fD)))))) {nx:=λ_ H'=>Q .non H',rt:=Q} [some (.ref a),some (.ref b),some (.ref g),some (.bl fl.o),some (.bl fl.j),some (.bl fi),some (.bl fl.w),some (.bl lo),some (.str x.nm)] H:=by
  rintro fi lo rfl rfl
  have q:∀(u:Addr) (H':Hp),aM H H'->H' u=some (.tup [.bl (fl.o || !cD x.nm),.bl (fl.j||inV (.str x.nm) [.str "walk",.str "both",.str "meet"]),.bl (fl.f||pF (au x)),.bl (fl.w||pW x.nm),.bl (fl.l||looseW x h fl)])->Q (.ref u) H':=q
  have last:∀(o:Bool),o=(fl.o || !cD x.nm)->∀H1,aM H H1->bp (uJ (bx 4) (gE (Hn K false) (bx 8) (xR (bp (tC (.str "walk")) (bp (tC (.str "both")) (bp (tC (.str "meet")) fD)))))) (bp (bx 5) (bp (uJ (bx 6) (gE He (bx 8) (tC (.str "walk")))) (bp (bx 7) fD))) [some (.ref a),some (.ref b),some (.ref g),some (.bl fl.o),some (.bl fl.j),some (.bl (fl.f||pF (au x))),some (.bl fl.w),some (.bl (fl.l||looseW x h fl)),some (.str x.nm)] H1 (λvs H2=>(.bl o::vs).length<=sizeLine/\∀u,H2 u=none->Q (.ref u) (upd H2 u (.tup (.bl o::vs)))):=by
   rintro o rfl H1 s1
   have lst:∀(j:Bool),j=(fl.j||inV (.str x.nm) [.str "walk",.str "both",.str "meet"])->∀H2,aM H H2->bp (bx 5) (bp (uJ (bx 6) (gE He (bx 8) (tC (.str "walk")))) (bp (bx 7) fD)) [some (.ref a),some (.ref b),some (.ref g),some (.bl fl.o),some (.bl fl.j),some (.bl (fl.f||pF (au x))),some (.bl fl.w),some (.bl (fl.l||looseW x h fl)),some (.str x.nm)] H2 (λvs H3=>(V.bl (fl.o || !cD x.nm) :: .bl j::vs).length<=sizeLine/\∀u,H3 u=none->Q (.ref u) (upd H3 u (.tup (.bl (fl.o || !cD x.nm) :: .bl j::vs)))):=by
    rintro j rfl H2 s2
    refine⟨_,rfl,_,rfl,_,rfl,cG (λz=>?_) (λz=>?_)⟩
    ·refine⟨_,rfl,sF,λu hu'=>q u _ (s2.trans (aj hu' _)) ?_⟩
     rw [ag,z]; rfl
    ·refine⟨_,rfl,rfl,_,rfl,sF,λu hu'=>q u _ (s2.trans (aj hu' _)) ?_⟩
     rw [ag,UY.mpr z,bL]; rfl
   refine⟨_,rfl,_,rfl,cG (λz=>?_) (λz=>?_)⟩
   ·exact lst true (by rw [z]; rfl) H1 s1
   ·refine⟨_,rfl,gv,λR hR=>⟨R,_,rfl,.inl (aZ.of ag),rfl,rfl,?_⟩⟩
    exact lst _ (by rw [UY.mpr z]; rfl) _ (s1.trans (aj hR _))
  refine⟨_,rfl,_,rfl,cG (λz=>?_) (λz=>?_)⟩
  ·exact last true (by rw [z]; rfl) H (aM.refl _)
  ·exact⟨_,rfl,a,x,rfl,ha,λH1 s1=>⟨_,rfl,last _ (by rw [UY.mpr z]; rfl) H1 s1⟩⟩
 refine⟨_,rfl,rfl,_,rfl,?_⟩
 rw [bL]
 by_cases e1:x.nm="keep"
 ·rw [UH e1]
  obtain⟨c,t,rfl⟩:=rL e1
  obtain⟨st,ys,hk1,hk2⟩:=bW.mp ha
  refine bY ?_
  refine⟨_,rfl,_,rfl,cG (λz=>?_) (λz=>?_)⟩
  ·refine ak ?_
   dsimp only
   refine⟨_,rfl,rfl,_,rfl,?_⟩
   rw [bL,UG (by simp only [Wk.nm,W1.nm]; decide +kernel)]
   refine bB (bB (aG ⟨_,rfl,rfl,_,rfl,?_⟩))
   rw [bL,UG (by simp only [Wk.nm,W1.nm]; decide +kernel)]
   exact bB (aG (fin _ true (by rw [xj (by simp only [Wk.nm,W1.nm]; decide +kernel),Bool.or_false]) (by rw [z]; rfl)))
  ·refine⟨_,rfl,_,rfl,a,_,1,_,rfl,rfl,aH.of hk1,rfl,_,_,rfl,rfl,b,_,_,_,rfl,rfl,aH.of hb,dE (hkp c t rfl),rfl,ak ?_⟩
   dsimp only
   generalize hlo:decide (V.str (bt h c)=V.str "t")=lo
   refine⟨_,rfl,rfl,_,rfl,?_⟩
   rw [bL,UG (by simp only [Wk.nm,W1.nm]; decide +kernel)]
   refine bB (bB (aG ⟨_,rfl,rfl,_,rfl,?_⟩))
   rw [bL,UG (by simp only [Wk.nm,W1.nm]; decide +kernel)]
   exact bB (aG (fin _ _ (by rw [xj (by simp only [Wk.nm,W1.nm]; decide +kernel),Bool.or_false]) (by rw [UY.mpr z,Bool.false_or,←hlo,bL]; rfl)))
 rw [UG e1]
 refine bB (aG ⟨_,rfl,rfl,_,rfl,?_⟩)
 rw [bL]
 by_cases e2:x.nm="first"
 ·rw [UH e2]
  obtain⟨m,rfl⟩:=lg e2
  have h2:H a=some (.tup [.str "first",.int m]):=bW.mp ha
  refine bY ⟨_,rfl,a,_,1,_,rfl,rfl,aH.of h2,rfl,_,_,rfl,rfl,_,rfl,?_⟩
  by_cases e3:m<=0
  ·rw [UG (show¬(0:Int)<m by omega)]
   refine bB (aG ⟨_,rfl,rfl,_,rfl,?_⟩)
   rw [bL,UG (by simp only [Wk.nm,W1.nm]; decide +kernel)]
   refine bB (aG (fin _ _ ?_ ?_))
   ·show fl.f=(fl.f||pF (if m<=0 then "first 0" else "first"))
    rw [if_pos e3,show pF "first 0"=false by decide +kernel,Bool.or_false]
   ·show fl.l=(fl.l||(decide (¬m<=0)&&fl.j))
    rw [UG (λz=>z e3),Bool.false_and,Bool.or_false]
  ·rw [UH (show(0:Int)<m by omega)]
   have hf1:true=(fl.f||pF (if m<=0 then "first 0" else "first")):=by
    rw [if_neg e3,show pF "first"=true by decide +kernel,Bool.or_true]
   have hl1:(fl.l||(decide (¬m<=0)&&fl.j))=(fl.l||fl.j):=by rw [UH e3,Bool.true_and]
   refine bY ⟨_,rfl,_,rfl,cG (λz=>?_) (λz=>?_)⟩
   ·refine ak ?_
    dsimp only
    refine ak ?_
    dsimp only
    refine⟨_,rfl,rfl,_,rfl,?_⟩
    rw [bL,UG (by simp only [Wk.nm,W1.nm]; decide +kernel)]
    exact bB (aG (fin _ true hf1 (by show true=(fl.l||(decide (¬m<=0)&&fl.j)); rw [z]; rfl)))
   ·refine⟨_,rfl,ak ?_⟩
    dsimp only
    refine ak ?_
    dsimp only
    refine⟨_,rfl,rfl,_,rfl,?_⟩
    rw [bL,UG (by simp only [Wk.nm,W1.nm]; decide +kernel)]
    exact bB (aG (fin _ _ hf1 (by show fl.j=(fl.l||(decide (¬m<=0)&&fl.j)); rw [hl1,UY.mpr z]; rfl)))
 rw [UG e2]
 refine bB (bB (aG ⟨_,rfl,rfl,_,rfl,?_⟩))
 rw [bL]
 have hf2:fl.f=(fl.f||pF (au x)):=by rw [xj e2,Bool.or_false]
 by_cases e3:x.nm="meet"
 ·rw [UH e3]
  obtain⟨c,d,p,q',rfl⟩:=iH e3
  refine bY ⟨_,rfl,_,rfl,cG (λz=>?_) (λz=>⟨_,rfl,_,rfl,cG (λz2=>?_) (λz2=>⟨_,rfl,?_⟩)⟩)⟩
  ·refine ak ?_
   dsimp only
   exact fin _ true hf2 (by rw [z]; rfl)
  ·refine ak ?_
   dsimp only
   exact fin _ true hf2 (by show true=(fl.l||(fl.w||fl.f)); rw [z2,Bool.true_or,Bool.or_true])
  ·refine ak ?_
   dsimp only
   exact fin _ fl.f hf2 (by show fl.f=(fl.l||(fl.w||fl.f)); rw [UY.mpr z,UY.mpr z2,Bool.false_or,Bool.false_or])
 ·rw [UG e3]
  exact bB (aG (fin _ _ hf2 (by rw [xM e1 e2 e3,Bool.or_false])))
def Gr(a b:Fl):Fl:=⟨a.o||b.o,a.j||b.j,a.f||b.f,a.w||b.w,a.l||b.l⟩
def lK(x:Wk)(h:Hd)(f:Fl)(pl:List Int)(es:List Hd)(a:Fl):Res:=match i7 x f (kL x h es)with
 | some s=>.no pl s
 | none=>.ok (bE x (kL x h es)) (jD x h a)
def uV(step:Hd->Fl->List Int->Wk->Res)(x:Wk)(h:Hd)(f:Fl)(pl:List Int):List (List Wk)->Nat->List Hd->Fl->Res
 | [],_,es,a=>lK x h f pl es a
 | p::ps,j,es,a=>c7 (putL step (pl++[(j:Int)]) 0 h f p) λh' f'=>uV step x h f pl ps (j+1) (es++[h']) (Gr a f')
def yL:Nat->Hd->Fl->List Int->Wk->Res
 | 0,h,f,pl,x=>ik x h f pl [(h,f)]
 | n+1,h,f,pl,x=>match x with
  | .one _=>lK x h f pl [] f
  | _=>uV (yL n) x h f pl (dF x) 0 [] f
def CU(f g:Fl):Prop:=(f.o=true->g.o=true)/\(f.j=true->g.j=true)/\(f.f=true->g.f=true)/\(f.w=true->g.w=true)/\(f.l=true->g.l=true)
theorem CU.refl{f:Fl}:CU f f:=⟨id,id,id,id,id⟩
theorem CU.trans{f g h:Fl}(a:CU f g)(b:CU g h):CU f h:=⟨b.1∘a.1,b.2.1∘a.2.1,b.2.2.1∘a.2.2.1,b.2.2.2.1∘a.2.2.2.1,b.2.2.2.2∘a.2.2.2.2⟩
theorem wD{x:Wk}{h:Hd}{f g:Fl}{fs:List Fl}(hm:g∈fs):CU g (Eo x h f fs):=by
 have a:∀p:Fl->Bool,p g=true->fs.any p=true:=λp e=>List.any_eq_true.mpr ⟨g,hm,e⟩
 refine⟨λe=>?_,λe=>?_,λe=>?_,λe=>?_,λe=>?_⟩
 ·show(fs.any _||_)=true; rw [a (λg=>g.o) e]; rfl
 ·show(fs.any _||_)=true; rw [a (λg=>g.j) e]; rfl
 ·show(fs.any _||_)=true; rw [a (λg=>g.f) e]; rfl
 ·show(fs.any _||_)=true; rw [a (λg=>g.w) e]; rfl
 ·show(_||fs.any _)=true; rw [a (λg=>g.l) e,Bool.or_true]
theorem sV{x:Wk}{h h':Hd}{f f':Fl}{pl:List Int}{es:List (Hd×Fl)}(e:ik x h f pl es=.ok h' f'):f'=Eo x h f (es.map λe=>e.2)/\i7 x f (es.map λe=>e.1)=none:=by
 unfold ik at e
 split at e
 ·cases e
 ·next hn=>cases e; exact⟨rfl,hn⟩
theorem fk{r:Res}{g:Hd->Fl->Res}{h':Hd}{f':Fl}(e:c7 r g=.ok h' f'):∃h1 f1,r=.ok h1 f1/\g h1 f1=.ok h' f':=by
 cases r with
 | ok h f=>exact⟨h,f,rfl,e⟩
 | no a s=>cases e
theorem tS{step:Hd->Fl->List Int->Wk->Res}(hs:∀h f pl x h' f',step h f pl x=.ok h' f'->CU f f'){pl:List Int}:∀{ws:List Wk} {i:Nat} {h:Hd} {f:Fl} {h':Hd} {f':Fl},putL step pl i h f ws=.ok h' f'->CU f f'
 | [],_,_,_,_,_,e=>by cases e; exact CU.refl
 | x::ws,i,h,f,h',f',e=>by
  obtain⟨h1,f1,e1,e2⟩:=fk e
  exact(hs _ _ _ _ _ _ e1).trans (tS hs e2)
theorem t_{x:Wk}(h:bZ x=true):∃p q,dF x=[p,q]:=by
 cases x with
 | one x=>cases h
 | both p q=>exact⟨p,q,rfl⟩
 | meet c d p q=>exact⟨p,q,rfl⟩
theorem yt:∀(n:Nat) (h:Hd) (f:Fl) (pl:List Int) (x:Wk) (h':Hd) (f':Fl),cq n h f pl x=.ok h' f'->CU f f'
 | 0,h,f,pl,x,h',f',e=>by
  rw [(sV e).1]
  exact wD (by simp)
 | n+1,h,f,pl,x,h',f',e=>by
  cases hb:bZ x with
  | false =>
   rw [iI hb]at e
   rw [(sV e).1]
   exact wD (by simp)
  | true =>
   rw [pC hb]at e
   obtain⟨p,q,hpq⟩:=t_ hb
   rw [hpq]at e
   obtain⟨h1,f1,e1,e⟩:=fk e
   obtain⟨h2,f2,e2,e⟩:=fk e
   rw [(sV e).1]
   exact(tS (yt n) e1).trans (wD (by simp))
theorem AL{x:Wk}(h:cD x.nm=true):bZ x=false/\pW (au x)=false/\pF (au x)=false:=by
 revert h
 cases x with
 | one x=>cases x <;> simp only [Wk.nm,W1.nm] <;> intro h <;> first | exact absurd h (by decide +kernel) | exact⟨rfl,by simp only [au,Wk.nm,W1.nm]; decide +kernel,by simp only [au,Wk.nm,W1.nm]; decide +kernel⟩
 | both p q=>simp only [Wk.nm]; intro h; exact absurd h (by decide +kernel)
 | meet c d p q=>simp only [Wk.nm]; intro h; exact absurd h (by decide +kernel)
theorem oG{n:Nat}{pl:List Int}:∀{ws:List Wk} {i:Nat} {h:Hd} {f:Fl} {h':Hd} {f':Fl},(∀x∈ws,cD x.nm=true)->putL (cq n) pl i h f ws=.ok h' f'->f'.w=f.w/\f'.f=f.f
 | [],_,_,_,_,_,_,e=>by cases e; exact⟨rfl,rfl⟩
 | x::ws,i,h,f,h',f',ho,e=>by
  obtain⟨h1,f1,e1,e2⟩:=fk e
  obtain⟨a,b⟩:=oG (λy hy=>ho y (by simp [hy])) e2
  obtain⟨o1,o2,o3⟩:=AL (ho x (by simp))
  rw [iI o1]at e1
  rw [a,b,(sV e1).1]
  refine⟨?_,?_⟩
  ·show(([f].any λg=>g.w)||pW (au x))=f.w
   rw [o2]; simp
  ·show(([f].any λg=>g.f)||pF (au x))=f.f
   rw [o3]; simp
theorem uQ(x:Wk):pO (au x)=(!cD x.nm)/\pJ (au x)=inV (.str x.nm) [.str "walk",.str "both",.str "meet"]/\pW (au x)=pW x.nm:=by
 by_cases h:x.nm="first"
 ·obtain⟨n,rfl⟩:=lg h
  show pO (if n<=0 then "first 0" else "first")=_/\pJ (if n<=0 then "first 0" else "first")=_/\pW (if n<=0 then "first 0" else "first")=_
  simp only [Wk.nm,W1.nm]
  split <;> (refine⟨?_,?_,?_⟩ <;> decide +kernel)
 ·rw [la h]
  refine⟨rfl,?_,rfl⟩
  unfold pJ inV
  simp only [List.any_cons,List.any_nil,Bool.or_false,rO]
  rw [Bool.or_assoc]
theorem yM{x:Wk}{h:Hd}{f:Fl}{pl:List Int}(hb:bZ x=false):lK x h f pl [] f=ik x h f pl [(h,f)]:=by
 have eh:kL x h []=[h]:=by unfold kL; rw [hb]; rfl
 obtain⟨n1,n2,n3⟩:=uQ x
 have ef:jD x h f=Eo x h f [f]:=by
  unfold jD Eo
  simp only [List.any_cons,List.any_nil,Bool.or_false,n1,n2,n3]
  rw [Bool.or_comm f.l]
 unfold lK ik
 rw [eh,ef]
 simp only [List.map_cons,List.map_nil]
 first | done | (cases i7 x f [h] <;> rfl)
theorem or3{a b c:Bool}(h:a=true->b=true):(a||b||c)=(b||c):=by
 cases a <;> cases b <;> simp_all
theorem EW{n:Nat}{x:Wk}{h h1 h2:Hd}{f f1 f2:Fl}{pl p1 p2:List Int}{p q:List Wk}(hb:bZ x=true)(hpq:dF x=[p,q])(e1:putL (cq n) p1 0 h f p=.ok h1 f1)(e2:putL (cq n) p2 0 h f q=.ok h2 f2) :
  lK x h f pl [h1,h2] (Gr (Gr f f1) f2)=ik x h f pl [(h1,f1),(h2,f2)]:=by
 have eh:kL x h [h1,h2]=[h1,h2]:=by unfold kL; rw [hb]; rfl
 have l1:=tS (yt n) e1
 obtain⟨n1,n2,n3⟩:=uQ x
 unfold lK ik
 rw [eh]
 simp only [List.map_cons,List.map_nil]
 cases ew:i7 x f [h1,h2]with
 | some s=>rfl
 | none =>
  have ef:jD x h (Gr (Gr f f1) f2)=Eo x h f [f1,f2]:=by
   unfold jD Eo Gr
   simp only [List.any_cons,List.any_nil,Bool.or_false,n1,n2,n3]
   rw [or3 l1.1,or3 l1.2.1,or3 l1.2.2.1,or3 l1.2.2.2.1,or3 l1.2.2.2.2]
   congr 1
   cases x with
   | one x=>cases hb
   | both a b=>rw [Bool.or_comm]; rfl
   | meet c d a b =>
    cases hpq
    have hr:(p++q).all (λw=>cD w.nm)=true:=by
     unfold i7 at ew
     split at ew
     ·split at ew
      ·split at ew
       ·split at ew
        ·assumption
        ·cases ew
       ·cases ew
      ·cases ew
     ·cases ew
    rw [List.all_append,Vc,List.all_eq_true,List.all_eq_true]at hr
    obtain⟨a1,a2⟩:=oG hr.1 e1
    obtain⟨b1,b2⟩:=oG hr.2 e2
    show((f1.l||f2.l)||((f1.w||f2.w)||(f1.f||f2.f)))=((f.w||f.f)||(f1.l||f2.l))
    rw [a1,a2,b1,b2,Bool.or_self,Bool.or_self,Bool.or_comm]
  rw [ef]
theorem we:∀n:Nat,yL n=cq n
 | 0=>by
  funext h f pl x
  rfl
 | n+1=>by
  funext h f pl x
  cases hb:bZ x with
  | false =>
   rw [iI hb,←yM hb]
   cases x with
   | one x=>rfl
   | both a b=>cases hb
   | meet c d a b=>cases hb
  | true =>
   rw [pC hb]
   obtain⟨p,q,hpq⟩:=t_ hb
   have hl:yL (n+1) h f pl x=uV (yL n) x h f pl (dF x) 0 [] f:=by
    cases x with
    | one x=>cases hb
    | both a b=>rfl
    | meet c d a b=>rfl
   rw [hl,hpq,we n]
   show c7 (putL (cq n) (pl++[((0:Nat):Int)]) 0 h f p) (λh' f'=>c7 (putL (cq n) (pl++[((1:Nat):Int)]) 0 h f q) λh'' OS=>lK x h f pl [h',h''] (Gr (Gr f f') OS))=c7 (putL (cq n) (pl++[((0:Nat):Int)]) 0 h f p) (λh' f'=>c7 (putL (cq n) (pl++[((1:Nat):Int)]) 0 h f q) λh'' OS=>ik x h f pl [(h',f'),(h'',OS)])
   cases e1:putL (cq n) (pl++[((0:Nat):Int)]) 0 h f p with
   | no a s=>rfl
   | ok h1 f1 =>
    show c7 _ _=c7 _ _
    cases e2:putL (cq n) (pl++[((1:Nat):Int)]) 0 h f q with
    | no a s=>rfl
    | ok h2 f2=>exact EW hb hpq e1 e2
end My
namespace L2
open PySem PySem.Spec PyProof.Rows
section
variable{prog:Program}{w:World}{A:Around}{E:Value->Shared->Prop}{s:Shared}
theorem Al{z TI TO i1 i2 l1 l2:Addr}{k:Nat}{xs ys:Array Value}{x y a b:Value}{Q:Value->Shared->Prop}(D:ZipApart z TI TO i1 i2 l1 l2)
  (hz:IsZip s.heap z TI TO .none) (hTI:IsPair s.heap TI (.ref i1) (.ref i2)) (hTO:IsPair s.heap TO a b)
  (h1:s.heap.IsTupleIter i1 l1 k) (h2:s.heap.IsTupleIter i2 l2 k) (hl1:s.heap.IsTuple l1 xs) (hl2:s.heap.IsTuple l2 ys) (hx:xs[k]? = some x) (hy:ys[k]? = some y)
  (hQ:∀h',IsZip h' z TI TO (rawInt s.heap.objs.size)->IsPair h' TO x y->h'.IsTupleIter i1 l1 (k+1)->h'.IsTupleIter i2 l2 (k+1)->IsPair h' s.heap.objs.size x y->h'.objs.size=s.heap.objs.size+1->
   (∀c o,c≠z->c≠TO->c≠i1->c≠i2->s.heap.get? c=some o->h'.get? c=some o)->Q (.ref s.heap.objs.size) {s with heap:=h'}) :
  wpAny (model prog w) A (Builtin.«zip.__next__» ⟨[.ref z],[]⟩) (λfin s'=>∃v,fin=.done (.ret v)/\Q v s') E s:=by
 show wpAny _ _ (field (.ref z) 2 >>= _) _ _ _
 refine Uy (wpAny_field hz rfl (x:=.bool false) rfl ?_)
 show wpAny _ _ (field (.ref z) 3 >>= _) _ _ _
 refine Uy (wpAny_field hz rfl (x:=.ref TI) rfl ?_)
 refine Uy (wpAny_seqItems hTI rfl ?_)
 show wpAny _ _ (Builtin.SmallTypes.ownedTupleIsFree (.ref z) >>= _) _ _ _
 refine Uy ?_
 unfold Builtin.SmallTypes.ownedTupleIsFree
 refine Uy (wpAny_field hz rfl (x:=.none) rfl (Uz ?_))
 simp only [if_true]
 refine Uy (wpAny_rule ?_)
 refine Uy (wpAny_field hz rfl (x:=.ref TO) rfl ?_)
 refine Uy (wpAny_setField_rec hz (by simp) λg1 z1 s1=>?_)
 replace z1:IsZip g1 z TI TO .ellipsis:=z1
 refine Uy ?_
 simp only [List.zipIdx_cons,List.zipIdx_nil,List.forIn_cons,List.forIn_nil]
 refine Uy (Uy (wpAny_onRaise ?_))
 show wpAny _ _ (Builtin.SmallTypes.nextOf (.ref i1) >>= _) _ _ _
 refine Uy (kJ (h1.extBut s1.extBut D.i1z) (hl1.extBut s1.extBut D.l1z) hx λg2 a2 s2=>Uz ?_)
 have p2:IsPair g2 TO a b:=s2.extBut _ _ D.TOi1 (s1.extBut _ _ D.TOz hTO)
 refine Uy (wpAny_seqItems p2 rfl (Uy (wpAny_updateSeq_pair p2 λg3 p3 s3=>Uy (wpAny_letGo (Uz ?_)))))
 replace p3:IsPair g3 TO x b:=p3
 refine Uy (Uy (wpAny_onRaise ?_))
 show wpAny _ _ (Builtin.SmallTypes.nextOf (.ref i2) >>= _) _ _ _
 refine Uy (kJ (((h2.extBut s1.extBut D.i2z).extBut s2.extBut D.i12.symm).extBut s3.extBut D.TOi2.symm) (((hl2.extBut s1.extBut D.l2z).extBut s2.extBut D.l2i1).extBut s3.extBut D.l2TO) hy λg4 a4 s4=>Uz ?_)
 have p4:IsPair g4 TO x b:=s4.extBut _ _ D.TOi2 p3
 refine Uy (wpAny_seqItems p4 rfl (Uy (wpAny_updateSeq_pair p4 λg5 p5 s5=>Uy (wpAny_letGo (Uz (Uz ?_))))))
 replace p5:IsPair g5 TO x y:=p5
 refine Uy (wpAny_seqItems p5 rfl (Uy (wpAny_newTuple ?_)))
 have hsz:g5.objs.size=s.heap.objs.size:=by rw [s5.1,s4.1,s3.1,s2.1,s1.1]
 have z5:IsZip g5 z TI TO .ellipsis:=s5.extBut _ _ D.TOz.symm (s4.extBut _ _ D.i2z.symm (s3.extBut _ _ D.TOz.symm (s2.extBut _ _ D.i1z.symm z1)))
 have k5:∀c o,c≠z->c≠TO->c≠i1->c≠i2->s.heap.get? c=some o->g5.get? c=some o:=λc o c1 c2 c3 c4 e=>s5.extBut _ _ c2 (s4.extBut _ _ c4 (s3.extBut _ _ c2 (s2.extBut _ _ c3 (s1.extBut _ _ c1 e))))
 have b1:g5.IsTupleIter i1 l1 (k+1):=((a2.extBut s3.extBut D.TOi1.symm).extBut s4.extBut D.i12).extBut s5.extBut D.TOi1.symm
 have b2:g5.IsTupleIter i2 l2 (k+1):=a4.extBut s5.extBut D.TOi2.symm
 have MH:z<g5.objs.size:=UB z5
 show wpAny _ _ (Builtin.SmallTypes.ownedTupleHandOut (.ref z) (.ref g5.objs.size) >>= _) _ _ _
 refine Uy ?_
 unfold Builtin.SmallTypes.ownedTupleHandOut
 have z6:IsZip (g5.push {cls:=.type "tuple",data:=.seq #[x,y]}) z TI TO .ellipsis:=UA _ z5
 refine Uy (wpAny_setField_rec z6 (by simp) λg7 z7 s7=>?_)
 replace z7:IsZip g7 z TI TO (rawInt g5.objs.size):=z7
 refine wpAny_setField_rec z7 (by simp) λg8 z8 s8=>?_
 replace z8:IsZip g8 z TI TO (rawInt g5.objs.size):=z8
 have up:∀c o,c≠z->g5.get? c=some o->g8.get? c=some o:=λc o c1 e=>s8.extBut _ _ c1 (s7.extBut _ _ c1 (UA _ e))
 have t8:IsPair g8 g5.objs.size x y:=s8.extBut _ _ (Nat.ne_of_gt MH) (s7.extBut _ _ (Nat.ne_of_gt MH) (UC _ rfl))
 have n8:g8.objs.size=g5.objs.size+1:=by rw [s8.1,s7.1,Heap.size_push]
 rw [hsz]at z8 t8 n8
 refine Uz ⟨_,rfl,?_⟩
 show Q (.ref g5.objs.size) _
 rw [hsz]
 exact hQ g8 z8 (up _ _ D.TOz p5) (b1.at λo e=>up _ o D.i1z e) (b2.at λo e=>up _ o D.i2z e) t8 n8 λc o c1 c2 c3 c4 e=>up c o c1 (k5 c o c1 c2 c3 c4 e)
theorem Ca{z TI TO i1 i2 l1 l2:Addr}{k:Nat}{xs:Array Value}{Q:Fin->Shared->Prop}(hh:A.handled=none)(D:ZipApart z TI TO i1 i2 l1 l2)
  (hz:IsZip s.heap z TI TO .none) (hTI:IsPair s.heap TI (.ref i1) (.ref i2)) (h1:s.heap.IsTupleIter i1 l1 k) (hl1:s.heap.IsTuple l1 xs) (hx:xs[k]? = none)
  (hE:∀h' e,(∀c o,c≠z->c≠i1->s.heap.get? c=some o->h'.get? c=some o)->(∃o,h'.get? e=some o/\o.cls=.type "StopIteration")->E (.ref e) {s with heap:=h'}) :
  wpAny (model prog w) A (Builtin.«zip.__next__» ⟨[.ref z],[]⟩) Q E s:=by
 show wpAny _ _ (field (.ref z) 2 >>= _) _ _ _
 refine Uy (wpAny_field hz rfl (x:=.bool false) rfl ?_)
 show wpAny _ _ (field (.ref z) 3 >>= _) _ _ _
 refine Uy (wpAny_field hz rfl (x:=.ref TI) rfl ?_)
 refine Uy (wpAny_seqItems hTI rfl ?_)
 show wpAny _ _ (Builtin.SmallTypes.ownedTupleIsFree (.ref z) >>= _) _ _ _
 refine Uy ?_
 unfold Builtin.SmallTypes.ownedTupleIsFree
 refine Uy (wpAny_field hz rfl (x:=.none) rfl (Uz ?_))
 simp only [if_true]
 refine Uy (wpAny_rule ?_)
 refine Uy (wpAny_field hz rfl (x:=.ref TO) rfl ?_)
 refine Uy (wpAny_setField_rec hz (by simp) λg1 z1 s1=>?_)
 replace z1:IsZip g1 z TI TO .ellipsis:=z1
 refine Uy ?_
 simp only [List.zipIdx_cons,List.zipIdx_nil,List.forIn_cons,List.forIn_nil]
 refine Uy (Uy (wpAny_onRaise ?_))
 show wpAny _ _ (Builtin.SmallTypes.nextOf (.ref i1) >>= _) _ _ _
 refine Uy (fZ hh (h1.extBut s1.extBut D.i1z) (hl1.extBut s1.extBut D.l1z) hx λg2 e s2 he=>?_)
 obtain⟨oe,hoe,hce⟩:=he
 have z2:IsZip g2 z TI TO .ellipsis:=s2 _ _ D.i1z.symm z1
 have ez:e≠z:=λx=>by subst x; rw [z2]at hoe; cases hoe; simp at hce
 exact wpAny_setField_rec z2 (by simp) λg3 _ s3=>hE g3 e (λc o c1 c3 x=>s3.extBut _ _ c1 (s2 _ _ c3 (s1.extBut _ _ c1 x))) ⟨oe,s3.extBut _ _ ez hoe,hce⟩
theorem oQ{z TI TO i1 i2 l1 l2:Addr}{k:Nat}{xs ys:Array Value}{x y a b:Value}{Q:Option Value->Shared->Prop}(D:ZipApart z TI TO i1 i2 l1 l2)
  (hz:IsZip s.heap z TI TO .none) (hTI:IsPair s.heap TI (.ref i1) (.ref i2)) (hTO:IsPair s.heap TO a b)
  (h1:s.heap.IsTupleIter i1 l1 k) (h2:s.heap.IsTupleIter i2 l2 k) (hl1:s.heap.IsTuple l1 xs) (hl2:s.heap.IsTuple l2 ys) (hx:xs[k]? = some x) (hy:ys[k]? = some y)
  (hQ:∀h',IsZip h' z TI TO (rawInt s.heap.objs.size)->IsPair h' TO x y->h'.IsTupleIter i1 l1 (k+1)->h'.IsTupleIter i2 l2 (k+1)->IsPair h' s.heap.objs.size x y->h'.objs.size=s.heap.objs.size+1->
   (∀c o,c≠z->c≠TO->c≠i1->c≠i2->s.heap.get? c=some o->h'.get? c=some o)->Q (some (.ref s.heap.objs.size)) {s with heap:=h'}) :
  wpAny (model prog w) A (pyNext (.ref z)) Q E s:=by
 have hT:s.TypeIs (.ref z) "zip":=⟨_,hz,rfl⟩
 unfold pyNext
 exact Uy (wpAny_attempt (wpAny_callSpecial?_slot (name:=Str.ofString "__next__") hT F.slot_zip_next
  (wpAny_call_entry F.slot_zip_next hT F.entry_zip_next (Al D hz hTI hTO h1 h2 hl1 hl2 hx hy λh' a1 a2 a3 a4 a5 a6 a7=>Uz (hQ h' a1 a2 a3 a4 a5 a6 a7)) (F.args_zip_next_1 _))))
theorem qw{z TI TO i1 i2 l1 l2:Addr}{k:Nat}{xs:Array Value}{Q:Option Value->Shared->Prop}(hh:A.handled=none)(D:ZipApart z TI TO i1 i2 l1 l2)
  (hz:IsZip s.heap z TI TO .none) (hTI:IsPair s.heap TI (.ref i1) (.ref i2)) (h1:s.heap.IsTupleIter i1 l1 k) (hl1:s.heap.IsTuple l1 xs) (hx:xs[k]? = none)
  (hQ:∀h',(∀c o,c≠z->c≠i1->s.heap.get? c=some o->h'.get? c=some o)->Q none {s with heap:=h'}):wpAny (model prog w) A (pyNext (.ref z)) Q E s:=by
 have hT:s.TypeIs (.ref z) "zip":=⟨_,hz,rfl⟩
 unfold pyNext
 refine Uy (wpAny_attempt (wpAny_callSpecial?_slot (name:=Str.ofString "__next__") hT F.slot_zip_next
  (wpAny_call_entry F.slot_zip_next hT F.entry_zip_next (Ca hh D hz hTI h1 hl1 hx λh' e hk he=>?_) (F.args_zip_next_1 _))))
 obtain⟨o,ho,hc⟩:=he
 exact Uy (wpAny_isInstance (T:="StopIteration") (b:=true) ⟨o,ho,hc⟩ isSubtype_stop (Uz (hQ _ hk)))
abbrev Ng(h:Heap)(l1:Addr):Heap:=h.push {cls:=.type "tuple_iterator",data:=.fields #[.ref l1,.int 0 0]}
abbrev Nm(h:Heap)(l1 l2:Addr):Heap:=(Ng h l1).push {cls:=.type "tuple_iterator",data:=.fields #[.ref l2,.int 0 0]}
abbrev NP(h:Heap)(l1 l2:Addr):Heap:=(Nm h l1 l2).push {cls:=.type "tuple",data:=.seq #[.ref h.objs.size,.ref (Ng h l1).objs.size]}
abbrev M6(h:Heap)(l1 l2:Addr):Heap:=(NP h l1 l2).push {cls:=.type "tuple",data:=.seq #[.none,.none]}
abbrev J1(h:Heap)(l1 l2:Addr):Heap:=(M6 h l1 l2).push {cls:=.type "zip",data:=.fields #[.none,.bool false,.bool false,.ref (Nm h l1 l2).objs.size,.ref (NP h l1 l2).objs.size]}
theorem xt(l1 l2:Addr)(xs ys:Array Value):Meets (Builtin.«zip.__new__» ⟨[.type "zip",.ref l1,.ref l2],[]⟩) (λ_ R s=>s.heap.IsTuple l1 xs/\s.heap.IsTuple l2 ys/\R (.ok (.ret (.ref (M6 s.heap l1 l2).objs.size))) {s with heap:=J1 s.heap l1 l2}) :=
 .of_wp λprog w A R s h=>by
  obtain⟨hp,g,d,tk,os⟩:=s; obtain⟨hl1,hl2,h⟩:=h
  have hsub:=sub_zip
  have hL1:Heap.IsTuple (Shared.heap ⟨hp,g,d,tk,os⟩) l1 xs:=hl1
  have hL2:Heap.IsTuple (Shared.heap ⟨hp.push {cls:=.type "tuple_iterator",data:=.fields #[.ref l1,.int 0 0]},g,d,tk,os⟩) l2 ys:=Heap.IsTuple.push hl2 _
  wp_walk using wpAny_pyIter_tuple hL1,wpAny_pyIter_tuple hL2
  exact⟨_,rfl,h⟩
theorem zI{l1 l2:Addr}{xs ys:Array Value}{Q:Value->Shared->Prop}(hl1:s.heap.IsTuple l1 xs)(hl2:s.heap.IsTuple l2 ys)
  (h:∀h',IsZip h' (s.heap.objs.size+4) (s.heap.objs.size+2) (s.heap.objs.size+3) .none->IsPair h' (s.heap.objs.size+2) (.ref s.heap.objs.size) (.ref (s.heap.objs.size+1))->
   IsPair h' (s.heap.objs.size+3) .none .none->h'.IsTupleIter s.heap.objs.size l1 0->h'.IsTupleIter (s.heap.objs.size+1) l2 0->h'.objs.size=s.heap.objs.size+5->
   (∀c o,s.heap.get? c=some o->h'.get? c=some o)->Q (.ref (s.heap.objs.size+4)) {s with heap:=h'}) :
  wpAny (model prog w) A (call (.type "zip") [.ref l1,.ref l2]) Q E s:=by
 refine callType_new F.called_zip (by decide) (F.typeCall_zip_2 _ _) (F.newCall_zip_2 _ _) (λobj=>F.args_object_init_3 obj _ _) F.entry_zip_new (xt l1 l2 xs ys) ⟨hl1,hl2,?_⟩
 have z1:(Ng s.heap l1).objs.size=s.heap.objs.size+1:=Heap.size_push ..
 have z2:(Nm s.heap l1 l2).objs.size=s.heap.objs.size+2:=by rw [Heap.size_push,z1]
 have z3:(NP s.heap l1 l2).objs.size=s.heap.objs.size+3:=by rw [Heap.size_push,z2]
 have z4:(M6 s.heap l1 l2).objs.size=s.heap.objs.size+4:=by rw [Heap.size_push,z3]
 have z5:(J1 s.heap l1 l2).objs.size=s.heap.objs.size+5:=by rw [Heap.size_push,z4]
 have g5:(J1 s.heap l1 l2).get? (M6 s.heap l1 l2).objs.size=some _:=UC _ rfl
 have g4:(J1 s.heap l1 l2).get? (NP s.heap l1 l2).objs.size=some _:=UA _ (UC _ rfl)
 have g3:(J1 s.heap l1 l2).get? (Nm s.heap l1 l2).objs.size=some _:=UA _ (UA _ (UC _ rfl))
 have g2:(J1 s.heap l1 l2).get? (Ng s.heap l1).objs.size=some _:=UA _ (UA _ (UA _ (UC _ rfl)))
 have g1:(J1 s.heap l1 l2).get? s.heap.objs.size=some _:=UA _ (UA _ (UA _ (UA _ (UC _ rfl))))
 show _/\_
 rw [z2,z3,z4]at g5
 rw [z1,z2]at g3
 rw [z3]at g4
 rw [z1]at g2
 rw [z4]
 exact⟨⟨_,g5,rfl⟩,h _ g5 g3 g4 ⟨_,g1,rfl,rfl⟩ ⟨_,g2,rfl,rfl⟩ z5 λc o x=>UA _ (UA _ (UA _ (UA _ (UA _ x))))⟩
end
def HU(K:Ve)(a b:Addr):It :=
 ⟨λi H=>∃xs ys x y,aH K H a xs/\aH K H b ys/\xs[i]? = some x/\ys[i]? = some y,
   λi H v H'=>∃T x y,v=.ref T/\H T=none/\H'=upd H T (.tup [x,y])/\(∀xs,aH K H a xs->xs[i]? = some x)/\∀ys,aH K H b ys->ys[i]? = some y,
   λi H=>∃xs,aH K H a xs/\xs.length<=i⟩
theorem Aw{P:Program}{w:World}{K:Ve}{es:List Expr}{x1:Nat}{pos:Pos}(a b z TI TO i1 i2:Addr)(D:ZipApart z TI TO i1 i2 a b) :
  Turn P w K (.Tuple es x1 pos) (HU K a b) [z,TI,TO,i1,i2] z (λi h=>IsZip h z TI TO .none/\IsPair h TI (.ref i1) (.ref i2)/\(∃u v,IsPair h TO u v)/\h.IsTupleIter i1 a i/\h.IsTupleIter i2 b i) where
 mem:=by simp
 obj:=λi h st c hc=>by
  obtain⟨h1,h2,⟨u,v,h3⟩,⟨o4,e4,c4,d4⟩,⟨o5,e5,c5,d5⟩⟩:=st
  simp only [UX,List.not_mem_nil,or_false]at hc
  rcases hc with rfl | rfl | rfl | rfl | rfl
  ·exact⟨_,h1,λv z=>by cases(show Data.fields _=Data.cell v from z)⟩
  ·exact⟨_,h2,λv z=>by cases(show Data.seq _ _=Data.cell v from z)⟩
  ·exact⟨_,h3,λv z=>by cases(show Data.seq _ _=Data.cell v from z)⟩
  ·exact⟨o4,e4,λv z=>by rw [d4]at z; cases z⟩
  ·exact⟨o5,e5,λv z=>by rw [d5]at z; cases z⟩
 keep:=λi h h' st k=>by
  obtain⟨h1,h2,⟨u,v,h3⟩,h4,h5⟩:=st
  exact⟨k z (by simp) _ h1,k TI (by simp) _ h2,⟨u,v,k TO (by simp) _ h3⟩,h4.at λo e=>k i1 (by simp) o e,h5.at λo e=>k i2 (by simp) o e⟩
 item:=by
  intro X hP hw hK hc i pins s σ H E I hf st hg
  subst hP hw hK
  obtain⟨xs,ys,x,y,hq1,hq2,hx,hy⟩:=hg
  obtain⟨its,rv,p,hz⟩:=I.tuple hq1
  obtain⟨its2,Rf,p2,hz2⟩:=I.tuple hq2
  obtain⟨u,hu,ru⟩:=rv.get hx
  obtain⟨u2,hu2,SX⟩:=Rf.get hy
  obtain⟨h1,h2,⟨v1,v2,h3⟩,h4,h5⟩:=st
  refine oQ D h1 h2 h3 h4 h5 p p2 (x:=u) (y:=u2) (by simpa using hu) (by simpa using hu2) λh' g1 g2 g3 g4 g5 hsz g6=>⟨_,rfl,?_⟩
  refine wpAny_letOwnedTupleGo_zip (show IsZip h' z TI TO (rawInt s.heap.objs.size) from g1) λh'' f1 fs=>?_
  have MH:z<s.heap.objs.size:=UB h1
  have O7:s.heap.objs.size≠z:=Nat.ne_of_gt MH
  have kk:∀c o,c∉[z,TI,TO,i1,i2]->s.heap.get? c=some o->h''.get? c=some o:=λc o hc e=>by
   simp only [UX,List.not_mem_nil,or_false,not_or]at hc
   exact fs.extBut _ _ hc.1 (g6 c o hc.1 hc.2.2.1 hc.2.2.2.1 hc.2.2.2.2 e)
  have pT:IsPair h'' s.heap.objs.size u u2:=fs.extBut _ _ O7 g5
  have I1:Inv X pins σ (upd H s.heap.objs.size (.tup [x,y])) {s with heap:=h'',toks:=s.toks}:=I.qZ hf kk (UD _) ⟨by show 2<=sizeLine; decide,[u,u2],.cons ru (.cons SX .nil),⟨_,pT,rfl,⟨_,rfl⟩,rfl⟩⟩
  have Oc:TI<s.heap.objs.size:=UB h2
  refine⟨.ref s.heap.objs.size,_,I1,rfl,⟨_,x,y,rfl,I.hok.fresh (UD _),rfl,λys hy'=>by rw [I.ic hy' hq1]; exact hx,λys hy'=>by rw [I.ic hy' hq2]; exact hy⟩,⟨f1,?_,⟨u,u2,fs.extBut _ _ D.TOz g2⟩,g3.extBut fs.extBut D.i1z,g4.extBut fs.extBut D.i2z⟩,λc hc=>?_⟩
  ·exact fs.extBut _ _ D.TIz (g6 TI _ D.TIz D.TITO D.TIi1 D.TIi2 h2)
  ·have hn:=(hf c hc).1
   have:c≠s.heap.objs.size:=by
    have lt:c<s.heap.objs.size:=by
     simp only [UX,List.not_mem_nil,or_false]at hc
     obtain⟨o4,e4,_⟩:=h4
     obtain⟨o5,e5,_⟩:=h5
     rcases hc with rfl | rfl | rfl | rfl | rfl
     ·exact MH
     ·exact Oc
     ·exact UB h3
     ·exact UB e4
     ·exact UB e5
    exact U0 lt
   rw [aI this]; exact hn
 done:=by
  intro X hP hw hK hc i pins s σ H E I hf st hg
  subst hP hw hK
  obtain⟨xs,hq1,hend⟩:=hg
  obtain⟨its,rv,p,hz⟩:=I.tuple hq1
  obtain⟨h1,h2,⟨v1,v2,h3⟩,h4,h5⟩:=st
  have hl:=rv.length
  refine qw (I.ok.hd hc) D h1 h2 h4 p (by simp; omega) λh' g6=>⟨rfl,I.om (t':=s.toks) hf λc o hc e=>?_⟩
  simp only [UX,List.not_mem_nil,or_false,not_or]at hc
  exact g6 c o hc.1 hc.2.2.2.1 e
 self:=λ_ _ _ _ _ st h=>wpAny_pyIter_zip st.1 h
section
variable{X:Cx}
def M0(K:Ve)(ta:TA):TI:=λσ H R=>ta σ H λvs H1=>∃a b,vs=[.ref a,.ref b]/\(∃xs,aH K H1 a xs)/\(∃ys,aH K H1 b ys)/\R (HU K a b) H1
theorem F0{es:List Expr}{x1:Nat}{tpos:Pos}{a b:Expr}{ta:TA}{p pos:Pos}(hg:Gl X "zip")(hm:X.mg "zip"=none)(ha:PA X [a,b] ta)(hs:starEach [a,b] X.env=[(false,eval a X.env),(false,eval b X.env)]:=by rfl)(hs2:starEach [b] X.env=[(false,eval b X.env)]:=by rfl) :
  PI X (.Tuple es x1 tpos) (.Call (.Name "zip" p) [a,b] [] pos) (M0 X.K ta):=by
 intro pins s σ H R I h
 refine Call_ (iM I hg hm (by decide +kernel:bootBuiltins "zip"=some (.type "zip")) (PyProof.Rows.callWith_type1 (b_ (ha pos pins s σ H _ I h) λus s1 ⟨vs,H1,I1,r1,q1⟩=>?_) (by rw [hs,hs2]) (by rw [hs2]; rfl)))
 obtain⟨l1,l2,e,⟨xs,hq1⟩,⟨ys,hq2⟩,q⟩:=q1
 subst e
 cases r1 with
 | cons r rr =>
  cases rr with
  | cons r' rr =>
   cases rr
   cases r
   cases r'
   obtain⟨its,rv,p1,hz⟩:=I1.tuple hq1
   obtain⟨its2,Rf,p2,hz2⟩:=I1.tuple hq2
   have a1:l1<s1.heap.objs.size:=by obtain⟨_,e,_⟩:=p1; exact UB e
   have a2:l2<s1.heap.objs.size:=by obtain⟨_,e,_⟩:=p2; exact UB e
   refine zI p1 p2 λh' hz hTI hTO hi1 hi2 hsz hk=>?_
   refine wpAny_pyIter_zip (show IsZip h' _ _ _ _ from hz) ?_
   refine⟨_,[s1.heap.objs.size+4,s1.heap.objs.size+2,s1.heap.objs.size+3,s1.heap.objs.size,s1.heap.objs.size+1],_,_,H1,rfl,I1.kept (t':=s1.toks) hk,Aw _ _ _ _ _ _ _ (zipApart_new a1 a2),⟨hz,hTI,⟨_,_,hTO⟩,hi1,hi2⟩,λc hc=>?_,q⟩
   simp only [UX,List.not_mem_nil,or_false]at hc
   have hle:s1.heap.objs.size<=c:=by rcases hc with rfl | rfl | rfl | rfl | rfl <;> first | exact UD _ | exact Nat.le_add_right _ _
   exact I1.l5 hle (I1.hok.fresh hle)
end
theorem zF{K:Ve}{a b D:Addr}{xs ys:List V}{g:TG}{tc:TT}{te:TE}{Q:VK}{qd:St}{H0:Hp}(Pv:Nat->St->List V->Hp->Prop)(h0:Pv 0 qd [] H0)(hD:∀i σ zs H,i<=xs.length->Pv i σ zs H->H D=some (.lst zs)/\zs.length<=i)
  (hl:∀i σ zs H,i<=xs.length->Pv i σ zs H->aH K H a xs/\aH K H b ys) (hxy:xs.length=ys.length) (hz:xs.length<=sizeLine)
  (hs:∀i x y σ zs H T,xs[i]? = some x->ys[i]? = some y->Pv i σ zs H->H T=none->g (.ref T) σ (upd H T (.tup [x,y])) λdf H2=>tc df H2 λb H3=>if b=true then te df H3 λv H4=>H4 D=some (.lst zs)/\Pv (i+1) df (zs++[v]) (upd H4 D (.lst (zs++[v])))else Pv (i+1) df zs H3)
  (hd:∀σ zs H,Pv xs.length σ zs H->Q (.ref D) H):∃W:Nat->Nat->St->List V->Hp->Prop,(∃m,W 0 m qd [] H0)/\pI (HU K a b) g tc te D Q W:=by
 refine⟨λi m σ zs H=>m=xs.length-i/\i<=xs.length/\Pv i σ zs H,⟨xs.length,by simp,U1 _,h0⟩,?_⟩
 rintro i m σ zs H ⟨rfl,hi,p⟩
 obtain⟨q1,q2⟩:=hl i σ zs H hi p
 refine⟨(hD i σ zs H hi p).1,?_⟩
 by_cases hlt:i<xs.length
 ·have l2:i<ys.length:=by omega
  refine .inr ⟨⟨xs,ys,xs[i],ys[i],q1,q2,by simp [hlt],by simp [l2]⟩,UL (hD i σ zs H hi p).2 (UM hlt hz),Pv (i+1),λσ' ys' H' p'=>⟨xs.length-(i+1),by omega,rfl,hlt,p'⟩,λv H' y=>?_⟩
  obtain⟨T,x,y,rfl,hT,rfl,hx,hy⟩:=y
  exact hs i x y σ zs H T (hx xs q1) (hy ys q2) p hT
 ·have e:i=xs.length:=by omega
  subst e
  exact .inl ⟨⟨xs,q1,UD _⟩,hd σ zs H p⟩
section
variable(P:Program)(w:World)
end
section
variable{P:Program}{w:World}{H H':Hp}{h h':Heap}{a:Addr}{o:HO}
end
section
variable{P:Program}{w:World}{H:Hp}{h h':Heap}{x e:Addr}{o':HO}
end
section
variable{fs fs' ex ex':List Addr}{H H1 H2:Hp}{h h1 h2 h':Heap}{a x e:Addr}{o:HO}
end
section
variable{X:Cx}{pins:List (Addr×Obj)}{σ:List (Option V)}{H H':Hp}{s:Shared}{h':Heap}
end
section
variable{X:Cx}
variable{a b:Expr}{ta tb:TE}{pos:Pos}
variable{tA Md:TT}{rest:List Expr}
end
section
variable{X:Cx}{pins:List (Addr×Obj)}{σ:St}{H:Hp}{s:Shared}{a:Addr}{xs ys:List V}
end
section
variable{X:Cx}{pins:List (Addr×Obj)}{σ:St}{H:Hp}{s:Shared}{E:Value->Shared->Prop}
end
section
variable{X:Cx}{st:Stmt}{rest:List Stmt}{t u:TS}{e:Expr}{te:TE}{pos:Pos}
end
section
variable{X:Cx}{pos:Pos}
end
section
variable{X:Cx}{pos:Pos}
end
section
variable{X:Cx}{tg:Expr}
end
section
variable{X:Cx}{a b c:Expr}{ta tb tc:TE}{pos:Pos}
end
section
variable{X:Cx}{a b c:Expr}{ta tb tc:TE}{pos:Pos}
end
section
variable{prog:Program}{w:World}{A:Around}{E:Value->Shared->Prop}{s:Shared}{K:Ve}{x dx C f:Addr}{mA:Str->Option Value}{name:Str}{v:Value}
end
section
variable{P:Program}{w:World}{H H':Hp}{h h':Heap}{a C dx:Addr}{fs fs':List (Str×V)}
end
section
variable{X:Cx}{pins:List (Addr×Obj)}{σ:St}{H:Hp}{s:Shared}{a C dx:Addr}{fs:List (Str×V)}{f:Str}{v:V}{A:Around}{E:Value->Shared->Prop}
end
section
variable{X:Cx}{o e value:Expr}{f:Str}{pos pos' tpos:Pos}{ta tv:TE}
end
section
variable{X:Cx}{pins:List (Addr×Obj)}{σ:St}{H:Hp}{s:Shared}{A:Around}{E:Value->Shared->Prop}{Q:Value->Shared->Prop}{c:Value}{b:Bool}
end
section
variable{X:Cx}{e:Expr}{es:List Expr}{te:TE}{t:TA}{pos:Pos}
end
section
variable{X:Cx}{pins:List (Addr×Obj)}{σ:St}{H:Hp}{s s':Shared}
end
section
variable{X:Cx}{CX:m8}{k:Nat}{f C:Addr}{fd:FuncData}{ps:List Str}{sp:Sp}{ET:List V}{ds:List Value}{E:XK}{x m:Str}{p pos apos:Pos}{e o:Expr}{es:List Expr}{ta:TE}{t:TA}
end
section
variable{X:Cx}{CX:m8}{k:Nat}{f C:Addr}{fd:FuncData}{ps ks:List Str}{sp:Sp}{E:XK}{x m:Str}{p pos apos N6:Pos}{e o:Expr}{es:List Expr}{kws:List Keyword}{te ta:TE}{t tk:TA}{nm:Option Str}
variable{g:List Value->List Value->List Value}{gV:List V->List V->List V}
end
section
variable{X:Cx}{x:Str}{p pos:Pos}{e:Expr}{es:List Expr}{t:TA}{id T:String}{r:List V->Hp->VK->Prop}
end
section
variable{κ:Type} [DecidableEq κ]
def wW(kvs:List (κ×V))(k:κ):Option V:=(kvs.find? λkv=>decide (kv.1=k)).map (·.2)
def putK(kvs:List (κ×V))(k:κ)(v:V):List (κ×V) :=
 if(kvs.any λkv=>decide (kv.1=k))=true then kvs.map (λkv=>if kv.1=k then(kv.1,v)else kv)else kvs++[(k,v)]
theorem vT{p:κ×V}{r:List (κ×V)}{k:κ}(e:p.1=k):wW (p::r) k=some p.2:=by simp [wW,List.find?_cons,e]
theorem vQ{p:κ×V}{r:List (κ×V)}{k:κ}(e:¬p.1=k):wW (p::r) k=wW r k:=by simp [wW,List.find?_cons,e]
theorem vG(k:κ):∀kvs:List (κ×V),(kvs.any λkv=>decide (kv.1=k))=(wW kvs k).isSome
 | []=>rfl
 | p::r=>by
  rw [List.any_cons]
  by_cases e:p.1=k
  ·simp only [vT e,UH e,Bool.true_or,Option.isSome_some]
  ·rw [vQ e,UG e,Bool.false_or]; exact vG k r
theorem mj(kvs:List (κ×V))(k:κ)(v:V):(putK kvs k v).length<=kvs.length+1:=by
 unfold putK
 split
 ·rw [UI]; omega
 ·rw [UJ,Vb,List.length_nil]; omega
theorem jq.Aq{o:Option V}{u:Option Value}(r:jq o u):o.isSome=u.isSome:=by
 cases o with
 | none=>cases u with
  | none=>rfl
  | some _=>exact(show False from r).elim
 | some _=>cases u with
  | none=>exact(show False from r).elim
  | some _=>rfl
theorem KV.any{kvs:List (κ×V)}{vs:List (κ×Value)}(r:KV kvs vs)(k:κ):(kvs.any λkv=>decide (kv.1=k))=vs.any λkv=>decide (kv.1=k):=by
 unfold KV at r
 induction r with
 | nil=>rfl
 | cons h t ih=>rw [List.any_cons,List.any_cons,ih,h.1]
theorem KV.repl{kvs:List (κ×V)}{vs:List (κ×Value)}(r:KV kvs vs)(k:κ){y:V}{u:Value}(ry:RelV y u) :
  KV (kvs.map λkv=>if kv.1=k then(kv.1,y)else kv) (vs.map λkv=>if kv.1=k then(kv.1,u)else kv):=by
 unfold KV at r⊢
 induction r with
 | nil=>exact .nil
 | @cons p q ps qs h t ih =>
  rw [List.map_cons,List.map_cons]
  refine .cons ?_ ih
  obtain⟨h1,h2⟩:=h
  by_cases e:p.1=k
  ·rw [if_pos e,if_pos (h1.symm.trans e)]; exact⟨h1,ry⟩
  ·rw [if_neg e,if_neg (λz=>e (h1.trans z))]; exact⟨h1,h2⟩
theorem KV.put{kvs:List (κ×V)}{vs:List (κ×Value)}(r:KV kvs vs)(k:κ){y:V}{u:Value}(ry:RelV y u):KV (putK kvs k y) (stored vs k u):=by
 unfold putK stored
 rw [r.any k]
 by_cases e:(vs.any λkv=>decide (kv.1=k))=true
 ·rw [if_pos e,if_pos e]; exact r.repl k ry
 ·rw [if_neg e,if_neg e]; exact Paired.snoc r ⟨rfl,ry⟩
theorem KV.length{kvs:List (κ×V)}{vs:List (κ×Value)}(r:KV kvs vs):kvs.length=vs.length:=Paired.length r
end
theorem GZ{P:Program}{w:World}{k:Key}{u:Value}(r:RelV (kV k) u):(bD P w).is k u=true:=by
 cases k with
 | inl i=>obtain⟨t,e⟩:=(show∃t,u=Value.int i t from r); subst e; exact vm P w i t
 | inr x=>obtain⟨t,e⟩:=(show∃t,u=Value.str x t from r); subst e; exact vM P w x t
theorem Lk{P:Program}{w:World}{k:dq}{u:Value}(r:RelV (oV k) u):(optKind P w).is k u=true:=by
 cases k with
 | none=>obtain rfl:u=Value.none:=r; rfl
 | some k=>exact GZ (P:=P) (w:=w) r
theorem rh{P:Program}{w:World}:∀{ks:List dq} {us:List Value},Vals (ks.map oV) us->ItemsAre (optKind P w) ks us
 | [],_,r=>by rw [List.map_nil]at r; cases r; exact .nil
 | k::ks,_,r=>by
  rw [List.map_cons]at r
  cases r with
  | cons h t=>exact .cons (Lk h) (rh t)
abbrev KT(H:Hp):List (List dq×V)->List (List dq×Addr×Value)->Prop:=Paired λp q=>p.1=q.1/\H q.2.1=some (.tup (p.1.map oV))/\RelV p.2 q.2.2
theorem KT.val{H:Hp}{kvs:List (List dq×V)}{xs:List (List dq×Addr×Value)}(r:KT H kvs xs)(k:List dq):jq (wW kvs k) ((atKey xs k).map (·.2)):=by
 induction r with
 | nil=>exact True.intro
 | @cons p q ps qs h t ih =>
  obtain⟨h1,_,h2⟩:=h
  by_cases e:p.1=k
  ·have e':q.1=k:=h1.symm.trans e
   have b:atKey (q::qs) k=some q.2:=by simp [atKey,List.find?_cons,e']
   rw [vT e,b]; exact h2
  ·have e':¬q.1=k:=λz=>e (h1.trans z)
   have b:atKey (q::qs) k=atKey qs k:=by simp [atKey,List.find?_cons,e']
   rw [vQ e,b]; exact ih
theorem KT.repl{H:Hp}{kvs:List (List dq×V)}{xs:List (List dq×Addr×Value)}(r:KT H kvs xs)(k:List dq){y:V}{u:Value}(ry:RelV y u) :
  KT H (kvs.map λkv=>if kv.1=k then(kv.1,y)else kv) (xs.map (putAt k u)):=by
 induction r with
 | nil=>exact .nil
 | @cons p q ps qs h t ih =>
  rw [List.map_cons,List.map_cons]
  refine .cons ?_ ih
  obtain⟨h1,h2,h3⟩:=h
  unfold putAt
  by_cases e:p.1=k
  ·rw [if_pos e,if_pos (h1.symm.trans e)]; exact⟨h1,h2,ry⟩
  ·rw [if_neg e,if_neg (λz=>e (h1.trans z))]; exact⟨h1,h2,h3⟩
theorem KT.put{H:Hp}{kvs:List (List dq×V)}{xs:List (List dq×Addr×Value)}(r:KT H kvs xs)(k:List dq){b:Addr}{y:V}{u:Value}(hb:H b=some (.tup (k.map oV)))(ry:RelV y u) :
  KT H (putK kvs k y) (storedH xs k b u):=by
 have e:(kvs.any λkv=>decide (kv.1=k))=(atKey xs k).isSome:=by
  rw [vG,(r.val k).Aq,Option.isSome_map]
 unfold putK storedH
 rw [e]
 by_cases q:(atKey xs k).isSome=true
 ·rw [if_pos q,if_pos q]; exact r.repl k ry
 ·rw [if_neg q,if_neg q]; exact Paired.snoc r ⟨rfl,hb,ry⟩
theorem KT.keeps{H H':Hp}{kvs:List (List dq×V)}{xs:List (List dq×Addr×Value)}(r:KT H kvs xs)(ht:∀b ys,H b=some (.tup ys)->H' b=some (.tup ys)):KT H' kvs xs :=
 Paired.Iw r λ_ _ z=>⟨z.1,ht _ _ z.2.1,z.2.2⟩
section
variable{P:Program}{w:World}{H:Hp}{h:Heap}{a:Addr}
theorem GK{u:HO}(ok:ja P w H h)(e:Rd H a u):cz P w H h a u:=e.ok ok
theorem MI{kvs:List (Key×V)}(ok:ja P w H h)(e:Rd H a (.dK kvs)):kvs.length<=sizeLine/\(a==sysModules)=false/\∃vs,KV kvs vs/\h.DictOf (bD P w) a vs :=
 show cz P w H h a (.dK kvs) from GK ok e
theorem cO{kvs:List (Key×V)}(ok:ja P w H h)(e:H a=some (.dK kvs)):kvs.length<=sizeLine/\(a==sysModules)=false/\∃vs,KV kvs vs/\h.DictOf (bD P w) a vs:=MI ok (.inl e)
theorem DX{ks:List dq}(ok:ja P w H h)(e:H a=some (.tup (ks.map oV))):(tupleKind (optKind P w)).is h ks a:=by
 obtain⟨_,its,r,o,h1,h2,⟨n,h3⟩,_⟩:=(show cz P w H h a (.tup (ks.map oV)) from ok a _ e)
 exact⟨o,its.toArray,n,h1,h2,h3,by simpa using rh r⟩
theorem KW{kvs:List (List dq×V)}(ok:ja P w H h)(e:Rd H a (.dT kvs)):kvs.length<=sizeLine/\(a==sysModules)=false/\
  ∃xs,KT H kvs xs/\h.DictOfH (tupleKind (optKind P w)) a xs:=by
 obtain⟨z,y,xs,r,o,es,ep,h1,h2,h3,h4,h5⟩:=(show cz P w H h a (.dT kvs) from GK ok e)
 refine⟨z,y,xs,r,o,es,ep,h1,h2,h3,h4,λx hx=>?_,h5⟩
 have all:∀{l:List (List dq×V)} {m:List (List dq×Addr×Value)},KT H l m->∀x∈m,(tupleKind (optKind P w)).is h x.1 x.2.1:=by
  intro l m q
  induction q with
  | nil=>intro x hx; exact nomatch hx
  | @cons p q ps qs hq t ih =>
   intro x hx
   rcases UX.mp hx with e | hx
   ·subst e
    exact DX ok (by rw [←hq.1]; exact hq.2.1)
   ·exact ih x hx
 exact all r x hx
theorem MU{kvs:List (List dq×V)}(ok:ja P w H h)(e:H a=some (.dT kvs)):kvs.length<=sizeLine/\(a==sysModules)=false/\
  ∃xs,KT H kvs xs/\h.DictOfH (tupleKind (optKind P w)) a xs:=KW ok (.inl e)
end
def Am(H:Hp)(a:Addr)(y v:V)(H':Hp):Prop :=
 (∃kvs k,H a=some (.dK kvs)/\y=kV k/\kvs.length<sizeLine/\H'=upd H a (.dK (putK kvs k v)))\/
 ∃kvs k b,H a=some (.dT kvs)/\y=.ref b/\H b=some (.tup (k.map oV))/\kvs.length<sizeLine/\H'=upd H a (.dT (putK kvs k v))
theorem Am.t{H:Hp}{a b:Addr}{kvs:List (List dq×V)}{k:List dq}{v:V}(e:H a=some (.dT kvs))(eb:H b=some (.tup (k.map oV)))(hl:kvs.length<sizeLine) :
  Am H a (.ref b) v (upd H a (.dT (putK kvs k v))):=.inr ⟨kvs,k,b,e,rfl,eb,hl,rfl⟩
section
variable{X:Cx}{pins:List (Addr×Obj)}{σ:St}{H:Hp}{s:Shared}{a:Addr}{y v:V}{u r:Value}{o:Option V}{A:Around}{E:Value->Shared->Prop}
theorem Inv.big(I:Inv X pins σ H s):sysModules<s.heap.objs.size:=by
 have h:mainGlobals<s.heap.objs.size:=(I.mod.glob.keeps I.bk).lt
 exact Nat.lt_trans (by decide) h
theorem zc{h':Heap}{t':Nat}{ob:HO}(I:Inv X pins σ H s)(mu:MM (H a))(hs:Heap.SameBut a s.heap h')(he:∃q,h'.get? a=some q)(new:cz X.prog X.w (upd H a ob) h' a ob) :
  Inv X pins σ (upd H a ob) {s with heap:=h',toks:=t'} :=
 I.write (x:=a) (e:=a) mu (.inl rfl) (λb q hb z=>(hs.2 b hb).trans z) he new
theorem Ia{P:Program}{w:World}{H':Hp}{h':Heap}{kvs:List (Key×V)}{vs:List (Key×Value)}(z:kvs.length<=sizeLine)(hd:(a==sysModules)=false)(rel:KV kvs vs)(dd:h'.DictOf (bD P w) a vs) :
  cz P w H' h' a (.dK kvs):=⟨z,hd,vs,rel,dd⟩
theorem Ax{H':Hp}{Q:Unit->Shared->Prop}(hu:A.units+1<cLine)(I:Inv X pins σ H s)(g:Am H a y v H')(ry:RelV y u)(rv:RelV v r)(h:∀s',Inv X pins σ H' s'->Q () s') :
  wpAny (model X.prog X.w) A (setItem (.ref a) u r) Q E s:=by
 rcases g with⟨kvs,k,e,ey,l,eH⟩ | ⟨kvs,k,b,e,ey,eb,l,eH⟩
 ·subst ey eH
  obtain⟨z,hd,vs,rel,dd⟩:=cO I.hok e
  have hz:vs.length<=sizeLine:=by rw [←rel.length]; exact z
  have hl:(putK kvs k v).length<=sizeLine:=by have:=mj kvs k v; omega
  refine wpAny_setItem_pairs (hsz:=hz) (GZ ry) dd λh' NJ hs=>h _ ?_
  have he:∃q,h'.get? a=some q:=let ⟨q,_,_,hq,_⟩:=NJ; ⟨q,hq⟩
  exact zc I (by rw [e]; exact True.intro) hs he (Ia hl hd (rel.put k rv) NJ)
 ·subst ey eH
  cases(show u=Value.ref b from ry)
  obtain⟨z,hd,xs,rel,dd⟩:=MU I.hok e
  have hz:xs.length<=sizeLine:=by rw [←Paired.length rel]; exact z
  have hl:(putK kvs k v).length<=sizeLine:=by have:=mj kvs k v; omega
  refine wpAny_setItem_heap (hsz:=hz) (tupleKind_room_in1 hu) (DX I.hok eb) dd λh' NJ hs=>h _ ?_
  obtain⟨q,es,ep,hq,h2,h3,h4,_,h5⟩:=NJ
  refine zc I (by rw [e]; exact True.intro) hs ⟨q,hq⟩ ⟨hl,hd,_,(rel.put k eb rv).keeps λc ys ec=>?_,q,es,ep,hq,h2,h3,h4,h5⟩
  rw [aI (K2 ec e (λz=>nomatch z))]
  exact ec
end
section
variable{X:Cx}{pins:List (Addr×Obj)}{σ:St}{H:Hp}{s:Shared}{a:Addr}{kvs:List (Key×V)}{k:Key}{u:Value}{A:Around}{E:Value->Shared->Prop}
end
def MQ(td ty tv:TE):TS:=λD σ H=>tv σ H λv H1=>td σ H1 λx H2=>ty σ H2 λy H3=>∃a H4,x=.ref a/\Am H3 a y v H4/\D.nx σ H4
section
variable{X:Cx}{o i e value:Expr}{pos pos' tpos:Pos}{td ty tv:TE}
theorem yG(hu:X.A.units+1<cLine)(ho:PE X o td)(hi:PE X i ty)(hv:PE X value tv)(hs:swapsWith value (some (.Subscript o i pos')) pos.line X.env=pure false) :
  PS X (.Assign [.Subscript o i pos'] value pos) (MQ td ty tv):=by
 intro pins s σ H D I h
 refine wpAny_Assign_Subscript (b_ (hv pins s σ H _ I h) λr s1 ⟨v,H1,I1,rv,q1⟩=>b_ (ho pins s1 σ H1 _ I1 q1) λu s2 ⟨x,H2,I2,rx,q2⟩=>b_ (hi pins s2 σ H2 _ I2 q2) λiv s3 ⟨y,H3,I3,ry,a,H4,ex,g,q3⟩=>?_) hs
 subst ex
 obtain rfl:u=Value.ref a:=rx
 exact Ax hu I3 g ry rv λs4 I4=>⟨σ,H4,I4,q3⟩
end
theorem Bw{P:Program}{w:World}{H:Hp}(h:Heap)(hb:sysModules<h.objs.size):cz P w H (h.push {cls:=.type "dict",data:=.dict #[]}) h.objs.size (.dT []) :=
 ⟨U1 _,beq_eq_false_iff_ne.mpr (Ne.symm (U0 hb)),[],.nil,_,#[],0,UC _ rfl,⟨rfl,rfl,rfl⟩,rfl,rfl,List.nodup_nil⟩
def Jg:TE:=λ_ H Q=>∀p,H p=none->Q (.ref p) (upd H p (.dT []))
section
variable{X:Cx}{pos:Pos}
theorem BN:PE X (.Dict [] [] pos) Jg:=λpins s σ H Q I h =>
 wpAny_Dict_empty ⟨.ref s.heap.objs.size,_,I.laid (a:=s.heap.objs.size) (o:=.dT []) (t':=s.toks) (λ_ _ q=>UA _ q) (UD _) (Bw s.heap I.big),rfl,h _ (I.hok.fresh (UD _))⟩
end
structure M1(X:Cx)(o:Expr)(m:Str)(apos:Pos)(e:Expr)(cpos:Pos):Prop where
 base:attributeBase o m X.env (eval o X.env)=eval o X.env
 few:((backTo cpos (starEach [e] X.env)).all (λx=>!x.1)&&(backToKw cpos (keywordEach [] X.env)).all (λx=>x.1.isSome)
  && decide (([e]:List Expr).length+([]:List Keyword).length+(if([]:List Keyword).isEmpty then 0 else 1)<30))=true
 line:(apos.endLine==cpos.line)=true
 trees:backTo cpos (starEach [e] X.env)=[(false,eval e X.env)]
structure M2(X:Cx)(o:Expr)(m:Str)(apos:Pos)(e f:Expr)(cpos:Pos):Prop where
 base:attributeBase o m X.env (eval o X.env)=eval o X.env
 few:((backTo cpos (starEach [e,f] X.env)).all (λx=>!x.1)&&(backToKw cpos (keywordEach [] X.env)).all (λx=>x.1.isSome)
  && decide (([e,f]:List Expr).length+([]:List Keyword).length+(if([]:List Keyword).isEmpty then 0 else 1)<30))=true
 line:(apos.endLine==cpos.line)=true
 trees:backTo cpos (starEach [e,f] X.env)=[(false,eval e X.env),(false,eval f X.env)]
section
variable{X:Cx}{pins:List (Addr×Obj)}{σ:St}{H:Hp}{s:Shared}{a:Addr}{y d:V}{u r:Value}{o:Option V}{A:Around}{E:Value->Shared->Prop}
end
section
variable{X:Cx}{o e f:Expr}{apos cpos:Pos}{td ty tx:TE}
end
section
variable{X:Cx}{pins:List (Addr×Obj)}{σ:St}{H:Hp}{s:Shared}{a:Addr}{kvs:List (Key×V)}{A:Around}{E:Value->Shared->Prop}
end
section
variable{X:Cx}{pins:List (Addr×Obj)}{σ:St}{H:Hp}{s:Shared}{a:Addr}{y:V}{u:Value}{A:Around}{E:Value->Shared->Prop}
end
end L2
namespace Att
open PySem PySem.W PySem.Calls PyProof.Rows
section
variable{prog:Program}{w:World}{A:Around}{E:Value->Shared->Prop}{s:Shared}{K:Frag}
end
end Att
namespace L2
open PySem PySem.Spec PyProof.Rows
end L2
namespace L2
open PySem PySem.Spec PyProof.Rows
end L2
namespace L2
open PySem PySem.Spec PyProof.Rows
section
variable{P:Program}{w:World}{K:Ve}{mg:Str->Option Value}{base:Heap}
end
section
variable{X:Cx}
end
section
variable{κ:Type} [DecidableEq κ]
end
end L2
namespace My
open PySem L2
theorem EK{n:Nat}{x:Wk}{h:Hd}{f:Fl}{pl:List Int}(hx:bZ x=true):cq (n+1) h f pl x=uV (cq n) x h f pl (dF x) 0 [] f:=by
 rw [←we (n+1),←we n]
 cases x with
 | one x=>cases hx
 | both p q=>rfl
 | meet c d p q=>rfl
theorem DN{n:Nat}{x:Wk}{h:Hd}{f:Fl}{pl:List Int}(hx:bZ x=false):cq n h f pl x=lK x h f pl [] f:=by rw [iI hx,yM hx]
def tF:Nat->List Wk->Prop
 | 0,ws=>∀x∈ws,IK x/\DW x
 | n+1,ws=>∀x∈ws,(IK x/\DW x)/\∀p∈dF x,tF n p
theorem tF.ok{n:Nat}{ws:List Wk}(h:tF n ws){x:Wk}(hx:x∈ws):IK x/\DW x:=by
 cases n with
 | zero=>exact h x hx
 | succ n=>exact(h x hx).1
def Hx(H:Hp)(u:Addr):Res->Prop
 | .ok h f=>∃a b,H u=some (.tup [.str "head",.ref a,.ref b])/\dX H a h/\rY H b f
 | .no p s=>∃a,H u=some (.tup [.str "no",.ref a,.str s])/\H a=some (.tup (p.map V.int))
abbrev TD:=List (List dq×V)
theorem vO{kvs:TD}{k:List dq}{v:V}:(putK kvs k v).length<=kvs.length+1:=by
 unfold putK
 split
 ·rw [UI]; omega
 ·rw [UJ]; simp
def kI(pi:List Int):List dq:=pi.map λi=>some (.inl i)
theorem MF(pi:List Int):(kI pi).map oV=pi.map V.int:=by rw [kI,List.map_map]; rfl
theorem eN.rA{fd:Addr}{H H':Hp}{kvs:TD}(g:eN fd H H')(h:H fd=some (.dT kvs)):aE H H':=λa ys e=>g _ _ (λz=>by rw [z,h]at e; cases e) e
theorem aE.Oq{H H':Hp}{L:Addr}{kvs:TD}{o:HO}(k:aE H H')(h:H' L=some (.dT kvs)):aE H (upd H' L o):=λa ys e=>by
 have:=k _ _ e
 rw [aI (λz=>by rw [z,h]at this; cases this)]
 exact this
structure OL(n:Nat)(H:Hp)(b p pl g fd:Addr)(h:Hd)(ws:List Wk)(pi:List Int)(fl:Fl)(kvs:TD):Prop where
 hd:dX H b h
 pp:jo n H p ws
 pl:H pl=some (.tup (pi.map V.int))
 fg:rY H g fl
 fd:H fd=some (.dT kvs)
 ok:uh n ws
 dr:tF n ws
 six:h.length<=6
 pz:pi.length+2*n<=100
 kz:kvs.length+bnd n<=100000
def tj:Nat->Sp
 | 0=>λ_ _ _ _=>False
 | n+1=>λvs H Q _=>∃(b p pl g fd:Addr) (h:Hd) (ws:List Wk) (pi:List Int) (fl:Fl) (kvs:TD),vs=[.ref b,.ref p,.ref pl,.ref g,.ref fd]/\OL n H b p pl g fd h ws pi fl kvs/\
  ∀(u:Addr) (H':Hp) (kvs':TD),eN fd H H'->H' fd=some (.dT kvs')->kvs'.length<=kvs.length+bnd n->Hx H' u (putL (cq n) pi 0 h fl ws)->Q (.ref u) H'
theorem Gw{x:Wk}(h:IK x):LX x:=by
 cases x with
 | one x=>exact h.pos
 | both p q=>intro c hc; cases hc
 | meet c d p q=>intro c hc; cases hc
def Kq(a b:Fl):List Bool:=[a.o||b.o,a.j||b.j,a.f||b.f,a.w||b.w,a.l||b.l]
def Mx(a:Fl):List V:=[.bl a.o,.bl a.j,.bl a.f,.bl a.w,.bl a.l]
theorem LB{a b:Fl}:∀(i:Nat) (x y:V),(Mx a)[i]? = some x->(Mx b)[i]? = some y->∃p q,x=.bl p/\y=.bl q/\(Kq a b)[i]? = some (p||q)
 | 0,x,y,h1,h2=>by cases h1; cases h2; exact⟨_,_,rfl,rfl,rfl⟩
 | 1,x,y,h1,h2=>by cases h1; cases h2; exact⟨_,_,rfl,rfl,rfl⟩
 | 2,x,y,h1,h2=>by cases h1; cases h2; exact⟨_,_,rfl,rfl,rfl⟩
 | 3,x,y,h1,h2=>by cases h1; cases h2; exact⟨_,_,rfl,rfl,rfl⟩
 | 4,x,y,h1,h2=>by cases h1; cases h2; exact⟨_,_,rfl,rfl,rfl⟩
 | n+5,x,y,h1,h2=>by cases h1
theorem Cz{H H':Hp}{L u:Addr}{as:List Addr}{es:List Hd}{h:Hd}(hE:f9 H L as es)(k:aE H H')(hu:dX H' u h)(hL:H' L=some (.lst ((as++[u]).map V.ref))):f9 H' L (as++[u]) (es++[h]):=by
 refine⟨hL,by rw [UJ,UJ,hE.len]; rfl,λi a r e1 e2=>?_⟩
 by_cases hi:i<as.length
 ·rw [U4 hi]at e1
  rw [U4 (by rw [←hE.len]; exact hi)]at e2
  exact k _ _ (hE.at_ i a r e1 e2)
 ·have hi':i=as.length:=by
   have:=(UT.mp e1).1
   rw [UJ]at this
   simp at this
   omega
  rw [hi',U3 (UD _),Nat.sub_self]at e1
  rw [hi',hE.len,U3 (UD _),Nat.sub_self]at e2
  cases e1
  cases e2
  exact hu
theorem Cp{n:Nat}{H:Hp}{a:Addr}{x:Wk}(h:dk (n+1) H a x)(hb:bZ x=true):∃(vs:List V) (b c:Addr) (p q:List Wk),H a=some (.tup (vs++[.ref b,.ref c]))/\dF x=[p,q]/\jo n H b p/\jo n H c q:=by
 cases x with
 | one x=>cases hb
 | both p q=>obtain⟨b,c,bs,cs,h1,h2,h3⟩:=h; exact⟨[.str "both"],b,c,p,q,h1,rfl,⟨bs,h2⟩,⟨cs,h3⟩⟩
 | meet c d p q=>obtain⟨b,e,bs,es,h1,h2,h3⟩:=h; exact⟨[.str "meet",.int c,.int d],b,e,p,q,h1,rfl,⟨bs,h2⟩,⟨es,h3⟩⟩
theorem FP{vs:List V}{u v:V}:i_ (vs++[u,v]) (-2)=some u:=by
 unfold i_ v7
 have hl:(vs++[u,v]).length=vs.length+2:=by simp
 rw [hl,if_neg (by decide)]
 rw [if_pos (by omega)]
 have:((-2:Int)+((vs.length+2:Nat):Int)).toNat=vs.length:=by omega
 first
  | (rw [this]; simp)
  | simp
theorem zb{n:Nat}{pl:List Int}:∀{ws:List Wk} {i:Nat} {h:Hd} {f:Fl} {h':Hd} {f':Fl},h.length<=6->putL (cq n) pl i h f ws=.ok h' f'->h'.length<=6
 | [],_,_,_,_,_,h6,e=>by cases e; exact h6
 | x::ws,i,h,f,h',f',h6,e=>by
  obtain⟨h1,f1,e1,e2⟩:=fk e
  refine zb ?_ e2
  have key:∀es,ik x h f (pl++[(i:Int)]) es=.ok h1 f1->h1.length<=6:=by
   intro es e
   unfold ik at e
   split at e
   ·cases e
   ·next hn=>cases e; exact(ue hn).2
  cases hb:bZ x with
  | false=>rw [iI hb]at e1; exact key _ e1
  | true =>
   cases n with
   | zero=>exact key _ e1
   | succ n =>
    rw [pC hb]at e1
    obtain⟨p,q,hpq⟩:=t_ hb
    rw [hpq]at e1
    obtain⟨_,_,_,e1⟩:=fk e1
    obtain⟨_,_,_,e1⟩:=fk e1
    exact key _ e1
abbrev iJ:Stmt:=top 76
theorem bX:az ["_law_head","_law_pipe_here","_law_place","_law_flags_here","_law_found","_law_number_here","_law_worker_here","_law_here","_law_ends","_law_after","_law_branch","_law_inner","_law_why_here"] ["_law_head","_law_pipe_here","_law_place","_law_flags_here","_law_found"] (ar iJ):=fs
variable{P:Program}{w:World}{K:Ve}{mg:Str->Option Value}{base:Heap}
theorem sN{n L:Nat}(B:jU mg)(B2:iL mg)(B3:Ao mg)(mE:mg "enumerate"=none)(F:FA K mg "_law_put" iJ)
  (j6:bc bf P w K mg base (L+5) "_law_put" ["_law_head","_law_pipe_here","_law_place","_law_flags_here","_law_found"] (tj n))
  (wG:bc bf P w K mg base 4 "_law_why" ["_law_worker_here","_law_head","_law_flags_here","_law_ends"] (Bp n))
  (sf:bc bf P w K mg base 2 "_law_flags" ["_law_worker_here","_law_head","_law_flags_here"] (zj n))
  (fb:bc bf P w K mg base 2 "_law_head_next" ["_law_worker_here","_law_head","_law_ends"] (JD n)) :
  bc bf P w K mg base (L+6) "_law_put" ["_law_head","_law_pipe_here","_law_place","_law_flags_here","_law_found"] (tj (n+1)):=by
 refine F.ok bX λf cdv A outer s H vs Q E hr h=>?_
 have hu:=iW hr
 have hu1:=jW hr
 obtain⟨b,p,pl,g,fd,h,ws,pi,fl,kvs,rfl,hG,q⟩:=h
 refine⟨_,(aq (gH PassesOwn.never rfl (pe rfl mE (ae (pv 1) ah)) (cC rfl (aD (bT (i:=5) bX.nd rfl (Or.inl rfl)) (aD (bT (i:=6) bX.nd rfl (Or.inl rfl)) bS)))
    (aq (aL (i:=7) bX.nd rfl (Or.inl rfl) (aF b9 (pv 2) (aJ (ae (pv 5) ah))))
     (aq (yG hu1 (pv 4) (pv 7) (aA K (pv 3) ai) rfl)
     (aq (aL (i:=8) bX.nd rfl (Or.inl rfl) (aQ ah))
     (aq (aL (i:=9) bX.nd rfl (Or.inl rfl) (pv 3))
     (aq (gH PassesOwn.never rfl (dm rfl B.range (ae (aF lP ai (aV cA rfl B2.int PyProof.Rows.boot_int (ae (fF cn (aA K (pv 6) ai) (aQ (ae ao (ae ao ah))) rfl) ah))) ah)) (bT (i:=10) bX.nd rfl (Or.inl rfl))
      (aq (aL (i:=11) bX.nd rfl (Or.inl rfl) (ay j6 hr (ae (pv 0) (ae (aA K (pv 6) (aF bJ (pv 10) ai)) (ae (aF b9 (pv 7) (aJ (ae (pv 10) ah))) (ae (pv 3) (ae (pv 4) ah)))))))
       (aN (aW aP (aA K (pv 11) ai) ao) (pv 11)
       (aq (fK (kW PySem.F.plainAttrs_list PySem.F.slot_list_append PySem.F.type_list_append cX (pv 8) (ae (aA K (pv 11) ai) ah)))
       (bK (aL (i:=9) bX.nd rfl (Or.inl rfl) (aV bA rfl B.tuple PyProof.Rows.boot_tuple (ae (bw (N':=["_law_one","_law_other_here"]) (src:=[none,none]) rfl (ba.jK (by kernel_rfl)) (F0 rfl B3.zip (ae (pv 9) (ae (aA K (pv 11) ai) ah))) (g:=(iO K 2 (bO (bz 0) (bO (bz 1) iX)))) (λcl C s H fp=>(cC rfl (aD (eA (i:=0)) (aD (eA (i:=1)) bS)))) (λcl C s H fp=>aX) (te:=(uJ (bx 0) (bx 1))) (λcl C s H fp=>(fQ (i3 0) (cZ (i3 1))))) ah))))))))
     (aq (aL (i:=12) bX.nd rfl (Or.inl rfl) (ay wG hr (ae (pv 6) (ae (pv 0) (ae (pv 3) (ae (pv 8) ah))))))
     (aN (aW mn (pv 12) ao) (aJ (ae ao (ae (pv 7) (ae (pv 12) ah))))
     (aq (aL (i:=3) bX.nd rfl (Or.inl rfl) (ay sf hr (ae (pv 6) (ae (pv 0) (ae (pv 9) ah)))))
     (bK (aL (i:=0) bX.nd rfl (Or.inl rfl) (ay fb hr (ae (pv 6) (ae (pv 0) (ae (pv 8) ah)))))))))))))))
   (aq (yG hu1 (pv 4) (aF b9 (pv 2) (aJ (ae (a_ bF rfl B.len PySem.boot_len (ae (pv 1) ah)) ah))) (aA K (pv 3) ai) rfl)
   (ax (aJ (ae ao (ae (pv 0) (ae (pv 3) ah))))))),?_⟩
 obtain⟨hb,⟨bs,hI⟩,hpl,hfg,hfd,hok,hdr,Il,hpz,hkz⟩:=hG
 have hlb:(bs.map V.ref).length=ws.length:=by rw [UI,hI.len]
 have hcw:=DP n
 have hw9:=hok.len
 have hbn:bnd n=9*cW n+1:=rfl
 refine⟨_,rfl,p,rfl,⟨_,aH.of hI.tup⟩,?_⟩
 refine l6 (xs:=bs.map V.ref) (λi σ H'=>∃(bi gi:Addr) (hh:Hd) (fi:Fl) (kv:TD),(∃o5 o6 o7 o8 o9 p_ qa Em,σ=[some (.ref bi),some (.ref p),some (.ref pl),some (.ref gi),some (.ref fd),o5,o6,o7,o8,o9,p_,qa,Em])/\dX H' bi hh/\rY H' gi fi/\hh.length<=6/\eN fd H H'/\H' fd=some (.dT kv)/\kv.length<=kvs.length+i*cW n/\putL (cq n) pi 0 h fl ws=putL (cq n) pi i hh fi (ws.drop i))
  ⟨b,g,h,fl,kvs,⟨_,_,_,_,_,_,_,_,rfl⟩,hb,hfg,Il,eN.of (aM.refl _),hfd,Nat.le_add_right _ _,rfl⟩ ?_ ?_ ?_
 ·rintro i σ H' _ ⟨bi,gi,hh,fi,kv,_,_,_,_,gr,_⟩
  exact aH.of (gr.rA hfd _ _ hI.tup)
 ·rintro i v σ H' T hx ⟨bi,gi,hh,fi,kv,⟨o5,o6,o7,o8,o9,p_,qa,Em,rfl⟩,hbi,hgi,h6,gr,zl,Mm,hrun⟩ hT
  obtain⟨a,x,rfl,ex,ha⟩:=hI.get hx
  have NI:i<9:=by have:=(UT.mp ex).1; omega
  have hic:i*cW n+cW n<=9*cW n:=by have:=Nat.mul_le_mul_right (cW n) NI; rw [Nat.succ_mul]at this; exact this
  have K7:=hok.ok (UP ex)
  have NW:=hdr.ok (UP ex)
  rw [nA ex]at hrun
  have hrun:putL (cq n) pi 0 h fl ws=c7 (cq n hh fi (pi++[(i:Int)]) x) λh' f'=>putL (cq n) pi (i+1) h' f' (ws.drop (i+1)):=hrun
  have sT:=aj hT (.tup [.int (i:Nat),.ref a])
  refine⟨T,_,rfl,aH.of ag,rfl,_,_,rfl,ak ⟨_,_,rfl,ak ⟨rfl,?_⟩⟩⟩
  dsimp only
  refine⟨_,rfl,_,rfl,dP,λu1 jS=>?_⟩
  have sU:=aj jS (.tup [.int (i:Nat)])
  refine⟨pl,u1,_,_,rfl,rfl,sU _ _ (sT _ _ (gr.rA hfd _ _ hpl)),ag,by rw [UI]; exact UE (show _+1<=1000 by omega) (by decide),λu2 H2 Jv hu2=>ak ?_⟩
  rw [DE]at hu2
  have s2:=sT.trans (sU.trans Jv)
  dsimp only
  refine⟨_,rfl,gi,_,4,_,rfl,rfl,aH.of (s2 _ _ hgi),rfl,_,rfl,_,rfl,fd,_,rfl,Am.t (k:=kI (pi++[(i:Int)])) (s2 _ _ zl) (by rw [MF]; exact hu2) (UL (show kv.length<=100000 by omega) (by decide)),?_⟩
  have Iu:(putK kv (kI (pi++[(i:Int)])) (.bl fi.l)).length<=kv.length+1:=vO
  revert Iu
  generalize putK kv (kI (pi++[(i:Int)])) (.bl fi.l)=zJ
  intro Iu
  have g4:eN fd H' (upd H2 fd (.dT zJ)):=(eN.of s2).put
  have uo:upd H2 fd (.dT zJ) fd=some (.dT zJ):=ag
  have x6:upd H2 fd (.dT zJ) u2=some (.tup ((pi++[(i:Int)]).map V.int)):=by
   rw [aI (λz=>by have:=s2 _ _ zl; rw [←z,hu2]at this; cases this)]
   exact hu2
  revert g4 uo x6
  generalize upd H2 fd (.dT zJ)=H4
  intro g4 uo x6
  have BY:aE H' H4:=g4.rA zl
  have IA:aE H H4:=(gr.rA hfd).trans BY
  refine⟨U1 _,λLe hL=>ak ?_⟩
  have KN:Le≠fd:=λz=>by rw [z,uo]at hL; cases hL
  dsimp only
  refine⟨_,rfl,ak ?_⟩
  dsimp only
  refine ly (λσ H6=>∃(as:List Addr) (es:List Hd) (af:Addr) (fa:Fl) (zp:TD),(∃p_ qa Em,σ=[some (.ref bi),some (.ref p),some (.ref pl),some (.ref gi),some (.ref fd),some (.int (i:Nat)),some (.ref a),some (.ref u2),some (.ref Le),some (.ref af),p_,qa,Em])/\f9 H6 Le as es/\(bZ x=true->es.length=2)/\(∀e∈es,e.length<=6)/\rY H6 af fa/\aE H4 H6/\eN fd H4 H6/\H6 fd=some (.dT zp)/\zp.length<=kv.length+cW n/\putL (cq n) pi 0 h fl ws=c7 (lK x hh fi (pi++[(i:Int)]) es fa) λh' f'=>putL (cq n) pi (i+1) h' f' (ws.drop (i+1))) (λT2 hT2=>?_) ?_
  ·have sL:=aj hL (.lst [])
   have haL:=ha.keep (IA.trans (aE.of sL))
   obtain⟨xs,hxs⟩:=haL.first
   refine⟨_,rfl,a,_,0,_,rfl,rfl,aH.of hxs,av (j:=0) rfl,cJ,λR hR=>⟨R,_,rfl,.inl (aZ.of ag),rfl,rfl,.inr ⟨_,rfl,?_⟩⟩⟩
   show rI FZ _ (.int 2) (.int (if inV (.str x.nm) Dm=true then 1 else 0)) _ _
   rw [y3]
   have sR:=aj hR (.lst [V.str "both",.str "meet"])
   have s5:=sL.trans sR
   have PR:f9 (upd (upd H4 Le (.lst [])) R (.lst [V.str "both",.str "meet"])) Le [] []:=⟨sR _ _ ag,rfl,λi a r e=>by cases e⟩
   revert s5 PR
   generalize upd (upd H4 Le (.lst [])) R (.lst [V.str "both",.str "meet"])=H5
   intro s5 PR
   have hm:∃m:Int,(2:Int)*(if bZ x=true then 1 else 0)=m/\0<=m/\m<=2/\(bZ x=false->m=0)/\(bZ x=true->m=2):=by
    cases bZ x
    ·exact⟨0,rfl,by decide,by decide,λ_=>rfl,λz=>by cases z⟩
    ·exact⟨2,rfl,by decide,by decide,λz=>(by cases z),λ_=>rfl⟩
   obtain⟨mm,em,m0,m2,mf,mt⟩:=hm
   refine⟨2,_,rfl,rfl,.inl ⟨by decide,by decide⟩,_,rfl,?_⟩
   rw [em]
   refine⟨(jQ m0 (by omega)).1,(jQ m0 (by omega)).2,?_⟩
   refine fL (n:=mm.toNat) (λj σ H6=>∃(as:List Addr) (es:List Hd) (af:Addr) (fa:Fl) (zp:TD),(∃p_ qa Em,σ=[some (.ref bi),some (.ref p),some (.ref pl),some (.ref gi),some (.ref fd),some (.int (i:Nat)),some (.ref a),some (.ref u2),some (.ref Le),some (.ref af),p_,qa,Em])/\f9 H6 Le as es/\es.length=j/\(∀e∈es,e.length<=6)/\rY H6 af fa/\aE H4 H6/\eN fd H4 H6/\H6 fd=some (.dT zp)/\(∀m,n=m+1->zp.length<=kv.length+1+j*bnd m)/\(j=0->zp.length<=kv.length+1/\es=[]/\fa=fi)/\(∀m,n=m+1->bZ x=true->putL (cq n) pi 0 h fl ws=c7 (uV (cq m) x hh fi (pi++[(i:Int)]) ((dF x).drop j) j es fa) λh' f'=>putL (cq n) pi (i+1) h' f' (ws.drop (i+1))))
    ⟨[],[],gi,fi,zJ,⟨_,_,_,rfl⟩,PR,rfl,λe he=>(by cases he),s5 _ _ (BY _ _ hgi),aE.of s5,eN.of s5,s5 _ _ uo,λm _=>(by rw [Nat.zero_mul]; exact Iu),λ_=>⟨Iu,rfl,rfl⟩,λm e hb'=>(by subst e; rw [hrun,EK hb']; rfl)⟩ ?_ ?_
   ·rintro j σ H6 hj ⟨as,es,af,fa,zp,⟨p_,qa,Em,rfl⟩,JR,hel,hez,hfa,rE,g6,xT,MB,_,dW⟩
    have hbr:bZ x=true:=by
     cases hq:bZ x with
     | true=>rfl
     | false=>rw [mf hq]at hj; exact absurd hj (Nat.not_lt_zero _)
    have hj2:j<2:=by rw [mt hbr]at hj; exact hj
    obtain⟨m,rfl⟩ :∃m,n=m+1:=by
     cases n with
     | zero=>rw [JS ha]at hbr; cases hbr
     | succ m=>exact⟨m,rfl⟩
    have MB:=MB m rfl
    have hcs:=nu m
    have RY:j*bnd m+bnd m<=2*bnd m:=by have:=Nat.mul_le_mul_right (bnd m) hj2; rw [Nat.succ_mul]at this; exact this
    have dW:=dW m rfl hbr
    obtain⟨vs,c0,c1,p0,q0,hav,hpq,TZ,Rz⟩:=Cp ha hbr
    have RL:∃(cj:Addr) (pj:List Wk),i_ (vs++[.ref c0,.ref c1]) ((j:Int)-2)=some (.ref cj)/\jo m H cj pj/\(dF x)[j]? = some pj:=by
     rw [hpq]
     match j,hj2 with
     | 0,_=>exact⟨c0,p0,FP,TZ,rfl⟩
     | 1,_ =>
      refine⟨c1,q0,?_,Rz,rfl⟩
      have:=oX (vs++[V.ref c0]) (V.ref c1)
      rw [List.append_assoc]at this
      exact this
    obtain⟨cj,pj,hat,SQ,Ou⟩:=RL
    rw [nA Ou]at dW
    have PJ:aE H H6:=IA.trans rE
    refine ak ?_
    dsimp only
    refine⟨_,rfl,_,rfl,_,rfl,_,_,rfl,rfl,a,_,_,_,rfl,rfl,aH.of (PJ _ _ hav),(by rw [Int.zero_add]; exact hat),_,rfl,_,rfl,dP,λu7 Px=>?_⟩
    have sB:=aj Px (.tup [.int (0+(j:Int))])
    refine⟨u2,u7,_,_,rfl,rfl,sB _ _ (rE _ _ x6),ag,by rw [UI,UJ]; exact UE (show _+1+1<=1000 by omega) (by decide),λu8 H8 s8 iW=>?_⟩
    rw [Int.zero_add,DE]at iW
    have qo:=sB.trans s8
    have Kr:=rE.trans (aE.of qo)
    have Po:=IA.trans Kr
    have g8:eN fd H H8:=(gr.trans g4).trans (g6.trans (eN.of qo))
    refine⟨_,rfl,_,rfl,bi,cj,u8,gi,fd,hh,pj,(pi++[(i:Int)])++[(j:Int)],fi,zp,rfl,⟨Kr _ _ (BY _ _ hbi),SQ.keep Po,iW,Kr _ _ (BY _ _ hgi),qo _ _ xT,(hok.2 x (UP ex)).2 pj (UP Ou),(hdr x (UP ex)).2 pj (UP Ou),h6,by rw [UJ,UJ]; show _+1+1+_<=_; omega,by omega⟩,λu9 H9 O8 g9 Mi hk9 Hg=>ak ?_⟩
    dsimp only
    have NQ:aE H8 H9:=g9.rA (qo _ _ xT)
    cases er:putL (cq m) ((pi++[(i:Int)])++[(j:Int)]) 0 hh fi pj with
    | no a' s' =>
     rw [er]at Hg
     have htot:putL (cq (m+1)) pi 0 h fl ws=.no a' s':=by
      rw [dW]
      show c7 (c7 (putL (cq m) ((pi++[(i:Int)])++[(j:Int)]) 0 hh fi pj) _) _=_
      rw [er]
      rfl
     obtain⟨aa,hr1,hr2⟩:=Hg
     refine⟨_,rfl,u9,_,0,_,rfl,rfl,aH.of hr1,av (j:=0) rfl,rfl,_,rfl,bY ⟨_,rfl,q u9 H9 O8 (g8.trans g9) Mi (by omega) ?_⟩⟩
     rw [htot]
     exact⟨aa,hr1,hr2⟩
    | ok h' f' =>
     rw [er]at Hg
     obtain⟨aa,ab,hr1,hr2,Qv⟩:=Hg
     refine⟨_,rfl,u9,_,0,_,rfl,rfl,aH.of hr1,av (j:=0) rfl,rfl,_,rfl,?_⟩
     rw [bL,UG (by decide +kernel)]
     refine bB (aG ?_)
     dsimp only
     have hL9:H9 Le=some (.lst (as.map V.ref)):=g9 _ _ KN (qo _ _ JR.lst)
     refine⟨_,rfl,.inl ⟨rfl,_,aZ.of hL9⟩,_,rfl,u9,_,1,_,rfl,rfl,aH.of hr1,rfl,Le,_,_,rfl,rfl,hL9,by rw [UI,JR.len,hel]; exact Nat.lt_trans hj2 (by decide),?_⟩
     have kX:aE H9 (upd H9 Le (.lst (as.map V.ref++[.ref aa]))):=aE.refl.vA hL9
     have PF:upd H9 Le (.lst (as.map V.ref++[.ref aa])) Le=some (.lst ((as++[aa]).map V.ref)):=by rw [ag,UK]; rfl
     have OB:upd H9 Le (.lst (as.map V.ref++[.ref aa])) fd=some (.dT O8):=by rw [aI (Ne.symm KN)]; exact Mi
     have gX:eN fd H4 (upd H9 Le (.lst (as.map V.ref++[.ref aa]))):=eN.new hL ((g6.trans (eN.of qo)).trans g9)
     revert kX PF OB gX
     generalize upd H9 Le (.lst (as.map V.ref++[.ref aa]))=HX
     intro kX PF OB gX
     have Nb:aE H6 HX:=((aE.of qo).trans NQ).trans kX
     refine⟨_,rfl,_,rfl,u9,_,2,_,rfl,rfl,aH.of (kX _ _ hr1),rfl,af,ab,rfl,⟨_,aH.of (Nb _ _ hfa)⟩,⟨_,aH.of (kX _ _ Qv)⟩,λDl hD=>?_⟩
     refine zF (xs:=Mx fa) (ys:=Mx f') (λi σ zs H'=>(∃o1 o2,σ=[o1,o2])/\zs=((Kq fa f').take i).map V.bl/\zs.length=i/\H' Dl=some (.lst zs)/\aM HX H') ⟨⟨none,none,rfl⟩,rfl,rfl,ag,aj hD _⟩ ?_ ?_ rfl sF ?_ ?_
     ·rintro i σ zs H' _ ⟨_,_,hi,hz,_⟩
      exact⟨hz,Nat.le_of_eq hi⟩
     ·rintro i σ zs H' _ ⟨_,_,_,_,sm⟩
      exact⟨aH.of (sm _ _ (Nb _ _ hfa)),aH.of (sm _ _ (kX _ _ Qv))⟩
     ·rintro i x y σ zs H' T3 RE Ro ⟨⟨o1,o2,rfl⟩,rfl,hi,hz,sm⟩ Kx
      obtain⟨pb,qb,rfl,rfl,eo⟩:=LB i x y RE Ro
      have tz:=aj Kx (.tup [.bl pb,.bl qb])
      refine⟨T3,_,rfl,aH.of ag,rfl,_,_,rfl,ak ⟨_,_,rfl,ak ⟨rfl,?_⟩⟩⟩
      have Ls:∀w:Bool,w=(pb||qb)->upd H' T3 (.tup [.bl pb,.bl qb]) Dl=some (.lst (((Kq fa f').take i).map V.bl))/\((Kq fa f').take i).map V.bl++[V.bl w]=((Kq fa f').take (i+1)).map V.bl/\(((Kq fa f').take i).map V.bl++[V.bl w]).length=i+1:=by
       rintro w rfl
       refine⟨tz _ _ hz,?_,by rw [UJ,hi]; rfl⟩
       rw [take_one eo,UK]; rfl
      refine⟨_,rfl,_,rfl,cG (λz=>?_) (λz=>?_)⟩
      ·obtain⟨f1,f2,f3⟩:=Ls true (by rw [z]; rfl)
       exact⟨f1,⟨_,_,rfl⟩,f2,f3,ag,bq hD (sm.trans tz)⟩
      ·obtain⟨f1,f2,f3⟩:=Ls qb (by rw [UY.mpr z]; rfl)
       exact⟨_,rfl,f1,⟨_,_,rfl⟩,f2,f3,ag,bq hD (sm.trans tz)⟩
     ·rintro σ zs H' ⟨_,rfl,_,hz,sm⟩
      refine⟨Dl,_,rfl,.inl ⟨aZ.of hz,λRP O4=>ak ?_⟩⟩
      have tU:=aj O4 (.tup (((Kq fa f').take (Mx fa).length).map V.bl))
      have sX:=sm.trans tU
      refine⟨as++[aa],es++[h'],RP,Gr fa f',O8,⟨_,_,_,rfl⟩,Cz JR (Nb.trans (aE.of sX)) (sX _ _ (kX _ _ hr2)) (sX _ _ PF),by rw [UJ,hel]; rfl,λe he=>?_,ag,(rE.trans Nb).trans (aE.of sX),gX.trans (eN.of sX),sX _ _ OB,λm' e=>?_,λz=>(by cases z),λm' e _=>?_⟩
      ·rcases UZ.mp he with z | z
       ·exact hez e z
       ·rw [UU.mp z]
        exact zb h6 er
      ·cases e
       rw [Nat.succ_mul]
       omega
      ·cases e
       rw [dW]
       show c7 (c7 (putL (cq m) ((pi++[(i:Int)])++[(j:Int)]) 0 hh fi pj) _) _=_
       rw [er]
       rfl
   ·rintro σ H6 ⟨as,es,af,fa,zp,⟨p_,qa,Em,rfl⟩,JR,hel,hez,hfa,rE,g6,xT,MB,hz0,dW⟩
    refine hT2 _ _ ⟨as,es,af,fa,zp,⟨_,_,_,rfl⟩,JR,λhb'=>(by rw [hel,mt hb']; rfl),hez,hfa,rE,g6,xT,?_,?_⟩
    ·cases hq:bZ x with
     | false=>have:=(hz0 (by rw [mf hq]; rfl)).1; omega
     | true =>
      obtain⟨m,rfl⟩ :∃m,n=m+1:=by
       cases n with
       | zero=>rw [JS ha]at hq; cases hq
       | succ m=>exact⟨m,rfl⟩
      have:=MB m rfl
      rw [mt hq]at this
      rw [nu]
      have e2:(2:Int).toNat=2:=rfl
      rw [e2]at this
      omega
    ·cases hq:bZ x with
     | false =>
      obtain⟨_,z1,z2⟩:=hz0 (by rw [mf hq]; rfl)
      rw [hrun,DN hq,z1,z2]
     | true =>
      obtain⟨m,rfl⟩ :∃m,n=m+1:=by
       cases n with
       | zero=>rw [JS ha]at hq; cases hq
       | succ m=>exact⟨m,rfl⟩
      have:=dW m rfl hq
      rw [mt hq,show(2:Int).toNat=(dF x).length from(lX hq).1.symm,List.drop_length]at this
      exact this
  rintro σ H6 ⟨as,es,af,fa,zp,⟨p_,qa,Em,rfl⟩,JR,he2,hez,hfa,rE,g6,xT,MB,dW⟩
  have PJ:aE H H6:=IA.trans rE
  have Qk:dX H6 bi hh:=rE _ _ (BY _ _ hbi)
  have Rh:rY H6 gi fi:=rE _ _ (BY _ _ hgi)
  have hLw:vz n H6 a bi Le x hh as es:=⟨ha.keep PJ,Qk,JR,he2,K7.sm,Gw NW.1,NW.2,NW.1⟩
  have K9:∀e∈es,e.length<=1000:=λe he=>UE (hez e he) (by decide)
  refine⟨_,rfl,_,rfl,_,rfl,_,rfl,a,bi,gi,Le,x,hh,fi,as,es,rfl,hLw,Rh,K7.wide,UE h6 (by decide),K9,λH7 s7=>ak ?_⟩
  have Qx:eN fd H H7:=((gr.trans g4).trans g6).trans (eN.of s7)
  dsimp only
  refine⟨_,rfl,rfl,_,rfl,?_⟩
  rw [bL]
  cases ew:i7 x fi (kL x hh es)with
  | some s' =>
   have hfin:lK x hh fi (pi++[(i:Int)]) es fa=.no (pi++[(i:Int)]) s':=by unfold lK; rw [ew]
   have hne:Fy (some s')≠"":=by
    unfold i7 at ew
    intro z
    have z:s'="":=z
    subst z
    repeat' split at ew
    all_goals first | (cases ew; done) | (have:=U2 ew; exact absurd this (by decide +kernel))
   rw [UG hne]
   refine bY ⟨_,rfl,_,rfl,gv,λu hu'=>?_⟩
   have t8:=aj hu' (.tup [.str "no",.ref u2,.str (Fy (some s'))])
   refine q u _ zp (Qx.trans (eN.of t8)) (t8 _ _ (s7 _ _ xT)) (by omega) ?_
   rw [dW,hfin]
   exact⟨u2,ag,t8 _ _ (s7 _ _ (rE _ _ x6))⟩
  | none =>
   obtain⟨hfit,S6⟩:=ue ew
   have hfin:lK x hh fi (pi++[(i:Int)]) es fa=.ok (bE x (kL x hh es)) (jD x hh fa):=by unfold lK; rw [ew]
   rw [UH (show Fy none="" from rfl)]
   refine bB (aG ?_)
   dsimp only
   have Lx:bg x (kL x hh es)=true:=by
    unfold i7 at ew
    rw [if_pos hfit]at ew
    by_cases z:bg x (kL x hh es)=true
    ·exact z
    ·rw [if_neg z]at ew; cases ew
   have hkeep:keepIn x hh:=by
    rintro c t rfl
    exact cH hfit (by simp [c8])
   refine⟨_,rfl,_,rfl,_,rfl,a,bi,af,x,hh,fa,rfl,hLw.wk.keep (aE.of s7),s7 _ _ Qk,s7 _ _ hfa,hkeep,λu8 H8 s8 iW=>ak ?_⟩
   dsimp only
   have Nc:=s7.trans s8
   refine⟨_,rfl,_,rfl,_,rfl,a,bi,Le,x,hh,as,es,rfl,hLw.same Nc,⟨hfit,Lx,UE h6 (by decide),K9⟩,λu9 H9 s9 NN=>ak ?_⟩
   refine⟨u9,u8,bE x (kL x hh es),jD x hh fa,zp,⟨_,_,_,_,_,_,_,_,rfl⟩,NN,s9 _ _ iW,S6,(Qx.trans (eN.of s8)).trans (eN.of s9),s9 _ _ (Nc _ _ xT),?_,?_⟩
   ·rw [Nat.succ_mul]; omega
   ·rw [dW,hfin]; rfl
 ·rintro σ H' ⟨bi,gi,hh,fi,kv,⟨o5,o6,o7,o8,o9,p_,qa,Em,rfl⟩,hbi,hgi,h6,gr,zl,Mm,hrun⟩
  rw [hlb]at Mm hrun
  rw [List.drop_length]at hrun
  have T_:=Nat.mul_le_mul_right (cW n) hw9
  have k0:=gr.rA hfd
  dsimp only
  refine⟨_,rfl,gi,_,4,_,rfl,rfl,aH.of hgi,rfl,_,rfl,_,rfl,_,rfl,p,_,rfl,.inr (aH.of (k0 _ _ hI.tup)),dP,λu1 jS=>?_⟩
  have sU:=aj jS (.tup [.int ((bs.map V.ref).length:Nat)])
  refine⟨pl,u1,_,_,rfl,rfl,sU _ _ (k0 _ _ hpl),ag,by rw [UI]; exact UE (show _+1<=1000 by omega) (by decide),λu2 H2 Jv hu2=>?_⟩
  rw [DE]at hu2
  have s2:=sU.trans Jv
  refine⟨fd,_,rfl,Am.t (k:=kI (pi++[((bs.map V.ref).length:Int)])) (s2 _ _ zl) (by rw [MF]; exact hu2) (UL (show kv.length<=100000 by omega) (by decide)),?_⟩
  have Iu:(putK kv (kI (pi++[((bs.map V.ref).length:Int)])) (.bl fi.l)).length<=kv.length+1:=vO
  revert Iu
  generalize putK kv (kI (pi++[((bs.map V.ref).length:Int)])) (.bl fi.l)=zJ
  intro Iu
  have kU:aE H' (upd H2 fd (.dT zJ)):=(aE.of s2).Oq (s2 _ _ zl)
  have uo:upd H2 fd (.dT zJ) fd=some (.dT zJ):=ag
  have gU:eN fd H (upd H2 fd (.dT zJ)):=(gr.trans (eN.of s2)).put
  revert kU uo gU
  generalize upd H2 fd (.dT zJ)=H3
  intro kU uo gU
  refine⟨_,rfl,_,rfl,gv,λu hu'=>?_⟩
  have t:=aj hu' (.tup [.str "head",.ref bi,.ref gi])
  refine q u _ zJ (gU.trans (eN.of t)) (t _ _ uo) (by omega) ?_
  rw [hrun]
  exact⟨bi,gi,ag,t _ _ (kU _ _ hbi),t _ _ (kU _ _ hgi)⟩
structure zu(n:Nat)(H:Hp)(b p:Addr)(h:Hd)(ws:List Wk):Prop where
 hd:dX H b h
 pp:jo n H p ws
 ok:uh n ws
 dr:tF n ws
 six:h.length<=6
def yO(n:Nat):Sp:=λvs H Q _=>∃(b p:Addr) (h:Hd) (ws:List Wk),vs=[.ref b,.ref p]/\zu n H b p h ws/\2*n<=100/\bnd n<=100000/\∀(u:Addr) (H':Hp),aM H H'->Hx H' u (j9 n h ws)->Q (.ref u) H'
abbrev gJ:Stmt:=top 77
theorem nG:az ["_law_head","_law_pipe_here"] ["_law_head","_law_pipe_here"] (ar gJ):=fs
theorem AJ{n L:Nat}(F:FA K mg "_law_judged" gJ)
  (j6:bc bf P w K mg base (L+6) "_law_put" ["_law_head","_law_pipe_here","_law_place","_law_flags_here","_law_found"] (tj (n+1))) :
  bc bf P w K mg base (L+7) "_law_judged" ["_law_head","_law_pipe_here"] (yO n):=by
 refine F.ok nG λf cdv A outer s H vs Q E hr h=>?_
 have hu:=iW hr
 have hu1:=jW hr
 obtain⟨b,p,h,ws,rfl,hI,hn2,hbn,q⟩:=h
 refine⟨_,(ax (ay j6 hr (ae (pv 0) (ae (pv 1) (ae (aJ ah) (ae (aJ (ae fY (ae fY (ae fY (ae fY (ae fY ah)))))) (ae BN ah))))))),?_⟩
 refine⟨_,rfl,_,rfl,wt,λu1 jS=>?_⟩
 have s1:=aj jS (.tup [])
 refine⟨sF,λu2 hu2=>?_⟩
 have s2:=aj hu2 (.tup [.bl false,.bl false,.bl false,.bl false,.bl false])
 have e1:=s2 _ _ (ag (H:=H) (a:=u1) (o:=.tup []))
 have e2:upd (upd H u1 (.tup [])) u2 (.tup [.bl false,.bl false,.bl false,.bl false,.bl false]) u2=_:=ag
 have s12:=s1.trans s2
 revert s12 e1 e2
 generalize upd (upd H u1 (.tup [])) u2 (.tup [.bl false,.bl false,.bl false,.bl false,.bl false])=H2
 intro e1 e2 s12
 refine λD hD=>?_
 have s3:=aj hD (.dT [])
 have qe:=s12.trans s3
 have k13:=aE.of qe
 refine⟨b,p,u1,u2,D,h,ws,[],f0,[],rfl,⟨qe _ _ hI.hd,hI.pp.keep k13,s3 _ _ e1,s3 _ _ e2,ag,hI.ok,hI.dr,hI.six,by simpa using hn2,by simpa using hbn⟩,λu H' Uk g' hf' hk' hR=>?_⟩
 exact q u H' (kr (s12.free hD) qe g') hR
def CN(n:Nat)(h:Hd)(ws:List Wk):Hd:=match j9 n h ws with
 | .ok h' _=>h'
 | .no _ _=>h
def GJ(n:Nat):Sp:=λvs H Q _=>∃(b p:Addr) (h:Hd) (ws:List Wk),vs=[.ref b,.ref p]/\zu n H b p h ws/\2*n<=100/\bnd n<=100000/\∀(u:Addr) (H':Hp),aM H H'->dX H' u (CN n h ws)->Q (.ref u) H'
abbrev kq:Stmt:=top 78
theorem my:az ["_law_head","_law_pipe_here","_law_tale"] ["_law_head","_law_pipe_here"] (ar kq):=fs
theorem HW{n L:Nat}(F:FA K mg "_law_end" kq)
  (dR:bc bf P w K mg base (L+7) "_law_judged" ["_law_head","_law_pipe_here"] (yO n)) :
  bc bf P w K mg base (L+8) "_law_end" ["_law_head","_law_pipe_here"] (GJ n):=by
 refine F.ok my λf cdv A outer s H vs Q E hr h=>?_
 obtain⟨b,p,h,ws,rfl,hI,hn2,hbn,q⟩:=h
 refine⟨_,(aq (aL (i:=2) my.nd rfl (Or.inl rfl) (ay dR hr (ae (pv 0) (ae (pv 1) ah))))
   (ax (eM (aW aP (aA K (pv 2) ai) ao) (aA K (pv 2) ai) (pv 0)))),?_⟩
 refine⟨_,rfl,_,rfl,b,p,h,ws,rfl,hI,hn2,hbn,λu H' s' hR=>ak ?_⟩
 dsimp only
 unfold CN at q
 cases er:j9 n h ws with
 | ok h' f' =>
  rw [er]at hR q
  obtain⟨a1,a2,h1,h2,h3⟩:=hR
  refine⟨_,rfl,u,_,0,_,rfl,rfl,aH.of h1,av (j:=0) rfl,rfl,_,rfl,?_⟩
  rw [bL,UH rfl]
  exact bY ⟨_,rfl,u,_,1,_,rfl,rfl,aH.of h1,rfl,q a1 H' s' h2⟩
 | no a1 s1 =>
  rw [er]at hR q
  obtain⟨a1,h1,h2⟩:=hR
  refine⟨_,rfl,u,_,0,_,rfl,rfl,aH.of h1,av (j:=0) rfl,rfl,_,rfl,?_⟩
  rw [bL,UG (by decide +kernel)]
  exact bB ⟨_,rfl,q b H' s' (s' _ _ hI.hd)⟩
def QY:Wk->Prop
 | .one x=>ne1 x
 | _=>True
theorem E6{x:Wk}{hs:List Hd}(hx:QY x)(h:hs.headD []≠[]):bE x hs≠[]:=by
 match x with
 | .one (.cut cs)=>intro z; exact hx (List.map_eq_nil_iff.mp z)
 | .one (.must c ps) =>
  intro z
  have z:((hs.headD []).take (c-1).toNat++(ps.take 1).map (λp=>sW p.2))++(hs.headD []).drop c.toNat=[]:=z
  have z1:=(List.append_eq_nil_iff.mp (List.append_eq_nil_iff.mp z).1).2
  have hp:ps≠[]:=hx.1
  cases ps with
  | nil=>exact hp rfl
  | cons p ps=>cases z1
 | .one (.walk ..)=>intro z; exact absurd (List.append_eq_nil_iff.mp z).2 (by simp)
 | .one (.count ..)=>intro z; exact absurd (List.append_eq_nil_iff.mp z).2 (by simp)
 | .one (.sum ..)=>intro z; exact absurd (List.append_eq_nil_iff.mp z).2 (by simp)
 | .one .number=>intro z; exact absurd (List.append_eq_nil_iff.mp z).2 (by simp)
 | .meet ..=>intro z; exact h (List.append_eq_nil_iff.mp (List.append_eq_nil_iff.mp z).1).1
 | .one (.keep ..)=>exact h
 | .one (.same ..)=>exact h
 | .one (.turn ..)=>exact h
 | .one (.sort ..)=>exact h
 | .one .apart=>exact h
 | .one (.first ..)=>exact h
 | .both ..=>exact h
theorem JP{x:Wk}(h:IK x):QY x:=by
 cases x with
 | one x=>exact D7.ne h
 | both p q=>trivial
 | meet c d p q=>trivial
theorem IM:∀{n:Nat} {pl:List Int} {ws:List Wk} {i:Nat} {h:Hd} {f:Fl} {h':Hd} {f':Fl},tF n ws->h≠[]->putL (cq n) pl i h f ws=.ok h' f'->h'≠[]
 | n,pl,[],i,h,f,h',f',_,hn,e=>by cases e; exact hn
 | n,pl,x::ws,i,h,f,h',f',hd,hn,e=>by
  obtain⟨h1,f1,e1,e2⟩:=fk e
  have hx:=JP (hd.ok (x:=x) (by simp)).1
  have hws:tF n ws:=by
   cases n with
   | zero=>exact λy hy=>hd y (by simp [hy])
   | succ n=>exact λy hy=>hd y (by simp [hy])
  refine IM hws ?_ e2
  have key:∀es:List (Hd×Fl),(es.map λe=>e.1).headD []≠[]->ik x h f (pl++[(i:Int)]) es=.ok h1 f1->h1≠[]:=by
   intro es hes e
   unfold ik at e
   split at e
   ·cases e
   ·cases e; exact E6 hx hes
  cases hb:bZ x with
  | false=>rw [iI hb]at e1; exact key [(h,f)] hn e1
  | true =>
   cases n with
   | zero=>exact key [(h,f)] hn e1
   | succ n =>
    rw [pC hb]at e1
    obtain⟨p,q,hpq⟩:=t_ hb
    have hp:tF n p:=(hd x (by simp)).2 p (by rw [hpq]; simp)
    rw [hpq]at e1
    obtain⟨h2,f2,e3,e1⟩:=fk e1
    obtain⟨_,_,_,e1⟩:=fk e1
    refine key _ ?_ e1
    exact IM hp hn e3
termination_by n _ ws=>(n,ws.length)
def dep:Nat->Wk->Prop
 | _,.one _=>True
 | 0,_=>False
 | n+1,.both p q=>(∀x∈p,dep n x)/\∀x∈q,dep n x
 | n+1,.meet _ _ p q=>(∀x∈p,dep n x)/\∀x∈q,dep n x
theorem ix{α:Type}{At:Hp->Addr->α->Prop}{H:Hp}{p:Addr}{bs:List Addr}{xs:List α}(h:bP At H p bs xs){x:α}(hx:x∈xs):∃a,At H a x:=by
 obtain⟨i,e⟩:=List.mem_iff_getElem?.mp hx
 have hi:i<bs.length:=by rw [h.len]; exact(UT.mp e).1
 exact⟨_,h.at_ i _ x (UN hi) e⟩
theorem oF:∀{n:Nat} {H:Hp} {a:Addr} {x:Wk},dk n H a x->dep n x
 | 0,H,a,.one x,h=>trivial
 | n+1,H,a,.one x,h=>trivial
 | n+1,H,a,.both p q,h=>by
  obtain⟨b,c,bs,cs,h1,h2,h3⟩:=h
  exact⟨λx hx=>by obtain⟨a,z⟩:=ix h2 hx; exact oF z,λx hx=>by obtain⟨a,z⟩:=ix h3 hx; exact oF z⟩
 | n+1,H,a,.meet c d p q,h=>by
  obtain⟨b,e,bs,es,h1,h2,h3⟩:=h
  exact⟨λx hx=>by obtain⟨a,z⟩:=ix h2 hx; exact oF z,λx hx=>by obtain⟨a,z⟩:=ix h3 hx; exact oF z⟩
theorem yF{n:Nat}{x:Wk}(h:dep (n+1) x){p:List Wk}(hp:p∈dF x):∀y∈p,dep n y:=by
 cases x with
 | one x=>cases hp
 | both a b =>
  simp only [dF,UX,List.not_mem_nil,or_false]at hp
  rcases hp with rfl | rfl
  ·exact h.1
  ·exact h.2
 | meet c d a b =>
  simp only [dF,UX,List.not_mem_nil,or_false]at hp
  rcases hp with rfl | rfl
  ·exact h.1
  ·exact h.2
theorem vS{x:Wk}(h:dep 0 x):dF x=[]:=by
 cases x with
 | one x=>rfl
 | both a b=>exact False.elim h
 | meet c d a b=>exact False.elim h
theorem uh.up:∀{n:Nat} {ws:List Wk},(∀x∈ws,dep n x)->uh n ws->uh (n+1) ws
 | 0,ws,hd,h=>⟨h.1,λx hx=>⟨h.2 x hx,λp hp=>by rw [vS (hd x hx)]at hp; cases hp⟩⟩
 | n+1,ws,hd,h=>⟨h.1,λx hx=>⟨(h.2 x hx).1,λp hp=>uh.up (yF (hd x hx) hp) ((h.2 x hx).2 p hp)⟩⟩
theorem tF.up:∀{n:Nat} {ws:List Wk},(∀x∈ws,dep n x)->tF n ws->tF (n+1) ws
 | 0,ws,hd,h=>λx hx=>⟨h x hx,λp hp=>by rw [vS (hd x hx)]at hp; cases hp⟩
 | n+1,ws,hd,h=>λx hx=>⟨(h x hx).1,λp hp=>tF.up (yF (hd x hx) hp) ((h x hx).2 p hp)⟩
structure bN(n:Nat)(H:Hp)(p:Addr)(ws:List Wk):Prop where
 pp:jo n H p ws
 ok:uh n ws
 dr:tF n ws
theorem bN.up{n:Nat}{H:Hp}{p:Addr}{ws:List Wk}(h:bN n H p ws):bN (n+1) H p ws:=by
 obtain⟨⟨bs,hb⟩,h2,h3⟩:=h
 have hd:∀x∈ws,dep n x:=λx hx=>by obtain⟨a,z⟩:=ix hb hx; exact oF z
 exact⟨⟨bs,hb.tup,hb.len,λi a x e1 e2=>(hb.at_ i a x e1 e2).up⟩,h2.up hd,h3.up hd⟩
theorem bN.to{n:Nat}{H:Hp}{p:Addr}{ws:List Wk}(h:bN n H p ws)(m:Nat):bN (n+m) H p ws:=by
 induction m with
 | zero=>exact h
 | succ m ih=>exact ih.up
theorem bN.le{n m:Nat}{H:Hp}{p:Addr}{ws:List Wk}(h:bN n H p ws)(e:n<=m):bN m H p ws:=by
 have:=h.to (m-n)
 rwa [show n+(m-n)=m by omega]at this
theorem bN.keep{n:Nat}{H H':Hp}{p:Addr}{ws:List Wk}(k:aE H H')(h:bN n H p ws):bN n H' p ws:=⟨h.pp.keep k,h.ok,h.dr⟩
structure pN(n:Nat)(H:Hp)(a:Addr)(x:Wk):Prop where
 wk:dk n H a x
 ok:AN x
 dr:IK x
 pm:DW x
 br:∀p∈dF x,uh (n-1) p/\tF (n-1) p
theorem bN.snoc{n:Nat}{H:Hp}{p u a:Addr}{bs:List Addr}{ws:List Wk}{x:Wk}(hI:bP (dk n) H p bs ws)(ho:uh n ws)(hd:tF n ws)(hx:pN n H a x)(hl:ws.length<9)(hu:H u=some (.tup ((bs++[a]).map V.ref))):bN n H u (ws++[x]):=by
 refine⟨⟨bs++[a],hu,by rw [UJ,UJ,hI.len]; rfl,λi b y e1 e2=>?_⟩,?_,?_⟩
 ·by_cases hi:i<bs.length
  ·rw [U4 hi]at e1
   rw [U4 (by rw [←hI.len]; exact hi)]at e2
   exact hI.at_ i b y e1 e2
  ·have hi':i=bs.length:=by
    have:=(UT.mp e1).1
    rw [UJ]at this
    simp at this
    omega
   rw [hi',U3 (UD _),Nat.sub_self]at e1
   rw [hi',hI.len,U3 (UD _),Nat.sub_self]at e2
   cases e1
   cases e2
   exact hx.wk
 ·have hl':(ws++[x]).length<=9:=by rw [UJ]; simp; omega
  cases n with
  | zero =>
   refine⟨hl',λy hy=>?_⟩
   rcases UZ.mp hy with z | z
   ·exact ho.2 y z
   ·rw [UU.mp z]; exact hx.ok
  | succ n =>
   refine⟨hl',λy hy=>?_⟩
   rcases UZ.mp hy with z | z
   ·exact ho.2 y z
   ·rw [UU.mp z]; exact⟨hx.ok,λp hp=>(hx.br p hp).1⟩
 ·cases n with
  | zero =>
   intro y hy
   rcases UZ.mp hy with z | z
   ·exact hd y z
   ·rw [UU.mp z]; exact⟨hx.dr,hx.pm⟩
  | succ n =>
   intro y hy
   rcases UZ.mp hy with z | z
   ·exact hd y z
   ·rw [UU.mp z]; exact⟨⟨hx.dr,hx.pm⟩,λp hp=>(hx.br p hp).2⟩
theorem D7.all{n:Nat}{H:Hp}{a:Addr}{x:W1}(h:jV H a x)(d:D7 x):pN n H a (.one x):=by
 refine⟨bW.mpr h,⟨d.sm,d.good,?_,λp hp=>by cases hp⟩,d,trivial,λp hp=>by cases hp⟩
 cases x <;> first | trivial | exact d.ne.1
def lC(K:Ve):Nat->Sp
 | 0=>λ_ _ _ _=>False
 | N+1=>λvs H Q _=>∃(p b:Addr) (h:Hd) (d m:Nat) (si:Bool),vs=[.ref p,.ref b,.int d,.int m,.bl si]/\dj H p/\cU K H b h/\d<=N/\m<=9/\∀(u:Addr) (ws:List Wk) (H':Hp),bo p H H'->bN d H' u ws->ws.length<=m->Q (.ref u) H'
def y4(K:Ve)(N:Nat):Sp:=λvs H Q _=>∃(p b:Addr) (h:Hd) (d:Nat) (wd:Str),vs=[.ref p,.ref b,.int d,.str wd]/\dj H p/\cU K H b h/\1<=d/\d<=N/\(wd="both"\/wd="meet")/\∀(u:Addr) (x:Wk) (H':Hp),bo p H H'->pN d H' u x->Q (.ref u) H'
def zg(K:Ve)(N:Nat):Sp:=λvs H Q _=>∃(p b:Addr) (h:Hd) (d:Nat) (si:Bool),vs=[.ref p,.ref b,.int d,.bl si]/\dj H p/\cU K H b h/\d<=N/\∀(u:Addr) (x:Wk) (H':Hp),bo p H H'->pN d H' u x->Q (.ref u) H'
end My
namespace L2
open PySem PySem.Spec PyProof.Rows
theorem Ba(l:Addr)(items:Array Value)(n:Nat)(dd:Option Addr)(sl:Array (Option Value))(t:Tok)(hi:items.isEmpty=false) :
  Meets (Builtin.«tuple.__mul__» ⟨[.ref l,.int 0 t],[]⟩) (λ_ R s=>s.heap.get? l=some ⟨.type "tuple",dd,.seq items n,sl⟩/\
   R (.ok (.ret (.ref s.heap.objs.size))) {s with heap:=s.heap.push {cls:=.type "tuple",data:=.seq #[]}}) :=
 .of_wp λprog w A R s h=>by
  obtain⟨hp,g,d,tk,os⟩:=s; obtain⟨hl,h⟩:=h
  have c1:¬(decide ((0:Int) < -2 ^ 63)||decide ((0:Int)≥2 ^ 63))=true:=by decide
  have c2:¬(items.isEmpty||(0:Int)==1)=true:=by
   rw [hi,Bool.false_or]; decide
  have c3:(decide ((0:Int)<=0)||items.isEmpty)=true:=by
   rw [hi,Bool.or_false]; decide
  wp_walk
  exact⟨_,rfl,h⟩
theorem Bh(l:Addr)(items:Array Value)(n:Nat)(dd:Option Addr)(sl:Array (Option Value))(t:Tok)(hi:items.isEmpty=false) :
  Meets (Builtin.«tuple.__mul__» ⟨[.ref l,.int 1 t],[]⟩) (λ_ R s=>s.heap.get? l=some ⟨.type "tuple",dd,.seq items n,sl⟩/\
   R (.ok (.ret (.ref l))) s) :=
 .of_wp λprog w A R s h=>by
  obtain⟨hp,g,d,tk,os⟩:=s; obtain⟨hl,h⟩:=h
  have c1:¬(decide ((1:Int) < -2 ^ 63)||decide ((1:Int)≥2 ^ 63))=true:=by decide
  have c2:(items.isEmpty||(1:Int)==1)=true:=by
   rw [hi,Bool.false_or]; decide
  wp_walk
  exact⟨_,rfl,h⟩
section
variable{X:Cx}
def JW(K:Ve):R2:=λx y H Q=>∃l k xs,x=.ref l/\y=.int k/\aH K H l xs/\xs≠[]/\((k=0/\∀p,H p=none->Q (.ref p) (upd H p (.tup [])))\/(k=1/\Q (.ref l) H))
theorem vy:i6 X (binaryOp .Mult) (JW X.K):=by
 intro pins s σ H x y v u Q I rx ry h
 obtain⟨l,k,xs,rfl,rfl,hq,hx,h⟩:=h
 cases rx
 obtain⟨t,rfl⟩:=ry
 obtain⟨its,r,⟨o,e,hc,n,hd⟩,_⟩:=I.tuple hq
 obtain⟨c,dd,da,sl⟩:=o
 cases(show c=.type "tuple" from hc)
 cases(show da=.seq its.toArray n from hd)
 have hl:=r.length
 have hi:its.toArray.isEmpty=false:=by
  cases its with
  | nil=>exact absurd (List.eq_nil_of_length_eq_zero (by rw [hl]; rfl)) hx
  | cons a r=>rfl
 rcases h with⟨rfl,q⟩ | ⟨rfl,q⟩
 ·refine wpAny_binaryOp_repeat_ref (T:="tuple") (U:="int") (by decide) ⟨_,e,rfl⟩ (λs'=>typeIs_int s' 0 t) fP F.fills_int_mul F.slot_int_rmul sP F.slot_int_index.lookup
   (call_meets F.slot_int_rmul (typeIs_int s 0 t) F.entry_int_rmul (F.args_int_rmul_2 _ _) (iP 0 t l its.toArray n dd sl)
    ⟨e,rfl,⟨_,e,rfl⟩,call_meets F.slot_tuple_mul ⟨_,e,rfl⟩ F.entry_tuple_mul (F.args_tuple_mul_2 _ _) (Ba l its.toArray n dd sl t hi) ⟨e,?_⟩⟩)
  refine⟨.ref s.heap.objs.size,_,I.laid (t':=s.toks) (o:=.tup []) (λb ob q=>UA _ q) (UD _) ?_,rfl,q _ (I.hok.fresh (UD _))⟩
  exact⟨U1 _,[],.nil,g_.new _ _⟩
 ·refine wpAny_binaryOp_repeat_ref (T:="tuple") (U:="int") (by decide) ⟨_,e,rfl⟩ (λs'=>typeIs_int s' 1 t) fP F.fills_int_mul F.slot_int_rmul sP F.slot_int_index.lookup
   (call_meets F.slot_int_rmul (typeIs_int s 1 t) F.entry_int_rmul (F.args_int_rmul_2 _ _) (iP 1 t l its.toArray n dd sl)
    ⟨e,rfl,⟨_,e,rfl⟩,call_meets F.slot_tuple_mul ⟨_,e,rfl⟩ F.entry_tuple_mul (F.args_tuple_mul_2 _ _) (Bh l its.toArray n dd sl t hi) ⟨e,?_⟩⟩)
  exact⟨.ref l,H,I,rfl,q⟩
end
end L2
namespace My
open PySem L2
theorem Bt:bnd 2<=100000:=by decide
theorem bN.cons{n:Nat}{H:Hp}{p u a:Addr}{bs:List Addr}{ws:List Wk}{x:Wk}(hI:bP (dk n) H p bs ws)(ho:uh n ws)(hd:tF n ws)(hx:pN n H a x)(hl:ws.length<9)(hu:H u=some (.tup ((a::bs).map V.ref))):bN n H u (x::ws):=by
 refine⟨⟨a::bs,hu,by rw [Vb,Vb,hI.len],λi b y e1 e2=>?_⟩,?_,?_⟩
 ·cases i with
  | zero=>cases e1; cases e2; exact hx.wk
  | succ i=>exact hI.at_ i b y e1 e2
 ·have hl':(x::ws).length<=9:=by rw [Vb]; omega
  cases n with
  | zero =>
   refine⟨hl',λy hy=>?_⟩
   rcases UX.mp hy with rfl | z
   ·exact hx.ok
   ·exact ho.2 y z
  | succ n =>
   refine⟨hl',λy hy=>?_⟩
   rcases UX.mp hy with rfl | z
   ·exact⟨hx.ok,λp hp=>(hx.br p hp).1⟩
   ·exact ho.2 y z
 ·cases n with
  | zero =>
   intro y hy
   rcases UX.mp hy with rfl | z
   ·exact⟨hx.dr,hx.pm⟩
   ·exact hd y z
  | succ n =>
   intro y hy
   rcases UX.mp hy with rfl | z
   ·exact⟨⟨hx.dr,hx.pm⟩,λp hp=>(hx.br p hp).2⟩
   ·exact hd y z
abbrev fN:Stmt:=top 79
theorem dh:az ["_law_pot_here","_law_head","_law_deep","_law_word_here","_law_many_here","_law_one","_law_other_here"] ["_law_pot_here","_law_head","_law_deep","_law_word_here"] (ar fN):=fs
variable{P:Program}{w:World}{K:Ve}{mg:Str->Option Value}{base:Heap}
theorem oP{N L Le:Nat}(hN:N<=2)(h5:5<=L)(hLe:Le<=L)(B2:iL mg)(F:FA K mg "_law_joining" fN)
  (bu:bc bf P w K mg base 1 "_law_draw" ["_law_pot_here","_law_many_here"] dv)
  (gB:bc bf P w K mg base L "_law_pipe" ["_law_pot_here","_law_head","_law_deep","_law_many_here","_law_simple"] (lC K N))
  (jX:bc bf P w K mg base 2 "_law_column" ["_law_pot_here","_law_head"] (iy K))
  (oJ:bc bf P w K mg base Le "_law_end" ["_law_head","_law_pipe_here"] (GJ 2))
  (x3:bc bf P w K mg base 3 "_law_set" ["_law_pot_here","_law_sort"] (B5 K)) :
  bc bf P w K mg base (L+1) "_law_joining" ["_law_pot_here","_law_head","_law_deep","_law_word_here"] (y4 K N):=by
 refine F.ok dh λf cdv A outer s H vs Q E hr h=>?_
 have hu:=iW hr
 obtain⟨p,b,h,d,wd,rfl,hP,hH,hd1,NF,HH,q⟩:=h
 refine⟨_,(aq (aL (i:=4) dh.nd rfl (Or.inl rfl) (aQ (ae (ay bu hr (ae (pv 0) (ae ai ah))) (ae (ay bu hr (ae (pv 0) (ae ai ah))) ah))))
   (aq (aL (i:=5) dh.nd rfl (Or.inl rfl) (ay gB hr (ae (pv 0) (ae (pv 1) (ae (bj K (aQ (ae (aF bJ (pv 2) ai) (ae ai ah))) (aV cA rfl B2.int PyProof.Rows.boot_int (ae (bU aP (pv 3) ao) ah))) (ae (bj K (pv 4) ai) (ae (pY (bU aP (pv 3) ao) (cZ (bU CY (ay bu hr (ae (pv 0) (ae ai ah))) ai))) ah)))))))
   (aq (aL (i:=6) dh.nd rfl (Or.inl rfl) (ay gB hr (ae (pv 0) (ae (pv 1) (ae (bj K (aQ (ae (aF bJ (pv 2) ai) (ae ai ah))) (aV cA rfl B2.int PyProof.Rows.boot_int (ae (bU aP (pv 3) ao) ah))) (ae (bj K (pv 4) ai) (ae (pY (bU aP (pv 3) ao) (cZ (bU CY (ay bu hr (ae (pv 0) (ae ai ah))) ai))) ah)))))))
   (aN (aW aP (pv 3) ao) (aJ (ae ao (ae (ay jX hr (ae (pv 0) (ae (ay oJ hr (ae (pv 1) (ae (pv 5) ah))) ah))) (ae (ay jX hr (ae (pv 0) (ae (ay oJ hr (ae (pv 1) (ae (pv 6) ah))) ah))) (ae (pv 5) (ae (pv 6) ah))))))
   (aq (dy (aW ie (ay bu hr (ae (pv 0) (ae ai ah))) ai)
    (bK (aL (i:=6) dh.nd rfl (Or.inl rfl) (aF b9 (aF vy (aJ (ae (aJ (ae ao (ae ai (ae (ay x3 hr (ae (pv 0) (ae (aA K (pv 1) ai) ah))) ah)))) ah)) (ay bu hr (ae (pv 0) (ae ai ah)))) (pv 5))))
    cb)
   (ax (aJ (ae ao (ae (pv 5) (ae (pv 6) ah)))))))))),?_⟩
 have h4:∀m:Int,m=4\/m=3\/m=9\/m=2->0<m/\m.natAbs.log2<9000:=by rintro m (rfl | rfl | rfl | rfl) <;> exact⟨by decide,by decide⟩
 refine⟨_,rfl,p,_,rfl,hP,by decide,by decide,λd1 H1 g1 a1 b1=>⟨_,rfl,p,_,rfl,g1.cf,by decide,by decide,λd2 H2 g2 a2 b2=>⟨cJ,λM hM=>ak ?_⟩⟩⟩
 have ND:=g1.trans g2
 have nM:=ND.ne hM
 have gM:=ND.new (o:=.lst [.int d1,.int d2]) hM
 have NM:upd H2 M (.lst [.int d1,.int d2]) M=some (.lst [.int d1,.int d2]):=ag
 revert gM NM
 generalize upd H2 M (.lst [.int d1,.int d2])=HM
 intro gM NM
 dsimp only
 obtain⟨N',rfl⟩ :∃N',N=N'+1:=⟨N-1,by omega⟩
 have call:∀(σ:St) (j:Int) (m:Int) (H1:Hp),bo p H H1->σ[0]? = some (some (.ref p))->σ[1]? = some (some (.ref b))->σ[2]? = some (some (.int d))->σ[3]? = some (some (.str wd))->σ[4]? = some (some (.ref M))->H1 M=some (.lst [.int d1,.int d2])->i_ [V.int d1,V.int d2] j=some (.int m)->0<=m->m<=3->
   ∀(Qc:VK),(∀(u:Addr) (ws:List Wk) (H':Hp),bo p H1 H'->bN (if wd="meet" then 0 else d-1) H' u ws->ws.length<=3->Qc (.ref u) H')->
   i4 (lC K (N'+1)) [] E0 (bp (bx 0) (bp (bx 1) (bp (gE (xy K) (xR (bp (gE (zy λi j=>V.int (i-j)) (bx 2) (tC (.int 1))) (bp (tC (.int 0)) fD))) (KG Bc (bp (gE He (bx 3) (tC (.str "meet"))) fD))) (bp (gE (xy K) (bx 4) (tC (.int j))) (bp (Hj (gE He (bx 3) (tC (.str "meet"))) (gE (zy λi j=>.bl (decide (i<j))) (i4 dv [] E0 (bp (bx 0) (bp (tC (.int 9)) fD))) (tC (.int 8)))) fD))))) σ H1 Qc:=by
  intro σ j m H1 gg e0 e1 e2 e3 e4 Th hj m0 m3 Qc qc
  refine⟨_,e0,_,e1,_,e2,_,_,rfl,rfl,cJ,λR hR=>?_⟩
  have sR:=aj hR (.lst [V.int ((d:Int)-1),.int 0])
  have gR:=gg.trans (bo.same gg.cf sR)
  have hRR:upd H1 R (.lst [V.int ((d:Int)-1),.int 0]) R=some (.lst [V.int ((d:Int)-1),.int 0]):=ag
  have PU:=sR _ _ Th
  have kR:=bo.same gg.cf sR
  revert gR hRR PU kR
  generalize upd H1 R (.lst [V.int ((d:Int)-1),.int 0])=HR
  intro gR hRR PU kR
  refine⟨_,e3,rfl,.inr ⟨_,rfl,R,_,_,.int ((if wd="meet" then 0 else d-1:Nat):Int),rfl,rfl,aZ.of hRR,?_,_,e4,M,_,_,_,rfl,rfl,aZ.of PU,hj,_,e3,rfl,_,rfl,?_⟩⟩
  ·rw [bL]
   by_cases z:wd="meet"
   ·rw [UH z,if_pos z]; rfl
   ·rw [UG z,if_neg z]
    show some (V.int ((d:Int)-1))=_
    congr 2
    omega
  rw [bL]
  have hle:(if wd="meet" then 0 else d-1)<=N':=by split <;> omega
  by_cases z:wd="meet"
  ·rw [UH z]
   refine bY ⟨_,e0,p,_,rfl,gR.cf,by decide,by decide,λd3 H3 g3 a3 b3=>⟨_,_,rfl,rfl,p,b,h,_,m.toNat,decide (d3<8),?_,g3.cf,hH.grow hP (gR.trans g3),hle,by omega,λu ws H' g' hp' hl'=>qc u ws H' ((kR.trans g3).trans g') hp' (by omega)⟩⟩
   rw [show((m.toNat:Nat):Int)=m by omega]
   rfl
  ·rw [UG z]
   refine bB ⟨p,b,h,_,m.toNat,false,?_,gR.cf,hH.grow hP gR,hle,by omega,λu ws H' g' hp' hl'=>qc u ws H' (kR.trans g') hp' (by omega)⟩
   rw [show((m.toNat:Nat):Int)=m by omega]
   rfl
 refine call _ 0 d1 HM gM rfl rfl rfl rfl rfl NM rfl a1 (by omega) _ λu1 HV H3 g3 hp1 hl1=>ak ?_
 have Kv:=gM.trans g3
 dsimp only
 refine call _ 1 d2 H3 Kv rfl rfl rfl rfl rfl (g3.keep M _ nM NM) rfl a2 (by omega) _ λu2 M_ H4 g4 hp2 hl2=>ak ?_
 have A8:=Kv.trans g4
 have hp1:=hp1.keep (aE.grow Kv.cf g4)
 have JT:=hH.grow hP A8
 dsimp only
 refine⟨_,rfl,rfl,_,rfl,?_⟩
 rw [bL]
 by_cases z:wd="meet"
 ·rw [if_pos z]at hp1 hp2
  rw [UH z]
  have QJ:∀{H5:Hp} {u:Addr} {ws:List Wk},cU K H5 b h->bN 0 H5 u ws->zu 2 H5 b u h ws:=λhh hp=>⟨hh.tup,(hp.le (by decide)).pp,(hp.le (m:=2) (by decide)).ok,(hp.le (m:=2) (by decide)).dr,hh.few⟩
  have hend:∀{ws:List Wk},tF 2 ws->(CN 2 h ws).length<=6/\1<=(CN 2 h ws).length:=by
   intro ws hd
   unfold CN
   have hne:h≠[]:=λe=>by have:=hH.pos; rw [e]at this; cases this
   cases er:j9 2 h ws with
   | ok h' f' =>
    refine⟨zb hH.few er,?_⟩
    have:=IM hd hne er
    exact Nat.pos_of_ne_zero λz=>this (List.eq_nil_of_length_eq_zero z)
   | no a s=>exact⟨hH.few,hH.pos⟩
  refine bY ⟨_,rfl,_,rfl,_,rfl,b,u1,h,HV,rfl,QJ JT hp1,by decide,Bt,λv1 H5 s5 hv1=>?_⟩
  have g5:=bo.same A8.cf s5
  have k5:=aE.of s5
  obtain⟨z1,z2⟩:=hend (hp1.le (m:=2) (by decide)).dr
  refine⟨p,v1,_,rfl,g5.cf,⟨hv1,z2,z1⟩,λc1 H6 g6 TV Um=>?_⟩
  have KD:=g5.trans g6
  have rE:=aE.grow A8.cf KD
  have SR:=JT.grow A8.cf KD
  refine⟨_,rfl,_,rfl,_,rfl,b,u2,h,M_,rfl,QJ SR (hp2.keep rE),by decide,Bt,λv2 H7 s7 hv2=>?_⟩
  have Qt:=bo.same KD.cf s7
  obtain⟨z3,z4⟩:=hend (hp2.le (m:=2) (by decide)).dr
  refine⟨p,v2,_,rfl,Qt.cf,⟨hv2,z4,z3⟩,λc2 H8 g8 Tr Uv=>⟨_,rfl,_,rfl,sF,λu hu'=>?_⟩⟩
  have Ku:=(KD.trans Qt).trans g8
  have sU:=aj hu' (.tup [.str "meet",.int c1,.int c2,.ref u1,.ref u2])
  have Kr:=(aE.grow A8.cf Ku).trans (aE.of sU)
  have q1:=(hp1.keep Kr).le (m:=d-1) (U1 _)
  have q2:=(hp2.keep Kr).le (m:=d-1) (U1 _)
  obtain⟨d',rfl⟩ :∃d',d=d'+1:=⟨d-1,by omega⟩
  obtain⟨Fp,hb1⟩:=q1.pp
  obtain⟨R0,hb2⟩:=q2.pp
  refine q u (.meet c1 c2 HV M_) _ ((A8.trans Ku).new hu') ⟨⟨u1,u2,Fp,R0,ag,hb1,hb2⟩,⟨trivial,trivial,trivial,λp hp=>?_⟩,trivial,⟨TV,Tr⟩,λp hp=>?_⟩
  ·simp only [dF,UX,List.not_mem_nil,or_false]at hp
   rcases hp with rfl | rfl <;> omega
  ·simp only [dF,UX,List.not_mem_nil,or_false]at hp
   rcases hp with rfl | rfl
   ·exact⟨q1.ok,q1.dr⟩
   ·exact⟨q2.ok,q2.dr⟩
 ·rw [if_neg z]at hp1 hp2
  rw [UG z]
  refine bB (aG ?_)
  dsimp only
  obtain⟨d',rfl⟩ :∃d',d=d'+1:=⟨d-1,by omega⟩
  have hp1:bN d' H4 u1 HV:=hp1
  have hp2:bN d' H4 u2 M_:=hp2
  have fin:∀(σ:St) (u3:Addr) (Nj:List Wk) (H9:Hp),σ[5]? = some (some (.ref u1))->σ[6]? = some (some (.ref u3))->bo p H4 H9->bN d' H9 u3 Nj->Nj.length<=9->D5 (Es (bp (tC (.str "both")) (bp (bx 5) (bp (bx 6) fD)))) {nx:=λ_ H'=>Q .non H',rt:=Q} σ H9:=by
   intro σ u3 Nj H9 e5 e6 g9 hp3 hl3
   refine⟨_,e5,_,e6,gv,λu hu'=>?_⟩
   have sU:=aj hu' (.tup [.str "both",.ref u1,.ref u3])
   have q1:=hp1.keep ((aE.grow A8.cf g9).trans (aE.of sU))
   have q3:=hp3.keep (aE.of sU)
   obtain⟨Fp,hb1⟩:=q1.pp
   obtain⟨T4,hb3⟩:=q3.pp
   refine q u (.both HV Nj) _ ((A8.trans g9).new hu') ⟨⟨u1,u3,Fp,T4,ag,hb1,hb3⟩,⟨trivial,trivial,trivial,λp hp=>?_⟩,trivial,trivial,λp hp=>?_⟩
   ·simp only [dF,UX,List.not_mem_nil,or_false]at hp
    rcases hp with rfl | rfl <;> omega
   ·simp only [dF,UX,List.not_mem_nil,or_false]at hp
    rcases hp with rfl | rfl
    ·exact⟨q1.ok,q1.dr⟩
    ·exact⟨q3.ok,q3.dr⟩
  refine⟨_,rfl,p,_,rfl,A8.cf,by decide,by decide,λe5 H5 g5 a5 b5=>⟨_,_,rfl,rfl,_,rfl,cG (λy=>?_) (λy=>aG ?_)⟩⟩
  ·have Sj:=JT.grow A8.cf g5
   obtain⟨s0,r0,hs0⟩ :∃s0 r0,h=s0::r0:=by
    cases h with
    | nil=>have:=hH.pos; cases this
    | cons s0 r0=>exact⟨s0,r0,rfl⟩
   refine⟨_,rfl,_,rfl,b,_,0,.str s0,rfl,rfl,aH.of Sj.tup,by rw [hs0]; exact av (j:=0) rfl,p,s0,rfl,g5.cf,λsa t xs H6 g6 S5=>⟨gv,λk1 hk1=>⟨dP,λk2 hk2=>?_⟩⟩⟩
   have s1:=aj hk1 (.tup [.str "keep",.int 1,.ref sa])
   have s2:=aj hk2 (.tup [.ref k1])
   have Nt:=g5.trans g6
   have gk:=(Nt.trans (bo.same Nt.cf (s1.trans s2)))
   have ek2:upd (upd H6 k1 (.tup [.str "keep",.int 1,.ref sa])) k2 (.tup [.ref k1]) k2=some (.tup [.ref k1]):=ag
   have ek1:jV (upd (upd H6 k1 (.tup [.str "keep",.int 1,.ref sa])) k2 (.tup [.ref k1])) k1 (.keep 1 t):=⟨sa,xs,s2 _ _ ag,s2 _ _ (s1 _ _ S5)⟩
   revert gk ek2 ek1
   generalize upd (upd H6 k1 (.tup [.str "keep",.int 1,.ref sa])) k2 (.tup [.ref k1])=Hk
   intro gk ek2 ek1
   refine⟨_,rfl,p,_,rfl,gk.cf,by decide,by decide,λe7 H7 g7 a7 b7=>?_⟩
   have Km:=gk.trans g7
   have k7:=aE.grow gk.cf g7
   have FE:=hp1.keep (aE.grow A8.cf Km)
   obtain⟨Fp,hb1⟩:=FE.pp
   have hz1:(Fp.map V.ref).length<=3:=by rw [UI,hb1.len]; exact hl1
   refine⟨k2,e7,_,rfl,rfl,aH.of (k7 _ _ ek2),by simp,?_⟩
   have hc:e7=0\/e7=1:=by omega
   rcases hc with rfl | rfl
   ·refine .inl ⟨rfl,λt0 ht0=>?_⟩
    have s8:=aj ht0 (.tup [])
    refine⟨_,rfl,t0,u1,_,_,rfl,rfl,ag,s8 _ _ hb1.tup,by show 0+_<=_; exact UE (show 0+(Fp.map V.ref).length<=10 by omega) (by decide),λu3 H9 s9 v5=>ak ?_⟩
    have P8:=s8.trans s9
    have k9:=aE.of P8
    refine fin _ u3 HV H9 rfl rfl (Km.trans (bo.same Km.cf P8)) ⟨⟨Fp,v5,hb1.len,λi a x e1 e2=>(hb1.at_ i a x e1 e2).keep k9⟩,FE.ok,FE.dr⟩ (by omega)
   ·refine .inr ⟨rfl,⟨_,rfl,k2,u1,_,_,rfl,rfl,k7 _ _ ek2,hb1.tup,by show 1+_<=_; exact UE (show 1+(Fp.map V.ref).length<=10 by omega) (by decide),λu3 H9 s9 v5=>ak ?_⟩⟩
    have k9:=aE.of s9
    have hI9:bP (dk d') H9 u1 Fp HV:=hb1.keep k9 λ_ _ z=>z.keep k9
    have hw:pN d' H9 k1 (.one (.keep 1 t)):=D7.all (ek1.keep (k7.trans k9)) ⟨trivial,trivial,trivial,λc hc=>by rw [UU.mp hc]; exact Int.le_refl _⟩
    refine fin _ u3 (.one (.keep 1 t)::HV) H9 rfl rfl (Km.trans (bo.same Km.cf s9)) (bN.cons hI9 FE.ok FE.dr hw (by omega) v5) (by rw [Vb]; omega)
  ·exact fin _ u2 M_ H5 rfl rfl g5 (hp2.keep (aE.grow A8.cf g5)) (by omega)
def ij:List Str:=["keep","same","cut","turn","must","walk","sort","apart","count","sum","number","first"]
theorem Bx{s:Str}(h:s∈ij):(IJ s/\inV (.str s) mL=true)\/(Di s/\inV (.str s) mL=false/\inV (.str s) Dm=false):=by
 simp only [ij,UX,List.not_mem_nil,or_false]at h
 rcases h with rfl | rfl | rfl | rfl | rfl | rfl | rfl | rfl | rfl | rfl | rfl | rfl
 ·exact .inl ⟨.inl rfl,by decide +kernel⟩
 ·exact .inl ⟨.inr (.inl rfl),by decide +kernel⟩
 ·exact .inl ⟨.inr (.inr (.inl rfl)),by decide +kernel⟩
 ·exact .inl ⟨.inr (.inr (.inr (.inl rfl))),by decide +kernel⟩
 ·exact .inl ⟨.inr (.inr (.inr (.inr rfl))),by decide +kernel⟩
 ·exact .inr ⟨.inl rfl,by decide +kernel,by decide +kernel⟩
 ·exact .inr ⟨.inr (.inl rfl),by decide +kernel,by decide +kernel⟩
 ·exact .inr ⟨.inr (.inr (.inl rfl)),by decide +kernel,by decide +kernel⟩
 ·exact .inr ⟨.inr (.inr (.inr (.inl rfl))),by decide +kernel,by decide +kernel⟩
 ·exact .inr ⟨.inr (.inr (.inr (.inr (.inl rfl)))),by decide +kernel,by decide +kernel⟩
 ·exact .inr ⟨.inr (.inr (.inr (.inr (.inr (.inl rfl))))),by decide +kernel,by decide +kernel⟩
 ·exact .inr ⟨.inr (.inr (.inr (.inr (.inr (.inr rfl))))),by decide +kernel,by decide +kernel⟩
theorem Jr{s:Str}(h:s="both"\/s="meet"):inV (.str s) mL=false/\inV (.str s) Dm=true:=by
 rcases h with rfl | rfl <;> exact⟨by decide +kernel,by decide +kernel⟩
theorem cU.same{K:Ve}{a:Addr}{H H1:Hp}{hs:List Str}(h:cU K H a hs)(s:aM H H1):cU K H1 a hs:=⟨s _ _ h.tup,h.pos,h.few⟩
theorem DA{x:V}{xs:List V}{P Q:Prop}(e:inV x xs=true)(h:P):if(if false=true then !inV x xs else inV x xs)=true then P else Q:=by
 rw [if_neg UR,e]
 exact h
theorem sZ{x:V}{xs:List V}{P Q:Prop}(e:inV x xs=false)(h:Q):if(if false=true then !inV x xs else inV x xs)=true then P else Q:=by
 rw [if_neg UR,e]
 exact h
abbrev hX:Stmt:=top 80
theorem eP:az ["_law_pot_here","_law_head","_law_deep","_law_simple","_law_words","_law_word_here"] ["_law_pot_here","_law_head","_law_deep","_law_simple"] (ar hX):=fs
theorem pG{N L:Nat}(h5:5<=L)(B:jU mg)(B2:iL mg)(F:FA K mg "_law_worker" hX)
  (bu:bc bf P w K mg base 1 "_law_draw" ["_law_pot_here","_law_many_here"] dv)
  (nH:bc bf P w K mg base 5 "_law_one_row" ["_law_pot_here","_law_head","_law_word_here"] (nz K IJ))
  (oM:bc bf P w K mg base L "_law_joining" ["_law_pot_here","_law_head","_law_deep","_law_word_here"] (y4 K N))
  (sD:bc bf P w K mg base 5 "_law_other" ["_law_pot_here","_law_head","_law_word_here"] (nz K Di)) :
  bc bf P w K mg base (L+1) "_law_worker" ["_law_pot_here","_law_head","_law_deep","_law_simple"] (zg K N):=by
 refine F.ok eP λf cdv A outer s H vs Q E hr h=>?_
 obtain⟨p,b,h,d,si,rfl,hP,hH,NF,q⟩:=h
 refine M4 (IE (i:=4) eP.nd rfl (Or.inl rfl) (Ig (dZ ⟨ao⟩ (dZ ⟨ao⟩ (dZ ⟨ao⟩ (dZ ⟨ao⟩ (dZ ⟨ao⟩ (dZ ⟨ao⟩ (dZ ⟨ao⟩ (dZ ⟨ao⟩ (dZ ⟨ao⟩ (dZ ⟨ao⟩ (dZ ⟨ao⟩ (dZ ⟨ao⟩ IC)))))))))))))
  ⟨(aq (aL (i:=4) eP.nd rfl (Or.inl rfl) (aF og (cu (r:=K_ K) Gz (pv 4) dz (cB (bj K (aQ (ae ai (ae ai ah))) (aV cA rfl B2.int PyProof.Rows.boot_int (ae (pv 3) ah))))) (aF ya (aQ (ae ao (ae ao ah))) (aV cA rfl B2.int PyProof.Rows.boot_int (ae (bU ie (pv 2) ai) ah)))))
   (aq (aL (i:=5) eP.nd rfl (Or.inl rfl) (bj K (pv 4) (ay bu hr (ae (pv 0) (ae (a_ bF rfl B.len PySem.boot_len (ae (pv 4) ah)) ah)))))
   (aN (dc cn (pv 5) (aQ (ae ao (ae ao (ae ao (ae ao (ae ao ah)))))) rfl) (ay nH hr (ae (pv 0) (ae (pv 1) (ae (pv 5) ah))))
   (aN (dc cn (pv 5) (aQ (ae ao (ae ao ah))) rfl) (ay oM hr (ae (pv 0) (ae (pv 1) (ae (pv 2) (ae (pv 5) ah)))))
   (ax (ay sD hr (ae (pv 0) (ae (pv 1) (ae (pv 5) ah)))))))))⟩) ?_
 refine⟨Lp,λW hW=>ak ?_⟩
 have g0:=(bo.refl hP).new (o:=.lst [V.str "keep",.str "same",.str "cut",.str "turn",.str "must",.str "walk",.str "sort",.str "apart",.str "count",.str "sum",.str "number",.str "first"]) hW
 have nW:=(bo.refl hP).ne hW
 have hW0:upd H W (.lst [V.str "keep",.str "same",.str "cut",.str "turn",.str "must",.str "walk",.str "sort",.str "apart",.str "count",.str "sum",.str "number",.str "first"]) W=some (.lst [V.str "keep",.str "same",.str "cut",.str "turn",.str "must",.str "walk",.str "sort",.str "apart",.str "count",.str "sum",.str "number",.str "first"]):=ag
 revert g0 hW0
 generalize upd H W (.lst [V.str "keep",.str "same",.str "cut",.str "turn",.str "must",.str "walk",.str "sort",.str "apart",.str "count",.str "sum",.str "number",.str "first"])=H0
 intro g0 hW0
 dsimp only
 have R5:H0 W=some (.lst (ij.map V.str)):=hW0
 clear hW0
 have kk:∃k:Nat,k<=12/\1<=k/\i_ [V.int 12,.int 5] (if si then 1 else 0)=some (.int k):=by
  cases si
  ·exact⟨12,by decide,by decide,rfl⟩
  ·exact⟨5,by decide,by decide,rfl⟩
 obtain⟨k,k12,k1,ek⟩:=kk
 refine⟨_,rfl,cJ,λR hR=>⟨_,rfl,.inr ⟨_,rfl,R,_,_,_,rfl,rfl,aZ.of ag,ek,_,rfl,W,_,rfl,aZ.of ((aj hR _) _ _ R5),λS hS=>⟨cJ,λB1 NH=>?_⟩⟩⟩⟩
 have OX:f_ (ij.map V.str) none (some (k:Int))=(ij.take k).map V.str:=by
  rw [xn (by rw [UI]; exact k12),List.map_take]
 rw [OX]at NH⊢
 have gR:=g0.new (o:=.lst [V.int 12,.int 5]) hR
 have gS:=gR.new (o:=.lst ((ij.take k).map V.str)) hS
 have Q6:=aj NH (.lst [V.str "both",.str "meet"])
 have Pc:=gS.new (o:=.lst [V.str "both",.str "meet"]) NH
 have eS:=Q6 _ _ (ag (H:=upd H0 R (.lst [V.int 12,.int 5])) (a:=S) (o:=.lst ((ij.take k).map V.str)))
 have eB:upd (upd (upd H0 R (.lst [V.int 12,.int 5])) S (.lst ((ij.take k).map V.str))) B1 (.lst [V.str "both",.str "meet"]) B1=some (.lst [V.str "both",.str "meet"]):=ag
 revert Pc eS eB
 generalize upd (upd (upd H0 R (.lst [V.int 12,.int 5])) S (.lst ((ij.take k).map V.str))) B1 (.lst [V.str "both",.str "meet"])=H1
 intro Pc eS eB
 clear gS gR Q6 NH hS hR
 have rr:∃e:Int,(if decide ((0:Int)<(d:Int))=true then(1:Int)else 0)=e/\((e=0/\(List.replicate e.toNat [V.str "both",.str "meet"]).flatten=([]:List Str).map V.str)\/(e=1/\1<=d/\(List.replicate e.toNat [V.str "both",.str "meet"]).flatten=([("both" : Str),"meet"]).map V.str)):=by
  by_cases z:(0:Int)<(d:Int)
  ·rw [UH z]; exact⟨1,rfl,.inr ⟨rfl,by omega,rfl⟩⟩
  ·rw [UG z]; exact⟨0,rfl,.inl ⟨rfl,rfl⟩⟩
 obtain⟨e,e1,e2⟩:=rr
 have e3:∃ms:List Str,(List.replicate e.toNat [V.str "both",.str "meet"]).flatten=ms.map V.str/\ms.length<=2/\∀s∈ms,1<=d/\(s="both"\/s="meet"):=by
  rcases e2 with⟨_,h⟩ | ⟨_,h1,h⟩
  ·exact⟨[],h,by decide,λs hs=>by cases hs⟩
  ·exact⟨["both","meet"],h,by decide,λs hs=>⟨h1,by simpa using hs⟩⟩
 obtain⟨ms,em,lm,pm⟩:=e3
 have Ur:e=0\/e=1:=by rcases e2 with⟨h,_⟩ | ⟨h,_⟩; exact .inl h; exact .inr h
 refine⟨_,rfl,_,_,rfl,rfl,.inr ⟨_,rfl,B1,_,_,rfl,rfl,eB,?_⟩⟩
 rw [e1]
 have ez:[V.str "both",V.str "meet"].length*e.toNat<=sizeLine:=by
  have:e.toNat<=1:=by omega
  exact UE (Nat.mul_le_mul_left 2 this) (by decide)
 refine⟨by omega,by omega,ez,λB2 hB2=>?_⟩
 rw [em]
 have P5:=Pc.new (o:=.lst (ms.map V.str)) hB2
 have T9:=aj hB2 (.lst (ms.map V.str))
 have lk:(ij.take k).length<=12:=by rw [U6]; exact UE (Nat.min_le_left _ _) k12
 refine⟨S,B2,_,_,rfl,rfl,T9 _ _ eS,ag,?_,λC hC=>ak ?_⟩
 ·rw [UI,UI]
  exact UE (show _<=14 by omega) (by decide)
 rw [←UK]
 have gC:=P5.new (o:=.lst ((ij.take k++ms).map V.str)) hC
 have eC:upd (upd H1 B2 (.lst (ms.map V.str))) C (.lst ((ij.take k++ms).map V.str)) C=some (.lst ((ij.take k++ms).map V.str)):=ag
 revert gC eC
 generalize upd (upd H1 B2 (.lst (ms.map V.str))) C (.lst ((ij.take k++ms).map V.str))=H2
 intro gC eC
 dsimp only
 have ln:(ij.take k++ms).length<=14/\1<=(ij.take k++ms).length:=by
  rw [UJ]
  have:1<=(ij.take k).length:=by rw [U6]; exact Nat.le_min.mpr ⟨k1,by decide⟩
  omega
 have cls:∀s∈ij.take k++ms,s∈ij\/(1<=d/\(s="both"\/s="meet")):=by
  intro s hs
  rcases UZ.mp hs with z | z
  ·exact .inl (List.mem_of_mem_take z)
  ·exact .inr (pm s z)
 revert eC
 generalize ij.take k++ms=ns at ln cls
 intro eC
 refine⟨_,rfl,_,rfl,_,rfl,C,_,rfl,.inl (aZ.of eC),p,_,rfl,gC.cf,?_,?_,λe H3 g3 a3 b3=>?_⟩
 ·rw [UI]; omega
 ·rw [UI]; exact ra (by omega) (by omega)
 rw [UI]at b3
 have Kv:=gC.trans g3
 have nC:=P5.ne hC
 obtain⟨j,rfl⟩ :∃j:Nat,e=j:=⟨e.toNat,by omega⟩
 have hi:j<ns.length:=by omega
 obtain⟨wd,Qm⟩ :∃wd,ns[j]? = some wd:=⟨_,UN hi⟩
 have hc:=cls wd (UP Qm)
 refine⟨C,_,_,.str wd,rfl,rfl,aZ.of (g3.keep C _ nC eC),av (by rw [U5,Qm]; rfl),ak ?_⟩
 dsimp only
 have IF:=hH.grow hP Kv
 refine⟨_,rfl,sF,λD1 hD1=>⟨D1,mL,rfl,.inl (aZ.of ag),rfl,rfl,_,rfl,?_⟩⟩
 have g4:=Kv.new (o:=.lst mL) hD1
 have JT:=IF.same (aj hD1 (.lst mL))
 rcases hc with hc | ⟨hd1,hc⟩
 ·rcases Bx hc with⟨c1,c2⟩ | ⟨c1,c2,c3⟩
  ·refine DA c2 ⟨_,rfl,_,rfl,_,rfl,p,b,h,wd,rfl,g4.cf,JT,c1,λt x H' g' hx hdr _=>q t (.one x) H' (g4.trans g') (D7.all hx hdr)⟩
  ·refine sZ c2 (aG ?_)
   dsimp only
   refine⟨_,rfl,cJ,λD2 hD2=>⟨D2,Dm,rfl,.inl (aZ.of ag),rfl,rfl,_,rfl,sZ c3 (aG ⟨_,rfl,_,rfl,_,rfl,p,b,h,wd,rfl,?_,JT.same (aj hD2 _),c1,λt x H' g' hx hdr _=>q t (.one x) H' ((g4.new hD2).trans g') (D7.all hx hdr)⟩)⟩⟩
   exact(g4.new hD2).cf
 ·obtain⟨c2,c3⟩:=Jr hc
  refine sZ c2 (aG ?_)
  dsimp only
  refine⟨_,rfl,cJ,λD2 hD2=>⟨D2,Dm,rfl,.inl (aZ.of ag),rfl,rfl,_,rfl,DA c3 ⟨_,rfl,_,rfl,_,rfl,_,rfl,p,b,h,d,wd,rfl,?_,JT.same (aj hD2 _),hd1,NF,hc,λt x H' g' hx=>q t x H' ((g4.new hD2).trans g') hx⟩⟩⟩
  exact(g4.new hD2).cf
theorem By{h:Hd}{ws:List Wk}{h':Hd}{f':Fl}{n:Nat}(h6:h.length<=6)(h1:1<=h.length)(hd:tF n ws)(er:j9 n h ws=.ok h' f'):1<=h'.length/\h'.length<=6:=by
 have hne:h≠[]:=λe=>by rw [e]at h1; cases h1
 have:=IM hd hne er
 exact⟨Nat.pos_of_ne_zero λz=>this (List.eq_nil_of_length_eq_zero z),zb h6 er⟩
abbrev gy:Stmt:=top 81
theorem cI:az ["_law_pot_here","_law_head","_law_deep","_law_many_here","_law_simple","_law_pipe_here","_law_here","_law_k","_law_longer","_law_tale"] ["_law_pot_here","_law_head","_law_deep","_law_many_here","_law_simple"] (ar gy):=fs
theorem ot{N L Lj:Nat}(hN:N<=2)(h5:5<=L)(Ud:Lj<=L)(B:jU mg)(B2:iL mg)(F:FA K mg "_law_pipe" gy)
  (qk:bc bf P w K mg base L "_law_worker" ["_law_pot_here","_law_head","_law_deep","_law_simple"] (zg K N))
  (dR:bc bf P w K mg base Lj "_law_judged" ["_law_head","_law_pipe_here"] (yO 2))
  (bu:bc bf P w K mg base 1 "_law_draw" ["_law_pot_here","_law_many_here"] dv) :
  bc bf P w K mg base (L+1) "_law_pipe" ["_law_pot_here","_law_head","_law_deep","_law_many_here","_law_simple"] (lC K (N+1)):=by
 refine F.ok cI λf cdv A outer s H vs Q E hr h=>?_
 obtain⟨p,b,h,d,m,si,rfl,hP,hH,NF,hm,q⟩:=h
 refine⟨_,(aq (aL (i:=5) cI.nd rfl (Or.inl rfl) (aJ ah))
   (aq (aL (i:=6) cI.nd rfl (Or.inl rfl) (pv 1))
   (aq (gH PassesOwn.never rfl (dm rfl B.range (ae (pv 3) ah)) (bT (i:=7) cI.nd rfl (Or.inl rfl))
    (aq (aL (i:=8) cI.nd rfl (Or.inl rfl) (aF b9 (pv 5) (aJ (ae (ay qk hr (ae (pv 0) (ae (pv 6) (ae (pv 2) (ae (pv 4) ah))))) ah))))
     (aq (aL (i:=9) cI.nd rfl (Or.inl rfl) (ay dR hr (ae (pv 1) (ae (pv 8) ah))))
     (bK (dy (PW.pt (BL (aW aP (aA K (pv 9) ai) ao) (Bi (aW aP (ay bu hr (ae (pv 0) (ae ai ah))) ai))))
      (aq (aL (i:=5) cI.nd rfl (Or.inl rfl) (pv 8))
       (bK (aL (i:=6) cI.nd rfl (Or.inl rfl) (aA K (aF b9 (aF vy (cu c_ (pv 9) (cB ai) (cB ai)) (aV cA rfl B2.int PyProof.Rows.boot_int (ae (bU aP (aA K (pv 9) ai) ao) ah))) (aJ (ae (pv 6) ah))) ai))))
      cb)))))
   (ax (pv 5))))),?_⟩
 refine⟨wt,λu0 hu0=>ak ⟨_,rfl,ak ?_⟩⟩
 have s0:=aj hu0 (.tup [])
 have g0:=bo.same hP s0
 have e0:upd H u0 (.tup []) u0=some (.tup []):=ag
 revert s0 g0 e0
 generalize upd H u0 (.tup [])=H0
 intro s0 g0 e0
 dsimp only
 refine⟨_,rfl,m,rfl,by omega,by omega,?_⟩
 have p0:bN d H0 u0 []:=by
  refine⟨⟨[],e0,rfl,λi a x e1 e2=>by cases e1⟩,?_,?_⟩
  ·cases d <;> exact⟨by decide,λx hx=>by cases hx⟩
  ·cases d <;> exact λx hx=>by cases hx
 refine fL (n:=m) (λi σ H'=>∃(u bh:Addr) (ws:List Wk) (hh:Hd),(∃o7 o8 o9,σ=[some (.ref p),some (.ref b),some (.int d),some (.int m),some (.bl si),some (.ref u),some (.ref bh),o7,o8,o9])/\bo p H H'/\bN d H' u ws/\ws.length<=i/\cU K H' bh hh)
  ⟨u0,b,[],h,⟨none,none,none,rfl⟩,g0,p0,UD _,hH.same s0⟩ ?_ ?_
 ·rintro i σ H' hi ⟨u,bh,ws,hh,⟨o7,o8,o9,rfl⟩,g,hp,hl,NR⟩
  refine ak ⟨_,rfl,_,rfl,_,rfl,_,rfl,_,rfl,p,bh,hh,d,si,rfl,g.cf,NR,NF,λwa x H1 g1 hx=>⟨dP,λt1 ht1=>?_⟩⟩
  have k1:=aE.grow g.cf g1
  have hp1:=hp.keep k1
  obtain⟨bs,hb⟩:=hp1.pp
  have sT:=aj ht1 (.tup [.ref wa])
  refine⟨u,t1,_,_,rfl,rfl,sT _ _ hb.tup,ag,?_,λv H2 s2 hv=>ak ?_⟩
  ·rw [UI,hb.len]
   exact UE (show ws.length+1<=20 by omega) (by decide)
  have s12:=sT.trans s2
  have Gy:=(g.trans g1)
  have g2:=Gy.trans (bo.same Gy.cf s12)
  have k2:=aE.of s12
  have hb2:bP (dk d) H2 u bs ws:=hb.keep k2 λ_ _ z=>z.keep k2
  have hx2:pN d H2 wa x:=⟨hx.wk.keep k2,hx.ok,hx.dr,hx.pm,hx.br⟩
  have hp2:bN d H2 v (ws++[x]):=bN.snoc hb2 hp1.ok hp1.dr hx2 (by omega) (by rw [hv,UK]; rfl)
  have hH2:=hH.grow hP g2
  have Ss:=NR.grow g.cf (g1.trans (bo.same Gy.cf s12))
  have Pw:=s12
  clear hb2 hx2 k2 s12 sT hb hp1 k1
  dsimp only
  have hq2:=hp2.le (m:=2) (by omega)
  refine⟨_,rfl,_,rfl,b,v,h,ws++[x],rfl,⟨hH2.tup,hq2.pp,hq2.ok,hq2.dr,hH2.few⟩,by decide,Bt,λt3 H3 s3 hR=>ak ?_⟩
  have g3:=g2.trans (bo.same g2.cf s3)
  have hp3:=hp2.keep (aE.of s3)
  have hh3:=Ss.same s3
  have hl3:(ws++[x]).length<=i+1:=by rw [UJ]; exact Nat.succ_le_succ hl
  dsimp only
  cases er:j9 2 h (ws++[x])with
  | ok h' f' =>
   rw [er]at hR
   obtain⟨a1,a2,r1,r2,r3⟩:=hR
   refine⟨_,rfl,t3,_,0,_,rfl,rfl,aH.of r1,av (j:=0) rfl,rfl,_,rfl,?_⟩
   rw [bL,UH rfl]
   refine bY (bY ⟨_,rfl,ak ⟨_,rfl,_,rfl,_,rfl,t3,_,rfl,r1,λt4 H4 s4 A4=>⟨_,rfl,t3,_,0,_,rfl,rfl,aH.of (s4 _ _ r1),av (j:=0) rfl,rfl,.inr ⟨_,rfl,t4,1,[.ref a1],rfl,?_⟩⟩⟩⟩)
   refine⟨by rw [bL,UH rfl]; rfl,aH.of A4,by simp,.inr ⟨rfl,_,rfl,dP,λt5 OM=>?_⟩⟩
   have s5:=aj OM (.tup [.ref bh])
   refine⟨t4,t5,_,_,rfl,rfl,s5 _ _ A4,ag,cJ,λt6 H6 s6 HA=>⟨t6,_,0,.ref a1,rfl,rfl,aH.of HA,rfl,ak ?_⟩⟩
   have Jm:=(s4.trans s5).trans s6
   obtain⟨z1,z2⟩:=By hH2.few hH2.pos hq2.dr er
   exact⟨v,a1,ws++[x],h',⟨_,_,_,rfl⟩,g3.trans (bo.same g3.cf Jm),hp3.keep (aE.of Jm),hl3,⟨Jm _ _ r2,z1,z2⟩⟩
  | no pl sl =>
   rw [er]at hR
   obtain⟨a1,r1,r2⟩:=hR
   refine⟨_,rfl,t3,_,0,_,rfl,rfl,aH.of r1,av (j:=0) rfl,rfl,_,rfl,?_⟩
   rw [bL,UG (by decide +kernel)]
   refine bB ⟨_,rfl,p,_,rfl,g3.cf,by decide,by decide,λe4 H4 g4 a4 b4=>⟨rfl,_,rfl,?_⟩⟩
   have LV:=g3.trans g4
   have k4:=aE.grow g3.cf g4
   have r1:=k4 _ _ r1
   have S9:=hp3.keep k4
   have QS:=hh3.grow g3.cf g4
   refine cG (λ_=>⟨_,rfl,ak ⟨_,rfl,_,rfl,_,rfl,t3,_,rfl,r1,λt4 H4 s4 A4=>⟨_,rfl,t3,_,0,_,rfl,rfl,aH.of (s4 _ _ r1),av (j:=0) rfl,rfl,.inr ⟨_,rfl,t4,0,[.ref a1],rfl,?_⟩⟩⟩⟩) (λ_=>aG ?_)
   ·refine⟨by rw [bL,UG (by decide +kernel)]; rfl,aH.of A4,by simp,.inl ⟨rfl,λt7 KC=>⟨_,rfl,dP,λt5 OM=>?_⟩⟩⟩
    have s7:=aj KC (.tup [])
    have s5:=aj OM (.tup [.ref bh])
    refine⟨t7,t5,_,_,rfl,rfl,s5 _ _ ag,ag,dP,λt6 H6 s6 HA=>⟨t6,_,0,.ref bh,rfl,rfl,aH.of HA,rfl,ak ?_⟩⟩
    have Jm:=((s4.trans s7).trans s5).trans s6
    exact⟨v,bh,ws++[x],hh,⟨_,_,_,rfl⟩,LV.trans (bo.same LV.cf Jm),S9.keep (aE.of Jm),hl3,QS.same Jm⟩
   ·exact⟨u,bh,ws,hh,⟨_,_,_,rfl⟩,LV,(hp.keep (aE.grow g.cf (g1.trans (bo.same Gy.cf (Pw.trans s3))))).keep k4,Nat.le_succ_of_le hl,QS⟩
 ·rintro σ H' ⟨u,bh,ws,hh,⟨o7,o8,o9,rfl⟩,g,hp,hl,NR⟩
  exact⟨_,rfl,q u ws H' g hp hl⟩
theorem MP{vs:List V}{b c:V}:i_ (vs++[b,c]) (-2)=some b:=by
 unfold i_
 have:v7 (vs++[b,c]).length (-2)=some vs.length:=by
  unfold v7
  rw [UJ]
  simp
  omega
 rw [this]
 show(vs++[b,c])[vs.length]? = _
 rw [U3 (UD _),Nat.sub_self]
 rfl
theorem Mz{vs:List V}{b c:V}:i_ (vs++[b,c]) (-1)=some c:=by
 unfold i_
 have:v7 (vs++[b,c]).length (-1)=some (vs.length+1):=by
  unfold v7
  rw [UJ]
  simp
  omega
 rw [this]
 show(vs++[b,c])[vs.length+1]? = _
 rw [U3 (Nat.le_succ _),Nat.succ_sub (UD _),Nat.sub_self]
 rfl
def m5:Nat->Sp
 | 0=>λ_ _ _ _=>False
 | n+1=>λvs H Q _=>∃(p:Addr) (ws:List Wk),vs=[.ref p]/\jo n H p ws/\∀(c:Int) (H':Hp),aM H H'->(ws=[]->c=0)->Q (.int c) H'
abbrev gA:Stmt:=top 82
theorem dI:az ["_law_pipe_here","_law_many_here","_law_worker_here"] ["_law_pipe_here"] (ar gA):=fs
theorem pL{n L:Nat}(F:FA K mg "_law_many" gA)
  (gD:bc bf P w K mg base L "_law_many" ["_law_pipe_here"] (m5 n)) :
  bc bf P w K mg base (L+1) "_law_many" ["_law_pipe_here"] (m5 (n+1)):=by
 refine F.ok dI λf cdv A outer s H vs Q E hr h=>?_
 obtain⟨p,ws,rfl,hp,q⟩:=h
 refine⟨_,(aq (aL (i:=1) dI.nd rfl (Or.inl rfl) ai)
   (aq (gH PassesOwn.never rfl (cM (pv 0)) (bT (i:=2) dI.nd rfl (Or.inl rfl))
    (aq (aL (i:=1) dI.nd rfl (Or.inl rfl) (aF cY (pv 1) ai))
     (bK (dy (dc cn (aA K (pv 2) ai) (aQ (ae ao (ae ao ah))) rfl)
      (bK (aL (i:=1) dI.nd rfl (Or.inl rfl) (aF cY (aF cY (pv 1) (ay gD hr (ae (aA K (pv 2) (rj l0 ai)) ah))) (ay gD hr (ae (aA K (pv 2) (rj l0 ai)) ah)))))
      cb))))
   (ax (pv 1)))),?_⟩
 obtain⟨bs,hb⟩:=hp
 refine ak ⟨_,rfl,p,rfl,⟨_,aH.of hb.tup⟩,?_⟩
 refine E5 (xs:=bs.map V.ref) (λi σ H'=>∃c:Int,(∃o2,σ=[some (.ref p),some (.int c),o2])/\aM H H'/\(i=0->c=0)) ?_ ?_ ?_ ?_
 ·exact⟨0,⟨none,rfl⟩,aM.refl _,λ_=>rfl⟩
 ·rintro i σ H' _ ⟨c,_,s,_⟩
  exact aH.of (s _ _ hb.tup)
 ·rintro i v σ H' hv ⟨c,⟨o2,rfl⟩,s,_⟩
  obtain⟨a,x,rfl,ex,hx⟩:=hb.get hv
  refine ak ⟨_,rfl,_,_,rfl,rfl,ak ?_⟩
  dsimp only
  have hx1:=hx.keep (aE.of s)
  obtain⟨xs,hxs⟩:=hx1.first
  refine⟨_,rfl,a,_,0,_,rfl,rfl,aH.of hxs,av (j:=0) rfl,cJ,λR hR=>⟨R,Dm,rfl,.inl (aZ.of ag),rfl,rfl,_,rfl,?_⟩⟩
  have sR:=s.trans (aj hR (.lst [V.str "both",.str "meet"]))
  revert sR
  generalize upd H' R (.lst [V.str "both",.str "meet"])=H1
  intro sR
  cases hbr:bZ x with
  | false=>exact sZ (y3.trans hbr) (aG ⟨_,⟨_,rfl⟩,sR,λz=>by cases z⟩)
  | true =>
   refine DA (y3.trans hbr) ?_
   cases n with
   | zero=>rw [JS hx]at hbr; cases hbr
   | succ n =>
    obtain⟨vs,b,e,p1,p2,h1,h2,h3,h4⟩:=Cp hx hbr
    refine⟨_,rfl,_,rfl,_,rfl,a,_,_,_,rfl,rfl,aH.of (sR _ _ h1),MP,b,p1,rfl,h3.keep (aE.of sR),λc1 H2 s2 _=>⟨_,_,rfl,rfl,?_⟩⟩
    have L5:=sR.trans s2
    refine⟨_,rfl,_,rfl,a,_,_,_,rfl,rfl,aH.of (L5 _ _ h1),Mz,e,p2,rfl,h4.keep (aE.of L5),λc2 H3 s3 _=>⟨_,_,rfl,rfl,ak ⟨_,⟨_,rfl⟩,L5.trans s3,λz=>by cases z⟩⟩⟩
 ·rintro σ H' ⟨c,⟨o2,rfl⟩,s,hc⟩
  refine⟨_,rfl,q c H' s λz=>hc ?_⟩
  rw [UI,hb.len,z]
  rfl
theorem CJ{L:Nat}(F:FA K mg "_law_many" gA):bc bf P w K mg base (L+1) "_law_many" ["_law_pipe_here"] (m5 0) :=
 F.ok dI λ_ _ _ _ _ _ _ _ _ _ h=>False.elim h
theorem Ds{L:Nat}(F:FA K mg "_law_pipe" gy):bc bf P w K mg base (L+1) "_law_pipe" ["_law_pot_here","_law_head","_law_deep","_law_many_here","_law_simple"] (lC K 0) :=
 F.ok cI λ_ _ _ _ _ _ _ _ _ _ h=>False.elim h
theorem CV{xs:List V}(h:xs≠[]):f_ xs none (some (-1))=xs.dropLast:=by
 have h1:1<=xs.length:=by cases xs with | nil=>exact absurd rfl h | cons _ _=>simp
 have e:HT.dH xs.length xs.length (some (-1))=xs.length-1:=by
  show(if(-1:Int)<0 then((-1:Int)+(xs.length:Int)).toNat else min (-1:Int).toNat xs.length)=_
  rw [if_pos (by decide)]
  omega
 unfold f_
 rw [e,HT.oC,Nat.sub_zero,List.drop_zero,←List.dropLast_eq_take]
theorem bN.init{n:Nat}{H:Hp}{p u:Addr}{bs:List Addr}{ws:List Wk}(hI:bP (dk n) H p bs ws)(ho:uh n ws)(hd:tF n ws)(hu:H u=some (.tup (bs.map V.ref).dropLast)):bN n H u ws.dropLast:=by
 refine⟨⟨bs.dropLast,by rw [hu,List.map_dropLast],by rw [List.length_dropLast,List.length_dropLast,hI.len],λi b y e1 e2=>?_⟩,?_,?_⟩
 ·rw [List.getElem?_dropLast]at e1 e2
  split at e1
  ·split at e2
   ·exact hI.at_ i b y e1 e2
   ·cases e2
  ·cases e1
 ·have hl:ws.dropLast.length<=9:=by rw [List.length_dropLast]; have:=ho.len; omega
  cases n with
  | zero=>exact⟨hl,λy hy=>ho.2 y (List.dropLast_subset _ hy)⟩
  | succ n=>exact⟨hl,λy hy=>ho.2 y (List.dropLast_subset _ hy)⟩
 ·cases n with
  | zero=>exact λy hy=>hd y (List.dropLast_subset _ hy)
  | succ n=>exact λy hy=>hd y (List.dropLast_subset _ hy)
def ze(K:Ve):Sp:=λvs H Q _=>∃(p:Addr),vs=[.ref p]/\dj H p/\∀(t b u:Addr) (h:Hd) (ws:List Wk) (H':Hp),bo p H H'->H' t=some (.tup [.ref b,.ref u])->cU K H' b h->bN 2 H' u ws->Q (.ref t) H'
abbrev iz:Stmt:=top 83
theorem dU:az ["_law_pot_here","_law_sorts_here","_law_head","_law_pipe_here"] ["_law_pot_here"] (ar iz):=fs
theorem Bn{L Lm:Nat}(h5:1<=L)(Ue:Lm<=L)(B:jU mg)(B2:iL mg)(F:FA K mg "_law_drawn" iz)
  (bu:bc bf P w K mg base 1 "_law_draw" ["_law_pot_here","_law_many_here"] dv)
  (gB:bc bf P w K mg base L "_law_pipe" ["_law_pot_here","_law_head","_law_deep","_law_many_here","_law_simple"] (lC K 3))
  (gD:bc bf P w K mg base Lm "_law_many" ["_law_pipe_here"] (m5 3)) :
  bc bf P w K mg base (L+1) "_law_drawn" ["_law_pot_here"] (ze K):=by
 refine F.ok dU λf cdv A outer s H vs Q E hr h=>?_
 obtain⟨p,rfl,hP,q⟩:=h
 refine⟨_,(aq (kl (i:=1) (N':=["_law_k","_law_pot_here"]) (src:=[none,some 0]) dU.nd rfl (Or.inl rfl) rfl rfl (ba.jK (by kernel_rfl)) (dm rfl B.range (ae (aF cY ai (ay bu hr (ae (pv 0) (ae ai ah)))) ah)) (λcl C s H fp=>(eA (i:=0))) (λcl C s H fp=>aX) (te:=(gE (xy K) (xR (bp (tC (.str "n")) (bp (tC (.str "w")) (bp (tC (.str "n")) (bp (tC (.str "w")) (bp (tC (.str "n")) (bp (tC (.str "w")) (bp (tC (.str "t")) fD)))))))) (i4 dv [] E0 (bp (bx 1) (bp (tC (.int 7)) fD))))) (λcl C s H fp=>(bj K (aQ (ae ao (ae ao (ae ao (ae ao (ae ao (ae ao (ae ao ah)))))))) (ay (hg:=xA) bu hr (ae (yV 1) (ae ai ah))))))
   (aq (aL (i:=2) dU.nd rfl (Or.inl rfl) (aV bA rfl B.tuple PyProof.Rows.boot_tuple (ae (aF og (pv 1) (aF ya (aF ya (aQ (ae ao ah)) (aV cA rfl B2.int PyProof.Rows.boot_int (ae (bU aP (ay bu hr (ae (pv 0) (ae ai ah))) ai) ah))) ai)) ah)))
   (aq (aL (i:=3) dU.nd rfl (Or.inl rfl) (ay gB hr (ae (pv 0) (ae (pv 2) (ae ai (ae (bj K (aQ (ae (ay bu hr (ae (pv 0) (ae ai ah))) (ae (ay bu hr (ae (pv 0) (ae ai ah))) ah))) (ay bu hr (ae (pv 0) (ae ai ah)))) (ae fY ah)))))))
   (aq (BP PassesOwn.never (aW ie (ay gD hr (ae (pv 3) ah)) ai)
    (bK (aL (i:=3) dU.nd rfl (Or.inl rfl) (cu c_ (pv 3) dz (cB (rj l0 ai))))))
   (ax (aJ (ae (pv 2) (ae (pv 3) ah)))))))),?_⟩
 have g0:=bo.refl hP
 refine⟨_,rfl,p,_,rfl,hP,by decide,by decide,λe1 H1 g1 a1 b1=>⟨_,_,rfl,rfl,?_⟩⟩
 refine⟨_,rfl,(jQ (by omega) (by omega)).1,(jQ (by omega) (by omega)).2,λDl hD=>?_⟩
 have nD:=g1.ne hD
 refine iV (n:=(1+e1).toNat) (λi σ ys H'=>(∃o,σ=[o,some (.ref p)])/\(∃ns:List Str,ys=ns.map V.str/\ns.length=i)/\H' Dl=some (.lst ys)/\bo p H H')
  ⟨⟨none,rfl⟩,⟨[],rfl,rfl⟩,ag,g1.new hD⟩ ?_ ?_ ?_ ?_
 ·rintro i σ ys H' _ ⟨_,⟨ns,rfl,rfl⟩,h,_⟩
  exact⟨h,by rw [UI]; exact UD _⟩
 ·exact UE (show(1+e1).toNat<=10 by omega) (by decide)
 ·rintro i σ ys H' hi ⟨⟨o,rfl⟩,⟨ns,rfl,rfl⟩,h,g⟩
  refine⟨Om,λR hR=>?_⟩
  have gr:=g.new (o:=.lst [V.str "n",.str "w",.str "n",.str "w",.str "n",.str "w",.str "t"]) hR
  refine⟨_,rfl,p,_,rfl,gr.cf,by decide,by decide,λe2 H2 g2 a2 b2=>?_⟩
  have hk:=g2.keep R _ (g.ne hR) ag
  have hk2:=g2.keep Dl _ nD ((aj hR _) _ _ h)
  have hz:∃z:Str,i_ [V.str "n",.str "w",.str "n",.str "w",.str "n",.str "w",.str "t"] e2=some (.str z):=by
   have:e2=0\/e2=1\/e2=2\/e2=3\/e2=4\/e2=5\/e2=6:=by omega
   rcases this with z | z | z | z | z | z | z <;> subst z <;> exact⟨_,rfl⟩
  obtain⟨z,hz⟩:=hz
  refine⟨R,_,_,_,rfl,rfl,aZ.of hk,hz,hk2,⟨_,rfl⟩,⟨ns++[z],by rw [UK]; rfl,by rw [UJ]; rfl⟩,ag,?_⟩
  exact g1.put hD nD (gr.trans g2)
 ·rintro σ ys H' ⟨_,⟨ns,rfl,hl⟩,h,g⟩
  refine ak ?_
  dsimp only
  refine⟨_,rfl,dP,λR hR=>?_⟩
  have nR:=g.ne hR
  have gR:=g.new (o:=.lst [V.str "w"]) hR
  refine⟨_,rfl,p,_,rfl,gR.cf,by decide,by decide,λe2 H2 g2 a2 b2=>⟨rfl,.inr ⟨_,rfl,?_⟩⟩⟩
  have Ra:=gR.trans g2
  have yN:=g2.keep R _ nR (ag (H:=H') (a:=R) (o:=.lst [V.str "w"]))
  have hD2:=g2.keep Dl _ nD ((aj hR (.lst [V.str "w"])) _ _ h)
  have hH2:∃e:Int,(if decide (V.int e2=V.int 8)=true then(1:Int)else 0)=e/\0<=e/\e<=1/\∃ms:List Str,(List.replicate e.toNat [V.str "w"]).flatten=ms.map V.str/\ms.length<=1:=by
   cases decide (V.int e2=V.int 8)
   ·exact⟨0,rfl,by decide,by decide,[],rfl,by decide⟩
   ·exact⟨1,rfl,by decide,by decide,["w"],rfl,by decide⟩
  obtain⟨e,ee,e0,e1',ms,em,lm⟩:=hH2
  rw [ee]
  have ez:[V.str "w"].length*e.toNat<=sizeLine:=by
   have:e.toNat<=1:=by omega
   exact UE (Nat.mul_le_mul_left 1 this) (by decide)
  refine⟨R,e,_,rfl,rfl,yN,by omega,by omega,ez,λR3 OO=>?_⟩
  rw [em]
  have s3:=aj OO (.lst (ms.map V.str))
  refine⟨R3,2,_,rfl,rfl,ag,by decide,by decide,(by rw [UI]; exact UE (Nat.mul_le_mul_right 2 lm) (by decide)),λR4 Te=>?_⟩
  have T5:(List.replicate (2:Int).toNat (ms.map V.str)).flatten=(ms++ms).map V.str:=by
   rw [UK]
   show ms.map V.str++(ms.map V.str++[])=_
   rw [List.append_nil]
  rw [T5]
  have s4:=aj Te (.lst ((ms++ms).map V.str))
  refine⟨Dl,R4,_,_,rfl,rfl,s4 _ _ (s3 _ _ hD2),ag,?_,λC hC=>?_⟩
  ·rw [UI,UI,UJ]
   exact UE (show _<=20 by omega) (by decide)
  rw [←UK]
  have s5:=aj hC (.lst ((ns++(ms++ms)).map V.str))
  refine⟨C,_,rfl,.inl ⟨aZ.of ag,λa ha=>ak ?_⟩⟩
  have s6:=aj ha (.tup ((ns++(ms++ms)).map V.str))
  have g6:=Ra.trans (bo.same Ra.cf (((s3.trans s4).trans s5).trans s6))
  have hlen:(ns++(ms++ms)).length=ns.length+(ms.length+ms.length):=by rw [UJ,UJ]
  have hh:cU K (upd (upd (upd (upd H2 R3 (.lst (ms.map V.str))) R4 (.lst ((ms++ms).map V.str))) C (.lst ((ns++(ms++ms)).map V.str))) a (.tup ((ns++(ms++ms)).map V.str))) a (ns++(ms++ms)):=⟨ag,by omega,by omega⟩
  revert g6 hh
  generalize upd (upd (upd (upd H2 R3 (.lst (ms.map V.str))) R4 (.lst ((ms++ms).map V.str))) C (.lst ((ns++(ms++ms)).map V.str))) a (.tup ((ns++(ms++ms)).map V.str))=H6
  generalize ns++(ms++ms)=hd
  intro g6 hh
  dsimp only
  refine⟨_,rfl,_,rfl,?_⟩
  refine⟨_,rfl,p,_,rfl,g6.cf,by decide,by decide,λm1 H7 g7 a7 b7=>?_⟩
  have k7:=g6.trans g7
  refine⟨_,rfl,p,_,rfl,k7.cf,by decide,by decide,λm2 H8 g8 a8 b8=>?_⟩
  have k8:=k7.trans g8
  refine⟨cJ,λR9 Hg=>?_⟩
  have k9:=k8.new (o:=.lst [.int m1,.int m2]) Hg
  refine⟨_,rfl,p,_,rfl,k9.cf,by decide,by decide,λm3 AF HC a10 b10=>?_⟩
  have k10:=k9.trans HC
  have hk:=HC.keep R9 _ (k8.ne Hg) ag
  have hz:∃z:Nat,i_ [V.int m1,V.int m2] m3=some (.int z)/\z<=9:=by
   have:m3=0\/m3=1:=by omega
   rcases this with z | z <;> subst z
   ·exact⟨m1.toNat,by rw [show((m1.toNat:Nat):Int)=m1 by omega]; rfl,by omega⟩
   ·exact⟨m2.toNat,by rw [show((m2.toNat:Nat):Int)=m2 by omega]; rfl,by omega⟩
  obtain⟨z,hz,z9⟩:=hz
  refine⟨R9,_,_,_,rfl,rfl,aZ.of hk,hz,?_⟩
  have MZ:=hh.grow g6.cf ((g7.trans g8).trans ((bo.refl k8.cf).new Hg |>.trans HC))
  refine⟨p,a,hd,2,z,false,rfl,k10.cf,MZ,by decide,z9,λu ws PK NA OY _=>ak ?_⟩
  have k11:=k10.trans NA
  have Of:=MZ.grow k10.cf NA
  dsimp only
  refine⟨λm σ H'=>∃u ws,σ=[some (.ref p),some (.ref Dl),some (.ref a),some (.ref u)]/\ws.length=m/\bN 2 H' u ws/\cU K H' a hd/\bo p H H',⟨_,u,ws,rfl,rfl,OY,Of,k11⟩,?_⟩
  rintro m σ H' ⟨u,ws,rfl,hm,hp,hh,g⟩
  obtain⟨bs,hb⟩:=hp.pp
  refine⟨_,rfl,u,ws,rfl,⟨bs,hb⟩,λc H7 s7 hc=>?_⟩
  refine⟨_,_,rfl,rfl,_,rfl,?_⟩
  have g7:=g.trans (bo.same g.cf s7)
  have Qd:=hh.same s7
  refine cG (λcc=>?_) (λcc=>?_)
  ·have Ul:(20:Int)<c:=by simpa using cc
   have hne:ws≠[]:=λz=>by
    have:=hc z
    omega
   have wl:1<=ws.length:=by cases ws with | nil=>exact absurd rfl hne | cons _ _=>simp
   have TL:bs.map V.ref≠[]:=λz=>by
    have:=congrArg List.length z
    rw [UI,hb.len]at this
    exact hne (List.eq_nil_of_length_eq_zero this)
   refine⟨λσ' IS=>∃m',m'<m/\∃u ws,σ'=[some (.ref p),some (.ref Dl),some (.ref a),some (.ref u)]/\ws.length=m'/\bN 2 IS u ws/\cU K IS a hd/\bo p H IS,λσ' IS z=>z,?_⟩
   refine⟨_,rfl,_,rfl,_,rfl,u,_,rfl,s7 _ _ hb.tup,λv H8 s8 hv=>ak ?_⟩
   rw [CV TL]at hv
   have Nc:=s7.trans s8
   have Qy:=aE.of Nc
   exact⟨ws.length-1,by omega,v,ws.dropLast,rfl,by rw [List.length_dropLast],bN.init (hb.keep Qy λ_ _ z=>z.keep Qy) hp.ok hp.dr hv,Qd.same s8,g7.trans (bo.same g7.cf s8)⟩
  ·refine⟨_,rfl,_,rfl,cJ,λt ht=>?_⟩
   have sT:=aj ht (.tup [.ref a,.ref u])
   exact q t a u hd ws _ (g7.new ht) ag (Qd.same sT) (hp.keep (aE.of (s7.trans sT)))
theorem vC{X:Cx}{K:Ve}{o:Expr}{ta:TE}{f:Str}{pos:Pos}(e:X.K=K)(he:PE X o ta)(hb:attributeBase o f X.env (eval o X.env)=eval o X.env):PE X (.Attribute o f pos) (G_ K ta f):=by subst e; exact Gi he hb
theorem four{α:Type}{l:List α}(h:l.length=4):∃a b c d,l=[a,b,c,d]:=match l,h with | [a,b,c,d],_=>⟨a,b,c,d,rfl⟩
theorem Kh{v1 v2:V}:(AK v1 v2).lookup ("place" : Str)=some v1:=by rw [el,if_neg (by decide),el,if_pos rfl]
theorem Jp{v1 v2:V}:(AK v1 v2).lookup ("why" : Str)=some v2:=by rw [el,if_pos rfl]
def LJ(K:Ve):List V->Hp->VK->Prop:=λxs H Q=>∃x cv t c b,xs=[x,cv]/\PZ cv c/\(km K H x t\/∃a C,x=.ref a/\t=.ref C/\OJ K H a C)/\PySem.W.kitOne K t c=some b/\Q (.bl b) H
theorem vW{X:Cx}{K:Ve}(e:X.K=K):fq X (.builtin "isinstance") (LJ K):=by subst e; exact u_
structure Lw(K:Ve)(mg:Str->Option Value)(C PE:Addr):Prop where
 kp:PySem.W.kitOne K (.ref C) (.ref PE)=some true
 kv:PySem.W.kitOne K (.ref C) (.type "ValueError")=some true
 mP:mg "PipeError"=some (.ref PE)
 mV:mg "ValueError"=none
def GW(H:Hp)(u:Addr):Res->Prop
 | .ok h _=>∃a,H u=some (.tup [.str "head",.ref a])/\dX H a h
 | .no p s=>∃a,H u=some (.tup [.str "no",.ref a,.str s])/\H a=some (.tup (p.map V.int))
def GL:Sp:=λvs H Q _=>∃(b p:Addr) (h:Hd) (ws:List Wk),vs=[.ref b,.ref p]/\zu 2 H b p h ws/\∀(u:Addr) (H':Hp),aM H H'->GW H' u (j9 2 h ws)->Q (.ref u) H'
abbrev iZ:Stmt:=top 84
theorem gP:az ["_law_head","_law_pipe_here","_law_found","e"] ["_law_head","_law_pipe_here"] (ar iZ):=fs
theorem Cg{L:Nat}{C fI PE:Addr}(B:jU mg)(Cf:HQ K mg C fI)(T:Lw K mg C PE)(em:PySem.W.exmOne K (.ref C) (.ref C)=some true)(F:FA K mg "_law_asked" iZ)
  (qN:bc (AE P w) P w K mg base L "head_behind" ["head","pipe"] (MR C 2)) :
  bc bf P w K mg base (L+1) "_law_asked" ["_law_head","_law_pipe_here"] GL:=by
 refine F.ok gP λf cdv A outer s H vs Q E hr h=>?_
 have hu:=iW hr
 obtain⟨b,p,h,ws,rfl,hI,q⟩:=h
 refine⟨_,(aq (Kj (E:=(λCv oa H'=>Cv=.ref C/\∃(e dx pl:Addr) (ps:List Int) (sl:Str),oa=some e/\aM H H'/\H' e=some (xO e C (some dx))/\H' dx=some (xD dx (AK (.ref pl) (.str sl)))/\H' pl=some (.tup (ps.map V.int))/\j9 2 h ws=.no ps sl)) (i:=3) (L:=s.heap.objs.size) ⟨⟨_,_,rfl,rfl⟩,rfl⟩ gP.nd rfl rfl rfl Cf.mf (λpins=>(bK (aL (i:=2) gP.nd rfl (Or.inl rfl) (uy qN hr rfl yE (ae (pv 0) (ae (pv 1) ah))))))
    (λe=>(ax (eM (PW.pt (j7 (fw (a_ (vW (K:=K) rfl) rfl B.isinstance PyProof.Rows.boot_isinstance (ae (pv 3) (ae (Ib rfl T.mP) ah)))) (iT (fw (a_ (vW (K:=K) rfl) rfl B.isinstance PyProof.Rows.boot_isinstance (ae (pv 3) (ae (xr (n:="ValueError") rfl T.mV (by decide +kernel)) ah))))))) (aJ (ae ao (ae (vC (K:=K) rfl (pv 3) rfl) (ae (vC (K:=K) rfl (pv 3) rfl) ah)))) (aJ (ae ao ah))))))
   (ax (aJ (ae ao (ae (pv 2) ah))))),?_⟩
 refine⟨?_,?_⟩
 ·refine⟨_,rfl,_,rfl,b,p,h,ws,rfl,⟨hI.hd,hI.six,hI.pp,hI.ok⟩,by decide,Bt,?_,?_⟩
  ·intro ps sl er e dx pl H1 s1 z1 z2 z3
   exact⟨rfl,e,dx,pl,ps,sl,rfl,s1,z1,z2,z3,er⟩
  ·intro h' f' er u H1 s1 hu'
   refine ak ⟨_,rfl,cJ,λt ht=>?_⟩
   have st:=aj ht (.tup [.str "head",.ref u])
   refine q t _ (s1.trans st) ?_
   rw [er]
   exact⟨u,ag,st _ _ hu'⟩
 ·rintro σ' C' e od H1 hl he ⟨e1,e',dx,pl,ps,sl,ea,s1,z1,z2,z3,z4⟩
  cases e1
  cases ea
  refine⟨em,?_⟩
  obtain⟨b1,b2,b3,b4,rfl⟩:=four (show σ'.length=4 from hl)
  have xa:OJ K H1 e C:=⟨Cf.xc,.inr ⟨dx,_,z1,z2⟩⟩
  refine⟨_,rfl,_,_,_,_,_,rfl,rfl,.inr ⟨e,C,rfl,rfl,xa⟩,T.kp,_,rfl,?_⟩
  refine bY ⟨_,rfl,_,_,_,_,_,rfl,rfl,.inr ⟨e,C,rfl,rfl,xa⟩,T.kv,_,rfl,?_⟩
  refine bY ⟨_,rfl,e,C,dx,_,_,rfl,z1,z2,Cf.xc,Cf.np,Kh,_,rfl,e,C,dx,_,_,rfl,z1,z2,Cf.xc,Cf.nr,Jp,gv,λt ht=>?_⟩
  have st:=aj ht (.tup [.str "no",.ref pl,.str sl])
  refine q t _ (s1.trans st) ?_
  rw [z4]
  exact⟨pl,ag,st _ _ z3⟩
theorem Kg{tc:TT}{a b:TS}{D:Ends}{σ:St}{H:Hp}(Pb:Bool->Hp->Prop)(hc:∀T:Bool->Hp->Prop,(∀c H',Pb c H'->T c H')->tc σ H T)(ha:∀H',Pb true H'->a D σ H')(hb:∀H',Pb false H'->b D σ H'):Jf tc a b D σ H :=
 hc _ λc H' p=>by
  cases c with
  | true=>exact ha H' p
  | false=>exact hb H' p
def yK(K:Ve):Sp:=λvs H Q _=>∃(a:Addr) (ns:List Int),vs=[.ref a]/\aZ K H a (ns.map V.int)/\ns.length<=63/\∀H',Q (.bl true) H'
theorem zq{p:Addr}{H0 H1 H2:Hp}(hp:H0 p=none)(s:aM H0 H1)(g:bo p H1 H2):aM H0 H2:=λb o e=>g.keep b o (aU e hp) (s _ _ e)
theorem ir{n:Nat}:∀{ds:List D},(∀d∈ds,d.depth<=n)->cw ds<=n
 | [],_=>by rw [cw]; exact U1 _
 | d::ds,h=>by
  rw [cw]
  exact Nat.max_le.mpr ⟨h d Va,ir λe he=>h e (UQ _ he)⟩
def vv:Res->D
 | .ok h _=>.tup [.str "head",.tup (h.map D.str)]
 | .no p s=>.tup [.str "no",.tup (p.map D.int),.str s]
theorem xi(p:List Int):(D.tup (p.map D.int)).depth<=1:=by
 rw [D.depth]
 have:cw (p.map D.int)<=0:=ir λd hd=>by
  obtain⟨v,_,rfl⟩:=UW.mp hd
  simp [D.depth]
 omega
theorem z0(p:List Str):(D.tup (p.map D.str)).depth<=1:=by
 rw [D.depth]
 have:cw (p.map D.str)<=0:=ir λd hd=>by
  obtain⟨v,_,rfl⟩:=UW.mp hd
  simp [D.depth]
 omega
theorem wg(r:Res):(vv r).depth<=2:=by
 cases r with
 | ok h f =>
  unfold vv
  rw [D.depth]
  have:cw [D.str "head",.tup (h.map D.str)]<=1:=ir λd hd=>by
   simp only [UX,List.not_mem_nil,or_false]at hd
   rcases hd with rfl | rfl
   ·simp [D.depth]
   ·exact z0 h
  omega
 | no p s =>
  unfold vv
  rw [D.depth]
  have:cw [D.str "no",.tup (p.map D.int),.str s]<=1:=ir λd hd=>by
   simp only [UX,List.not_mem_nil,or_false]at hd
   rcases hd with rfl | rfl | rfl
   ·simp [D.depth]
   ·exact xi p
   ·simp [D.depth]
  omega
theorem vn{K:Ve}{H:Hp}:∀(p:List Int),bH K H (p.map D.int) (p.map V.int)
 | []=>bH.nil
 | i::p=>bH.cons (yz i) (vn p)
theorem vB{K:Ve}{H:Hp}:∀(p:List Str),bH K H (p.map D.str) (p.map V.str)
 | []=>bH.nil
 | i::p=>bH.cons (gz i) (vB p)
theorem rZ{K:Ve}{H:Hp}{u a:Addr}{h:Hd}{f:Fl}(h1:H u=some (.tup [.str "head",.ref a]))(h2:dX H a h):aY K H (vv (.ok h f)) (.ref u) :=
 iU h1 (.cons (gz _) (.cons (iU h2 (vB h)) .nil))
theorem GU{K:Ve}{H:Hp}{u a:Addr}{p:List Int}{s:Str}(h1:H u=some (.tup [.str "no",.ref a,.str s]))(h2:H a=some (.tup (p.map V.int))):aY K H (vv (.no p s)) (.ref u) :=
 iU h1 (.cons (gz _) (.cons (iU h2 (vn p)) (.cons (gz _) .nil)))
theorem wN{K:Ve}{H:Hp}{u:Addr}{r:Res}(h:GW H u r):aY K H (vv r) (.ref u):=by
 cases r with
 | ok h' f=>obtain⟨a,h1,h2⟩:=h; exact rZ h1 h2
 | no p s=>obtain⟨a,h1,h2⟩:=h; exact GU h1 h2
abbrev j5:Stmt:=top 85
theorem lL:az ["_law_script","_law_k","_law_head","_law_pipe_here","_law_tale","_law_due"] ["_law_script"] (ar j5):=fs
section
variable{P:Program}{w:World}{K:Ve}{mg:Str->Option Value}{base:Heap}
theorem II{f:Addr}{fd:FuncData}{L:Nat}(B:jU mg)(B2:iL mg)(F:A2 K "law" "law" j5 f fd)
  (w8:bc bf P w K mg base L "_law_pot" ["_law_script","_law_k"] (Hv K))
  (tI:bc bf P w K mg base L "_law_drawn" ["_law_pot_here"] (ze K))
  (dR:bc bf P w K mg base L "_law_judged" ["_law_head","_law_pipe_here"] (yO 2))
  (iE:bc bf P w K mg base L "_law_asked" ["_law_head","_law_pipe_here"] GL) :
  e_ P w K mg base bf (L+1) f fd ["_law_script"] (yK K):=by
 refine F.ok lL (λvs H Q E h=>?_) (λcdv A outer s H vs Q E hr h=>?_)
 ·obtain⟨a,ns,rfl,_⟩:=h
  rfl
 have hu:=iW hr
 obtain⟨a,ns,rfl,hS,h63,q⟩:=h
 refine⟨_,(aq (gH PassesOwn.never rfl (dm rfl B.range (ae (aF cY ai (a_ (qP rfl) rfl B2.min PyProof.Rows.boot_min (ae ai (ae (a_ bF rfl B.len PySem.boot_len (ae (pv 0) ah)) ah)))) ah)) (bT (i:=1) lL.nd rfl (Or.inl rfl))
    (aq (pD (ay tI hr (ae (ay w8 hr (ae (pv 0) (ae (pv 1) ah))) ah)) (cC rfl (aD (bT (i:=2) lL.nd rfl (Or.inl rfl)) (aD (bT (i:=3) lL.nd rfl (Or.inl rfl)) bS))))
     (aq (aL (i:=4) lL.nd rfl (Or.inl rfl) (ay dR hr (ae (pv 2) (ae (pv 3) ah))))
     (aq (aL (i:=5) lL.nd rfl (Or.inl rfl) (eM (aW aP (aA K (pv 4) ai) ao) (pv 4) (cu c_ (pv 4) dz (cB ai))))
     (bK (dy (PW.pt (BL (aW js (ay iE hr (ae (pv 2) (ae (pv 3) ah))) (pv 5)) (BL (aW js (ay iE hr (ae (pv 2) (ae (aJ ah) ah))) (aJ (ae ao (ae (pv 2) ah)))) (Bi (aW js (ay iE hr (ae (pv 2) (ae (pv 3) ah))) (pv 5))))))
      (ax fY)
      cb))))))
   (ax fY)),?_⟩
 have hl:(ns.map V.int).length=ns.length:=UI _
 have mb:0<=(3:Int)+(if(((ns.map V.int).length:Nat):Int)<14 then(((ns.map V.int).length:Nat):Int)else 14)/\(3:Int)+(if(((ns.map V.int).length:Nat):Int)<14 then(((ns.map V.int).length:Nat):Int)else 14)<=17:=by split <;> omega
 refine⟨_,rfl,a,_,rfl,.inl hS,_,_,rfl,_,_,rfl,rfl,_,rfl,(jQ mb.1 (by omega)).1,(jQ mb.1 (by omega)).2,?_⟩
 refine fL (λi σ H'=>(∃o1 o2 o3 o4 o5,σ=[some (.ref a),o1,o2,o3,o4,o5])/\aM H H') ⟨⟨_,_,_,_,_,rfl⟩,aM.refl _⟩ ?_ ?_
 ·rintro i σ Hi hi ⟨⟨o1,o2,o3,o4,o5,rfl⟩,P2⟩
  have NI:(i:Int)<=20:=by omega
  refine ak ?_
  dsimp only
  refine⟨_,rfl,_,rfl,a,ns,_,rfl,P2.seq hS,by omega,by omega,λp H1 hp s1 hP=>?_⟩
  refine⟨p,rfl,hP,λt b u h ws H2 g2 ht hH hp2=>?_⟩
  have L5:=P2.trans (zq hp s1 g2)
  refine⟨t,_,rfl,aH.of ht,rfl,_,_,rfl,ak ⟨_,_,rfl,ak ⟨rfl,?_⟩⟩⟩
  dsimp only
  refine⟨_,rfl,_,rfl,b,u,h,ws,rfl,⟨hH.tup,hp2.pp,hp2.ok,hp2.dr,hH.few⟩,by decide,Bt,λv H3 s3 hR=>ak ?_⟩
  have HE:=L5.trans s3
  have IF:=hH.same s3
  have hp3:=hp2.keep (aE.of s3)
  dsimp only
  refine ly (λσ H4=>∃du,(∃o1,σ=[some (.ref a),o1,some (.ref b),some (.ref u),some (.ref v),some (.ref du)])/\aM H3 H4/\aY K H4 (vv (j9 2 h ws)) (.ref du)) (λT hT=>?_) ?_
  ·cases er:j9 2 h ws with
   | ok h' f' =>
    rw [er]at hR hT
    obtain⟨a1,a2,r1,r2,r3⟩:=hR
    refine⟨_,rfl,v,_,0,_,rfl,rfl,aH.of r1,av (j:=0) rfl,rfl,_,rfl,?_⟩
    rw [bL,UG (by decide +kernel)]
    refine bB ⟨_,rfl,_,rfl,v,_,rfl,r1,λw4 H4 s4 S1=>ak (hT _ _ ⟨w4,⟨_,rfl⟩,s4,rZ S1 (s4 _ _ r2)⟩)⟩
   | no pl sl =>
    rw [er]at hR hT
    obtain⟨a1,r1,r2⟩:=hR
    refine⟨_,rfl,v,_,0,_,rfl,rfl,aH.of r1,av (j:=0) rfl,rfl,_,rfl,?_⟩
    rw [bL,UH rfl]
    exact bY ⟨_,rfl,ak (hT _ _ ⟨v,⟨_,rfl⟩,aM.refl _,GU r1 r2⟩)⟩
  ·rintro σ H4 ⟨du,⟨o1,rfl⟩,s4,hdu⟩
   have RC:=HE.trans s4
   have HS:∀r:Res,(A.deeper (PyProof.Rows.envOfC "law" (ar j5) s.heap.objs.size f cdv)).units+(vv r).depth<cLine:=λr=>UL (Nat.add_le_add_left (UE (wg r) (by decide:2<=8)) _) hu
   refine Kg (λb H'=>b=false/\aM H4 H') (λT hT=>?_) (λH' z=>absurd z.1 (by decide)) (λH' z=>⟨⟨_,_,_,_,_,rfl⟩,RC.trans z.2⟩)
   have ju:∀{H5},aM H4 H5->zu 2 H5 b u h ws:=λs5=>by
    have k:=hp3.keep (aE.of (s4.trans s5))
    exact⟨(IF.same (s4.trans s5)).tup,k.pp,k.ok,k.dr,IF.few⟩
   refine⟨_,rfl,_,rfl,b,u,h,ws,rfl,ju (aM.refl _),λt1 H5 s5 ht1=>⟨_,rfl,_,_,wN ht1,hdu.same s5,HS _,_,rfl,?_⟩⟩
   rw [jt]
   refine bB ⟨_,rfl,wt,λe0 Ti=>?_⟩
   have s6:=s5.trans (aj Ti (.tup []))
   have hp0:zu 2 (upd H5 e0 (.tup [])) b e0 h []:=⟨(IF.same (s4.trans s6)).tup,⟨[],ag,rfl,λi a x e1 e2=>(by cases e1)⟩,⟨by decide,λx hx=>(by cases hx)⟩,λx hx=>(by cases hx),IF.few⟩
   refine⟨b,e0,h,[],rfl,hp0,λt2 H7 s7 Cj=>⟨_,rfl,cJ,λt3 En=>?_⟩⟩
   have sT:=aj En (.tup [.str "head",.ref b])
   have RQ:=s6.trans s7
   have qo:=RQ.trans sT
   refine⟨_,_,(wN Cj).same sT,rZ (f:=f0) ag (IF.same (s4.trans qo)).tup,HS _,_,rfl,?_⟩
   have e0':j9 2 h []=.ok h f0:=rfl
   rw [e0',jt]
   refine bB ⟨_,rfl,_,rfl,b,u,h,ws,rfl,ju qo,λt4 H9 s9 A4=>⟨_,rfl,_,_,wN A4,hdu.same (qo.trans s9),HS _,_,rfl,?_⟩⟩
   rw [jt]
   exact hT _ _ ⟨rfl,qo.trans s9⟩
 ·rintro σ H' _
  exact q H'
end
def CZ(K:Ve)(C PE:Addr):Bool:=(match PySem.W.clsIn K C with | some cd=>cd.mro == .ref C :: .ref PE::z_&&cd.hasDict | none=>false)&&PySem.W.mroIn K C (.type "object")==some true &&
 PySem.W.findIn K (.ref C) "__setattr__"==some (some (.builtin "object.__setattr__"))&&PySem.W.findIn K (.ref C) "__getattribute__"==some (some (.builtin "BaseException.__getattribute__"))&&PySem.W.findIn K (.ref C) "__getattr__"==some none&&PySem.W.mroIn K C (.type "BaseException")==some true&&PySem.W.findIn K (.ref C) "__class__"==some (some (.builtin "object.__class__"))
theorem Eu{K:Ve}{C PE:Addr}(h:CZ K C PE=true)(cg:PySem.W.specialIn K (.builtin "object.__class__") "__get__"=some (some (.builtin "getset_descriptor.__get__")))(ct:PySem.W.takesIn K (.builtin "object.__class__")=some true):jE K C:=by
 unfold CZ at h
 simp only [Vc,beq_iff_eq]at h
 obtain⟨⟨⟨⟨⟨⟨h1,h2⟩,h3⟩,h4⟩,h6⟩,h7⟩,h5⟩:=h
 split at h1
 ·rename_i cd e
  simp only [Vc,beq_iff_eq]at h1
  exact⟨⟨cd,PE,e,h1.1,h1.2⟩,h2,h3,h4,h6,h7,h5,cg,ct⟩
 ·cases h1
def kM(K:Ve)(d:Addr)(key:Str)(f:Addr):Bool:=match K.lookup d with
 | some o=>o.cls == .type "dict"&&o.dict==none&&o.slots.isEmpty&&(match o.data with
  | .dict es _=>es.all (λe=>isExactStrKey e.key)&&(match es.findIdx? (λe=>e.key.isStr key)with
   | some i=>(match es[i]? with
    | some e=>(match e.key,e.val with
     | .str k _,.ref g=>k==key&&g==f
     | _,_=>false)
    | none=>false)
   | none=>false)
  | _=>false)
 | none=>false
theorem cO{K:Ve}{d:Addr}{key:Str}{f:Addr}(h:kM K d key f=true):dB K d key f:=by
 unfold kM at h
 split at h
 ·rename_i o e
  obtain⟨c,di,dt,sl⟩:=o
  simp only [Vc,beq_iff_eq]at h
  obtain⟨⟨⟨h1,h2⟩,h3⟩,h4⟩:=h
  subst h1 h2
  have h3':sl = #[]:=by simpa using h3
  subst h3'
  split at h4
  ·rename_i es ep
   simp only [Vc]at h4
   obtain⟨h5,h6⟩:=h4
   split at h6
   ·rename_i i ei
    split at h6
    ·rename_i en S8
     obtain⟨x,k,v⟩:=en
     split at h6
     ·rename_i k' t g e1 e2
      have e1':k=.str k' t:=e1
      have e2':v=.ref g:=e2
      subst e1' e2'
      simp only [Vc,beq_iff_eq]at h6
      obtain⟨h7,h8⟩:=h6
      subst h7 h8
      exact⟨es,ep,i,x,t,e,h5,ei,S8⟩
     ·cases h6
    ·cases h6
   ·cases h6
  ·cases h4
 ·cases h
def wF(K:Ve)(d:Addr)(key:Str):Bool:=!(d==sysModules)&&match K.lookup d with
 | some o=>o.cls == .type "dict"&&o.dict==none&&o.slots.isEmpty&&(match o.data with
  | .dict es _=>es.all (λe=>isExactStrKey e.key)&&(es.findIdx? (λe=>e.key.isStr key)).isNone
  | _=>false)
 | none=>false
theorem iu{K:Ve}{d:Addr}{key:Str}(h:wF K d key=true):jw K d key:=by
 unfold wF at h
 simp only [Vc,Bool.not_eq_true']at h
 obtain⟨h0,h⟩:=h
 refine⟨h0,?_⟩
 split at h
 ·rename_i o e
  obtain⟨c,di,dt,sl⟩:=o
  simp only [Vc,beq_iff_eq]at h
  obtain⟨⟨⟨h1,h2⟩,h3⟩,h4⟩:=h
  subst h1 h2
  have h3':sl = #[]:=by simpa using h3
  subst h3'
  split at h4
  ·rename_i es ep
   simp only [Vc]at h4
   exact⟨es,ep,e,h4.1,Option.isNone_iff_eq_none.mp h4.2⟩
  ·cases h4
 ·cases h
theorem Kf{C:Addr}{L:Nat}(F:FA K mg "go_through" fG):bc (AE P w) P w K mg base (L+1) "go_through" ["pipe","begun","prefix","found"] (y6 C 0) :=
 F.KJ bQ λ_ _ _ _ _ _ _ _ _ _ h=>False.elim h
theorem EI{L:Nat}(F:FA K mg "_law_put" iJ):bc bf P w K mg base (L+1) "_law_put" ["_law_head","_law_pipe_here","_law_place","_law_flags_here","_law_found"] (tj 0) :=
 F.ok bX λ_ _ _ _ _ _ _ _ _ _ h=>False.elim h
theorem dD{K:Ve}{x:Str}{st:Stmt}{f:Addr}{oc:Value}{od an:Option Addr}{osl:Array (Option Value)}{kV doc pm cdv ct:Value}(a:PySem.W.nsIn K mainGlobals x=some (some (.ref f)):=by k_is)
  (l:K.lookup f=some ⟨oc,od,.func (PySem.W.fnOf x x (dY st) (cR st) (ar st) .none kV doc pm an cdv ct),osl⟩:=by k_is) (c:PySem.W.codeIn K cdv x=true:=by k_is) (k:PySem.W.keepIn K (.ref f)=true:=by k_is):FK K x st f:=MY a l c k
theorem all_mk{l:PySem.W.OpenLaw}{w:World}{K:Ve}{h:Heap}{mg:Str->Option Value}{fa:Addr}(X:K.In h)(G:h.Ns mainGlobals mg)(hfa:mg "law"=some (.ref fa))
  {CF PE aC aS aT aB aO:Addr} {Tq Sq:Option Addr} {tT tW Q3 tb2 Rg to2 to3 QX Qs:Tok} {nB nO:Nat} {Ri Tc:Array (Option Value)}
  {zG:Addr} {Mf K6:Option Addr} {MC:Array (Option Value)} {Lr MV MT MN Ht LN:Value}
  {oh wc vL qF ve qr uD qh pX ua wH tX tP r8 n_ tL Au eF eE jZ fc jg j4 xB qy mX vZ ml mw pU mq mF mD mG mI vq Ea jG h_ j3 eI jx ji uu qI qG wb qu AX pA tH CC qH tV lr jN l4 ka nI lI ye tD yj qt wq oO qA uS vh rS rT:Addr}
  (a0:FK K "_law_cell_at" Ed oh:=by exact My.dD)
  (a1:FK K "_law_pot" JM wc:=by exact My.dD)
  (a2:FK K "_law_draw" Df vL:=by exact My.dD)
  (a3:FK K "_law_number" rR qF:=by exact My.dD)
  (a4:FK K "_law_word" B9 ve:=by exact My.dD)
  (a5:FK K "_law_a_sort" wK qr:=by exact My.dD)
  (a6:FK K "_law_cell" wQ uD:=by exact My.dD)
  (a7:FK K "_law_column" rQ qh:=by exact My.dD)
  (a8:FK K "_law_columns" oq pX:=by exact My.dD)
  (a9:FK K "_law_state" wR ua:=by exact My.dD)
  (a10:FK K "_law_set" JF wH:=by exact My.dD)
  (a11:FK K "_law_pairs" wu tX:=by exact My.dD)
  (a12:FK K "_law_order" xb tP:=by exact My.dD)
  (a13:FK K "_law_moves" rJ r8:=by exact My.dD)
  (a14:FK K "_law_one_row" uf n_:=by exact My.dD)
  (a15:FK K "_law_other" wL tL:=by exact My.dD)
  (a16:FK K "sort_of" lR Au:=by exact My.dD)
  (a17:FK K "no_columns" iA eF:=by exact My.dD)
  (a18:FK K "one_column" iF eE:=by exact My.dD)
  (a19:FK K "two_columns" hV jZ:=by exact My.dD)
  (a20:FK K "listed_columns" fe fc:=by exact My.dD)
  (a21:FK K "sort_columns" fR jg:=by exact My.dD)
  (a22:FK K "sum_columns" gY j4:=by exact My.dD)
  (a23:FK K "is_there" kH xB:=by exact My.dD)
  (a24:FK K "columns_fit" gI qy:=by exact My.dD)
  (a25:FK K "are_same_sort" fz mX:=by exact My.dD)
  (a26:FK K "cells_fit" jd vZ:=by exact My.dD)
  (a27:FK K "keep_fits" jy ml:=by exact My.dD)
  (a28:FK K "same_fits" jF mw:=by exact My.dD)
  (a29:FK K "sum_fits" ky pU:=by exact My.dD)
  (a30:FK K "meet_fits" jr mq:=by exact My.dD)
  (a31:FK K "both_fits" jj mF:=by exact My.dD)
  (a32:FK K "turn_fits" jk mD:=by exact My.dD)
  (a33:FK K "walk_fits" jA mG:=by exact My.dD)
  (a34:FK K "must_fits" jb mI:=by exact My.dD)
  (a35:FK K "sorts_fit" jC vq:=by exact My.dD)
  (a36:FK K "picked" nP Ea:=by exact My.dD)
  (a37:FK K "head_of_walk" fM jG:=by exact My.dD)
  (a38:FK K "head_of_number" eY h_:=by exact My.dD)
  (a39:FK K "head_of_cut" gZ j3:=by exact My.dD)
  (a40:FK K "head_of_tallied" eL eI:=by exact My.dD)
  (a41:FK K "head_of_meet" gc jx:=by exact My.dD)
  (a42:FK K "head_of_must" gn ji:=by exact My.dD)
  (a43:FK K "head_told" jB uu:=by exact My.dD)
  (a44:FK K "branches_of" gG qI:=by exact My.dD)
  (a45:FK K "name_passed" gF qG:=by exact My.dD)
  (a46:FK K "rows_fit" kg wb:=by exact My.dD)
  (a47:FK K "makes_loose" gO qu:=by exact My.dD)
  (a48:FK K "why_not" lU AX:=by exact My.dD)
  (a49:FK K "known_behind" gm pA:=by exact My.dD)
  (a50:FK K "go_through" fG tH:=by exact My.dD)
  (a51:FK K "survey" oU CC:=by exact My.dD)
  (a52:FK K "head_behind" gN qH:=by exact My.dD)
  (a53:FK K "_law_sorts" iY tV:=by exact My.dD)
  (a54:FK K "_law_is_one_row" eD lr:=by exact My.dD)
  (a55:FK K "_law_told_columns" dM jN:=by exact My.dD)
  (a56:FK K "_law_no_column" fh l4:=by exact My.dD)
  (a57:FK K "_law_cells_wrong" cL ka:=by exact My.dD)
  (a58:FK K "_law_no_sort" gj nI:=by exact My.dD)
  (a59:FK K "_law_head_next" e8 lI:=by exact My.dD)
  (a60:FK K "_law_why" j_ ye:=by exact My.dD)
  (a61:FK K "_law_flags" iS tD:=by exact My.dD)
  (a62:FK K "_law_put" iJ yj:=by exact My.dD)
  (a63:FK K "_law_judged" gJ qt:=by exact My.dD)
  (a64:FK K "_law_end" kq wq:=by exact My.dD)
  (Oy:FK K "_law_joining" fN oO:=by exact My.dD)
  (Pf:FK K "_law_worker" hX qA:=by exact My.dD)
  (M9:FK K "_law_pipe" gy uS:=by exact My.dD)
  (Nu:FK K "_law_many" gA vh:=by exact My.dD)
  (RJ:FK K "_law_drawn" iz rS:=by exact My.dD)
  (So:FK K "_law_asked" iZ rT:=by exact My.dD)
  (Mc:PySem.W.nsIn K mainGlobals "len"=some none:=by k_is)
  (Lg:PySem.W.nsIn K mainGlobals "max"=some none:=by k_is)
  (LC:PySem.W.nsIn K mainGlobals "abs"=some none:=by k_is)
  (Bb:PySem.W.nsIn K mainGlobals "divmod"=some none:=by k_is)
  (FU:PySem.W.nsIn K mainGlobals "range"=some none:=by k_is)
  (E1:PySem.W.nsIn K mainGlobals "tuple"=some none:=by k_is)
  (Io:PySem.W.nsIn K mainGlobals "list"=some none:=by k_is)
  (sq:PySem.W.nsIn K mainGlobals "isinstance"=some none:=by k_is)
  (LF:PySem.W.nsIn K mainGlobals "int"=some none:=by k_is)
  (Mb:PySem.W.nsIn K mainGlobals "min"=some none:=by k_is)
  (MX:PySem.W.nsIn K mainGlobals "all"=some none:=by k_is)
  (Bf:PySem.W.nsIn K mainGlobals "sorted"=some none:=by k_is)
  (KY:PySem.W.nsIn K mainGlobals "set"=some none:=by k_is)
  (MJ:PySem.W.nsIn K mainGlobals "str"=some none:=by k_is)
  (LG:PySem.W.nsIn K mainGlobals "any"=some none:=by k_is)
  (LO:PySem.W.nsIn K mainGlobals "zip"=some none:=by k_is)
  (mx:PySem.W.nsIn K mainGlobals "enumerate"=some none:=by k_is)
  (rN:PySem.W.nsIn K mainGlobals "ValueError"=some none:=by k_is)
  {C1:Addr} {Kl B_:Option Addr} {J9:Array (Option Value)} {IH CL CA CD yf DS:Value}
  (MS:PySem.W.nsIn K mainGlobals "law"=some (some (.ref C1)):=by k_is) (Mw:K.lookup C1=some ⟨IH,Kl,.func (PySem.W.fnOf "law" "law" (dY j5) (cR j5) (ar j5) .none CL CA CD B_ yf DS),J9⟩:=by k_is) (L6:PySem.W.codeIn K yf "law"=true:=by k_is) (K5:PySem.W.keepIn K (.ref C1)=true:=by k_is)
  (Sy:PySem.W.nsIn K mainGlobals "NoPipe"=some (some (.ref CF)):=by k_is)
  (SU:PySem.W.nsIn K mainGlobals "PipeError"=some (some (.ref PE)):=by k_is)
  (zC:PySem.W.nsIn K mainGlobals "COLUMNS_OF"=some (some (.ref aC)):=by k_is)
  (zS:PySem.W.nsIn K mainGlobals "SORTS_FIT"=some (some (.ref aS)):=by k_is)
  (zT:PySem.W.nsIn K mainGlobals "HEADS_TOLD"=some (some (.ref aT)):=by k_is)
  (zB:PySem.W.nsIn K mainGlobals "BRANCHED"=some (some (.ref aB)):=by k_is)
  (zO:PySem.W.nsIn K mainGlobals "ONE_ROW"=some (some (.ref aO)):=by k_is)
  (RB:PySem.W.nsIn K mainGlobals "TALLY"=some (some (.str "t" tT)):=by k_is)
  (zW:PySem.W.nsIn K mainGlobals "WIDEST_ROW"=some (some (.int 6 tW)):=by k_is)
  (lB:K.lookup aB=some ⟨.type "tuple",Tq,.seq #[.str "both" Q3,.str "meet" tb2] nB,Ri⟩:=by k_is)
  (lO:K.lookup aO=some ⟨.type "tuple",Sq,.seq #[.str "keep" Rg,.str "same" to2,.str "cut" to3,.str "turn" QX,.str "must" Qs] nO,Tc⟩:=by k_is)
  (SJ:PySem.W.findIn K (.ref CF) "__init__"=some (some (.ref zG)):=by k_is)
  (O_:K.lookup zG=some ⟨Lr,Mf,.func (PySem.W.fnOf "__init__" "NoPipe.__init__" (dY lM) (cR lM) (ar lM) .none MV MT MN K6 Ht LN),MC⟩:=by k_is)
  (OF:PySem.W.codeIn K Ht "NoPipe.__init__"=true:=by k_is)
  (N8:PySem.W.keepIn K (.ref zG)=true:=by k_is)
  (Sx:PySem.W.keepIn K (.ref CF)=true:=by k_is)
  (TM:PySem.W.isFn K (.ref zG)=true:=by k_is)
  (RS:PySem.W.findIn K (.ref CF) "place"=some none:=by k_is)
  (RF:PySem.W.findIn K (.ref CF) "why"=some none:=by k_is)
  (cg:PySem.W.specialIn K (.builtin "object.__class__") "__get__"=some (some (.builtin "getset_descriptor.__get__")):=by k_is)
  (ct:PySem.W.takesIn K (.builtin "object.__class__")=some true:=by k_is)
  (x0:CZ K CF PE=true:=by kernel_rfl)
  (e0:l8 K CF z_ "ValueError.__new__" (some (.ref zG))=true:=by kernel_rfl)
  (em:PySem.W.exmOne K (.ref CF) (.ref CF)=some true:=by kernel_rfl)
  (kp:PySem.W.kitOne K (.ref CF) (.ref PE)=some true:=by kernel_rfl)
  (kv:PySem.W.kitOne K (.ref CF) (.type "ValueError")=some true:=by kernel_rfl)
  (QU:PySem.W.kitOne K (.type "int") (.type "str")=some false:=by kernel_rfl)
  (IG:kM K aC "keep" eE=true:=by kernel_rfl)
  (JJ:kM K aC "same" jZ=true:=by kernel_rfl)
  (KS:kM K aC "cut" fc=true:=by kernel_rfl)
  (Ir:kM K aC "turn" eE=true:=by kernel_rfl)
  (JX:kM K aC "must" eE=true:=by kernel_rfl)
  (Ko:kM K aC "walk" eE=true:=by kernel_rfl)
  (HZ:kM K aC "sort" jg=true:=by kernel_rfl)
  (FY:kM K aC "apart" eF=true:=by kernel_rfl)
  (EB:kM K aC "count" fc=true:=by kernel_rfl)
  (L7:kM K aC "sum" j4=true:=by kernel_rfl)
  (BQ:kM K aC "number" eF=true:=by kernel_rfl)
  (EA:kM K aC "first" eF=true:=by kernel_rfl)
  (J3:kM K aC "both" eF=true:=by kernel_rfl)
  (JU:kM K aS "keep" ml=true:=by kernel_rfl)
  (s_same:kM K aS "same" mw=true:=by kernel_rfl)
  (JY:kM K aS "turn" mD=true:=by kernel_rfl)
  (Ji:kM K aS "must" mI=true:=by kernel_rfl)
  (JI:kM K aS "walk" mG=true:=by kernel_rfl)
  (Lh:kM K aS "sum" pU=true:=by kernel_rfl)
  (Kc:kM K aS "both" mF=true:=by kernel_rfl)
  (Jl:kM K aS "meet" mq=true:=by kernel_rfl)
  (JA:wF K aS "cut"=true:=by kernel_rfl)
  (EH:wF K aS "sort"=true:=by kernel_rfl)
  (Cu:wF K aS "apart"=true:=by kernel_rfl)
  (De:wF K aS "count"=true:=by kernel_rfl)
  (AW:wF K aS "number"=true:=by kernel_rfl)
  (D_:wF K aS "first"=true:=by kernel_rfl)
  (IZ:kM K aT "cut" j3=true:=by kernel_rfl)
  (Gv:kM K aT "must" ji=true:=by kernel_rfl)
  (Ew:kM K aT "walk" jG=true:=by kernel_rfl)
  (Dh:kM K aT "count" eI=true:=by kernel_rfl)
  (JN:kM K aT "sum" eI=true:=by kernel_rfl)
  (AG:kM K aT "number" h_=true:=by kernel_rfl)
  (Fe:kM K aT "meet" jx=true:=by kernel_rfl)
  (ES:wF K aT "keep"=true:=by kernel_rfl)
  (Gj:wF K aT "same"=true:=by kernel_rfl)
  (Gu:wF K aT "turn"=true:=by kernel_rfl)
  (EZ:wF K aT "sort"=true:=by kernel_rfl)
  (Cd:wF K aT "apart"=true:=by kernel_rfl)
  (C9:wF K aT "first"=true:=by kernel_rfl)
  (EC:wF K aT "both"=true:=by kernel_rfl) :
  ∃fd:FuncData,(∀(s:Shared) (v:Value),BindsTo s fd ⟨[v],[]⟩ [("_law_script",v)])/\∀base:Heap,K.In base->base.Ns mainGlobals mg->e_ l.prog w K mg base bf 23 fa fd ["_law_script"] (yK K):=by
 have F:=λ{x:Str} {st:Stmt} {f:Addr} (a:FK K x st f)=>a.fa X G
 have h:=λ{x:Str} {st:Stmt} {f:Addr} (a:FK K x st f)=>a.h X G
 cases hfa.symm.trans (PySem.W.mg_of X G MS)
 have Fl:=wI (st:=j5) Mw L6 K5
 have B:jU mg:=⟨PySem.W.mg_none_of X G Mc,PySem.W.mg_none_of X G Lg,PySem.W.mg_none_of X G LC,PySem.W.mg_none_of X G Bb,PySem.W.mg_none_of X G FU,PySem.W.mg_none_of X G E1,PySem.W.mg_none_of X G Io,PySem.W.mg_none_of X G sq⟩
 have B2:iL mg:=⟨PySem.W.mg_none_of X G LF,PySem.W.mg_none_of X G Mb,PySem.W.mg_none_of X G MX,PySem.W.mg_none_of X G Bf,PySem.W.mg_none_of X G KY⟩
 have B3:Ao mg:=⟨PySem.W.mg_none_of X G MJ,PySem.W.mg_none_of X G LG,PySem.W.mg_none_of X G LO,PySem.W.mg_none_of X G mx⟩
 have mE:=PySem.W.mg_none_of X G mx
 have mT:=PySem.W.mg_of X G RB
 have mW:=PySem.W.mg_of X G zW
 have mC:=PySem.W.mg_of X G zC
 have Sk:=PySem.W.mg_of X G zS
 have mH:=PySem.W.mg_of X G zT
 have Cb:F6 K mg "BRANCHED" aB Dm:=⟨PySem.W.mg_of X G zB,λH=>.inr ⟨_,_,_,lB,rfl,rfl,cJ,.cons ⟨Q3,rfl⟩ (.cons ⟨tb2,rfl⟩ .nil)⟩⟩
 have Co:F6 K mg "ONE_ROW" aO mL:=⟨PySem.W.mg_of X G zO,λH=>.inr ⟨_,_,_,lO,rfl,rfl,sF,.cons ⟨Rg,rfl⟩ (.cons ⟨to2,rfl⟩ (.cons ⟨to3,rfl⟩ (.cons ⟨QX,rfl⟩ (.cons ⟨Qs,rfl⟩ .nil))))⟩⟩
 have Cf:HQ K mg CF zG:=⟨Eu x0 cg ct,RS,RF,e0,Sx,TM,PySem.W.mg_of X G Sy⟩
 have T:Lw K mg CF PE:=⟨kp,kv,PySem.W.mg_of X G SU,PySem.W.mg_none_of X G rN⟩
 have Mu:=wI (st:=lM) O_ OF N8
 have IW:=Mu.binds (ps:=["self","place","why"]) λ_ _ _ _ _ _ us hl=>match us,hl with | [_,_,_],_=>rfl
 refine⟨PySem.W.fnOf "law" "law" (dY j5) (cR j5) (ar j5) .none CL CA CD B_ yf DS,λs v=>.of_eq rfl,λbase _ _=>?_⟩
 have g0:=Ga (P:=l.prog) (w:=w) (base:=base) B (F a0)
 have g1:=JL B (F a1) g0.m
 have g2:=Ff (P:=l.prog) (w:=w) (base:=base) B (F a2)
 have g3:=zv (F a3) g2.m
 have g4:=Fx B (F a4) g2.m
 have g5:=BI B2 (F a5) g2.m
 have g6:=Ek (F a6) g5.m g4.m g3.m
 have g7:=Ac B (F a7) g2.m
 have g8:=yk B (F a8) g7.m
 have g9:=DK (F a9) g2.m g4.m
 have HC:=Iz B B2 (F a10) g5.m g2.m g4.m g3.m
 have NA:=BB B B2 (F a11) g2.m g6.m
 have ND:=BK B (F a12) g2.m g7.m
 have Tb:=CQ B B2 (F a13) g2.m g9.m g6.m
 have OE:=zt B2 (F a14) g7.m g8.m g2.m HC.m NA.m
 have Ot:=DM (F a15) g7.m g9.m Tb.m ND.m g8.m g2.m
 have Oa:=AZ (P:=l.prog) (w:=w) (base:=base) B B3 QU (F a16)
 have Rb:=AS (P:=l.prog) (w:=w) (base:=base) (F a17)
 have RX:=A1 (P:=l.prog) (w:=w) (base:=base) (F a18)
 have Sv:=xW (P:=l.prog) (w:=w) (base:=base) (F a19)
 have RU:=vN (P:=l.prog) (w:=w) (base:=base) (F a20)
 have Tv:=vI (P:=l.prog) (w:=w) (base:=base) B (F a21)
 have Sg:=yd (P:=l.prog) (w:=w) (base:=base) (F a22)
 have T7:=Eh (P:=l.prog) (w:=w) (base:=base) B (F a23)
 have Ta:=AV (aR:=aC) (cO IG) (cO JJ) (cO KS) (cO Ir) (cO JX) (cO Ko) (cO HZ) (cO FY) (cO EB) (cO L7) (cO BQ) (cO EA) (Rb.at (h a17)) (RX.at (h a18)) (Sv.at (h a19)) (RU.at (h a20)) (Tv.at (h a21)) (Sg.at (h a22))
 have Rv:=λ(n:Nat)=>Ja (n:=n) Ta (cO J3) (Rb.at (h a17))
 have Tt:=λ(n:Nat)=>AU (n:=n) B B2 mC (Rv n) (F a24) T7.m
 have QH:=CG (P:=l.prog) (w:=w) (base:=base) mT (F a25)
 have OR:=vg B2 mT (F a26) Oa.m
 have Tj:=λ(n:Nat)=>vj (n:=n) (P:=l.prog) (w:=w) (base:=base) mT (F a27)
 have S2:=λ(n:Nat)=>uL (n:=n) (F a28) QH.m
 have SV:=λ(n:Nat)=>x9 (n:=n) (P:=l.prog) (w:=w) (base:=base) (F a29)
 have RV:=λ(n:Nat)=>uW (n:=n) (F a30) QH.m
 have R6:=λ(n:Nat)=>vF (n:=n) (P:=l.prog) (w:=w) (base:=base) (F a31)
 have S7:=λ(n:Nat)=>uA (n:=n) (F a32) OR.m
 have TC:=λ(n:Nat)=>vd (n:=n) (F a33) OR.m
 have LV:=λ(n:Nat)=>uI (n:=n) B (F a34) Oa.m OR.m
 have Sb:=λ(n:Nat)=>AR (n:=n) (aS:=aS) (cO JU) (cO s_same) (cO JY) (cO Ji) (cO JI) (cO Lh) (cO Kc) (cO Jl) (iu JA) (iu EH) (iu Cu) (iu De) (iu AW) (iu D_) ((Tj n).at (h a27)) ((S2 n).at (h a28)) ((S7 n).at (h a32)) ((LV n).at (h a34)) ((TC n).at (h a33)) ((SV n).at (h a29)) ((R6 n).at (h a31)) ((RV n).at (h a30))
 have Rx:=λ(n:Nat)=>uO (n:=n) Sk (Sb n) (F a35)
 have Qp:=zN (P:=l.prog) (w:=w) (base:=base) B (F a36)
 have Sd:=λ(n:Nat)=>Cn (n:=n) (P:=l.prog) (w:=w) (base:=base) (F a37)
 have Tx:=λ(n:Nat)=>wU (n:=n) (P:=l.prog) (w:=w) (base:=base) mT (F a38)
 have RD:=λ(n:Nat)=>Fv (n:=n) (F a39) Qp.m
 have Su:=λ(n:Nat)=>BG (n:=n) mT (F a40) Qp.m
 have Tp:=λ(n:Nat)=>Ec (n:=n) (P:=l.prog) (w:=w) (base:=base) (F a41)
 have Sf:=λ(n:Nat)=>DB (n:=n) B (F a42) Oa.m
 have Si:=λ(n:Nat)=>xh (n:=n) (aT:=aT) (cO IZ) (cO Gv) (cO Ew) (cO Dh) (cO JN) (cO AG) (cO Fe) (iu ES) (iu Gj) (iu Gu) (iu EZ) (iu Cd) (iu C9) (iu EC) ((RD n).at (h a39)) ((Sf n).at (h a42)) ((Sd n).at (h a37)) ((Su n).at (h a40)) ((Tx n).at (h a38)) ((Tp n).at (h a41))
 have QM:=λ(n:Nat)=>uG (n:=n) mH (Si n) (F a43)
 have Nd:=λ(n:Nat)=>Jw (n:=n) (P:=l.prog) (w:=w) (base:=base) Cb (F a44)
 have KQ:=λ(n:Nat)=>ED (n:=n) (P:=l.prog) (w:=w) (base:=base) (F a45)
 have KD:=λ(n:Nat)=>wx (n:=n) B2 Co (F a46) (Nd n).m
 have Km:=λ(n:Nat)=>Cm (n:=n) B3 mT (F a47) (KQ n).m
 have Ku:=λ(n:Nat)=>Ad (n:=n) B mW (F a48) (Tt n).m (Rx n).m (QM n).m (KD n).m
 have OI:=λ(n:Nat)=>zX (n:=n) B B2 B3 (F a49) (QM n).m (KQ n).m (Km n).m
 have QW:=Ct (P:=l.prog) (w:=w) (base:=base) B B2 B3 QU (F a53)
 have Rc:=λ(n:Nat)=>Cq (n:=n) (P:=l.prog) (w:=w) (base:=base) (F a54)
 have QD:=λ(n:Nat)=>Gd (n:=n) (P:=l.prog) (w:=w) (base:=base) B (F a55)
 have Nt:=λ(n:Nat)=>Dx (n:=n) B (F a56) (QD n).m
 have TY:=λ(n:Nat)=>zK (n:=n) B (F a57) QW.m
 have Tg:=λ(n:Nat)=>Av (n:=n) B2 (F a58) (QD n).m (TY n).m
 have Nr:=λ(n:Nat)=>vt (n:=n) B (F a59) QW.m
 have Oi:=λ(n:Nat)=>Gx (n:=n) B B2 (F a60) (Nt n).m (Tg n).m (Nr n).m (Rc n).m
 have PH:=λ(n:Nat)=>B4 (n:=n) (F a61) (Rc n).m
 have Ik:=D4 (P:=l.prog) (w:=w) (base:=base) (mg:=mg) (C:=CF) Mu
 have RW:=Kf (P:=l.prog) (w:=w) (base:=base) (C:=CF) (L:=4) (F a50)
 have SN:=x_ (C:=CF) (n:=0) (L:=0) B mE Cf (F a50) Ik IW (Nd 0).m RW.m (Ku 0).m (OI 0).m
 have go2:=x_ (C:=CF) (n:=1) (L:=1) B mE Cf (F a50) Ik IW (Nd 1).m SN.m (Ku 1).m (OI 1).m
 have T8:=x_ (C:=CF) (n:=2) (L:=2) B mE Cf (F a50) Ik IW (Nd 2).m go2.m (Ku 2).m (OI 2).m
 have sv:=AM (C:=CF) (n:=2) (L:=2) (F a51) T8.m
 have hb:=qi (C:=CF) (n:=2) (L:=2) (F a52) sv.m
 have Pg:=EI (P:=l.prog) (w:=w) (base:=base) (L:=4) (F a62)
 have Oz:=sN (n:=0) (L:=0) B B2 B3 mE (F a62) Pg.m (Oi 0).m (PH 0).m (Nr 0).m
 have put2:=sN (n:=1) (L:=1) B B2 B3 mE (F a62) Oz.m (Oi 1).m (PH 1).m (Nr 1).m
 have put3:=sN (n:=2) (L:=2) B B2 B3 mE (F a62) put2.m (Oi 2).m (PH 2).m (Nr 2).m
 have ju:=AJ (n:=2) (L:=2) (F a63) put3.m
 have en:=HW (n:=2) (L:=2) (F a64) ju.m
 have Lc:=Ds (P:=l.prog) (w:=w) (base:=base) (L:=11) (F M9)
 have Ml:=oP (N:=0) (L:=12) (Le:=10) (by decide) (by decide) (by decide) B2 (F Oy) g2.m Lc.m g7.m en.m HC.m
 have Mv:=pG (N:=0) (L:=13) (by decide) B B2 (F Pf) g2.m OE.m Ml.m Ot.m
 have M3:=ot (N:=0) (L:=14) (Lj:=9) (by decide) (by decide) (by decide) B B2 (F M9) Mv.m ju.m g2.m
 have LZ:=oP (N:=1) (L:=15) (Le:=10) (by decide) (by decide) (by decide) B2 (F Oy) g2.m M3.m g7.m en.m HC.m
 have LS:=pG (N:=1) (L:=16) (by decide) B B2 (F Pf) g2.m OE.m LZ.m Ot.m
 have pipe2:=ot (N:=1) (L:=17) (Lj:=9) (by decide) (by decide) (by decide) B B2 (F M9) LS.m ju.m g2.m
 have LD:=oP (N:=2) (L:=18) (Le:=10) (by decide) (by decide) (by decide) B2 (F Oy) g2.m pipe2.m g7.m en.m HC.m
 have Mh:=pG (N:=2) (L:=19) (by decide) B B2 (F Pf) g2.m OE.m LD.m Ot.m
 have LQ:=ot (N:=2) (L:=20) (Lj:=9) (by decide) (by decide) (by decide) B B2 (F M9) Mh.m ju.m g2.m
 have K3:=CJ (P:=l.prog) (w:=w) (base:=base) (L:=0) (F Nu)
 have many1:=pL (n:=0) (L:=1) (F Nu) K3.m
 have MG:=pL (n:=1) (L:=2) (F Nu) many1.m
 have Lf:=pL (n:=2) (L:=3) (F Nu) MG.m
 have dr:=Bn (L:=21) (Lm:=4) (by decide) (by decide) B B2 (F RJ) g2.m LQ.m Lf.m
 have asked:=Cg (L:=10) (C:=CF) (PE:=PE) B Cf T em (F So) hb.m
 exact II (L:=22) B B2 Fl g1.m dr.m ju.m asked.m
theorem walk{l:PySem.W.OpenLaw}{q:Program}{loose:List Str}{XP:(Str->Option Value)->Heap->Prop}{YP:World->Heap->Prop}{d:DefRec}{K:Params->Ve}(hn:l.most=some 63)(hdf:d.params.defaults=[])
  (hY:∀(w:World) (h:Heap),YP w h->(K w.params).In h)
  (F:∀(w:World) (mg:Str->Option Value) (fa:Addr) (h:Heap),(K w.params).In h->h.Ns mainGlobals mg->mg d.name=some (.ref fa)->
   ∃fd:FuncData,(∀(s:Shared) (u:Value),BindsTo s fd ⟨[u],[]⟩ [("_law_script",u)])/\∀base:Heap,(K w.params).In base->base.Ns mainGlobals mg->e_ l.prog w (K w.params) mg base bf 23 fa fd ["_law_script"] (yK (K w.params))) :
  PySem.W.WalkO q loose XP YP l.row.toRowW d [] (λf vs=>PySem.call f vs) :=
 L2.Fz (n:=63) (k:=23) (x:="_law_script") (CX:=λ_=>bf) (sp:=λw=>yK (K w.params)) hn (by decide) hdf ⟨rfl,by decide,by decide⟩ hY F (λ_ _ a ns hl _ hS=>⟨a,ns,rfl,hS,hl,λ_=>rfl⟩) λ_ _ _ _ _ z=>z
end My
namespace PySem.W.Fast
def tw5386612873508456981:Nat:=0
def tw101541781390866274:Nat:=0
def tw10477317324086207902:Nat:=0
def tw11013474049760223004:Nat:=0
def tw7837814656666327879:Nat:=0
def tw8853983855833921372:Nat:=0
def tw13593233647055291590:Nat:=0
def tw15502873483686719920:Nat:=0
def tw13409828189616794876:Nat:=0
def tw2174695871024465258:Nat:=0
def tw17735912748264792898:Nat:=0
def tw12906767909946136348:Nat:=0
def tw11636096963868640926:Nat:=0
def tw9568787141508033057:Nat:=0
def tw9528791161813504831:Nat:=0
def tw15922782316856008851:Nat:=0
def tw2875997865507712247:Nat:=0
def tw1864609589220758911:Nat:=0
def tw8638466467500912858:Nat:=0
def tw8097768331043027111:Nat:=0
def tw11891417856119315598:Nat:=0
def tw9088345579154862312:Nat:=0
def tw17499019214059852134:Nat:=0
def tw5766432430809916366:Nat:=0
def tw15520618566824524498:Nat:=0
def tw8496090397070758278:Nat:=0
def tw3958763984374368399:Nat:=0
def tw1247758550506651702:Nat:=0
def tw12135081279728645065:Nat:=0
def tw10994504370988933599:Nat:=0
def tw16474093258115703340:Nat:=0
def tw4050188874332901266:Nat:=0
def tw15247601837223648947:Nat:=0
def tw6608569024995287008:Nat:=0
def tw12536390290365109517:Nat:=0
def tw2455345437869013704:Nat:=0
def tw2509325455236821854:Nat:=0
def tw17471806920206863192:Nat:=0
def tw5086329827898162194:Nat:=0
def tw12572183673026653642:Nat:=0
def tw15370771157655927888:Nat:=0
def tw3911593808413768188:Nat:=0
def tw6908753055165363959:Nat:=0
def tw546485295287359719:Nat:=0
def tw10794326238241798295:Nat:=0
def tw12554619042609349002:Nat:=0
def tw7686650973135575546:Nat:=0
def tw13431034911089497049:Nat:=0
def tw8833976397099611444:Nat:=0
def tw12939575291178941301:Nat:=0
def tw6403676119586579119:Nat:=0
def tw6713817740670414079:Nat:=0
def tw6415019063699851445:Nat:=0
def tw1505663430823639519:Nat:=0
def tw18401227339534926135:Nat:=0
def tw14481891336145048646:Nat:=0
def tw1881164266865169162:Nat:=0
def tw5614633495968008873:Nat:=0
def tw9049876730029301865:Nat:=0
def tw4853907170824070248:Nat:=0
def tw17768672206984210493:Nat:=0
def tw9882939299669422005:Nat:=0
def tw16226433020701341631:Nat:=0
def tw15279430535900105205:Nat:=0
def tw9881606920587748406:Nat:=0
def tw17757568171510931046:Nat:=0
def tw3546646168227138520:Nat:=0
def tw7168224482429733384:Nat:=0
def tw5122801910358393114:Nat:=0
def tw7538700137565776112:Nat:=0
def tw3800785132035470813:Nat:=0
def tw4972092609345813519:Nat:=0
def tw9614693163241929312:Nat:=0
def tw5675372877253881876:Nat:=0
def tw13302624287573076970:Nat:=0
def tw17409955133799813268:Nat:=0
def tw16831911597093191429:Nat:=0
def tw2972657935914415519:Nat:=0
def tw16328375834376309638:Nat:=0
def tw3001041457264756559:Nat:=0
def tw4010741271092286152:Nat:=0
def tw9640829717193236464:Nat:=0
def tw4128370860953431584:Nat:=0
def tw4430556802903199198:Nat:=0
def tw14308772814830433473:Nat:=0
def tw16067711788890641096:Nat:=0
def tw9742224538776617808:Nat:=0
def tw942929755917287399:Nat:=0
def tw11737160653582198342:Nat:=0
def tw13417995091736239585:Nat:=0
def tw1662094366245592066:Nat:=0
def tw9790063130657793794:Nat:=0
def tw10935607628912541439:Nat:=0
def tw400210099034230496:Nat:=0
def tw15120491013657763044:Nat:=0
def tw10499920814163033717:Nat:=0
def tw9276994636437599308:Nat:=0
def tw6540207462416946662:Nat:=0
def tw14422285844791065741:Nat:=0
def tw1979338376775627391:Nat:=0
def tw8901190391181465662:Nat:=0
def tw11388722479536674113:Nat:=0
def tw9024486292737194397:Nat:=0
def tw12381533522944550219:Nat:=0
def tw15485701137925945141:Nat:=0
def tw5295734566055626315:Nat:=0
def tw3885200024231639503:Nat:=0
def tw11361862789817087777:Nat:=0
def tw7825464936372179963:Nat:=0
def tw17039729095896271083:Nat:=0
def tw9320209782895447097:Nat:=0
def tw16955230281497467735:Nat:=0
def tw859116326899477471:Nat:=0
def tw16284654917467951777:Nat:=0
def tw13850501608034563221:Nat:=0
def tw9905480881073586525:Nat:=0
def tw7411033705329648091:Nat:=0
def tw11485717875472377064:Nat:=0
def tw7875036505781421010:Nat:=0
def tw7115865038248363751:Nat:=0
def tw12113830435584778473:Nat:=0
def tw8963791690896968073:Nat:=0
def tw15773463065999420450:Nat:=0
def tw14341836194714187110:Nat:=0
def tw508334531570929707:Nat:=0
def tw4829642940421230467:Nat:=0
def tw13208485707307707698:Nat:=0
def tw11068622521631419366:Nat:=0
def tw846220735064314254:Nat:=0
def tw9019241137362088869:Nat:=0
def tw4221830327719282595:Nat:=0
def tw14339550317824168770:Nat:=0
def tw2902675165335476706:Nat:=0
def tw4913170236993154135:Nat:=0
def tw250092972866428081:Nat:=0
def tw18099326693920871544:Nat:=0
def tw17196703164675080375:Nat:=0
def tw12625450358879589170:Nat:=0
def tw13819473552725967151:Nat:=0
def tw816095493540803672:Nat:=0
def tw8953901297879047190:Nat:=0
def tw15166247359687589451:Nat:=0
def tw2709820877134116184:Nat:=0
def tw8847650195869001239:Nat:=0
def tw10834204987286664095:Nat:=0
def tw17768252042886611190:Nat:=0
def tw16531538155500285683:Nat:=0
def tw13912939861104301881:Nat:=0
def tw1144322903340379016:Nat:=0
def tw3817791664109868617:Nat:=0
def tw4710295742968892516:Nat:=0
def tw4878222407524376391:Nat:=0
def tw1337617037417700670:Nat:=0
def tw16350257163354843490:Nat:=0
def tw5550387643680691289:Nat:=0
def tw3836499704748036902:Nat:=0
def tw611160711602492811:Nat:=0
def tw6443480767529568644:Nat:=0
def tw9854101810444591830:Nat:=0
def tw3382090626348893220:Nat:=0
def tw3074818208654793995:Nat:=0
def tw12141740202357420209:Nat:=0
def tw4443969816746054603:Nat:=0
def tw3470552689733081493:Nat:=0
def tw17271496613103875263:Nat:=0
def tw9330919913918075031:Nat:=0
def tw2957309237074694570:Nat:=0
def tw9996044539701322524:Nat:=0
def tw2327556155913455694:Nat:=0
def tw3745074622879070044:Nat:=0
def tw12516170333475456448:Nat:=0
def tw8760741515678485718:Nat:=0
def tw1551181312800538472:Nat:=0
def tw10414156743290857749:Nat:=0
def tw4988393221937218862:Nat:=0
def tw873978269294106458:Nat:=0
def tw5060386391263275234:Nat:=0
def tw16290353179003465878:Nat:=0
def tw16414084092710144422:Nat:=0
def tw3865878991785632674:Nat:=0
def tw14126451107601536093:Nat:=0
def tw4449424083612574965:Nat:=0
def tw17239352383907855199:Nat:=0
def tw10893157313714915952:Nat:=0
def tw15215620917093462692:Nat:=0
def tw5160922067335574044:Nat:=0
def tw14990800448788403814:Nat:=0
def tw7357665736931300351:Nat:=0
def tw10454986590186327237:Nat:=0
def tw18243516659086366060:Nat:=0
def tw7773949873467583174:Nat:=0
def tw14280215662231906098:Nat:=0
def tw7511405080173910917:Nat:=0
def tw8948691670175475735:Nat:=0
def tw2066591224226813215:Nat:=0
def tw12603235397170687702:Nat:=0
def tw17359036771840812294:Nat:=0
def tw6356058429446775671:Nat:=0
def tw7161725198830447146:Nat:=0
def tw1602591901481225239:Nat:=0
def tw3064976011021843828:Nat:=0
def tw7561049768600599664:Nat:=0
def tw12989661037606238220:Nat:=0
def tw1201851728395502129:Nat:=0
def tw2681530788431160701:Nat:=0
def tw5450592816121407185:Nat:=0
def tw9708695963512193809:Nat:=0
def tw17020636446218985184:Nat:=0
def tw351677977774044689:Nat:=0
def tw10174524676083382517:Nat:=0
def tw4222878158935415734:Nat:=0
def tw4568560555153884050:Nat:=0
def tw15649780265775652754:Nat:=0
def tw13749246808180760316:Nat:=0
def tw9428341886755665409:Nat:=0
def tw8930297969491935994:Nat:=0
def tw3454072587103293361:Nat:=0
def tw2290766000166842116:Nat:=0
def tw11672444994793154965:Nat:=0
def tw12809286031289590239:Nat:=0
def tw4797167439233005261:Nat:=0
def tw13035858191889598412:Nat:=0
def tw9803969359851749866:Nat:=0
def tw6617472515763086725:Nat:=0
def tw10244050648333515525:Nat:=0
def tw8622367338655982980:Nat:=0
def tw845292867660642742:Nat:=0
def tw6239967979534550253:Nat:=0
def tw4719532660562702402:Nat:=0
def tw13687465389786128199:Nat:=0
def tw12648094706584526745:Nat:=0
def tw9199986643407856148:Nat:=0
def tw8951415365929768319:Nat:=0
def tw7231786160789738145:Nat:=0
def tw7155407092041308049:Nat:=0
def tw5455785274370076230:Nat:=0
def tw2797961049074294959:Nat:=0
def tw18417956159212988745:Nat:=0
def tw17895679759531979436:Nat:=0
def tw15169638649114269349:Nat:=0
def tw14720733500425096114:Nat:=0
def tw13188433287362642475:Nat:=0
def tw13045835098089150343:Nat:=0
def tw1285747390305567465:Nat:=0
def tw1279085766230933434:Nat:=0
def tw12381949763906779207:Nat:=0
def tw12227138090398653534:Nat:=0
def tw11086973967458846593:Nat:=0
def tw10836068689319206514:Nat:=0
def tw10236442496389872780:Nat:=0
def tw10216528498406390941:Nat:=0
def tw5787490545563580479:Nat:=0
def tw5300899834379657110:Nat:=0
def tw13790393842189926907:Nat:=0
def tw1204016607734493288:Nat:=0
def tw959812162332823262:Nat:=0
def tw9296867127575159289:Nat:=0
def tw8536575071494265473:Nat:=0
def tw7820862227823351235:Nat:=0
def tw7271485001528097020:Nat:=0
def tw7113400392758495603:Nat:=0
def tw628297229419867447:Nat:=0
def tw6111506951596344781:Nat:=0
def tw5307826595975930604:Nat:=0
def tw4958260804167196709:Nat:=0
def tw4874584694648745175:Nat:=0
def tw409230124043553614:Nat:=0
def tw3456494502076963522:Nat:=0
def tw3329349109770781555:Nat:=0
def tw2526815526844493175:Nat:=0
def tw2009596878860110580:Nat:=0
def tw1884620030142052808:Nat:=0
def tw18443088523277670242:Nat:=0
def tw18150314947771896203:Nat:=0
def tw17891353507278129416:Nat:=0
def tw1619629954526398462:Nat:=0
def tw15828373424171210462:Nat:=0
def tw15765812758656360759:Nat:=0
def tw15756350780964633035:Nat:=0
def tw15009969370373510231:Nat:=0
def tw14638727130007520601:Nat:=0
def tw13883191025770459127:Nat:=0
def tw13012228336545848727:Nat:=0
def tw12554904556991925876:Nat:=0
def tw11762958673564310651:Nat:=0
def tw10533942215025687373:Nat:=0
def tw10062166295535525026:Nat:=0
def tw9843971598265837140:Nat:=0
def tw5154752791971135825:Nat:=0
def tw9649099022498858498:Nat:=0
def tw4144279936722744982:Nat:=0
def tw9594624686698168059:Nat:=0
def tw8694713285778091473:Nat:=0
def tw14200093056483903626:Nat:=0
def tw4751940563563540103:Nat:=0
def tw17112753448268486256:Nat:=0
def tw16485124078174323381:Nat:=0
def tw11697171508644506532:Nat:=0
def tw9299516510285461797:Nat:=0
def tw6943781798222417262:Nat:=0
def tw6892246017907940500:Nat:=0
def tw6352847357459624928:Nat:=0
def tw3539661625142593774:Nat:=0
def tw1928653765550255872:Nat:=0
def tw16851201149221357977:Nat:=0
def tw12887940267354391242:Nat:=0
def tw10974013118110634876:Nat:=0
def tw9255209200765892632:Nat:=0
def tw4014424117047687002:Nat:=0
def tw1204740215459695251:Nat:=0
def tw7075498097430173026:Nat:=0
def tw14916921844835510700:Nat:=0
def tw6726490564042520567:Nat:=0
def tw8870272790508974703:Nat:=0
def tw8768330177940828640:Nat:=0
def tw8000865103768140067:Nat:=0
def tw6460854672100033102:Nat:=0
def tw403108228362299561:Nat:=0
def tw18083907167254088432:Nat:=0
def tw16537829928061068528:Nat:=0
def tw13197719941107826191:Nat:=0
def tw9159741029184504081:Nat:=0
def tw5822739545370460815:Nat:=0
def tw12330254305584168214:Nat:=0
def tw5736202797376000275:Nat:=0
def tw398248284754073452:Nat:=0
def tw1480285790128834069:Nat:=0
def tw11504040520552664382:Nat:=0
def tw12093648876903939217:Nat:=0
def tw5652766607909502511:Nat:=0
def tw9173438529985971778:Nat:=0
def tw8689958522546212584:Nat:=0
def tw8154217693008139724:Nat:=0
def tw7857276815731947985:Nat:=0
def tw6691950117107375009:Nat:=0
def tw618185378905394970:Nat:=0
def tw5755394414401968478:Nat:=0
def tw5279168330043205473:Nat:=0
def tw5277488310383048276:Nat:=0
def tw4874254395204058519:Nat:=0
def tw4074601027263724384:Nat:=0
def tw3779384589664985199:Nat:=0
def tw3196364783091974488:Nat:=0
def tw2747959803023276079:Nat:=0
def tw2456949889650071464:Nat:=0
def tw1943064457736187520:Nat:=0
def tw18160384582301620512:Nat:=0
def tw18002506957878154860:Nat:=0
def tw1796833415457068438:Nat:=0
def tw17803495171713732204:Nat:=0
def tw17568335054357621549:Nat:=0
def tw16981036792006282239:Nat:=0
def tw16235638873945577113:Nat:=0
def tw15152778162969443131:Nat:=0
def tw146666071423506101:Nat:=0
def tw14476487807845484733:Nat:=0
def tw14475862989238621906:Nat:=0
def tw14012182789528886447:Nat:=0
def tw13685844861272111450:Nat:=0
def tw13144880380387090582:Nat:=0
def tw10875791787610381224:Nat:=0
def tw9828567884895027155:Nat:=0
def tw9779124576106654665:Nat:=0
def tw9767044677853369678:Nat:=0
def tw9688919649683802863:Nat:=0
def tw9635204865315698593:Nat:=0
def tw9632989537717002743:Nat:=0
def tw9631871583521150698:Nat:=0
def tw9463294396513020134:Nat:=0
def tw9298106554026998154:Nat:=0
def tw887935572163299508:Nat:=0
def tw863460866026929745:Nat:=0
def tw8619170300431633613:Nat:=0
def tw8050036888704739655:Nat:=0
def tw8000861122116896981:Nat:=0
def tw7658198485391804280:Nat:=0
def tw7057892140255994278:Nat:=0
def tw697460173931761835:Nat:=0
def tw6778719930891452862:Nat:=0
def tw6555098771313771819:Nat:=0
def tw6447932989658643698:Nat:=0
def tw6366856321090608588:Nat:=0
def tw6309415397449499680:Nat:=0
def tw5541438113075344126:Nat:=0
def tw5430971266301741388:Nat:=0
def tw5304159789479911179:Nat:=0
def tw5270987364888053792:Nat:=0
def tw5177410087468603186:Nat:=0
def tw5163856753801121829:Nat:=0
end PySem.W.Fast
open PySem PySem.W PyProof.Rows
set_option maxRecDepth 100000 in
set_option maxHeartbeats 0 in
theorem PySem.Challenge.cw_rowpipes_k24_whole_heads_holds : PySem.Challenge.rw_rowpipes_k24_whole_heads.Holds := by
 w_on; o_law; k_head; (case hw=>w_witness2)
 k_fill
 refine My.walk (l:=PySem.Challenge.rw_rowpipes_k24_whole_heads) rfl rfl (λw h Y=>PySem.W.kIn_of Y) ?F
 case F =>
  intro w mg fa h KX G hmg
  exact My.all_mk KX G hmg
