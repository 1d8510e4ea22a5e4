import PyProof.Rows.All
import Wide.All
import OpenK.AllK
import Wide.FinOn
import Lean
import PyProof.EqAt
import PyProof.EqKinds
import PyProof.TupleCall
import PyProof.NeKinds
import PyProof.SumAny
import PyProof.SetRoads
import PySem.Challenge.RW_rowpipes_k26_whole_heads_of_parts
set_option Elab.async false
set_option linter.all false
set_option maxRecDepth 100000
set_option maxHeartbeats 0
abbrev Vi:=@PySem.wpAny_bind
abbrev Vj:=@PySem.wpAny_pure
abbrev Vk:=@PySem.Heap.get?_push_of_some
abbrev Vl:=@PySem.Heap.lt_size
abbrev Vm:=@PySem.Heap.get?_push_size
abbrev Vn:=@Nat.le_refl
abbrev Vo:=@Nat.le_trans
abbrev Vp:=@decide_eq_false
abbrev Vq:=@decide_eq_true
abbrev Vr:=@List.length_map
abbrev Vs:=@List.length_append
abbrev Vt:=@List.map_append
abbrev Vu:=@Nat.lt_of_le_of_lt
abbrev Vv:=@Nat.lt_of_lt_of_le
abbrev Vw:=@List.getElem?_eq_getElem
abbrev Vx:=@List.mem_append_right
abbrev Vy:=@List.mem_of_getElem?
abbrev Vz:=@List.mem_cons_of_mem
abbrev VA:=@Bool.false_ne_true
abbrev VB:=@List.size_toArray
abbrev VC:=@List.getElem?_eq_some_iff
abbrev VD:=@List.mem_singleton
abbrev VE:=@List.mem_map
abbrev VF:=@List.mem_cons
abbrev VG:=@Bool.eq_false_iff
abbrev VH:=@List.mem_append
abbrev VI:=@Nat.ne_of_lt
abbrev VJ:=@Nat.zero_le
abbrev VL:=@Option.some.inj
abbrev VM:=@List.getElem?_append_right
abbrev VN:=@List.getElem?_append_left
abbrev VO:=@List.getElem?_map
abbrev VP:=@List.length_take
abbrev VQ:=@Array.getElem?_eq_getElem
abbrev VR:=@PySem.wpAny_mono
abbrev VS:=@PySem.wpAny_holding
abbrev VT:=@PySem.wpAny_newObj_type
abbrev VU:=@List.mem_cons_self
abbrev VV:=@List.length_cons
abbrev VW:=@Bool.and_eq_true
abbrev VX:=@of_decide_eq_true
abbrev VY:=@absurd
abbrev VZ:=@if_neg
abbrev V0:=@if_pos
abbrev V1:=@List.not_mem_nil
abbrev V2:=@Or.inl
abbrev V3:=@List.take_length
abbrev V4:=@False.elim
abbrev V5:=@PySem.W.mg_none_of
abbrev V6:=@PyProof.Rows.boot_tuple
abbrev V7:=@PyProof.Rows.boot_int
abbrev V8:=@List.append_nil
abbrev V9:=@PySem.wpAny_call_entry
abbrev V_:=@Nat.le_of_eq
abbrev Wa:=@List.lookup_cons
abbrev Wb:=@List.map_cons
abbrev Wc:=@Array.length_toList
abbrev Wd:=@List.any_cons
abbrev We:=@PySem.boot_len
abbrev Wf:=@PySem.W.mg_of
abbrev Wg:=PySem.W.Frag
namespace L2
open PySem PySem.Spec PyProof.Rows
abbrev Key:=Sum Int Str
def gb:Key->Value->Bool
 | .inl k,v=>Value.isInt k v
 | .inr x,v=>Value.isStrOf x v
def LS(w:World):Key->Int
 | .inl k=>hashInt k
 | .inr x=>hashStr w x
theorem bJ:∀{k:Key} {v:Value},gb k v=true->(∃i t,k=Sum.inl i/\v=Value.int i t)\/(∃x t,k=Sum.inr x/\v=Value.str x t)
 | .inl i,v,h=>by
  obtain⟨t,e⟩:=Value.isInt_shape (k:=i) (v:=v) h
  exact .inl ⟨i,t,rfl,e⟩
 | .inr x,v,h=>by
  obtain⟨t,e⟩:=Value.isStrOf_shape (x:=x) (v:=v) h
  exact .inr ⟨x,t,rfl,e⟩
theorem mw(i:Int)(t:Tok):gb (.inl i) (.int i t)=true:=by simp [gb,Value.isInt]
theorem mG(x:Str)(t:Tok):gb (.inr x) (.str x t)=true:=by simp [gb,Value.isStrOf]
theorem JR(a b:Int):decide ((Sum.inl a:Key)=Sum.inl b)=(a==b):=by
 by_cases e:a=b
 ·subst e; simp
 ·have h:¬(Sum.inl a:Key)=Sum.inl b:=λq=>e (Sum.inl.inj q)
  rw [Vp h]
  exact(beq_eq_false_iff_ne.mpr e).symm
theorem Kb(a b:Str):decide ((Sum.inr a:Key)=Sum.inr b)=decide (a=b):=by
 by_cases e:a=b
 ·subst e; simp
 ·have h:¬(Sum.inr a:Key)=Sum.inr b:=λq=>e (Sum.inr.inj q)
  rw [Vp h,Vp e]
theorem Ky(a:Int)(b:Str):decide ((Sum.inl a:Key)=Sum.inr b)=false:=Vp (λq=>nomatch q)
theorem Ka(a:Str)(b:Int):decide ((Sum.inr a:Key)=Sum.inl b)=false:=Vp (λq=>nomatch q)
def bL(prog:Program)(w:World):PySem.KeyKind prog w Key where
 is:=gb
 hash:=LS w
 inj:=λv a b ha hb=>by
  rcases bJ ha with⟨i,t,rfl,rfl⟩ | ⟨x,t,rfl,rfl⟩
  ·rcases bJ hb with⟨j,u,rfl,e⟩ | ⟨y,u,rfl,e⟩
   ·injection e with e1 _; rw [e1]
   ·exact nomatch e
  ·rcases bJ hb with⟨j,u,rfl,e⟩ | ⟨y,u,rfl,e⟩
   ·exact nomatch e
   ·injection e with e1 _; rw [e1]
 byValue:=λk v h=>by
  rcases bJ h with⟨i,t,rfl,rfl⟩ | ⟨x,t,rfl,rfl⟩ <;> rfl
 pyHash:=λhv h=>by
  rcases bJ hv with⟨i,t,rfl,rfl⟩ | ⟨x,t,rfl,rfl⟩
  ·exact wpAny_pyHash_int h
  ·exact wpAny_pyHash_str h
 eqBool:=λhu hv h=>by
  rcases bJ hu with⟨i,t,rfl,rfl⟩ | ⟨x,t,rfl,rfl⟩
  ·rcases bJ hv with⟨j,u,rfl,rfl⟩ | ⟨y,u,rfl,rfl⟩
   ·rw [JR]at h; exact wpAny_eqBool_int h
   ·rw [Ky]at h; exact SeqAt.EqAt.int_str i t y u _ _ _ _ h
  ·rcases bJ hv with⟨j,u,rfl,rfl⟩ | ⟨y,u,rfl,rfl⟩
   ·rw [Ka]at h; exact SeqAt.EqAt.str_int x t j u _ _ _ _ h
   ·rw [Kb]at h; exact wpAny_eqBool_str h
 «strs»:=λk x t v h=>by
  rcases bJ h with⟨i,u,rfl,e⟩ | ⟨y,u,rfl,e⟩
  ·exact nomatch e
  ·injection e with e1 _
   subst e1
   cases v <;> rfl
abbrev dz:=Option Key
def Ie:dz->Value->Bool
 | none,.none=>true
 | none,_=>false
 | some k,v=>gb k v
theorem wJ{prog:Program}{w:World}{A:Around}{E:Value->Shared->Prop}{s:Shared}{Q:Int->Shared->Prop}(h:Q 0xFCA86420 {s with toks:=s.toks+1}):wpAny (model prog w) A (pyHash .none) Q E s:=by
 unfold pyHash
 have hv:[Value.none].any Value.onHeap=false:=rfl
 refine Vi ?_
 rw [cRoomFor,VZ (by rw [hv]; exact VA)]; refine Vj ?_
 refine Vi (wpAny_specialOf (typeIs_none s) F.slot_NoneType_hash.lookup ?_)
 show wpAny _ _ (if(some (Value.builtin "NoneType.__hash__")==some Value.none)=true then _ else _) Q E s
 rw [VZ (by rw [beq_builtin_none]; exact VA)]
 refine Vi (wpAny_specialOf (typeIs_none s) F.slot_NoneType_hash.lookup ?_)
 refine Vi (wpAny_callSpecialIfBoundUnlessNone?_slot (typeIs_none s) F.slot_NoneType_hash
  (V9 F.slot_NoneType_hash (typeIs_none s) F.entry_NoneType_hash
   (show wpAny _ _ (do ret (←mkInt 0xFCA86420)) _ _ s from wpAny_ret_mkInt ?_) (F.args_NoneType_hash_1 _)))
 show wpAny _ _ (if(decide (-(2:Int) ^ 63<=0xFCA86420)&&decide ((0xFCA86420:Int)<2 ^ 63))=true then _ else _) Q E _
 rw [V0 (by decide)]
 exact Vj h
theorem cT:∀{k:dz} {v:Value},Ie k v=true->(k=none/\v=.none)\/∃k',k=some k'/\gb k' v=true
 | none,.none,_=>.inl ⟨rfl,rfl⟩
 | some k,v,h=>.inr ⟨k,rfl,h⟩
theorem DR(a b:Key):decide ((some a:dz)=some b)=decide (a=b):=by
 by_cases e:a=b
 ·subst e; simp
 ·rw [Vp e,Vp (λq=>e (VL q))]
theorem Lf(a:Key):decide ((some a:dz)=none)=false:=Vp (λq=>nomatch q)
theorem Jz(a:Key):decide ((none:dz)=some a)=false:=Vp (λq=>nomatch q)
def optKind(prog:Program)(w:World):PySem.KeyKind prog w dz where
 is:=Ie
 hash:=λk=>match k with | none=>0xFCA86420 | some k=>LS w k
 inj:=λv a b ha hb=>by
  rcases cT ha with⟨rfl,rfl⟩ | ⟨a',rfl,ha'⟩
  ·rcases cT hb with⟨rfl,_⟩ | ⟨b',rfl,hb'⟩
   ·rfl
   ·rcases bJ hb' with⟨j,u,_,e⟩ | ⟨y,u,_,e⟩ <;> exact nomatch e
  ·rcases cT hb with⟨rfl,rfl⟩ | ⟨b',rfl,hb'⟩
   ·rcases bJ ha' with⟨j,u,_,e⟩ | ⟨y,u,_,e⟩ <;> exact nomatch e
   ·rw [(bL prog w).inj v a' b' ha' hb']
 byValue:=λk v h=>by
  rcases cT h with⟨rfl,rfl⟩ | ⟨k',rfl,h'⟩
  ·rfl
  ·exact(bL prog w).byValue k' v h'
 pyHash:=λhv h=>by
  rcases cT hv with⟨rfl,rfl⟩ | ⟨k',rfl,h'⟩
  ·exact wJ h
  ·exact(bL prog w).pyHash h' h
 eqBool:=λ{A E s a b u v Q} hu hv h=>by
  rcases cT hu with⟨rfl,rfl⟩ | ⟨k,rfl,hk⟩
  ·rcases cT hv with⟨rfl,rfl⟩ | ⟨l,rfl,hl⟩
   ·unfold eqBool
    refine VS ?_
    rw [Vq rfl]at h
    exact wpAny_ite_split (λ_=>Vi (wpAny_rule (Vj h))) (λhn=>VY rfl hn)
   ·rw [Jz]at h
    rcases bJ hl with⟨j,u,rfl,rfl⟩ | ⟨y,u,rfl,rfl⟩
    ·exact SeqAt.EqAt.none_int j u _ _ _ _ h
    ·exact SeqAt.EqAt.none_str y u _ _ _ _ h
  ·rcases cT hv with⟨rfl,rfl⟩ | ⟨l,rfl,hl⟩
   ·rw [Lf]at h
    rcases bJ hk with⟨j,u,rfl,rfl⟩ | ⟨y,u,rfl,rfl⟩
    ·exact SeqAt.EqAt.int_none j u _ _ _ _ h
    ·exact SeqAt.EqAt.str_none y u _ _ _ _ h
   ·rw [DR]at h
    exact(bL prog w).eqBool hk hl h
 «strs»:=λk x t v h=>by
  rcases cT h with⟨_,e⟩ | ⟨k',rfl,h'⟩
  ·exact nomatch e
  ·exact(bL prog w).strs k' x t v h'
theorem wN(prog:Program)(w:World)(i:Int)(t:Tok):(bL prog w).is (.inl i) (.int i t)=true:=mw i t
theorem wG(prog:Program)(w:World)(x:Str)(t:Tok):(bL prog w).is (.inr x) (.str x t)=true:=mG x t
inductive V where
 | non | bl (b:Bool) | int (i:Int) | str (x:Str) | zH (b:Array UInt8) | flt (b:UInt64) | ref (a:Addr) | ty (n:String)
 deriving DecidableEq
def RelV:V->Value->Prop
 | .non,u=>u=Value.none
 | .bl b,u=>u=Value.bool b
 | .int i,u=>∃t,u=Value.int i t
 | .str x,u=>∃t,u=Value.str x t
 | .zH b,u=>∃t,u=Value.bytes b t
 | .flt b,u=>∃t,u=Value.float b t
 | .ref a,u=>u=Value.ref a
 | .ty n,u=>u=Value.type n
abbrev Vals:List V->List Value->Prop:=Paired RelV
theorem Vals.length{xs:List V}{us:List Value}(r:Vals xs us):xs.length=us.length:=Paired.length r
theorem Vals.get:∀{xs:List V} {us:List Value} {i:Nat} {x:V},Vals xs us->xs[i]? = some x->∃u,us[i]? = some u/\RelV x u
 | _,_,_,_,.nil,e=>by simp at e
 | _,_,0,_,.cons r _,e=>by simp at e; subst e; exact⟨_,rfl,r⟩
 | _,_,i+1,x,.cons _ t,e=>by
  obtain⟨u,h1,h2⟩:=Vals.get (i:=i) (x:=x) t (by simpa using e)
  exact⟨u,by simpa using h1,h2⟩
theorem Vals.set{x:V}{u:Value}(r:RelV x u):∀{xs:List V} {us:List Value} (i:Nat),Vals xs us->Vals (xs.set i x) (us.set i u)
 | _,_,_,.nil=>.nil
 | _,_,0,.cons _ t=>.cons r t
 | _,_,i+1,.cons q t=>.cons q (Vals.set r i t)
theorem Vals.append:∀{xs ys:List V} {us ws:List Value},Vals xs us->Vals ys ws->Vals (xs++ys) (us++ws)
 | _,_,_,_,.nil,s=>s
 | _,_,_,_,.cons r t,s=>.cons r (Vals.append t s)
theorem Vals.take:∀{xs:List V} {us:List Value} (n:Nat),Vals xs us->Vals (xs.take n) (us.take n)
 | _,_,0,_=>.nil
 | _,_,_+1,.nil=>.nil
 | _,_,n+1,.cons r t=>.cons r (Vals.take n t)
theorem Vals.drop:∀{xs:List V} {us:List Value} (n:Nat),Vals xs us->Vals (xs.drop n) (us.drop n)
 | _,_,0,r=>r
 | _,_,_+1,.nil=>.nil
 | _,_,n+1,.cons _ t=>Vals.drop n t
def jD:Option V->Option Value->Prop
 | some v,some u=>RelV v u
 | none,none=>True
 | _,_=>False
def KV{κ:Type}:List (κ×V)->List (κ×Value)->Prop:=Paired λ(p:κ×V) (q:κ×Value)=>p.1=q.1/\RelV p.2 q.2
def kV:Key->V
 | .inl i=>.int i
 | .inr x=>.str x
def oV:dz->V
 | none=>.non
 | some k=>kV k
inductive HO where
 | lst (xs:List V)
 | tup (xs:List V)
 | dK (kvs:List (Key×V)) | dT (kvs:List (List dz×V))
 | set (S:Int->Bool) (n:Nat)
 | ins (C dx:Addr) (fs:List (Str×V))
 | own (x:Addr)
 | xd (fs:List (Str×V))
 | met (f x:Addr)
 | Ov (lo hi:Int)
 | xX (o:Obj) (u:HO)
 | IV (ps:Array Value)
 | ext (φ:Heap->Prop)
abbrev Hp:=Addr->Option HO
def upd(H:Hp)(a:Addr)(o:HO):Hp:=λb=>if b=a then some o else H b
theorem ag{H:Hp}{a:Addr}{o:HO}:upd H a o a=some o:=by unfold upd; rw [V0 rfl]
theorem aI{H:Hp}{a b:Addr}{o:HO}(h:b≠a):upd H a o b=H b:=by unfold upd; rw [VZ h]
theorem L9{H:Hp}{a b:Addr}{o u:HO}(h:H a=some o)(h':H b=some u)(d:o≠u):a≠b:=by
 intro e; subst e; rw [h]at h'; exact d (VL h')
theorem aV{H:Hp}{a b:Addr}{o:HO}(h:H a=some o)(h':H b=none):a≠b:=by
 intro e; subst e; rw [h]at h'; cases h'
def ic(h:Heap)(a:Addr)(items:Array Value):Prop:=∃o,h.get? a=some o/\o.cls=.type "tuple"/\(∃n,o.data=.seq items n)/\o.dict=none
theorem ic.tup{h:Heap}{a:Addr}{items:Array Value}(x:ic h a items):IsTup h a items:=let ⟨o,ho,hc,hd,_⟩:=x; ⟨o,ho,hc,hd⟩
theorem ic.new(h:Heap)(items:Array Value):ic (h.push {cls:=.type "tuple",data:=.seq items}) h.objs.size items:=⟨_,Vm _ rfl,rfl,⟨_,rfl⟩,rfl⟩
section
variable(P:Program)(w:World)
def cB(H:Hp)(h:Heap)(a:Addr):HO->Prop
 | .lst xs=>xs.length<=sizeLine/\∃(its:List Value) (n:Nat),Vals xs its/\h.get? a=some {cls:=.type "list",data:=.seq its.toArray n}
 | .tup xs=>xs.length<=sizeLine/\∃its:List Value,Vals xs its/\ic h a its.toArray
 | .dK kvs=>kvs.length<=sizeLine/\(a==sysModules)=false/\∃vs,KV kvs vs/\h.DictOf (bL P w) a vs
 | .dT kvs=>kvs.length<=sizeLine/\(a==sysModules)=false/\∃xs:List (List dz×Addr×Value),
   Paired (λ(p:List dz×V) (q:List dz×Addr×Value)=>p.1=q.1/\H q.2.1=some (.tup (p.1.map oV))/\RelV p.2 q.2.2) kvs xs/\
   ∃o es ep,h.get? a=some o/\o.ExactDict/\o.data=.dict es ep/\es.toList=xs.map (entryOfKey (tupleKind (optKind P w)))/\(xs.map (·.1)).Nodup
 | .set S n=>h.SetOf (intKind P w) a S n
 | .ins C dx fs=>H dx=some (.own a)/\fs.length<=1000/\dx≠a/\h.get? a=some (PySem.W.instObj C dx)/\
   ∃mA,h.Ns1 dx mA/\(∀f,jD (fs.lookup f) (mA f))/\PySem.Within mA (fs.map (·.1))
 | .own _=>∃o,h.get? a=some o
 | .xd fs=>∃mA,h.Ns1 a mA/\∀f,jD (fs.lookup f) (mA f)
 | .Ov lo hi=>∃t u v,h.get? a=some {cls:=.type "range",data:=.fields #[.int lo t,.int hi u,.int 1 v]}
 | .xX o u=>h.get? a=some o/\cB H h a u
 | .IV ps=>h.get? a=some {cls:=.none,data:=.fields ps}
 | .met f x=>h.get? a=some (PySem.W.methodObj (.ref f) (.ref x))
 | .ext φ=>φ h/\(∃o,h.get? a=some o)/\∀h1 h2:Heap,φ h1->(∀o,h1.get? a=some o->h2.get? a=some o)->φ h2
def ji(H:Hp)(h:Heap):Prop:=∀a o,H a=some o->cB P w H h a o
end
section
variable{P:Program}{w:World}{H H':Hp}{h h':Heap}{a:Addr}{o:HO}
theorem cB.lt(x:cB P w H h a o):a<h.objs.size:=by
 cases o with
 | lst xs=>obtain⟨_,_,_,_,e⟩:=x; exact Vl e
 | tup xs=>obtain⟨_,_,_,p⟩:=x; exact p.tup.lt
 | dK kvs=>obtain⟨_,_,_,_,o,_,_,e,_⟩:=x; exact Vl e
 | dT kvs=>obtain⟨_,_,_,_,o,_,_,e,_⟩:=x; exact Vl e
 | set S n=>obtain⟨o,_,_,_,e,_⟩:=x; exact Vl e
 | ins C dx fs=>obtain⟨_,_,_,e,_⟩:=x; exact Vl e
 | own y=>obtain⟨_,e⟩:=x; exact Vl e
 | xd fs=>obtain⟨_,⟨_,_,_,e,_⟩,_⟩:=x; exact Vl e
 | Ov lo hi=>obtain⟨_,_,_,e⟩:=x; exact Vl e
 | xX ob u=>obtain⟨e,_⟩:=x; exact Vl e
 | IV ps=>exact Vl (show h.get? a=some _ from x)
 | met f y=>exact Vl (show h.get? a=some _ from x)
 | ext φ=>obtain⟨_,⟨_,e⟩,_⟩:=x; exact Vl e
theorem Paired.KA{α β:Type}{F G:α->β->Prop}:∀{l₁:List α} {l₂:List β},Paired F l₁ l₂->(∀a b,F a b->G a b)->Paired G l₁ l₂
 | _,_,.nil,_=>.nil
 | _,_,.cons r t,f=>.cons (f _ _ r) (Paired.KA t f)
theorem cB.stay(x:cB P w H h a o)(k:∀b u,(b=a\/H b=some (.own a))->h.get? b=some u->h'.get? b=some u)
  (ho:∀b,H b=some (.own a)->H' b=some (.own a)) (ht:∀b xs,H b=some (.tup xs)->H' b=some (.tup xs)):cB P w H' h' a o:=by
 induction o with
 | lst xs=>obtain⟨z,its,n,r,e⟩:=x; exact⟨z,its,n,r,k _ _ (.inl rfl) e⟩
 | tup xs=>obtain⟨z,its,r,ob,e,c⟩:=x; exact⟨z,its,r,ob,k _ _ (.inl rfl) e,c⟩
 | dK kvs=>obtain⟨z,y,vs,r,ob,es,ep,e,c⟩:=x; exact⟨z,y,vs,r,ob,es,ep,k _ _ (.inl rfl) e,c⟩
 | dT kvs =>
  obtain⟨z,y,xs,r,ob,es,ep,e,c⟩:=x
  exact⟨z,y,xs,Paired.KA r λp q z=>⟨z.1,ht _ _ z.2.1,z.2.2⟩,ob,es,ep,k _ _ (.inl rfl) e,c⟩
 | set S n=>obtain⟨ob,es,ep,t,e,c⟩:=x; exact⟨ob,es,ep,t,k _ _ (.inl rfl) e,c⟩
 | ins C dx fs =>
  obtain⟨d,z,ne,e,mA,⟨od,es,ep,e2,c⟩,r⟩:=x
  exact⟨ho _ d,z,ne,k _ _ (.inl rfl) e,mA,⟨od,es,ep,k _ _ (.inr d) e2,c⟩,r⟩
 | own y=>obtain⟨ob,e⟩:=x; exact⟨ob,k _ _ (.inl rfl) e⟩
 | xd fs=>obtain⟨mA,⟨od,es,ep,e,c⟩,r⟩:=x; exact⟨mA,⟨od,es,ep,k _ _ (.inl rfl) e,c⟩,r⟩
 | Ov lo hi=>obtain⟨t,u,v,e⟩:=x; exact⟨t,u,v,k _ _ (.inl rfl) e⟩
 | xX ob u ih=>obtain⟨e,q⟩:=x; exact⟨k _ _ (.inl rfl) e,ih q⟩
 | IV ps =>
  have e:h.get? a=some {cls:=.none,data:=.fields ps}:=x
  show h'.get? a=some {cls:=.none,data:=.fields ps}
  exact k a _ (.inl rfl) e
 | met f y =>
  have e:h.get? a=some (PySem.W.methodObj (.ref f) (.ref y)):=x
  show h'.get? a=some (PySem.W.methodObj (.ref f) (.ref y))
  exact k a _ (.inl rfl) e
 | ext φ=>obtain⟨p,⟨o,e⟩,st⟩:=x; exact⟨st _ _ p λo q=>k _ _ (.inl rfl) q,⟨o,k _ _ (.inl rfl) e⟩,st⟩
theorem ji.lt(x:ji P w H h)(e:H a=some o):a<h.objs.size:=(x a o e).lt
theorem ji.fresh(x:ji P w H h)(e:h.objs.size<=a):H a=none:=by
 cases q:H a with
 | none=>rfl
 | some u=>exact VY (Vv (x.lt q) e) (Nat.lt_irrefl _)
theorem ji.kept(x:ji P w H h)(k:∀b u,h.get? b=some u->h'.get? b=some u):ji P w H h':=λa o e =>
 (x a o e).stay (λb u _ q=>k b u q) (λ_ q=>q) λ_ _ q=>q
theorem ji.laid(x:ji P w H h)(k:∀b u,h.get? b=some u->h'.get? b=some u)(hp:h.objs.size<=a)(new:cB P w (upd H a o) h' a o):ji P w (upd H a o) h':=λb u e=>by
 have hn:=x.fresh hp
 by_cases hb:b=a
 ·subst hb; rw [ag]at e; cases e; exact new
 ·rw [aI hb]at e
  exact(x b u e).stay (λc v _ q=>k c v q) (λc q=>by rw [aI (aV q hn)]; exact q) λc xs q=>by rw [aI (aV q hn)]; exact q
end
def Rd(H:Hp)(a:Addr)(u:HO):Prop:=H a=some u\/∃o,H a=some (.xX o u)
theorem Rd.ok{P:Program}{w:World}{H:Hp}{h:Heap}{a:Addr}{u:HO}(r:Rd H a u)(x:ji P w H h):cB P w H h a u:=by
 rcases r with r | ⟨o,r⟩
 ·exact x a u r
 ·obtain⟨_,q⟩:=x a _ r
  exact q
def Mt:Option HO->Prop
 | some (.lst _)=>True
 | some (.dK _)=>True
 | some (.dT _)=>True
 | some (.set _ _)=>True
 | some (.ins _ _ _)=>True
 | some (.ext _)=>True
 | _=>False
section
variable{P:Program}{w:World}{H:Hp}{h h':Heap}{x e:Addr}{o':HO}
theorem ji.write(ok:ji P w H h)(mu:Mt (H x))(he:e=x\/H e=some (.own x))(k:∀b u,b≠e->h.get? b=some u->h'.get? b=some u)(heo:∃u,h'.get? e=some u)
  (new:cB P w (upd H x o') h' x o'):ji P w (upd H x o') h':=λb u q=>by
 have Ml:∀c y,H c=some (.own y)->c≠x:=λc y r z=>by subst z; rw [r]at mu; exact mu
 have PH:∀c xs,H c=some (.tup xs)->c≠x:=λc xs r z=>by subst z; rw [r]at mu; exact mu
 by_cases hb:b=x
 ·subst hb; rw [ag]at q; cases q; exact new
 ·rw [aI hb]at q
  by_cases hbe:b=e
  ·have q':H b=some (.own x):=by
    rcases he with z | z
    ·exact VY (hbe.trans z) hb
    ·rw [hbe]; exact z
   rw [q]at q'; cases q'
   obtain⟨v,hv⟩:=heo
   exact⟨v,by rw [hbe]; exact hv⟩
  ·refine(ok b u q).stay (λc v hc r=>k c v ?_ r) (λc r=>by rw [aI (Ml c b r)]; exact r) λc xs r=>by rw [aI (PH c xs r)]; exact r
   rcases hc with rfl | hc
   ·exact hbe
   ·rintro rfl
    rcases he with z | z
    ·exact Ml c b hc z
    ·rw [hc]at z; cases z; exact hb rfl
end
structure Un(fs ex:List Addr)(H H':Hp)(h h':Heap):Prop where
 keep:∀b o,h.get? b=some o->H b=none->b∉fs->b∉ex->h'.get? b=some o
 slot:∀b o,h.get? b=some o->H b=none->b∈fs->b∉ex->∃sl,h'.get? b=some {o with slots:=sl}
 free:∀b o,h.get? b=some o->H b=none->b∉ex->H' b=none
 there:∀b o,h.get? b=some o->b∉ex->∃o',h'.get? b=some o'
 tups:∀b xs,H b=some (.tup xs)->H' b=some (.tup xs)
 qk:∀b o u,H b=some (.xX o u)->H' b=some (.xX o u)
 qO:∀b ps,H b=some (.IV ps)->∃more,H' b=some (.IV (ps++more))
section
variable{fs fs' ex ex':List Addr}{H H1 H2:Hp}{h h1 h2 h':Heap}{a x e:Addr}{o:HO}
theorem Un.any(u:Un fs ex H H1 h h1){b:Addr}{ob:Obj}(q:h.get? b=some ob)(n:H b=none)(hx:b∉ex):∃sl,h1.get? b=some {ob with slots:=sl}:=by
 by_cases hb:b∈fs
 ·exact u.slot b ob q n hb hx
 ·exact⟨ob.slots,u.keep b ob q n hb hx⟩
theorem Un.kept(k:∀b u,h.get? b=some u->h'.get? b=some u):Un fs ex H H h h' :=
 ⟨λb ob q _ _ _=>k b ob q,λb ob q _ _ _=>⟨ob.slots,k b ob q⟩,λ_ _ _ n _=>n,λb ob q _=>⟨ob,k b ob q⟩,λ_ _ q=>q,λ_ _ _ q=>q,λ_ ps q=>⟨#[],by rw [q]; simp⟩⟩
theorem Un.refl:Un fs ex H H h h:=Un.kept λ_ _ q=>q
theorem Un.laid(k:∀b u,h.get? b=some u->h'.get? b=some u)(hp:h.objs.size<=a)(hn:H a=none):Un fs ex H (upd H a o) h h' where
 keep:=λb u q _ _ _=>k b u q
 slot:=λb u q _ _ _=>⟨u.slots,k b u q⟩
 free:=λb u q n _=>by rw [aI (VI (Vv (Vl q) hp))]; exact n
 there:=λb u q _=>⟨u,k b u q⟩
 tups:=λb xs q=>by rw [aI (aV q hn)]; exact q
 qk:=λb u xs q=>by rw [aI (aV q hn)]; exact q
 qO:=λb ps q=>⟨#[],by rw [aI (aV q hn),q]; simp⟩
theorem Un.write(mu:Mt (H x))(he:e=x\/H e=some (.own x))(k:∀b u,b≠e->h.get? b=some u->h'.get? b=some u)(heo:∃u,h'.get? e=some u):Un fs ex H (upd H x o) h h':=by
 have hx:∀b,H b=none->b≠x:=λb n z=>by subst z; rw [n]at mu; exact mu
 have hb:∀b,H b=none->b≠e:=λb n z=>by
  subst z
  rcases he with r | r
  ·exact hx b n r
  ·rw [n]at r; cases r
 have hm:∀b u,H b=some u->¬Mt (some u)->b≠x:=λb u q nm z=>by subst z; rw [q]at mu; exact nm mu
 refine⟨λb u q n _ _=>k b u (hb b n) q,λb u q n _ _=>⟨u.slots,k b u (hb b n) q⟩,λb u q n _=>by rw [aI (hx b n)]; exact n,λb u q _=>?_,
  λb xs q=>by rw [aI (hm b _ q λz=>z)]; exact q,λb u xs q=>by rw [aI (hm b _ q λz=>z)]; exact q,λb ps q=>⟨#[],by rw [aI (hm b _ q λz=>z),q]; simp⟩⟩
 by_cases hbe:b=e
 ·subst hbe; exact heo
 ·exact⟨u,k b u hbe q⟩
end
def Ot(h:Heap)(H:Hp):List Addr:=(List.range h.objs.size).filter λa=>(H a).isSome
def uw(h:Heap)(H:Hp):Heap:=PySem.W.hideAll h (Ot h H)
theorem Bn(h:Heap)(H:Hp):(uw h H).objs.size=h.objs.size:=PySem.W.hideAll_size _ _
theorem Ek{h:Heap}{H:Hp}{b:Addr}{o:Obj}(e:h.get? b=some o)(n:H b=none):(uw h H).get? b=some o :=
 PySem.W.hideAll_get _ e λhm=>by
  have q:(H b).isSome=true:=(List.mem_filter.mp hm).2
  rw [n]at q; simp at q
theorem FO{h:Heap}{H:Hp}{b:Addr}{o:Obj}(e:(uw h H).get? b=some o):h.get? b=some o/\H b=none:=by
 have e':h.get? b=some o:=PySem.W.of_hideAll (Ot h H) e
 refine⟨e',?_⟩
 cases q:H b with
 | none=>rfl
 | some x =>
  have hm:b∈Ot h H:=List.mem_filter.mpr ⟨List.mem_range.mpr (Vl e'),by simp [q]⟩
  have z:(uw h H).get? b=none:=PySem.W.hideAll_none (Ot h H) hm
  rw [z]at e; cases e
structure Mod(K:Wg)(mg:Str->Option Value)(base:Heap):Prop where
 Lq:K.In base
 glob:base.Ns mainGlobals mg
 blt:∃mb,base.Ns builtinsNs mb/\∀x:Str,x≠"__name__"->mb x=bootBuiltins x
 nolimit:base.NoLimit
structure Cx where
 prog:Program
 w:World
 K:Wg
 mg:Str->Option Value
 base:Heap
 A:Around
 N:List Str
 s₀:Shared
 H₀:Hp
 env:Env
 outer:List Env
 stack:List Env
 ex:List Addr
 fn:Str->Bool
 calm:Bool
 pn:List (Addr×Obj)
 xe:Value->Shared->Prop
def frs(l:List Env):List Addr:=l.filterMap (·.frame)
abbrev Cx.fs(X:Cx):List Addr:=frs X.outer
def PY(sc:Scope)(x:Str):Prop:=sc.names.lookup x=some .local\/sc.names.lookup x=some .cell\/sc.names.lookup x=some .free
def Loc(sc:Scope)(x:Str):Prop:=sc.names.lookup x=some .local\/sc.names.lookup x=some .cell
def Look(env:Env)(h:Heap)(m:Str->Option Value)(x:Str)(u:Value):Prop :=
 (env.kindOf x=some .local/\m x=some u)\/((env.kindOf x=some .cell\/env.kindOf x=some .free)/\∃c,env.cells.lookup x=some c/\h.IsCell c (some u))
structure Cx.Ok(X:Cx):Prop where
 mod:Mod X.K X.mg X.base
 kind:X.env.scope.kind=.function
 glob:X.env.globals=mainGlobals
 blt:X.env.builtins=builtinsNs
 above:X.s₀.heap.objs.size<=X.env.locals
 inj:∀x y c,X.env.cells.lookup x=some c->X.env.cells.lookup y=some c->x=y
 has:∀x,(X.env.kindOf x=some .cell\/X.env.kindOf x=some .free)->∃c,X.env.cells.lookup x=some c
 cab:∀x c,X.fn x=true->X.env.cells.lookup x=some c->X.s₀.heap.objs.size<=c
 hd:X.calm=true->X.A.handled=none
 frames:X.A.frames=some X.stack
 KS:X.stack=X.outer\/(X.stack=X.env::X.outer/\X.env.frame=some X.env.locals)
 Br:∀b∈X.ex,b≠X.env.locals/\∀x c,X.env.cells.lookup x=some c->c≠b
 bs:∀b o,X.base.get? b=some o->X.s₀.heap.get? b=some o/\X.H₀ b=none
 BG:X.base.objs.size<=X.s₀.heap.objs.size
 vV:∀b o,X.base.get? b=some o->b∉X.ex
 om:∀b∈X.ex,b∉X.fs
 ky:X.s₀.heap.FunFrames X.base X.outer
 E8:∀b∈X.fs,X.H₀ b=none
structure Inv(X:Cx)(pins:List (Addr×Obj))(σ:List (Option V))(H:Hp)(s:Shared):Prop where
 ok:X.Ok
 os:s.os=X.s₀.os
 bare:AllBare s.gens
 base:Un X.fs X.ex X.H₀ H X.s₀.heap s.heap
 loc:∃m,s.heap.Ns X.env.locals m/\∀(i:Nat) (x:Str) (v:V),X.N[i]? = some x->σ[i]? = some (some v)->PY X.env.scope x->∃u,RelV v u/\Look X.env s.heap m x u
 cell:∀x c,X.env.cells.lookup x=some c->∃v,s.heap.IsCell c v
 free:H X.env.locals=none
 fU:∀x c,X.env.cells.lookup x=some c->H c=none
 pin:∀p∈X.pn++pins,s.heap.get? p.1=some p.2/\H p.1=none/\p.1≠X.env.locals/\p.1∉X.fs/\∀v,p.2.data≠ .cell v
 hok:ji X.prog X.w H s.heap
 len:σ.length=X.N.length
section
variable{X:Cx}{pins:List (Addr×Obj)}{σ:List (Option V)}{H H':Hp}{s:Shared}{h':Heap}
theorem Cx.Ok.P0(ok:X.Ok){b:Addr}{o:Obj}(e:X.base.get? b=some o):b∉X.fs:=λhb=>by
 have:=(ok.ky.mem hb).1
 rw [e]at this; cases this
theorem Inv.bs(I:Inv X pins σ H s):∀b o,X.base.get? b=some o->s.heap.get? b=some o/\H b=none:=λb o e =>
 ⟨I.base.keep b o (I.ok.bs b o e).1 (I.ok.bs b o e).2 (I.ok.P0 e) (I.ok.vV b o e),I.base.free b o (I.ok.bs b o e).1 (I.ok.bs b o e).2 (I.ok.vV b o e)⟩
theorem Inv.bk(I:Inv X pins σ H s):∀b o,X.base.get? b=some o->s.heap.get? b=some o:=λb o e=>(I.bs b o e).1
theorem Inv.mod(I:Inv X pins σ H s):Mod X.K X.mg X.base:=I.ok.mod
theorem Inv.jZ(I:Inv X pins σ H s):X.K.In s.heap:=I.ok.mod.Lq.keeps I.bk
theorem Inv.lt(I:Inv X pins σ H s):X.env.locals<s.heap.objs.size:=let ⟨_,hn,_⟩:=I.loc; hn.lt
theorem Inv.sz(I:Inv X pins σ H s):X.s₀.heap.objs.size<=s.heap.objs.size:=Vo I.ok.above (Nat.le_of_lt I.lt)
theorem Inv.PN(I:Inv X pins σ H s){a:Addr}(h:s.heap.objs.size<=a):a∉X.fs:=λhb=>by
 obtain⟨_,o,ho,_⟩:=I.ok.ky.mem hb
 exact VY (Vv (Vl ho) (Vo I.sz h)) (Nat.lt_irrefl _)
theorem Inv.Fm(I:Inv X pins σ H s):∀x c,X.env.cells.lookup x=some c->c≠X.env.locals:=λx c e z=>by
 obtain⟨v,o,ho,hd⟩:=I.cell x c e
 obtain⟨m,⟨o',es,ep,ho',hd',_⟩,_⟩:=I.loc
 rw [z,ho']at ho; cases ho; rw [hd']at hd; cases hd
theorem Inv.ky(I:Inv X pins σ H s):s.heap.FunFrames X.base X.outer:=by
 have all:∀(l:List Env),(∀b∈frs l,b∈X.fs)->X.s₀.heap.FunFrames X.base l->s.heap.FunFrames X.base l:=by
  intro l
  induction l with
  | nil=>intro _ _; trivial
  | cons env r ih =>
   intro hs hl
   obtain⟨hk,⟨L,o,hf,hn,ho,hd⟩,hr⟩:=hl
   have hL:L∈X.fs:=hs L (by unfold frs; rw [List.filterMap_cons,hf]; exact VU)
   obtain⟨sl,e⟩:=I.base.slot L o ho (I.ok.E8 L hL) hL λz=>I.ok.om L z hL
   exact⟨hk,⟨L,_,hf,hn,e,hd⟩,ih (λb hb=>hs b (by unfold frs; rw [List.filterMap_cons,hf]; exact Vz _ hb)) hr⟩
 exact all X.outer (λ_ hb=>hb) I.ok.ky
theorem Inv.stack(I:Inv X pins σ H s):s.heap.FunFrames X.base X.stack:=by
 rcases I.ok.KS with e | ⟨e,hf⟩
 ·rw [e]; exact I.ky
 ·rw [e]
  obtain⟨m,hn,_⟩:=I.loc
  refine .cons (by rw [I.ok.kind]; decide) hf hn ?_ I.ky
  exact Heap.get?_none_of_le (Vo I.ok.BG I.ok.above)
theorem Inv.yK(I:Inv X pins σ H s):∀b∈frs X.stack,b∈X.env.locals::X.fs:=λb hb=>by
 rcases I.ok.KS with e | ⟨e,hf⟩
 ·rw [e]at hb; exact Vz _ hb
 ·rw [e]at hb
  unfold frs at hb
  rw [List.filterMap_cons,hf]at hb
  exact hb
theorem Inv.nI(I:Inv X pins σ H s):∀b∈frs X.stack,H b=none:=λb hb=>by
 rcases VF.mp (I.yK b hb)with e | hb
 ·rw [e]; exact I.free
 ·obtain⟨_,o,ho,_⟩:=I.ok.ky.mem hb
  exact I.base.free b o ho (I.ok.E8 b hb) λz=>I.ok.om b z hb
theorem Inv.step{g':Array GenState}{t':Nat}{d':Drawn}{ch:List Addr}(I:Inv X pins σ H s)
  (hch:∀b∈ch,(b∈X.ex\/X.s₀.heap.objs.size<=b)/\b≠X.env.locals/\(∀x c,X.env.cells.lookup x=some c->c≠b)/\∀p∈X.pn++pins,p.1≠b)
  (keep:∀b o,b≠X.env.locals->b∉X.fs->b∉ch->s.heap.get? b=some o->H b=none->h'.get? b=some o)
  (slot:∀b o,b≠X.env.locals->b∈X.fs->b∉ch->s.heap.get? b=some o->H b=none->∃sl,h'.get? b=some {o with slots:=sl}) (free:∀b o,b∉ch->s.heap.get? b=some o->H b=none->H' b=none)
  (there:∀b o,b∉ch->s.heap.get? b=some o->∃o',h'.get? b=some o')
  (tups:∀b xs,H b=some (.tup xs)->H' b=some (.tup xs)) (qk:∀b o u,H b=some (.xX o u)->H' b=some (.xX o u)) (qO:∀b ps,H b=some (.IV ps)->∃more,H' b=some (.IV (ps++more)))
  (ns:∀m,s.heap.Ns X.env.locals m->h'.Ns X.env.locals m) (hok:ji X.prog X.w H' h') (hg:AllBare g') :
  Inv X pins σ H' {s with heap:=h',gens:=g',drawn:=d',toks:=t'}:=by
 have LC:∀b o,X.s₀.heap.get? b=some o->b≠X.env.locals:=λb o e=>VI (Vv (Vl e) I.ok.above)
 have Lg:∀b o,X.s₀.heap.get? b=some o->b∉X.ex->b∉ch:=λb o e hx hb=>by
  rcases(hch b hb).1 with z | z
  ·exact hx z
  ·exact VY (Vv (Vl e) z) (Nat.lt_irrefl _)
 have cellK:∀x c,X.env.cells.lookup x=some c->∀v,s.heap.IsCell c v->h'.IsCell c v:=λx c e v ⟨o,ho,hd⟩=>by
  have LY:c∉ch:=λz=>(hch c z).2.2.1 x c e rfl
  by_cases hc:c∈X.fs
  ·obtain⟨sl,q⟩:=slot c o (I.Fm x c e) hc LY ho (I.fU x c e)
   exact⟨_,q,hd⟩
  ·exact⟨o,keep c o (I.Fm x c e) hc LY ho (I.fU x c e),hd⟩
 refine⟨I.ok,I.os,hg,⟨λb o e n hb hx=>?_,λb o e n hb hx=>?_,λb o e n hx=>?_,λb o e hx=>?_,λb xs e=>tups b xs (I.base.tups b xs e),λb o xs e=>qk b o xs (I.base.qk b o xs e),λb ps e=>?_⟩,?_,λx c e=>?_,?_,λx c e=>?_,λp hp=>?_,hok,I.len⟩
 ·exact keep b o (LC b o e) hb (Lg b o e hx) (I.base.keep b o e n hb hx) (I.base.free b o e n hx)
 ·obtain⟨sl,e1⟩:=I.base.slot b o e n hb hx
  obtain⟨sl',e2⟩:=slot b _ (LC b o e) hb (Lg b o e hx) e1 (I.base.free b o e n hx)
  exact⟨sl',e2⟩
 ·obtain⟨o',e1⟩:=I.base.there b o e hx
  exact free b o' (Lg b o e hx) e1 (I.base.free b o e n hx)
 ·obtain⟨o',e1⟩:=I.base.there b o e hx
  exact there b o' (Lg b o e hx) e1
 ·obtain⟨m1,e1⟩:=I.base.qO b ps e
  obtain⟨m2,e2⟩:=qO b _ e1
  exact⟨m1++m2,by rw [e2,Array.append_assoc]⟩
 ·obtain⟨m,hn,hl⟩:=I.loc
  refine⟨m,ns m hn,λi x v e1 e2 e3=>?_⟩
  obtain⟨u,r,l⟩:=hl i x v e1 e2 e3
  refine⟨u,r,?_⟩
  rcases l with l | ⟨k,c,e,z⟩
  ·exact .inl l
  ·exact .inr ⟨k,c,e,cellK x c e _ z⟩
 ·obtain⟨v,z⟩:=I.cell x c e
  exact⟨v,cellK x c e v z⟩
 ·obtain⟨m,⟨o,_,_,ho,_⟩,_⟩:=I.loc
  exact free _ o (λz=>(hch _ z).2.1 rfl) ho I.free
 ·obtain⟨v,o,ho,hd⟩:=I.cell x c e
  exact free c o (λz=>(hch c z).2.2.1 x c e rfl) ho (I.fU x c e)
 ·obtain⟨e,n,ne,nf,d⟩:=I.pin p hp
  have LY:p.1∉ch:=λz=>(hch p.1 z).2.2.2 p hp rfl
  exact⟨keep p.1 p.2 ne nf LY e n,free p.1 p.2 LY e n,ne,nf,d⟩
theorem Inv.un{t':Nat}(I:Inv X pins σ H s)(u:Un X.fs [] H H' s.heap h')(hok:ji X.prog X.w H' h'):Inv X pins σ H' {s with heap:=h',toks:=t'}:=by
 obtain⟨m,⟨o,es,ep,ho,r⟩,_⟩:=id I.loc
 obtain⟨sl,hL⟩:=u.any ho I.free (by simp)
 exact I.step (g':=s.gens) (d':=s.drawn) (ch:=[]) (λ_ z=>nomatch z) (λb o _ hb _ e n=>u.keep b o e n hb (by simp)) (λb o _ hb _ e n=>u.slot b o e n hb (by simp)) (λb o _ e n=>u.free b o e n (by simp)) (λb o _ e=>u.there b o e (by simp)) u.tups u.qk u.qO (λm' hm=>by
  obtain⟨o',es',ep',ho',r'⟩:=hm
  rw [ho]at ho'; cases ho'
  exact⟨_,es',ep',hL,r'⟩) hok I.bare
theorem Inv.call{g':Array GenState}{t':Nat}{d':Drawn}{ch:List Addr}(I:Inv X pins σ H s)(u:Un (frs X.stack) ch H H' s.heap h')(hok:ji X.prog X.w H' h')(hg:AllBare g')
  (hch:∀b∈ch,(b∈X.ex\/X.s₀.heap.objs.size<=b)/\b≠X.env.locals/\(∀x c,X.env.cells.lookup x=some c->c≠b)/\∀p∈X.pn++pins,p.1≠b) :
  Inv X pins σ H' {s with heap:=h',gens:=g',drawn:=d',toks:=t'}:=by
 obtain⟨m,⟨o,es,ep,ho,r⟩,_⟩:=id I.loc
 obtain⟨sl,hL⟩:=u.any ho I.free λz=>(hch _ z).2.1 rfl
 exact I.step (ch:=ch) hch (λb o hL hb hc e n=>u.keep b o e n (λz=>(VF.mp (I.yK b z)).elim hL hb) hc) (λb o _ _ hc e n=>u.any e n hc) (λb o hc e n=>u.free b o e n hc) (λb o hc e=>u.there b o e hc) u.tups u.qk u.qO (λm' hm=>by
  obtain⟨o',es',ep',ho',r'⟩:=hm
  rw [ho]at ho'; cases ho'
  exact⟨_,es',ep',hL,r'⟩) hok hg
theorem Inv.turned{t':Nat}{it:Addr}(I:Inv X pins σ H s)(k:∀b o,b≠it->s.heap.get? b=some o->h'.get? b=some o)(hn:H it=none)(hL:it≠X.env.locals)
  (h1:it∈X.ex\/X.s₀.heap.objs.size<=it) (h2:∀x c,X.env.cells.lookup x=some c->c≠it) (h3:∀p∈X.pn++pins,p.1≠it):Inv X pins σ H {s with heap:=h',toks:=t'}:=by
 have Ij:∀b u,H b=some u->b≠it:=λb u e z=>by rw [z,hn]at e; cases e
 refine I.step (g':=s.gens) (d':=s.drawn) (ch:=[it]) (λb hb=>?_) (λb o _ _ hc e _=>k b o (λz=>hc (by simp [z])) e) (λb o _ _ hc e _=>⟨o.slots,k b o (λz=>hc (by simp [z])) e⟩) (λ_ _ _ _ n=>n)
  (λb o hc e=>⟨o,k b o (λz=>hc (by simp [z])) e⟩) (λ_ _ e=>e) (λ_ _ _ e=>e) (λb ps e=>⟨#[],by rw [e]; simp⟩) (λm hm=>?_) (λb u e=>?_) I.bare
 ·have e:b=it:=by simpa using hb
  subst e
  exact⟨h1,hL,h2,h3⟩
 ·obtain⟨o,es,ep,ho,r⟩:=hm
  exact⟨o,es,ep,k _ o (Ne.symm hL) ho,r⟩
 ·refine(I.hok b u e).stay (λc v hc q=>k c v ?_ q) (λ_ q=>q) λ_ _ q=>q
  rcases hc with z | z
  ·rw [z]; exact Ij b u e
  ·exact Ij c _ z
theorem Inv.tok(I:Inv X pins σ H s)(t:Nat):Inv X pins σ H {s with toks:=t}:=I.un (h':=s.heap) (t':=t) Un.refl I.hok
theorem Inv.kept{t':Nat}(I:Inv X pins σ H s)(k:∀b u,s.heap.get? b=some u->h'.get? b=some u):Inv X pins σ H {s with heap:=h',toks:=t'}:=I.un (Un.kept k) (I.hok.kept k)
theorem Inv.laid{a:Addr}{o:HO}{t':Nat}(I:Inv X pins σ H s)(k:∀b u,s.heap.get? b=some u->h'.get? b=some u)(hp:s.heap.objs.size<=a)(new:cB X.prog X.w (upd H a o) h' a o) :
  Inv X pins σ (upd H a o) {s with heap:=h',toks:=t'}:=I.un (Un.laid k hp (I.hok.fresh hp)) (I.hok.laid k hp new)
theorem Inv.write{x e:Addr}{o:HO}{t':Nat}(I:Inv X pins σ H s)(mu:Mt (H x))(he:e=x\/H e=some (.own x))(k:∀b u,b≠e->s.heap.get? b=some u->h'.get? b=some u)(heo:∃u,h'.get? e=some u)
  (new:cB X.prog X.w (upd H x o) h' x o):Inv X pins σ (upd H x o) {s with heap:=h',toks:=t'}:=I.un (Un.write mu he k heo) (I.hok.write mu he k heo new)
theorem Inv.i7{pins':List (Addr×Obj)}(I:Inv X pins σ H s)(h:∀p∈pins',s.heap.get? p.1=some p.2/\H p.1=none/\p.1≠X.env.locals/\p.1∉X.fs/\∀v,p.2.data≠ .cell v):Inv X pins' σ H s :=
 ⟨I.ok,I.os,I.bare,I.base,I.loc,I.cell,I.free,I.fU,λp hp=>(VH.mp hp).elim (λz=>I.pin p (List.mem_append_left _ z)) (h p),I.hok,I.len⟩
theorem qv{N:List Str}(hN:N.Nodup){i j:Nat}{x:Str}(a:N[i]? = some x)(b:N[j]? = some x):i=j:=by
 obtain⟨h1,e1⟩:=VC.mp a
 obtain⟨h2,e2⟩:=VC.mp b
 exact(List.getElem_inj hN).mp (e1.trans e2.symm)
theorem md{M:Model}{A:Around}{E:Value->Shared->Prop}{i:Nat}{x:Str}{v:V}{u:Value}{Q:Unit->Shared->Prop}(I:Inv X pins σ H s)(hN:X.N.Nodup)(hi:X.N[i]? = some x)(hx:Loc X.env.scope x)(r:RelV v u)
  (h:∀s',Inv X pins (σ.set i (some v)) H s'->(∃a,Heap.SameBut a s.heap s'.heap/\(a=X.env.locals\/X.env.cells.lookup x=some a))->Q () s') (hf:X.fn x=true\/X.env.scope.names.lookup x=some .local:=by first | exact .inl rfl | exact .inr rfl | assumption):wpAny M A (storeName X.env x u) Q E s:=by
 obtain⟨m,hn,hl⟩:=id I.loc
 have hcls:(X.env.scope.kind == .class||(X.env.scope.kind == .module&&X.env.locals != X.env.globals))=false:=by rw [I.ok.kind]; rfl
 have Ef:i<σ.length:=by rw [I.len]; exact(VC.mp hi).1
 have Fm:=I.Fm
 have tracked:∀{a:Addr} {h':Heap},(∃o,s.heap.get? a=some o/\H a=none)->Heap.SameBut a s.heap h'->ji X.prog X.w H h':=λ{a h'} ha hs b ob e=>by
  obtain⟨_,_,hfree⟩:=ha
  refine(I.hok b ob e).stay (λc w' hc q=>(hs.2 c ?_).trans q) (λ_ q=>q) λ_ _ q=>q
  rintro rfl
  rcases hc with rfl | hc
  ·rw [hfree]at e; cases e
  ·rw [hfree]at hc; cases hc
 rcases hx with hk | hk
 ·refine wpAny_storeName_local hk hn (λh' hn' hs=>?_) hcls
  obtain⟨oL,_,_,hoL,_⟩:=id hn
  refine h _ ⟨I.ok,I.os,I.bare,⟨λb o e n hb hx=>?_,λb o e n hb hx=>?_,I.base.free,λb o e hx=>?_,I.base.tups,I.base.qk,I.base.qO⟩,⟨_,hn',λj y v' e1 e2 e3=>?_⟩,λy c e=>?_,I.free,I.fU,λp hp=>?_,tracked ⟨oL,hoL,I.free⟩ hs,by simpa using I.len⟩ ⟨_,hs,.inl rfl⟩
  ·exact(hs.2 b (VI (Vv (Vl e) I.ok.above))).trans (I.base.keep b o e n hb hx)
  ·obtain⟨sl,e1⟩:=I.base.slot b o e n hb hx
   exact⟨sl,(hs.2 b (VI (Vv (Vl e) I.ok.above))).trans e1⟩
  ·obtain⟨o',e1⟩:=I.base.there b o e hx
   exact⟨o',(hs.2 b (VI (Vv (Vl e) I.ok.above))).trans e1⟩
  ·by_cases hj:j=i
   ·subst hj
    rw [hi]at e1; cases e1
    rw [List.getElem?_set_self Ef]at e2
    cases e2
    exact⟨u,r,.inl ⟨hk,by simp⟩⟩
   ·rw [List.getElem?_set_ne (Ne.symm hj)]at e2
    obtain⟨u',r',q⟩:=hl j y v' e1 e2 e3
    refine⟨u',r',?_⟩
    rcases q with⟨k,e⟩ | ⟨k,c,e,z⟩
    ·refine .inl ⟨k,?_⟩
     have:y≠x:=λe=>hj (qv hN e1 (e▸hi))
     simp [this,e]
    ·exact .inr ⟨k,c,e,z.sameBut hs (Fm y c e)⟩
  ·obtain⟨w',z⟩:=I.cell y c e
   exact⟨w',z.sameBut hs (Fm y c e)⟩
  ·obtain⟨e,n,ne,nf,d⟩:=I.pin p hp
   exact⟨(hs.2 p.1 ne).trans e,n,ne,nf,d⟩
 ·have hfn:X.fn x=true:=by
   rcases hf with z | z
   ·exact z
   ·rw [z]at hk; cases hk
  obtain⟨c,hc⟩:=I.ok.has x (.inl hk)
  obtain⟨w',z⟩:=I.cell x c hc
  refine wpAny_storeName_cell I.ok.kind hk hc z (λh' hc' hs=>?_)
  obtain⟨oc,hoc,Pj⟩:=id z
  refine h {s with heap:=h'} ⟨I.ok,I.os,I.bare,⟨λb o e n hb hx=>?_,λb o e n hb hx=>?_,I.base.free,λb o e hx=>?_,I.base.tups,I.base.qk,I.base.qO⟩,⟨m,hn.sameBut hs (Ne.symm (Fm x c hc)),λj y v' e1 e2 e3=>?_⟩,λy c' e=>?_,I.free,I.fU,λp hp=>?_,tracked ⟨oc,hoc,I.fU x c hc⟩ hs,by simpa using I.len⟩ ⟨c,hs,.inr hc⟩
  ·exact(hs.2 b (VI (Vv (Vl e) (I.ok.cab x c hfn hc)))).trans (I.base.keep b o e n hb hx)
  ·obtain⟨sl,e1⟩:=I.base.slot b o e n hb hx
   exact⟨sl,(hs.2 b (VI (Vv (Vl e) (I.ok.cab x c hfn hc)))).trans e1⟩
  ·obtain⟨o',e1⟩:=I.base.there b o e hx
   exact⟨o',(hs.2 b (VI (Vv (Vl e) (I.ok.cab x c hfn hc)))).trans e1⟩
  ·by_cases hj:j=i
   ·subst hj
    rw [hi]at e1; cases e1
    rw [List.getElem?_set_self Ef]at e2
    cases e2
    exact⟨u,r,.inr ⟨.inl hk,c,hc,hc'⟩⟩
   ·rw [List.getElem?_set_ne (Ne.symm hj)]at e2
    obtain⟨u',r',q⟩:=hl j y v' e1 e2 e3
    refine⟨u',r',?_⟩
    rcases q with q | ⟨k,c',e,z'⟩
    ·exact .inl q
    ·refine .inr ⟨k,c',e,z'.sameBut hs ?_⟩
     rintro rfl
     exact hj (qv hN e1 (I.ok.inj _ _ _ e hc▸hi))
  ·by_cases hcc:c'=c
   ·subst hcc; exact⟨_,hc'⟩
   ·obtain⟨w2,z2⟩:=I.cell y c' e
    exact⟨w2,z2.sameBut hs hcc⟩
  ·obtain⟨e,n,ne,nf,d⟩:=I.pin p hp
   refine⟨(hs.2 p.1 ?_).trans e,n,ne,nf,d⟩
   intro q
   rw [q,hoc]at e
   have q':oc=p.2:=VL e
   exact d w' (by rw [←q']; exact Pj)
theorem iu{M:Model}{A:Around}{E:Value->Shared->Prop}{i:Nat}{x:Str}{v:V}{u:Value}{Q:Unit->Shared->Prop}(I:Inv X pins σ H s)(hN:X.N.Nodup)(hi:X.N[i]? = some x)(hx:Loc X.env.scope x)(r:RelV v u)
  (h:∀s',Inv X pins (σ.set i (some v)) H s'->Q () s') (hf:X.fn x=true\/X.env.scope.names.lookup x=some .local:=by first | exact .inl rfl | exact .inr rfl | assumption):wpAny M A (storeName X.env x u) Q E s :=
 md I hN hi hx r (λs' I' _=>h s' I') hf
theorem Inv.call'{s':Shared}{ch:List Addr}(I:Inv X pins σ H s)(ho:s'.os=s.os)(u:Un (frs X.stack) ch H H' s.heap s'.heap)(hok:ji X.prog X.w H' s'.heap)(hg:AllBare s'.gens)
  (hch:∀b∈ch,(b∈X.ex\/X.s₀.heap.objs.size<=b)/\b≠X.env.locals/\(∀x c,X.env.cells.lookup x=some c->c≠b)/\∀p∈X.pn++pins,p.1≠b):Inv X pins σ H' s':=by
 obtain⟨h',g',d',t',o'⟩:=s'
 have e:o'=s.os:=ho
 subst e
 exact I.call (g':=g') (t':=t') (d':=d') u hok hg hch
end
abbrev XK:=Value->Option Addr->Hp->Prop
abbrev St:=List (Option V)
abbrev VK:=V->Hp->Prop
abbrev TE:=St->Hp->VK->Prop
abbrev TT:=St->Hp->(Bool->Hp->Prop)->Prop
abbrev TA:=St->Hp->(List V->Hp->Prop)->Prop
structure Ends where
 nx:St->Hp->Prop
 rt:VK
 bk:St->Hp->Prop:=λ_ _=>False
 ct:St->Hp->Prop:=λ_ _=>False
abbrev TS:=Ends->St->Hp->Prop
def EP(X:Cx)(pins:List (Addr×Obj))(σ:St)(Q:VK)(u:Value)(s':Shared):Prop:=∃v H',Inv X pins σ H' s'/\RelV v u/\Q v H'
def TP(X:Cx)(pins:List (Addr×Obj))(σ:St)(Q:Bool->Hp->Prop)(b:Bool)(s':Shared):Prop:=∃H',Inv X pins σ H' s'/\Q b H'
def AP(X:Cx)(pins:List (Addr×Obj))(σ:St)(Q:List V->Hp->Prop)(us:List Value)(s':Shared):Prop:=∃vs H',Inv X pins σ H' s'/\Vals vs us/\Q vs H'
def SP(X:Cx)(pins:List (Addr×Obj))(D:Ends)(f:Flow)(s':Shared):Prop :=
 match f with
 | .next=>∃σ' H',Inv X pins σ' H' s'/\D.nx σ' H'
 | .brk=>∃σ' H',Inv X pins σ' H' s'/\D.bk σ' H'
 | .cont=>∃σ' H',Inv X pins σ' H' s'/\D.ct σ' H'
 | .ret u=>∃v σ' H',Inv X pins σ' H' s'/\RelV v u/\D.rt v H'
def PE(X:Cx)(e:Expr)(t:TE):Prop :=
 ∀(pins:List (Addr×Obj)) (s:Shared) (σ:St) (H:Hp) (Q:VK),Inv X pins σ H s->t σ H Q->wpAny (model X.prog X.w) X.A (eval e X.env) (EP X pins σ Q) X.xe s
def PT(X:Cx)(e:Expr)(t:TT):Prop :=
 ∀(pins:List (Addr×Obj)) (s:Shared) (σ:St) (H:Hp) (Q:Bool->Hp->Prop),Inv X pins σ H s->t σ H Q->wpAny (model X.prog X.w) X.A (isTrue e X.env (eval e X.env)) (TP X pins σ Q) X.xe s
def PW(X:Cx)(e:Expr)(t:TT):Prop :=
 ∀(whole:Sem Value) (pins:List (Addr×Obj)) (s:Shared) (σ:St) (H:Hp) (Q:Bool->Hp->Prop),Inv X pins σ H s->t σ H Q->wpAny (model X.prog X.w) X.A (isTrue e X.env whole) (TP X pins σ Q) X.xe s
theorem PW.pt{X:Cx}{e:Expr}{t:TT}(h:PW X e t):PT X e t:=h _
def PA(X:Cx)(es:List Expr)(t:TA):Prop :=
 ∀(pos:Pos) (pins:List (Addr×Obj)) (s:Shared) (σ:St) (H:Hp) (Q:List V->Hp->Prop),Inv X pins σ H s->t σ H Q->wpAny (model X.prog X.w) X.A (spliced (backTo pos (starEach es X.env))) (AP X pins σ Q) X.xe s
def PS(X:Cx)(st:Stmt)(t:TS):Prop :=
 ∀(pins:List (Addr×Obj)) (s:Shared) (σ:St) (H:Hp) (D:Ends),Inv X pins σ H s->t D σ H->wpAny (model X.prog X.w) X.A (exec st X.env) (SP X pins D) X.xe s
def qj(X:Cx)(st:List Stmt)(t:TS):Prop :=
 ∀(pins:List (Addr×Obj)) (s:Shared) (σ:St) (H:Hp) (D:Ends),Inv X pins σ H s->t D σ H->wpAny (model X.prog X.w) X.A (execs st X.env) (SP X pins D) X.xe s
theorem cn{α:Type}{t:Sem α}{Q Q':α->Shared->Prop}{M:Model}{A:Around}{E:Value->Shared->Prop}{s:Shared}(h:wpAny M A t Q E s)(hQ:∀a s,Q a s->Q' a s):wpAny M A t Q' E s:=VR h hQ λ_ _ x=>x
section
variable{X:Cx}
def bD(i:Nat):TE:=λσ H Q=>∃v,σ[i]? = some (some v)/\Q v H
def tC(v:V):TE:=λ_ H Q=>Q v H
theorem yp{i:Nat}{x:Str}{pos:Pos}(hN:X.N[i]? = some x)(hv:PY X.env.scope x)(hd:(x==("__debug__" : Str))=false:=by decide)(hcd:(x==("__classdict__" : Str))=false:=by decide):PE X (.Name x pos) (bD i):=by
 intro pins s σ H Q I h
 obtain⟨v,e,h⟩:=h
 obtain⟨m,hn,hl⟩:=I.loc
 obtain⟨u,r,l⟩:=hl i x v hN e hv
 have fin:EP X pins σ Q u s:=⟨v,H,I,r,h⟩
 rcases l with⟨hk,hm⟩ | ⟨hk,c,hc,hcell⟩
 ·exact wpAny_Name (wpAny_loadName_local I.ok.kind hk hn hm fin) hd
 ·rcases hk with hk | hk
  ·exact wpAny_Name (wpAny_loadName_cell I.ok.kind hk hc hcell fin) hd
  ·exact wpAny_Name (wpAny_loadName_free I.ok.kind hk hc hcell fin hcd) hd
theorem ai{i j pos}:PE X (.Constant (.int i) j pos) (tC (.int i)):=λ_ _ _ H _ I h=>wpAny_Constant_int ⟨.int i,H,I.tok _,⟨_,rfl⟩,h⟩
theorem eE{b j pos}:PE X (.Constant (.bool b) j pos) (tC (.bl b)):=λ_ _ _ H _ I h=>Constant_bool ⟨.bl b,H,I,rfl,h⟩
theorem iS{j pos}:PE X (.Constant .none j pos) (tC .non):=λ_ _ _ H _ I h=>Constant_none ⟨.non,H,I,rfl,h⟩
theorem ao{x j pos}:PE X (.Constant (.str x) j pos) (tC (.str x)):=λ_ _ _ H _ I h=>Calls.Constant_str ⟨.str x,H,I.tok _,⟨_,rfl⟩,h⟩
def Gl(X:Cx)(x:Str):Prop:=X.env.kindOf x=some .globalImplicit
theorem oi{E:Value->Shared->Prop}{pins:List (Addr×Obj)}{s:Shared}{σ:St}{H:Hp}{x:Str}{u:Value}{pos:Pos}{Q:Value->Shared->Prop}(I:Inv X pins σ H s)(hg:Gl X x)(hm:X.mg x=some u)(h:Q u s)
  (hd:(x==("__debug__" : Str))=false:=by decide):wpAny (model X.prog X.w) X.A (eval (.Name x pos) X.env) Q E s :=
 Calls.Name_function_global I.ok.kind hg (Calls.loadGlobal_global (by rw [I.ok.glob]; exact I.mod.glob.keeps I.bk) hm h) hd
theorem iO{E:Value->Shared->Prop}{pins:List (Addr×Obj)}{s:Shared}{σ:St}{H:Hp}{x:Str}{u:Value}{pos:Pos}{Q:Value->Shared->Prop}(I:Inv X pins σ H s)(hg:Gl X x)(hm:X.mg x=none)(hv:bootBuiltins x=some u)(h:Q u s)
  (hn:x≠"__name__":=by decide) (hd:(x==("__debug__" : Str))=false:=by decide):wpAny (model X.prog X.w) X.A (eval (.Name x pos) X.env) Q E s:=by
 obtain⟨mb,h1,h2⟩:=I.mod.blt
 exact Calls.Name_function_global I.ok.kind hg (Calls.loadGlobal_builtin (by rw [I.ok.glob]; exact I.mod.glob.keeps I.bk) hm (by rw [I.ok.blt]; exact h1.keeps I.bk) ((h2 x hn).trans hv) h) hd
theorem dh{x:Str}{v:V}{u:Value}{pos:Pos}(hg:Gl X x)(hm:X.mg x=some u)(r:RelV v u)(hd:(x==("__debug__" : Str))=false:=by decide):PE X (.Name x pos) (tC v) :=
 λ_ _ _ H _ I h=>oi I hg hm ⟨v,H,I,r,h⟩ hd
theorem F9{x:Str}{v:V}{u:Value}{pos:Pos}(hg:Gl X x)(hm:X.mg x=none)(hv:bootBuiltins x=some u)(r:RelV v u)(hn:x≠"__name__":=by decide)(hd:(x==("__debug__" : Str))=false:=by decide):PE X (.Name x pos) (tC v) :=
 λ_ _ _ H _ I h=>iO I hg hm hv ⟨v,H,I,r,h⟩ hn hd
variable{a b:Expr}{ta tb:TE}{pos:Pos}
def tB(t:TE):TT:=λσ H Q=>t σ H λx H1=>∃c,x=.bl c/\Q c H1
theorem fH{e:Expr}{t:TE}(h:PE X e t)(he:∀whole,isTrue e X.env whole=(do let v←whole; standAt e.pos; holding [v] (truthy v)):=by intro _; rfl):PT X e (tB t):=by
 intro pins s σ H Q I hw
 refine isTrue_plain (cn (h pins s σ H _ I hw) λv s1 ⟨x,H1,I1,r1,q1⟩=>?_) (he _)
 obtain⟨d,rfl,q⟩:=q1
 cases r1
 exact wpAny_truthy_bool ⟨H1,I1,q⟩
variable{tA Od:TT}{rest:List Expr}
def Mw(t u:TT):TT:=λσ H Q=>t σ H λc H1=>if c=true then u σ H1 Q else Q false H1
def Sx(t u:TT):TT:=λσ H Q=>t σ H λc H1=>if c=true then Q true H1 else u σ H1 Q
def Qx(t:TT):TT:=λσ H Q=>t σ H λc H1=>Q (!c) H1
theorem gI(ha:PT X a tA):PW X (.BoolOp .And [a] pos) tA:=by
 intro wh pins s σ H Q I h
 refine isTrue_and (cn (ha pins s σ H Q I h) λc s1 e=>?_)
 cases c with
 | true=>exact isTrue_and_nil e
 | false=>exact e
theorem xo(ha:PT X a tA):PW X (.BoolOp .Or [a] pos) tA:=by
 intro wh pins s σ H Q I h
 refine isTrue_or (cn (ha pins s σ H Q I h) λc s1 e=>?_)
 cases c with
 | false=>exact isTrue_or_nil e
 | true=>exact e
theorem jR(ha:PT X a tA)(hb:PW X (.BoolOp .And (b::rest) pos) Od):PW X (.BoolOp .And (a::b::rest) pos) (Mw tA Od):=by
 intro wh pins s σ H Q I h
 refine isTrue_and (cn (ha pins s σ H _ I h) λc s1 ⟨H1,I1,q1⟩=>?_)
 cases c with
 | true=>exact hb wh pins s1 σ H1 Q I1 q1
 | false=>exact⟨H1,I1,q1⟩
theorem C1(ha:PT X a tA)(hb:PW X (.BoolOp .Or (b::rest) pos) Od):PW X (.BoolOp .Or (a::b::rest) pos) (Sx tA Od):=by
 intro wh pins s σ H Q I h
 refine isTrue_or (cn (ha pins s σ H _ I h) λc s1 ⟨H1,I1,q1⟩=>?_)
 cases c with
 | true=>exact⟨H1,I1,q1⟩
 | false=>exact hb wh pins s1 σ H1 Q I1 q1
theorem l_(ha:PT X a tA):PT X (.UnaryOp .Not a pos) (Qx tA):=by
 intro pins s σ H Q I h
 exact isTrue_not (ha pins s σ H (λc H1=>Q (!c) H1) I h)
def ID(ta tb:TE):TE:=λσ H Q=>ta σ H λx H1=>∃c,x=.bl c/\if c=true then tb σ H1 Q else Q (.bl false) H1
def vF(ta tb:TE):TE:=λσ H Q=>ta σ H λx H1=>∃c,x=.bl c/\if c=true then Q (.bl true) H1 else tb σ H1 Q
def IP(ta:TE):TE:=λσ H Q=>ta σ H λx H1=>∃c,x=.bl c/\Q (.bl (!c)) H1
theorem dc{op}{t:TE}(h:PE X a t):PE X (.BoolOp op [a] pos) t:=λpins s σ H Q I hw=>BoolOp_one (h pins s σ H Q I hw)
theorem pY(ha:PE X a ta)(hb:PE X (.BoolOp .And (b::rest) pos) tb):PE X (.BoolOp .And (a::b::rest) pos) (ID ta tb):=by
 intro pins s σ H Q I h
 refine BoolOp_and (cn (ha pins s σ H _ I h) λv s1 ⟨x,H1,I1,r1,q1⟩=>?_)
 obtain⟨c,rfl,q1⟩:=q1
 cases r1
 refine wpAny_truthy_bool ?_
 cases c with
 | true=>exact hb pins s1 σ H1 Q I1 q1
 | false=>exact⟨.bl false,H1,I1,rfl,q1⟩
theorem gc(ha:PE X a ta)(hb:PE X (.BoolOp .Or (b::rest) pos) tb):PE X (.BoolOp .Or (a::b::rest) pos) (vF ta tb):=by
 intro pins s σ H Q I h
 refine BoolOp_or (cn (ha pins s σ H _ I h) λv s1 ⟨x,H1,I1,r1,q1⟩=>?_)
 obtain⟨c,rfl,q1⟩:=q1
 cases r1
 refine wpAny_truthy_bool ?_
 cases c with
 | false=>exact hb pins s1 σ H1 Q I1 q1
 | true=>exact⟨.bl true,H1,I1,rfl,q1⟩
theorem K7(ha:PE X a ta):PE X (.UnaryOp .Not a pos) (IP ta):=by
 intro pins s σ H Q I h
 refine UnaryOp_ (cn (ha pins s σ H _ I h) λv s1 ⟨x,H1,I1,r1,q1⟩=>?_)
 obtain⟨c,rfl,q1⟩:=q1
 cases r1
 exact not_of (wpAny_truthy_bool ⟨.bl (!c),H1,I1,rfl,q1⟩)
def RB(t:TT)(ta tb:TE):TE:=λσ H Q=>t σ H λc H1=>if c=true then ta σ H1 Q else tb σ H1 Q
theorem gq{c:Expr}(hc:PT X c tA)(ha:PE X a ta)(hb:PE X b tb):PE X (.IfExp c a b pos) (RB tA ta tb):=by
 intro pins s σ H Q I h
 refine wpAny_IfExp (cn (hc pins s σ H _ I h) λd s1 ⟨H1,I1,q1⟩=>?_)
 cases d with
 | true=>exact ha pins s1 σ H1 Q I1 q1
 | false=>exact hb pins s1 σ H1 Q I1 q1
end
def a_(K:Wg)(H:Hp)(a:Addr)(xs:List V):Prop :=
 Rd H a (.lst xs)\/
  ∃(o:Obj) (its:Array Value) (n:Nat),K.lookup a=some o/\o.cls=.type "list"/\o.dict=none/\o.data=.seq its n/\its.size<=sizeLine/\Vals xs its.toList
def aH(K:Wg)(H:Hp)(a:Addr)(xs:List V):Prop :=
 Rd H a (.tup xs)\/
  ∃(o:Obj) (its:Array Value) (n:Nat),K.lookup a=some o/\o.cls=.type "tuple"/\o.data=.seq its n/\its.size<=sizeLine/\Vals xs its.toList
def PU:Value->Option V
 | .none=>some .non
 | .bool b=>some (.bl b)
 | .int i _=>some (.int i)
 | .str x _=>some (.str x)
 | .bytes b _=>some (.zH b)
 | .float b _=>some (.flt b)
 | .ref a=>some (.ref a)
 | .type n=>some (.ty n)
 | _=>none
theorem RelV.abs{x:V}{u:Value}(r:RelV x u):PU u=some x:=by
 cases x with
 | non=>cases r; rfl
 | bl _=>cases r; rfl
 | int _=>obtain⟨t,rfl⟩:=r; rfl
 | str _=>obtain⟨t,rfl⟩:=r; rfl
 | zH _=>obtain⟨t,rfl⟩:=r; rfl
 | flt _=>obtain⟨t,rfl⟩:=r; rfl
 | ref _=>cases r; rfl
 | ty _=>cases r; rfl
theorem RelV.inj{x y:V}{u:Value}(r:RelV x u)(q:RelV y u):x=y:=VL (r.abs.symm.trans q.abs)
theorem Vals.inj:∀{xs ys:List V} {us:List Value},Vals xs us->Vals ys us->xs=ys
 | _,_,_,.nil,.nil=>rfl
 | _,_,_,.cons r t,.cons r' t'=>by rw [r.inj r',Vals.inj t t']
section
variable{X:Cx}{pins:List (Addr×Obj)}{σ:St}{H:Hp}{s:Shared}{a:Addr}{xs ys:List V}
theorem a_.of{K:Wg}(h:H a=some (.lst xs)):a_ K H a xs:=.inl (.inl h)
theorem aH.of{K:Wg}(h:H a=some (.tup xs)):aH K H a xs:=.inl (.inl h)
theorem Inv.list(I:Inv X pins σ H s)(h:a_ X.K H a xs):∃its:List Value,Vals xs its/\PlainL s.heap a its.toArray/\xs.length<=sizeLine:=by
 rcases h with h | ⟨o,its,n,hk,hc,hd,hs,hz,r⟩
 ·obtain⟨z,its,n,r,e⟩:=h.ok I.hok
  exact⟨its,r,⟨_,n,e,rfl,rfl,rfl⟩,z⟩
 ·refine⟨its.toList,r,⟨o,n,I.jZ a o hk,hc,hd,by simpa using hs⟩,?_⟩
  have e:=r.length
  simp only [Wc]at e
  omega
theorem Inv.tuple(I:Inv X pins σ H s)(h:aH X.K H a xs):∃its:List Value,Vals xs its/\IsTup s.heap a its.toArray/\xs.length<=sizeLine:=by
 rcases h with h | ⟨o,its,n,hk,hc,hs,hz,r⟩
 ·obtain⟨z,its,r,p⟩:=h.ok I.hok
  exact⟨its,r,p.tup,z⟩
 ·refine⟨its.toList,r,⟨o,I.jZ a o hk,hc,n,by simpa using hs⟩,?_⟩
  have e:=r.length
  simp only [Wc]at e
  omega
theorem Inv.DS(I:Inv X pins σ H s)(h:a_ X.K H a xs)(h':a_ X.K H a ys):xs=ys:=by
 obtain⟨its,r,⟨o,n,e,_,_,d⟩,_⟩:=I.list h
 obtain⟨its',r',⟨o',n',e',_,_,d'⟩,_⟩:=I.list h'
 rw [e]at e'; cases e'
 rw [d]at d'
 injection d' with d1 _
 have:its=its':=by simpa using congrArg Array.toList d1
 subst this
 exact r.inj r'
theorem Inv.iA(I:Inv X pins σ H s)(h:aH X.K H a xs)(h':aH X.K H a ys):xs=ys:=by
 obtain⟨its,r,⟨o,e,_,n,d⟩,_⟩:=I.tuple h
 obtain⟨its',r',⟨o',e',_,n',d'⟩,_⟩:=I.tuple h'
 rw [e]at e'; cases e'
 rw [d]at d'
 injection d' with d1 _
 have:its=its':=by simpa using congrArg Array.toList d1
 subst this
 exact r.inj r'
end
abbrev Cx.wish(X:Cx)(E:Value->Shared->Prop):Cx:={X with xe:=E}
abbrev Cx.zv(X:Cx):Cx:=X.wish λ_ _=>False
theorem Cx.Ok.wish{X:Cx}(ok:X.Ok)(E:Value->Shared->Prop):(X.wish E).Ok :=
 ⟨ok.mod,ok.kind,ok.glob,ok.blt,ok.above,ok.inj,ok.has,ok.cab,ok.hd,ok.frames,ok.KS,ok.Br,ok.bs,ok.BG,ok.vV,ok.om,ok.ky,ok.E8⟩
theorem Cx.Ok.dj{X:Cx}{E:Value->Shared->Prop}(ok:(X.wish E).Ok):X.Ok :=
 ⟨ok.mod,ok.kind,ok.glob,ok.blt,ok.above,ok.inj,ok.has,ok.cab,ok.hd,ok.frames,ok.KS,ok.Br,ok.bs,ok.BG,ok.vV,ok.om,ok.ky,ok.E8⟩
section
variable{X:Cx}{pins:List (Addr×Obj)}{σ:St}{H:Hp}{s:Shared}{E:Value->Shared->Prop}
theorem Inv.wish(I:Inv X pins σ H s)(E:Value->Shared->Prop):Inv (X.wish E) pins σ H s:=⟨I.ok.wish E,I.os,I.bare,I.base,I.loc,I.cell,I.free,I.fU,I.pin,I.hok,I.len⟩
theorem Inv.dj(I:Inv (X.wish E) pins σ H s):Inv X pins σ H s:=⟨I.ok.dj,I.os,I.bare,I.base,I.loc,I.cell,I.free,I.fU,I.pin,I.hok,I.len⟩
theorem SP.dj{D:Ends}{f:Flow}{s':Shared}(h:SP (X.wish E) pins D f s'):SP X pins D f s':=by
 cases f with
 | next=>obtain⟨σ',H',I,q⟩:=h; exact⟨σ',H',I.dj,q⟩
 | brk=>obtain⟨σ',H',I,q⟩:=h; exact⟨σ',H',I.dj,q⟩
 | cont=>obtain⟨σ',H',I,q⟩:=h; exact⟨σ',H',I.dj,q⟩
 | ret u=>obtain⟨v,σ',H',I,r,q⟩:=h; exact⟨v,σ',H',I.dj,r,q⟩
theorem PE.zv{e:Expr}{t:TE}(h:PE X.zv e t):PE X e t:=λpins s σ H Q I hw =>
 VR (h pins s σ H Q (I.wish _) hw) (λ_ _ ⟨v,H',I',r,q⟩=>⟨v,H',I'.dj,r,q⟩) λ_ _ z=>V4 z
theorem qj.zv{st:List Stmt}{t:TS}(h:qj X.zv st t):qj X st t:=λpins s σ H D I hw =>
 VR (h pins s σ H D (I.wish _) hw) (λ_ _ q=>q.dj) λ_ _ z=>V4 z
end
section
variable{X:Cx}{st:Stmt}{rest:List Stmt}{t u:TS}{e:Expr}{te:TE}{pos:Pos}
def rV:TS:=λD σ H=>D.nx σ H
def xB(t u:TS):TS:=λD σ H=>t {D with nx:=u D} σ H
theorem b9:qj X [] rV:=λ_ _ σ H _ I h=>wpAny_execs_nil ⟨σ,H,I,h⟩
theorem aq(h1:PS X st t)(h2:qj X rest u):qj X (st::rest) (xB t u):=by
 intro pins s σ H D I h
 refine wpAny_execs_cons (cn (h1 pins s σ H {D with nx:=u D} I h) λf s1 q=>?_)
 cases f with
 | next =>
  obtain⟨σ',H',I',q⟩:=q
  exact h2 pins s1 σ' H' D I' q
 | ret v=>exact q
 | brk=>exact q
 | cont=>exact q
theorem bM(h1:PS X st t):qj X [st] t:=by
 intro pins s σ H D I h
 refine wpAny_execs_cons (cn (h1 pins s σ H D I h) λf s1 q=>?_)
 cases f with
 | next=>exact wpAny_execs_nil q
 | ret v=>exact q
 | brk=>exact q
 | cont=>exact q
theorem Inv.quiet{pins:List (Addr×Obj)}{σ:St}{H:Hp}{s:Shared}(I:Inv X pins σ H s):interactive X.env=false:=by simp [interactive,I.ok.kind]
def Mg(te:TE):TS:=λD σ H=>te σ H λ_ H1=>D.nx σ H1
theorem fQ(he:PE X e te)(hs:swapsWith e none pos.line X.env=pure false:=by rfl):PS X (.Expr e pos) (Mg te):=by
 intro pins s σ H D I h
 exact wpAny_Expr_any (cn (he pins s σ H _ I h) λv s1 ⟨x,H1,I1,r1,q1⟩=>⟨σ,H1,I1,q1⟩) I.quiet hs
def Ab(te:TE):TS:=λD σ H=>te σ H D.rt
theorem Ca(he:PE X e te):PS X (.Return (some e) pos) (Ab te):=by
 intro pins s σ H D I h
 exact wpAny_Return_some (cn (he pins s σ H _ I h) λv s1 ⟨x,H1,I1,r1,q1⟩=>⟨x,σ,H1,I1,r1,q1⟩)
def DK(c:TT)(t u:TS):TS:=λD σ H=>c σ H λb H1=>if b=true then t D σ H1 else u D σ H1
theorem du{c:Expr}{a b:List Stmt}{tc:TT}(hc:PT X c tc)(ha:qj X a t)(hb:qj X b u):PS X (.If c a b pos) (DK tc t u):=by
 intro pins s σ H D I h
 refine wpAny_If (cn (hc pins s σ H _ I h) λd s1 ⟨H1,I1,q1⟩=>?_)
 cases d with
 | true=>exact ha pins s1 σ H1 D I1 q1
 | false=>exact hb pins s1 σ H1 D I1 q1
end
abbrev TG:=V->St->Hp->(St->Hp->Prop)->Prop
abbrev Lc:=List V->St->Hp->(St->Hp->Prop)->Prop
def PG(X:Cx)(target:Expr)(t:TG):Prop :=
 ∀(pins:List (Addr×Obj)) (s:Shared) (σ:St) (H:Hp) (v:V) (u:Value) (Q:St->Hp->Prop),Inv X pins σ H s->RelV v u->t v σ H Q->
  wpAny (model X.prog X.w) X.A (assign target X.env u) (λ_ s'=>∃σ' H',Inv X pins σ' H' s'/\Q σ' H') X.xe s
def NW(X:Cx)(ts:List Expr)(t:Lc):Prop :=
 ∀(pins:List (Addr×Obj)) (s:Shared) (σ:St) (H:Hp) (vs:List V) (us:List Value) (Q:St->Hp->Prop),Inv X pins σ H s->Vals vs us->t vs σ H Q->
  wpAny (model X.prog X.w) X.A (assignInOrder ((assignEach ts X.env).map (·.2)) us) (λ_ s'=>∃σ' H',Inv X pins σ' H' s'/\Q σ' H') X.xe s
abbrev J7:=V->V->V->Hp->(Hp->Prop)->Prop
def Me(X:Cx)(t:J7):Prop :=
 ∀(pins:List (Addr×Obj)) (s:Shared) (σ:St) (H:Hp) (o i v:V) (ov iv u:Value) (Q:Hp->Prop),Inv X pins σ H s->RelV o ov->RelV i iv->RelV v u->t o i v H Q->
  wpAny (model X.prog X.w) X.A (setItem ov iv u) (λ_ s'=>∃H',Inv X pins σ H' s'/\Q H') X.xe s
section
variable{X:Cx}{pos:Pos}
def bE(i:Nat):TG:=λv σ H Q=>Q (σ.set i (some v)) H
theorem bU{i:Nat}{x:Str}(hN:X.N.Nodup)(hi:X.N[i]? = some x)(hx:Loc X.env.scope x)(hf:X.fn x=true\/X.env.scope.names.lookup x=some .local:=by first | exact .inl rfl | exact .inr rfl | assumption):PG X (.Name x pos) (bE i):=by
 intro pins s σ H v u Q I r h
 exact wpAny_assign_Name (iu I hN hi hx r (λs' I'=>⟨_,H,I',h⟩) hf)
def i5:Lc:=λvs σ H Q=>vs=[]/\Q σ H
def bR(t:TG)(u:Lc):Lc:=λvs σ H Q=>∃v r,vs=v::r/\t v σ H λσ' H'=>u r σ' H' Q
theorem bY:NW X [] i5:=by
 intro pins s σ H vs us Q I r h
 obtain⟨e,h⟩:=h
 subst e
 cases r
 exact assignInOrder_nil ⟨σ,H,I,h⟩
theorem aA{e:Expr}{es:List Expr}{t:TG}{u:Lc}(h1:PG X e t)(h2:NW X es u)
  (hs:(assignEach (e::es) X.env).map (·.2)=assign e X.env::(assignEach es X.env).map (·.2):=by rfl):NW X (e::es) (bR t u):=by
 intro pins s σ H vs us Q I r h
 obtain⟨v,vr,e1,h⟩:=h
 subst e1
 cases r with
 | cons r rr =>
  rw [hs]
  refine assignInOrder_cons (cn (h1 pins s σ H _ _ _ I r h) λ_ s1 ⟨E9,H1,I1,q1⟩=>?_)
  exact h2 pins s1 E9 H1 _ _ Q I1 rr q1
def i8(K:Wg)(n:Nat)(t:Lc):TG:=λv σ H Q=>∃a xs,v=.ref a/\aH K H a xs/\xs.length=n/\t xs σ H Q
theorem cG{es:List Expr}{k:Nat}{t:Lc}{n:Nat}(hc:X.calm=true)(h:NW X es t)
  (hn:(assignEach es X.env).length=n:=by rfl) (hst:(assignEach es X.env).findIdx? (·.1)=none:=by rfl):PG X (.Tuple es k pos) (i8 X.K n t):=by
 intro pins s σ H v u Q I r hw
 obtain⟨a,xs,e1,hq,hl,hw⟩:=hw
 subst e1
 cases r
 obtain⟨its,rv,ht,hz⟩:=I.tuple hq
 refine assign_Tuple_tuple (I.ok.hd hc) ht (by simp [hn,←hl,rv.length]) hst λh' hx=>?_
 have I1:Inv X pins σ H {s with heap:=h'}:=I.kept (t':=s.toks) λb o e=>hx b o (VI (Vl e)) e
 exact h pins _ σ H xs _ Q I1 (by simpa using rv) hw
def OL(to ti:TE)(t:J7):TG:=λv σ H Q=>to σ H λo H1=>ti σ H1 λi H2=>t o i v H2 λH3=>Q σ H3
theorem Ex{o i:Expr}{to ti:TE}{t:J7}(ho:PE X o to)(hi:PE X i ti)(hs:Me X t)
  (ha:∀v,assign (.Subscript o i pos) X.env v=(do
   let ov←holding [v] (eval o X.env)
   let iv←holding [v,ov] (eval i X.env)
   standAt pos
   holding [v,ov,iv] (setItem ov iv v)
   release [v,ov,iv] []):=by intro _; rfl):PG X (.Subscript o i pos) (OL to ti t):=by
 intro pins s σ H v u Q I r h
 rw [ha]
 refine Vi (VS (cn (ho pins s σ H _ I h) λov s1 ⟨x,H1,I1,r1,q1⟩=>?_))
 refine Vi (VS (cn (hi pins s1 σ H1 _ I1 q1) λiv s2 ⟨y,H2,I2,r2,q2⟩=>?_))
 refine Vi (wpAny_standAt (Vi (VS (cn (hs pins s2 σ H2 x y v ov iv u _ I2 r1 r2 r q2) λ_ s3 ⟨H3,I3,q3⟩=>?_))))
 exact wpAny_release ⟨σ,H3,I3,q3⟩
def B0(te:TE)(g:TG):TS:=λD σ H=>te σ H λx H1=>g x σ H1 D.nx
theorem oP{tg e:Expr}{te:TE}{g:TG}(he:PE X e te)(hg:PG X tg g)(hs:swapsWithSole [tg] e pos.line X.env=pure false:=by rfl)(hw:swappedStores [tg] e X.env=pure none:=by rfl)
  (h1:(assignEach [tg] X.env).map (·.2)=[assign tg X.env]:=by rfl):PS X (.Assign [tg] e pos) (B0 te g):=by
 intro pins s σ H D I h
 refine wpAny_Assign_stores (cn (he pins s σ H _ I h) λv s1 ⟨x,H1,I1,r1,q1⟩=>?_) hs hw
 rw [h1]
 exact cn (hg pins s1 σ H1 x v _ I1 r1 q1) λ_ s2 q=>q
theorem aL{i:Nat}{x:Str}{e:Expr}{te:TE}{pos':Pos}(hN:X.N.Nodup)(hi:X.N[i]? = some x)(hx:Loc X.env.scope x)(he:PE X e te)(hs:swapsWith e (some (.Name x pos')) pos.line X.env=pure false:=by rfl)(hf:X.fn x=true\/X.env.scope.names.lookup x=some .local:=by first | exact .inl rfl | exact .inr rfl | assumption) :
  PS X (.Assign [.Name x pos'] e pos) (B0 te (bE i)):=by
 intro pins s σ H D I h
 refine wpAny_Assign_Name (cn (he pins s σ H _ I h) λv s1 ⟨y,H1,I1,r1,q1⟩=>?_) hs
 exact iu I1 hN hi hx r1 (λs2 I2=>⟨_,H1,I2,q1⟩) hf
def O0(i j:Nat)(ta:TA):TS:=λD σ H=>ta σ H λvs H1=>∃v w,vs=[v,w]/\D.nx ((σ.set i (some v)).set j (some w)) H1
theorem Ke{i j:Nat}{x y:Str}{a b:Expr}{ta:TA}{px py pt:Pos}{kt k2 Pp}(hc:X.calm=true)(hN:X.N.Nodup)(hi:X.N[i]? = some x)(hj:X.N[j]? = some y)(hij:i≠j)
  (hx:X.env.scope.names.lookup x=some .local) (hy:X.env.scope.names.lookup y=some .local) (ha:PA X [a,b] ta)
  (hw:swappedStores [.Tuple [.Name x px,.Name y py] kt pt] (.Tuple [a,b] k2 Pp) X.env=pure (some [x,y]))
  (hs:swapsWithSole [.Tuple [.Name x px,.Name y py] kt pt] (.Tuple [a,b] k2 Pp) pos.line X.env=pure false:=by rfl) :
  PS X (.Assign [.Tuple [.Name x px,.Name y py] kt pt] (.Tuple [a,b] k2 Pp) pos) (O0 i j ta):=by
 intro pins s σ H D I h
 rw [exec_Assign_arm]
 refine Vi (wpAny_standAt ?_)
 rw [hs]
 refine Vi (Vj ?_)
 rw [VZ (by decide)]
 refine Vi (Tuple_ (cn (ha _ pins s σ H _ I h) λus s1 ⟨vs,H1,I1,r1,q1⟩=>?_))
 obtain⟨v,w,e1,q1⟩:=q1
 subst e1
 obtain⟨u1,u2,rfl,rv,x9⟩ :∃u1 u2,us=[u1,u2]/\RelV v u1/\RelV w u2:=by
  cases r1 with
  | cons p q =>
   cases q with
   | cons p' q' =>
    cases q'
    exact⟨_,_,rfl,p,p'⟩
 refine VT ?_ (by show 2<=sizeLine; decide)
 have I2:Inv X pins σ H1 {s1 with heap:=s1.heap.push {cls:=.type "tuple",data:=.seq [u1,u2].toArray}}:=I1.kept (t':=s1.toks) λb o e=>Vk _ e
 rw [hw]
 refine Vi (Vj ?_)
 show wpAny (model X.prog X.w) X.A (do rule "assign.swapped-stores"; let items←unpackItems (.ref s1.heap.objs.size) 2 none; assignInOrder [λv=>bindName X.env y v,λv=>bindName X.env x v] items.reverse; pure Flow.next) _ _ _
 refine Vi (wpAny_rule (Vi (unpackItems_tuple (items:=#[u1,u2]) (I.ok.hd hc) (IsTup.new s1.heap _) λh' hx'=>?_)))
 have I3:=I2.kept (h':=h') (t':=s1.toks) λb o e=>hx' b o (VI (Vl e)) e
 show wpAny _ _ (assignInOrder [λv=>bindName X.env y v,λv=>bindName X.env x v] [u2,u1] >>= λ_=>pure Flow.next) _ _ _
 refine Vi (assignInOrder_cons (wpAny_bindName (iu I3 hN hj (.inl hy) x9 (λs2 I4=>?_) (.inr hy))))
 refine assignInOrder_cons (wpAny_bindName (iu I4 hN hi (.inl hx) rv (λs3 I5=>assignInOrder_nil (Vj ?_)) (.inr hx)))
 rw [List.set_comm _ _ (Ne.symm hij)]at I5
 exact⟨_,H1,I5,q1⟩
end
section
variable{X:Cx}{pos:Pos}
def JK(c:TT)(tb:TS):TS:=λD σ H=>∃W:Nat->St->Hp->Prop,(∃m,W m σ H)/\∀m σ H,W m σ H->
 c σ H λb H1=>if b=true then∃N:St->Hp->Prop,(∀σ' H',N σ' H'->∃m',m'<m/\W m' σ' H')/\tb {D with nx:=N,ct:=N,bk:=D.nx} σ H1 else D.nx σ H1
theorem Dv{c:Expr}{body:List Stmt}{tc:TT}{tb:TS}(hp:PassesOwn (model X.prog X.w) X.A X.env X.xe)(hc:PT X c tc)(hb:qj X body tb):PS X (.While c body [] pos) (JK tc tb):=by
 intro pins s σ H D I h
 obtain⟨W,⟨m0,w0⟩,turn⟩:=h
 refine wpAny_While (codeAny_whileLoop (λn s'=>∃σ' H',Inv X pins σ' H' s'/\W n σ' H') ?_ m0 ⟨σ,H,I,w0⟩)
 rintro n s1 ⟨E9,H1,I1,w1⟩
 refine wpAny_passesOwn hp (cn (hc pins s1 E9 H1 _ I1 (turn n E9 H1 w1)) λb s2 ⟨H2,I2,q2⟩=>?_)
 cases b with
 | true =>
  obtain⟨N,hN,q2⟩:=q2
  rw [V0 rfl]
  refine wpAny_passesOwn hp (cn (hb pins s2 E9 H2 _ I2 q2) λf s3 q3=>?_)
  cases f with
  | next =>
   obtain⟨DD,H3,I3,n3⟩:=q3
   obtain⟨m',hm,w3⟩:=hN DD H3 n3
   exact⟨m',hm,DD,H3,I3,w3⟩
  | cont =>
   obtain⟨DD,H3,I3,n3⟩:=q3
   obtain⟨m',hm,w3⟩:=hN DD H3 n3
   exact⟨m',hm,DD,H3,I3,w3⟩
  | brk=>exact q3
  | ret v=>exact q3
 | false =>
  rw [VZ VA]
  exact wpAny_execs_nil ⟨E9,H2,I2,q2⟩
end
structure It where
 go:Nat->Hp->Prop
 GR:Nat->Hp->V->Hp->Prop
 stop:Nat->Hp->Prop
def dI(X:Cx)(pins:List (Addr×Obj))(H:Hp)(b:Addr):Prop :=
 H b=none/\b≠X.env.locals/\b∉X.fs/\(b∈X.ex\/X.s₀.heap.objs.size<=b)/\(∀x c,X.env.cells.lookup x=some c->c≠b)/\∀p∈X.pn++pins,p.1≠b
theorem Inv.mL{X:Cx}{pins:List (Addr×Obj)}{σ:St}{H H':Hp}{s:Shared}{b:Addr}(I:Inv X pins σ H s)(hb:s.heap.objs.size<=b)(hn:H' b=none):dI X pins H' b:=by
 refine⟨hn,Nat.ne_of_gt (Vv I.lt hb),I.PN hb,.inr (Vo I.sz hb),λx c e z=>?_,λp hp z=>?_⟩
 ·obtain⟨v,q⟩:=I.cell x c e
  exact VY (Vv q.lt (by rw [z]; exact hb)) (Nat.lt_irrefl _)
 ·exact VY (Vv (Vl (I.pin p hp).1) (by rw [z]; exact hb)) (Nat.lt_irrefl _)
structure Turn(P:Program)(w:World)(K:Wg)(tg:Expr)(J:It)(fp:List Addr)(it:Addr)(tn:Nat->Heap->Prop):Prop where
 mem:it∈fp
 obj:∀i h,tn i h->∀b∈fp,∃o,h.get? b=some o/\∀v,o.data≠ .cell v
 keep:∀i h h',tn i h->(∀b∈fp,∀o,h.get? b=some o->h'.get? b=some o)->tn i h'
 item:∀(X:Cx),X.prog=P->X.w=w->X.K=K->X.calm=true->∀(i:Nat) (pins:List (Addr×Obj)) (s:Shared) (σ:St) (H:Hp) (E:Value->Shared->Prop),Inv X pins σ H s->(∀b∈fp,dI X pins H b)->tn i s.heap->J.go i H->
  wpAny (model P w) X.A (pyNext (.ref it)) (λr s1=>∃u,r=some u/\
   wpAny (model P w) X.A (letOwnedTupleGo tg (.ref it) u) (λ_ s2=>∃x H',Inv X pins σ H' s2/\RelV x u/\J.GR i H x H'/\tn (i+1) s2.heap/\∀b∈fp,H' b=none) E s1) E s
 done:∀(X:Cx),X.prog=P->X.w=w->X.K=K->X.calm=true->∀(i:Nat) (pins:List (Addr×Obj)) (s:Shared) (σ:St) (H:Hp) (E:Value->Shared->Prop),Inv X pins σ H s->(∀b∈fp,dI X pins H b)->tn i s.heap->J.stop i H->
  wpAny (model P w) X.A (pyNext (.ref it)) (λr s1=>r=none/\Inv X pins σ H s1) E s
 self:∀(A:Around) (i:Nat) (s:Shared) (Q:Value->Shared->Prop) (E:Value->Shared->Prop),tn i s.heap->Q (.ref it) s->wpAny (model P w) A (pyIter (.ref it)) Q E s
abbrev TI:=St->Hp->(It->Hp->Prop)->Prop
def PIE(X:Cx)(pins:List (Addr×Obj))(σ:St)(tg:Expr)(R:It->Hp->Prop)(itv:Value)(s2:Shared):Prop :=
 ∃(it:Addr) (fp:List Addr) (tn:Nat->Heap->Prop) (J:It) (H':Hp),itv=.ref it/\Inv X pins σ H' s2/\Turn X.prog X.w X.K tg J fp it tn/\tn 0 s2.heap/\(∀b∈fp,dI X pins H' b)/\R J H'
def PI(X:Cx)(tg iter:Expr)(wi:TI):Prop :=
 ∀(pins:List (Addr×Obj)) (s:Shared) (σ:St) (H:Hp) (R:It->Hp->Prop),Inv X pins σ H s->wi σ H R->
  wpAny (model X.prog X.w) X.A (eval iter X.env) (λv s1=>wpAny (model X.prog X.w) X.A (pyIter v) (PIE X pins σ tg R) X.xe s1) X.xe s
theorem C3{M:Model}{A:Around}{E:Value->Shared->Prop}{s:Shared}{tg:Expr}{it:Addr}{u:Value}{o:Obj}{n:String}{vs:Array Value}{Q:Unit->Shared->Prop}(ho:s.heap.get? it=some o)(hc:o.cls=.type n)(hd:o.data=.fields vs)
  (hn:["enumerate","zip","dict_itemiterator","dict_reverseitemiterator","odict_iterator","itertools.zip_longest","itertools.pairwise"].contains n=false) (hQ:Q () s):wpAny M A (letOwnedTupleGo tg (.ref it) u) Q E s:=by
 unfold letOwnedTupleGo
 cases tg <;> first
  | exact Vj hQ
  | (cases u <;> first
    | exact Vj hQ
    | (refine Vi (wpAny_load ho ?_)
       rw [hc,hd]
       show wpAny M A (if(["enumerate","zip","dict_itemiterator","dict_reverseitemiterator","odict_iterator","itertools.zip_longest","itertools.pairwise"].contains n&&vs[0]? == some (rawInt _))=true then _ else _) Q E s
       rw [VZ (by intro h; rw [hn,Bool.false_and]at h; cases h)]
       exact Vj hQ))
def Oc(K:Wg)(a:Addr):It :=
 ⟨λi H=>∃xs x,a_ K H a xs/\xs[i]? = some x,λi H x H'=>H'=H/\∀xs,a_ K H a xs->xs[i]? = some x,λi H=>∃xs,a_ K H a xs/\xs.length<=i⟩
def F5(K:Wg)(a:Addr):It :=
 ⟨λi H=>∃xs x,aH K H a xs/\xs[i]? = some x,λi H x H'=>H'=H/\∀xs,aH K H a xs->xs[i]? = some x,λi H=>∃xs,aH K H a xs/\xs.length<=i⟩
def Jc(lo:Int)(n:Nat):It:=⟨λi _=>i<n,λi H x H'=>H'=H/\x=.int (lo+i),λi _=>n<=i⟩
theorem Av{P:Program}{w:World}{K:Wg}{tg:Expr}(a it:Addr):Turn P w K tg (Oc K a) [it] it (λi h=>h.IsListIter it a i) where
 mem:=by simp
 obj:=λi h st b hb=>by
  have e:b=it:=by simpa using hb
  subst e
  obtain⟨o,e,c,d⟩:=st
  exact⟨o,e,λv z=>by rw [d]at z; cases z⟩
 keep:=λi h h' st k=>st.at λo e=>k it (by simp) o e
 item:=by
  intro X hP hw hK hc i pins s σ H E I hf st hg
  subst hP hw hK
  obtain⟨xs,x,hq,hx⟩:=hg
  obtain⟨its,rv,p,hz⟩:=I.list hq
  obtain⟨u,hu,ru⟩:=rv.get hx
  obtain⟨f0,f1,f2,f3,f4,f5⟩:=hf it (by simp)
  refine wpAny_pyNext_list_item st p.isList (x:=u) (by simpa using hu) λh' st' sb=>?_
  have I1:Inv X pins σ H {s with heap:=h'}:=I.turned (t':=s.toks) (λb o hb e=>(sb.2 b hb).trans e) f0 f1 f3 f4 f5
  obtain⟨o,e,c,d⟩:=id st'
  exact⟨u,rfl,C3 (s:={s with heap:=h'}) e c d (by decide) ⟨x,H,I1,ru,⟨rfl,λys hy=>by rw [I.DS hy hq]; exact hx⟩,st',λb hb=>(hf b hb).1⟩⟩
 done:=by
  intro X hP hw hK hc i pins s σ H E I hf st hg
  subst hP hw hK
  obtain⟨xs,hq,hx⟩:=hg
  obtain⟨its,rv,p,hz⟩:=I.list hq
  obtain⟨f0,f1,f2,f3,f4,f5⟩:=hf it (by simp)
  have hl:=rv.length
  exact wpAny_pyNext_list_end (I.ok.hd hc) st p.isList (by simp; omega) λh' eb=>⟨rfl,I.turned (t':=s.toks) (λb o hb e=>eb b o hb e) f0 f1 f3 f4 f5⟩
 self:=λ_ _ _ _ _ st h=>wpAny_pyIter_listiter st h
theorem x8{P:Program}{w:World}{K:Wg}{tg:Expr}(a it:Addr):Turn P w K tg (F5 K a) [it] it (λi h=>h.IsTupleIter it a i) where
 mem:=by simp
 obj:=λi h st b hb=>by
  have e:b=it:=by simpa using hb
  subst e
  obtain⟨o,e,c,d⟩:=st
  exact⟨o,e,λv z=>by rw [d]at z; cases z⟩
 keep:=λi h h' st k=>st.at λo e=>k it (by simp) o e
 item:=by
  intro X hP hw hK hc i pins s σ H E I hf st hg
  subst hP hw hK
  obtain⟨xs,x,hq,hx⟩:=hg
  obtain⟨its,rv,p,hz⟩:=I.tuple hq
  obtain⟨u,hu,ru⟩:=rv.get hx
  obtain⟨f0,f1,f2,f3,f4,f5⟩:=hf it (by simp)
  refine wpAny_pyNext_tuple_item st (show s.heap.IsTuple a its.toArray from p) (x:=u) (by simpa using hu) λh' st' sb=>?_
  have I1:Inv X pins σ H {s with heap:=h'}:=I.turned (t':=s.toks) (λb o hb e=>(sb.2 b hb).trans e) f0 f1 f3 f4 f5
  obtain⟨o,e,c,d⟩:=id st'
  exact⟨u,rfl,C3 (s:={s with heap:=h'}) e c d (by decide) ⟨x,H,I1,ru,⟨rfl,λys hy=>by rw [I.iA hy hq]; exact hx⟩,st',λb hb=>(hf b hb).1⟩⟩
 done:=by
  intro X hP hw hK hc i pins s σ H E I hf st hg
  subst hP hw hK
  obtain⟨xs,hq,hx⟩:=hg
  obtain⟨its,rv,p,hz⟩:=I.tuple hq
  obtain⟨f0,f1,f2,f3,f4,f5⟩:=hf it (by simp)
  have hl:=rv.length
  exact wpAny_pyNext_tuple_end (I.ok.hd hc) st (show s.heap.IsTuple a its.toArray from p) (by simp; omega) λh' eb=>⟨rfl,I.turned (t':=s.toks) (λb o hb e=>eb b o hb e) f0 f1 f3 f4 f5⟩
 self:=λ_ _ _ _ _ st h=>wpAny_pyIter_tupleiter st h
theorem w8{P:Program}{w:World}{K:Wg}{tg:Expr}(it:Addr)(lo:Int)(n:Nat):Turn P w K tg (Jc lo n) [it] it (λi h=>IsRangeIter h it (lo+(i:Nat)*1) ((n:Int)-(i:Nat)) 1) where
 mem:=by simp
 obj:=λi h st b hb=>by
  have e:b=it:=by simpa using hb
  subst e
  exact⟨_,st,λv z=>by
   have z':Data.fields _=Data.cell v:=z
   cases z'⟩
 keep:=λi h h' st k=>k it (by simp) _ st
 item:=by
  intro X hP hw hK hc i pins s σ H E I hf st hg
  subst hP hw hK
  obtain⟨f0,f1,f2,f3,f4,f5⟩:=hf it (by simp)
  have W:=Walks.range (prog:=X.prog) (w:=X.w) (I.ok.hd hc) it lo 1 n
  refine W.item i s _ _ hg st λv h' tk hv st' kk=>?_
  obtain⟨t,rfl⟩:=hv
  have I1:Inv X pins σ H {s with heap:=h',toks:=tk}:=I.turned (λb o hb e=>kk b o (by simpa using hb) e) f0 f1 f3 f4 f5
  refine⟨_,rfl,C3 (s:={s with heap:=h',toks:=tk}) (n:="range_iterator") st' rfl rfl (by decide) ⟨.int (lo+i),H,I1,⟨t,?_⟩,⟨rfl,rfl⟩,st',λb hb=>(hf b hb).1⟩⟩
  rw [Int.mul_one]
 done:=by
  intro X hP hw hK hc i pins s σ H E I hf st hg
  subst hP hw hK
  obtain⟨f0,f1,f2,f3,f4,f5⟩:=hf it (by simp)
  exact wpAny_pyNext_range_end (I.ok.hd hc) st (by have:n<=i:=hg; omega) λh' eb=>⟨rfl,I.turned (t':=s.toks) (λb o hb e=>eb b o hb e) f0 f1 f3 f4 f5⟩
 self:=λ_ _ _ _ _ st h=>wpAny_pyIter_rangeiter st h
section
variable{X:Cx}{tg:Expr}
def MJ(K:Wg)(tl:TE):TI:=λσ H R=>tl σ H λx H1=>∃a,x=.ref a/\(∃xs,a_ K H1 a xs)/\R (Oc K a) H1
def HF(K:Wg)(tl:TE):TI:=λσ H R=>tl σ H λx H1=>∃a,x=.ref a/\(∃xs,aH K H1 a xs)/\R (F5 K a) H1
theorem fq{l:Expr}{tl:TE}(hl:PE X l tl):PI X tg l (MJ X.K tl):=by
 intro pins s σ H R I h
 refine cn (hl pins s σ H _ I h) λv s1 ⟨x,H1,I1,r1,q1⟩=>?_
 obtain⟨a,e,⟨xs,hq⟩,q⟩:=q1
 subst e
 cases r1
 obtain⟨its,rv,p,hz⟩:=I1.list hq
 refine wpAny_pyIter_list p.isList ?_
 refine⟨s1.heap.objs.size,[s1.heap.objs.size],_,_,H1,rfl,I1.kept (t':=s1.toks) λb o e=>Vk _ e,Av a _,⟨_,Vm _ rfl,rfl,rfl⟩,λb hb=>?_,q⟩
 have e:b=s1.heap.objs.size:=by simpa using hb
 subst e
 exact I1.mL (Vn _) (I1.hok.fresh (Vn _))
theorem cQ{l:Expr}{tl:TE}(hl:PE X l tl):PI X tg l (HF X.K tl):=by
 intro pins s σ H R I h
 refine cn (hl pins s σ H _ I h) λv s1 ⟨x,H1,I1,r1,q1⟩=>?_
 obtain⟨a,e,⟨xs,hq⟩,q⟩:=q1
 subst e
 cases r1
 obtain⟨its,rv,p,hz⟩:=I1.tuple hq
 refine wpAny_pyIter_tuple (show s1.heap.IsTuple a its.toArray from p) ?_
 refine⟨s1.heap.objs.size,[s1.heap.objs.size],_,_,H1,rfl,I1.kept (t':=s1.toks) λb o e=>Vk _ e,x8 a _,⟨_,Vm _ rfl,rfl,rfl⟩,λb hb=>?_,q⟩
 have e:b=s1.heap.objs.size:=by simpa using hb
 subst e
 exact I1.mL (Vn _) (I1.hok.fresh (Vn _))
theorem Eh{pins:List (Addr×Obj)}{σ:St}{H:Hp}{s:Shared}{R:It->Hp->Prop}{E:Value->Shared->Prop}{lo hi:Int}{t u v:Tok}{tk:Nat}(I:Inv X pins σ H s)(h1:-(2 ^ 62)<=lo)(h2:lo<2 ^ 62)(h3:-(2 ^ 62)<=hi)(h4:hi<2 ^ 62)
  (q:R (Jc lo (hi-lo).toNat) H):wpAny (model X.prog X.w) X.A (pyIter (.ref s.heap.objs.size)) (PIE X pins σ tg R) E {s with heap:=s.heap.push {cls:=.type "range",data:=.fields #[.int lo t,.int hi u,.int 1 v]},toks:=tk}:=by
 refine wpAny_pyIter_range (IsRange.new ..) (small_one h1 h2 h3 h4) ?_
 have I1:Inv X pins σ H {s with heap:=s.heap.push {cls:=.type "range",data:=.fields #[.int lo t,.int hi u,.int 1 v]},toks:=tk}:=I.kept λb o e=>Vk _ e
 refine⟨(s.heap.push {cls:=.type "range",data:=.fields #[.int lo t,.int hi u,.int 1 v]}).objs.size,[(s.heap.push {cls:=.type "range",data:=.fields #[.int lo t,.int hi u,.int 1 v]}).objs.size],_,_,H,rfl,
  I1.kept (t':=tk) λb o e=>Vk _ e,w8 _ lo (hi-lo).toNat,?_,λb hb=>?_,q⟩
 ·have e1:lo+((0:Nat):Int)*1=lo:=by simp
  have e2:(((hi-lo).toNat:Nat):Int)-((0:Nat):Int)=Builtin.Range.rangeSize lo hi 1:=by rw [rangeSize_one]; split <;> omega
  show IsRangeIter _ _ (lo+((0:Nat):Int)*1) ((((hi-lo).toNat:Nat):Int)-((0:Nat):Int)) 1
  rw [e1,e2]
  exact Vm _ rfl
 ·have e:b=(s.heap.push {cls:=.type "range",data:=.fields #[.int lo t,.int hi u,.int 1 v]}).objs.size:=by simpa using hb
  subst e
  exact I1.mL (Vn _) (I1.hok.fresh (Vn _))
def M6(ta:TA):TI:=λσ H R=>ta σ H λvs H1=>∃j:Int,vs=[.int j]/\-(2 ^ 62)<=j/\j<2 ^ 62/\R (Jc 0 j.toNat) H1
theorem c8{a:Expr}{ta:TA}{p pos:Pos}(hg:Gl X "range")(hm:X.mg "range"=none)(ha:PA X [a] ta)(hs:starEach [a] X.env=[(false,eval a X.env)]:=by rfl):PI X tg (.Call (.Name "range" p) [a] [] pos) (M6 ta):=by
 intro pins s σ H R I h
 refine Call_ (iO I hg hm boot_range (PyProof.Rows.callWith_type1 (cn (ha pos pins s σ H _ I h) λus s1 ⟨vs,H1,I1,r1,q1⟩=>?_) hs rfl))
 obtain⟨j,e,q1,q2,q⟩:=q1
 subst e
 cases r1 with
 | cons r rr =>
  cases rr
  obtain⟨t,rfl⟩:=r
  exact call_range_1 (Eh I1 (by omega) (by omega) q1 q2 (by simpa using q))
def Pn(wi:TI)(g:TG)(tb:TS):TS:=λD σ H=>wi σ H λJ H1=>∃W:Nat->Nat->St->Hp->Prop,(∃m,W 0 m σ H1)/\∀i m σ H,W i m σ H->
 (J.stop i H/\D.nx σ H)\/(J.go i H/\∃N:St->Hp->Prop,(∀σ' H',N σ' H'->∃m',m'<m/\W (i+1) m' σ' H')/\∀x H',J.GR i H x H'->g x σ H' λdn H2=>tb {D with nx:=N,ct:=N,bk:=D.nx} dn H2)
def jS(fp:List Addr)(h:Heap):List (Addr×Obj):=fp.filterMap λb=>(h.get? b).map λo=>(b,o)
theorem cO{fp:List Addr}{h:Heap}{b:Addr}{o:Obj}(hb:b∈fp)(e:h.get? b=some o):(b,o)∈jS fp h:=List.mem_filterMap.mpr ⟨b,hb,by rw [e]; rfl⟩
theorem Ai{fp:List Addr}{h:Heap}{p:Addr×Obj}(hp:p∈jS fp h):p.1∈fp/\h.get? p.1=some p.2:=by
 obtain⟨b,hb,e⟩:=List.mem_filterMap.mp hp
 cases q:h.get? b with
 | none=>rw [q]at e; cases e
 | some o =>
  rw [q]at e
  have e':(b,o)=p:=VL e
  subst e'
  exact⟨hb,q⟩
theorem Inv.pinned{pins:List (Addr×Obj)}{σ:St}{H:Hp}{s:Shared}{fp:List Addr}(I:Inv X pins σ H s)(hf:∀b∈fp,dI X pins H b)(ho:∀b∈fp,∃o,s.heap.get? b=some o/\∀v,o.data≠ .cell v):Inv X (pins++jS fp s.heap) σ H s :=
 I.i7 λp hp=>(VH.mp hp).elim (λz=>I.pin p (Vx _ z)) λz=>by
  obtain⟨hb,e⟩:=Ai z
  obtain⟨f0,f1,f2,_⟩:=hf p.1 hb
  obtain⟨o,e',d⟩:=ho p.1 hb
  rw [e]at e'; cases e'
  exact⟨e,f0,f1,f2,d⟩
theorem Inv.fX{pins pl:List (Addr×Obj)}{σ:St}{H:Hp}{s:Shared}(I:Inv X (pins++pl) σ H s):Inv X pins σ H s:=I.i7 λp hp=>I.pin p (Vx _ (List.mem_append_left _ hp))
theorem gp{iter:Expr}{body:List Stmt}{wi:TI}{g:TG}{tb:TS}{pos:Pos}(hp:PassesOwn (model X.prog X.w) X.A X.env X.xe)(hc:X.calm=true)(hi:PI X tg iter wi)(hg:PG X tg g)(hb:qj X body tb)
  (hs:∀x,foldedSetIterable iter X.env x=pure x:=by intro _; rfl):PS X (.For tg iter body [] pos) (Pn wi g tb):=by
 intro pins s σ H D I h
 refine wpAny_For (cn (hi pins s σ H _ I h) λv s1 h1=>cn h1 λitv s2 h2=>?_) hs
 obtain⟨it,fp,tn,J,H2,e,I2,T,st2,f2,W,⟨m0,w0⟩,turn⟩:=h2
 subst e
 have stat:∀{H':Hp},(∀b∈fp,H' b=none)->∀b∈fp,dI X pins H' b:=λhn b hb=>⟨hn b hb,(f2 b hb).2⟩
 refine codeAny_forLoop_any (λn s'=>∃i σ' H',Inv X pins σ' H' s'/\tn i s'.heap/\(∀b∈fp,H' b=none)/\W i n σ' H') ?_ m0 ⟨0,σ,H2,I2,st2,λb hb=>(f2 b hb).1,w0⟩
 rintro n s3 ⟨i,DD,H3,I3,st3,Qz,w3⟩
 rcases turn i n DD H3 w3 with⟨stop,qn⟩ | ⟨go,N,hN,step⟩
 ·refine wpAny_passesOwn hp (cn (T.done X rfl rfl rfl hc i pins s3 DD H3 X.xe I3 (stat Qz) st3 stop) λr s4 ⟨hr,I4⟩=>?_)
  subst hr
  exact wpAny_execs_nil ⟨DD,H3,I4,qn⟩
 ·refine wpAny_passesOwn hp (cn (T.item X rfl rfl rfl hc i pins s3 DD H3 X.xe I3 (stat Qz) st3 go) λr s4 ⟨u,hr,h4⟩=>?_)
  subst hr
  refine wpAny_passesOwn hp (cn h4 λ_ s5 ⟨x,H5,I5,r5,y5,uT,wZ⟩=>?_)
  have RZ:=I5.pinned (stat wZ) (T.obj _ _ uT)
  refine wpAny_passesOwn hp (cn (hg _ s5 DD H5 x u _ RZ r5 (step x H5 y5)) λ_ s6 ⟨SX,H6,I6,q6⟩=>?_)
  refine wpAny_passesOwn hp (cn (hb _ s6 SX H6 _ I6 q6) λf s7 q7=>?_)
  have again:∀{DU:St} {H7:Hp},Inv X (pins++jS fp s5.heap) DU H7 s7->N DU H7->∃m,m<n/\∃i σ' H',Inv X pins σ' H' s7/\tn i s7.heap/\(∀b∈fp,H' b=none)/\W i m σ' H':=λ{DU H7} I7 n7=>by
   obtain⟨m',hm,w7⟩:=hN DU H7 n7
   refine⟨m',hm,i+1,DU,H7,I7.fX,T.keep _ _ _ uT λb hb o e=>(I7.pin (b,o) (Vx _ (Vx _ (cO hb e)))).1,λb hb=>?_,w7⟩
   obtain⟨o,e,d⟩:=T.obj _ _ uT b hb
   exact(I7.pin (b,o) (Vx _ (Vx _ (cO hb e)))).2.1
  cases f with
  | next=>obtain⟨DU,H7,I7,n7⟩:=q7; exact again I7 n7
  | cont=>obtain⟨DU,H7,I7,n7⟩:=q7; exact again I7 n7
  | brk=>obtain⟨DU,H7,I7,q7⟩:=q7; exact⟨DU,H7,I7.fX,q7⟩
  | ret v=>obtain⟨x7,DU,H7,I7,r7,q7⟩:=q7; exact⟨x7,DU,H7,I7.fX,r7,q7⟩
end
theorem Fw{K:Wg}{a:Addr}{xs:List V}{g:TG}{tb:TS}{D:Ends}{σ:St}{H:Hp}(Pv:Nat->St->Hp->Prop)(h0:Pv 0 σ H)(hl:∀i σ H,i<=xs.length->Pv i σ H->aH K H a xs)
  (hs:∀i x σ H,xs[i]? = some x->Pv i σ H->g x σ H λdn H2=>tb {D with nx:=Pv (i+1),ct:=Pv (i+1),bk:=D.nx} dn H2) (hd:∀σ H,Pv xs.length σ H->D.nx σ H) :
  ∃W:Nat->Nat->St->Hp->Prop,(∃m,W 0 m σ H)/\∀i m σ H,W i m σ H->
   ((F5 K a).stop i H/\D.nx σ H)\/((F5 K a).go i H/\∃N:St->Hp->Prop,(∀σ' H',N σ' H'->∃m',m'<m/\W (i+1) m' σ' H')/\∀x H',(F5 K a).GR i H x H'->g x σ H' λdn H2=>tb {D with nx:=N,ct:=N,bk:=D.nx} dn H2):=by
 refine⟨λi m σ H=>m=xs.length-i/\i<=xs.length/\Pv i σ H,⟨xs.length,by simp,VJ _,h0⟩,?_⟩
 rintro i m σ H ⟨rfl,hi,p⟩
 have q:=hl i σ H hi p
 by_cases hlt:i<xs.length
 ·refine .inr ⟨⟨xs,xs[i],q,by simp [hlt]⟩,Pv (i+1),λσ' H' p'=>⟨xs.length-(i+1),by omega,rfl,hlt,p'⟩,λx H' y=>?_⟩
  obtain⟨e,y⟩:=y
  subst e
  exact hs i x σ _ (y xs q) p
 ·have e:i=xs.length:=by omega
  subst e
  exact .inl ⟨⟨xs,q,Vn _⟩,hd σ H p⟩
theorem e9{lo:Int}{n:Nat}{g:TG}{tb:TS}{D:Ends}{σ:St}{H:Hp}(Pv:Nat->St->Hp->Prop)(h0:Pv 0 σ H)
  (hs:∀i σ H,i<n->Pv i σ H->g (.int (lo+i)) σ H λdn H2=>tb {D with nx:=Pv (i+1),ct:=Pv (i+1),bk:=D.nx} dn H2) (hd:∀σ H,Pv n σ H->D.nx σ H) :
  ∃W:Nat->Nat->St->Hp->Prop,(∃m,W 0 m σ H)/\∀i m σ H,W i m σ H->
   ((Jc lo n).stop i H/\D.nx σ H)\/((Jc lo n).go i H/\∃N:St->Hp->Prop,(∀σ' H',N σ' H'->∃m',m'<m/\W (i+1) m' σ' H')/\∀x H',(Jc lo n).GR i H x H'->g x σ H' λdn H2=>tb {D with nx:=N,ct:=N,bk:=D.nx} dn H2):=by
 refine⟨λi m σ H=>m=n-i/\i<=n/\Pv i σ H,⟨n,by simp,VJ _,h0⟩,?_⟩
 rintro i m σ H ⟨rfl,hi,p⟩
 by_cases hlt:i<n
 ·refine .inr ⟨hlt,Pv (i+1),λσ' H' p'=>⟨n-(i+1),by omega,rfl,hlt,p'⟩,λx H' y=>?_⟩
  obtain⟨e,y⟩:=y
  subst e y
  exact hs i σ _ hlt p
 ·have e:i=n:=by omega
  subst e
  exact .inl ⟨Vn _,hd σ H p⟩
abbrev R2:=V->V->Hp->VK->Prop
def je(X:Cx)(f:Value->Value->Sem Value)(r:R2):Prop :=
 ∀(pins:List (Addr×Obj)) (s:Shared) (σ:St) (H:Hp) (x y:V) (v u:Value) (Q:VK),Inv X pins σ H s->RelV x v->RelV y u->r x y H Q->
  wpAny (model X.prog X.w) X.A (f v u) (EP X pins σ Q) X.xe s
def OZ(X:Cx)(f:Value->Sem Value)(r:V->Hp->VK->Prop):Prop :=
 ∀(pins:List (Addr×Obj)) (s:Shared) (σ:St) (H:Hp) (x:V) (v:Value) (Q:VK),Inv X pins σ H s->RelV x v->r x H Q->
  wpAny (model X.prog X.w) X.A (f v) (EP X pins σ Q) X.xe s
def gu(X:Cx)(f:Value)(r:List V->Hp->VK->Prop):Prop :=
 ∀(pins:List (Addr×Obj)) (s:Shared) (σ:St) (H:Hp) (xs:List V) (us:List Value) (Q:VK),Inv X pins σ H s->Vals xs us->r xs H Q->
  wpAny (model X.prog X.w) X.A (call f us) (EP X pins σ Q) X.xe s
def Qi(X:Cx)(r:V->Hp->(Bool->Hp->Prop)->Prop):Prop :=
 ∀(pins:List (Addr×Obj)) (s:Shared) (σ:St) (H:Hp) (x:V) (v:Value) (Q:Bool->Hp->Prop),Inv X pins σ H s->RelV x v->r x H Q->
  wpAny (model X.prog X.w) X.A (truthy v) (TP X pins σ Q) X.xe s
def h_(r:R2)(ta tb:TE):TE:=λσ H Q=>ta σ H λx H1=>tb σ H1 λy H2=>r x y H2 Q
def UK(r:V->Hp->VK->Prop)(ta:TE):TE:=λσ H Q=>ta σ H λx H1=>r x H1 Q
def rI(C:Int->Int->Prop)(g:Int->Int->V):R2:=λx y H Q=>∃i j,x=.int i/\y=.int j/\C i j/\Q (g i j) H
def A_(g:Int->Int->V):R2:=λx y H Q=>∃i j,x=.int i/\y=.int j/\Q (g i j) H
def rU(g:Int->V):V->Hp->VK->Prop:=λx H Q=>∃i,x=.int i/\Q (g i) H
section
variable{X:Cx}{a b c:Expr}{ta tb tc:TE}{pos:Pos}
theorem Kd(ha:PE X a ta)(hb:PE X b tb){pins:List (Addr×Obj)}{s:Shared}{σ:St}{H:Hp}{R:V->V->Hp->Prop}(I:Inv X pins σ H s)
  (h:ta σ H λx H1=>tb σ H1 λy H2=>R x y H2) {Q:Value->Shared->Prop} {f:Value->Value->Sem Value}
  (hf:∀v u s2 x y H2,Inv X pins σ H2 s2->RelV x v->RelV y u->R x y H2->wpAny (model X.prog X.w) X.A (f v u) Q X.xe s2) :
  wpAny (model X.prog X.w) X.A (eval a X.env) (λv s₁=>wpAny (model X.prog X.w) X.A (eval b X.env) (λu s₂=>wpAny (model X.prog X.w) X.A (f v u) Q X.xe s₂) X.xe s₁) X.xe s:=by
 refine cn (ha pins s σ H _ I h) λv s1 ⟨x,H1,I1,r1,q1⟩=>?_
 refine cn (hb pins s1 σ H1 _ I1 q1) λu s2 ⟨y,H2,I2,r2,q2⟩=>?_
 exact hf v u s2 x y H2 I2 r1 r2 q2
theorem aD{op:Operator}{r:R2}(ho:je X (binaryOp op) r)(ha:PE X a ta)(hb:PE X b tb):PE X (.BinOp a op b pos) (h_ r ta tb):=by
 intro pins s σ H Q I h
 exact wpAny_BinOp (Kd ha hb I h λv u s2 x y H2 I2 rx ry q=>ho pins s2 σ H2 x y v u Q I2 rx ry q)
theorem sj{op:UnaryOp}{r:V->Hp->VK->Prop}(ho:OZ X (unaryOp op) r)(ha:PE X a ta):PE X (.UnaryOp op a pos) (UK r ta):=by
 intro pins s σ H Q I h
 exact UnaryOp_ (cn (ha pins s σ H _ I h) λv s1 ⟨x,H1,I1,r1,q1⟩=>ho pins s1 σ H1 x v Q I1 r1 q1)
theorem NS{f:Value->Value->Sem Value}{C:Int->Int->Prop}{g:Int->Int->Int}
  (rule:∀(i j:Int) (t u:Tok) (s:Shared) (Q:Value->Shared->Prop) (E:Value->Shared->Prop),C i j->Q (.int (g i j) s.toks) {s with toks:=s.toks+1}->wpAny (model X.prog X.w) X.A (f (.int i t) (.int j u)) Q E s) :
  je X f (rI C λi j=>.int (g i j)):=by
 intro pins s σ H x y v u Q I rx ry h
 obtain⟨i,j,rfl,rfl,hc,q⟩:=h
 obtain⟨t,rfl⟩:=rx
 obtain⟨t',rfl⟩:=ry
 exact rule i j t t' s _ _ hc ⟨.int (g i j),H,I.tok _,⟨_,rfl⟩,q⟩
theorem MA{f:Value->Value->Sem Value}{g:Int->Int->Int}
  (rule:∀(i j:Int) (t u:Tok) (s:Shared) (Q:Value->Shared->Prop) (E:Value->Shared->Prop),Q (.int (g i j) s.toks) {s with toks:=s.toks+1}->wpAny (model X.prog X.w) X.A (f (.int i t) (.int j u)) Q E s) :
  je X f (A_ λi j=>.int (g i j)):=by
 intro pins s σ H x y v u Q I rx ry h
 obtain⟨i,j,rfl,rfl,q⟩:=h
 obtain⟨t,rfl⟩:=rx
 obtain⟨t',rfl⟩:=ry
 exact rule i j t t' s _ _ ⟨.int (g i j),H,I.tok _,⟨_,rfl⟩,q⟩
theorem JM{f:Value->Value->Sem Value}{g:Int->Int->Bool}
  (rule:∀(i j:Int) (t u:Tok) (s:Shared) (Q:Value->Shared->Prop) (E:Value->Shared->Prop),Q (.bool (g i j)) s->wpAny (model X.prog X.w) X.A (f (.int i t) (.int j u)) Q E s) :
  je X f (A_ λi j=>.bl (g i j)):=by
 intro pins s σ H x y v u Q I rx ry h
 obtain⟨i,j,rfl,rfl,q⟩:=h
 obtain⟨t,rfl⟩:=rx
 obtain⟨t',rfl⟩:=ry
 exact rule i j t t' s _ _ ⟨.bl (g i j),H,I,rfl,q⟩
def OI(i j:Int):Prop:=0<j/\j<1073741824
def PM(i j:Int):Prop:=0<=j/\j<=1000000/\i.natAbs<2 ^ 64
def FU(i j:Int):Prop:=(-(2 ^ 64)<i/\i<2 ^ 64)\/(-(2 ^ 64)<j/\j<2 ^ 64)
theorem FU.ok{i j:Int}(h:FU i j):IntMulOk i j:=by
 rcases h with⟨h1,h2⟩ | ⟨h1,h2⟩
 ·exact .of_left (intBits_le_64 h1 h2)
 ·exact .of_right (intBits_le_64 h1 h2)
theorem cL:je X (binaryOp .Add) (A_ λi j=>.int (i+j)):=MA λ_ _ _ _ _ _ _ q=>add_int q
theorem bO:je X (binaryOp .Sub) (A_ λi j=>.int (i-j)):=MA λ_ _ _ _ _ _ _ q=>sub_int q
theorem kN:je X (binaryOp .Mult) (rI FU λi j=>.int (i*j)):=NS λ_ _ _ _ _ _ _ hc q=>mul_int q hc.ok
theorem y9:je X (binaryOp .FloorDiv) (rI OI λi j=>.int (i / j)):=NS λi j _ _ _ _ _ hc q=>by
 have h1:(0:Int)<j:=hc.1
 have h2:j<1073741824:=hc.2
 exact floordiv_int (by omega) (by rw [Int.fdiv_eq_ediv_of_nonneg i (by omega)]; exact q) (.inl (PyProof.noPylong_small (by omega)))
theorem pI:je X (binaryOp .Mod) (rI (λ_ j=>0<j) λi j=>.int (i % j)):=NS λi j _ _ _ _ _ hc q=>by
 have h1:(0:Int)<j:=hc
 exact mod_int' (by omega) (by rw [Int.fmod_eq_emod_of_nonneg i (by omega)]; exact q)
theorem mM:je X (binaryOp .Pow) (rI PM λi j=>.int (i ^ j.toNat)):=NS λ_ _ _ _ _ _ _ hc q=>pow_int_small hc.1 hc.2.1 hc.2.2 q
theorem Ur{f:Value->Sem Value}{g:Int->Int}
  (rule:∀(i:Int) (t:Tok) (s:Shared) (Q:Value->Shared->Prop) (E:Value->Shared->Prop),Q (.int (g i) s.toks) {s with toks:=s.toks+1}->wpAny (model X.prog X.w) X.A (f (.int i t)) Q E s) :
  OZ X f (rU λi=>.int (g i)):=by
 intro pins s σ H x v Q I rx h
 obtain⟨i,rfl,q⟩:=h
 obtain⟨t,rfl⟩:=rx
 exact rule i t s _ _ ⟨.int (g i),H,I.tok _,⟨_,rfl⟩,q⟩
theorem mr:OZ X (unaryOp .USub) (rU λi=>.int (-i)):=Ur λ_ _ _ _ _ q=>neg_int q
end
def Nl:V->V->Bool
 | .non,.non=>true | .non,.int _=>true | .int _,.non=>true | .non,.bl _=>true | .bl _,.non=>true | .non,.str _=>true | .str _,.non=>true
 | .int _,.int _=>true | .bl _,.bl _=>true | .str _,.str _=>true | .zH _,.zH _=>true
 | .int _,.str _=>true | .str _,.int _=>true | .bl _,.str _=>true | .str _,.bl _=>true
 | _,_=>false
def IM:R2:=λx y H Q=>Nl x y=true/\Q (.bl (decide (x=y))) H
def Tt:R2:=λx y H Q=>Nl x y=true/\Q (.bl (!decide (x=y))) H
theorem zR{i j:Int}:decide (V.int i=V.int j)=(i==j):=by
 rw [Bool.eq_iff_iff]
 simp
theorem EK{i j:Bool}:decide (V.bl i=V.bl j)=(i==j):=by
 rw [Bool.eq_iff_iff]
 simp
theorem zI{i j:Str}:decide (V.str i=V.str j)=(i==j):=by
 rw [Bool.eq_iff_iff]
 simp
theorem zl{i j:Array UInt8}:decide (V.zH i=V.zH j)=(i.toList==j.toList):=by
 rw [Bool.eq_iff_iff]
 cases i
 cases j
 simp
section
variable{X:Cx}{a b c:Expr}{ta tb tc:TE}{pos:Pos}
theorem b_{pins:List (Addr×Obj)}{σ:St}{H:Hp}{s:Shared}{Q:VK}{k k':Bool}(I:Inv X pins σ H s)(q:Q (.bl k) H)(e:k=k'):EP X pins σ Q (.bool k') s:=by
 subst e
 exact⟨.bl k,H,I,rfl,q⟩
theorem aP:je X (compareOp .Eq) IM:=by
 intro pins s σ H x y v u Q I rx ry h
 obtain⟨hs,q⟩:=h
 cases x with
 | non =>
  cases rx
  cases y with
  | non=>cases ry; exact PySem.EqNone.eq_none_none (b_ I q (by simp))
  | bl j=>cases ry; exact PySem.EqNone.eq_none_bool (b_ I q (by simp))
  | int j=>obtain⟨t',rfl⟩:=ry; exact PySem.EqNone.eq_none_int (b_ I q (by simp))
  | str j=>obtain⟨t',rfl⟩:=ry; exact PySem.EqNone.eq_none_str (b_ I q (by simp))
  | _=>exact VY (show false=true from hs) VA
 | bl i =>
  cases rx
  cases y with
  | non=>cases ry; exact PySem.EqNone.eq_bool_none (b_ I q (by simp))
  | bl j=>cases ry; exact eq_bool (b_ I q EK)
  | str j=>obtain⟨t',rfl⟩:=ry; exact PySem.EqMixed.eq_bool_str (b_ I q (by simp))
  | _=>exact VY (show false=true from hs) VA
 | int i =>
  obtain⟨t,rfl⟩:=rx
  cases y with
  | non=>cases ry; exact PySem.EqNone.eq_int_none (b_ I q (by simp))
  | int j=>obtain⟨t',rfl⟩:=ry; exact eq_int (b_ I q zR)
  | str j=>obtain⟨t',rfl⟩:=ry; exact PySem.EqMixed.eq_int_str (b_ I q (by simp))
  | _=>exact VY (show false=true from hs) VA
 | str i =>
  obtain⟨t,rfl⟩:=rx
  cases y with
  | non=>cases ry; exact PySem.EqNone.eq_str_none (b_ I q (by simp))
  | bl j=>cases ry; exact PySem.EqMixed.eq_str_bool (b_ I q (by simp))
  | int j=>obtain⟨t',rfl⟩:=ry; exact PySem.EqMixed.eq_str_int (b_ I q (by simp))
  | str j=>obtain⟨t',rfl⟩:=ry; exact eq_str (b_ I q zI)
  | _=>exact VY (show false=true from hs) VA
 | zH i =>
  obtain⟨t,rfl⟩:=rx
  cases y with
  | zH j=>obtain⟨t',rfl⟩:=ry; exact PySem.W.eq_bytes (b_ I q zl)
  | _=>exact VY (show false=true from hs) VA
 | _=>cases y <;> exact VY (show false=true from hs) VA
theorem kf:je X (compareOp .NotEq) Tt:=by
 intro pins s σ H x y v u Q I rx ry h
 obtain⟨hs,q⟩:=h
 cases x with
 | non =>
  cases rx
  cases y with
  | non=>cases ry; exact PySem.EqNone.ne_none_none (b_ I q (by simp))
  | bl j=>cases ry; exact PySem.EqNone.ne_none_bool (b_ I q (by simp))
  | int j=>obtain⟨t',rfl⟩:=ry; exact PySem.EqNone.ne_none_int (b_ I q (by simp))
  | str j=>obtain⟨t',rfl⟩:=ry; exact PySem.EqNone.ne_none_str (b_ I q (by simp))
  | _=>exact VY (show false=true from hs) VA
 | bl i =>
  cases rx
  cases y with
  | non=>cases ry; exact PySem.EqNone.ne_bool_none (b_ I q (by simp))
  | bl j=>cases ry; exact ne_bool (b_ I q (congrArg not EK))
  | str j=>obtain⟨t',rfl⟩:=ry; exact PySem.EqMixed.ne_bool_str (b_ I q (by simp))
  | _=>exact VY (show false=true from hs) VA
 | int i =>
  obtain⟨t,rfl⟩:=rx
  cases y with
  | non=>cases ry; exact PySem.EqNone.ne_int_none (b_ I q (by simp))
  | int j=>obtain⟨t',rfl⟩:=ry; exact ne_int (b_ I q (congrArg not zR))
  | str j=>obtain⟨t',rfl⟩:=ry; exact PySem.EqMixed.ne_int_str (b_ I q (by simp))
  | _=>exact VY (show false=true from hs) VA
 | str i =>
  obtain⟨t,rfl⟩:=rx
  cases y with
  | non=>cases ry; exact PySem.EqNone.ne_str_none (b_ I q (by simp))
  | bl j=>cases ry; exact PySem.EqMixed.ne_str_bool (b_ I q (by simp))
  | int j=>obtain⟨t',rfl⟩:=ry; exact PySem.EqMixed.ne_str_int (b_ I q (by simp))
  | str j=>obtain⟨t',rfl⟩:=ry; exact ne_str (b_ I q (congrArg not zI))
  | _=>exact VY (show false=true from hs) VA
 | zH i =>
  obtain⟨t,rfl⟩:=rx
  cases y with
  | zH j=>obtain⟨t',rfl⟩:=ry; exact PySem.W.ne_bytes (b_ I q (congrArg not zl))
  | _=>exact VY (show false=true from hs) VA
 | _=>cases y <;> exact VY (show false=true from hs) VA
theorem C8:je X (compareOp .Lt) (A_ λi j=>.bl (decide (i<j))):=JM λ_ _ _ _ _ _ _ q=>lt_int q
theorem Eb:je X (compareOp .LtE) (A_ λi j=>.bl (decide (i<=j))):=JM λ_ _ _ _ _ _ _ q=>le_int q
theorem gG:je X (compareOp .Gt) (A_ λi j=>.bl (decide (j<i))):=JM λ_ _ _ _ _ _ _ q=>gt_int q
theorem sI:je X (compareOp .IsNot) (λx y H Q=>y=.non/\Q (.bl (!decide (x=.non))) H):=by
 intro pins s σ H x y v u Q I rx ry h
 obtain⟨rfl,q⟩:=h
 cases ry
 refine isnot_none_gen (b_ I q ?_)
 cases x <;> first
  | (cases rx; rfl)
  | (obtain⟨t,rfl⟩:=rx; rfl)
theorem C7(b:Expr){op:CmpOp}(h:op≠ .In:=by decide)(h2:op≠ .NotIn:=by decide):behindInMarks op b=false:=by
 have e1:(op==CmpOp.In)=false:=by cases op <;> first | rfl | exact VY rfl h
 have e2:(op==CmpOp.NotIn)=false:=by cases op <;> first | rfl | exact VY rfl h2
 cases b <;> simp [behindInMarks,e1,e2]
theorem fL{op:CmpOp}{r:R2}(ho:je X (compareOp op) r)(ha:PE X a ta)(hb:PE X b tb)(hm:behindInMarks op b=false):PE X (.Compare a [op] [b] pos) (h_ r ta tb):=by
 intro pins s σ H Q I h
 exact wpAny_Compare1 (Kd ha hb I h λv u s2 x y H2 I2 rx ry q=>ho pins s2 σ H2 x y v u Q I2 rx ry q) hm
def sq(t:TE):TT:=λσ H Q=>t σ H λx H'=>∃k,x=.bl k/\Q k H'
theorem dk{op:CmpOp}{r:R2}(ho:je X (compareOp op) r)(ha:PE X a ta)(hb:PE X b tb)(hm:behindInMarks op b=false):PT X (.Compare a [op] [b] pos) (sq (h_ r ta tb)):=by
 intro pins s σ H Q I h
 refine wpAny_isTrue_Compare1 (cn (ha pins s σ H _ I h) λv s1 ⟨x,H1,I1,r1,q1⟩=>cn (hb pins s1 σ H1 _ I1 q1) λu s2 ⟨y,H2,I2,r2,q2⟩ =>
  cn (ho pins s2 σ H2 x y v u _ I2 r1 r2 q2) λc s3 ⟨z,H3,I3,r3,k,e,q3⟩=>?_) hm
 subst e
 cases r3
 exact wpAny_truthy_bool ⟨H3,I3,q3⟩
def JG(r r':R2)(ta tb tc:TE):TE:=λσ H Q=>ta σ H λx H1=>tb σ H1 λy H2=>r x y H2 λz H3=>∃k,z=.bl k/\
 (if k=true then tc σ H3 λw' H4=>r' y w' H4 Q else Q (.bl false) H3)
theorem CY{op op':CmpOp}{r r':R2}(ho:je X (compareOp op) r)(ho':je X (compareOp op') r')(ha:PE X a ta)(hb:PE X b tb)(hc:PE X c tc)
  (hm:lastMarks [op,op'] [b,c]=false:=by with_unfolding_all rfl):PE X (.Compare a [op,op'] [b,c] pos) (JG r r' ta tb tc):=by
 intro pins s σ H Q I h
 refine Compare_chain (cn (ha pins s σ H _ I h) λv s1 ⟨x,H1,I1,r1,q1⟩=>chain_link (cn (hb pins s1 σ H1 _ I1 q1) λu s2 ⟨y,H2,I2,r2,q2⟩ =>
  cn (ho pins s2 σ H2 x y v u _ I2 r1 r2 q2) λd s3 ⟨z,H3,I3,r3,k,e,q3⟩=>?_)) hm
 subst e
 cases r3
 refine wpAny_truthy_bool ?_
 cases k with
 | false=>exact ite_ff ⟨.bl false,H3,I3,rfl,q3⟩
 | true=>exact ite_tt (chain_last (cn (hc pins s3 σ H3 _ I3 q3) λw' s4 ⟨z',H4,I4,r4,q4⟩=>ho' pins s4 σ H4 y z' u w' Q I4 r2 r4 q4))
def MX(K:Wg)(x:V)(H:Hp)(k:Bool):Prop :=
 match x with
 | .non=>k=false
 | .bl b=>k=b
 | .int i=>k=(i != 0)
 | .str y=>y.length<=sizeLine/\k=((y.length:Int) != 0)
 | .zH y=>y.size<=sizeLine/\k=((y.size:Int) != 0)
 | .ref p=>(∃xs,a_ K H p xs/\k = !xs.isEmpty)\/(∃xs,aH K H p xs/\k = !xs.isEmpty)\/∃kvs,H p=some (.dK kvs)/\k = !kvs.isEmpty
 | _=>False
theorem xI{κ:Type}{kvs:List (κ×V)}{vs:List (κ×Value)}(r:KV kvs vs):(!vs.isEmpty) = !kvs.isEmpty:=by
 cases r <;> rfl
theorem oA{xs:List V}{its:List Value}(r:Vals xs its):(!its.toArray.isEmpty) = !xs.isEmpty:=by
 cases r <;> simp
theorem mi:(sizeLine:Nat)<2 ^ 63:=by rw [sizeLine_eq]; decide
theorem JA:Qi X (λx H Q=>∃k,MX X.K x H k/\Q k H):=by
 intro pins s σ H x v Q I rx h
 obtain⟨k,e,q⟩:=h
 have hl:=mi
 have hs:sizeLine=16777216:=sizeLine_eq
 cases x with
 | non =>
  cases rx
  have e':k=false:=e
  subst e'
  exact truthy_none ⟨H,I,q⟩
 | bl b =>
  cases rx
  have e':k=b:=e
  subst e'
  exact wpAny_truthy_bool ⟨H,I,q⟩
 | int i =>
  obtain⟨t,rfl⟩:=rx
  have e':k=(i != 0):=e
  subst e'
  exact PySem.P.truthy_int ⟨H,I,q⟩
 | str y =>
  obtain⟨t,rfl⟩:=rx
  obtain⟨hy,e'⟩ : y.length<=sizeLine/\k=((y.length:Int) != 0):=e
  subst e'
  exact PySem.P.truthy_str (by omega) ⟨H,I.tok _,q⟩
 | zH y =>
  obtain⟨t,rfl⟩:=rx
  obtain⟨hy,e'⟩ : y.size<=sizeLine/\k=((y.size:Int) != 0):=e
  subst e'
  exact PySem.W.truthy_bytes (by omega) ⟨H,I.tok _,q⟩
 | ref p =>
  cases rx
  have e':(∃xs,a_ X.K H p xs/\k = !xs.isEmpty)\/(∃xs,aH X.K H p xs/\k = !xs.isEmpty)\/∃kvs,H p=some (.dK kvs)/\k = !kvs.isEmpty:=e
  rcases e' with⟨xs,hx,e'⟩ | ⟨xs,hx,e'⟩ | ⟨kvs,hx,e'⟩
  ·subst e'
   obtain⟨its,r,pl,hz⟩:=I.list hx
   have hlen:=r.length
   exact wpAny_truthy_list pl.isList (by simp only [VB]; omega) ⟨H,I.tok _,by rw [oA r]; exact q⟩
  ·subst e'
   obtain⟨its,r,pl,hz⟩:=I.tuple hx
   have hlen:=r.length
   exact truthy_tuple pl (by simp only [VB]; omega) ⟨H,I.tok _,by rw [oA r]; exact q⟩
  ·subst e'
   obtain⟨hz,hS,vs,r,m⟩ : kvs.length<=sizeLine/\(p==sysModules)=false/\∃vs,KV kvs vs/\s.heap.DictOf (bL X.prog X.w) p vs:=I.hok p _ hx
   have hlen:kvs.length=vs.length:=Paired.length r
   exact wpAny_truthy_dict hS m (by omega) ⟨H,I.tok _,by rw [xI r]; exact q⟩
 | _=>exact(show False from e).elim
theorem vals1{x:V}{us:List Value}(r:Vals [x] us):∃u,us=[u]/\RelV x u:=by
 cases r with
 | cons r1 r2=>cases r2; exact⟨_,rfl,r1⟩
theorem vals2{x y:V}{us:List Value}(r:Vals [x,y] us):∃u w',us=[u,w']/\RelV x u/\RelV y w':=by
 cases r with
 | cons r1 r2 =>
  cases r2 with
  | cons r3 r4=>cases r4; exact⟨_,_,rfl,r1,r3⟩
theorem Es:gu X (.builtin "abs") (λxs H Q=>∃i,xs=[.int i]/\Q (.int (if i<0 then -i else i)) H):=by
 intro pins s σ H xs us Q I r h
 obtain⟨i,rfl,q⟩:=h
 obtain⟨u,rfl,t,rfl⟩:=vals1 r
 exact call_abs_int λu tk=>⟨.int (if i<0 then -i else i),H,I.tok _,⟨_,rfl⟩,q⟩
theorem AD(hc:X.calm=true):gu X (.builtin "max") (λxs H Q=>∃i j,xs=[.int i,.int j]/\Q (.int (if j > i then j else i)) H):=by
 intro pins s σ H xs us Q I r h
 obtain⟨i,j,rfl,q⟩:=h
 obtain⟨u,w',rfl,⟨t,rfl⟩,⟨t',rfl⟩⟩:=vals2 r
 refine max_two_ints (I.ok.hd hc) λh' tk k=>⟨_,H,I.kept k,?_,q⟩
 by_cases hj:j > i
 ·rw [V0 hj,V0 hj]; exact⟨_,rfl⟩
 ·rw [VZ hj,VZ hj]; exact⟨_,rfl⟩
theorem rF(hc:X.calm=true):gu X (.builtin "min") (λxs H Q=>∃i j,xs=[.int i,.int j]/\Q (.int (if j<i then j else i)) H):=by
 intro pins s σ H xs us Q I r h
 obtain⟨i,j,rfl,q⟩:=h
 obtain⟨u,w',rfl,⟨t,rfl⟩,⟨t',rfl⟩⟩:=vals2 r
 refine min_two_ints (I.ok.hd hc) λh' tk k=>⟨_,H,I.kept k,?_,q⟩
 by_cases hj:j<i
 ·rw [V0 hj,V0 hj]; exact⟨_,rfl⟩
 ·rw [VZ hj,VZ hj]; exact⟨_,rfl⟩
theorem cE:gu X (.type "int") (λxs H Q=>(∃i,xs=[.int i]/\Q (.int i) H)\/∃k,xs=[.bl k]/\Q (.int (if k then 1 else 0)) H):=by
 intro pins s σ H xs us Q I r h
 rcases h with⟨i,rfl,q⟩ | ⟨k,rfl,q⟩
 ·obtain⟨u,rfl,t,rfl⟩:=vals1 r
  exact call_int_int ⟨.int i,H,I,⟨_,rfl⟩,q⟩
 ·obtain⟨u,rfl,r1⟩:=vals1 r
  cases r1
  exact call_int_bool ⟨.int (if k then 1 else 0),H,I.tok _,⟨_,rfl⟩,q⟩
end
structure JI(h:Heap)(x dx C:Addr)(mA:Str->Option Value):Prop where
 obj:h.get? x=some (PySem.W.instObj C dx)
 ns:h.Ns1 dx mA
 ne:dx≠x
theorem my{h:Heap}{dx:Addr}{mA:Str->Option Value}(n:h.Ns1 dx mA):∃od,h.get? dx=some od/\∀name,PySem.W.lookIn name od=some (mA name):=by
 obtain⟨o,es,ep,ho,hd,hk,_,hm⟩:=n
 refine⟨o,ho,λname=>?_⟩
 have e:=hm name
 unfold nsFind findBy at e
 rw [←Array.find?_toList]at e
 unfold PySem.W.lookIn
 rw [hd]
 dsimp only
 split
 ·rename_i y q
  rw [q]at e
  exact congrArg some e
 ·rename_i q
  rw [q]at e
  have a:es.toList.any (·.refKey)=false:=by
   rw [List.any_eq_false]
   intro y hy
   obtain⟨z,t,hkey⟩:=hk y (Array.mem_toList_iff.mp hy)
   simp [DictEntry.refKey,hkey]
  have a':¬es.toList.any (·.refKey)=true:=by rw [a]; exact VA
  rw [VZ a']
  exact congrArg some e
theorem JI.look{h:Heap}{x dx C:Addr}{mA:Str->Option Value}(I:JI h x dx C mA):∃od,PySem.W.InstAt h x (PySem.W.instObj C dx) C (some od)/\∀name,PySem.W.lookIn name od=some (mA name) :=
 let ⟨od,ho,hl⟩:=my I.ns
 ⟨od,⟨I.obj,rfl,rfl,ho⟩,hl⟩
def ni(f:Str)(v:V):List (Str×V)->List (Str×V)
 | []=>[(f,v)]
 | (g,x)::r=>if g=f then(g,v)::r else(g,x)::ni f v r
theorem eD(f g:Str)(v:V):∀fs:List (Str×V),(ni f v fs).lookup g=if g=f then some v else fs.lookup g
 | []=>by
  show List.lookup g [(f,v)]=_
  by_cases h:g=f
  ·have hb:(g==f)=true:=beq_iff_eq.mpr h
   simp only [List.lookup,hb,V0 h]
  ·have hb:(g==f)=false:=beq_eq_false_iff_ne.mpr h
   simp only [List.lookup,hb,VZ h]
 | (k,x)::r=>by
  have ih:=eD f g v r
  rw [show ni f v ((k,x)::r)=(if k=f then(k,v)::r else(k,x)::ni f v r) from rfl]
  by_cases hk:k=f
  ·rw [V0 hk]
   by_cases h:g=k
   ·have hb:(g==k)=true:=beq_iff_eq.mpr h
    simp only [List.lookup,hb,V0 (h.trans hk)]
   ·have hb:(g==k)=false:=beq_eq_false_iff_ne.mpr h
    simp only [List.lookup,hb,VZ (λe:g=f=>h (e.trans hk.symm))]
  ·rw [VZ hk]
   by_cases h:g=k
   ·have hb:(g==k)=true:=beq_iff_eq.mpr h
    simp only [List.lookup,hb,VZ (λe:g=f=>hk (h.symm.trans e))]
   ·have hb:(g==k)=false:=beq_eq_false_iff_ne.mpr h
    simp only [List.lookup,hb]
    exact ih
theorem jD.some_of{v:V}{o:Option Value}(r:jD (some v) o):∃u,o=some u/\RelV v u:=by
 cases o with
 | none=>exact(show False from r).elim
 | some u=>exact⟨u,rfl,r⟩
theorem jD.none_of{o:Option Value}(r:jD none o):o=none:=by
 cases o with
 | none=>rfl
 | some u=>exact(show False from r).elim
theorem Ap{v:V}{u:Value}(r:RelV v u):PySem.W.handedIn u=true:=by
 cases v with
 | non=>cases(show u=Value.none from r); rfl
 | bl b=>cases(show u=Value.bool b from r); rfl
 | int i=>obtain⟨t,e⟩:=(show∃t,u=Value.int i t from r); cases e; rfl
 | str x=>obtain⟨t,e⟩:=(show∃t,u=Value.str x t from r); cases e; rfl
 | zH b=>obtain⟨t,e⟩:=(show∃t,u=Value.bytes b t from r); cases e; rfl
 | flt b=>obtain⟨t,e⟩:=(show∃t,u=Value.float b t from r); cases e; rfl
 | ref a=>cases(show u=Value.ref a from r); rfl
 | ty n=>cases(show u=Value.type n from r); rfl
section
variable{P:Program}{w:World}{H H':Hp}{h h':Heap}{a C dx:Addr}{fs fs':List (Str×V)}
theorem Gg(hok:ji P w H h)(e:H a=some (.ins C dx fs)):∃mA,JI h a dx C mA/\(∀f,jD (fs.lookup f) (mA f))/\PySem.Within mA (fs.map (·.1))/\fs.length<=1000/\H dx=some (.own a):=by
 obtain⟨d,z,ne,ob,mA,n,r,q⟩:=(show cB P w H h a (.ins C dx fs) from hok a _ e)
 exact⟨mA,⟨ob,n,ne⟩,r,q,z,d⟩
end
structure Qr(K:Wg)(C:Addr):Prop where
 pg:PySem.W.plainGet K C Str.empty=true
 hd:PySem.W.hasDictIn K C=true
 po:PySem.W.plainOver K C=true
 sa:PySem.W.findIn K (.ref C) "__setattr__"=some (some (.builtin "object.__setattr__"))
theorem Qr.get{K:Wg}{C:Addr}(c:Qr K C)(f:Str):PySem.W.plainGet K C f=true:=c.pg
def iV(K:Wg)(C:Addr)(f:Str):Prop:=PySem.W.findIn K (.ref C) f=some none
section
variable{X:Cx}{pins:List (Addr×Obj)}{σ:St}{H:Hp}{s:Shared}{a C dx:Addr}{fs:List (Str×V)}{f:Str}{v:V}{A:Around}{E:Value->Shared->Prop}
theorem FW{prog:Program}{w:World}{env:Env}{e:Expr}{f:Str}{pos:Pos}{s:Shared}{Q:Value->Shared->Prop}(hb:attributeBase e f env (eval e env)=eval e env)
  (h:wpAny (model prog w) A (eval e env) (λo s₁=>wpAny (model prog w) A (getAttr o f true) Q E s₁) E s):wpAny (model prog w) A (eval (.Attribute e f pos) env) Q E s :=
 Attribute_any_ h (by rw [arm_eval_Attribute,hb])
end
section
variable{X:Cx}{pins:List (Addr×Obj)}{σ:St}{H:Hp}{s:Shared}{A:Around}{E:Value->Shared->Prop}{Q:Value->Shared->Prop}{c:Value}{b:Bool}
inductive mJ (K:Wg) (H:Hp):V->Value->Prop where
 | non:mJ K H .non (.type "NoneType")
 | bl (x:Bool):mJ K H (.bl x) (.type "bool")
 | int (i:Int):mJ K H (.int i) (.type "int")
 | str (x:Str):mJ K H (.str x) (.type "str")
 | flt (x:UInt64):mJ K H (.flt x) (.type "float")
 | lst {a:Addr} {xs:List V} (e:H a=some (.lst xs)):mJ K H (.ref a) (.type "list")
 | xX {a:Addr} {o:Obj} {xs:List V} (e:H a=some (.xX o (.lst xs))):mJ K H (.ref a) (.type "list")
 | tup {a:Addr} {xs:List V} (e:H a=some (.tup xs)):mJ K H (.ref a) (.type "tuple")
 | dK {a:Addr} {kvs:List (Key×V)} (e:H a=some (.dK kvs)):mJ K H (.ref a) (.type "dict")
 | dT {a:Addr} {kvs:List (List dz×V)} (e:H a=some (.dT kvs)):mJ K H (.ref a) (.type "dict")
 | ins {a C dx:Addr} {fs:List (Str×V)} (e:H a=some (.ins C dx fs)) (cl:Qr K C) (ha:PySem.W.findIn K (.ref C) "__class__"=some (some (.builtin "object.__class__")))
   (hn:PySem.W.specialIn K (.builtin "object.__class__") "__get__"=some (some (.builtin "getset_descriptor.__get__"))) (htk:PySem.W.takesIn K (.builtin "object.__class__")=some true)
   (hm:PySem.W.mroIn K C (.type "object")=some true):mJ K H (.ref a) (.ref C)
theorem A5{x:V}{u t:Value}(I:Inv X pins σ H s)(rx:RelV x u)(ty:mJ X.K H x t)(e:PySem.W.kitOne X.K t c=some b)(h:∀tk,Q (.bool b) {s with toks:=tk}) :
  wpAny (model X.prog X.w) A (call (.builtin "isinstance") [u,c]) Q E s:=by
 cases ty with
 | non=>cases(show u=Value.none from rx); exact PySem.W.kia_one PySem.W.kitx_none I.jZ True.intro e (λz=>nomatch z) h
 | bl y=>cases(show u=Value.bool y from rx); exact PySem.W.kia_one PySem.W.kitx_bool I.jZ True.intro e (λz=>nomatch z) h
 | int i=>obtain⟨t,q⟩:=(show∃t,u=Value.int i t from rx); cases q; exact PySem.W.kia_one PySem.W.kitx_int I.jZ True.intro e (λz=>nomatch z) h
 | str y=>obtain⟨t,q⟩:=(show∃t,u=Value.str y t from rx); cases q; exact PySem.W.kia_one PySem.W.kitx_str I.jZ True.intro e (λz=>nomatch z) h
 | flt y=>obtain⟨t,q⟩:=(show∃t,u=Value.float y t from rx); cases q; exact PySem.W.kia_one PySem.W.kitx_float I.jZ True.intro e (λz=>nomatch z) h
 | @lst a xs ea =>
  cases(show u=Value.ref a from rx)
  obtain⟨_,_,n,_,h1⟩:=(show cB X.prog X.w H s.heap a (.lst xs) from I.hok a _ ea)
  exact PySem.W.kia_one PySem.W.kitx_list I.jZ ⟨_,h1,rfl⟩ e (λz=>nomatch z) h
 | @xX a ob xs ea =>
  cases(show u=Value.ref a from rx)
  obtain⟨_,_,_,n,_,h1⟩:=(show cB X.prog X.w H s.heap a (.xX ob (.lst xs)) from I.hok a _ ea)
  exact PySem.W.kia_one PySem.W.kitx_list I.jZ ⟨_,h1,rfl⟩ e (λz=>nomatch z) h
 | @tup a xs ea =>
  cases(show u=Value.ref a from rx)
  obtain⟨_,_,_,p⟩:=(show cB X.prog X.w H s.heap a (.tup xs) from I.hok a _ ea)
  obtain⟨o,h1,h2,_⟩:=p
  exact PySem.W.kia_one PySem.W.kitx_tuple I.jZ ⟨o,h1,h2⟩ e (λz=>nomatch z) h
 | @dK a kvs ea =>
  cases(show u=Value.ref a from rx)
  obtain⟨_,_,vs,_,p⟩:=(show cB X.prog X.w H s.heap a (.dK kvs) from I.hok a _ ea)
  obtain⟨o,es,ep,h1,h2,_⟩:=p
  exact PySem.W.kia_one PySem.W.kitx_dict I.jZ ⟨o,h1,h2.1⟩ e (λz=>nomatch z) h
 | @dT a kvs ea =>
  cases(show u=Value.ref a from rx)
  obtain⟨_,_,xs,_,o,es,ep,h1,h2,_⟩:=(show cB X.prog X.w H s.heap a (.dT kvs) from I.hok a _ ea)
  exact PySem.W.kia_one PySem.W.kitx_dict I.jZ ⟨o,h1,h2.1⟩ e (λz=>nomatch z) h
 | @ins a C dx fs ea cl ha hn htk hm =>
  cases(show u=Value.ref a from rx)
  obtain⟨mA,O,_⟩:=Gg I.hok ea
  obtain⟨od,J,_⟩:=O.look
  exact PySem.W.kia_one (PySem.W.kitx_own (cl.get _) cl.hd ha hn htk hm) I.jZ J e (λz=>nomatch z) h
end
structure eV(k:Nat)(A:Around):Prop where
 hd:A.handled=none
 dp:A.depth+3*k+5<recursionLimit
 un:A.units+16*k+200<cLine
theorem eV.mono{j k:Nat}{A:Around}(r:eV k A)(h:j<=k):eV j A:=⟨r.hd,by have:=r.dp; omega,by have:=r.un; omega⟩
theorem eV.deeper{k:Nat}{A:Around}(r:eV (k+1) A)(env:Env):eV k (A.deeper env) :=
 ⟨r.hd,by have:=r.dp; show A.depth+1+3*k+5<_; omega,by have:=r.un; show A.units+3+16*k+200<_; omega⟩
theorem xH{A:Around}{C:Addr}{us:List Value}{kw:List (Str×Value)}:(A.under (.builtin "type.__call__" ⟨.ref C::us,kw⟩)).depth=A.depth+1:=by
 first | rfl | simp [Around.under,Code.weight,Code.isCreation,Code.isGuard,Code.isCaller,Code.frames,Code.isFrame,guardIds]
theorem xt{A:Around}{C:Addr}{us:List Value}{kw:List (Str×Value)}:(A.under (.builtin "type.__call__" ⟨.ref C::us,kw⟩)).units=A.units+1:=by
 first | rfl | simp [Around.under,Code.cUnits,Code.frames,Code.isFrame]
theorem eV.make{k:Nat}{A:Around}(r:eV (k+1) A)(C:Addr)(us:List Value)(kw:List (Str×Value)):eV k (A.under (.builtin "type.__call__" ⟨.ref C::us,kw⟩)) :=
 ⟨r.hd,by have:=r.dp; rw [xH]; omega,by have:=r.un; rw [xt]; omega⟩
theorem eV.depth{k:Nat}{A:Around}(r:eV k A):A.depth<recursionLimit:=by have:=r.dp; omega
theorem eV.units{k:Nat}{A:Around}(r:eV k A):A.units+64<cLine:=by have:=r.un; omega
def fJ:TA:=λ_ H Q=>Q [] H
def bq(ta:TE)(tr:TA):TA:=λσ H Q=>ta σ H λx H1=>tr σ H1 λxs H2=>Q (x::xs) H2
section
variable{X:Cx}{e:Expr}{es:List Expr}{te:TE}{t:TA}{pos:Pos}
theorem ah:PA X [] fJ:=λ_ _ _ _ H Q I h=>Calls.spliced_nil ⟨[],H,I,.nil,h⟩
theorem ae(ha:PE X e te)(hr:PA X es t)(hs:starEach (e::es) X.env=(false,eval e X.env)::starEach es X.env:=by rfl):PA X (e::es) (bq te t):=by
 intro pos pins s σ H Q I h
 rw [hs]
 show wpAny _ _ (spliced ((false,eval e X.env)::backTo pos (starEach es X.env))) _ _ s
 refine Calls.spliced_cons (cn (ha pins s σ H _ I h) λu s1 ⟨x,H1,I1,r1,q1⟩=>?_)
 exact cn (hr pos pins s1 σ H1 _ I1 q1) λus s2 ⟨xs,H2,I2,r2,q2⟩=>⟨x::xs,H2,I2,.cons r1 r2,q2⟩
def ER(t:TA):TE:=λσ H Q=>t σ H λxs H1=>xs.length<=sizeLine/\∀p,H1 p=none->Q (.ref p) (upd H1 p (.tup xs))
def yo(t:TA):TE:=λσ H Q=>t σ H λxs H1=>xs.length<=sizeLine/\∀p,H1 p=none->Q (.ref p) (upd H1 p (.lst xs))
theorem aJ{x1}(h:PA X es t):PE X (.Tuple es x1 pos) (ER t):=by
 intro pins s σ H Q I hq
 refine wpAny_Tuple_spliced (cn (h pos pins s σ H _ I hq) λus s1 ⟨xs,H1,I1,r,z,q⟩=>⟨by rw [←r.length]; exact z,?_⟩)
 have hf:H1 s1.heap.objs.size=none:=I1.hok.fresh (Vn _)
 refine⟨.ref s1.heap.objs.size,upd H1 s1.heap.objs.size (.tup xs),I1.laid (t':=s1.toks) (λb u e=>Vk _ e) (Vn _) ?_,rfl,q _ hf⟩
 exact⟨z,us,r,⟨_,Vm _ rfl,rfl,⟨_,rfl⟩,rfl⟩⟩
theorem aQ(h:PA X es t):PE X (.List es pos) (yo t):=by
 intro pins s σ H Q I hq
 refine wpAny_List_spliced (cn (h pos pins s σ H _ I hq) λus s1 ⟨xs,H1,I1,r,z,q⟩=>⟨by rw [←r.length]; exact z,?_⟩)
 have hf:H1 s1.heap.objs.size=none:=I1.hok.fresh (Vn _)
 refine⟨.ref s1.heap.objs.size,upd H1 s1.heap.objs.size (.lst xs),I1.laid (t':=s1.toks) (λb u e=>Vk _ e) (Vn _) ?_,rfl,q _ hf⟩
 exact⟨z,us,0,r,Vm _ rfl⟩
end
abbrev Sp:=List V->Hp->VK->XK->Prop
abbrev rC:=List Env->Hp->Shared->XK->Value->Shared->Prop
structure yw(P:Program)(w:World)(K:Wg)(mg:Str->Option Value)(base:Heap)(A:Around)(outer:List Env)(s:Shared)(H:Hp):Prop where
 frames:A.frames=some outer
 mod:Mod K mg base
 bs:∀b o,base.get? b=some o->s.heap.get? b=some o/\H b=none
 BG:base.objs.size<=s.heap.objs.size
 ky:s.heap.FunFrames base outer
 E8:∀b∈frs outer,H b=none
 hok:ji P w H s.heap
 bare:AllBare s.gens
def CE(outer:List Env)(P:Program)(w:World)(H:Hp)(s:Shared)(Q:VK)(u:Value)(s':Shared):Prop :=
 ∃v H',s'.os=s.os/\AllBare s'.gens/\Un (frs outer) [] H H' s.heap s'.heap/\ji P w H' s'.heap/\RelV v u/\Q v H'
def CR(CX:rC)(outer:List Env)(P:Program)(w:World)(H:Hp)(s:Shared)(Q:VK)(E:XK)(r:Result)(s':Shared):Prop :=
 match r with
 | .ok (.ret u)=>CE outer P w H s Q u s'
 | .ok _=>False
 | .error e=>CX outer H s E e s'
structure e_(P:Program)(w:World)(K:Wg)(mg:Str->Option Value)(base:Heap)(CX:rC)(k:Nat)(f:Addr)(fd:FuncData)(ps:List Str)(sp:Sp):Prop where
 len:∀vs H Q E,sp vs H Q E->vs.length=ps.length
 run:∀(A:Around) (outer:List Env) (s:Shared) (H:Hp) (args:Args) (us:List Value) (vs:List V) (Q:VK) (E:XK),eV k A->yw P w K mg base A outer s H->BindsTo s fd args (ps.zip us)->Vals vs us->sp vs H Q E->
  codeAny (model P w) A (.call (.ref f) args) (CR CX outer P w H s Q E) s
theorem e_.mono{P:Program}{w:World}{K:Wg}{mg:Str->Option Value}{base:Heap}{CX:rC}{j k:Nat}{f:Addr}{fd:FuncData}{ps:List Str}{sp:Sp}(F:e_ P w K mg base CX j f fd ps sp)(h:j<=k) :
  e_ P w K mg base CX k f fd ps sp:=⟨F.len,λA outer s H args us vs Q E hr=>F.run A outer s H args us vs Q E (hr.mono h)⟩
theorem e_.imp{P:Program}{w:World}{K:Wg}{mg:Str->Option Value}{base:Heap}{CX:rC}{k:Nat}{f:Addr}{fd:FuncData}{ps:List Str}{sp QO:Sp}(F:e_ P w K mg base CX k f fd ps sp)
  (h:∀vs H Q E,QO vs H Q E->sp vs H Q E):e_ P w K mg base CX k f fd ps QO :=
 ⟨λvs H Q E q=>F.len vs H Q E (h _ _ _ _ q),λA outer s H args us vs Q E hr he hb hv hs=>F.run A outer s H args us vs Q E hr he hb hv (h _ _ _ _ hs)⟩
theorem yw.make{P:Program}{w:World}{K:Wg}{mg:Str->Option Value}{base:Heap}{A:Around}{outer:List Env}{s:Shared}{H:Hp}(e:yw P w K mg base A outer s H)(C:Addr)(us:List Value)(kw:List (Str×Value)) :
  yw P w K mg base (A.under (.builtin "type.__call__" ⟨.ref C::us,kw⟩)) outer s H:=⟨by first | exact e.frames | (simpa [Around.under,Code.envs,Code.isFrame,pushEnvs] using e.frames),e.mod,e.bs,e.BG,e.ky,e.E8,e.hok,e.bare⟩
section
variable{X:Cx}{pins:List (Addr×Obj)}{σ:St}{H:Hp}{s s':Shared}
theorem Inv.env0(I:Inv X pins σ H s):yw X.prog X.w X.K X.mg X.base X.A X.stack s H :=
 ⟨I.ok.frames,I.ok.mod,I.bs,Vo I.ok.BG I.sz,I.stack,I.nI,I.hok,I.bare⟩
theorem Inv.after{Q:VK}{u:Value}(I:Inv X pins σ H s)(h:CE X.stack X.prog X.w H s Q u s'):EP X pins σ Q u s':=by
 obtain⟨v,H',os,bare,un,hok,r,q⟩:=h
 obtain⟨hh,g,d,t,os'⟩:=s'
 obtain rfl:os'=s.os:=os
 exact⟨v,H',I.call (h':=hh) (g':=g) (d':=d) (t':=t) (ch:=[]) un hok bare (λb z=>VY z (by simp)),r,q⟩
end
def ja(sp:Sp)(Ii:List V)(E:XK)(t:TA):TE:=λσ H Q=>t σ H λvs H1=>sp (vs++Ii) H1 Q E
def Binds(K:Wg)(fd:FuncData)(ps:List Str)(ds:List Value):Prop :=
 ∀(s:Shared) (us:List Value),K.In s.heap->(us++ds).length=ps.length->BindsTo s fd ⟨us,[]⟩ (ps.zip (us++ds))
theorem Binds.all{K:Wg}{fd:FuncData}{ps:List Str}(h:∀us:List Value,us.length=ps.length->bindArgs fd ⟨us,[]⟩=pure (ps.zip us)):Binds K fd ps []:=λs us _ hl=>by
 rw [V8]at hl⊢
 exact .of_eq (h us hl)
def Passes(CX:rC)(X:Cx)(E:XK):Prop:=∀(pins:List (Addr×Obj)) (σ:St) (H:Hp) (s:Shared) (e:Value) (s':Shared),Inv X pins σ H s->CX X.stack H s E e s'->X.xe e s'
section
variable{X:Cx}{CX:rC}{k:Nat}{f C:Addr}{fd:FuncData}{ps:List Str}{sp:Sp}{Ii:List V}{ds:List Value}{E:XK}{x m:Str}{p pos apos:Pos}{e o:Expr}{es:List Expr}{ta:TE}{t:TA}
theorem BW{pins:List (Addr×Obj)}{σ:St}{H:Hp}{s:Shared}{Q:VK}{us:List Value}{vs:List V}(F:e_ X.prog X.w X.K X.mg X.base CX k f fd ps sp)(hr:eV k X.A)(hb:Binds X.K fd ps ds)(hd:Vals Ii ds)(hx:Passes CX X E)
  (I:Inv X pins σ H s) (r:Vals vs us) (h:sp (vs++Ii) H Q E):wpAny (model X.prog X.w) X.A (call (.ref f) us) (EP X pins σ Q) X.xe s:=by
 have r2:Vals (vs++Ii) (us++ds):=r.append hd
 have hl:(us++ds).length=ps.length:=by rw [←r2.length]; exact F.len _ _ _ _ h
 refine wpAny_call (codeAny_mono (F.run X.A X.stack s H ⟨us,[]⟩ (us++ds) (vs++Ii) Q E hr I.env0 (hb s us I.jZ hl) r2 h) λr s' hq=>?_)
 cases r with
 | error e=>exact hx pins σ H s e s' I hq
 | ok fl =>
  cases fl with
  | ret u=>exact I.after hq
  | next=>exact V4 hq
  | brk=>exact V4 hq
  | cont=>exact V4 hq
theorem Ft(F:e_ X.prog X.w X.K X.mg X.base CX k f fd ps sp)(hr:eV k X.A)(hg:Gl X x)(hm:X.mg x=some (.ref f))(hk:PySem.W.keepIn X.K (.ref f)=true)(hb:Binds X.K fd ps ds)(hd:Vals Ii ds)(hx:Passes CX X E)
  (ha:PA X (e::es) t) (hdb:(x==("__debug__" : Str))=false:=by decide) (he:starEach (e::es) X.env=(false,eval e X.env)::starEach es X.env:=by rfl) (hpl:(backTo pos (starEach es X.env)).any (·.1)=false:=by rfl) :
  PE X (.Call (.Name x p) (e::es) [] pos) (ja sp Ii E t):=by
 intro pins s σ H Q I h
 refine wpAny_Call_Name_kw (oi I hg hm ?_ hdb)
 refine PySem.W.callWith_K (h₀:=X.base) I.ok.mod.Lq hk (cn (ha pos pins s σ H _ I h) λus s1 ⟨vs,H1,I1,r,q⟩=>⟨I1.jZ,?_⟩) he hpl
 exact BW F hr hb hd hx I1 r q
end
structure ay(N P:List Str)(sc:Scope):Prop where
 kind:sc.kind=.function
 co:sc.isCoroutine=false
 gen:sc.isGenerator=false
 nd:N.Nodup
 pre:N.take P.length=P
 par:∀x∈P,sc.names.lookup x=some .local\/sc.names.lookup x=some .cell
 Ku:∀y∈sc.names,y.2≠ .free
theorem rM{kindOf:Str->Option NameKind}{x:Str}:∀{binds:List (Str×Value)} {m:Str->Option Value},(∀v,(x,v)∉binds)->bindL kindOf binds m x=m x
 | [],_,_=>rfl
 | (n,v)::r,m,h=>by
  unfold bindL
  rw [rM λw hw=>h w (Vz _ hw)]
  split
  ·have:x≠n:=by rintro rfl; exact h v VU
   simp [this]
  ·rfl
theorem rK{kindOf:Str->Option NameKind}{x:Str}:∀{binds:List (Str×Value)} {m:Str->Option Value},(∀v,(x,v)∉binds)->bindC kindOf binds m x=m x
 | [],_,_=>rfl
 | (n,v)::r,m,h=>by
  unfold bindC
  rw [rK λw hw=>h w (Vz _ hw)]
  split
  ·rfl
  ·have:x≠n:=by rintro rfl; exact h v VU
   simp [this]
theorem rJ{kindOf:Str->Option NameKind}{x:Str}{v:Value}:∀{P:List Str} {vs:List Value} {i:Nat} {m:Str->Option Value},P.Nodup->P[i]? = some x->vs[i]? = some v->kindOf x=some .local->
  bindL kindOf (P.zip vs) m x=some v
 | [],_,_,_,_,h,_,_=>by simp at h
 | _::_,[],_,_,_,_,h,_=>by simp at h
 | p::P,w::vs,0,m,nd,h1,h2,hk=>by
  simp at h1 h2; subst h1; subst h2
  show bindL kindOf ((p,w)::P.zip vs) m p=_
  unfold bindL
  rw [rM λv hv=>(List.nodup_cons.mp nd).1 (List.of_mem_zip hv).1,V0 hk]
  simp
 | p::P,w::vs,i+1,m,nd,h1,h2,hk=>by
  show bindL kindOf ((p,w)::P.zip vs) m x=_
  unfold bindL
  exact rJ (i:=i) (List.nodup_cons.mp nd).2 (by simpa using h1) (by simpa using h2) hk
theorem rE{kindOf:Str->Option NameKind}{x:Str}{v:Value}:∀{P:List Str} {vs:List Value} {i:Nat} {m:Str->Option Value},P.Nodup->P[i]? = some x->vs[i]? = some v->kindOf x≠some .local->
  bindC kindOf (P.zip vs) m x=some v
 | [],_,_,_,_,h,_,_=>by simp at h
 | _::_,[],_,_,_,_,h,_=>by simp at h
 | p::P,w::vs,0,m,nd,h1,h2,hk=>by
  simp at h1 h2; subst h1; subst h2
  show bindC kindOf ((p,w)::P.zip vs) m p=_
  unfold bindC
  rw [rK λv hv=>(List.nodup_cons.mp nd).1 (List.of_mem_zip hv).1,VZ hk]
  simp
 | p::P,w::vs,i+1,m,nd,h1,h2,hk=>by
  show bindC kindOf ((p,w)::P.zip vs) m x=_
  unfold bindC
  exact rE (i:=i) (List.nodup_cons.mp nd).2 (by simpa using h1) (by simpa using h2) hk
def start(N:List Str)(vs:List V):St:=vs.map some++List.replicate (N.length-vs.length) none
def qW(CX:rC)(P:Program)(w:World)(K:Wg)(mg:Str->Option Value)(base:Heap)(N:List Str)(qual:Str)(scope:Scope)(f:Addr)(cd:Value)(A:Around)(outer:List Env)(s:Shared)(H:Hp)(E:XK):Cx where
 prog:=P
 w:=w
 K:=K
 mg:=mg
 base:=base
 A:=A.deeper (envOfC qual scope s.heap.objs.size f cd)
 N:=N
 s₀:=s
 H₀:=H
 env:=envOfC qual scope s.heap.objs.size f cd
 outer:=outer
 stack:=envOfC qual scope s.heap.objs.size f cd::outer
 ex:=[]
 calm:=true
 fn:=λ_=>true
 pn:=[]
 xe:=λe s'=>wpAny (model P w) (A.deeper (envOfC qual scope s.heap.objs.size f cd)) (leaving (envOfC qual scope s.heap.objs.size f cd) e) (λ_ s''=>CX outer H s E e s'') (λe' s''=>CX outer H s E e' s'') s'
theorem wH{sc:Scope}{n:Nat}{x:Str}(h:sc.names.lookup x=some .cell):∃c,(cellsFrom n sc.names []).lookup x=some c:=by
 have q:=PySem.W.cellsFrom_some sc.names n [] (.inl h)
 exact Option.isSome_iff_exists.mp q
theorem zZ{CX:rC}{P:Program}{w:World}{K:Wg}{mg:Str->Option Value}{base:Heap}{N ps:List Str}{qual:Str}{scope:Scope}{f:Addr}{cd:Value}{A:Around}{outer:List Env}{s s1:Shared}{H:Hp}{E:XK}{us:List Value}{vs:List V}
  (S:ay N ps scope) (hd:A.handled=none) (e0:yw P w K mg base A outer s H) (hl:vs.length=ps.length) (r:Vals vs us)
  (x:InCallC s s.heap.objs.size (bindL (envOfC qual scope s.heap.objs.size f cd).kindOf (ps.zip us) λ_=>none) (cellsFrom (s.heap.objs.size+1) scope.names []) (bindC (envOfC qual scope s.heap.objs.size f cd).kindOf (ps.zip us) λ_=>none) s1) :
  Inv (qW CX P w K mg base N qual scope f cd A outer s H E) [] (start N vs) H s1:=by
 have hpl:ps.length<=N.length:=by have:=congrArg List.length S.pre; rw [VP]at this; omega
 obtain⟨h1,tk,rfl,hk⟩:=x.done
 have LR:∀b:Addr,b∉(qW CX P w K mg base N qual scope f cd A outer s H E).ex:=λb z=>VY (show b∈([]:List Addr) from z) (by simp)
 refine⟨⟨e0.mod,S.kind,rfl,rfl,Vn _,λy z c h1 h2=>?_,λy hy=>?_,λy c _ h=>?_,λ_=>hd,Around.frames_deeper e0.frames,.inr ⟨rfl,rfl⟩,λb z=>VY z (LR b),e0.bs,e0.BG,λb _ _=>LR b,λb z=>VY z (LR b),e0.ky,e0.E8⟩,
  rfl,e0.bare,Un.kept hk,⟨_,x.toInCall.ns,λi y v h1 h2 h3=>?_⟩,λy c h=>⟨_,x.cell y c h⟩,e0.hok.fresh (Vn _),λy c h=>?_,λp hp=>VY (show p∈([]:List (Addr×Obj)) from hp) (by simp),e0.hok.kept hk,?_⟩
 ·exact name_of_addr x.apart (PySem.mem_of_lookup h1) (PySem.mem_of_lookup h2)
 ·have hy:scope.names.lookup y=some .cell\/scope.names.lookup y=some .free:=hy
  rcases hy with hy | hy
  ·exact wH hy
  ·exact VY rfl (S.Ku _ (PySem.mem_of_lookup hy))
 ·exact Nat.le_of_lt (x.above y c (PySem.mem_of_lookup h))
 ·have hi:i<vs.length:=by
   unfold start at h2
   by_cases hi:i<vs.length
   ·exact hi
   ·rw [VM (by simpa using hi)]at h2
    rw [List.getElem?_replicate]at h2
    split at h2 <;> cases h2
  have ha:vs[i]? = some v:=by
   unfold start at h2
   rw [VN (by simpa using hi),VO]at h2
   cases e:vs[i]? with
   | none=>rw [e]at h2; cases h2
   | some a=>rw [e]at h2; cases h2; rfl
  obtain⟨u,hu,rv⟩:=r.get ha
  have hp:ps[i]? = some y:=by
   rw [←S.pre,List.getElem?_take_of_lt (by omega)]; exact h1
  have QA:ps.Nodup:=by rw [←S.pre]; exact S.nd.sublist (List.take_sublist _ _)
  refine⟨u,rv,?_⟩
  rcases S.par y (Vy hp)with k | k
  ·exact .inl ⟨k,rJ QA hp hu k⟩
  ·obtain⟨c,e⟩:=wH (n:=s.heap.objs.size+1) k
   refine .inr ⟨.inl k,c,e,?_⟩
   have q:=x.cell y c e
   rw [rE QA hp hu (by show scope.names.lookup y≠_; rw [k]; decide)]at q
   exact q
 ·exact e0.hok.fresh (Nat.le_of_lt (x.above y c (PySem.mem_of_lookup h)))
 ·unfold start
  show _=N.length
  rw [Vs,Vr,List.length_replicate]
  omega
theorem IF{CX:rC}{P:Program}{w:World}{K:Wg}{mg:Str->Option Value}{base:Heap}{k:Nat}{f:Addr}{name qual:Str}{params:Arguments}{body:List Stmt}{scope:Scope}{dV kV doc pm cdv ct oc:Value}{an od:Option Addr}
  {osl:Array (Option Value)} {N ps:List Str} {sp:Sp} (lk:K.lookup f=some ⟨oc,od,.func (PySem.W.fnOf name qual params body scope dV kV doc pm an cdv ct),osl⟩) (hcd:PySem.W.codeIn K cdv qual=true) (S:ay N ps scope)
  (len:∀vs H Q E,sp vs H Q E->vs.length=ps.length)
  (hbody:∀(A:Around) (outer:List Env) (s:Shared) (H:Hp) (vs:List V) (Q:VK) (E:XK),eV k (A.deeper (envOfC qual scope s.heap.objs.size f cdv))->sp vs H Q E->
   ∃t,qj (qW CX P w K mg base N qual scope f cdv A outer s H E) body t/\t {nx:=λ_ H'=>Q .non H',rt:=Q} (start N vs) H) :
  e_ P w K mg base CX (k+1) f (PySem.W.fnOf name qual params body scope dV kV doc pm an cdv ct) ps sp:=by
 refine⟨len,λA outer s H args us vs Q E hr e0 hb r hsp=>?_⟩
 have hl:=len _ _ _ _ hsp
 have KX:K.In s.heap:=e0.mod.Lq.keeps λb o e=>(e0.bs b o e).1
 have lim:s.heap.NoLimit:=e0.mod.nolimit.keeps λb o e=>(e0.bs b o e).1
 have hkind:∀y∈ps.zip us,scope.names.lookup y.1=some .local\/(scope.names.lookup y.1=some .cell/\((cellsFrom (s.heap.objs.size+1) scope.names []).lookup y.1).isSome=true):=λ⟨n,v⟩ hy=>by
  rcases S.par n (List.of_mem_zip hy).1 with q | q
  ·exact .inl q
  ·exact .inr ⟨q,PySem.W.cellsFrom_some _ _ _ (.inl q)⟩
 refine codeAny_call_function hr.depth (KX _ _ lk) rfl S.co S.gen rfl (PySem.W.codeRec_of KX hcd) (hb _ _ _ _ ?_)
 refine wpAny_newFunctionEnv_cells S.kind hkind λenv he s1 x=>?_
 subst he
 refine⟨lim.keeps x.toInCall.keep,codeAny_func ?_⟩
 obtain⟨t,ht,hq⟩:=hbody A outer s H vs Q E (hr.deeper _) hsp
 have I:Inv (qW CX P w K mg base N qual scope f cdv A outer s H E) [] (start N vs) H s1:=zZ S hr.hd e0 hl r x
 refine VR (ht [] s1 (start N vs) H _ I hq) (λfl s' hs=>?_) λe s' hs=>hs
 have fin:∀{σ':St} {H':Hp} {v:V} {u:Value},Inv (qW CX P w K mg base N qual scope f cdv A outer s H E) [] σ' H' s'->RelV v u->Q v H'->CE outer P w H s Q u s' :=
  λ{σ' H' v u} J rv q=>⟨v,H',J.os,J.bare,J.base,J.hok,rv,q⟩
 cases fl with
 | ret u =>
  obtain⟨v,σ',H',J,rv,q⟩:=hs
  exact fin J rv q
 | next =>
  obtain⟨σ',H',J,q⟩:=hs
  exact fin (v:=V.non) (u:=Value.none) J rfl q
 | brk =>
  obtain⟨_,_,_,q⟩:=hs
  exact V4 q
 | cont =>
  obtain⟨_,_,_,q⟩:=hs
  exact V4 q
section
variable{X:Cx}{x:Str}{p pos:Pos}{e:Expr}{es:List Expr}{t:TA}{id T:String}{r:List V->Hp->VK->Prop}
def Lh(r:List V->Hp->VK->Prop)(t:TA):TE:=λσ H Q=>t σ H λvs H1=>r vs H1 Q
theorem bg(hc:gu X (.builtin id) r)(hg:Gl X x)(hm:X.mg x=none)(hv:bootBuiltins x=some (.builtin id))(ha:PA X (e::es) t)(hn:x≠"__name__":=by decide)(hdb:(x==("__debug__" : Str))=false:=by decide)
  (he:starEach (e::es) X.env=(false,eval e X.env)::starEach es X.env:=by rfl) (hpl:(backTo pos (starEach es X.env)).any (·.1)=false:=by rfl):PE X (.Call (.Name x p) (e::es) [] pos) (Lh r t):=by
 intro pins s σ H Q I h
 refine wpAny_Call_Name_kw (iO I hg hm hv ?_ hn hdb)
 exact PyProof.Rows.callWith_builtin1 (cn (ha pos pins s σ H _ I h) λus s1 ⟨vs,H1,I1,r1,q1⟩=>hc pins s1 σ H1 vs us Q I1 r1 q1) he hpl
theorem aW(hc:gu X (.type T) r)(hg:Gl X x)(hm:X.mg x=none)(hv:bootBuiltins x=some (.type T))(ha:PA X (e::es) t)(hn:x≠"__name__":=by decide)(hdb:(x==("__debug__" : Str))=false:=by decide)
  (he:starEach (e::es) X.env=(false,eval e X.env)::starEach es X.env:=by rfl) (hpl:(backTo pos (starEach es X.env)).any (·.1)=false:=by rfl):PE X (.Call (.Name x p) (e::es) [] pos) (Lh r t):=by
 intro pins s σ H Q I h
 refine wpAny_Call_Name_kw (iO I hg hm hv ?_ hn hdb)
 exact PyProof.Rows.callWith_type1 (cn (ha pos pins s σ H _ I h) λus s1 ⟨vs,H1,I1,r1,q1⟩=>hc pins s1 σ H1 vs us Q I1 r1 q1) he hpl
end
end L2
namespace HT
open PySem PyProof.Rows
section
variable{prog:Program}{w:World}{A:Around}{E:Value->Shared->Prop}{s:Shared}
theorem F6{t b:Addr}{vs ws:List Value}{Q:Value->Shared->Prop}(ht:IsTup s.heap t vs.toArray)(hb:IsTup s.heap b ws.toArray)(hv:vs≠[])
  (h1:ws=[]->Q (.ref t) s) (h2:ws≠[]->Q (.ref s.heap.objs.size) {s with heap:=s.heap.push {cls:=.type "tuple",data:=.seq (vs++ws).toArray}})
  (hsz:vs.length+ws.length<=sizeLine):wpAny (model prog w) A (binaryOp .Add (.ref t) (.ref b)) Q E s:=by
 obtain⟨⟨cls,dd,data,sl⟩,ho,hc,n,hd⟩:=id ht
 obtain⟨⟨cls2,dd2,data2,sl2⟩,ho2,hc2,n2,hd2⟩:=id hb
 simp only at hc hd hc2 hd2
 subst hc hd hc2 hd2
 have e:vs.toArray++ws.toArray=(vs++ws).toArray:=by simp
 by_cases hw:ws=[]
 ·exact concat_meets ⟨_,ho,rfl⟩ ⟨_,ho2,rfl⟩ noFill_tuple_add seq_tuple_add PySem.F.slot_tuple_add PySem.F.entry_tuple_add (PySem.F.args_tuple_add_2 _ _)
   (tuple_addW1 t b vs.toArray ws.toArray n n2 dd dd2 sl sl2 (by simpa using hv) (by simp [hw])) ⟨ho,ho2,h1 hw⟩
 ·refine concat_meets ⟨_,ho,rfl⟩ ⟨_,ho2,rfl⟩ noFill_tuple_add seq_tuple_add PySem.F.slot_tuple_add PySem.F.entry_tuple_add (PySem.F.args_tuple_add_2 _ _)
   (tuple_addW2 t b vs.toArray ws.toArray n n2 dd dd2 sl sl2 (by simpa using hv) (by simpa using hw) (by rw [VB,VB]; exact hsz)) ⟨ho,ho2,?_⟩
  rw [e]
  exact h2 hw
def dO(n d:Nat):Option Int->Nat
 | none=>d
 | some v=>if v<0 then(v+(n:Int)).toNat else min v.toNat n
theorem lQ(n d:Nat):dO n d none=d:=rfl
theorem zU(n d k:Nat):dO n d (some (k:Int))=min k n:=by
 show(if(k:Int)<0 then((k:Int)+(n:Int)).toNat else min (k:Int).toNat n)=min k n
 rw [VZ (by omega),Int.toNat_natCast]
theorem J8(n d:Nat)(hd:d<=n)(o:Option Int):dO n d o<=n:=by
 cases o with
 | none=>exact hd
 | some v =>
  show(if v<0 then(v+(n:Int)).toNat else min v.toNat n)<=n
  by_cases hv:v<0
  ·rw [V0 hv]; omega
  ·rw [VZ hv]; exact Nat.min_le_right _ _
theorem zb(v:Int)(n d:Nat):(if v<0 then max (v+(n:Int)) 0 else min v (n:Int))=((dO n d (some v):Nat):Int):=by
 show(if v<0 then max (v+(n:Int)) 0 else min v (n:Int))=(((if v<0 then(v+(n:Int)).toNat else min v.toNat n):Nat):Int)
 by_cases hv:v<0
 ·simp only [V0 hv]; omega
 ·simp only [VZ hv]; omega
theorem yP(lo hi:Option Int)(n:Nat):Builtin.Slice.sliceAdjust lo hi 1 (n:Int)=(((dO n 0 lo:Nat):Int),((dO n n hi:Nat):Int)):=by
 have h1:¬((1:Int)<0):=by omega
 unfold Builtin.Slice.sliceAdjust
 simp only [h1,if_false]
 refine Prod.ext ?_ ?_
 ·cases lo with
  | none=>rfl
  | some v=>exact zb v n 0
 ·cases hi with
  | none=>rfl
  | some v=>exact zb v n n
theorem yD(i j:Nat):Builtin.Slice.slicePlaces (i:Int) (j:Int) 1=j-i:=by
 unfold Builtin.Slice.slicePlaces
 have h1:(1:Int) > 0:=by omega
 simp only [h1,if_true,Int.ediv_one]
 split <;> omega
theorem p7{v:Value}{o:Option Int}{Q:Option Int->Shared->Prop}(p:IsPart v o)(h:Q o s):wpAny (model prog w) A (Builtin.Slice.slicePartIndex v) Q E s:=by
 cases p with
 | none=>exact slicePart_none h
 | int i t=>exact slicePart_int h
theorem ip{sl:Addr}{vl vu:Value}{lo hi:Option Int}{n:Nat}{Q:Int×Int×Nat->Shared->Prop}(hs:s.heap.IsSliceOf sl vl vu .none)(pl:IsPart vl lo)(pu:IsPart vu hi)
  (h:Q (((dO n 0 lo:Nat):Int),1,dO n n hi-dO n 0 lo) s):wpAny (model prog w) A (Builtin.Slice.sliceApplied (.ref sl) (pure (n:Int))) Q E s:=by
 obtain⟨os,hos,hcs,hds⟩:=id hs
 unfold Builtin.Slice.sliceApplied Builtin.Slice.sliceFields
 refine Vi (Vi (wpAny_field hos hds (x:=vl) rfl (Vi (wpAny_field hos hds (x:=vu) rfl (Vi (wpAny_field hos hds (x:=.none) rfl (Vj ?_)))))))
 refine Vi (slicePart_none ?_)
 show wpAny _ _ (if((1:Int)==0)=true then _ else _) _ _ s
 rw [VZ (by decide)]
 refine Vi (p7 pl (Vi (p7 pu (Vi (Vj ?_)))))
 show wpAny _ _ (match Builtin.Slice.sliceAdjust lo hi 1 (n:Int)with | (lo,hi)=>pure (lo,(1:Int),Builtin.Slice.slicePlaces lo hi 1)) _ _ s
 rw [yP lo hi n]
 show wpAny _ _ (pure (((dO n 0 lo:Nat):Int),(1:Int),Builtin.Slice.slicePlaces ((dO n 0 lo:Nat):Int) ((dO n n hi:Nat):Int) 1)) _ _ s
 rw [yD]
 exact Vj h
theorem CC(xs:Array Value)(i k:Nat):((List.range k).filterMap λ(m:Nat)=>xs[((i:Int)+(m:Int)*1).toNat]?).toArray=((xs.toList.drop i).take k).toArray:=by
 have e:(λ(m:Nat)=>xs[((i:Int)+(m:Int)*1).toNat]?) = λm=>xs[i+m]?:=by
  funext m
  have:((i:Int)+(m:Int)*1).toNat=i+m:=by omega
  rw [this]
 rw [e]
 have:=pick_run xs i k
 rw [List.filterMap_map]at this
 have e2:((λx=>xs[x]?)∘ λx=>i+x) = λm=>xs[i+m]?:=rfl
 rw [e2]at this
 rw [this]
theorem lL{t sl:Addr}{items:Array Value}{vl vu:Value}{lo hi:Option Int}{Q:Value->Shared->Prop}(ht:IsTup s.heap t items)(hs:s.heap.IsSliceOf sl vl vu .none)(pl:IsPart vl lo)(pu:IsPart vu hi)
  (hw:¬(dO items.size 0 lo=0/\dO items.size items.size hi=items.size))
  (h:Q (.ref s.heap.objs.size) {s with heap:=s.heap.push {cls:=.type "tuple",data:=.seq ((items.toList.drop (dO items.size 0 lo)).take (dO items.size items.size hi-dO items.size 0 lo)).toArray}})
  (hsz:items.size<=sizeLine):wpAny (model prog w) A (getItem (.ref t) (.ref sl)) Q E s:=by
 have yX:sizeOk (.seq ((items.toList.drop (dO items.size 0 lo)).take (dO items.size items.size hi-dO items.size 0 lo)).toArray):=by
  show((items.toList.drop (dO items.size 0 lo)).take (dO items.size items.size hi-dO items.size 0 lo)).toArray.size<=sizeLine
  rw [VB,VP,List.length_drop,Wc]
  omega
 have hj:dO items.size items.size hi<=items.size:=J8 _ _ (Vn _) hi
 obtain⟨os,hos,hcs,hds⟩:=id hs
 have hTs:s.TypeIs (.ref sl) "slice":=⟨os,hos,hcs⟩
 unfold getItem
 try with_reducible refine VS ?_
 first | refine Vi (Vj ?_) | skip
 refine Vi (wpAny_sequenceKey ht.typeIs (by decide) ?_)
 refine Vi (wpAny_callSpecial?_slot (name:=Str.ofString "__getitem__") ht.typeIs PyProof.Rows.slot_tuple_getitem
  (V9 PyProof.Rows.slot_tuple_getitem ht.typeIs entry_tuple_getitem ?_ (args_tuple_getitem _ _)))
 show wpAny _ _ (Builtin.Tuple.tupleItemsOf (.ref t) >>= _) _ _ s
 refine Vi (tupleItemsOf_ ht ?_)
 refine Vi (wpAny_typeOf hTs ?_)
 rw [V0 (by decide)]
 refine Vi (ip hs pl pu ?_)
 have hno:¬((((dO items.size 0 lo:Nat):Int)==0&&(1:Int)==1&&(dO items.size items.size hi-dO items.size 0 lo)==items.size)=true):=by
  intro q
  rw [VW,VW]at q
  have q1:((dO items.size 0 lo:Nat):Int)=0:=eq_of_beq q.1.1
  have q2:dO items.size items.size hi-dO items.size 0 lo=items.size:=eq_of_beq q.2
  exact hw ⟨by omega,by omega⟩
 show wpAny _ _ (if(((dO items.size 0 lo:Nat):Int)==0&&(1:Int)==1&&(dO items.size items.size hi-dO items.size 0 lo)==items.size)=true then _ else _) _ _ s
 rw [VZ hno,CC]
 first
  | exact Vi (m:=Builtin.Tuple.tupleExact _) (VT (Vj ⟨_,rfl,Vj h⟩) yX)
  | exact Vi (m:=Builtin.Tuple.tupleExact _) (VT (Vi (Vj (Vj ⟨_,rfl,Vj h⟩))) yX)
  | exact Vi (Vi (m:=Builtin.Tuple.tupleExact _) (VT (Vj (Vj ⟨_,rfl,Vj h⟩)) yX))
  | exact Vi (Vi (m:=Builtin.Tuple.tupleExact _) (VT (Vj ⟨_,rfl,Vj h⟩) yX))
end
end HT
namespace L2
open PySem PySem.Spec PyProof.Rows
abbrev TO:=St->Hp->(Option Int->Hp->Prop)->Prop
def PO(X:Cx)(e:Option Expr)(t:TO):Prop :=
 ∀(pins:List (Addr×Obj)) (s:Shared) (σ:St) (H:Hp) (Q:Option Int->Hp->Prop),Inv X pins σ H s->t σ H Q->
  wpAny (model X.prog X.w) X.A (evalPart e X.env) (λu s'=>∃o H',Inv X pins σ H' s'/\IsPart u o/\Q o H') X.xe s
def GV:TO:=λ_ H Q=>Q none H
def LV(t:TE):TO:=λσ H Q=>t σ H λx H1=>∃i,x=.int i/\Q (some i) H1
section
variable{X:Cx}{e:Expr}{te:TE}{lo hi:Option Expr}{tl th:TO}{pos p2:Pos}
theorem cC:PO X none GV:=by
 intro pins s σ H Q I h
 rw [evalPart_none]
 exact Vj ⟨none,H,I,.none,h⟩
theorem bS(h:PE X e te):PO X (some e) (LV te):=by
 intro pins s σ H Q I hw
 rw [evalPart_some]
 refine cn (h pins s σ H _ I hw) λu s1 ⟨x,H1,I1,r1,q1⟩=>?_
 obtain⟨i,rfl,q⟩:=q1
 obtain⟨t,rfl⟩:=r1
 exact⟨some i,H1,I1,.int i t,q⟩
def E7(X:Cx)(r:V->Option Int->Option Int->Hp->VK->Prop):Prop :=
 ∀(pins:List (Addr×Obj)) (s:Shared) (σ:St) (H:Hp) (x:V) (v vl vu:Value) (lo hi:Option Int) (sl:Addr) (Q:VK),Inv X pins σ H s->RelV x v->s.heap.IsSliceOf sl vl vu .none->IsPart vl lo->IsPart vu hi->r x lo hi H Q->
  ∃T id,typeLookup (.type T) "__getitem__"=pure (some (.builtin id))/\s.TypeIs v T/\wpAny (model X.prog X.w) X.A (getItem v (.ref sl)) (EP X pins σ Q) X.xe s
theorem E7.or{r r':V->Option Int->Option Int->Hp->VK->Prop}(h:E7 X r)(h':E7 X r'):E7 X (λx lo hi H Q=>r x lo hi H Q\/r' x lo hi H Q):=by
 intro pins s σ H x v vl vu lo hi sl Q I rx hs pl pu q
 rcases q with q | q
 ·exact h pins s σ H x v vl vu lo hi sl Q I rx hs pl pu q
 ·exact h' pins s σ H x v vl vu lo hi sl Q I rx hs pl pu q
def RF(r:V->Option Int->Option Int->Hp->VK->Prop)(te:TE)(tl th:TO):TE:=λσ H Q=>te σ H λx H1=>tl σ H1 λl H2=>th σ H2 λu H3=>r x l u H3 Q
theorem bN{r:V->Option Int->Option Int->Hp->VK->Prop}(hr:E7 X r)(he:PE X e te)(hl:PO X lo tl)(hu:PO X hi th):PE X (.Subscript e (.Slice lo hi none p2) pos) (RF r te tl th):=by
 intro pins s σ H Q I h
 refine Subscript_ (cn (he pins s σ H _ I h) λv s1 ⟨x,H1,I1,r1,q1⟩=>?_)
 refine wpAny_Slice (cn (hl pins s1 σ H1 _ I1 q1) λvl s2 ⟨l,H2,I2,pl,q2⟩=>cn (hu pins s2 σ H2 _ I2 q2) λvu s3 ⟨u,H3,I3,pu,q3⟩=>?_)
 rw [evalPart_none]
 refine Vj ?_
 have I4:Inv X pins σ H3 {s3 with heap:=s3.heap.push {cls:=.type "slice",data:=.fields #[vl,vu,.none]}}:=I3.kept (t':=s3.toks) λb ob q=>Vk _ q
 obtain⟨T,id,hT,ht,hg⟩:=hr pins {s3 with heap:=s3.heap.push {cls:=.type "slice",data:=.fields #[vl,vu,.none]}} σ H3 x v vl vu l u s3.heap.objs.size Q I4 r1 (Heap.IsSliceOf.new ..) pl pu q3
 show wpAny (model X.prog X.w) X.A (subscriptTail e (.Slice lo hi none p2) v (.ref s3.heap.objs.size)) (EP X pins σ Q) X.xe {s3 with heap:=s3.heap.push {cls:=.type "slice",data:=.fields #[vl,vu,.none]}}
 exact tail_any (ops:=[.ref s3.heap.objs.size,v]) ht hT hg (by with_unfolding_all rfl)
def fz(xs:List V)(lo hi:Option Int):List V:=(xs.drop (HT.dO xs.length 0 lo)).take (HT.dO xs.length xs.length hi-HT.dO xs.length 0 lo)
theorem m9(xs:List V)(lo hi:Option Int):(fz xs lo hi).length<=xs.length:=by
 unfold fz
 rw [VP,List.length_drop]
 omega
def MP(K:Wg):V->Option Int->Option Int->Hp->VK->Prop:=λx lo hi H Q=>∃a xs,x=.ref a/\aH K H a xs/\
 ¬(HT.dO xs.length 0 lo=0/\HT.dO xs.length xs.length hi=xs.length)/\∀p,H p=none->Q (.ref p) (upd H p (.tup (fz xs lo hi)))
theorem Ce:E7 X (MP X.K):=by
 intro pins s σ H x v vl vu lo hi sl Q I rx hs pl pu h
 obtain⟨a,xs,rfl,hx,hw,q⟩:=h
 cases rx
 obtain⟨its,r,ht,hz⟩:=I.tuple hx
 have hlen:its.toArray.size=xs.length:=by rw [VB]; exact r.length.symm
 refine⟨"tuple",_,PyProof.Rows.slot_tuple_getitem.lookup,ht.typeIs,?_⟩
 refine HT.lL ht hs pl pu (by rw [hlen]; exact hw) ?_ (by rw [hlen]; exact hz)
 rw [hlen]
 refine⟨.ref s.heap.objs.size,_,I.laid (t':=s.toks) (o:=.tup (fz xs lo hi)) (λb ob q=>Vk _ q) (Vn _) ?_,rfl,q _ (I.hok.fresh (Vn _))⟩
 exact⟨Vo (m9 xs lo hi) hz,_,(r.drop (HT.dO xs.length 0 lo)).take (HT.dO xs.length xs.length hi-HT.dO xs.length 0 lo),ic.new _ _⟩
def IC(K:Wg):R2:=λx y H Q=>∃a b xs ys,x=.ref a/\y=.ref b/\aH K H a xs/\aH K H b ys/\xs≠[]/\xs.length+ys.length<=sizeLine/\
 (ys=[]->Q (.ref a) H)/\(ys≠[]->∀p,H p=none->Q (.ref p) (upd H p (.tup (xs++ys))))
theorem Vals.uN{xs:List V}{us:List Value}(r:Vals xs us):us=[]↔xs=[]:=by
 cases r with
 | nil=>simp
 | cons _ _=>simp
theorem sM:je X (binaryOp .Add) (IC X.K):=by
 intro pins s σ H x y v u Q I rx ry h
 obtain⟨a,b,xs,ys,rfl,rfl,ha,hb,hx,hz,q1,q2⟩:=h
 cases rx
 cases ry
 obtain⟨its,r1,p1,_⟩:=I.tuple ha
 obtain⟨its2,r2,p2,_⟩:=I.tuple hb
 refine HT.F6 p1 p2 (λz=>hx (r1.uN.mp z)) (λz=>⟨.ref a,H,I,rfl,q1 (r2.uN.mp z)⟩) (λz=>?_) (by rw [←r1.length,←r2.length]; exact hz)
 refine⟨.ref s.heap.objs.size,_,I.laid (t':=s.toks) (o:=.tup (xs++ys)) (λb ob q=>Vk _ q) (Vn _) ?_,rfl,q2 (λw=>z (r2.uN.mpr w)) _ (I.hok.fresh (Vn _))⟩
 exact⟨by rw [Vs]; exact hz,_,r1.append r2,ic.new _ _⟩
end
def wY(n:Nat)(i:Int):Option Nat:=if 0<=i then(if i<n then some i.toNat else none)else if -(n:Int)<=i then some (i+n).toNat else none
def jj{α:Type}(xs:List α)(i:Int):Option α:=(wY xs.length i).bind λj=>xs[j]?
theorem zN{n:Nat}{i:Int}{j:Nat}(h:wY n i=some j):seqIndex? i n=some j/\j<n/\-(n:Int)<=i/\i<n:=by
 unfold wY at h
 by_cases h0:0<=i
 ·rw [V0 h0]at h
  by_cases h1:i<n
  ·rw [V0 h1]at h
   have e:i.toNat=j:=VL h
   exact⟨by rw [seqIndex_of h0 h1,e],by omega,by omega,h1⟩
  ·rw [VZ h1]at h; cases h
 ·rw [VZ h0]at h
  by_cases h1:-(n:Int)<=i
  ·rw [V0 h1]at h
   have e:(i+n).toNat=j:=VL h
   exact⟨by rw [seqIndex_neg (by omega) h1,e],by omega,h1,by omega⟩
  ·rw [VZ h1]at h; cases h
theorem um{α:Type}{xs:List α}{i:Int}{v:α}(h:jj xs i=some v):∃j,seqIndex? i xs.length=some j/\xs[j]? = some v/\j<xs.length/\-(xs.length:Int)<=i/\i<xs.length:=by
 unfold jj at h
 cases e:wY xs.length i with
 | none=>rw [e]at h; cases h
 | some j =>
  rw [e]at h
  obtain⟨h1,h2,h3,h4⟩:=zN e
  exact⟨j,h1,h,h2,h3,h4⟩
theorem au{α:Type}{xs:List α}{j:Nat}{v:α}(h:xs[j]? = some v):jj xs (j:Int)=some v:=by
 have hj:j<xs.length:=(VC.mp h).1
 have e:wY xs.length (j:Int)=some j:=by
  unfold wY
  rw [V0 (by omega),V0 (by omega)]; simp
 unfold jj; rw [e]; exact h
theorem oE{α:Type}(xs:List α)(v:α):jj (xs++[v]) (-1)=some v:=by
 have hl:(xs++[v]).length=xs.length+1:=by simp
 have e:wY (xs++[v]).length (-1)=some xs.length:=by
  unfold wY
  rw [hl,VZ (by decide),V0 (by omega)]
  congr 1
  omega
 unfold jj
 rw [e]
 show(xs++[v])[xs.length]? = some v
 simp
def oj(b:Expr):Prop:=∀o i,subscripted b false o i=operate [o,i] (getItem o i)
def MG(X:Cx)(r:R2):Prop :=
 ∀(value slice:Expr) (pins:List (Addr×Obj)) (s:Shared) (σ:St) (H:Hp) (x y:V) (v u:Value) (Q:VK),Inv X pins σ H s->RelV x v->RelV y u->r x y H Q->
  subscripted slice false v u=operate [v,u] (getItem v u)->wpAny (model X.prog X.w) X.A (subscriptTail value slice v u) (EP X pins σ Q) X.xe s
def QD(X:Cx)(id:String)(r:V->List V->Hp->VK->Prop):Prop :=
 ∀(pins:List (Addr×Obj)) (s:Shared) (σ:St) (H:Hp) (x:V) (xs:List V) (v:Value) (us:List Value) (Q:VK),Inv X pins σ H s->RelV x v->Vals xs us->r x xs H Q->
  wpAny (model X.prog X.w) X.A (call (.builtin id) (v::us)) (EP X pins σ Q) X.xe s
section
variable{X:Cx}{a b:Expr}{ta tb:TE}{pos:Pos}
theorem gn{r:R2}(hr:MG X r)(ha:PE X a ta)(hb:PE X b tb)(hs:oj b):PE X (.Subscript a b pos) (h_ r ta tb):=by
 intro pins s σ H Q I h
 exact Subscript_ (Kd ha hb I h λv u s2 x y H2 I2 rx ry q=>hr a b pins s2 σ H2 x y v u Q I2 rx ry q (hs _ _))
def yt(K:Wg):R2:=λx y H Q=>∃p xs i v,x=.ref p/\y=.int i/\a_ K H p xs/\jj xs i=some v/\Q v H
def uy(K:Wg):R2:=λx y H Q=>∃p xs i v,x=.ref p/\y=.int i/\aH K H p xs/\jj xs i=some v/\Q v H
def PJ:R2:=λx y H Q=>∃z i c,x=.str z/\y=.int i/\z.length<=sizeLine/\jj z.cps.toList i=some c/\Q (.str ⟨#[c]⟩) H
theorem fP:MG X (yt X.K):=by
 intro value slice pins s σ H x y v u Q I rx ry h hs
 obtain⟨p,xs,i,z,rfl,rfl,hq,he,q⟩:=h
 cases rx
 obtain⟨t,rfl⟩:=ry
 obtain⟨its,r,pl,hz⟩:=I.list hq
 obtain⟨j,h1,h2,h3,h4,h5⟩:=um he
 obtain⟨w,ew,x9⟩:=r.get h2
 have hl:=r.length
 have hn:=mi
 have fin:EP X pins σ Q w s:=⟨z,H,I,x9,q⟩
 by_cases h0:0<=i
 ·have hj:i.toNat=j:=by
   rw [seqIndex_of h0 h5]at h1
   exact VL h1
  exact item_listR pl.isList h0 (by omega) (by rw [hj]; simpa using ew) fin hs
 ·have hj:(i+(its.toArray.size:Int)).toNat=j:=by
   rw [seqIndex_neg (by omega) h4]at h1
   rw [VB,←hl]
   exact VL h1
  exact subscriptTail_builtinR (x:=w) pl.isList.typeIs slot_list_getitem.lookup
   (wpAny_getItem_list_neg (Q:=λr s'=>r=w/\EP X pins σ Q r s') pl.isList (by omega) (by rw [VB] <;> omega) (by omega) (by rw [hj]; simpa using ew) ⟨rfl,fin⟩) hs
theorem C5:MG X (uy X.K):=by
 intro value slice pins s σ H x y v u Q I rx ry h hs
 obtain⟨p,xs,i,z,rfl,rfl,hq,he,q⟩:=h
 cases rx
 obtain⟨t,rfl⟩:=ry
 obtain⟨its,r,pl,hz⟩:=I.tuple hq
 obtain⟨j,h1,h2,h3,h4,h5⟩:=um he
 obtain⟨w,ew,x9⟩:=r.get h2
 have hl:=r.length
 have hn:=mi
 have fin:EP X pins σ Q w s:=⟨z,H,I,x9,q⟩
 exact subscriptTail_builtinR (x:=w) pl.typeIs slot_tuple_getitem.lookup
  (getItem_tuple (j:=j) (Q:=λr s'=>r=w/\EP X pins σ Q r s') pl (by omega) (by omega) (by rw [VB,←hl]; exact h1) (by simpa using ew) ⟨rfl,fin⟩) hs
theorem K_:MG X PJ:=by
 intro value slice pins s σ H x y v u Q I rx ry h hs
 obtain⟨z,i,c,rfl,rfl,hz,he,q⟩:=h
 obtain⟨t,rfl⟩:=rx
 obtain⟨t',rfl⟩:=ry
 obtain⟨j,h1,h2,h3,h4,h5⟩:=um he
 have hl:z.cps.toList.length=z.length:=by simp [Str.length]
 rw [hl]at h1 h4 h5
 have hn:=mi
 exact tail_any (typeIs_str s z t) slot_str_getitem.lookup (getItem_str (c:=c) (by
  have e1:decide (i < -(2 ^ 63:Int))=false:=Vp (by omega)
  have e2:decide (i≥2 ^ 63)=false:=Vp (by omega)
  rw [e1,e2,Bool.or_false]) (by rw [h1]; simpa using h2) ⟨.str ⟨#[c]⟩,H,I.tok _,⟨_,rfl⟩,q⟩) hs
theorem yB(its:List Value)(n j:Nat)(u:Value):Obj.mapSeq (·.setIfInBounds j u) {cls:=.type "list",data:=.seq its.toArray n} ={cls:=.type "list",data:=.seq (its.set j u).toArray n}:=by
 simp [Obj.mapSeq]
theorem Inv.lst{pins:List (Addr×Obj)}{σ:St}{H:Hp}{s:Shared}{p:Addr}{xs:List V}(I:Inv X pins σ H s)(h:H p=some (.lst xs)) :
  ∃(its:List Value) (n:Nat),Vals xs its/\s.heap.get? p=some {cls:=.type "list",data:=.seq its.toArray n}/\xs.length<=sizeLine:=by
 obtain⟨z,its,n,r,e⟩:=I.hok p _ h
 exact⟨its,n,r,e,z⟩
theorem Inv.Jv{pins:List (Addr×Obj)}{σ:St}{H:Hp}{s:Shared}{p:Addr}{xs ys:List V}{its its':List Value}{n n':Nat}{f:Obj->Obj}(I:Inv X pins σ H s)(h:H p=some (.lst xs))
  (ho:s.heap.get? p=some {cls:=.type "list",data:=.seq its.toArray n}) (hf:f {cls:=.type "list",data:=.seq its.toArray n} ={cls:=.type "list",data:=.seq its'.toArray n'}) (r:Vals ys its') (hz:ys.length<=sizeLine) (t:Nat) :
  Inv X pins σ (upd H p (.lst ys)) {s with heap:=s.heap.update p f,toks:=t}:=by
 have e:(s.heap.update p f).get? p=some {cls:=.type "list",data:=.seq its'.toArray n'}:=by
  rw [Heap.get?_update_self f ho (by rw [hf] <;> rfl),hf]
 refine I.write (x:=p) (e:=p) (by rw [h]; trivial) (.inl rfl) (λb u hb q=>(Heap.get?_update_other _ _ (Ne.symm hb)).trans q) ⟨_,e⟩ ?_
 exact⟨hz,its',n',r,e⟩
def Nb:V->V->V->Hp->(Hp->Prop)->Prop:=λo i v H Q=>∃p xs k j,o=.ref p/\i=.int k/\H p=some (.lst xs)/\wY xs.length k=some j/\Q (upd H p (.lst (xs.set j v)))
theorem set_list:Me X Nb:=by
 intro pins s σ H o i v ov iv u Q I ro ri rv h
 obtain⟨p,xs,k,j,rfl,rfl,hp,hj,q⟩:=h
 cases ro
 obtain⟨t,rfl⟩:=ri
 obtain⟨its,n,r,ho,hz⟩:=I.lst hp
 obtain⟨h1,h2,h3,h4⟩:=zN hj
 have hl:=r.length
 have hn:=mi
 have I':Inv X pins σ (upd H p (.lst (xs.set j v))) {s with heap:=s.heap.update p (Obj.mapSeq (·.setIfInBounds j u))} :=
  I.Jv hp ho (yB its n j u) (r.set rv j) (by rw [List.length_set]; exact hz) s.toks
 by_cases h0:0<=k
 ·have hk:k.toNat=j:=by
   rw [seqIndex_of h0 h4]at h1
   exact VL h1
  exact PySem.W.ki_setAt ho h0 (by omega) (by rw [VB,←hl]; exact h4) (by rw [hk]; exact⟨_,I',q⟩)
 ·have hk:(k+(its.toArray.size:Int)).toNat=j:=by
   rw [seqIndex_neg (by omega) h3]at h1
   rw [VB,←hl]
   exact VL h1
  exact PySem.W.ki_setBack ho (by omega) (by rw [VB,←hl]; exact h3) (by omega) (by rw [hk]; exact⟨_,I',q⟩)
theorem uO(lo hi:Option Int)(n:Nat):(sliceBounds lo hi none n).1=((HT.dO n 0 lo:Nat):Int)/\(sliceBounds lo hi none n).2.1=((HT.dO n n hi:Nat):Int)/\(sliceBounds lo hi none n).2.2=1:=by
 refine⟨?_,?_,rfl⟩
 ·cases lo with
  | none=>simp [sliceBounds,HT.dO]
  | some i =>
   simp only [sliceBounds,HT.dO,Option.getD_none,show(1:Int) > 0 by decide,if_true]
   by_cases h:i<0
   ·simp only [h,if_true] <;> omega
   ·simp only [h,if_false] <;> omega
 ·cases hi with
  | none=>simp [sliceBounds,HT.dO]
  | some i =>
   simp only [sliceBounds,HT.dO,Option.getD_none,show(1:Int) > 0 by decide,if_true]
   by_cases h:i<0
   ·simp only [h,if_true] <;> omega
   ·simp only [h,if_false] <;> omega
theorem qU(its:List Value)(lo hi:Option Int):slicePick its.toArray lo hi none=((its.drop (HT.dO its.length 0 lo)).take (HT.dO its.length its.length hi-HT.dO its.length 0 lo)).toArray:=by
 obtain⟨h1,h2,h3⟩:=uO lo hi its.toArray.size
 unfold slicePick
 rw [h1,h2,h3]
 simp only [sliceRange_one,pick_run,VB] <;> rfl
def Np(K:Wg):V->Option Int->Option Int->Hp->VK->Prop:=λx lo hi H Q=>∃a xs,x=.ref a/\a_ K H a xs/\∀p,H p=none->Q (.ref p) (upd H p (.lst (fz xs lo hi)))
theorem Gy:E7 X (Np X.K):=by
 intro pins s σ H x v vl vu lo hi sl Q I rx hs pl pu h
 obtain⟨a,xs,rfl,hx,q⟩:=h
 cases rx
 obtain⟨its,r,ht,hz⟩:=I.list hx
 have hlen:=r.length
 refine⟨"list",_,slot_list_getitem.lookup,ht.isList.typeIs,?_⟩
 refine wpAny_getItem_list_slice ht.isList hs pl pu .none (by simp) ?_ (by rw [VB] <;> omega)
 rw [qU,←hlen]
 refine⟨.ref s.heap.objs.size,_,I.laid (t':=s.toks) (o:=.lst (fz xs lo hi)) (λb ob q=>Vk _ q) (Vn _) ?_,rfl,q _ (I.hok.fresh (Vn _))⟩
 exact⟨Vo (m9 xs lo hi) hz,_,0,(r.drop (HT.dO xs.length 0 lo)).take (HT.dO xs.length xs.length hi-HT.dO xs.length 0 lo),Vm _ rfl⟩
def fu:V->Bool
 | .non=>true
 | .bl _=>true
 | .int _=>true
 | .str _=>true
 | _=>false
def Fj:V->V->Bool
 | .non,.non=>true
 | .bl a,.bl b=>a==b
 | .bl a,.int b=>(if a then 1 else 0)==b
 | .int a,.bl b=>a==(if b then 1 else 0)
 | .int a,.int b=>a==b
 | .str a,.str b=>a==b
 | _,_=>false
theorem Jk{A:Around}{s:Shared}{y x:V}{u v:Value}(ry:RelV y u)(rx:RelV x v)(fy:fu y=true)(fx:fu x=true):SeqAt.EqAt A s u v (Fj y x):=by
 cases y with
 | non =>
  cases ry
  cases x with
  | non=>cases rx; exact SeqAt.EqAt.same _
  | bl b=>cases rx; exact SeqAt.EqAt.none_bool b
  | int b=>obtain⟨t,rfl⟩:=rx; exact SeqAt.EqAt.none_int b t
  | str b=>obtain⟨t,rfl⟩:=rx; exact SeqAt.EqAt.none_str b t
  | _=>exact VY (show false=true from fx) VA
 | bl a =>
  cases ry
  cases x with
  | non=>cases rx; exact SeqAt.EqAt.bool_none a
  | bl b=>cases rx; exact SeqAt.EqAt.bool_bool a b
  | int b=>obtain⟨t,rfl⟩:=rx; exact SeqAt.EqAt.bool_int a b t
  | str b=>obtain⟨t,rfl⟩:=rx; exact SeqAt.EqAt.bool_str a b t
  | _=>exact VY (show false=true from fx) VA
 | int a =>
  obtain⟨t',rfl⟩:=ry
  cases x with
  | non=>cases rx; exact SeqAt.EqAt.int_none a t'
  | bl b=>cases rx; exact SeqAt.EqAt.int_bool a t' b
  | int b=>obtain⟨t,rfl⟩:=rx; exact SeqAt.EqAt.int_int a t' b t
  | str b=>obtain⟨t,rfl⟩:=rx; exact SeqAt.EqAt.int_str a t' b t
  | _=>exact VY (show false=true from fx) VA
 | str a =>
  obtain⟨t',rfl⟩:=ry
  cases x with
  | non=>cases rx; exact SeqAt.EqAt.str_none a t'
  | bl b=>cases rx; exact SeqAt.EqAt.str_bool a t' b
  | int b=>obtain⟨t,rfl⟩:=rx; exact SeqAt.EqAt.str_int a t' b t
  | str b=>obtain⟨t,rfl⟩:=rx; exact SeqAt.EqAt.str_str a t' b t
  | _=>exact VY (show false=true from fx) VA
 | _=>exact VY (show false=true from fy) VA
def xC(x:V)(u:Value):Bool:=match u with
 | .none=>Fj .non x
 | .bool b=>Fj (.bl b) x
 | .int i _=>Fj (.int i) x
 | .str z _=>Fj (.str z) x
 | _=>false
theorem Eo{x y:V}{u:Value}(r:RelV y u)(f:fu y=true):xC x u=Fj y x:=by
 cases y with
 | non=>cases r; rfl
 | bl b=>cases r; rfl
 | int i=>obtain⟨t,rfl⟩:=r; rfl
 | str z=>obtain⟨t,rfl⟩:=r; rfl
 | _=>exact VY (show false=true from f) VA
theorem lP{x:V}:∀{xs:List V} {us:List Value},Vals xs us->xs.all fu=true->us.any (xC x)=xs.any λy=>Fj y x
 | _,_,.nil,_=>rfl
 | y::xs,u::us,.cons r t,f=>by
  rw [List.all_cons,VW]at f
  rw [Wd,Wd,Eo r f.1,lP t f.2]
theorem jN{A:Around}{s:Shared}{x:V}{v:Value}(rx:RelV x v)(fx:fu x=true):∀{xs:List V} {us:List Value},Vals xs us->xs.all fu=true->∀u∈us,SeqAt.EqAt A s u v (xC x u)
 | _,_,.nil,_=>λu hu=>by cases hu
 | y::xs,u::us,.cons r t,f=>λu' hu=>by
  rw [List.all_cons,VW]at f
  rcases VF.mp hu with rfl | hu
  ·rw [Eo r f.1]; exact Jk r rx f.1 fx
  ·exact jN rx fx t f.2 u' hu
def inV(x:V)(xs:List V):Bool:=xs.any λy=>Fj y x
def Ih(K:Wg)(neg:Bool):R2:=λx y H Q=>∃p xs,y=.ref p/\(a_ K H p xs\/aH K H p xs)/\fu x=true/\xs.all fu=true/\Q (.bl (if neg then !inV x xs else inV x xs)) H
theorem cv:je X (compareOp .In) (Ih X.K false):=by
 intro pins s σ H x y v u Q I rx ry h
 obtain⟨p,xs,rfl,hq,fx,fs,q⟩:=h
 cases ry
 rcases hq with hq | hq
 ·obtain⟨its,r,pl,hz⟩:=I.list hq
  refine SeqAt.in_listAt (xC x) pl.isList (λw hw=>jN rx fx r fs w (by simpa using hw)) ⟨.bl _,H,I,rfl,?_⟩
  rw [show its.toArray.any (xC x)=its.any (xC x) by simp,lP r fs]
  exact q
 ·obtain⟨its,r,pl,hz⟩:=I.tuple hq
  refine SeqAt.in_tupleAt (xC x) pl (λw hw=>jN rx fx r fs w (by simpa using hw)) ⟨.bl _,H,I,rfl,?_⟩
  rw [show its.toArray.any (xC x)=its.any (xC x) by simp,lP r fs]
  exact q
theorem iR:je X (compareOp .NotIn) (Ih X.K true):=by
 intro pins s σ H x y v u Q I rx ry h
 obtain⟨p,xs,rfl,hq,fx,fs,q⟩:=h
 cases ry
 rcases hq with hq | hq
 ·obtain⟨its,r,pl,hz⟩:=I.list hq
  refine SeqAt.notIn_listAt (xC x) pl.isList (λw hw=>jN rx fx r fs w (by simpa using hw)) ⟨.bl _,H,I,rfl,?_⟩
  rw [show its.toArray.any (xC x)=its.any (xC x) by simp,lP r fs]
  exact q
 ·obtain⟨its,r,pl,hz⟩:=I.tuple hq
  refine SeqAt.notIn_tupleAt (xC x) pl (λw hw=>jN rx fx r fs w (by simpa using hw)) ⟨.bl _,H,I,rfl,?_⟩
  rw [show its.toArray.any (xC x)=its.any (xC x) by simp,lP r fs]
  exact q
theorem bA:gu X (.builtin "len") (λxs H Q=>∃p ys,xs=[.ref p]/\(a_ X.K H p ys\/aH X.K H p ys)/\Q (.int ys.length) H):=by
 intro pins s σ H xs us Q I r h
 obtain⟨p,ys,rfl,hq,q⟩:=h
 obtain⟨u,rfl,rx⟩:=vals1 r
 cases rx
 have hn:=mi
 rcases hq with hq | hq
 ·obtain⟨its,r',pl,hz⟩:=I.list hq
  have hlen:=r'.length
  exact Calls.call_len_list pl.isList (by simp only [VB] <;> omega) ⟨.int ys.length,H,I.tok _,⟨s.toks+1,by rw [VB,hlen]⟩,q⟩
 ·obtain⟨its,r',pl,hz⟩:=I.tuple hq
  have hlen:=r'.length
  exact len_tuple pl (by simp only [VB] <;> omega) ⟨.int ys.length,H,I.tok _,⟨s.toks+1,by rw [VB,hlen]⟩,q⟩
theorem lr:gu X (.type "list") (λxs H Q=>∃p ys,xs=[.ref p]/\(a_ X.K H p ys\/aH X.K H p ys)/\∀l,H l=none->Q (.ref l) (upd H l (.lst ys))):=by
 intro pins s σ H xs us Q I r h
 obtain⟨p,ys,rfl,hq,q⟩:=h
 obtain⟨u,rfl,rx⟩:=vals1 r
 cases rx
 have fin:∀(its:List Value),Vals ys its->ys.length<=sizeLine->∀(h':Heap) (c':Nat),(∀b o',s.heap.get? b=some o'->h'.get? b=some o')->
   h'.get? s.heap.objs.size=some {cls:=.type "list",dict:=none,data:=.seq its.toArray c',slots:=#[]}->EP X pins σ Q (.ref s.heap.objs.size) {s with heap:=h'}:=λits r' hz h' c' kp e =>
  ⟨.ref s.heap.objs.size,_,I.laid (t':=s.toks) kp (Vn _) (show cB X.prog X.w _ h' _ (.lst ys) from⟨hz,its,c',r',e⟩),rfl,q _ (I.hok.fresh (Vn _))⟩
 rcases hq with hq | hq
 ·obtain⟨its,r',pl,hz⟩:=I.list hq
  have hlen:=r'.length
  obtain⟨o,ho,hc,n,hd⟩:=pl.isList
  exact call_list_seq p (.inl rfl) ho hc hd (λh' c' kp e=>fin its r' hz h' c' kp e) (by simp only [VB] <;> omega)
 ·obtain⟨its,r',pl,hz⟩:=I.tuple hq
  have hlen:=r'.length
  obtain⟨o,ho,hc,n,hd⟩:=pl
  exact call_list_seq p (.inr rfl) ho hc hd (λh' c' kp e=>fin its r' hz h' c' kp e) (by simp only [VB] <;> omega)
theorem bH:gu X (.type "tuple") (λxs H Q=>∃p ys,xs=[.ref p]/\((a_ X.K H p ys/\∀l,H l=none->Q (.ref l) (upd H l (.tup ys)))\/(aH X.K H p ys/\Q (.ref p) H))):=by
 intro pins s σ H xs us Q I r h
 obtain⟨p,ys,rfl,h⟩:=h
 obtain⟨u,rfl,rx⟩:=vals1 r
 cases rx
 rcases h with⟨hq,q⟩ | ⟨hq,q⟩
 ·obtain⟨its,r',pl,hz⟩:=I.list hq
  have hlen:=r'.length
  refine call_tuple_list pl.isList (λh' kp=>?_) (by simp only [VB] <;> omega)
  have I1:Inv X pins σ H {s with heap:=h'}:=I.kept (t':=s.toks) kp
  have I2:Inv X pins σ (upd H h'.objs.size (.tup ys)) {s with heap:=h'.push {cls:=.type "tuple",data:=.seq its.toArray}} :=
   I1.laid (t':=s.toks) (λb o e=>Vk _ e) (Vn _) (show cB X.prog X.w _ _ _ (.tup ys) from⟨hz,its,r',ic.new _ _⟩)
  exact⟨.ref h'.objs.size,_,I2,rfl,q _ (I1.hok.fresh (Vn _))⟩
 ·obtain⟨its,r',pl,hz⟩:=I.tuple hq
  exact call_tuple_same pl ⟨.ref p,H,I,rfl,q⟩
def QU(K:Wg)(T:String)(x:V)(H:Hp):Prop:=match x with
 | .str _=>T="str"
 | .int _=>T="int"
 | .ref p=>(T="list"/\∃xs,a_ K H p xs)\/(T="tuple"/\∃o,K.lookup p=some o/\o.cls=.type "tuple"/\o.dict=none)\/
   (T="dict"/\((∃kvs,H p=some (.dK kvs))\/∃kvs,H p=some (.dT kvs)))\/(T="set"/\∃S n,H p=some (.set S n))
 | _=>False
theorem Jh{pins:List (Addr×Obj)}{σ:St}{H:Hp}{s:Shared}{T:String}{x:V}{v:Value}(I:Inv X pins σ H s)(r:RelV x v)(ty:QU X.K T x H) :
  s.TypeIs v T/\∀a,v=.ref a->∃ob,s.heap.get? a=some ob/\ob.dict=none:=by
 cases x with
 | str z =>
  obtain⟨t,rfl⟩:=r
  cases(show T="str" from ty)
  exact⟨typeIs_str s z t,λ_ e=>nomatch e⟩
 | int i =>
  obtain⟨t,rfl⟩:=r
  cases(show T="int" from ty)
  exact⟨typeIs_int s i t,λ_ e=>nomatch e⟩
 | ref p =>
  cases r
  rcases ty with⟨rfl,xs,hq⟩ | ⟨rfl,o,hk,hc,hd⟩ | ⟨rfl,hk⟩ | ⟨rfl,S,n,hk⟩
  ·obtain⟨its,_,pl,_⟩:=I.list hq
   refine⟨pl.isList.typeIs,λa e=>?_⟩
   cases e
   obtain⟨o,n,e,c,hd,_⟩:=pl
   exact⟨o,e,hd⟩
  ·refine⟨⟨o,I.jZ p o hk,hc⟩,λa e=>?_⟩
   cases e
   exact⟨o,I.jZ _ o hk,hd⟩
  ·have z:∃o,s.heap.get? p=some o/\o.ExactDict:=by
    rcases hk with⟨kvs,hk⟩ | ⟨kvs,hk⟩
    ·obtain⟨_,_,_,_,o,_,_,e,ex,_⟩:=I.hok p _ hk
     exact⟨o,e,ex⟩
    ·obtain⟨_,_,_,_,o,_,_,e,ex,_⟩:=I.hok p _ hk
     exact⟨o,e,ex⟩
   obtain⟨o,e,ex⟩:=z
   refine⟨⟨o,e,ex.1⟩,λa e2=>?_⟩
   cases e2
   exact⟨o,e,ex.2.1⟩
  ·obtain⟨o,_,_,_,e,ex,_⟩:=I.hok p _ hk
   refine⟨⟨o,e,ex.1⟩,λa e2=>?_⟩
   cases e2
   exact⟨o,e,ex.2.1⟩
 | _=>exact V4 ty
def UM(K:Wg)(T:String)(r:V->List V->Hp->VK->Prop)(to:TE)(t:TA):TE:=λσ H Q=>to σ H λx H1=>QU K T x H1/\t σ H1 λxs H2=>r x xs H2 Q
variable{o e:Expr}{es:List Expr}{to:TE}{t:TA}{name:Str}{apos cpos:Pos}{T id:String}{r:V->List V->Hp->VK->Prop}
theorem lD(pa:PlainAttrs T)(slot:Slot T name id)(hty:typeOf (.builtin id)=pure (.type "method_descriptor"))(hm:QD X id r)(ho:PE X o to)(ha:PA X (e::es) t)
  (hbase:attributeBase o name X.env (eval o X.env)=eval o X.env:=by rfl)
  (hfew:((backTo cpos (starEach (e::es) X.env)).all (λx=>!x.1)&&(backToKw cpos (keywordEach [] X.env)).all (λx=>x.1.isSome)
   && decide ((e::es).length+([]:List Keyword).length+(if([]:List Keyword).isEmpty then 0 else 1)<30))=true:=by rfl)
  (hline:(apos.endLine==cpos.line)=true:=by rfl) (hs:starEach (e::es) X.env=(false,eval e X.env)::starEach es X.env:=by rfl) (hplain:(backTo cpos (starEach es X.env)).any (·.1)=false:=by rfl) :
  PE X (.Call (.Attribute o name apos) (e::es) [] cpos) (UM X.K T r to t):=by
 intro pins s σ H Q I h
 refine wpAny_Call_method_late hbase hfew hline rfl (cn (ho pins s σ H _ I h) λv s1 ⟨x,H1,I1,r1,ty,q1⟩=>?_)
 obtain⟨h1,h2⟩:=Jh I1 r1 ty
 refine⟨T,id,pa,slot,hty,h1,h2,?_⟩
 have hA:=ha cpos pins s1 σ H1 _ I1 q1
 rw [hs]at hA⊢
 refine Calls.callWith_builtin (by show(false||(backTo cpos (starEach es X.env)).any (·.1))=false; rw [hplain] <;> rfl) (Calls.evalArgs_plain ?_)
 exact cn hA λus s2 ⟨vs,H2,I2,r2,q2⟩=>hm pins s2 σ H2 x vs v us Q I2 r1 r2 q2
end
def S4(X:Cx)(id:String)(r:V->List V->Hp->VK->Prop):Prop :=
 ∀(pins:List (Addr×Obj)) (s:Shared) (σ:St) (H:Hp) (x:V) (xs:List V) (v:Value) (us:List Value) (Q:VK),Inv X pins σ H s->RelV x v->Vals xs us->r x xs H Q->
  wpAny (model X.prog X.w) X.A (call (.builtin id) (v::us)) (EP X pins σ Q) X.xe s
theorem Vals.one:∀{x:V} {us:List Value},Vals [x] us->∃u,us=[u]/\RelV x u
 | _,_,.cons r .nil=>⟨_,rfl,r⟩
theorem Vals.rep{xs:List V}{us:List Value}(h:Vals xs us):∀k:Nat,Vals (List.replicate k xs).flatten (List.replicate k us).flatten
 | 0=>.nil
 | k+1=>by
  rw [List.replicate_succ,List.replicate_succ,List.flatten_cons,List.flatten_cons]
  exact Vals.append h (Vals.rep h k)
theorem foldl_rep(its:List Value):∀(k:Nat) (acc:List Value),
  List.foldl (λx1 x2=>x1++x2) acc.toArray (List.replicate k its.toArray)=(acc++(List.replicate k its).flatten).toArray
 | 0,acc=>by simp
 | k+1,acc=>by
  have e:acc.toArray++its.toArray=(acc++its).toArray:=by simp
  have e2:(acc++its)++(List.replicate k its).flatten=acc++(List.replicate (k+1) its).flatten:=by
   rw [List.replicate_succ,List.flatten_cons,List.append_assoc]
  rw [←e2,←foldl_rep its k (acc++its),←e,List.replicate_succ,List.foldl_cons]
section
variable{X:Cx}{pins:List (Addr×Obj)}{σ:St}{H:Hp}{s:Shared}{l b:Addr}{xs ys zs:List V}
theorem Inv.PB{its its':List Value}{n:Nat}{f:Array Value->Array Value}{t':Nat}(I:Inv X pins σ H s)(hH:H l=some (.lst xs))
  (e:s.heap.get? l=some {cls:=.type "list",data:=.seq its.toArray n}) (hf:f its.toArray=its'.toArray) (hv:Vals ys its') (hz:ys.length<=sizeLine) :
  Inv X pins σ (upd H l (.lst ys)) {s with heap:=s.heap.update l (Obj.mapSeq f),toks:=t'}:=by
 have q:=PySem.IsL.update e f
 rw [hf]at q
 refine I.write (x:=l) (e:=l) (by rw [hH]; exact trivial) (.inl rfl) (λb' u hb hu=>(Heap.get?_update_other s.heap (Obj.mapSeq f) (Ne.symm hb)).trans hu) ⟨_,q⟩ ?_
 exact⟨hz,its',_,hv,q⟩
theorem Inv.L6{its:List Value}{t':Nat}(I:Inv X pins σ H s)(hv:Vals ys its)(hz:ys.length<=sizeLine) :
  Inv X pins σ (upd H s.heap.objs.size (.lst ys)) {s with heap:=s.heap.push {cls:=.type "list",data:=.seq its.toArray},toks:=t'} :=
 I.laid (λ_ _ q=>Vk _ q) (Vn _) ⟨hz,its,0,hv,Vm _ rfl⟩
theorem Inv.fresh(I:Inv X pins σ H s):H s.heap.objs.size=none:=I.hok.fresh (Vn _)
theorem Inv.Fb(I:Inv X pins σ H s)(hH:H l=some (.lst xs)):xs.length<=sizeLine/\∃(its:List Value) (n:Nat),Vals xs its/\xs.length=its.length/\s.heap.get? l=some {cls:=.type "list",data:=.seq its.toArray n}:=by
 obtain⟨z,its,n,r,e⟩:=I.hok l _ hH
 exact⟨z,its,n,r,r.length,e⟩
theorem DH{n:Nat}(h:n<=sizeLine):Builtin.List.listTooLong n=false:=by
 unfold Builtin.List.listTooLong
 exact Vp (by omega)
end
section
variable{X:Cx}
def n_:V->List V->Hp->VK->Prop:=λx vs H Q=>∃l xs y,x=.ref l/\vs=[y]/\H l=some (.lst xs)/\xs.length<sizeLine/\Q .non (upd H l (.lst (xs++[y])))
theorem c9:S4 X "list.append" n_:=by
 intro pins s σ H x vs v us Q I rx rv h
 obtain⟨l,xs,y,rfl,rfl,hH,hz,q⟩:=h
 cases rx
 obtain⟨u,rfl,ru⟩:=rv.one
 obtain⟨z,its,n,r,hl,e⟩:=I.Fb hH
 refine call_meets F.slot_list_append ⟨_,e,rfl⟩ F.entry_list_append (F.args_list_append_2 _ _) (PySem.list_append l its.toArray n u (by rw [VB]; omega)) ⟨e,?_⟩
 refine⟨.non,_,I.PB (its':=its++[u]) hH e (by simp) (r.append (.cons ru .nil)) ?_,rfl,q⟩
 rw [Vs,List.length_singleton]
 omega
def OH:R2:=λx y H Q=>∃l b xs zs,x=.ref l/\y=.ref b/\H l=some (.lst xs)/\H b=some (.lst zs)/\xs.length+zs.length<=sizeLine/\∀p,H p=none->Q (.ref p) (upd H p (.lst (xs++zs)))
theorem o_:je X (binaryOp .Add) OH:=by
 intro pins s σ H x y v u Q I rx ry h
 obtain⟨l,b,xs,zs,rfl,rfl,hH,hB,hz,q⟩:=h
 cases rx
 cases ry
 obtain⟨z,its,n,r,hl,e⟩:=I.Fb hH
 obtain⟨z2,its2,n2,r2,hl2,e2⟩:=I.Fb hB
 refine PySem.P.add_list e e2 ?_ (by rw [VB,VB]; omega)
 have ea:its.toArray++its2.toArray=(its++its2).toArray:=by simp
 rw [ea]
 exact⟨.ref _,_,I.L6 (t':=s.toks) (r.append r2) (by rw [Vs]; omega),rfl,q _ I.fresh⟩
def Qh:R2:=λx y H Q=>∃l k xs,x=.ref l/\y=.int k/\H l=some (.lst xs)/\-(2 ^ 63)<=k/\k<2 ^ 63/\xs.length*k.toNat<=sizeLine/\
 ∀p,H p=none->Q (.ref p) (upd H p (.lst (List.replicate k.toNat xs).flatten))
theorem len_rep{α:Type}(xs:List α)(k:Nat):(List.replicate k xs).flatten.length=k*xs.length:=by
 induction k with
 | zero=>simp
 | succ k ih=>rw [List.replicate_succ,List.flatten_cons,Vs,ih,Nat.succ_mul,Nat.add_comm]
theorem xA:je X (binaryOp .Mult) Qh:=by
 intro pins s σ H x y v u Q I rx ry h
 obtain⟨l,k,xs,rfl,rfl,hH,h1,h2,hz,q⟩:=h
 cases rx
 obtain⟨t,rfl⟩:=ry
 obtain⟨z,its,n,r,hl,e⟩:=I.Fb hH
 have hlen:its.toArray.size*k.toNat<=sizeLine:=by rw [VB,←hl]; exact hz
 have Qs:¬its.toArray.size*k.toNat > (2 ^ 63-1) / 8:=by
  have:(sizeLine:Nat)<=(2 ^ 63-1) / 8:=by decide
  omega
 have hfit:¬(!Builtin.List.listFitsIndex k)=true:=by
  rw [fitsIndex_both h1 h2]
  exact VA
 have MF:¬Builtin.List.listTooLong (its.toArray.size*k.toNat)=true:=by
  rw [DH hlen]
  exact VA
 have hnew:List.foldl (λx1 x2=>x1++x2) #[] (List.replicate (if its.toArray.isEmpty=true then 0 else k.toNat) its.toArray)=(List.replicate k.toNat its).flatten.toArray:=by
  have f0:∀m:Nat,List.foldl (λx1 x2=>x1++x2) #[] (List.replicate m its.toArray)=(List.replicate m its).flatten.toArray:=λm=>by
   have:=foldl_rep its m []
   rw [List.nil_append]at this
   exact this
  rw [f0]
  cases its with
  | nil=>simp
  | cons a r'=>rw [VZ (by simp)]
 refine wpAny_binaryOp_repeat_ref (T:="list") (U:="int") (by decide) ⟨_,e,rfl⟩ (λs'=>typeIs_int s' k t) noFill_list_mul F.fills_int_mul F.slot_int_rmul repeat_list F.slot_int_index.lookup
  (call_meets F.slot_int_rmul (typeIs_int s k t) F.entry_int_rmul (F.args_int_rmul_2 _ _) (int___rmul___int_list k t l its.toArray n)
   ⟨e,rfl,⟨_,e,rfl⟩,call_meets F.slot_list_mul ⟨_,e,rfl⟩ F.entry_list_mul (F.args_list_mul_2 _ _) (AutoListH.list___mul___list_int_3 l its.toArray n k t hfit Qs MF) ⟨e,?_⟩⟩)
 rw [hnew]
 exact⟨.ref _,_,I.L6 (t':=s.toks) (r.rep k.toNat) (by rw [len_rep,Nat.mul_comm]; exact hz),rfl,q _ I.fresh⟩
end
end L2
namespace Att
open PySem PySem.W PySem.Calls PyProof.Rows
theorem nv{P:Params}{h:Heap}:∀(ns:List Int) (vs:List Value),WellAll P h vs (ns.map WData.int)->IntsAre vs ns:=by
 intro ns
 induction ns with
 | nil =>
  intro vs w
  rw [List.map_nil]at w
  cases w
  exact .nil
 | cons n ns ih =>
  intro vs w
  rw [Wb]at w
  cases w with
  | cons a b =>
   cases a
   exact .cons _ _ (ih _ b)
theorem Bt{l:OpenLaw}{n:Nat}(hn:l.most=some n){P:Params}{h:Heap}{args:List WData}{vals:List Value}
  (hpre:l.row.toRowW.claim.pre args=true) (hwl:WellAll P h vals args) :
  ∃a vs ns,vals=[Value.ref a]/\args=[WData.list (ns.map WData.int)]/\h.get? a=some {cls:=.type "list",data:=.seq vs.toArray}/\IntsAre vs ns/\ns.length<=n:=by
 have hsh:WShape.hasAll [] args [.list .int]=true:=(pre_splitW hpre).1
 have hc:l.pre.holds [] {args:=args}=true:=(pre_splitW hpre).2
 obtain⟨d,r,rfl,h1,h2⟩:=hasAllW_cons hsh
 obtain rfl:=hasAllW_nil h2
 obtain⟨xs,rfl,h3⟩:=hasW_list h1
 obtain⟨ns,rfl⟩:=items_int h3
 have hlen:ns.length<=n:=by
  unfold OpenLaw.pre at hc
  have h4:(WTm.not (.lt (.lit (.int (n:Int))) (.len (.arg 0)))).holds [] {args:=[.list (ns.map .int)]}=true:=by
   have h4:=(holds_andW hc).1
   rw [hn]at h4
   exact h4
  have h5:=condW_of h4 (w_not (w_lt w_lit (w_len_list (w_arg rfl))))
  rw [Vr]at h5
  refine Nat.le_of_not_lt λq=>?_
  have q':(n:Int)<((ns.length:Nat):Int):=by omega
  first
   | (rw [Vq q']at h5; exact VY h5 (by decide))
   | (simp at h5; omega)
 cases hwl with
 | cons w1 w2 =>
  cases w2
  cases w1 with
  | list ho hall=>exact⟨_,_,ns,rfl,rfl,ho,nv ns _ hall,hlen⟩
theorem A3(l:OpenLaw)(args:List WData):l.row.toRowW.claim.post args (.bool true) args=true :=
 postW_of (r:=l.row.toRowW) (X:=(true==true))
  (show WShape.has [] (.bool true) .bool=true by first | rfl | decide | simp [WShape.has,WShape.arms,WShape.armsAll])
  (show(WTm.eq .res (.lit (.bool true))).value [] {args:=args,res:=some (.bool true),after:=args}=some (.bool (true==true)) from w_eq_bool (w_res rfl) w_lit) rfl
theorem vc{l:OpenLaw}{n:Nat}{q:Program}{loose:List Str}{XP:(Str->Option Value)->Heap->Prop}{YP:World->Heap->Prop}{d:DefRec}
  (hn:l.most=some n) (hdf:d.params.defaults=[])
  (call:∀(w:World) (s₀ s₁:Shared) (mg mb:Str->Option Value) (fa:Addr) (o:Obj) (pm cd doc:Value) (a:Addr) (vs:List Value) (ns:List Int),
   Ground q loose [] XP w s₀ mg mb s₁.heap->YP w s₁.heap->
   s₁.heap.get? fa=some o->o.data=.func (docDef d.name d.params d.body d.scope pm cd doc)->s₁.heap.CodeRec cd d.name->mg d.name=some (.ref fa)->
   s₁.heap.get? a=some {cls:=.type "list",data:=.seq vs.toArray}->IntsAre vs ns->ns.length<=n->s₁.gens = #[]->
   codeAny (model l.prog w) callerA (.call (.ref fa) ⟨[.ref a],[]⟩) (λr s'=>r=.ok (.ret (.bool true))/\OldK s₁.heap s'.heap/\s'.os=s₁.os/\AllBare s'.gens) s₁) :
  WalkO q loose XP YP l.row.toRowW d [] (λf vs=>PySem.call f vs):=by
 intro w s₀ s₁ mg mb G Y fa o pm cd doc dV kV ho hd hcd hD hmg hg args vals as hpre hlay hrd hwl hlo
 obtain rfl:dV=.none:=Dflts.none hD hdf
 obtain rfl:kV=.none:=Dflts.noKw hD
 obtain⟨a,vs,ns,rfl,rfl,hobj,hints,hlen⟩:=Bt hn hpre hwl
 refine enter_call (codeAny_mono (call w s₀ s₁ mg mb fa o pm cd doc a vs ns G Y ho (fd_plain hd) hcd hmg hobj hints hlen hg) λr s' hq=>?_)
 obtain⟨rfl,h2,h3,h4⟩:=hq
 exact⟨.inl ⟨.bool true,.bool true,[],rfl,λ_=>rfl,.bool true,A3 l _,λ_=>⟨List.Pairwise.nil,λ_ hm=>(nomatch hm)⟩⟩,h2,h3,h4⟩
end Att
namespace L2
open PySem PySem.Spec PyProof.Rows
theorem sx:∀{vs:List Value} {ns:List Int},IntsAre vs ns->Vals (ns.map V.int) vs
 | _,_,.nil=>.nil
 | _,_,.cons n t h=>.cons ⟨t,rfl⟩ (sx h)
def Only(H:Hp):Prop:=∀b,H b=none\/∃o xs,H b=some (.xX o (.lst xs))
theorem CO{P:Program}{w:World}{K:Wg}{mg mb:Str->Option Value}{CX:rC}{k:Nat}{fa a:Addr}{fd:FuncData}{x:Str}{sp:Sp}{s₁:Shared}{vs:List Value}{ns:List Int}
  (KX:K.In s₁.heap) (hns:s₁.heap.Ns mainGlobals mg) (hb:s₁.heap.Ns builtinsNs mb) (hbb:∀x:Str,x≠"__name__"->mb x=bootBuiltins x) (hlim:s₁.heap.NoLimit) (hg:s₁.gens = #[])
  (ha:s₁.heap.get? a=some {cls:=.type "list",data:=.seq vs.toArray}) (hi:IntsAre vs ns) (hl:ns.length<=sizeLine) (hr:eV k callerA)
  (F:∀base:Heap,K.In base->base.Ns mainGlobals mg->e_ P w K mg base CX k fa fd [x] sp) (hbind:∀(s:Shared) (u:Value),BindsTo s fd ⟨[u],[]⟩ [(x,u)])
  (hsp:∀H:Hp,Only H->a_ K H a (ns.map V.int)->sp [.ref a] H (λv _=>v=.bl true) λ_ _ _=>False)
  (Qa:∀H e s',CX [] H s₁ (λ_ _ _=>False) e s'->False) :
  codeAny (model P w) callerA (.call (.ref fa) ⟨[.ref a],[]⟩) (λr s'=>r=.ok (.ret (.bool true))/\OldK s₁.heap s'.heap/\s'.os=s₁.os/\AllBare s'.gens) s₁:=by
 have rv:=sx hi
 have lenV:=hi.length
 have core:∀H:Hp,Only H->a_ K H a (ns.map V.int)->ji P w H s₁.heap->(∀b,H b≠none->b=a)->(H a≠none->K.lookup a=none)->
   codeAny (model P w) callerA (.call (.ref fa) ⟨[.ref a],[]⟩) (λr s'=>r=.ok (.ret (.bool true))/\OldK s₁.heap s'.heap/\s'.os=s₁.os/\AllBare s'.gens) s₁:=by
  intro H hO hS hok hA hK
  have zq:∀{b:Addr} {o:Obj},s₁.heap.get? b=some o->H b=none->(uw s₁.heap H).get? b=some o:=λe n=>Ek e n
  have LR:∀{b:Addr} {o:Obj} {es:Array DictEntry} {ep:Nat},s₁.heap.get? b=some o->o.data=.dict es ep->H b=none:=λ{b o es ep} e d=>by
   cases q:H b with
   | none=>rfl
   | some u =>
    have e':b=a:=hA b (by rw [q]; simp)
    subst e'
    rw [ha]at e; cases e
    have d':Data.seq vs.toArray _=Data.dict es ep:=d
    cases d'
  have N4:∀{b:Addr} {m:Str->Option Value},s₁.heap.Ns b m->(uw s₁.heap H).Ns b m:=λ{b m} ⟨o,es,ep,e,d,r⟩=>⟨o,es,ep,zq e (LR e d),d,r⟩
  have RD:K.In (uw s₁.heap H):=λb o e=>zq (KX b o e) (by
   cases q:H b with
   | none=>rfl
   | some u =>
    have e':b=a:=hA b (by rw [q]; simp)
    subst e'
    rw [hK (by rw [q]; simp)]at e; cases e)
  have hM:Mod K mg (uw s₁.heap H):=⟨RD,N4 hns,⟨mb,N4 hb,hbb⟩,let ⟨mc,h1,h2⟩:=hlim; ⟨mc,N4 h1,h2⟩⟩
  have e0:yw P w K mg (uw s₁.heap H) callerA [] s₁ H:=⟨rfl,hM,λb o e=>FO e,V_ (Bn _ _),trivial,λb hb=>VY (show b∈([]:List Addr) from hb) (by simp),hok,.of_eq hg⟩
  refine codeAny_mono ((F _ RD (N4 hns)).run callerA [] s₁ H ⟨[.ref a],[]⟩ [.ref a] [.ref a] _ _ hr e0 (hbind s₁ (.ref a)) (.cons rfl .nil) (hsp H hO hS)) λr s' h=>?_
  cases r with
  | error e=>exact(Qa H e s' h).elim
  | ok fl =>
   cases fl with
   | next=>exact V4 h
   | brk=>exact V4 h
   | cont=>exact V4 h
   | ret u =>
    obtain⟨v,H',os,bare,un,hok',r',q⟩:=h
    have q':v=.bl true:=q
    subst q'
    obtain rfl:u=Value.bool true:=r'
    refine⟨rfl,OldK.of_keep λb o e=>?_,os,bare⟩
    cases q:H b with
    | none=>exact un.keep b o e q (by intro z; exact VY (show b∈([]:List Addr) from z) (by simp)) (by simp)
    | some u =>
     rcases hO b with z | ⟨ob,xs,z⟩
     ·rw [q]at z; cases z
     ·have z2:=un.qk b ob _ z
      obtain⟨e1,_⟩:=hok b _ z
      obtain⟨e2,_⟩:=hok' b _ z2
      rw [e]at e1; cases e1
      exact e2
 cases hk:K.lookup a with
 | some o =>
  have e:=KX a o hk
  rw [ha]at e
  cases e
  refine core (λ_=>none) (λ_=>.inl rfl) (.inr ⟨_,vs.toArray,_,hk,rfl,rfl,rfl,by rw [VB,lenV]; exact hl,by simpa using rv⟩) (λb u z=>by have z':(none:Option HO)=some u:=z; cases z') (λb z=>VY rfl z) λz=>VY rfl z
 | none =>
  refine core (λb=>if b=a then some (.xX {cls:=.type "list",data:=.seq vs.toArray} (.lst (ns.map V.int)))else none) (λb=>?_) (.inl (.inr ⟨{cls:=.type "list",data:=.seq vs.toArray},V0 rfl⟩)) (λb u z=>?_) (λb z=>?_) λ_=>hk
  ·by_cases hb:b=a
   ·exact .inr ⟨_,_,V0 hb⟩
   ·exact .inl (VZ hb)
  ·by_cases hb:b=a
   ·have z':=(V0 hb).symm.trans z
    cases z'
    subst hb
    exact⟨ha,by rw [Vr]; exact hl,vs,_,rv,ha⟩
   ·have z':=(VZ hb).symm.trans z
    cases z'
  ·by_cases hb:b=a
   ·exact hb
   ·exact VY (VZ hb) z
theorem F8{l:PySem.W.OpenLaw}{n k:Nat}{q:Program}{loose:List Str}{XP:(Str->Option Value)->Heap->Prop}{YP:World->Heap->Prop}{d:DefRec}{K:Params->Wg}{CX:World->rC}{sp:World->Sp}{x:Str}
  (hn:l.most=some n) (hn2:n<=sizeLine) (hdf:d.params.defaults=[]) (hr:eV k callerA)
  (hY:∀(w:World) (h:Heap),YP w h->(K w.params).In h)
  (F:∀(w:World) (mg:Str->Option Value) (fa:Addr) (h:Heap),(K w.params).In h->h.Ns mainGlobals mg->mg d.name=some (.ref fa)->
   ∃fd:FuncData,(∀(s:Shared) (u:Value),BindsTo s fd ⟨[u],[]⟩ [(x,u)])/\
    ∀base:Heap,(K w.params).In base->base.Ns mainGlobals mg->e_ l.prog w (K w.params) mg base (CX w) k fa fd [x] (sp w))
  (hsp:∀(w:World) (H:Hp) (a:Addr) (ns:List Int),ns.length<=n->Only H->a_ (K w.params) H a (ns.map V.int)->sp w [.ref a] H (λv _=>v=.bl true) λ_ _ _=>False)
  (Qa:∀(w:World) (H:Hp) (s:Shared) (e:Value) (s':Shared),CX w [] H s (λ_ _ _=>False) e s'->False) :
  PySem.W.WalkO q loose XP YP l.row.toRowW d [] (λf vs=>PySem.call f vs):=by
 refine Att.vc hn hdf λw s₀ s₁ mg mb fa o pm cd doc a vs ns G Y ho hd hcd hmg hobj hints hlen hg=>?_
 have KX:=hY w _ Y
 obtain⟨fd,hb,hF⟩:=F w mg fa _ KX G.T.g hmg
 exact CO KX G.T.g G.T.b G.T.builtins G.T.nolimit hg hobj hints (Vo hlen hn2) hr hF hb (λH hO hS=>hsp w H a ns hlen hO hS) λH e s'=>Qa w H s₁ e s'
def el(s:Stmt):Arguments:=match s with
 | .FunctionDef _ a _ _ _ _ _ _ _ _=>a
 | _=>{posonlyargs:=[],args:=[],vararg:=none,kwonlyargs:=[],kw_defaults:=[],kwarg:=none,defaults:=[]}
def cY(s:Stmt):List Stmt:=match s with
 | .FunctionDef _ _ b _ _ _ _ _ _ _=>b
 | _=>[]
def ar(s:Stmt):Scope:=match s with
 | .FunctionDef _ _ _ _ _ _ sc _ _ _=>sc
 | _=>{kind:=.function,names:=[],isGenerator:=false,isCoroutine:=false}
abbrev bc:rC:=λ_ _ _ _ _ _=>False
abbrev E0:XK:=λ_ _ _=>False
theorem v7{X:Cx}:Passes bc X E0:=λ_ _ _ _ _ _ _ h=>h.elim
structure BD(K:Wg)(x qual:Str)(st:Stmt)(f:Addr)(fd:FuncData):Prop where
 ex:∃(oc:Value) (od:Option Addr) (kV doc pm:Value) (an:Option Addr) (cdv ct:Value) (osl:Array (Option Value)),
  fd=PySem.W.fnOf x qual (el st) (cY st) (ar st) .none kV doc pm an cdv ct/\K.lookup f=some ⟨oc,od,.func fd,osl⟩/\PySem.W.codeIn K cdv qual=true
 kp:PySem.W.keepIn K (.ref f)=true
section
variable{P:Program}{w:World}{K:Wg}{mg:Str->Option Value}{base:Heap}
theorem BD.ok{x qual:Str}{st:Stmt}{f:Addr}{fd:FuncData}{N ps:List Str}{k:Nat}{sp:Sp}(F:BD K x qual st f fd)(S:ay N ps (ar st))(len:∀vs H Q E,sp vs H Q E->vs.length=ps.length)
  (hbody:∀(cdv:Value) (A:Around) (outer:List Env) (s:Shared) (H:Hp) (vs:List V) (Q:VK) (E:XK),eV k (A.deeper (envOfC qual (ar st) s.heap.objs.size f cdv))->sp vs H Q E->
   ∃t,qj (qW bc P w K mg base N qual (ar st) f cdv A outer s H E).zv (cY st) t/\t {nx:=λ_ H'=>Q .non H',rt:=Q} (start N vs) H):e_ P w K mg base bc (k+1) f fd ps sp:=by
 obtain⟨oc,od,kV,doc,pm,an,cdv,ct,osl,rfl,lk,hcd⟩:=F.ex
 refine IF lk hcd S len λA outer s H vs Q E hr hsp=>?_
 obtain⟨t,h,q⟩:=hbody cdv A outer s H vs Q E hr hsp
 exact⟨t,h.zv,q⟩
theorem BD.binds{x qual:Str}{st:Stmt}{f:Addr}{fd:FuncData}{ps:List Str}(F:BD K x qual st f fd)
  (h:∀(kV doc pm:Value) (an:Option Addr) (cdv ct:Value) (us:List Value),us.length=ps.length->bindArgs (PySem.W.fnOf x qual (el st) (cY st) (ar st) .none kV doc pm an cdv ct) ⟨us,[]⟩=pure (ps.zip us)):Binds K fd ps []:=by
 obtain⟨oc,od,kV,doc,pm,an,cdv,ct,osl,rfl,lk,hcd⟩:=F.ex
 exact .all (h kV doc pm an cdv ct)
theorem xq{x qual:Str}{st:Stmt}{f:Addr}{oc:Value}{od an:Option Addr}{osl:Array (Option Value)}{kV doc pm cdv ct:Value}(l:K.lookup f=some ⟨oc,od,.func (PySem.W.fnOf x qual (el st) (cY st) (ar st) .none kV doc pm an cdv ct),osl⟩)
  (c:PySem.W.codeIn K cdv qual=true) (k:PySem.W.keepIn K (.ref f)=true):BD K x qual st f (PySem.W.fnOf x qual (el st) (cY st) (ar st) .none kV doc pm an cdv ct):=⟨⟨oc,od,kV,doc,pm,an,cdv,ct,osl,rfl,l,c⟩,k⟩
end
theorem jb{A:Around}{k:Nat}(hr:eV k A):A.units+1<cLine:=Vu (Nat.add_le_add_left (by decide:1<=64) _) hr.units
section
variable{X:Cx}
theorem pv(i:Nat){x:Str}{pos:Pos}(hN:X.N[i]? = some x:=by rfl)(hv:PY X.env.scope x:=by first | exact V2 rfl | exact Or.inr (V2 rfl) | exact Or.inr (Or.inr rfl))(hd:(x==("__debug__" : Str))=false:=by decide)
  (hcd:(x==("__classdict__" : Str))=false:=by decide):PE X (.Name x pos) (bD i):=yp hN hv hd hcd
end
theorem bB{A B:Prop}(h:B):if false=true then A else B:=by
 rw [VZ VA]
 exact h
theorem cp{A B:Prop}(h:A):if true=true then A else B:=by
 rw [V0 rfl]
 exact h
theorem cJ{c A B:Prop} [Decidable c](h1:c->A)(h2:¬c->B):if c then A else B:=by
 by_cases h:c
 ·rw [V0 h]
  exact h1 h
 ·rw [VZ h]
  exact h2 h
def aM(H H':Hp):Prop:=∀b o,H b=some o->H' b=some o
theorem aM.refl(H:Hp):aM H H:=λ_ _ h=>h
theorem aM.trans{H H1 H2:Hp}(a:aM H H1)(b:aM H1 H2):aM H H2:=λc o h=>b c o (a c o h)
theorem aM.free{H H':Hp}(e:aM H H'){l:Addr}(h:H' l=Option.none):H l=Option.none:=by
 cases q:H l with
 | none=>rfl
 | some o =>
  rw [e l o q]at h
  cases h
theorem aM.seq{K:Wg}{H H':Hp}{a:Addr}{xs:List V}(e:aM H H')(h:a_ K H a xs):a_ K H' a xs:=by
 rcases h with(h | ⟨o,h⟩) | h
 ·exact .inl (.inl (e _ _ h))
 ·exact .inl (.inr ⟨o,e _ _ h⟩)
 ·exact .inr h
def bQ(cells:List (Str×Addr)):List (Str×NameKind)->List (Str×Addr)->List (Str×Addr)
 | [],acc=>acc
 | (n,k)::r,acc=>bQ cells r (if(k==NameKind.free)=true then(n,(cells.lookup n).getD 0)::acc else acc)
theorem rz{cells:List (Str×Addr)}{x:Str}{c:Addr}:∀{ns:List (Str×NameKind)} {acc:List (Str×Addr)},(x,c)∈bQ cells ns acc->((x,NameKind.free)∈ns/\c=(cells.lookup x).getD 0)\/(x,c)∈acc
 | [],_,h=>.inr h
 | (n,k)::r,acc,h=>by
  have q:=rz (ns:=r) h
  rcases q with⟨q1,q2⟩ | q
  ·exact .inl ⟨Vz _ q1,q2⟩
  ·by_cases hk:(k==NameKind.free)=true
   ·rw [V0 hk]at q
    have ek:k=NameKind.free:=by simpa using hk
    rcases VF.mp q with e | q
    ·cases e
     subst ek
     exact .inl ⟨VU,rfl⟩
    ·exact .inr q
   ·rw [VZ hk]at q
    exact .inr q
theorem sh{cells:List (Str×Addr)}{p:Str×Addr}:∀{ns:List (Str×NameKind)} {acc:List (Str×Addr)},p∈acc->p∈bQ cells ns acc
 | [],_,h=>h
 | (n,k)::r,acc,h=>by
  refine sh (ns:=r) ?_
  split
  ·exact Vz _ h
  ·exact h
theorem sE{cells:List (Str×Addr)}{x:Str}:∀{ns:List (Str×NameKind)} {acc:List (Str×Addr)},(x,NameKind.free)∈ns->(x,(cells.lookup x).getD 0)∈bQ cells ns acc
 | (n,k)::r,acc,h=>by
  rcases VF.mp h with e | h
  ·cases e
   refine sh (ns:=r) ?_
   rw [V0 (by rfl)]
   exact VU
  ·exact sE (ns:=r) h
theorem j_{x:Str}{c:Addr}:∀{l:List (Str×Addr)},(x,c)∈l->∃c',l.lookup x=some c'
 | (n,d)::r,h=>by
  rw [Wa]
  cases e:x==n with
  | true=>exact⟨d,rfl⟩
  | false =>
   rcases VF.mp h with q | q
   ·cases q
    simp at e
   ·exact j_ q
theorem rD{env:Env}(f:(Str×NameKind)->List (Str×Addr)->Sem (ForInStep (List (Str×Addr))))(hf1:∀n acc c,env.cells.lookup n=some c->f (n,.free) acc=pure (.yield ((n,c)::acc)))
  (hf2:∀n k acc,(k==NameKind.free)=false->f (n,k) acc=pure (.yield acc)):∀(ns:List (Str×NameKind)) (acc:List (Str×Addr)),(∀y∈ns,y.2=.free->∃c,env.cells.lookup y.1=some c)->forIn ns acc f=pure (bQ env.cells ns acc)
 | [],_,_=>rfl
 | (n,k)::r,acc,h=>by
  have ih:=λacc'=>rD f hf1 hf2 r acc' λy hy=>h y (Vz _ hy)
  rw [List.forIn_cons]
  cases hk:k==NameKind.free with
  | true =>
   have ek:k=NameKind.free:=by simpa using hk
   subst ek
   obtain⟨c,e⟩:=h (n,.free) VU rfl
   have e':env.cells.lookup n=some c:=e
   rw [hf1 n acc c e]
   show forIn r ((n,c)::acc) f=_
   rw [ih]
   show _=pure (bQ env.cells r (if(NameKind.free==NameKind.free)=true then(n,(env.cells.lookup n).getD 0)::acc else acc))
   rw [V0 (by rfl),e']
   rfl
  | false =>
   rw [hf2 n k acc hk]
   show forIn r acc f=_
   rw [ih]
   show _=pure (bQ env.cells r (if(k==NameKind.free)=true then(n,(env.cells.lookup n).getD 0)::acc else acc))
   rw [VZ (by rw [hk]; decide)]
theorem c_{scope:Scope}{env:Env}(h:∀y∈scope.names,y.2=.free->∃c,env.cells.lookup y.1=some c):closureFor scope env=pure (bQ env.cells scope.names []):=by
 unfold closureFor
 show(forIn scope.names [] _ >>= _)=_
 rw [rD (env:=env) _ ?_ ?_ scope.names [] h]
 ·rfl
 ·intro n acc c e
  show(if(NameKind.free==NameKind.free)=true then _ else _)=_
  rw [V0 (by rfl)]
  unfold cellOf
  rw [e]
  first | rfl | skip
 ·intro n k acc hk
  show(if(k==NameKind.free)=true then _ else _)=_
  rw [VZ (by rw [hk]; decide)]
abbrev aK(X:Cx)(N':List Str)(sc:Scope)(cl:List (Str×Addr))(C:Addr)(s:Shared)(H:Hp)(fp:List Addr):Cx :=
 {X with N:=N',s₀:=s,H₀:=H,env:=compEnvC sc cl C X.env,outer:=X.stack,stack:=X.stack,ex:=fp,fn:=λx=>sc.names.lookup x==some NameKind.local,pn:=[],xe:=λ_ _=>False}
structure aZ(E6:Scope)(ON N':List Str)(src:List (Option Nat))(sc:Scope):Prop where
 kind:sc.kind=.function
 RP:E6.kind=.function
 uniq:∀y∈sc.names,sc.names.lookup y.1=some y.2
 pC:∀y∈sc.names,y.2≠ .cell
 free:∀y∈sc.names,y.2=.free->E6.names.lookup y.1=some .cell\/E6.names.lookup y.1=some .free
 len:src.length=N'.length
 src:∀(i:Nat) (x:Str) (j:Nat),N'[i]? = some x->src[i]? = some (some j)->ON[j]? = some x/\sc.names.lookup x=some .free
def j8(src:List (Option Nat))(σ:St):St:=src.map λo=>o.bind λj=>(σ[j]?).bind id
theorem Ck{src:List (Option Nat)}{σ:St}{i:Nat}{v:V}(h:(j8 src σ)[i]? = some (some v)):∃j,src[i]? = some (some j)/\σ[j]? = some (some v):=by
 unfold j8 at h
 rw [VO]at h
 cases e:src[i]? with
 | none=>rw [e]at h; cases h
 | some o =>
  rw [e]at h
  cases o with
  | none=>cases h
  | some j =>
   have h':(σ[j]?).bind id=some v:=VL h
   cases e2:σ[j]? with
   | none=>rw [e2]at h'; cases h'
   | some w =>
    rw [e2]at h'
    have h'':w=some v:=h'
    exact⟨j,rfl,by rw [e2,h'']⟩
def jg(X:Cx)(ifs:List Expr)(t:TT):Prop :=
 ∀(pins:List (Addr×Obj)) (s:Shared) (σ:St) (H:Hp) (Q:Bool->Hp->Prop),Inv X pins σ H s->t σ H Q->
  wpAny (model X.prog X.w) X.A (forIn ifs true λc r=>if r=true then do let ok←isTrue c X.env (eval c X.env); pure (ForInStep.yield ok)else pure (ForInStep.yield r)) (TP X pins σ Q) X.xe s
def MI:TT:=λ_ H Q=>Q true H
theorem aX{X:Cx}:jg X [] MI:=λ_ _ _ H _ I h=>wpAny_tests_nil ⟨H,I,h⟩
theorem qh{X:Cx}{c:Expr}{t:TT}(h:PT X c t):jg X [c] t:=λpins s σ H Q I q=>wpAny_tests_one (h pins s σ H Q I q)
def pA(J:It)(g:TG)(tc:TT)(te:TE)(D:Addr)(Q:VK)(W:Nat->Nat->St->List V->Hp->Prop):Prop :=
 ∀i m σ ys H,W i m σ ys H->H D=some (.lst ys)/\((J.stop i H/\Q (.ref D) H)\/(J.go i H/\ys.length<sizeLine/\∃N:St->List V->Hp->Prop,(∀σ' ys' H',N σ' ys' H'->∃m',m'<m/\W (i+1) m' σ' ys' H')/\
  ∀x H',J.GR i H x H'->g x σ H' λdn H2=>tc dn H2 λb H3 =>
   if b=true then te dn H3 λv H4=>H4 D=some (.lst ys)/\N dn (ys++[v]) (upd H4 D (.lst (ys++[v])))else N dn ys H3))
def ET(src:List (Option Nat))(wi:TI)(g:TG)(tc:TT)(te:TE):TE:=λσ H Q=>wi σ H λJ H1=>∀D,H1 D=none->
 ∃W:Nat->Nat->St->List V->Hp->Prop,(∃m,W 0 m (j8 src σ) [] (upd H1 D (.lst [])))/\pA J g tc te D Q W
section
variable{X:Cx}{elt target iter:Expr}{ifs:List Expr}{sc:Scope}{pos:Pos}{wi:TI}{g:TG}{tc:TT}{te:TE}{N':List Str}{src:List (Option Nat)}
theorem An{it acc:Value}{env:Env}{prog:Program}{w:World}{A:Around}{s:Shared}{R:Result->Shared->Prop}(Iv:Nat->Shared->Prop)
  (turn:∀n s,Iv n s->wpAny (model prog w) A (pyNext it) (λr s₁=>match r with
   | none=>R (.ok .next) s₁
   | some v=>wpAny (model prog w) A (letOwnedTupleGo target it v) (λ_ s₁'=>wpAny (model prog w) A (assign target env v) (λ_ s₂ =>
     wpAny (model prog w) A (forIn ifs true λc r=>if r=true then do let ok←isTrue c env (eval c env); pure (ForInStep.yield ok)else pure (ForInStep.yield r)) (λok s₃ =>
      if ok=true then wpAny (model prog w) A (eval elt env) (λx s₄ =>
       wpAny (model prog w) A (call (.builtin "list.append") [acc,x]) (λ_ s₅=>∃m,m<n/\Iv m s₅) (λ_ _=>False) s₄) (λ_ _=>False) s₃
      else∃m,m<n/\Iv m s₃) (λ_ _=>False) s₂) (λ_ _=>False) s₁') (λ_ _=>False) s₁) (λ_ _=>False) s)
  (n:Nat) (h:Iv n s) :
  codeAny (model prog w) A (.compLoop (.ListComp elt [⟨target,iter,ifs,0⟩] sc pos) 0 it acc env) R s:=by
 refine codeAny_loop rfl Iv (λn s hI=>?_) n h
 show wpAny _ A ((compTurn (.ListComp elt [⟨target,iter,ifs,0⟩] sc pos) 0 it acc env).onRaise (λx=>do noteFrame x env; theTreesLotGoes x)) _ _ s
 refine wpAny_noted ?_
 rw [compTurn_list]
 refine Vi (wpAny_standAt (Vi (VR (turn n s hI) (λr s₁ h₁=>?_) λ_ _ h'=>h'.elim)))
 cases r with
 | none=>exact Vj h₁
 | some v =>
  refine Vi (VR h₁ (λ_ s₁' h₁'=>Vi (VR h₁' (λ_ s₂ h₂=>Vi (VR h₂ (λok s₃ h₃=>?_) λ_ _ h'=>h'.elim)) λ_ _ h'=>h'.elim)) λ_ _ h'=>h'.elim)
  cases ok with
  | false=>exact Vj ⟨rfl,h₃⟩
  | true =>
   exact Vi (Vi (VR h₃ (λx s₄ h₄=>Vi (VR h₄ (λ_ s₅ h₅=>Vj (Vj ⟨rfl,h₅⟩)) λ_ _ h'=>h'.elim)) λ_ _ h'=>h'.elim))
theorem iJ{pins:List (Addr×Obj)}{σ:St}{H:Hp}{s:Shared}{h1:Heap}{fp:List Addr}(S:aZ X.env.scope X.N N' src sc)(I:Inv X pins σ H s)(f2:∀b∈fp,dI X pins H b)(o2:∀b∈fp,b<s.heap.objs.size)
  (ns:h1.Ns s.heap.objs.size λx=>(([]:List (Str×Value)).reverse.lookup x)) (sb:Heap.SameBut s.heap.objs.size (s.heap.push {cls:=.type "dict",data:=.dict #[]}) h1) {tk:Nat} :
  Inv (aK X N' sc (bQ X.env.cells sc.names []) s.heap.objs.size s H fp) [] (j8 src σ) H {s with heap:=h1,toks:=tk}:=by
 have old:∀b o,s.heap.get? b=some o->h1.get? b=some o:=λb o e=>(sb.2 b (VI (Vl e))).trans (Vk _ e)
 have clo:∀x c,(bQ X.env.cells sc.names []).lookup x=some c->X.env.cells.lookup x=some c/\sc.names.lookup x=some .free:=λx c e=>by
  rcases rz (mem_of_lookup e)with⟨m,q⟩ | z
  ·obtain⟨c',e'⟩:=I.ok.has x (S.free _ m rfl)
   rw [e']at q
   exact⟨by rw [e',q]; rfl,S.uniq _ m⟩
  ·cases z
 have Jw:∀x,sc.names.lookup x=some .free->∃c,(bQ X.env.cells sc.names []).lookup x=some c:=λx e=>j_ (sE (mem_of_lookup e))
 have kinds:∀(x:Str) (k:NameKind),(relabel sc X.env).names.lookup x=some k->(k=.cell\/k=.free)->sc.names.lookup x=some .free:=λx k e hk=>by
  have gen:∀ns:List (Str×NameKind),(∀y∈ns,y.2≠ .cell)->(ns.map λ(n,k)=>if(k==NameKind.free&&X.env.scope.kind == .function&&X.env.kindOf n==some .cell)then(n,NameKind.cell)else(n,k)).lookup x=some k->ns.lookup x=some .free:=by
   intro ns
   induction ns with
   | nil=>intro _ h; cases h
   | cons y r ih =>
    obtain⟨n,k1⟩:=y
    intro hn h
    rw [Wb]at h
    dsimp only at h
    by_cases hc:(k1==NameKind.free&&X.env.scope.kind == .function&&X.env.kindOf n==some .cell)=true
    ·rw [V0 hc,Wa]at h
     rw [Wa]
     cases hx:x==n with
     | true =>
      have:k1=NameKind.free:=by
       cases hk1:k1==NameKind.free with
       | true=>simpa using hk1
       | false=>rw [hk1]at hc; simp at hc
      rw [this]
     | false=>rw [hx]at h; exact ih (λy hy=>hn y (Vz _ hy)) h
    ·rw [VZ hc,Wa]at h
     rw [Wa]
     cases hx:x==n with
     | true =>
      rw [hx]at h
      have h':k1=k:=VL h
      rcases hk with hk | hk
      ·exact VY (h'.trans hk) (hn (n,k1) VU)
      ·show some k1=_
       rw [h',hk]
     | false=>rw [hx]at h; exact ih (λy hy=>hn y (Vz _ hy)) h
  exact gen sc.names S.pC e
 have M_:∀x,sc.names.lookup x=some .free->(relabel sc X.env).names.lookup x=some .cell\/(relabel sc X.env).names.lookup x=some .free:=λx e=>by
  have gen:∀ns:List (Str×NameKind),ns.lookup x=some .free->(ns.map λ(n,k)=>if(k==NameKind.free&&X.env.scope.kind == .function&&X.env.kindOf n==some .cell)then(n,NameKind.cell)else(n,k)).lookup x=some .cell\/
    (ns.map λ(n,k)=>if(k==NameKind.free&&X.env.scope.kind == .function&&X.env.kindOf n==some .cell)then(n,NameKind.cell)else(n,k)).lookup x=some .free:=by
   intro ns
   induction ns with
   | nil=>intro h; cases h
   | cons y r ih =>
    obtain⟨n,k1⟩:=y
    intro h
    rw [Wb]
    dsimp only
    rw [Wa]at h
    by_cases hc:(k1==NameKind.free&&X.env.scope.kind == .function&&X.env.kindOf n==some .cell)=true
    ·rw [V0 hc,Wa]
     cases hx:x==n with
     | true=>exact .inl rfl
     | false=>rw [hx]at h; exact ih h
    ·rw [VZ hc,Wa]
     cases hx:x==n with
     | true =>
      rw [hx]at h
      exact .inr h
     | false=>rw [hx]at h; exact ih h
  exact gen sc.names e
 refine⟨⟨I.mod,?_,I.ok.glob,I.ok.blt,Vn _,λx y c h1 h2=>I.ok.inj x y c (clo x c h1).1 (clo y c h2).1,λx hx=>?_,λx c hf h=>?_,I.ok.hd,I.ok.frames,.inl rfl,λb hb=>⟨?_,λx c h=>?_⟩,I.bs,?_,λb o e hb=>?_,λb hb hs=>?_,I.stack,I.nI⟩,
  rfl,I.bare,Un.kept old,⟨_,ns,λi x v h1 h2 h3=>?_⟩,λx c h=>?_,I.hok.fresh (Vn _),λx c h=>I.fU x c (clo x c h).1,λp hp=>VY (show p∈([]:List (Addr×Obj)) from hp) (by simp),I.hok.kept old,?_⟩
 ·show(relabel sc X.env).kind=.function
  exact S.kind
 ·obtain hx | hx:=hx
  ·exact Jw x (kinds x _ hx (.inl rfl))
  ·exact Jw x (kinds x _ hx (.inr rfl))
 ·have e2:=(clo x c h).2
  have hf':(sc.names.lookup x==some NameKind.local)=true:=hf
  rw [e2]at hf'
  cases hf'
 ·exact VI (o2 b hb)
 ·exact(f2 b hb).2.2.2.2.1 x c (clo x c h).1
 ·exact Vo I.ok.BG I.sz
 ·rcases(f2 b hb).2.2.2.1 with z | z
  ·exact I.ok.vV b o e z
  ·exact VY (Vv (Vl e) (Vo I.ok.BG z)) (Nat.lt_irrefl _)
 ·rcases VF.mp (I.yK b hs)with z | z
  ·exact(f2 b hb).2.1 z
  ·exact(f2 b hb).2.2.1 z
 ·obtain⟨j,e1,e2⟩:=Ck h2
  obtain⟨e3,e4⟩:=S.src i x j h1 e1
  obtain⟨m,hn,hl⟩:=I.loc
  have kx:=S.free _ (mem_of_lookup e4) rfl
  obtain⟨u,ru,l⟩:=hl j x v e3 e2 (.inr kx)
  refine⟨u,ru,.inr ⟨M_ x e4,?_⟩⟩
  obtain⟨c,hc⟩:=Jw x e4
  refine⟨c,hc,?_⟩
  have hc':=(clo x c hc).1
  rcases l with⟨lk,_⟩ | ⟨_,c',lc,z⟩
  ·have RJ:X.env.scope.names.lookup x=some .local:=lk
   rcases kx with q | q
   ·have q':X.env.scope.names.lookup x=some .cell:=q
    rw [RJ]at q'; cases q'
   ·have q':X.env.scope.names.lookup x=some .free:=q
    rw [RJ]at q'; cases q'
  ·rw [hc']at lc
   cases lc
   obtain⟨o,ho,hd⟩:=z
   exact⟨o,old _ _ ho,hd⟩
 ·obtain⟨v,o,ho,hd⟩:=I.cell x c (clo x c h).1
  exact⟨v,o,old _ _ ho,hd⟩
 ·show(j8 src σ).length=N'.length
  unfold j8
  rw [Vr]
  exact S.len
theorem pN{pins:List (Addr×Obj)}{σ:St}{H2:Hp}{s2:Shared}{it:Addr}{fp:List Addr}{tn:Nat->Heap->Prop}{J:It}{Q:VK}{E:Value->Shared->Prop}{RR:Value->Addr->Result->Shared->Prop}
  (hc:X.calm=true) (S:aZ X.env.scope X.N N' src sc)
  (hg:∀cl C s H fp,PG (aK X N' sc cl C s H fp) target g) (ht:∀cl C s H fp,jg (aK X N' sc cl C s H fp) ifs tc) (he:∀cl C s H fp,PE (aK X N' sc cl C s H fp) elt te)
  (I2:Inv X pins σ H2 s2) (T:Turn X.prog X.w X.K target J fp it tn) (st2:tn 0 s2.heap) (f2:∀b∈fp,dI X pins H2 b)
  (hW:∀D,H2 D=none->∃W:Nat->Nat->St->List V->Hp->Prop,(∃m,W 0 m (j8 src σ) [] (upd H2 D (.lst [])))/\pA J g tc te D Q W)
  (hRR:∀D C s5 H' m,Inv X pins σ H' s5->s5.heap.Ns C m->dI X pins H' C->Q (.ref D) H'->RR (.ref D) C (.ok .next) s5) :
  wpAny (model X.prog X.w) X.A (newList []) (λacc s₃=>wpAny (model X.prog X.w) X.A (newFunctionEnv sc X.env.globals (bQ X.env.cells sc.names []) [] X.env.qual none .none (some X.env)) (λcenv s₄ =>
   codeAny (model X.prog X.w) X.A (.compStart (.ListComp elt [⟨target,iter,ifs,0⟩] sc pos) 0 (.ref it) acc {cenv with scope:=relabel sc X.env}) (RR acc cenv.locals) s₄) E s₃) E s2:=by
 have o2:∀b∈fp,b<s2.heap.objs.size:=λb hb=>by
  obtain⟨o,e,_⟩:=T.obj 0 _ st2 b hb
  exact Vl e
 refine VT ?_
 have Jn:H2 s2.heap.objs.size=none:=I2.hok.fresh (Vn _)
 obtain⟨W,⟨m0,w0⟩,turn⟩:=hW s2.heap.objs.size Jn
 have I3:Inv X pins σ (upd H2 s2.heap.objs.size (.lst [])) {s2 with heap:=s2.heap.push {cls:=.type "list",dict:=none,data:=.seq ([]:List Value).toArray}} :=
  I2.laid (t':=s2.toks) (λb u e=>Vk _ e) (Vn _) ⟨VJ _,[],0,.nil,Vm _ rfl⟩
 have st3:tn 0 (s2.heap.push {cls:=.type "list",dict:=none,data:=.seq ([]:List Value).toArray}):=T.keep 0 _ _ st2 λb hb o e=>Vk _ e
 generalize hs3:({s2 with heap:=s2.heap.push {cls:=.type "list",dict:=none,data:=.seq ([]:List Value).toArray}}:Shared)=s3 at I3
 have hh3:s3.heap=s2.heap.push {cls:=.type "list",dict:=none,data:=.seq ([]:List Value).toArray}:=by rw [←hs3]
 have E5:s2.heap.objs.size<s3.heap.objs.size:=by rw [hh3,Heap.size_push]; exact Nat.lt_succ_self _
 have o3:∀b∈fp,b<s3.heap.objs.size:=λb hb=>Nat.lt_trans (o2 b hb) E5
 have f3:∀b∈fp,dI X pins (upd H2 s2.heap.objs.size (.lst [])) b:=λb hb=>⟨by rw [aI (VI (o2 b hb))]; exact(f2 b hb).1,(f2 b hb).2⟩
 rw [←hh3]at st3
 refine wpAny_newFunctionEnv S.pC (by intro y hy; simp at hy) (λh1 hns hsb=>?_) S.kind
 have hsb':Heap.SameBut s3.heap.objs.size (s3.heap.push {cls:=.type "dict",data:=.dict #[]}) h1:=hsb
 have I4:Inv (aK X N' sc (bQ X.env.cells sc.names []) s3.heap.objs.size s3 (upd H2 s2.heap.objs.size (.lst [])) fp) [] (j8 src σ) (upd H2 s2.heap.objs.size (.lst [])) {s3 with heap:=h1,toks:=s3.toks+([]:List (Str×Value)).length} :=
  iJ S I3 f3 o3 hns hsb'
 have DN:tn 0 h1:=T.keep 0 _ _ st3 λb hb o e=>(hsb'.2 b (VI (o3 b hb))).trans (Vk _ e)
 have fC:∀(H':Hp),H' s3.heap.objs.size=none->dI X pins H' s3.heap.objs.size:=λH' hn=>I3.mL (Vn _) hn
 have loop:codeAny (model X.prog X.w) X.A (.compLoop (.ListComp elt [⟨target,iter,ifs,0⟩] sc pos) 0 (.ref it) (.ref s2.heap.objs.size) (compEnvC sc (bQ X.env.cells sc.names []) s3.heap.objs.size X.env))
   (RR (.ref s2.heap.objs.size) s3.heap.objs.size) {s3 with heap:=h1,toks:=s3.toks+([]:List (Str×Value)).length}:=by
  have stat:∀{H':Hp},(∀b∈fp,H' b=none)->∀b∈fp,dI (aK X N' sc (bQ X.env.cells sc.names []) s3.heap.objs.size s3 (upd H2 s2.heap.objs.size (.lst [])) fp) [] H' b:=λhn b hb =>
   ⟨hn b hb,(I4.ok.Br b hb).1,I4.ok.om b hb,.inl hb,(I4.ok.Br b hb).2,λp hp=>VY (show p∈([]:List (Addr×Obj)) from hp) (by simp)⟩
  refine An (λn s'=>∃i σ' ys H',Inv (aK X N' sc (bQ X.env.cells sc.names []) s3.heap.objs.size s3 (upd H2 s2.heap.objs.size (.lst [])) fp) [] σ' H' s'/\tn i s'.heap/\(∀b∈fp,H' b=none)/\W i n σ' ys H') ?_ m0
   ⟨0,_,[],_,I4,DN,λb hb=>(f3 b hb).1,w0⟩
  rintro n s5 ⟨i,nY,ys,H5,I5,uT,wZ,w5⟩
  obtain⟨hD,alt⟩:=turn i n nY ys H5 w5
  rcases alt with⟨stop,qn⟩ | ⟨go,hsz,N,hN,step⟩
  ·refine cn (T.done (aK X N' sc (bQ X.env.cells sc.names []) s3.heap.objs.size s3 (upd H2 s2.heap.objs.size (.lst [])) fp) rfl rfl rfl hc i [] s5 nY H5 _ I5 (stat wZ) uT stop) λr s6 ⟨hr,I6⟩=>?_
   subst hr
   obtain⟨m6,n6,_⟩:=id I6.loc
   refine hRR _ _ s6 H5 m6 (I3.call' I6.os I6.base I6.hok I6.bare λb hb=>⟨(f3 b hb).2.2.2.1,(f3 b hb).2.1,(f3 b hb).2.2.2.2.1,(f3 b hb).2.2.2.2.2⟩) n6 (fC _ I6.free) qn
  ·refine cn (T.item (aK X N' sc (bQ X.env.cells sc.names []) s3.heap.objs.size s3 (upd H2 s2.heap.objs.size (.lst [])) fp) rfl rfl rfl hc i [] s5 nY H5 _ I5 (stat wZ) uT go) λr s6 ⟨u,hr,h6⟩=>?_
   subst hr
   refine cn h6 λ_ s7 ⟨x,H7,I7,r7,y7,tL,FL⟩=>?_
   have Fg:=I7.pinned (stat FL) (T.obj _ _ tL)
   refine cn (hg _ _ _ _ _ _ s7 nY H7 x u _ Fg r7 (step x H7 y7)) λ_ s8 ⟨uS,H8,I8,q8⟩=>?_
   refine cn (ht _ _ _ _ _ _ s8 uS H8 _ I8 q8) λb s9 ⟨H9,I9,q9⟩=>?_
   have again:∀{σ':St} {H':Hp} {s':Shared} {ys':List V} {m':Nat},Inv (aK X N' sc (bQ X.env.cells sc.names []) s3.heap.objs.size s3 (upd H2 s2.heap.objs.size (.lst [])) fp) ([]++jS fp s7.heap) σ' H' s'->m'<n->W (i+1) m' σ' ys' H'->
     ∃m,m<n/\∃i σ' ys H',Inv (aK X N' sc (bQ X.env.cells sc.names []) s3.heap.objs.size s3 (upd H2 s2.heap.objs.size (.lst [])) fp) [] σ' H' s'/\tn i s'.heap/\(∀b∈fp,H' b=none)/\W i m σ' ys H':=λ{σ' H' s' ys' m'} I' hm w'=>by
    refine⟨m',hm,i+1,σ',ys',H',I'.fX,T.keep _ _ _ tL λb hb o e=>(I'.pin (b,o) (Vx _ (Vx _ (cO hb e)))).1,λb hb=>?_,w'⟩
    obtain⟨o,e,d⟩:=T.obj _ _ tL b hb
    exact(I'.pin (b,o) (Vx _ (Vx _ (cO hb e)))).2.1
   cases b with
   | false =>
    rw [VZ VA]at q9⊢
    obtain⟨m',hm,w'⟩:=hN _ _ _ q9
    exact again I9 hm w'
   | true =>
    rw [V0 rfl]at q9⊢
    refine cn (he _ _ _ _ _ _ s9 uS H9 _ I9 q9) λxv D9 ⟨v,Ax,LM,r10,Dp,w10⟩=>?_
    obtain⟨m',hm,w'⟩:=hN _ _ _ w10
    have LJ:n_ (.ref s2.heap.objs.size) [v] Ax λ_ H'=>H'=upd Ax s2.heap.objs.size (.lst (ys++[v])):=⟨_,ys,v,rfl,rfl,Dp,hsz,rfl⟩
    refine cn (c9 _ D9 uS Ax _ _ _ _ _ LM (show RelV (.ref s2.heap.objs.size) (.ref s2.heap.objs.size) from rfl) (.cons r10 .nil) LJ) λ_ Rm ⟨_,Pr,Ip,_,Mn⟩=>?_
    rw [Mn]at Ip
    exact again Ip hm w'
 exact codeAny_compStart_list loop (T.self _ 0 _ _ _ DN loop)
theorem bx(hc:X.calm=true)(S:aZ X.env.scope X.N N' src sc)(hi:PI X target iter wi)
  (hg:∀cl C s H fp,PG (aK X N' sc cl C s H fp) target g) (ht:∀cl C s H fp,jg (aK X N' sc cl C s H fp) ifs tc) (he:∀cl C s H fp,PE (aK X N' sc cl C s H fp) elt te)
  (hs:∀x,foldedSetIterable iter X.env x=pure x:=by intro _; rfl) :
  PE X (.ListComp elt [⟨target,iter,ifs,0⟩] sc pos) (ET src wi g tc te):=by
 intro pins s σ H Q I h
 rw [eval_ListComp]
 refine wpAny_comprehension_free (use:=none) rfl hs (c_ λy hy hk=>I.ok.has y.1 (S.free y hy hk)) S.kind (λy hy hl=>by rw [←hl]; exact S.uniq y hy) ?_
 refine cn (hi pins s σ H _ I h) λv s1 h1=>cn h1 λitv s2 h2=>?_
 obtain⟨it,fp,tn,J,H2,e,I2,T,st2,f2,hW⟩:=h2
 subst e
 refine pN (Q:=Q) (RR:=λacc C=>compPost (model X.prog X.w) X.A X.xe none (EP X pins σ Q) acc C) hc S hg ht he I2 T st2 f2 hW ?_
 intro D C s5 H' m I5 n5 fC q
 refine⟨m,n5,λh' sb=>⟨.ref D,H',?_,rfl,q⟩⟩
 exact I5.turned (t':=s5.toks) (λb o hb e=>(sb.2 b hb).trans e) fC.1 fC.2.1 fC.2.2.2.1 fC.2.2.2.2.1 fC.2.2.2.2.2
theorem kM{i:Nat}{x:Str}{pos' spos:Pos}(hN:X.N.Nodup)(hi':X.N[i]? = some x)(hx:Loc X.env.scope x)(hsw:swapsWith (.ListComp elt [⟨target,iter,ifs,0⟩] sc pos) (some (.Name x pos')) spos.line X.env=pure true)
  (hc:X.calm=true) (S:aZ X.env.scope X.N N' src sc) (hi:PI X target iter wi)
  (hg:∀cl C s H fp,PG (aK X N' sc cl C s H fp) target g) (ht:∀cl C s H fp,jg (aK X N' sc cl C s H fp) ifs tc) (he:∀cl C s H fp,PE (aK X N' sc cl C s H fp) elt te)
  (hf:X.fn x=true\/X.env.scope.names.lookup x=some .local:=by first | exact .inl rfl | exact .inr rfl | assumption)
  (hs:∀x,foldedSetIterable iter X.env x=pure x:=by intro _; rfl) :
  PS X (.Assign [.Name x pos'] (.ListComp elt [⟨target,iter,ifs,0⟩] sc pos) spos) (B0 (ET src wi g tc te) (bE i)):=by
 intro pins s σ H D I h
 rw [exec_Assign_Name_used _ _ _ _ hsw]
 refine Vi (wpAny_standAt (Vi ?_))
 show wpAny _ _ (comprehension _ _ _ _ _ _ _ _ >>= _) _ _ s
 refine Vi (wpAny_comprehension_free (use:=some (assign (.Name x pos') X.env)) rfl hs (c_ λy hy hk=>I.ok.has y.1 (S.free y hy hk)) S.kind (λy hy hl=>by rw [←hl]; exact S.uniq y hy) ?_)
 refine cn (hi pins s σ H _ I h) λv s1 h1=>cn h1 λitv s2 h2=>?_
 obtain⟨it,fp,tn,J,H2,e,I2,T,st2,f2,hW⟩:=h2
 subst e
 refine pN (Q:=λy H'=>D.nx (σ.set i (some y)) H') (RR:=λacc C=>compPost (model X.prog X.w) X.A X.xe (some (assign (.Name x pos') X.env)) _ acc C) hc S hg ht he I2 T st2 f2 hW ?_
 intro D' C s5 H' m I5 n5 fC q
 refine wpAny_assign_Name (md I5 hN hi' hx (show RelV (.ref D') (.ref D') from rfl) (λs6 I6 hsb=>?_) hf)
 obtain⟨a,sb,ha⟩:=hsb
 have Oz:C≠a:=by
  rcases ha with z | z
  ·rw [z]; exact fC.2.1
  ·exact λe=>fC.2.2.2.2.1 x a z e.symm
 refine⟨m,n5.sameBut sb Oz,λh' Px=>?_⟩
 refine Vj (Vj ?_)
 exact⟨_,H',I6.turned (t':=s6.toks) (λb o hb e=>(Px.2 b hb).trans e) fC.1 fC.2.1 fC.2.2.2.1 fC.2.2.2.2.1 fC.2.2.2.2.2,q⟩
end
def yU(E6:Scope)(ON N':List Str)(src:List (Option Nat))(sc:Scope):Bool :=
 sc.kind == .function&&E6.kind == .function&&sc.names.all (λy=>sc.names.lookup y.1==some y.2&&y.2 != .cell&&(y.2 != .free||E6.names.lookup y.1==some .cell||E6.names.lookup y.1==some .free)) &&
 src.length==N'.length&&(N'.zip src).all λy=>match y.2 with | none=>true | some j=>ON[j]? == some y.1&&sc.names.lookup y.1==some .free
theorem aZ.jT{E6:Scope}{ON N':List Str}{src:List (Option Nat)}{sc:Scope}(h:yU E6 ON N' src sc=true):aZ E6 ON N' src sc:=by
 unfold yU at h
 simp only [VW]at h
 obtain⟨⟨⟨⟨h1,h2⟩,h3⟩,h4⟩,h5⟩:=h
 have h3':=List.all_eq_true.mp h3
 have S1:=List.all_eq_true.mp h5
 refine⟨by simpa using h1,by simpa using h2,λy hy=>?_,λy hy=>?_,λy hy hf=>?_,by simpa using h4,λi x j e1 e2=>?_⟩
 ·have:=h3' y hy
  simp only [VW]at this
  simpa using this.1.1
 ·have:=h3' y hy
  simp only [VW]at this
  simpa using this.1.2
 ·have:=h3' y hy
  simp only [VW,Bool.or_eq_true]at this
  rcases this.2 with(z | z) | z
  ·rw [hf]at z; exact VY z (by decide)
  ·exact .inl (by simpa using z)
  ·exact .inr (by simpa using z)
 ·have m:(x,some j)∈N'.zip src:=by
   refine Vy (i:=i) ?_
   rw [List.getElem?_zip_eq_some]
   exact⟨e1,e2⟩
  have:=S1 _ m
  simp only [VW]at this
  exact⟨by simpa using this.1,by simpa using this.2⟩
section
variable{g:TG}{tc:TT}{te:TE}{D:Addr}{Q:VK}{qM:St}{H0:Hp}
theorem i9{lo:Int}{n:Nat}(Pv:Nat->St->List V->Hp->Prop)(h0:Pv 0 qM [] H0)(hD:∀i σ ys H,i<=n->Pv i σ ys H->H D=some (.lst ys)/\ys.length<=i)(hz:n<=sizeLine)
  (hs:∀i σ ys H,i<n->Pv i σ ys H->g (.int (lo+i)) σ H λdn H2=>tc dn H2 λb H3=>if b=true then te dn H3 λv H4=>H4 D=some (.lst ys)/\Pv (i+1) dn (ys++[v]) (upd H4 D (.lst (ys++[v])))else Pv (i+1) dn ys H3)
  (hd:∀σ ys H,Pv n σ ys H->Q (.ref D) H):∃W:Nat->Nat->St->List V->Hp->Prop,(∃m,W 0 m qM [] H0)/\pA (Jc lo n) g tc te D Q W:=by
 refine⟨λi m σ ys H=>m=n-i/\i<=n/\Pv i σ ys H,⟨n,by simp,VJ _,h0⟩,?_⟩
 rintro i m σ ys H ⟨rfl,hi,p⟩
 refine⟨(hD i σ ys H hi p).1,?_⟩
 by_cases hlt:i<n
 ·refine .inr ⟨hlt,Vu (hD i σ ys H hi p).2 (Vv hlt hz),Pv (i+1),λσ' ys' H' p'=>⟨n-(i+1),by omega,rfl,hlt,p'⟩,λx H' y=>?_⟩
  obtain⟨e,y⟩:=y
  subst e y
  exact hs i σ ys _ hlt p
 ·have e:i=n:=by omega
  subst e
  exact .inl ⟨Vn _,hd σ ys H p⟩
theorem dN{K:Wg}{a:Addr}{xs:List V}(Pv:Nat->St->List V->Hp->Prop)(h0:Pv 0 qM [] H0)(hD:∀i σ ys H,i<=xs.length->Pv i σ ys H->H D=some (.lst ys)/\ys.length<=i)(hl:∀i σ ys H,i<=xs.length->Pv i σ ys H->a_ K H a xs)(hz:xs.length<=sizeLine)
  (hs:∀i x σ ys H,xs[i]? = some x->Pv i σ ys H->g x σ H λdn H2=>tc dn H2 λb H3=>if b=true then te dn H3 λv H4=>H4 D=some (.lst ys)/\Pv (i+1) dn (ys++[v]) (upd H4 D (.lst (ys++[v])))else Pv (i+1) dn ys H3)
  (hd:∀σ ys H,Pv xs.length σ ys H->Q (.ref D) H):∃W:Nat->Nat->St->List V->Hp->Prop,(∃m,W 0 m qM [] H0)/\pA (Oc K a) g tc te D Q W:=by
 refine⟨λi m σ ys H=>m=xs.length-i/\i<=xs.length/\Pv i σ ys H,⟨xs.length,by simp,VJ _,h0⟩,?_⟩
 rintro i m σ ys H ⟨rfl,hi,p⟩
 have q:=hl i σ ys H hi p
 refine⟨(hD i σ ys H hi p).1,?_⟩
 by_cases hlt:i<xs.length
 ·refine .inr ⟨⟨xs,xs[i],q,by simp [hlt]⟩,Vu (hD i σ ys H hi p).2 (Vv hlt hz),Pv (i+1),λσ' ys' H' p'=>⟨xs.length-(i+1),by omega,rfl,hlt,p'⟩,λx H' y=>?_⟩
  obtain⟨e,y⟩:=y
  subst e
  exact hs i x σ ys _ (y xs q) p
 ·have e:i=xs.length:=by omega
  subst e
  exact .inl ⟨⟨xs,q,Vn _⟩,hd σ ys H p⟩
theorem cI{K:Wg}{a:Addr}{xs:List V}(Pv:Nat->St->List V->Hp->Prop)(h0:Pv 0 qM [] H0)(hD:∀i σ ys H,i<=xs.length->Pv i σ ys H->H D=some (.lst ys)/\ys.length<=i)(hl:∀i σ ys H,i<=xs.length->Pv i σ ys H->aH K H a xs)(hz:xs.length<=sizeLine)
  (hs:∀i x σ ys H,xs[i]? = some x->Pv i σ ys H->g x σ H λdn H2=>tc dn H2 λb H3=>if b=true then te dn H3 λv H4=>H4 D=some (.lst ys)/\Pv (i+1) dn (ys++[v]) (upd H4 D (.lst (ys++[v])))else Pv (i+1) dn ys H3)
  (hd:∀σ ys H,Pv xs.length σ ys H->Q (.ref D) H):∃W:Nat->Nat->St->List V->Hp->Prop,(∃m,W 0 m qM [] H0)/\pA (F5 K a) g tc te D Q W:=by
 refine⟨λi m σ ys H=>m=xs.length-i/\i<=xs.length/\Pv i σ ys H,⟨xs.length,by simp,VJ _,h0⟩,?_⟩
 rintro i m σ ys H ⟨rfl,hi,p⟩
 have q:=hl i σ ys H hi p
 refine⟨(hD i σ ys H hi p).1,?_⟩
 by_cases hlt:i<xs.length
 ·refine .inr ⟨⟨xs,xs[i],q,by simp [hlt]⟩,Vu (hD i σ ys H hi p).2 (Vv hlt hz),Pv (i+1),λσ' ys' H' p'=>⟨xs.length-(i+1),by omega,rfl,hlt,p'⟩,λx H' y=>?_⟩
  obtain⟨e,y⟩:=y
  subst e
  exact hs i x σ ys _ (y xs q) p
 ·have e:i=xs.length:=by omega
  subst e
  exact .inl ⟨⟨xs,q,Vn _⟩,hd σ ys H p⟩
end
section
variable{X:Cx}{N':List Str}{sc:Scope}{cl:List (Str×Addr)}{C:Addr}{s:Shared}{H:Hp}{fp:List Addr}
theorem uu{env:Env}{x:Str}(e:sc.names.lookup x=some .free):(relabel sc env).names.lookup x=some .cell\/(relabel sc env).names.lookup x=some .free:=by
 have gen:∀ns:List (Str×NameKind),ns.lookup x=some .free->(ns.map λ(n,k)=>if(k==NameKind.free&&env.scope.kind == .function&&env.kindOf n==some .cell)then(n,NameKind.cell)else(n,k)).lookup x=some .cell\/
   (ns.map λ(n,k)=>if(k==NameKind.free&&env.scope.kind == .function&&env.kindOf n==some .cell)then(n,NameKind.cell)else(n,k)).lookup x=some .free:=by
  intro ns
  induction ns with
  | nil=>intro h; cases h
  | cons y r ih =>
   obtain⟨n,k1⟩:=y
   intro h
   rw [Wb]
   dsimp only
   rw [Wa]at h
   by_cases hc:(k1==NameKind.free&&env.scope.kind == .function&&env.kindOf n==some .cell)=true
   ·rw [V0 hc,Wa]
    cases hx:x==n with
    | true=>exact .inl rfl
    | false=>rw [hx]at h; exact ih h
   ·rw [VZ hc,Wa]
    cases hx:x==n with
    | true =>
     rw [hx]at h
     exact .inr h
    | false=>rw [hx]at h; exact ih h
 exact gen sc.names e
theorem ft{env:Env}{x:Str}{k:NameKind}(hk:(k==NameKind.free)=false)(e:sc.names.lookup x=some k):(relabel sc env).names.lookup x=some k:=by
 have gen:∀ns:List (Str×NameKind),ns.lookup x=some k->(ns.map λ(n,k)=>if(k==NameKind.free&&env.scope.kind == .function&&env.kindOf n==some .cell)then(n,NameKind.cell)else(n,k)).lookup x=some k:=by
  intro ns
  induction ns with
  | nil=>intro h; cases h
  | cons y r ih =>
   obtain⟨n,k1⟩:=y
   intro h
   rw [Wb]
   dsimp only
   rw [Wa]at h
   cases hx:x==n with
   | true =>
    rw [hx]at h
    have h':k1=k:=VL h
    subst h'
    rw [VZ (by rw [hk]; simp),Wa,hx]
   | false =>
    rw [hx]at h
    split
    ·rw [Wa,hx]; exact ih h
    ·rw [Wa,hx]; exact ih h
 exact gen sc.names e
theorem zw(i:Nat){x:Str}{pos:Pos}(hN:N'[i]? = some x:=by rfl)(hv:sc.names.lookup x=some .free:=by rfl)(hd:(x==("__debug__" : Str))=false:=by decide)(hcd:(x==("__classdict__" : Str))=false:=by decide) :
  PE (aK X N' sc cl C s H fp) (.Name x pos) (bD i):=yp (X:=aK X N' sc cl C s H fp) hN (.inr (uu hv)) hd hcd
theorem jd(i:Nat){x:Str}{pos:Pos}(hN:N'[i]? = some x:=by rfl)(hv:sc.names.lookup x=some .local:=by rfl)(hd:(x==("__debug__" : Str))=false:=by decide)(hcd:(x==("__classdict__" : Str))=false:=by decide) :
  PE (aK X N' sc cl C s H fp) (.Name x pos) (bD i):=yp (X:=aK X N' sc cl C s H fp) hN (.inl (ft rfl hv)) hd hcd
theorem eI{i:Nat}{x:Str}{pos:Pos}(hn:N'.Nodup:=by decide +kernel)(hN:N'[i]? = some x:=by rfl)(hv:sc.names.lookup x=some .local:=by rfl) :
  PG (aK X N' sc cl C s H fp) (.Name x pos) (bE i):=bU (X:=aK X N' sc cl C s H fp) hn hN (.inl (ft rfl hv)) (.inr (ft rfl hv))
theorem yH{x:Str}(hv:sc.names.lookup x=some .globalImplicit:=by rfl):Gl (aK X N' sc cl C s H fp) x:=ft (env:=X.env) rfl hv
end
section
variable{X:Cx}
theorem tK:gu X (.builtin "divmod") (λxs H Q=>∃i j,xs=[.int i,.int j]/\(0<j/\j.natAbs.log2<9000)/\∀p,H p=none->Q (.ref p) (upd H p (.tup [.int (i / j),.int (i % j)]))):=by
 intro pins s σ H xs us Q I r h
 obtain⟨i,j,rfl,⟨h1,h2⟩,q⟩:=h
 obtain⟨u,w',rfl,⟨t,rfl⟩,⟨t',rfl⟩⟩:=vals2 r
 refine divmod_int (by omega) ?_ (.inl (PyProof.noPylong_of_log2 h2))
 rw [Int.fdiv_eq_ediv_of_nonneg i (by omega),Int.fmod_eq_emod_of_nonneg i (by omega)]
 have hn:H s.heap.objs.size=none:=I.hok.fresh (Vn _)
 refine⟨.ref s.heap.objs.size,_,?_,rfl,q _ hn⟩
 refine I.laid (λb o e=>Vk _ e) (Vn _) ⟨by simp only [VV,List.length_nil]; rw [sizeLine_eq]; decide,[.int (i / j) s.toks,.int (i % j) (s.toks+1)],.cons ⟨_,rfl⟩ (.cons ⟨_,rfl⟩ .nil),?_⟩
 exact⟨_,Vm s.heap rfl,rfl,⟨0,rfl⟩,rfl⟩
theorem yQ{ys:List Str}:∀{us:List Value},Vals (ys.map V.str) us->StrsAre us ys:=by
 induction ys with
 | nil=>intro us r; cases r; exact .nil
 | cons y ys ih =>
  intro us r
  cases r with
  | cons h t =>
   obtain⟨tk,rfl⟩:=h
   exact .cons _ _ (ih t)
def rJoin(K:Wg):V->List V->Hp->VK->Prop:=λx vs H Q=>∃sep p ys,x=.str sep/\vs=[.ref p]/\a_ K H p (ys.map V.str)/\(ys.map (·.length)).sum+ys.length*sep.length<=16777216/\Q (.str (Txt.join sep ys)) H
theorem HP:QD X "str.join" (rJoin X.K):=by
 intro pins s σ H x vs v us Q I rx rv h
 obtain⟨sep,p,ys,rfl,rfl,hS,hz,q⟩:=h
 obtain⟨tk,rfl⟩:=rx
 obtain⟨u,rfl,ru⟩:=vals1 rv
 cases ru
 obtain⟨its,r,pl,_⟩:=I.list hS
 exact join_list pl.isList (yQ (by simpa using r)) hz λt' k=>⟨.str (Txt.join sep ys),H,I.tok _,⟨_,rfl⟩,q⟩
end
def dy(H:Hp)(p:Addr):Prop:=∃a b:Int,H p=some (.lst [.int a,.int b])/\0<=a/\0<=b/\b<=2147483647
structure bp(p:Addr)(H H':Hp):Prop where
 keep:∀b o,b≠p->H b=some o->H' b=some o
 cq:dy H' p
theorem bp.refl{p:Addr}{H:Hp}(h:dy H p):bp p H H:=⟨λ_ _ _ e=>e,h⟩
theorem bp.trans{p:Addr}{H H1 H2:Hp}(a:bp p H H1)(b:bp p H1 H2):bp p H H2:=⟨λc o n e=>b.keep c o n (a.keep c o n e),b.cq⟩
theorem bp.same{p:Addr}{H H1:Hp}(h:dy H p)(s:aM H H1):bp p H H1:=⟨λc o _ e=>s c o e,let ⟨a,b,e,r⟩:=h; ⟨a,b,s _ _ e,r⟩⟩
theorem aj{H:Hp}{p:Addr}(h:H p=none)(o:HO):aM H (upd H p o):=λb u q=>by rw [aI (aV q h)]; exact q
theorem bp.new{p q:Addr}{H H1:Hp}{o:HO}(a:bp p H H1)(h:H1 q=none):bp p H (upd H1 q o):=a.trans (.same a.cq (aj h o))
def Ds(K:Wg):Sp:=λvs H Q _=>∃(a:Addr) (ns:List Int) (k:Int),vs=[.ref a,.int k]/\a_ K H a (ns.map V.int)/\0<=k/\∀n,Q (.int n) H
def Iw(K:Wg):Sp:=λvs H Q _=>∃(a:Addr) (ns:List Int) (k:Int),vs=[.ref a,.int k]/\a_ K H a (ns.map V.int)/\0<=k/\k<=1000/\∀p H',H p=none->aM H H'->dy H' p->Q (.ref p) H'
def dB:Sp:=λvs H Q _=>∃(p:Addr) (m:Int),vs=[.ref p,.int m]/\dy H p/\0<m/\m.natAbs.log2<9000/\∀d H',bp p H H'->0<=d->d<m->Q (.int d) H'
def qr:Sp:=λvs H Q _=>∃(p:Addr),vs=[.ref p]/\dy H p/\∀n H',bp p H H'->-(10 ^ 60)<n->n<10 ^ 60->Q (.int n) H'
def isW(x:Str):Prop:=1<=x.length/\x.length<=8/\∀c∈x.cps.toList,97<=c/\c<=122
def sG:Sp:=λvs H Q _=>∃(p:Addr),vs=[.ref p]/\dy H p/\∀x H',bp p H H'->isW x->Q (.str x) H'
theorem Ep{n:Nat}{i:Int}(h0:0<=i)(h1:i<n):wY n i=some i.toNat:=by
 unfold wY; rw [V0 h0,V0 h1]
theorem Em{xs:List V}{i:Int}(h0:0<=i)(h1:i<xs.length):∃v,jj xs i=some v/\xs[i.toNat]? = some v:=by
 have e:=Ep h0 h1
 have hj:i.toNat<xs.length:=by omega
 refine⟨xs[i.toNat],?_,by simp [hj]⟩
 unfold jj; rw [e]
 show xs[i.toNat]? = _
 simp [hj]
theorem zi{xs:List V}{i:Int}(h0:0<=i)(h1:i<xs.length):∃v,jj xs i=some v/\v∈xs:=by
 obtain⟨v,h,g⟩:=Em h0 h1
 exact⟨v,h,Vy g⟩
theorem Fq{z:Str}{i:Int}(h0:0<=i)(h1:i<(z.cps.toList.length:Nat)):∃c,jj z.cps.toList i=some c/\c∈z.cps.toList:=by
 have e:=Ep (n:=z.cps.toList.length) h0 h1
 have hj:i.toNat<z.cps.toList.length:=by omega
 refine⟨z.cps.toList[i.toNat],?_,List.getElem_mem hj⟩
 unfold jj; rw [e]
 show z.cps.toList[i.toNat]? = _
 simp only [hj,Vw]
theorem r_(g:Str):∀(ps:List Str) (acc:Array Nat),(ps.foldl (λacc p=>acc++g.cps++p.cps) acc).toList=acc.toList++(ps.map λp=>g.cps.toList++p.cps.toList).flatten
 | [],acc=>by simp
 | p::r,acc=>by
  rw [List.foldl_cons,r_ g r]
  simp [List.append_assoc]
theorem xN(g:Str)(ps:List Str):(Txt.join g ps).cps.toList=(ps.headD Str.empty).cps.toList++((ps.drop 1).map λp=>g.cps.toList++p.cps.toList).flatten:=by
 unfold Txt.join Builtin.Str.glued
 exact r_ g (ps.drop 1) _
def sgn(c:Nat):Str:=⟨#[c]⟩
theorem Ni:(("" : Str).cps).toList=[]:=by decide +kernel
theorem noStr:(Str.empty.cps).toList=[]:=by decide +kernel
theorem yN(zs:List Nat):(Txt.join "" (zs.map sgn)).cps.toList=zs:=by
 rw [xN,Ni]
 cases zs with
 | nil=>exact noStr
 | cons z r =>
  show [z]++((r.map sgn).map λp=>[]++p.cps.toList).flatten=z::r
  have e:((r.map sgn).map λp=>[]++p.cps.toList).flatten=r:=by
   induction r with
   | nil=>rfl
   | cons y r ih =>
    rw [Wb,Wb,List.flatten_cons,ih]
    rfl
  rw [e]
  rfl
theorem Fi(zs:List Nat):((zs.map sgn).map (·.length)).sum=zs.length:=by
 induction zs with
 | nil=>rfl
 | cons z r ih=>rw [Wb,Wb,List.sum_cons,ih,VV]; show 1+_=_; omega
theorem Jy{x:Str}{zs:List Nat}(e:x.cps.toList=zs)(h1:1<=zs.length)(h2:zs.length<=8)(h3:∀c∈zs,97<=c/\c<=122):isW x:=by
 have l:x.length=zs.length:=by show x.cps.size=_; rw [←e]; simp
 exact⟨by omega,by omega,by rw [e]; exact h3⟩
theorem bp.put{p D:Addr}{H H3 H4:Hp}{o:HO}(g3:bp p H H3)(hD:H3 D=none)(n:D≠p)(g4:bp p H H4):bp p H (upd H4 D o):=by
 refine⟨λb u nb e=>?_,?_⟩
 ·by_cases hb:b=D
  ·subst hb
   exact VY (g3.keep b u n e) (by rw [hD]; simp)
  ·rw [aI hb]
   exact g4.keep b u nb e
 ·obtain⟨x,y,e,r⟩:=g4.cq
  exact⟨x,y,by rw [aI (Ne.symm n)]; exact e,r⟩
theorem bp.ne{p D:Addr}{H H3:Hp}(g3:bp p H H3)(hD:H3 D=none):D≠p:=λe=>by subst e; obtain⟨_,_,z,_⟩:=g3.cq; rw [z]at hD; cases hD
section
variable{X:Cx}{x:Str}{pos:Pos}{c:Addr}{n:String}{a b:Expr}{ta tb:TE}
theorem DV(hg:Gl X x)(hm:X.mg x=none)(hv:bootBuiltins x=some (.type n))(hn:x≠"__name__":=by decide)(hd:(x==("__debug__" : Str))=false:=by decide):PE X (.Name x pos) (tC (.ty n)):=F9 hg hm hv (show RelV (.ty n) (.type n) from rfl) hn hd
theorem La(ha:PE X a ta)(hb:PE X b tb)(hs:oj b):PE X (.Subscript a b pos) (h_ (uy X.K) ta tb):=gn C5 ha hb hs
end
end L2
namespace PySem
open Sem (wp)
section
variable{prog:Program}{w:World}{A:Around}{E:Value->Shared->Prop}{h:Heap}{g:Array GenState}{d:Drawn}{t:Nat}{os:OsState}
variable{nm q:Str}{C N:Addr}{bs bm bmB:List Value}{hdct:Bool}{sn:List Str}{sub:List Value}{ab:Bool}{col:Option Bool}{dd:Option Addr}{k0 k1 k2 k3 k5:Option Value}{B newId initId:String}
theorem j5(F:ExcBaseFacts B newId initId bmB)(T:OwnTail h bmB bm){mN:Str->Option Value}{rest:List Value}{fI:Addr}{oI:Obj}{Q:Fin->Shared->Prop}
  (hC:h.get? C=some (excClassObj nm q C N bs bm hdct sn sub ab col dd k0 k1 k2 k3 k5 newId)) (hn:h.Ns N mN) (hi:mN "__init__"=some (.ref fI))
  (hfI:h.get? fI=some oI) (hfc:oI.cls=.type "function")
  (hq:∀h' e,Heap.MadeExcOf h h' e (.ref C) rest->
   wpAny (model prog w) A (call (.ref fI) (.ref e::rest)) (λr s'=>r=.none/\Q (.done (.ret (.ref e))) s') E ⟨h',g,d,t,os⟩) (hrest:rest.length<=sizeLine:=by size_fits) :
  wpAny (model prog w) A (Builtin.«type.__call__» ⟨.ref C::rest,[]⟩) Q E ⟨h,g,d,t,os⟩:=by
 repeat (first | with_reducible refine wpAny_loadPart_at hC ?_ | with_reducible refine wpAny_madeBy_exc hC ?_ | wp_step)
 refine codeAny_call_builtin_code (Code.quiet_builtin _ F.quiet) (wpAny_check_new_subT F T hC ?_)
 refine codeAny_exc_new_subT F T hC ?_ hrest
 show wpAny _ _ _ _ _ _
 have hC₁:=Vk {cls:=.ref C,data:=.fields #[.ref h.objs.size,.none,.none,.none,.bool false,.none]}
  (Vk {cls:=.type "tuple",data:=.seq rest.toArray} hC)
 have hfI₁:=Vk {cls:=.ref C,data:=.fields #[.ref h.objs.size,.none,.none,.none,.bool false,.none]}
  (Vk {cls:=.type "tuple",data:=.seq rest.toArray} hfI)
 have hn₁:((h.push {cls:=.type "tuple",data:=.seq rest.toArray}).push {cls:=.ref C,data:=.fields #[.ref h.objs.size,.none,.none,.none,.bool false,.none]}).Ns N mN :=
  let ⟨o,es,ep,e,r⟩:=hn; ⟨o,es,ep,Vk _ (Vk _ e),r⟩
 have hget:((h.push {cls:=.type "tuple",data:=.seq rest.toArray}).push
   {cls:=.ref C,data:=.fields #[.ref h.objs.size,.none,.none,.none,.bool false,.none]}).get? (h.objs.size+1)=some
   {cls:=.ref C,data:=.fields #[.ref h.objs.size,.none,.none,.none,.bool false,.none]}:=by heap_get
 have hcC:(Value.ref C::bm).contains (.ref C)=true:=by simp
 have T₁:=T.keeps (h':=(h.push {cls:=.type "tuple",data:=.seq rest.toArray}).push {cls:=.ref C,data:=.fields #[.ref h.objs.size,.none,.none,.none,.bool false,.none]})
  λb o e=>Vk _ (Vk _ e)
 unfold isInstance
 repeat (first | with_reducible refine wpAny_loadPart_at hget ?_ | (with_reducible refine wpAny_isSubtype_exc hC₁ ?_; rw [hcC]) | wp_step)
 show wpAny _ _ (typeLookup (.ref C) _) _ _ _
 refine wpAny_typeLookup_tail hC₁ hn₁ T₁ F.mroIs F.init.lookup ?_
 rw [hi]
 refine VS (Vi ?_)
 unfold bindSpecial
 refine Vi (wpAny_typeOf (T:="function") ⟨_,hfI₁,hfc⟩ ?_)
 rw [V0 (by decide)]
 refine Vj (Vi (VR (hq _ (h.objs.size+1) ⟨λb o hb=>Vk _ (Vk _ hb),Heap.get?_none_of_le (Nat.le_succ _),h.objs.size,hget,Heap.get?_none_of_le (Vn _),?_⟩) (λr s' hr=>?_) λ_ _ x=>x))
 ·exact Vk _ (Heap.get?_push_at rfl rfl)
 ·obtain⟨rfl,hQ⟩:=hr
  wp_walk
  exact hQ
theorem oz(F:ExcBaseFacts B newId initId bmB)(T:OwnTail h bmB bm){mN:Str->Option Value}{rest:List Value}{fI:Addr}{oI:Obj}{Q:Value->Shared->Prop}
  (hC:h.get? C=some (excClassObj nm q C N bs bm hdct sn sub ab col dd k0 k1 k2 k3 k5 newId)) (hn:h.Ns N mN) (hi:mN "__init__"=some (.ref fI))
  (hfI:h.get? fI=some oI) (hfc:oI.cls=.type "function")
  (hq:∀h' e,Heap.MadeExcOf h h' e (.ref C) rest->
   wpAny (model prog w) (A.under (.builtin "type.__call__" ⟨.ref C::rest,[]⟩)) (call (.ref fI) (.ref e::rest)) (λr s'=>r=.none/\Q (.ref e) s') E ⟨h',g,d,t,os⟩) (hrest:rest.length<=sizeLine:=by size_fits) :
  wpAny (model prog w) A (call (.ref C) rest) Q E ⟨h,g,d,t,os⟩:=by
 have f1:=tc_lookup
 have f2:=tc_bind (.ref C)
 have hT:(⟨h,g,d,t,os⟩ : Shared).TypeIs (.ref C) "type":=⟨_,hC,rfl⟩
 refine wpAny_call (codeAny_of_tree ?_)
 show wpAny _ _ (callAny (.ref C) _) _ _ _
 repeat (any_goals (first | assumption | with_reducible refine wpAny_loadPart_at hC ?_ | wp_step))
 refine⟨rfl,?_⟩
 refine codeAny_call_builtin_at (Code.quiet_builtin _ (by decide +kernel)) entry_typeCall (wpAny_check_type_call_sub hC (j5 (hrest:=hrest) F T hC hn hi hfI hfc λh' e hm=>?_))
 exact hq h' e hm
end
end PySem
namespace L2
open PySem PySem.Spec PyProof.Rows
abbrev Ao:List Value:=[.type "ValueError",.type "Exception",.type "BaseException",.type "object"]
abbrev xO(a C:Addr)(od:Option Addr):HO:=.ext λh=>∃fl sl,h.get? a=some {cls:=.ref C,dict:=od,data:=.fields fl,slots:=sl}
abbrev xD(d:Addr)(fs:List (Str×V)):HO:=.ext λh=>∃mA,h.Ns1 d mA/\∀f,jD (fs.lookup f) (mA f)
section
variable{P:Program}{w:World}{H:Hp}{h h':Heap}{a C d:Addr}{od:Option Addr}{fs:List (Str×V)}{o:HO}
theorem IG{fl:Array Value}{sl:Array (Option Value)}(e:h.get? a=some {cls:=.ref C,dict:=od,data:=.fields fl,slots:=sl}):cB P w H h a (xO a C od) :=
 ⟨⟨fl,sl,e⟩,⟨_,e⟩,λ_ _ ⟨fl,sl,e⟩ k=>⟨fl,sl,k _ e⟩⟩
theorem EC{mA:Str->Option Value}(n:h.Ns1 d mA)(r:∀f,jD (fs.lookup f) (mA f)):cB P w H h d (xD d fs) :=
 ⟨⟨mA,n,r⟩,(let ⟨o,_,_,e,_⟩:=n; ⟨o,e⟩),λ_ _ ⟨mA,⟨o,es,ep,e,rest⟩,r⟩ k=>⟨mA,⟨o,es,ep,k _ e,rest⟩,r⟩⟩
theorem cB.there(x:cB P w H h a o):∃u,h.get? a=some u:=by
 cases o with
 | lst xs=>obtain⟨_,_,_,_,e⟩:=x; exact⟨_,e⟩
 | tup xs=>obtain⟨_,_,_,p⟩:=x; obtain⟨o,e,_⟩:=p; exact⟨_,e⟩
 | dK kvs=>obtain⟨_,_,_,_,o,_,_,e,_⟩:=x; exact⟨_,e⟩
 | dT kvs=>obtain⟨_,_,_,_,o,_,_,e,_⟩:=x; exact⟨_,e⟩
 | set S n=>obtain⟨o,_,_,_,e,_⟩:=x; exact⟨_,e⟩
 | ins C dx fs=>obtain⟨_,_,_,e,_⟩:=x; exact⟨_,e⟩
 | own y=>obtain⟨_,e⟩:=x; exact⟨_,e⟩
 | xd fs=>obtain⟨_,⟨_,_,_,e,_⟩,_⟩:=x; exact⟨_,e⟩
 | Ov lo hi=>obtain⟨_,_,_,e⟩:=x; exact⟨_,e⟩
 | xX ob u=>obtain⟨e,_⟩:=x; exact⟨_,e⟩
 | IV ps=>exact⟨_,(show h.get? a=some _ from x)⟩
 | met f y=>exact⟨_,(show h.get? a=some _ from x)⟩
 | ext φ=>obtain⟨_,⟨_,e⟩,_⟩:=x; exact⟨_,e⟩
theorem ji.none_of(x:ji P w H h)(e:h.get? a=none):H a=none:=by
 cases q:H a with
 | none=>rfl
 | some u =>
  obtain⟨v,z⟩:=(x a u q).there
  rw [e]at z; cases z
theorem ji.laidN(x:ji P w H h)(k:∀b u,h.get? b=some u->h'.get? b=some u)(hp:h.get? a=none)(new:cB P w (upd H a o) h' a o):ji P w (upd H a o) h':=λb u e=>by
 have hn:=x.none_of hp
 by_cases hb:b=a
 ·subst hb; rw [ag]at e; cases e; exact new
 ·rw [aI hb]at e
  exact(x b u e).stay (λc v _ q=>k c v q) (λc q=>by rw [aI (aV q hn)]; exact q) λc xs q=>by rw [aI (aV q hn)]; exact q
theorem Un.laidN{fs ex:List Addr}(k:∀b u,h.get? b=some u->h'.get? b=some u)(hp:h.get? a=none)(hn:H a=none):Un fs ex H (upd H a o) h h' where
 keep:=λb u q _ _ _=>k b u q
 slot:=λb u q _ _ _=>⟨u.slots,k b u q⟩
 free:=λb u q n _=>by rw [aI (λe=>by rw [e,hp]at q; cases q)]; exact n
 there:=λb u q _=>⟨u,k b u q⟩
 tups:=λb xs q=>by rw [aI (aV q hn)]; exact q
 qk:=λb u xs q=>by rw [aI (aV q hn)]; exact q
 qO:=λb ps q=>⟨#[],by rw [aI (aV q hn),q]; simp⟩
end
structure lF(K:Wg)(C:Addr):Prop where
 cls:∃cd PE,PySem.W.clsIn K C=some cd/\cd.mro=.ref C :: .ref PE::Ao/\cd.hasDict=true
 mo:PySem.W.mroIn K C (.type "object")=some true
 sa:PySem.W.findIn K (.ref C) "__setattr__"=some (some (.builtin "object.__setattr__"))
 ga:PySem.W.findIn K (.ref C) "__getattribute__"=some (some (.builtin "BaseException.__getattribute__"))
 gh:PySem.W.findIn K (.ref C) "__getattr__"=some none
 mb:PySem.W.mroIn K C (.type "BaseException")=some true
 ca:PySem.W.findIn K (.ref C) "__class__"=some (some (.builtin "object.__class__"))
 cg:PySem.W.specialIn K (.builtin "object.__class__") "__get__"=some (some (.builtin "getset_descriptor.__get__"))
 ct:PySem.W.takesIn K (.builtin "object.__class__")=some true
theorem lF.hd{K:Wg}{C:Addr}(c:lF K C):PySem.W.hasDictIn K C=true:=by
 obtain⟨cd,PE,e,_,h⟩:=c.cls
 unfold PySem.W.hasDictIn
 rw [e]
 exact h
section
variable{prog:Program}{w:World}{A:Around}{E:Value->Shared->Prop}{R:Result->Shared->Prop}{s:Shared}{K:Wg}{x C:Addr}{ox:Obj}{od:Option Obj}{name:Str}{tk:Tok}{v:Value}
theorem rN(c:lF K C)(X:K.In s.heap)(I:PySem.W.InstAt s.heap x ox C od)(ht:PySem.W.findIn K (.ref C) name=some none)
  (h:∀b,wpAny (model prog w) A.in1 (Builtin.ObjectAttr.storeInOwnDict (.ref x) (.ref C) (.str name tk) name v b)
   (λfin s'=>match fin with | .done f=>R (.ok f) s' | .again c'=>c'.quiet=true/\codeAny (model prog w) A c' R s') (λe s'=>R (.error e) s') s) :
  codeAny (model prog w) A (.call (.builtin "object.__setattr__") ⟨[.ref x,.str name tk,v],[]⟩) R s:=by
 have SF:=PySem.F.store_object
 obtain⟨cd,PE,hc,hmro,_⟩:=c.cls
 have sub:PySem.W.Looks (model prog w) s.heap (isInstance (.ref x) (.type "object")) true:=I.type.andThen (PySem.W.looks_mroIn X c.mo)
 refine codeAny_call_builtin SF.slot.plain SF.entry (@PySem.W.check_slot (model prog w) _ _ s "object.__setattr__" "object" "__setattr__" (.ref x) [.str name tk,v] [] _ SF.kind SF.split sub (SF.args (.ref x) (.str name tk) v) ?_)
 have hm:PySem.W.Looks (model prog w) s.heap (mroOf (.ref C)) cd.mro:=(PySem.W.looks_clsIn X hc).andThen .now
 have L3:PySem.W.Looks (model prog w) s.heap (Builtin.ObjectAttr.storeTaker? none) none:=.now
 rw [PySem.W.osa_eq,refuse_eq]
 refine Vi (Vi (I.type.here (Vi (hm.here ?_))))
 rw [hmro,refuseLoop_ref,refuseLoop_ref,PySem.F.store_ValueError.passes]
 refine Vj (Vi (I.type.here (Vi ((PySem.W.looks_findIn X ht).here (Vi (L3.here ?_))))))
 exact h _
theorem Aj{Q:Fin->Shared->Prop}{r:Builtin.ObjectAttr.Found}(X:K.In s.heap)(I:PySem.W.InstAt s.heap x ox C od)(hf:PySem.W.findObj K C od name=some r)
  (h:wpAny (model prog w) A (match r with | .value v=>ret v | .bind g a=>Builtin.ObjectAttr.bindTo g a (.ref x) (.ref C) | .missing=>Builtin.ObjectAttr.noSuchAttribute (.ref x) name) Q E s) :
  wpAny (model prog w) A (Builtin.«object.__getattribute__» ⟨[.ref x,.str name tk],[]⟩) Q E s:=by
 obtain⟨hh',g,d,t,os⟩:=s
 have L0:=I.type (M:=model prog w)
 have L1:=PySem.W.looks_find (M:=model prog w) X I hf
 unfold Builtin.«object.__getattribute__»
 refine Vi (Vj ?_)
 refine Vi (Vj (Vi (L0.at (Vi (L1.at ?_)))))
 cases r with
 | value v=>exact h
 | bind g a=>exact h
 | missing=>exact h
theorem Jx{fill expr:Bool}{Q:Value->Shared->Prop}{r:Builtin.ObjectAttr.Found}(c:lF K C)(X:K.In s.heap)(I:PySem.W.InstAt s.heap x ox C od)(hf:PySem.W.findObj K C od name=some r)
  (h:codeAny (model prog w) A (.call (.builtin "BaseException.__getattribute__") ⟨[.ref x,.str name tk],[]⟩) (λr s'=>match r with | .ok (.ret v)=>wpAny (model prog w) A (handedOut v) Q E s' | _=>False) s) :
  wpAny (model prog w) A (getAttrBy (.ref x) (.str name tk) fill expr) Q E s:=by
 obtain⟨hh',g,d,t,os⟩:=s
 have L0:=I.type (M:=model prog w)
 have L1:=PySem.W.looks_findIn (M:=model prog w) X c.ga
 have LH:=PySem.W.looks_hook (M:=model prog w) (mc:=.ref C) (r:=none) X (by show PySem.W.findIn K (.ref C) "__getattr__"=_; exact c.gh)
 have hx2:(Value.builtin "BaseException.__getattribute__"==Value.builtin "object.__getattribute__")=false:=by decide +kernel
 have hx1:(onTheHeap (Value.ref C)&&Value.builtin "BaseException.__getattribute__"==Value.builtin "object.__getattribute__")=false:=by rw [hx2]; rfl
 have hx0:(expr&&onTheHeap (Value.builtin "BaseException.__getattribute__"))=false:=by cases expr <;> rfl
 unfold getAttrBy
 refine VS (Vi (L0.at (Vi (L1.at ?_))))
 show wpAny _ _ (if(onTheHeap (Value.ref C)&&Value.builtin "BaseException.__getattribute__"==Value.builtin "object.__getattribute__")=true then _ else _) _ _ _
 rw [VZ (by rw [hx1]; exact VA)]
 unfold getAttrByItsOwn
 refine Vi (LH.at (Vi (wpAny_attempt (VS ?_))))
 unfold callGetattribute
 rw [VZ (by rw [hx0]; exact VA)]
 unfold boundAndCalled
 rw [PySem.F.excAttr_ValueError.ga.bind]
 refine Vi (Vj (wpAny_call (codeAny_mono h λr s' z=>?_)))
 rcases r with e | (v | _ | _ | _) <;> first | exact z | exact z.elim
theorem B9{r:Builtin.ObjectAttr.Found}(c:lF K C)(X:K.In s.heap)(I:PySem.W.InstAt s.heap x ox C od)(hf:PySem.W.findObj K C od name=some r)
  (h:wpAny (model prog w) A.in1 (match r with | .value v=>ret v | .bind g a=>Builtin.ObjectAttr.bindTo g a (.ref x) (.ref C) | .missing=>Builtin.ObjectAttr.noSuchAttribute (.ref x) name)
   (λfin s'=>match fin with | .done f=>R (.ok f) s' | .again c'=>c'.quiet=true/\codeAny (model prog w) A c' R s') (λe s'=>R (.error e) s') s) :
  codeAny (model prog w) A (.call (.builtin "BaseException.__getattribute__") ⟨[.ref x,.str name tk],[]⟩) R s:=by
 have sub:PySem.W.Looks (model prog w) s.heap (isInstance (.ref x) (.type "BaseException")) true:=I.type.andThen (PySem.W.looks_mroIn X c.mb)
 exact codeAny_call_builtin PySem.F.excAttr_ValueError.ga.plain PySem.F.entry_bexc_ga (@PySem.W.check_slot (model prog w) _ _ s "BaseException.__getattribute__" "BaseException" "__getattribute__" (.ref x) [.str name tk] [] _ (by decide +kernel) (by decide +kernel) sub (PySem.F.args_bexc_ga _ _) (Aj X I hf h))
theorem xK{expr:Bool}{Q:Value->Shared->Prop}(c:lF K C)(X:K.In s.heap)(I:PySem.W.InstAt s.heap x ox C od)(hf:PySem.W.findObj K C od name=some (.value v))(hh:PySem.W.handedIn v=true)(h:Q v {s with toks:=s.toks+1}) :
  wpAny (model prog w) A (getAttr (.ref x) name expr) Q E s:=by
 unfold getAttr
 refine Vi (wpAny_mkText (Jx (s:={s with toks:=s.toks+1}) c X I hf (B9 (s:={s with toks:=s.toks+1}) c X I hf (Vj ?_))))
 show wpAny _ _ (handedOut v) _ _ _
 rw [PySem.W.handedOut_of hh]
 exact Vj h
end
section
variable{X:Cx}{pins:List (Addr×Obj)}{σ:St}{H:Hp}{s:Shared}{a C dx:Addr}{fs:List (Str×V)}{f:Str}{v y:V}{u:Value}{A:Around}{E:Value->Shared->Prop}
theorem Gn{b:Bool}{Q:Value->Shared->Prop}(I:Inv X pins σ H s)(e:H a=some (xO a C (some dx)))(ed:H dx=some (xD dx fs))(c:lF X.K C)(n:iV X.K C f)(l:fs.lookup f=some v)
  (h:∀u s',Inv X pins σ H s'->RelV v u->Q u s'):wpAny (model X.prog X.w) A (getAttr (.ref a) f b) Q E s:=by
 obtain⟨⟨fl,sl,ha⟩,_⟩:=I.hok a _ e
 obtain⟨⟨mA,ns,r⟩,_⟩:=I.hok dx _ ed
 obtain⟨od,ho,hl⟩:=my ns
 have J:PySem.W.InstAt s.heap a {cls:=.ref C,dict:=some dx,data:=.fields fl,slots:=sl} C (some od):=⟨ha,rfl,rfl,ho⟩
 have rf:=r f
 rw [l]at rf
 obtain⟨u,eu,ru⟩:=jD.some_of rf
 exact xK c I.jZ J (PySem.W.findObj_own c.hd n rfl (by rw [hl,eu])) (Ap ru) (h _ _ (I.tok _) ru)
theorem sD{mA:Str->Option Value}(r:∀f,jD (fs.lookup f) (mA f)):PySem.Within mA (fs.map (·.1)):=by
 intro g hg
 have rg:=r g
 cases e:fs.lookup g with
 | none=>rw [e]at rg; exact VY (jD.none_of rg) hg
 | some z =>
  clear rg r hg
  induction fs with
  | nil=>cases e
  | cons p t ih =>
   obtain⟨k,w⟩:=p
   rw [Wa]at e
   cases hk:g==k with
   | true =>
    have:g=k:=by simpa using hk
    subst this
    exact VU
   | false=>rw [hk]at e; exact Vz _ (ih e)
end
def mq(K:Wg)(C:Addr)(bmB:List Value)(newId:String)(ini:Option Value):Bool:=match K.lookup C with
 | some ⟨.type "type",_,.cls cd,sl⟩=>(match cd.mro,sl.toList with
  | .ref C'::bm,[_,_,_,_,some (.builtin n),_]=>C'==C&&n==newId && !cd.hasDel&&PySem.W.tailIn K bmB bm&&PySem.W.nsOkIn K cd.ns&&PySem.W.nsIn K cd.ns "__init__"==some ini
  | _,_=>false)
 | _=>false
theorem Nv{K:Wg}{h:Heap}{N:Addr}{mg:Str->Option Value}{n:Str}{r:Option Value}(X:K.In h)(G:h.Ns N mg)(e:PySem.W.nsIn K N n=some r):mg n=r:=by
 cases r with
 | none=>exact PySem.W.ns_none_of X G e
 | some v =>
  obtain⟨o,es,ep,ho,hd,_,hf⟩:=G
  unfold PySem.W.nsIn at e
  split at e
  ·rename_i c d es' n' sl q
   have:=X _ _ q
   rw [ho]at this
   cases this
   cases hd
   split at e
   ·rename_i en he
    cases e
    rw [←hf]
    unfold nsFind findBy
    rw [←Array.find?_toList,he]
    rfl
   ·split at e <;> cases e
  ·cases e
theorem r6{K:Wg}{h:Heap}{C:Addr}{bmB:List Value}{newId:String}{ini:Option Value}(X:K.In h)(q:mq K C bmB newId ini=true) :
  ∃bm N nm q bs hdct sn sub ab col dd k0 k1 k2 k3 k5 mN,h.get? C=some (excClassObj nm q C N bs bm hdct sn sub ab col dd k0 k1 k2 k3 k5 newId)/\h.Ns N mN/\mN "__init__"=ini/\OwnTail h bmB bm:=by
 unfold mq at q
 split at q
 ·rename_i dd cd sl ho
  split at q
  ·rename_i C' bm k0 k1 k2 k3 n k5 hm hs
   simp only [VW,beq_iff_eq,Bool.not_eq_true']at q
   obtain⟨⟨⟨⟨⟨rfl,rfl⟩,hdel⟩,ht⟩,hok⟩,hni⟩:=q
   obtain⟨nm,bs,mro,ns,qn,hd,sn,sub,ab,col,del⟩:=cd
   dsimp only at hm hdel hok hni
   subst hm hdel
   have hsl:sl = #[k0,k1,k2,k3,some (.builtin n),k5]:=by
    obtain⟨l⟩:=sl
    simp only at hs
    rw [hs]
   subst hsl
   exact⟨bm,ns,nm,qn,bs,hd,sn,sub,ab,col,dd,k0,k1,k2,k3,k5,_,X _ _ ho,.of_isNs (PySem.W.isNs_of_in X hok),Nv X (.of_isNs (PySem.W.isNs_of_in X hok)) hni,PySem.W.tail_of_in X ht⟩
  ·cases q
 ·cases q
section
variable{X:Cx}{o value:Expr}{ta tv:TE}{f:Str}{pos pos':Pos}
def Il(K:Wg)(ta:TE)(f:Str):TE:=λσ H Q=>ta σ H λx H1=>∃a C dx fs v,x=.ref a/\H1 a=some (xO a C (some dx))/\H1 dx=some (xD dx fs)/\lF K C/\iV K C f/\fs.lookup f=some v/\Q v H1
theorem Hy(he:PE X o ta)(hb:attributeBase o f X.env (eval o X.env)=eval o X.env):PE X (.Attribute o f pos) (Il X.K ta f):=by
 intro pins s σ H Q I h
 refine FW hb (cn (he pins s σ H _ I h) λu s1 ⟨x,H1,I1,rx,a,C,dx,fs,v,ex,ea,ed,c,n,l,q⟩=>?_)
 subst ex
 obtain rfl:u=Value.ref a:=rx
 exact Gn I1 ea ed c n l λu' s2 I2 ru=>⟨v,H1,I2,ru,q⟩
end
theorem Cn{H:Hp}{a:Addr}{o:HO}(h:H a=some o):upd H a o=H:=by
 funext b
 unfold upd
 by_cases e:b=a
 ·rw [V0 e,e,h]
 ·rw [VZ e]
structure Top(X:Cx)(L:Addr):Prop where
 ex:∃e0 r,X.stack=e0::r/\e0.frame=some L
 fr:X.env.frame=some L
structure JW(X:Cx)(H:Hp)(h:Heap)(T:Addr):Prop where
 free:H T=none
 new:X.s₀.heap.objs.size<=T
 pn:∀p∈X.pn,p.1≠T
 obj:∃oT ts,h.get? T=some oT/\oT.data=.fields ts/\3<ts.size
structure OC(X:Cx)(H:Hp)(h:Heap)(e C:Addr)(od:Option Addr):Prop where
 at_:H e=some (xO e C od)
 obj:∃vs sl,h.get? e=some {cls:=.ref C,dict:=od,data:=.fields vs,slots:=sl}/\(vs[1]? = some .none\/∃T,vs[1]? = some (.ref T)/\JW X H h T)
structure ou(X:Cx)(H:Hp)(h:Heap)(e C:Addr)(od:Option Addr)(T:Addr):Prop where
 at_:H e=some (xO e C od)
 obj:∃vs sl,h.get? e=some {cls:=.ref C,dict:=od,data:=.fields vs,slots:=sl}/\vs[1]? = some (.ref T)
 tb:JW X H h T
section
variable{X:Cx}{pins:List (Addr×Obj)}{σ:St}{H:Hp}{s:Shared}{e C T L:Addr}{od:Option Addr}
theorem ou.RL{h:Heap}(f:ou X H h e C od T):OC X H h e C od:=⟨f.at_,let ⟨vs,sl,h1,h2⟩:=f.obj; ⟨vs,sl,h1,.inr ⟨T,h2,f.tb⟩⟩⟩
theorem Inv.P9(I:Inv X [] σ H s)(t:JW X H s.heap T):T≠X.env.locals/\(∀x c,X.env.cells.lookup x=some c->c≠T)/\∀p∈X.pn++[],p.1≠T:=by
 obtain⟨oT,ts,h1,h2,_⟩:=t.obj
 refine⟨λz=>?_,λx c hc z=>?_,λp hp=>t.pn p (by simpa using hp)⟩
 ·obtain⟨m,⟨o',es,ep,ho',hd',_⟩,_⟩:=I.loc
  rw [←z,h1]at ho'
  cases ho'
  rw [hd']at h2
  cases h2
 ·obtain⟨v,o,ho,hd⟩:=I.cell x c hc
  rw [z,h1]at ho
  cases ho
  rw [hd]at h2
  cases h2
theorem Inv.mark(I:Inv X [] σ H s)(f:ou X H s.heap e C od T)(x:Value) :
  Inv X [] σ H {s with heap:=s.heap.update T (Obj.mapFields (·.setIfInBounds 3 x))}/\ou X H (s.heap.update T (Obj.mapFields (·.setIfInBounds 3 x))) e C od T:=by
 obtain⟨n1,n2,n3⟩:=I.P9 f.tb
 obtain⟨oT,ts,h1,h2,h3⟩:=f.tb.obj
 have keep:∀b o,b≠T->s.heap.get? b=some o->(s.heap.update T (Obj.mapFields (·.setIfInBounds 3 x))).get? b=some o:=λb o hb q=>(Heap.get?_update_other _ _ (Ne.symm hb)).trans q
 have neT:e≠T:=λz=>by have:=f.at_; rw [z,f.tb.free]at this; cases this
 obtain⟨vs,sl,g1,g2⟩:=f.obj
 have hd':=Obj.data_mapFields h2 (·.setIfInBounds 3 x)
 refine⟨I.turned (t':=s.toks) (it:=T) keep f.tb.free n1 (.inr f.tb.new) n2 n3,f.at_,⟨vs,sl,keep _ _ neT g1,g2⟩,f.tb.free,f.tb.new,f.tb.pn,_,_,Heap.get?_update_self _ h1 (Obj.isFreed_of_fields hd'),hd',by simpa using h3⟩
theorem iG{M:Model}{A:Around}{E:Value->Shared->Prop}{Q:Unit->Shared->Prop}(I:Inv X [] σ H s)(f:ou X H s.heap e C od T)(fr:Option Addr)
  (q:∀s',Inv X [] σ H s'->ou X H s'.heap e C od T->Q () s'):wpAny M A (setFlight (.ref e) fr) Q E s:=by
 obtain⟨vs,sl,g1,g2⟩:=f.obj
 obtain⟨oT,ts,h1,h2,h3⟩:=f.tb.obj
 unfold setFlight
 refine Vi (wpAny_field g1 rfl g2 ?_)
 have ne:(Value.ref T != Value.none)=true:=by simp
 rw [V0 ne]
 have z:=I.mark f (fr.elim .none λf=>rawInt f)
 exact wpAny_setField h1 h2 h3 (q _ z.1 z.2)
theorem BX{M:Model}{A:Around}{E:Value->Shared->Prop}{Q:Value->Shared->Prop}{env':Env}(hA:A.frames=some X.stack)(tp:Top X L)(hf:env'.frame=some L)(I:Inv X [] σ H s)
  (q:∀h',Inv X [] σ H {s with heap:=h'}->Heap.SlotsOnly (frs X.stack) s.heap h'->Q (.ref L) {s with heap:=h'}):wpAny M A (PySem.frameOf env') Q E s:=by
 obtain⟨e0,r,hst,h0⟩:=tp.ex
 have hl:=I.stack
 rw [hst]at hA hl
 have dw:((e0::r).dropWhile λx=>x.frame != env'.frame)=e0::r:=by rw [hf]; simp [List.dropWhile,h0]
 unfold PySem.frameOf
 refine Vi (wpAny_frameEnvs hA ?_)
 rw [dw]
 unfold frameObject
 refine Vi (Vi (wpAny_readyFrames_fun hl λh1 hs1=>Vj ?_))
 rw [h0]
 have e1:(e0::r).filterMap (·.frame)=frs X.stack:=by rw [hst]; rfl
 rw [e1]at hs1
 refine Vj (q h1 ?_ hs1)
 refine I.call (g':=s.gens) (t':=s.toks) (d':=s.drawn) (ch:=[]) ⟨λb o hb _ hf _=>(hs1.2.1 b hf).trans hb,λb o hb _ _ _=>hs1.2.2 b o hb,λ_ _ _ n _=>n,λb o hb _=>let ⟨sl,z⟩:=hs1.2.2 b o hb; ⟨_,z⟩,λ_ _ z=>z,λ_ _ _ z=>z,λb ps z=>⟨#[],by rw [z]; simp⟩⟩ (λb u hb=>?_) I.bare λb hb=>VY hb (by simp)
 have nf:∀c v,H c=some v->c∉frs X.stack:=λc v hc hm=>by rw [I.nI c hm]at hc; cases hc
 refine(I.hok b u hb).stay (λc v hc z=>(hs1.2.1 c ?_).trans z) (λ_ z=>z) λ_ _ z=>z
 rcases hc with rfl | hc
 ·exact nf c u hb
 ·exact nf c _ hc
theorem vg{M:Model}{A:Around}{E:Value->Shared->Prop}{Q:Unit->Shared->Prop}{env':Env}{head:Value}{hadNext:Bool}{vs:Array Value}{sl:Array (Option Value)}(hA:A.frames=some X.stack)(tp:Top X L)(hf:env'.frame=some L)(I:Inv X [] σ H s)
  (at_:H e=some (xO e C od)) (ho:s.heap.get? e=some {cls:=.ref C,dict:=od,data:=.fields vs,slots:=sl}) (h1:1<vs.size)
  (q:∀s' T,Inv X [] σ H s'->ou X H s'.heap e C od T->Q () s') :
  wpAny M A (do let a←PySem.frameOf env'; let pl←entryPlaceOf L hadNext; let b←EntryCells.newEntry head a .none (rawInt L) .none pl; setField (.ref e) 1 b) Q E s:=by
 refine Vi (BX hA tp hf I λh2 I2 hs2=>?_)
 refine Vi (wpAny_entryPlaceOf λpl hpl=>?_)
 unfold EntryCells.newEntry newFields
 refine Vi (VT ?_ (hpl.sizeOk5 _ _ _ _ _))
 have ne:e∉frs X.stack:=λhm=>by rw [I.nI e hm]at at_; cases at_
 have ho2:h2.get? e=some {cls:=.ref C,dict:=od,data:=.fields vs,slots:=sl}:=(hs2.2.1 e ne).trans ho
 generalize hTb:({cls:=.type "traceback",data:=.fields ([head,.ref L,.none,rawInt L,.none]++(if pl.isEmpty then List.replicate 6 Value.none else pl)).toArray}:Obj)=tb
 have hTd:tb.data=.fields ([head,.ref L,.none,rawInt L,.none]++(if pl.isEmpty then List.replicate 6 Value.none else pl)).toArray:=by rw [←hTb]
 have hnf:tb.isFreed=false:=by rw [←hTb]; rfl
 have I3:Inv X [] σ H {s with heap:=h2.push tb}:=I2.kept (t':=s.toks) λb o z=>Vk _ z
 have Rx:(h2.push tb).get? e=some {cls:=.ref C,dict:=od,data:=.fields vs,slots:=sl}:=Vk _ ho2
 have Lr:(h2.push tb).get? h2.objs.size=some tb:=Vm _ hnf
 have Qp:H h2.objs.size=none:=I2.hok.fresh (Vn _)
 have neT:h2.objs.size≠e:=λz=>by rw [z]at Qp; rw [Qp]at at_; cases at_
 have Sb:∀p∈X.pn,p.1≠h2.objs.size:=λp hp z=>by
  have:=(I2.pin p (List.mem_append_left _ hp)).1
  exact VY (Vl this) (by rw [z]; exact Nat.lt_irrefl _)
 refine wpAny_setField Rx rfl h1 ?_
 have QT:(Obj.mapFields (·.setIfInBounds 1 (Value.ref h2.objs.size)) {cls:=.ref C,dict:=od,data:=.fields vs,slots:=sl}) ={cls:=.ref C,dict:=od,data:=.fields (vs.setIfInBounds 1 (Value.ref h2.objs.size)),slots:=sl}:=rfl
 have Ls:=Heap.get?_update_self (Obj.mapFields (·.setIfInBounds 1 (Value.ref h2.objs.size))) Rx (by rw [QT]; rfl)
 rw [QT]at Ls
 have HZ:∀b o,b≠e->(h2.push tb).get? b=some o->((h2.push tb).update e (Obj.mapFields (·.setIfInBounds 1 (Value.ref h2.objs.size)))).get? b=some o:=λb o hb z=>(Heap.get?_update_other _ _ (Ne.symm hb)).trans z
 have I4:=I3.write (h':=(h2.push tb).update e (Obj.mapFields (·.setIfInBounds 1 (Value.ref h2.objs.size)))) (t':=s.toks) (x:=e) (e:=e) (o:=xO e C od) (by rw [at_]; trivial) (.inl rfl) HZ ⟨_,Ls⟩ (IG Ls)
 rw [Cn at_]at I4
 refine q _ h2.objs.size I4 ⟨at_,⟨_,sl,Ls,by simp [h1]⟩,Qp,Vo I2.sz (Vn _),Sb,tb,_,HZ _ _ neT Lr,hTd,?_⟩
 simp only [VB,Vs,VV,List.length_nil]
 omega
theorem nG{M:Model}{A:Around}{E:Value->Shared->Prop}{Q:Unit->Shared->Prop}{env':Env}(hA:A.frames=some X.stack)(tp:Top X L)(hf:env'.frame=some L)(I:Inv X [] σ H s)(f:OC X H s.heap e C od)
  (q:∀s' T,Inv X [] σ H s'->ou X H s'.heap e C od T->Q () s'):wpAny M A (noteFrame (.ref e) env') Q E s:=by
 obtain⟨vs,sl,ho,alt⟩:=f.obj
 unfold noteFrame
 simp only [hf]
 rcases alt with h1 | ⟨T,h1,tb⟩
 ·refine Vi (wpAny_field ho rfl h1 ?_)
  rw [VZ (by decide)]
  exact vg hA tp hf I f.at_ ho (Array.getElem?_eq_some_iff.mp h1).1 q
 ·have fT:ou X H s.heap e C od T:=⟨f.at_,⟨vs,sl,ho,h1⟩,tb⟩
  obtain⟨oT,ts,hT,hdT,h3⟩:=tb.obj
  refine Vi (wpAny_field ho rfl h1 ?_)
  have ne:(Value.ref T != Value.none)=true:=by simp
  rw [V0 ne]
  refine Vi (wpAny_field hT hdT (VQ h3) ?_)
  by_cases hm:(ts[3]==rawInt L)=true
  ·rw [V0 hm]
   exact Vj (q s T I fT)
  ·rw [VZ hm]
   have z:=I.mark fT .none
   refine Vi (wpAny_setField hT hdT h3 ?_)
   obtain⟨vs',sl',ho',h1'⟩:=z.2.obj
   exact vg hA tp hf z.1 f.at_ ho' (Array.getElem?_eq_some_iff.mp h1').1 q
end
def XE(X:Cx)(E:XK):Value->Shared->Prop:=λev s'=>∃e C od σ' H',ev=.ref e/\Inv X [] σ' H' s'/\OC X H' s'.heap e C od/\E (.ref C) (some e) H'
abbrev Cx.xs(X:Cx)(E:XK):Cx:=X.wish (XE X E)
def AG(P:Program)(w:World):rC:=λouter H s E ev s'=>∃e C od H',ev=.ref e/\s'.os=s.os/\AllBare s'.gens/\Un (frs outer) [] H H' s.heap s'.heap/\ji P w H' s'.heap/\E (.ref C) (some e) H'/\H' e=some (xO e C od)/\
 ∃vs sl T oT ts,s'.heap.get? e=some {cls:=.ref C,dict:=od,data:=.fields vs,slots:=sl}/\vs[1]? = some (.ref T)/\H' T=none/\s.heap.objs.size<=T/\s'.heap.get? T=some oT/\oT.data=.fields ts/\3<ts.size
theorem zQ{X:Cx}{E:XK}:Passes (AG X.prog X.w) (X.xs E) E:=by
 intro pins σ H s ev s' I h
 obtain⟨e,C,od,H',rfl,os,bare,un,hok,hE,at_,vs,sl,T,oT,ts,ho,h1,hT,hn,hoT,hd,h3⟩:=h
 have I':Inv (X.xs E) pins σ H' s':=I.call' (ch:=[]) os un hok bare λb z=>VY z (by simp)
 have I2:Inv X [] σ H' s':=(I'.i7 (pins':=[]) λp hp=>VY hp (by simp)).dj
 refine⟨e,C,od,σ,H',rfl,I2,⟨at_,vs,sl,ho,.inr ⟨T,h1,hT,Vo I.sz hn,λp hp z=>?_,oT,ts,hoT,hd,h3⟩⟩,hE⟩
 have:=(I.pin p (List.mem_append_left _ hp)).1
 exact VY (Vv (Vl this) hn) (by rw [z]; exact Nat.lt_irrefl _)
theorem Df{X:Cx}{E:XK}{L:Addr}(tp:Top X L):PassesOwn (model X.prog X.w) X.A X.env (XE X E):=by
 intro ev s' h
 obtain⟨e,C,od,σ,H,rfl,I,f,hE⟩:=h
 refine nG I.ok.frames tp tp.fr I f λs2 T I2 f2=>?_
 obtain⟨vs,sl,g1,g2⟩:=f2.obj
 show wpAny _ _ (field (.ref e) 1 >>= _) _ _ s2
 refine Vi (wpAny_field g1 rfl g2 ?_)
 have ne:¬((Value.ref T==Value.none)=true):=by simp
 rw [VZ ne]
 have fin:=iG (M:=model X.prog X.w) (A:=X.A) (E:=XE X E) (Q:=λ_ s3=>XE X E (.ref e) s3) I2 f2 X.env.frame λs3 I3 f3=>⟨e,C,od,σ,H,rfl,I3,f3.RL,hE⟩
 first
  | exact fin
  | exact Vi (Vj fin)
theorem B6{X:Cx}{E:XK}{L:Addr}{ev:Value}{s':Shared}{Q:Unit->Shared->Prop}{E2:Value->Shared->Prop}(tp:Top X L)(h:XE X E ev s')(q:∀e C od σ H s2 T,ev=.ref e->Inv X [] σ H s2->ou X H s2.heap e C od T->E (.ref C) (some e) H->Q () s2) :
  wpAny (model X.prog X.w) X.A (leaving X.env ev) Q E2 s':=by
 obtain⟨e,C,od,σ,H,rfl,I,f,hE⟩:=h
 unfold leaving
 exact Vi (nG I.ok.frames tp tp.fr I f λs2 T I2 f2=>iG I2 f2 none λs3 I3 f3=>q e C od σ H s3 T rfl I3 f3 hE)
section
variable{P:Program}{w:World}{K:Wg}{mg:Str->Option Value}{base:Heap}
theorem tO{CX:rC}{N:List Str}{qual:Str}{sc:Scope}{f:Addr}{cd:Value}{A:Around}{outer:List Env}{s:Shared}{H:Hp}{E:XK}:Top (qW CX P w K mg base N qual sc f cd A outer s H E) s.heap.objs.size:=⟨⟨_,_,rfl,rfl⟩,rfl⟩
theorem BD.Ln{x qual:Str}{st:Stmt}{f:Addr}{fd:FuncData}{N ps:List Str}{k:Nat}{sp:Sp}(F:BD K x qual st f fd)(S:ay N ps (ar st))(len:∀vs H Q E,sp vs H Q E->vs.length=ps.length)
  (hbody:∀(cdv:Value) (A:Around) (outer:List Env) (s:Shared) (H:Hp) (vs:List V) (Q:VK) (E:XK),eV k (A.deeper (envOfC qual (ar st) s.heap.objs.size f cdv))->sp vs H Q E->
   ∃t,qj ((qW (AG P w) P w K mg base N qual (ar st) f cdv A outer s H E).xs E) (cY st) t/\t {nx:=λ_ H'=>Q .non H',rt:=Q} (start N vs) H):e_ P w K mg base (AG P w) (k+1) f fd ps sp:=by
 obtain⟨oc,od,kV,doc,pm,an,cdv,ct,osl,rfl,lk,hcd⟩:=F.ex
 refine IF lk hcd S len λA outer s H vs Q E hr hsp=>?_
 obtain⟨t,h,q⟩:=hbody cdv A outer s H vs Q E hr hsp
 refine⟨t,λpins s1 σ H1 D I hw=>?_,q⟩
 refine VR (h pins s1 σ H1 D (I.wish _) hw) (λ_ _ z=>z.dj) λev s2 hx=>?_
 refine B6 tO hx λe C od dn H2 s3 T ee I3 f3 hE=>?_
 subst ee
 obtain⟨Ub,Sd,g1,g2⟩:=f3.obj
 obtain⟨oT,ts,t1,t2,t3⟩:=f3.tb.obj
 exact⟨e,C,od,H2,rfl,I3.os,I3.bare,I3.base,I3.hok,hE,f3.at_,Ub,Sd,T,oT,ts,g1,g2,f3.tb.free,f3.tb.new,t1,t2,t3⟩
end
end L2
namespace L2
open PySem PyProof.Rows
theorem fs{N P:List Str}{sc:Scope}(h1:sc.kind=.function:=by rfl)(h2:sc.isCoroutine=false:=by rfl)(h3:sc.isGenerator=false:=by rfl)(h4:N.Nodup:=by decide +kernel)(h5:N.take P.length=P:=by rfl)
  (h6:∀x∈P,sc.names.lookup x=some .local\/sc.names.lookup x=some .cell:=by decide +kernel) (h7:∀y∈sc.names,y.2≠ .free:=by decide +kernel):ay N P sc:=⟨h1,h2,h3,h4,h5,h6,h7⟩
theorem K1{P:List Value->Prop}(h:∀a0,P [a0]):∀us:List Value,us.length=1->P us:=λus hl=>match us,hl with | [_],_=>h _
theorem J6{P:List Value->Prop}(h:∀a0 a1,P [a0,a1]):∀us:List Value,us.length=2->P us:=λus hl=>match us,hl with | [_,_],_=>h _ _
theorem Gj{P:List Value->Prop}(h:∀a0 a1 a2,P [a0,a1,a2]):∀us:List Value,us.length=3->P us:=λus hl=>match us,hl with | [_,_,_],_=>h _ _ _
theorem Jo{P:List Value->Prop}(h:∀a0 a1 a2 a3,P [a0,a1,a2,a3]):∀us:List Value,us.length=4->P us:=λus hl=>match us,hl with | [_,_,_,_],_=>h _ _ _ _
theorem Jd{P:List Value->Prop}(h:∀a0 a1 a2 a3 a4,P [a0,a1,a2,a3,a4]):∀us:List Value,us.length=5->P us:=λus hl=>match us,hl with | [_,_,_,_,_],_=>h _ _ _ _ _
structure FA(K:Wg)(mg:Str->Option Value)(x:Str)(st:Stmt):Prop where
 ex:∃f fd,BD K x x st f fd/\mg x=some (.ref f)
structure bf(CX:rC)(P:Program)(w:World)(K:Wg)(mg:Str->Option Value)(base:Heap)(k:Nat)(x:Str)(ps:List Str)(sp:Sp):Prop where
 ex:∃f fd,e_ P w K mg base CX k f fd ps sp/\Binds K fd ps []/\PySem.W.keepIn K (.ref f)=true/\mg x=some (.ref f)
def FnAt(P:Program)(w:World)(K:Wg)(mg:Str->Option Value)(base:Heap)(k:Nat)(f:Addr)(ps:List Str)(sp:Sp):Prop :=
 ∃fd,e_ P w K mg base bc k f fd ps sp/\Binds K fd ps []/\PySem.W.keepIn K (.ref f)=true
section
variable{CX:rC}{P:Program}{w:World}{K:Wg}{mg:Str->Option Value}{base:Heap}{x:Str}{st:Stmt}{ps N:List Str}{sp:Sp}{j k:Nat}
theorem bf.m(G:bf CX P w K mg base j x ps sp)(h:j<=k:=by decide):bf CX P w K mg base k x ps sp:=by
 obtain⟨f,fd,h1,h2⟩:=G.ex
 exact⟨f,fd,h1.mono h,h2⟩
theorem bf.at{f:Addr}(G:bf bc P w K mg base k x ps sp)(h:mg x=some (.ref f)):FnAt P w K mg base k f ps sp:=by
 obtain⟨g,fd,h1,h2,h3,h4⟩:=G.ex
 cases h4.symm.trans h
 exact⟨fd,h1,h2,h3⟩
theorem FA.cal(F:FA K mg x st)(ok:∀f fd,BD K x x st f fd->e_ P w K mg base CX k f fd ps sp)
  (hb:∀(kV doc pm:Value) (an:Option Addr) (cdv ct:Value) (us:List Value),us.length=ps.length->bindArgs (PySem.W.fnOf x x (el st) (cY st) (ar st) .none kV doc pm an cdv ct) ⟨us,[]⟩=pure (ps.zip us):=by first
   | (intro _ _ _ _ _ _; refine L2.K1 ?_; intro _; rfl)
   | (intro _ _ _ _ _ _; refine L2.J6 ?_; intro _ _; rfl)
   | (intro _ _ _ _ _ _; refine L2.Gj ?_; intro _ _ _; rfl)
   | (intro _ _ _ _ _ _; refine L2.Jo ?_; intro _ _ _ _; rfl)
   | (intro _ _ _ _ _ _; refine L2.Jd ?_; intro _ _ _ _ _; rfl)):bf CX P w K mg base k x ps sp:=by
 obtain⟨f,fd,h1,h2⟩:=F.ex
 exact⟨f,fd,ok f fd h1,h1.binds hb,h1.kp,h2⟩
theorem FA.ok(F:FA K mg x st)(S:ay N ps (ar st))
  (hbody:∀(f:Addr) (cdv:Value) (A:Around) (outer:List Env) (s:Shared) (H:Hp) (vs:List V) (Q:VK) (E:XK),eV k (A.deeper (envOfC x (ar st) s.heap.objs.size f cdv))->sp vs H Q E->
   ∃t,qj (qW bc P w K mg base N x (ar st) f cdv A outer s H E).zv (cY st) t/\t {nx:=λ_ H'=>Q .non H',rt:=Q} (start N vs) H)
  (len:∀vs H Q E,sp vs H Q E->vs.length=ps.length:=by
   intro vs H Q E h
   first
   | exact V4 h
   | (obtain⟨_,rfl,_⟩:=h; rfl)
   | (obtain⟨_,_,rfl,_⟩:=h; rfl)
   | (obtain⟨_,_,_,rfl,_⟩:=h; rfl)
   | (obtain⟨_,_,_,_,rfl,_⟩:=h; rfl)
   | (obtain⟨_,_,_,_,_,rfl,_⟩:=h; rfl)
   | (obtain⟨_,_,_,_,_,_,rfl,_⟩:=h; rfl)
   | (obtain⟨_,_,_,_,_,_,_,rfl,_⟩:=h; rfl)
   | (obtain⟨_,_,_,_,_,_,_,_,rfl,_⟩:=h; rfl)
   | (obtain⟨_,_,_,_,_,_,_,_,_,rfl,_⟩:=h; rfl)
   | (obtain⟨_,_,_,_,_,_,_,_,_,_,rfl,_⟩:=h; rfl)
   | (obtain⟨_,_,_,_,_,_,_,_,_,_,_,rfl,_⟩:=h; rfl))
  (hb:∀(kV doc pm:Value) (an:Option Addr) (cdv ct:Value) (us:List Value),us.length=ps.length->bindArgs (PySem.W.fnOf x x (el st) (cY st) (ar st) .none kV doc pm an cdv ct) ⟨us,[]⟩=pure (ps.zip us):=by first
   | (intro _ _ _ _ _ _; refine L2.K1 ?_; intro _; rfl)
   | (intro _ _ _ _ _ _; refine L2.J6 ?_; intro _ _; rfl)
   | (intro _ _ _ _ _ _; refine L2.Gj ?_; intro _ _ _; rfl)
   | (intro _ _ _ _ _ _; refine L2.Jo ?_; intro _ _ _ _; rfl)
   | (intro _ _ _ _ _ _; refine L2.Jd ?_; intro _ _ _ _ _; rfl)):bf bc P w K mg base (k+1) x ps sp :=
 F.cal (λf fd h1=>h1.ok S len λcdv A outer s H vs Q E=>hbody f cdv A outer s H vs Q E) hb
theorem FA.Ln(F:FA K mg x st)(S:ay N ps (ar st))
  (hbody:∀(f:Addr) (cdv:Value) (A:Around) (outer:List Env) (s:Shared) (H:Hp) (vs:List V) (Q:VK) (E:XK),eV k (A.deeper (envOfC x (ar st) s.heap.objs.size f cdv))->sp vs H Q E->
   ∃t,qj ((qW (AG P w) P w K mg base N x (ar st) f cdv A outer s H E).xs E) (cY st) t/\t {nx:=λ_ H'=>Q .non H',rt:=Q} (start N vs) H)
  (len:∀vs H Q E,sp vs H Q E->vs.length=ps.length:=by
   intro vs H Q E h
   first
   | exact V4 h
   | (obtain⟨_,rfl,_⟩:=h; rfl)
   | (obtain⟨_,_,rfl,_⟩:=h; rfl)
   | (obtain⟨_,_,_,rfl,_⟩:=h; rfl)
   | (obtain⟨_,_,_,_,rfl,_⟩:=h; rfl)
   | (obtain⟨_,_,_,_,_,rfl,_⟩:=h; rfl)
   | (obtain⟨_,_,_,_,_,_,rfl,_⟩:=h; rfl)
   | (obtain⟨_,_,_,_,_,_,_,rfl,_⟩:=h; rfl)
   | (obtain⟨_,_,_,_,_,_,_,_,rfl,_⟩:=h; rfl)
   | (obtain⟨_,_,_,_,_,_,_,_,_,rfl,_⟩:=h; rfl)
   | (obtain⟨_,_,_,_,_,_,_,_,_,_,rfl,_⟩:=h; rfl)
   | (obtain⟨_,_,_,_,_,_,_,_,_,_,_,rfl,_⟩:=h; rfl))
  (hb:∀(kV doc pm:Value) (an:Option Addr) (cdv ct:Value) (us:List Value),us.length=ps.length->bindArgs (PySem.W.fnOf x x (el st) (cY st) (ar st) .none kV doc pm an cdv ct) ⟨us,[]⟩=pure (ps.zip us):=by first
   | (intro _ _ _ _ _ _; refine L2.K1 ?_; intro _; rfl)
   | (intro _ _ _ _ _ _; refine L2.J6 ?_; intro _ _; rfl)
   | (intro _ _ _ _ _ _; refine L2.Gj ?_; intro _ _ _; rfl)
   | (intro _ _ _ _ _ _; refine L2.Jo ?_; intro _ _ _ _; rfl)
   | (intro _ _ _ _ _ _; refine L2.Jd ?_; intro _ _ _ _ _; rfl)):bf (AG P w) P w K mg base (k+1) x ps sp :=
 F.cal (λf fd h1=>h1.Ln S len λcdv A outer s H vs Q E=>hbody f cdv A outer s H vs Q E) hb
end
section
variable{X:Cx}{CX:rC}{x:Str}{ps:List Str}{sp:Sp}{j k:Nat}{E:XK}{e:Expr}{es:List Expr}{t:TA}{p pos:Pos}
theorem vq(G:bf CX X.prog X.w X.K X.mg X.base j x ps sp)(hr:eV k X.A)(hg:Gl X x)(hx:Passes CX X E)(ha:PA X (e::es) t)(hl:j<=k:=by omega)
  (hdb:(x==("__debug__" : Str))=false:=by decide) (he:starEach (e::es) X.env=(false,eval e X.env)::starEach es X.env:=by rfl) (hpl:(backTo pos (starEach es X.env)).any (·.1)=false:=by rfl) :
  PE X (.Call (.Name x p) (e::es) [] pos) (ja sp [] E t):=by
 obtain⟨f,fd,h1,h2,h3,h4⟩:=G.ex
 exact Ft (h1.mono hl) hr hg h4 h3 h2 .nil hx ha hdb he hpl
end
section
variable{X:Cx}{a b e:Expr}{ta tb te:TE}{pos p pos2:Pos}{es:List Expr}{t:TA}
theorem az(K:Wg)(ha:PE X a ta)(hb:PE X b tb)(e:X.K=K:=by rfl)(hs:oj b:=by exact λ_ _=>rfl):PE X (.Subscript a b pos) (h_ (uy K) ta tb):=by subst e; exact gn C5 ha hb hs
theorem bo(K:Wg)(ha:PE X a ta)(hb:PE X b tb)(e:X.K=K:=by rfl)(hs:oj b:=by exact λ_ _=>rfl):PE X (.Subscript a b pos) (h_ (yt K) ta tb):=by subst e; exact gn fP ha hb hs
theorem aU{op:CmpOp}{r:R2}(ho:je X (compareOp op) r)(ha:PE X a ta)(hb:PE X b tb)(hm:behindInMarks op b=false:=by exact C7 _):PT X (.Compare a [op] [b] pos) (sq (h_ r ta tb)):=dk ho ha hb hm
theorem bT{op:CmpOp}{r:R2}(ho:je X (compareOp op) r)(ha:PE X a ta)(hb:PE X b tb)(hm:behindInMarks op b=false:=by exact C7 _):PE X (.Compare a [op] [b] pos) (h_ r ta tb):=fL ho ha hb hm
theorem av{x:Str}{ps:List Str}{sp:Sp}{j k:Nat}(G:bf bc X.prog X.w X.K X.mg X.base j x ps sp)(hr:eV k X.A)(ha:PA X (e::es) t)(hg:Gl X x:=by rfl)(hl:j<=k:=by omega)
  (hdb:(x==("__debug__" : Str))=false:=by decide) (he:starEach (e::es) X.env=(false,eval e X.env)::starEach es X.env:=by rfl) (hpl:(backTo pos (starEach es X.env)).any (·.1)=false:=by rfl) :
  PE X (.Call (.Name x p) (e::es) [] pos) (ja sp [] E0 t):=vq G hr hg v7 ha hl hdb he hpl
theorem ax(he:PE X e te):qj X [.Return (some e) pos] (Ab te):=bM (Ca he)
theorem aN{c:Expr}{tc:TT}{u:TS}{rest:List Stmt}(hc:PT X c tc)(he:PE X e te)(hr:qj X rest u):qj X (.If c [.Return (some e) pos] [] pos2::rest) (xB (DK tc (Ab te) rV) u):=aq (du hc (ax he) b9) hr
end
theorem iD{A:Around}{k:Nat}(hr:eV k A):A.units+8<cLine:=by have:=hr.un; omega
theorem yf:0<=sizeLine:=by decide
theorem dH:1<=sizeLine:=by decide
theorem cN:2<=sizeLine:=by decide
theorem fM:3<=sizeLine:=by decide
theorem LX:4<=sizeLine:=by decide
theorem uJ:5<=sizeLine:=by decide
theorem L8:6<=sizeLine:=by decide
theorem O_:7<=sizeLine:=by decide
theorem MR:12<=sizeLine:=by decide
def FK(K:Wg)(x:Str)(st:Stmt)(f:Addr):Prop:=PySem.W.nsIn K mainGlobals x=some (some (.ref f))/\∃fd,BD K x x st f fd
theorem FK.fa{K:Wg}{h:Heap}{mg:Str->Option Value}{x:Str}{st:Stmt}{f:Addr}(F:FK K x st f)(X:K.In h)(G:h.Ns mainGlobals mg):FA K mg x st:=by
 obtain⟨h1,fd,h2⟩:=F
 exact⟨f,fd,h2,Wf X G h1⟩
theorem FK.h{K:Wg}{h:Heap}{mg:Str->Option Value}{x:Str}{st:Stmt}{f:Addr}(F:FK K x st f)(X:K.In h)(G:h.Ns mainGlobals mg):mg x=some (.ref f):=Wf X G F.1
theorem LP{K:Wg}{x:Str}{st:Stmt}{f:Addr}{oc:Value}{od an:Option Addr}{osl:Array (Option Value)}{kV doc pm cdv ct:Value}(a:PySem.W.nsIn K mainGlobals x=some (some (.ref f)))
  (l:K.lookup f=some ⟨oc,od,.func (PySem.W.fnOf x x (el st) (cY st) (ar st) .none kV doc pm an cdv ct),osl⟩) (c:PySem.W.codeIn K cdv x=true) (k:PySem.W.keepIn K (.ref f)=true):FK K x st f :=
 ⟨a,_,xq l c k⟩
end L2
namespace My
open PySem L2
def top(i:Nat):Stmt:=PySem.Challenge.pw_rowpipes_k26_whole_heads_of_parts.main.body.getD i (.Pass ⟨0,0,0,0⟩)
abbrev Ei:Stmt:=top 51
abbrev Je:Stmt:=top 52
abbrev CG:Stmt:=top 53
abbrev sJ:Stmt:=top 54
abbrev DL:Stmt:=top 55
abbrev LF:List Str:=["_law_script","_law_k"]
abbrev OS:List Str:=["_law_script","_law_k","_law_cell_here"]
abbrev Md:List Str:=["_law_pot_here","_law_many_here","_law_digit"]
abbrev HC:List Str:=["_law_pot_here","_law_near","_law_far"]
abbrev LZ:List Str:=["_law_pot_here","_law_letters","_law_some"]
theorem J0:ay LF ["_law_script","_law_k"] (ar Ei):=fs
theorem Iy:ay OS ["_law_script","_law_k"] (ar Je):=fs
theorem Ed:ay Md ["_law_pot_here","_law_many_here"] (ar CG):=fs
theorem pP:ay HC ["_law_pot_here"] (ar sJ):=fs
theorem xS:ay LZ ["_law_pot_here"] (ar DL):=fs
structure jH(mg:Str->Option Value):Prop where
 len:mg "len"=none
 max:mg "max"=none
 abs:mg "abs"=none
 divmod:mg "divmod"=none
 range:mg "range"=none
 tuple:mg "tuple"=none
 list:mg "list"=none
 isinstance:mg "isinstance"=none
variable{P:Program}{w:World}{K:Wg}{mg:Str->Option Value}{base:Heap}
theorem FC(B:jH mg)(F:FA K mg "_law_cell_at" Ei) :
  bf bc P w K mg base 1 "_law_cell_at" ["_law_script","_law_k"] (Ds K):=by
 refine F.ok J0 λf cdv A outer s H vs Q E hr h=>?_
 obtain⟨a,ns,k,rfl,hS,h0,q⟩:=h
 refine⟨_,aq (du (aU C8 (pv 1) (bg bA rfl B.len We (ae (pv 0) ah))) (ax (gn fP (pv 0) (pv 1) (λ_ _=>rfl))) b9)
  (ax ai),?_⟩
 refine⟨_,rfl,_,rfl,a,_,rfl,.inl hS,_,_,rfl,rfl,_,rfl,?_⟩
 refine cJ (λc=>?_) (λc=>?_)
 ·have c':k<(((ns.map V.int).length:Nat):Int):=VX c
  obtain⟨v,hv,hg⟩:=Em h0 c'
  rw [VO]at hg
  cases e:ns[k.toNat]? with
  | none=>rw [e]at hg; cases hg
  | some n =>
   rw [e]at hg
   have hg':V.int n=v:=VL hg
   subst hg'
   exact⟨_,rfl,_,rfl,a,_,_,_,rfl,rfl,hS,hv,q n⟩
 ·exact q 0
theorem I_(B:jH mg)(F:FA K mg "_law_pot" Je)(G:bf bc P w K mg base 1 "_law_cell_at" ["_law_script","_law_k"] (Ds K)) :
  bf bc P w K mg base 2 "_law_pot" ["_law_script","_law_k"] (Iw K):=by
 refine F.ok Iy λf cdv A outer s H vs Q E hr h=>?_
 obtain⟨a,ns,k,rfl,hS,h0,h1,q⟩:=h
 refine⟨_,aq (aL (i:=2) Iy.nd rfl (V2 rfl) (av G hr (ae (pv 0) (ae (pv 1) ah))))
  (ax (aQ (ae (bg (AD rfl) rfl B.max PyProof.Rows.boot_max (ae ai (ae (aD bO (pv 2) (aD mM ai ai)) ah)))
   (ae (aD cL (aD pI (aD cL (aD cL (bg Es rfl B.abs PyProof.Rows.boot_abs (ae (pv 2) ah)) (aD kN ai (pv 1))) ai) ai) ai) ah)))),?_⟩
 refine⟨_,rfl,_,rfl,a,ns,k,rfl,hS,h0,λn=>?_⟩
 refine⟨_,rfl,_,_,rfl,rfl,⟨by decide,by decide,by decide⟩,_,_,rfl,rfl,_,_,rfl,?_⟩
 refine⟨_,rfl,_,rfl,_,rfl,_,_,rfl,rfl,.inl ⟨by decide,by decide⟩,_,_,rfl,rfl,_,_,rfl,rfl,_,_,rfl,rfl,(by show(0:Int)<2147483629; decide),_,_,rfl,rfl,cN,λp hp=>?_⟩
 refine q p _ hp (aj hp _) ⟨_,_,ag,?_,?_,?_⟩
 ·split <;> omega
 ·have:=Int.emod_nonneg ((if n<0 then -n else n)+7919*k+3) (show(2147483629:Int)≠0 by decide)
  omega
 ·have:=Int.emod_lt_of_pos ((if n<0 then -n else n)+7919*k+3) (show(0:Int)<2147483629 by decide)
  omega
theorem FX(B:jH mg)(F:FA K mg "_law_draw" CG) :
  bf bc P w K mg base 1 "_law_draw" ["_law_pot_here","_law_many_here"] dB:=by
 refine F.ok Ed λf cdv A outer s H vs Q E hr h=>?_
 obtain⟨p,m,rfl,⟨a,b,hp,ha,hb,hb'⟩,hm,hm',q⟩:=h
 refine⟨_,aq (du (aU gG (gn fP (pv 0) ai (λ_ _=>rfl)) ai)
   (aq (oP (bg tK rfl B.divmod PyProof.Rows.boot_divmod (ae (gn fP (pv 0) ai (λ_ _=>rfl)) (ae (pv 1) ah)))
    (cG rfl (aA (Ex (pv 0) ai set_list) (aA (bU (i:=2) Ed.nd rfl (V2 rfl)) bY))))
   (ax (pv 2))) b9)
  (aq (oP (aD pI (aD cL (aD kN (gn fP (pv 0) ai (λ_ _=>rfl)) ai) ai) ai) (Ex (pv 0) ai set_list))
  (ax (aD pI (aD y9 (aD pI (aD kN (gn fP (pv 0) ai (λ_ _=>rfl)) (gn fP (pv 0) ai (λ_ _=>rfl))) ai) ai) (pv 1)))),?_⟩
 refine⟨_,rfl,p,_,_,_,rfl,rfl,a_.of hp,rfl,_,_,rfl,rfl,_,rfl,?_⟩
 refine cJ (λc=>?_) (λc=>?_)
 ·refine⟨_,rfl,p,_,_,_,rfl,rfl,a_.of hp,rfl,_,rfl,_,_,rfl,⟨hm,hm'⟩,λt ht=>?_⟩
  have np:p≠t:=aV hp ht
  refine⟨t,_,rfl,aH.of ag,rfl,_,_,rfl,_,rfl,p,_,_,0,rfl,rfl,(by rw [aI np]; exact hp),rfl,_,_,rfl,rfl,?_⟩
  refine⟨_,rfl,q _ _ ⟨λc o nc e=>?_,_,_,ag,Int.ediv_nonneg ha (by omega),hb,hb'⟩ (Int.emod_nonneg _ (by omega)) (Int.emod_lt_of_pos _ hm)⟩
  rw [aI nc,aI (aV e ht)]
  exact e
 ·have h1:=Int.emod_nonneg (b*48271+11) (show(2147483647:Int)≠0 by decide)
  have h2:=Int.emod_lt_of_pos (b*48271+11) (show(0:Int)<2147483647 by decide)
  refine⟨_,rfl,p,_,_,_,rfl,rfl,a_.of hp,rfl,_,_,rfl,rfl,.inr ⟨by decide,by decide⟩,_,_,rfl,rfl,_,_,rfl,rfl,(by show(0:Int)<2147483647; decide),_,rfl,p,_,_,1,rfl,rfl,hp,rfl,?_⟩
  refine⟨_,rfl,p,_,_,_,rfl,rfl,a_.of ag,rfl,_,rfl,p,_,_,_,rfl,rfl,a_.of ag,rfl,_,_,rfl,rfl,.inl ⟨?_,?_⟩,_,_,rfl,rfl,(by show(0:Int)<2147483629; decide),_,_,rfl,rfl,⟨by decide,by decide⟩,_,rfl,_,_,rfl,rfl,hm,?_⟩
  ·have e:((2:Int) ^ 64)=18446744073709551616:=by decide
   rw [e]; omega
  ·have e:((2:Int) ^ 64)=18446744073709551616:=by decide
   rw [e]; omega
  ·exact q _ _ ⟨λc o nc e=>by rw [aI nc]; exact e,_,_,ag,ha,h1,by omega⟩ (Int.emod_nonneg _ (by omega)) (Int.emod_lt_of_pos _ hm)
theorem A1(F:FA K mg "_law_number" sJ)(G:bf bc P w K mg base 1 "_law_draw" ["_law_pot_here","_law_many_here"] dB) :
  bf bc P w K mg base 2 "_law_number" ["_law_pot_here"] qr:=by
 refine F.ok pP λf cdv A outer s H vs Q E hr h=>?_
 obtain⟨p,rfl,hP,q⟩:=h
 refine⟨_,aq (aL (i:=1) pP.nd rfl (V2 rfl) (aD bO (av G hr (ae (pv 0) (ae ai ah))) ai))
  (aN (aU gG (av G hr (ae (pv 0) (ae ai ah))) ai) (pv 1)
  (aq (aL (i:=2) pP.nd rfl (V2 rfl) (aQ (ae (aD cL (aD bO (av G hr (ae (pv 0) (ae (aD bO (aD kN ai (aD mM ai ai)) ai) ah))) (aD mM ai ai)) ai)
   (ae (aD bO (aD mM ai ai) ai) (ae (aD bO ai (aD mM ai ai)) ah)))))
  (ax (gn fP (pv 2) (aD cL (aD y9 (av G hr (ae (pv 0) (ae ai ah))) ai) (aD pI (pv 1) ai)) (λ_ _=>rfl))))),?_⟩
 refine⟨_,rfl,p,_,rfl,hP,by decide,by decide,λd1 H1 g1 a1 b1=>⟨_,_,rfl,rfl,?_⟩⟩
 refine⟨_,rfl,p,_,rfl,g1.cq,by decide,by decide,λd2 H2 g2 a2 b2=>⟨_,_,rfl,rfl,_,rfl,?_⟩⟩
 have Ig:((10:Int) ^ (60:Nat))=1000000000000000000000000000000000000000000000000000000000000:=by decide
 refine cJ (λc=>?_) (λc=>?_)
 ·exact⟨_,rfl,q _ _ (g1.trans g2) (by rw [Ig]; omega) (by rw [Ig]; omega)⟩
 ·refine⟨_,rfl,_,_,rfl,rfl,⟨by decide,by decide,by decide⟩,_,_,rfl,rfl,.inl ⟨by decide,by decide⟩,_,_,rfl,rfl,p,_,rfl,g2.cq,by decide +kernel,by decide +kernel,λd3 H3 g3 a3 b3=>?_⟩
  have Vf:d3<1999999999999999999999999999999999999999999999999999999999999:=b3
  refine⟨_,_,rfl,rfl,⟨by decide,by decide,by decide⟩,_,_,rfl,rfl,_,_,rfl,rfl,_,_,rfl,rfl,⟨by decide,by decide,by decide⟩,_,_,rfl,rfl,_,_,rfl,rfl,⟨by decide,by decide,by decide⟩,_,_,rfl,rfl,fM,λl hl=>?_⟩
  have KJ:=(g1.trans g2).trans g3
  have n1:l≠p:=λe=>by subst e; obtain⟨_,_,z,_⟩:=KJ.cq; rw [z]at hl; cases hl
  refine⟨_,rfl,_,rfl,p,_,rfl,(KJ.new hl).cq,by decide,by decide,λd4 H4 g4 a4 b4=>?_⟩
  have Tg:=g4.keep l _ n1 ag
  refine⟨_,_,rfl,rfl,⟨by decide,by decide⟩,_,rfl,_,_,rfl,rfl,(by show(0:Int)<2; decide),_,_,rfl,rfl,?_⟩
  have i0:0<=d4 / 2+(d1-15) % 2:=by omega
  have i1:d4 / 2+(d1-15) % 2<(3:Nat):=by omega
  obtain⟨v,hv,hm⟩:=zi (xs:=[V.int (d3-10 ^ (60:Int).toNat+1),V.int (10 ^ (60:Int).toNat-1),V.int (1-10 ^ (60:Int).toNat)]) i0 i1
  have good:∃n:Int,v=.int n/\-(10 ^ 60)<n/\n<10 ^ 60:=by
   have Bh:((10:Int) ^ ((60:Int).toNat))=1000000000000000000000000000000000000000000000000000000000000:=by decide
   simp only [VF,V1,or_false]at hm
   rcases hm with rfl | rfl | rfl
   ·exact⟨_,rfl,by rw [Ig,Bh]; omega,by rw [Ig,Bh]; omega⟩
   ·exact⟨_,rfl,by rw [Ig,Bh]; omega,by rw [Ig,Bh]; omega⟩
   ·exact⟨_,rfl,by rw [Ig,Bh]; omega,by rw [Ig,Bh]; omega⟩
  obtain⟨n,rfl,q1,q2⟩:=good
  exact⟨l,_,_,_,rfl,rfl,a_.of Tg,hv,q n _ ((KJ.new hl).trans g4) q1 q2⟩
def letters:Str:="abcdefghijklmnopqrstuvwxyz"
theorem yr:∀c∈letters.cps.toList,97<=c/\c<=122:=by decide +kernel
theorem uZ:letters.cps.toList.length=26:=by decide +kernel
theorem FI(B:jH mg)(F:FA K mg "_law_word" DL)(G:bf bc P w K mg base 1 "_law_draw" ["_law_pot_here","_law_many_here"] dB) :
  bf bc P w K mg base 2 "_law_word" ["_law_pot_here"] sG:=by
 refine F.ok xS λf cdv A outer s H vs Q E hr h=>?_
 obtain⟨p,rfl,hP,q⟩:=h
 refine⟨_,aq (aL (i:=1) xS.nd rfl (Or.inr rfl) ao)
  (aq (aL (i:=2) xS.nd rfl (Or.inr rfl) (gn fP (aQ (ae ai (ae ai ah))) (av G hr (ae (pv 0) (ae ai ah))) (λ_ _=>rfl)))
  (ax (lD PySem.F.plainAttrs_str PySem.F.slot_str_join PySem.F.type_str_join HP ao
   (ae (bx (N':=["_law_k","_law_pot_here","_law_letters","_law_some"]) (src:=[none,some 0,some 1,some 2]) rfl (aZ.jT (by kernel_rfl))
    (c8 rfl B.range (ae (aD cL ai (aD kN (av G hr (ae (pv 0) (ae ai ah))) (av G hr (ae (pv 0) (ae ai ah))))) ah))
    (λcl C s H fp=>eI (i:=0))
    (λcl C s H fp=>aX)
    (λcl C s H fp=>gn K_ (zw 2) (av (hg:=yH) G hr (ae (zw 1) (ae (zw 3) ah))) (λ_ _=>rfl))) ah)))),?_⟩
 refine⟨cN,λl hl=>?_⟩
 have n1:l≠p:=λe=>by subst e; obtain⟨_,_,z,_⟩:=hP; rw [z]at hl; cases hl
 refine⟨_,rfl,p,_,rfl,((bp.refl hP).new hl).cq,by decide,by decide,λd1 H1 g1 a1 b1=>?_⟩
 have Hx:=((bp.refl hP).new hl).trans g1
 obtain⟨v,hv,hm⟩:=zi (xs:=[V.int 3,V.int 26]) a1 b1
 have good:∃n:Int,v=.int n/\0<n/\n<=26:=by
  simp only [VF,V1,or_false]at hm
  rcases hm with rfl | rfl
  ·exact⟨3,rfl,by decide,by decide⟩
  ·exact⟨26,rfl,by decide,by decide⟩
 obtain⟨n,rfl,n0,n26⟩:=good
 refine⟨l,_,_,_,rfl,rfl,a_.of (g1.keep l _ n1 ag),hv,rfl,?_⟩
 refine⟨_,rfl,p,_,rfl,Hx.cq,by decide,by decide,λd2 H2 g2 a2 b2=>?_⟩
 refine⟨_,rfl,p,_,rfl,g2.cq,by decide,by decide,λd3 H3 g3 a3 b3=>?_⟩
 have KJ:=(Hx.trans g2).trans g3
 have Ve:0<=d2*d3/\d2*d3<=7:=by
  have e:d2=0\/d2=1:=by omega
  rcases e with rfl | rfl <;> omega
 refine⟨_,_,rfl,rfl,.inl ⟨?_,?_⟩,_,_,rfl,rfl,_,rfl,?_,?_,λD hD=>?_⟩
 ·have e:((2:Int) ^ 64)=18446744073709551616:=by decide
  rw [e]; omega
 ·have e:((2:Int) ^ 64)=18446744073709551616:=by decide
  rw [e]; omega
 ·have e:((2:Int) ^ 62)=4611686018427387904:=by decide
  rw [e]; omega
 ·have e:((2:Int) ^ 62)=4611686018427387904:=by decide
  rw [e]; omega
 have n2:D≠p:=λe=>by subst e; obtain⟨_,_,z,_⟩:=KJ.cq; rw [z]at hD; cases hD
 have log:n.natAbs.log2<9000:=Vu (Nat.log2_le_self _) (by omega)
 refine i9 (λi σ ys H'=>∃(o:Option V) (zs:List Nat),σ=[o,some (.ref p),some (.str letters),some (.int n)]/\ys=zs.map (λc=>V.str (sgn c))/\zs.length=i/\(∀c∈zs,97<=c/\c<=122)/\H' D=some (.lst ys)/\bp p H H')
  ⟨none,[],rfl,rfl,rfl,(λ_ z=>nomatch z),ag,KJ.new hD⟩ ?_ ?_ ?_ ?_
 ·rintro i σ ys H' _ ⟨o,zs,_,rfl,rfl,_,h,_⟩
  exact⟨h,by rw [Vr]; exact Vn _⟩
 ·exact Vo (show(1+d2*d3).toNat<=8 by omega) (by decide)
 ·rintro i σ ys H' hi ⟨o,zs,rfl,rfl,rfl,hz,hD',g'⟩
  refine⟨_,rfl,_,rfl,_,rfl,p,n,rfl,g'.cq,n0,log,λd H4 g4 a4 b4=>?_⟩
  obtain⟨c,hc,cm⟩:=Fq (z:=letters) a4 (by rw [uZ]; omega)
  refine⟨letters,_,c,rfl,rfl,?_,hc,g4.keep D _ n2 hD',some (.int (0+(zs.length:Nat))),zs++[c],rfl,?_,?_,?_,ag,?_⟩
  ·exact Vo (show letters.length<=26 by decide +kernel) (by decide)
  ·rw [Vt]; rfl
  ·rw [Vs]; rfl
  ·intro y hy
   rcases VH.mp hy with z | z
   ·exact hz y z
   ·have:y=c:=by simpa using z
    subst this
    exact yr y cm
  ·exact KJ.put hD n2 (g'.trans g4)
 ·rintro σ ys H' ⟨o,zs,_,rfl,hl',hz,hD',g'⟩
  refine⟨"",D,zs.map sgn,rfl,rfl,?_,?_,?_⟩
  ·rw [List.map_map]; exact a_.of hD'
  ·rw [Fi,Vr]
   have:zs.length<=8:=by omega
   have e:("" : Str).length=0:=by decide +kernel
   rw [e]; omega
  ·exact q _ _ g' (Jy (yN zs) (by omega) (by omega) hz)
end My
namespace L2
open PySem PySem.Spec PyProof.Rows
section
variable{X:Cx}{pins:List (Addr×Obj)}{σ:St}{H:Hp}{s:Shared}
theorem nQ{xs:List V}{its:List Value}(r:Vals xs its){j:Nat}(h:j<its.toArray.size):∃x,xs[j]? = some x/\RelV x its.toArray[j]:=by
 have hj:j<its.length:=by simpa using h
 have hx:j<xs.length:=by rw [r.length]; exact hj
 refine⟨xs[j],by simp [hx],?_⟩
 obtain⟨u,e,ru⟩:=r.get (i:=j) (x:=xs[j]) (by simp [hx])
 have e':its[j]=u:=by rw [Vw hj]at e; exact VL e
 show RelV xs[j] its[j]
 rw [e']; exact ru
end
section
variable{X:Cx}
theorem vN{bs:List Bool}{its:List Value}(r:Vals (bs.map V.bl) its){i:Nat}{v:Value}(h:its.toArray[i]? = some v):∃b,bs[i]? = some b/\v=.bool b:=by
 have h':its[i]? = some v:=by simpa using h
 have hi:=(VC.mp h').1
 have hb:i<bs.length:=by
  have:=r.length
  rw [Vr]at this
  omega
 obtain⟨u,e,ru⟩:=r.get (i:=i) (x:=.bl bs[i]) (by rw [VO,Vw hb]; rfl)
 rw [h']at e
 cases e
 exact⟨bs[i],Vw hb,ru⟩
theorem range_all(bs:List Bool):(List.range bs.length).all (λi=>bs.getD i true)=bs.all id:=by
 induction bs with
 | nil=>rfl
 | cons b r ih =>
  rw [VV,List.range_succ_eq_map,List.all_cons,List.all_map,List.all_cons]
  show(b&&_)=(b&&_)
  rw [←ih]
  rfl
theorem range_any(bs:List Bool):(List.range bs.length).any (λi=>bs.getD i true)=bs.any id:=by
 induction bs with
 | nil=>rfl
 | cons b r ih =>
  rw [VV,List.range_succ_eq_map,Wd,List.any_map,Wd]
  show(b||_)=(b||_)
  rw [←ih]
  rfl
theorem iC(hc:X.calm=true):gu X (.builtin "all") (λxs H Q=>∃(p:Addr) (bs:List Bool),xs=[.ref p]/\a_ X.K H p (bs.map V.bl)/\Q (.bl (bs.all id)) H):=by
 intro pins s σ H xs us Q I r h
 obtain⟨p,bs,rfl,hS,q⟩:=h
 obtain⟨u,rfl,ru⟩:=vals1 r
 cases ru
 obtain⟨its,rv,pl,hz⟩:=I.list hS
 have hp:p<s.heap.objs.size:=by obtain⟨o,e,_⟩:=pl.isList; exact Vl e
 have hl:its.toArray.size=bs.length:=by have:=rv.length; rw [Vr]at this; simp [this]
 refine call_all_walk (wpAny_pyIter_list pl.isList ?_)
 refine⟨s.heap.objs.size,_,_,_,_,_,λi=>bs.getD i true,rfl,Walks.list (A:=X.A.in1) (I.ok.hd hc) _ p (VI hp) its.toArray,⟨⟨_,Vm _ rfl,rfl,rfl⟩,?_⟩,?_,λh' tk hk=>?_⟩
 ·obtain⟨o,e,z⟩:=pl.isList
  exact⟨o,Vk _ e,z⟩
 ·intro i v s' Q' E' hv hq
  obtain⟨b,e,rfl⟩:=vN rv hv
  refine wpAny_truthy_bool ?_
  have:bs.getD i true=b:=by rw [List.getD_eq_getElem?_getD,e]; rfl
  rw [←this]
  exact hq
 ·rw [hl,range_all]
  have I1:Inv X pins σ H {s with heap:=s.heap.push {cls:=.type "list_iterator",data:=.fields #[.ref p,.int 0 0]}}:=I.kept (t':=s.toks) λb o e=>Vk _ e
  have f:=I.mL (b:=s.heap.objs.size) (H':=H) (Vn _) (I.hok.fresh (Vn _))
  exact⟨.bl _,H,I1.turned (λb o hb e=>hk b o (by simpa using hb) e) f.1 f.2.1 f.2.2.2.1 f.2.2.2.2.1 f.2.2.2.2.2,rfl,q⟩
theorem lY(hc:X.calm=true):gu X (.builtin "any") (λxs H Q=>∃(p:Addr) (bs:List Bool),xs=[.ref p]/\a_ X.K H p (bs.map V.bl)/\Q (.bl (bs.any id)) H):=by
 intro pins s σ H xs us Q I r h
 obtain⟨p,bs,rfl,hS,q⟩:=h
 obtain⟨u,rfl,ru⟩:=vals1 r
 cases ru
 obtain⟨its,rv,pl,hz⟩:=I.list hS
 have hp:p<s.heap.objs.size:=by obtain⟨o,e,_⟩:=pl.isList; exact Vl e
 have hl:its.toArray.size=bs.length:=by have:=rv.length; rw [Vr]at this; simp [this]
 refine call_any_walk (wpAny_pyIter_list pl.isList ?_)
 refine⟨s.heap.objs.size,_,_,_,_,_,λi=>bs.getD i true,rfl,Walks.list (A:=X.A.in1) (I.ok.hd hc) _ p (VI hp) its.toArray,⟨⟨_,Vm _ rfl,rfl,rfl⟩,?_⟩,?_,λh' tk hk=>?_⟩
 ·obtain⟨o,e,z⟩:=pl.isList
  exact⟨o,Vk _ e,z⟩
 ·intro i v s' Q' E' hv hq
  obtain⟨b,e,rfl⟩:=vN rv hv
  refine wpAny_truthy_bool ?_
  have:bs.getD i true=b:=by rw [List.getD_eq_getElem?_getD,e]; rfl
  rw [←this]
  exact hq
 ·rw [hl,range_any]
  have I1:Inv X pins σ H {s with heap:=s.heap.push {cls:=.type "list_iterator",data:=.fields #[.ref p,.int 0 0]}}:=I.kept (t':=s.toks) λb o e=>Vk _ e
  have f:=I.mL (b:=s.heap.objs.size) (H':=H) (Vn _) (I.hok.fresh (Vn _))
  exact⟨.bl _,H,I1.turned (λb o hb e=>hk b o (by simpa using hb) e) f.1 f.2.1 f.2.2.2.1 f.2.2.2.2.1 f.2.2.2.2.2,rfl,q⟩
end
section
variable{elt t1 i1 t2 i2:Expr}{f1 f2:List Expr}{sc:Scope}{pos:Pos}
abbrev qX(elt t1 i1:Expr)(f1:List Expr)(t2 i2:Expr)(f2:List Expr)(sc:Scope)(pos:Pos):Expr:=.ListComp elt [⟨t1,i1,f1,0⟩,⟨t2,i2,f2,0⟩] sc pos
theorem pq(it acc:Value)(env:Env) :
  compTurn (qX elt t1 i1 f1 t2 i2 f2 sc pos) 0 it acc env=(do
   standAt i1.pos
   match←pyNext it with
   | none=>pure (.done .next)
   | some v =>
    letOwnedTupleGo t1 it v
    assign t1 env v
    let mut ok:=true
    for c in f1 do
     if ok then ok←isTrue c env (eval c env)
    if ok then
     let x←eval i2 env
     standAt i2.pos
     let x←foldedSetIterable i2 env x
     let _←runOwn (.compStart (qX elt t1 i1 f1 t2 i2 f2 sc pos) 1 (←holding [x] (pyIter x)) acc env) env
    again (.compLoop (qX elt t1 i1 f1 t2 i2 f2 sc pos) 0 it acc env)):=by rfl
theorem qy(it acc:Value)(env:Env) :
  compTurn (qX elt t1 i1 f1 t2 i2 f2 sc pos) 1 it acc env=(do
   standAt i2.pos
   match←pyNext it with
   | none=>pure (.done .next)
   | some v =>
    letOwnedTupleGo t2 it v
    assign t2 env v
    let mut ok:=true
    for c in f2 do
     if ok then ok←isTrue c env (eval c env)
    if ok then
     (do let _←call (.builtin "list.append") [acc,←eval elt env])
    again (.compLoop (qX elt t1 i1 f1 t2 i2 f2 sc pos) 1 it acc env)):=by rfl
section
variable{it acc:Value}{env:Env}{prog:Program}{w:World}{A:Around}{s:Shared}{R:Result->Shared->Prop}
theorem uz(Iv:Nat->Shared->Prop)
  (turn:∀n s,Iv n s->wpAny (model prog w) A (pyNext it) (λr s₁=>match r with
   | none=>R (.ok .next) s₁
   | some v=>wpAny (model prog w) A (letOwnedTupleGo t2 it v) (λ_ s₁'=>wpAny (model prog w) A (assign t2 env v) (λ_ s₂ =>
     wpAny (model prog w) A (forIn f2 true λc r=>if r=true then do let ok←isTrue c env (eval c env); pure (ForInStep.yield ok)else pure (ForInStep.yield r)) (λok s₃ =>
      if ok=true then wpAny (model prog w) A (eval elt env) (λx s₄ =>
       wpAny (model prog w) A (call (.builtin "list.append") [acc,x]) (λ_ s₅=>∃m,m<n/\Iv m s₅) (λ_ _=>False) s₄) (λ_ _=>False) s₃
      else∃m,m<n/\Iv m s₃) (λ_ _=>False) s₂) (λ_ _=>False) s₁') (λ_ _=>False) s₁) (λ_ _=>False) s)
  (n:Nat) (h:Iv n s) :
  codeAny (model prog w) A (.compLoop (qX elt t1 i1 f1 t2 i2 f2 sc pos) 1 it acc env) R s:=by
 refine codeAny_loop rfl Iv (λn s hI=>?_) n h
 show wpAny _ A ((compTurn (qX elt t1 i1 f1 t2 i2 f2 sc pos) 1 it acc env).onRaise (λx=>do noteFrame x env; theTreesLotGoes x)) _ _ s
 refine wpAny_noted ?_
 rw [qy]
 refine Vi (wpAny_standAt (Vi (VR (turn n s hI) (λr s₁ h₁=>?_) λ_ _ h'=>h'.elim)))
 cases r with
 | none=>exact Vj h₁
 | some v =>
  refine Vi (VR h₁ (λ_ s₁' h₁'=>Vi (VR h₁' (λ_ s₂ h₂=>Vi (VR h₂ (λok s₃ h₃=>?_) λ_ _ h'=>h'.elim)) λ_ _ h'=>h'.elim)) λ_ _ h'=>h'.elim)
  cases ok with
  | false=>exact Vj ⟨rfl,h₃⟩
  | true =>
   exact Vi (Vi (VR h₃ (λx s₄ h₄=>Vi (VR h₄ (λ_ s₅ h₅=>Vj (Vj ⟨rfl,h₅⟩)) λ_ _ h'=>h'.elim)) λ_ _ h'=>h'.elim))
theorem qH(hs:∀x,foldedSetIterable i2 env x=pure x)(Iv:Nat->Shared->Prop)
  (turn:∀n s,Iv n s->wpAny (model prog w) A (pyNext it) (λr s₁=>match r with
   | none=>R (.ok .next) s₁
   | some v=>wpAny (model prog w) A (letOwnedTupleGo t1 it v) (λ_ s₁'=>wpAny (model prog w) A (assign t1 env v) (λ_ s₂ =>
     wpAny (model prog w) A (forIn f1 true λc r=>if r=true then do let ok←isTrue c env (eval c env); pure (ForInStep.yield ok)else pure (ForInStep.yield r)) (λok s₃ =>
      if ok=true then wpAny (model prog w) A (eval i2 env) (λx s₄=>wpAny (model prog w) A (pyIter x) (λRu s₅ =>
       codeAny (model prog w) A (.compStart (qX elt t1 i1 f1 t2 i2 f2 sc pos) 1 Ru acc env) (λr s'=>match r with | .ok _=>∃m,m<n/\Iv m s' | .error _=>False) s₅) (λ_ _=>False) s₄) (λ_ _=>False) s₃
      else∃m,m<n/\Iv m s₃) (λ_ _=>False) s₂) (λ_ _=>False) s₁') (λ_ _=>False) s₁) (λ_ _=>False) s)
  (n:Nat) (h:Iv n s) :
  codeAny (model prog w) A (.compLoop (qX elt t1 i1 f1 t2 i2 f2 sc pos) 0 it acc env) R s:=by
 refine codeAny_loop rfl Iv (λn s hI=>?_) n h
 show wpAny _ A ((compTurn (qX elt t1 i1 f1 t2 i2 f2 sc pos) 0 it acc env).onRaise (λx=>do noteFrame x env; theTreesLotGoes x)) _ _ s
 refine wpAny_noted ?_
 rw [pq]
 refine Vi (wpAny_standAt (Vi (VR (turn n s hI) (λr s₁ h₁=>?_) λ_ _ h'=>h'.elim)))
 cases r with
 | none=>exact Vj h₁
 | some v =>
  refine Vi (VR h₁ (λ_ s₁' h₁'=>Vi (VR h₁' (λ_ s₂ h₂=>Vi (VR h₂ (λok s₃ h₃=>?_) λ_ _ h'=>h'.elim)) λ_ _ h'=>h'.elim)) λ_ _ h'=>h'.elim)
  cases ok with
  | false=>exact Vj ⟨rfl,h₃⟩
  | true =>
   refine Vi (VR h₃ (λx s₄ h₄=>?_) λ_ _ h'=>h'.elim)
   refine Vi (wpAny_standAt (Vi (wpAny_of_eq (hs x) ?_)))
   refine Vi (VS (VR h₄ (λRu s₅ h₅=>?_) λ_ _ h'=>h'.elim))
   refine Vi (wpAny_runOwn (codeAny_mono h₅ λr s' hr=>?_))
   cases r with
   | ok f=>exact Vj ⟨rfl,hr⟩
   | error x=>exact hr.elim
theorem jO
  (h0:codeAny (model prog w) A (.compLoop (qX elt t1 i1 f1 t2 i2 f2 sc pos) 1 it acc env) R s)
  (h:wpAny (model prog w) A (pyIter it) (λit' s'=>codeAny (model prog w) A (.compLoop (qX elt t1 i1 f1 t2 i2 f2 sc pos) 1 it' acc env) R s')
   (notedBy (model prog w) A env λx s'=>R (.error x) s') s) :
  codeAny (model prog w) A (.compStart (qX elt t1 i1 f1 t2 i2 f2 sc pos) 1 it acc env) R s:=by
 refine codeAny_of_tree ?_
 show wpAny _ _ ((compStart (qX elt t1 i1 f1 t2 i2 f2 sc pos) 1 it acc env).onRaise (λx=>do noteFrame x env; standAt theWindowsPlace)) _ _ s
 refine wpAny_notedAt ?_
 unfold compStart
 show wpAny _ _ (ask >>= _) _ _ s
 refine Vi (wpAny_askSetting (wpAny_ite ?_))
 split
 ·first
   | exact Vi (Vj (Vj (And.intro rfl h0)))
   | exact Vj (And.intro rfl h0)
 ·first
   | exact Vi (wpAny_rule (Vi (wpAny_standAt (Vi (VR h (λit' s' h'=>Vj (And.intro rfl h')) λ_ _ x=>x)))))
   | (refine Vi (wpAny_rule ?_); show wpAny _ _ (standAt i2.pos >>= _) _ _ s; exact Vi (wpAny_standAt (Vi (VR h (λit' s' h'=>Vj (And.intro rfl h')) λ_ _ x=>x))))
end
end
def qe(J:It)(g:TG)(tc:TT)(te:TE)(D:Addr)(N:St->List V->Hp->Prop)(W:Nat->Nat->St->List V->Hp->Prop):Prop :=
 ∀i m σ ys H,W i m σ ys H->H D=some (.lst ys)/\((J.stop i H/\N σ ys H)\/(J.go i H/\ys.length<sizeLine/\∃N2:St->List V->Hp->Prop,(∀σ' ys' H',N2 σ' ys' H'->∃m',m'<m/\W (i+1) m' σ' ys' H')/\
  ∀x H',J.GR i H x H'->g x σ H' λdn H2=>tc dn H2 λb H3 =>
   if b=true then te dn H3 λv H4=>H4 D=some (.lst ys)/\N2 dn (ys++[v]) (upd H4 D (.lst (ys++[v])))else N2 dn ys H3))
def tX(J:It)(g:TG)(tc:TT)(wi2:TI)(g2:TG)(uv:TT)(te:TE)(D:Addr)(Q:VK)(W:Nat->Nat->St->List V->Hp->Prop):Prop :=
 ∀i m σ ys H,W i m σ ys H->H D=some (.lst ys)/\((J.stop i H/\Q (.ref D) H)\/(J.go i H/\∃N:St->List V->Hp->Prop,(∀σ' ys' H',N σ' ys' H'->∃m',m'<m/\W (i+1) m' σ' ys' H')/\
  ∀x H',J.GR i H x H'->g x σ H' λdn H2=>tc dn H2 λb H3 =>
   if b=true then wi2 dn H3 λJ2 H4=>∃W2:Nat->Nat->St->List V->Hp->Prop,(∃m,W2 0 m dn ys H4)/\qe J2 g2 uv te D N W2 else N dn ys H3))
def Ci(src:List (Option Nat))(wi:TI)(g:TG)(tc:TT)(wi2:TI)(g2:TG)(uv:TT)(te:TE):TE:=λσ H Q=>wi σ H λJ H1=>∀D,H1 D=none->
 ∃W:Nat->Nat->St->List V->Hp->Prop,(∃m,W 0 m (j8 src σ) [] (upd H1 D (.lst [])))/\tX J g tc wi2 g2 uv te D Q W
section
variable{X:Cx}{elt t1 i1 t2 i2:Expr}{f1 f2:List Expr}{sc:Scope}{pos:Pos}{wi wi2:TI}{g g2:TG}{tc uv:TT}{te:TE}{N':List Str}{src:List (Option Nat)}
theorem xG{Y:Cx}(hc:Y.calm=true)(NQ:Y.xe = λ_ _=>False)(hg:PG Y t2 g2)(ht:jg Y f2 uv)(he:PE Y elt te)
  {pins:List (Addr×Obj)} {σ:St} {H:Hp} {s:Shared} {ys:List V} {it D:Addr} {fp:List Addr} {tn:Nat->Heap->Prop} {J:It} {N:St->List V->Hp->Prop} {R:Result->Shared->Prop}
  (I:Inv Y pins σ H s) (T:Turn Y.prog Y.w Y.K t2 J fp it tn) (st:tn 0 s.heap) (ff:∀b∈fp,dI Y pins H b) {W:Nat->Nat->St->List V->Hp->Prop} {m:Nat} (w0:W 0 m σ ys H) (hW:qe J g2 uv te D N W)
  (hR:∀σ' ys' H' s',Inv Y pins σ' H' s'->N σ' ys' H'->R (.ok .next) s') :
  codeAny (model Y.prog Y.w) Y.A (.compStart (qX elt t1 i1 f1 t2 i2 f2 sc pos) 1 (.ref it) (.ref D) Y.env) R s:=by
 have stat:∀{H':Hp},(∀b∈fp,H' b=none)->∀b∈fp,dI Y pins H' b:=λhn b hb=>⟨hn b hb,(ff b hb).2⟩
 have loop:codeAny (model Y.prog Y.w) Y.A (.compLoop (qX elt t1 i1 f1 t2 i2 f2 sc pos) 1 (.ref it) (.ref D) Y.env) R s:=by
  refine uz (λn s'=>∃i σ' ys H',Inv Y pins σ' H' s'/\tn i s'.heap/\(∀b∈fp,H' b=none)/\W i n σ' ys H') ?_ m ⟨0,_,_,_,I,st,λb hb=>(ff b hb).1,w0⟩
  rintro n s5 ⟨i,nY,ys,H5,I5,uT,wZ,w5⟩
  obtain⟨hD,alt⟩:=hW i n nY ys H5 w5
  rcases alt with⟨stop,qn⟩ | ⟨go,hsz,N2,hN,step⟩
  ·refine cn (T.done Y rfl rfl rfl hc i pins s5 nY H5 _ I5 (stat wZ) uT stop) λr s6 ⟨hr,I6⟩=>?_
   subst hr
   exact hR _ _ _ _ I6 qn
  ·refine cn (T.item Y rfl rfl rfl hc i pins s5 nY H5 _ I5 (stat wZ) uT go) λr s6 ⟨u,hr,h6⟩=>?_
   subst hr
   refine cn h6 λ_ s7 ⟨x,H7,I7,r7,y7,tL,FL⟩=>?_
   have Fg:=I7.pinned (stat FL) (T.obj _ _ tL)
   have hg':=hg _ s7 nY H7 x u _ Fg r7 (step x H7 y7)
   rw [NQ]at hg'
   refine cn hg' λ_ s8 ⟨uS,H8,I8,q8⟩=>?_
   have ht':=ht _ s8 uS H8 _ I8 q8
   rw [NQ]at ht'
   refine cn ht' λb s9 ⟨H9,I9,q9⟩=>?_
   have again:∀{σ':St} {H':Hp} {s':Shared} {ys':List V} {m':Nat},Inv Y (pins++jS fp s7.heap) σ' H' s'->m'<n->W (i+1) m' σ' ys' H'->
     ∃m,m<n/\∃i σ' ys H',Inv Y pins σ' H' s'/\tn i s'.heap/\(∀b∈fp,H' b=none)/\W i m σ' ys H':=λ{σ' H' s' ys' m'} I' hm w'=>by
    refine⟨m',hm,i+1,σ',ys',H',I'.fX,T.keep _ _ _ tL λb hb o e=>(I'.pin (b,o) (Vx _ (Vx _ (cO hb e)))).1,λb hb=>?_,w'⟩
    obtain⟨o,e,d⟩:=T.obj _ _ tL b hb
    exact(I'.pin (b,o) (Vx _ (Vx _ (cO hb e)))).2.1
   cases b with
   | false =>
    rw [VZ VA]at q9⊢
    obtain⟨m',hm,w'⟩:=hN _ _ _ q9
    exact again I9 hm w'
   | true =>
    rw [V0 rfl]at q9⊢
    have he':=he _ s9 uS H9 _ I9 q9
    rw [NQ]at he'
    refine cn he' λxv D9 ⟨v,Ax,LM,r10,Dp,w10⟩=>?_
    obtain⟨m',hm,w'⟩:=hN _ _ _ w10
    have LJ:n_ (.ref D) [v] Ax λ_ H'=>H'=upd Ax D (.lst (ys++[v])):=⟨_,ys,v,rfl,rfl,Dp,hsz,rfl⟩
    have ha':=c9 _ D9 uS Ax _ _ _ _ _ LM (show RelV (.ref D) (.ref D) from rfl) (.cons r10 .nil) LJ
    rw [NQ]at ha'
    refine cn ha' λ_ Rm ⟨_,Pr,Ip,_,Mn⟩=>?_
    rw [Mn]at Ip
    exact again Ip hm w'
 exact jO loop (T.self _ 0 _ _ _ st loop)
theorem mU{pins:List (Addr×Obj)}{σ:St}{H2:Hp}{s2:Shared}{it:Addr}{fp:List Addr}{tn:Nat->Heap->Prop}{J:It}{Q:VK}{E:Value->Shared->Prop}{RR:Value->Addr->Result->Shared->Prop}
  (hc:X.calm=true) (S:aZ X.env.scope X.N N' src sc)
  (hg:∀cl C s H fp,PG (aK X N' sc cl C s H fp) t1 g) (ht:∀cl C s H fp,jg (aK X N' sc cl C s H fp) f1 tc)
  (hi2:∀cl C s H fp,PI (aK X N' sc cl C s H fp) t2 i2 wi2) (hg2:∀cl C s H fp,PG (aK X N' sc cl C s H fp) t2 g2) (vU:∀cl C s H fp,jg (aK X N' sc cl C s H fp) f2 uv)
  (he:∀cl C s H fp,PE (aK X N' sc cl C s H fp) elt te) (hs2:∀(env:Env) x,foldedSetIterable i2 env x=pure x)
  (I2:Inv X pins σ H2 s2) (T:Turn X.prog X.w X.K t1 J fp it tn) (st2:tn 0 s2.heap) (Lk:∀b∈fp,dI X pins H2 b)
  (hW:∀D,H2 D=none->∃W:Nat->Nat->St->List V->Hp->Prop,(∃m,W 0 m (j8 src σ) [] (upd H2 D (.lst [])))/\tX J g tc wi2 g2 uv te D Q W)
  (hRR:∀D C s5 H' m,Inv X pins σ H' s5->s5.heap.Ns C m->dI X pins H' C->Q (.ref D) H'->RR (.ref D) C (.ok .next) s5) :
  wpAny (model X.prog X.w) X.A (newList []) (λacc s₃=>wpAny (model X.prog X.w) X.A (newFunctionEnv sc X.env.globals (bQ X.env.cells sc.names []) [] X.env.qual none .none (some X.env)) (λcenv s₄ =>
   codeAny (model X.prog X.w) X.A (.compStart (qX elt t1 i1 f1 t2 i2 f2 sc pos) 0 (.ref it) acc {cenv with scope:=relabel sc X.env}) (RR acc cenv.locals) s₄) E s₃) E s2:=by
 have o2:∀b∈fp,b<s2.heap.objs.size:=λb hb=>by
  obtain⟨o,e,_⟩:=T.obj 0 _ st2 b hb
  exact Vl e
 refine VT ?_
 have Jn:H2 s2.heap.objs.size=none:=I2.hok.fresh (Vn _)
 obtain⟨W,⟨m0,w0⟩,turn⟩:=hW s2.heap.objs.size Jn
 have I3:Inv X pins σ (upd H2 s2.heap.objs.size (.lst [])) {s2 with heap:=s2.heap.push {cls:=.type "list",dict:=none,data:=.seq ([]:List Value).toArray}} :=
  I2.laid (t':=s2.toks) (λb u e=>Vk _ e) (Vn _) ⟨VJ _,[],0,.nil,Vm _ rfl⟩
 have st3:tn 0 (s2.heap.push {cls:=.type "list",dict:=none,data:=.seq ([]:List Value).toArray}):=T.keep 0 _ _ st2 λb hb o e=>Vk _ e
 generalize hs3:({s2 with heap:=s2.heap.push {cls:=.type "list",dict:=none,data:=.seq ([]:List Value).toArray}}:Shared)=s3 at I3
 have hh3:s3.heap=s2.heap.push {cls:=.type "list",dict:=none,data:=.seq ([]:List Value).toArray}:=by rw [←hs3]
 have E5:s2.heap.objs.size<s3.heap.objs.size:=by rw [hh3,Heap.size_push]; exact Nat.lt_succ_self _
 have o3:∀b∈fp,b<s3.heap.objs.size:=λb hb=>Nat.lt_trans (o2 b hb) E5
 have f3:∀b∈fp,dI X pins (upd H2 s2.heap.objs.size (.lst [])) b:=λb hb=>⟨by rw [aI (VI (o2 b hb))]; exact(Lk b hb).1,(Lk b hb).2⟩
 rw [←hh3]at st3
 refine wpAny_newFunctionEnv S.pC (by intro y hy; simp at hy) (λh1 hns hsb=>?_) S.kind
 have hsb':Heap.SameBut s3.heap.objs.size (s3.heap.push {cls:=.type "dict",data:=.dict #[]}) h1:=hsb
 have I4:Inv (aK X N' sc (bQ X.env.cells sc.names []) s3.heap.objs.size s3 (upd H2 s2.heap.objs.size (.lst [])) fp) [] (j8 src σ) (upd H2 s2.heap.objs.size (.lst [])) {s3 with heap:=h1,toks:=s3.toks+([]:List (Str×Value)).length} :=
  iJ S I3 f3 o3 hns hsb'
 have DN:tn 0 h1:=T.keep 0 _ _ st3 λb hb o e=>(hsb'.2 b (VI (o3 b hb))).trans (Vk _ e)
 have fC:∀(H':Hp),H' s3.heap.objs.size=none->dI X pins H' s3.heap.objs.size:=λH' hn=>I3.mL (Vn _) hn
 have loop:codeAny (model X.prog X.w) X.A (.compLoop (qX elt t1 i1 f1 t2 i2 f2 sc pos) 0 (.ref it) (.ref s2.heap.objs.size) (compEnvC sc (bQ X.env.cells sc.names []) s3.heap.objs.size X.env))
   (RR (.ref s2.heap.objs.size) s3.heap.objs.size) {s3 with heap:=h1,toks:=s3.toks+([]:List (Str×Value)).length}:=by
  have stat:∀{H':Hp},(∀b∈fp,H' b=none)->∀b∈fp,dI (aK X N' sc (bQ X.env.cells sc.names []) s3.heap.objs.size s3 (upd H2 s2.heap.objs.size (.lst [])) fp) [] H' b:=λhn b hb =>
   ⟨hn b hb,(I4.ok.Br b hb).1,I4.ok.om b hb,.inl hb,(I4.ok.Br b hb).2,λp hp=>VY (show p∈([]:List (Addr×Obj)) from hp) (by simp)⟩
  refine qH (hs2 _) (λn s'=>∃i σ' ys H',Inv (aK X N' sc (bQ X.env.cells sc.names []) s3.heap.objs.size s3 (upd H2 s2.heap.objs.size (.lst [])) fp) [] σ' H' s'/\tn i s'.heap/\(∀b∈fp,H' b=none)/\W i n σ' ys H') ?_ m0
   ⟨0,_,[],_,I4,DN,λb hb=>(f3 b hb).1,w0⟩
  rintro n s5 ⟨i,nY,ys,H5,I5,uT,wZ,w5⟩
  obtain⟨hD,alt⟩:=turn i n nY ys H5 w5
  rcases alt with⟨stop,qn⟩ | ⟨go,N,hN,step⟩
  ·refine cn (T.done (aK X N' sc (bQ X.env.cells sc.names []) s3.heap.objs.size s3 (upd H2 s2.heap.objs.size (.lst [])) fp) rfl rfl rfl hc i [] s5 nY H5 _ I5 (stat wZ) uT stop) λr s6 ⟨hr,I6⟩=>?_
   subst hr
   obtain⟨m6,n6,_⟩:=id I6.loc
   refine hRR _ _ s6 H5 m6 (I3.call' I6.os I6.base I6.hok I6.bare λb hb=>⟨(f3 b hb).2.2.2.1,(f3 b hb).2.1,(f3 b hb).2.2.2.2.1,(f3 b hb).2.2.2.2.2⟩) n6 (fC _ I6.free) qn
  ·refine cn (T.item (aK X N' sc (bQ X.env.cells sc.names []) s3.heap.objs.size s3 (upd H2 s2.heap.objs.size (.lst [])) fp) rfl rfl rfl hc i [] s5 nY H5 _ I5 (stat wZ) uT go) λr s6 ⟨u,hr,h6⟩=>?_
   subst hr
   refine cn h6 λ_ s7 ⟨x,H7,I7,r7,y7,tL,FL⟩=>?_
   have Fg:=I7.pinned (stat FL) (T.obj _ _ tL)
   refine cn (hg _ _ _ _ _ _ s7 nY H7 x u _ Fg r7 (step x H7 y7)) λ_ s8 ⟨uS,H8,I8,q8⟩=>?_
   refine cn (ht _ _ _ _ _ _ s8 uS H8 _ I8 q8) λb s9 ⟨H9,I9,q9⟩=>?_
   have again:∀{σ':St} {H':Hp} {s':Shared} {ys':List V} {m':Nat},Inv (aK X N' sc (bQ X.env.cells sc.names []) s3.heap.objs.size s3 (upd H2 s2.heap.objs.size (.lst [])) fp) ([]++jS fp s7.heap) σ' H' s'->m'<n->W (i+1) m' σ' ys' H'->
     ∃m,m<n/\∃i σ' ys H',Inv (aK X N' sc (bQ X.env.cells sc.names []) s3.heap.objs.size s3 (upd H2 s2.heap.objs.size (.lst [])) fp) [] σ' H' s'/\tn i s'.heap/\(∀b∈fp,H' b=none)/\W i m σ' ys H':=λ{σ' H' s' ys' m'} I' hm w'=>by
    refine⟨m',hm,i+1,σ',ys',H',I'.fX,T.keep _ _ _ tL λb hb o e=>(I'.pin (b,o) (Vx _ (Vx _ (cO hb e)))).1,λb hb=>?_,w'⟩
    obtain⟨o,e,d⟩:=T.obj _ _ tL b hb
    exact(I'.pin (b,o) (Vx _ (Vx _ (cO hb e)))).2.1
   cases b with
   | false =>
    rw [VZ VA]at q9⊢
    obtain⟨m',hm,w'⟩:=hN _ _ _ q9
    exact again I9 hm w'
   | true =>
    rw [V0 rfl]at q9⊢
    refine cn (hi2 _ _ _ _ _ _ s9 uS H9 _ I9 q9) λv sA hA=>cn hA λitv sB hB=>?_
    obtain⟨Vh,Vg,U4,JB,HB,eB,IB,TB,UB,fB,WB,⟨mB,wB⟩,S2⟩:=hB
    subst eB
    refine xG (Y:=aK X N' sc (bQ X.env.cells sc.names []) s3.heap.objs.size s3 (upd H2 s2.heap.objs.size (.lst [])) fp) hc rfl (hg2 _ _ _ _ _) (vU _ _ _ _ _) (he _ _ _ _ _) IB TB UB fB wB S2 ?_
    intro σ' ys' H' s' I' hn
    obtain⟨m',hm,w'⟩:=hN _ _ _ hn
    exact again I' hm w'
 exact codeAny_compStart_list loop (T.self _ 0 _ _ _ DN loop)
theorem rY(hc:X.calm=true)(S:aZ X.env.scope X.N N' src sc)(hi:PI X t1 i1 wi)
  (hg:∀cl C s H fp,PG (aK X N' sc cl C s H fp) t1 g) (ht:∀cl C s H fp,jg (aK X N' sc cl C s H fp) f1 tc)
  (hi2:∀cl C s H fp,PI (aK X N' sc cl C s H fp) t2 i2 wi2) (hg2:∀cl C s H fp,PG (aK X N' sc cl C s H fp) t2 g2) (vU:∀cl C s H fp,jg (aK X N' sc cl C s H fp) f2 uv)
  (he:∀cl C s H fp,PE (aK X N' sc cl C s H fp) elt te) (hs:∀x,foldedSetIterable i1 X.env x=pure x:=by intro _; rfl) (hs2:∀(env:Env) x,foldedSetIterable i2 env x=pure x:=by intro _ _; rfl) :
  PE X (qX elt t1 i1 f1 t2 i2 f2 sc pos) (Ci src wi g tc wi2 g2 uv te):=by
 intro pins s σ H Q I h
 rw [eval_ListComp]
 refine wpAny_comprehension_free (use:=none) rfl hs (c_ λy hy hk=>I.ok.has y.1 (S.free y hy hk)) S.kind (λy hy hl=>by rw [←hl]; exact S.uniq y hy) ?_
 refine cn (hi pins s σ H _ I h) λv s1 h1=>cn h1 λitv s2 h2=>?_
 obtain⟨it,fp,tn,J,H2,e,I2,T,st2,Lk,hW⟩:=h2
 subst e
 refine mU (Q:=Q) (RR:=λacc C=>compPost (model X.prog X.w) X.A X.xe none (EP X pins σ Q) acc C) hc S hg ht hi2 hg2 vU he hs2 I2 T st2 Lk hW ?_
 intro D C s5 H' m I5 n5 fC q
 refine⟨m,n5,λh' sb=>⟨.ref D,H',?_,rfl,q⟩⟩
 exact I5.turned (t':=s5.toks) (λb o hb e=>(sb.2 b hb).trans e) fC.1 fC.2.1 fC.2.2.2.1 fC.2.2.2.2.1 fC.2.2.2.2.2
end
end L2
namespace HT
open PySem PyProof.Rows
open PySem.AutoSeq1 (wpAny_loadPart')
theorem tuple_addW0(l b:Addr)(items items2:Array Value)(n n2:Nat)(dd dd2:Option Addr)(sl sl2:Array (Option Value))(hc0:items.isEmpty=true) :
  Meets (Builtin.«tuple.__add__» ⟨[.ref l,.ref b],[]⟩) (λ_ R s=>s.heap.get? l=some {cls:=.type "tuple",dict:=dd,data:=.seq items n,slots:=sl}/\s.heap.get? b=some {cls:=.type "tuple",dict:=dd2,data:=.seq items2 n2,slots:=sl2}/\R (.ok (.ret (Value.ref b))) {s with heap:=s.heap,toks:=s.toks}) :=
 .of_wp λprog w A R s h=>by
  obtain⟨hp,g,d,tk,os⟩:=s; obtain⟨hl,hb,h⟩:=h
  have f1:=AutoSeq1.idx_int; have f2:=AutoSeq1.sub_tuple_tuple; have f3:=AutoSeq1.sub_list_list; have f4:=AutoSeq1.sub_tuple_list; have f5:=AutoSeq1.sub_list_tuple
  wp_walk using wpAny_loadPart' hl,wpAny_loadPart' hb
  exact⟨_,rfl,h⟩
section
variable{prog:Program}{w:World}{A:Around}{E:Value->Shared->Prop}{s:Shared}
theorem Ec{t b:Addr}{ws:List Value}{Q:Value->Shared->Prop}(ht:IsTup s.heap t #[])(hb:IsTup s.heap b ws.toArray)(h1:Q (.ref b) s):wpAny (model prog w) A (binaryOp .Add (.ref t) (.ref b)) Q E s:=by
 obtain⟨⟨cls,dd,data,sl⟩,ho,hc,n,hd⟩:=id ht
 obtain⟨⟨cls2,dd2,data2,sl2⟩,ho2,hc2,n2,hd2⟩:=id hb
 simp only at hc hd hc2 hd2
 subst hc hd hc2 hd2
 exact concat_meets ⟨_,ho,rfl⟩ ⟨_,ho2,rfl⟩ noFill_tuple_add seq_tuple_add PySem.F.slot_tuple_add PySem.F.entry_tuple_add (PySem.F.args_tuple_add_2 _ _)
   (tuple_addW0 t b #[] ws.toArray n n2 dd dd2 sl sl2 rfl) ⟨ho,ho2,h1⟩
theorem j7{t sl:Addr}{items:Array Value}{vl vu:Value}{lo hi:Option Int}{Q:Value->Shared->Prop}(ht:IsTup s.heap t items)(hs:s.heap.IsSliceOf sl vl vu .none)(pl:IsPart vl lo)(pu:IsPart vu hi)
  (hw:dO items.size 0 lo=0/\dO items.size items.size hi=items.size)
  (h:Q (.ref t) s):wpAny (model prog w) A (getItem (.ref t) (.ref sl)) Q E s:=by
 obtain⟨os,hos,hcs,hds⟩:=id hs
 have hTs:s.TypeIs (.ref sl) "slice":=⟨os,hos,hcs⟩
 unfold getItem
 try with_reducible refine VS ?_
 first | refine Vi (Vj ?_) | skip
 refine Vi (wpAny_sequenceKey ht.typeIs (by decide) ?_)
 refine Vi (wpAny_callSpecial?_slot (name:=Str.ofString "__getitem__") ht.typeIs PyProof.Rows.slot_tuple_getitem
  (V9 PyProof.Rows.slot_tuple_getitem ht.typeIs entry_tuple_getitem ?_ (args_tuple_getitem _ _)))
 show wpAny _ _ (Builtin.Tuple.tupleItemsOf (.ref t) >>= _) _ _ s
 refine Vi (tupleItemsOf_ ht ?_)
 refine Vi (wpAny_typeOf hTs ?_)
 rw [V0 (by decide)]
 refine Vi (ip hs pl pu ?_)
 have hno:(((dO items.size 0 lo:Nat):Int)==0&&(1:Int)==1&&(dO items.size items.size hi-dO items.size 0 lo)==items.size)=true:=by
  rw [hw.1,hw.2]
  simp
 show wpAny _ _ (if(((dO items.size 0 lo:Nat):Int)==0&&(1:Int)==1&&(dO items.size items.size hi-dO items.size 0 lo)==items.size)=true then _ else _) _ _ s
 rw [V0 hno]
 refine Vi (m:=Builtin.Tuple.tupleIsExact _) ?_
 unfold Builtin.Tuple.tupleIsExact
 refine Vi (wpAny_typeOf ht.typeIs (Vj ?_))
 show wpAny _ _ (if((Value.type "tuple")==(Value.type "tuple"))=true then _ else _) _ _ s
 rw [V0 (by decide)]
 exact Vi (wpAny_rule (Vj ⟨_,rfl,Vj h⟩))
end
end HT
namespace L2
open PySem PySem.Spec PyProof.Rows
section
variable{X:Cx}
theorem Er(hu:X.A.units<cLine):je X (compareOp .NotEq) (λx y H Q=>∃a b xs ys,x=.ref a/\y=.ref b/\a_ X.K H a xs/\a_ X.K H b ys/\xs.length≠ys.length/\Q (.bl true) H):=by
 intro pins s σ H x y v u Q I rx ry h
 obtain⟨a,b,xs,ys,rfl,rfl,ha,hb,hl,q⟩:=h
 cases rx; cases ry
 obtain⟨its,r1,p1,_⟩:=I.list ha
 obtain⟨its',r2,p2,_⟩:=I.list hb
 exact SeqAt.RcNeAt.lists_lengths p1.isList p2.isList (by simp [←r1.length,←r2.length,hl]) hu _ _ _ _ ⟨.bl true,H,I,rfl,q⟩
theorem DY:je X (binaryOp .Add) (λx y H Q=>∃a b ys,x=.ref a/\y=.ref b/\aH X.K H a []/\aH X.K H b ys/\Q (.ref b) H):=by
 intro pins s σ H x y v u Q I rx ry h
 obtain⟨a,b,ys,rfl,rfl,ha,hb,q⟩:=h
 cases rx
 cases ry
 obtain⟨its,r1,p1,_⟩:=I.tuple ha
 obtain⟨its2,r2,p2,_⟩:=I.tuple hb
 cases r1
 exact HT.Ec p1 p2 ⟨.ref b,H,I,rfl,q⟩
def II(K:Wg):V->Option Int->Option Int->Hp->VK->Prop:=λx lo hi H Q=>∃a xs,x=.ref a/\aH K H a xs/\
 (HT.dO xs.length 0 lo=0/\HT.dO xs.length xs.length hi=xs.length)/\Q (.ref a) H
theorem HK:E7 X (II X.K):=by
 intro pins s σ H x v vl vu lo hi sl Q I rx hs pl pu h
 obtain⟨a,xs,rfl,hx,hw,q⟩:=h
 cases rx
 obtain⟨its,r,ht,hz⟩:=I.tuple hx
 have hlen:its.toArray.size=xs.length:=by rw [VB]; exact r.length.symm
 refine⟨"tuple",_,PyProof.Rows.slot_tuple_getitem.lookup,ht.typeIs,?_⟩
 exact HT.j7 ht hs pl pu (by rw [hlen]; exact hw) ⟨.ref a,H,I,rfl,q⟩
theorem Hz{x:V}{lo hi:Option Int}{H:Hp}{Q:VK}{a:Addr}{xs:List V}{K:Wg}(e:x=.ref a)(h:aH K H a xs)(q1:fz xs lo hi=xs->Q (.ref a) H)(q2:∀p,H p=none->Q (.ref p) (upd H p (.tup (fz xs lo hi)))):MP K x lo hi H Q\/II K x lo hi H Q:=by
 by_cases hw:HT.dO xs.length 0 lo=0/\HT.dO xs.length xs.length hi=xs.length
 ·refine .inr ⟨a,xs,e,h,hw,q1 ?_⟩
  unfold fz
  rw [hw.1,hw.2]
  simp
 ·exact .inl ⟨a,xs,e,h,hw,q2⟩
end
inductive D where
 | int (i:Int) | str (x:Str) | non | bl (b:Bool) | tup (ds:List D) | lst (ds:List D)
deriving Inhabited
mutual
def bj(K:Wg)(H:Hp):D->V->Prop
 | .int i,v=>v=.int i
 | .str x,v=>v=.str x
 | .non,v=>v=.non
 | .bl b,v=>v=.bl b
 | .tup ds,v=>∃a vs,v=.ref a/\aH K H a vs/\bV K H ds vs
 | .lst ds,v=>∃a vs,v=.ref a/\H a=some (.lst vs)/\bV K H ds vs
def bV(K:Wg)(H:Hp):List D->List V->Prop
 | [],vs=>vs=[]
 | d::ds,vs=>∃v r,vs=v::r/\bj K H d v/\bV K H ds r
end
mutual
def D.depth:D->Nat
 | .tup ds=>1+cA ds
 | .lst ds=>1+cA ds
 | _=>0
def cA:List D->Nat
 | []=>0
 | d::ds=>max d.depth (cA ds)
end
def bI(b:Bool):Int:=if b then 1 else 0
mutual
def cR:D->D->Bool
 | .int i,.int j=>i==j
 | .int i,.bl b=>i==bI b
 | .bl b,.int j=>bI b==j
 | .bl b,.bl c=>b==c
 | .str x,.str y=>x==y
 | .non,.non=>true
 | .tup ds,.tup es=>iF ds es
 | .lst ds,.lst es=>iF ds es
 | _,_=>false
def iF:List D->List D->Bool
 | [],[]=>true
 | d::ds,e::es=>cR d e&&iF ds es
 | _,_=>false
end
mutual
theorem gw:∀d:D,cR d d=true
 | .int i=>by simp [cR]
 | .str x=>by simp [cR]
 | .non=>by simp [cR]
 | .bl b=>by simp [cR]
 | .tup ds=>by rw [cR]; exact iI ds
 | .lst ds=>by rw [cR]; exact iI ds
theorem iI:∀ds:List D,iF ds ds=true
 | []=>by simp [iF]
 | d::ds=>by rw [iF,gw d,iI ds]; rfl
end
section
variable{K:Wg}{H:Hp}
theorem bV.length:∀{ds:List D} {vs:List V},bV K H ds vs->ds.length=vs.length
 | [],vs,h=>by rw [bV]at h; rw [h]; rfl
 | d::ds,vs,h=>by
  rw [bV]at h
  obtain⟨v,r,rfl,_,h⟩:=h
  rw [VV,VV,bV.length h]
theorem bV.get:∀{ds:List D} {vs:List V} {i:Nat} {v:V},bV K H ds vs->vs[i]? = some v->∃d,ds[i]? = some d/\bj K H d v
 | [],vs,i,v,h,e=>by rw [bV]at h; rw [h]at e; cases e
 | d::ds,vs,i,v,h,e=>by
  rw [bV]at h
  obtain⟨u,r,rfl,h1,h2⟩:=h
  cases i with
  | zero=>cases e; exact⟨d,rfl,h1⟩
  | succ i=>obtain⟨d',e1,e2⟩:=bV.get (i:=i) h2 e; exact⟨d',e1,e2⟩
theorem bV.cons{d:D}{v:V}{ds:List D}{vs:List V}(h1:bj K H d v)(h2:bV K H ds vs):bV K H (d::ds) (v::vs):=by rw [bV]; exact⟨v,vs,rfl,h1,h2⟩
theorem bV.nil:bV K H [] []:=by rw [bV]
end
theorem pZ:∀{ds es:List D},ds.length≠es.length->iF ds es=false
 | [],[],h=>VY rfl h
 | [],_::_,_=>by rw [iF]; all_goals simp
 | _::_,[],_=>by rw [iF]; all_goals simp
 | d::ds,e::es,h=>by rw [iF,pZ (by simpa using h),Bool.and_false]
theorem oN:∀{ds es:List D},ds.length=es.length->(List.range ds.length).all (λj=>cR (ds.getD j .non) (es.getD j .non))=iF ds es
 | [],[],_=>by rw [iF]; rfl
 | d::ds,e::es,h=>by
  rw [iF,VV,List.range_succ_eq_map,List.all_cons,List.all_map,←oN (by simpa using h)]
  rfl
 | [],_::_,h=>by cases h
 | _::_,[],h=>by cases h
theorem B4{ds es:List D}:((List.range (min ds.length es.length)).all (λj=>cR (ds.getD j .non) (es.getD j .non))&&ds.length==es.length)=iF ds es:=by
 by_cases h:ds.length=es.length
 ·rw [←oN h,h,Nat.min_self]; simp
 ·rw [pZ h,beq_eq_false_iff_ne.mpr h,Bool.and_false]
theorem kW:∀{ds:List D} {i:Nat} {d:D},ds[i]? = some d->d.depth<=cA ds
 | [],i,d,e=>by cases e
 | d'::ds,0,d,e=>by cases e; rw [cA]; exact Nat.le_max_left _ _
 | d'::ds,i+1,d,e=>by rw [cA]; exact Vo (kW (i:=i) (by simpa using e)) (Nat.le_max_right _ _)
section
variable{X:Cx}{pins:List (Addr×Obj)}{σ:St}{H:Hp}{s:Shared}
theorem lI{ds:List D}{j:Nat}{d:D}(h:ds[j]? = some d):ds.getD j .non=d:=by rw [List.getD_eq_getElem?_getD,h]; rfl
def both(A:Around)(s:Shared)(u v:Value)(b:Bool):Prop:=SeqAt.EqAt A s u v b/\SeqAt.RcAt A s u v b/\SeqAt.RcNeAt A s u v (!b)
def seqs:D->D->Bool
 | .tup _,.tup _=>true
 | .lst _,.lst _=>true
 | _,_=>false
theorem oU(I:Inv X pins σ H s){A:Around}(hu:A.units<cLine):∀{d e:D} {x y:V} {u v:Value},seqs d e=false->bj X.K H d x->bj X.K H e y->RelV x u->RelV y v->both A s u v (cR d e)
 | .int i,.int j,x,y,u,v,hs,h1,h2,r1,r2=>by
  rw [bj]at h1; subst h1; obtain⟨t,rfl⟩:=r1
  rw [bj]at h2; subst h2; obtain⟨w,rfl⟩:=r2
  rw [cR]
  exact⟨.int_int i t j w,.int_int i t j w,.int_int i t j w⟩
 | .int i,.str j,x,y,u,v,hs,h1,h2,r1,r2=>by
  rw [bj]at h1; subst h1; obtain⟨t,rfl⟩:=r1
  rw [bj]at h2; subst h2; obtain⟨w,rfl⟩:=r2
  rw [show cR (.int i) (.str j)=false by simp [cR]]
  exact⟨.int_str i t j w,.int_str i t j w,.int_str i t j w⟩
 | .int i,.non,x,y,u,v,hs,h1,h2,r1,r2=>by
  rw [bj]at h1; subst h1; obtain⟨t,rfl⟩:=r1
  rw [bj]at h2; subst h2; cases r2
  rw [show cR (.int i) (.non)=false by simp [cR]]
  exact⟨.int_none i t,.int_none i t,.int_none i t⟩
 | .int i,.bl j,x,y,u,v,hs,h1,h2,r1,r2=>by
  rw [bj]at h1; subst h1; obtain⟨t,rfl⟩:=r1
  rw [bj]at h2; subst h2; cases r2
  rw [cR]
  exact⟨.int_bool i t j,.int_bool i t j,.int_bool i t j⟩
 | .int i,.tup j,x,y,u,v,hs,h1,h2,r1,r2=>by
  rw [bj]at h1; subst h1; obtain⟨t,rfl⟩:=r1
  rw [bj]at h2; obtain⟨aw,GB,rfl,q2,_⟩:=h2; cases r2; obtain⟨tq,Ge,pw,_⟩:=I.tuple q2
  rw [show cR (.int i) (.tup j)=false by simp [cR]]
  exact⟨.int_tuple i t pw hu,.int_tuple i t pw hu,.int_tuple i t pw hu⟩
 | .int i,.lst j,x,y,u,v,hs,h1,h2,r1,r2=>by
  rw [bj]at h1; subst h1; obtain⟨t,rfl⟩:=r1
  rw [bj]at h2; obtain⟨aw,GB,rfl,q2,_⟩:=h2; cases r2; obtain⟨tq,Ge,Gq,_⟩:=I.list (a_.of q2); have pw:=Gq.isList
  rw [show cR (.int i) (.lst j)=false by simp [cR]]
  exact⟨.int_list i t pw hu,.int_list i t pw hu,.int_list i t pw hu⟩
 | .str i,.int j,x,y,u,v,hs,h1,h2,r1,r2=>by
  rw [bj]at h1; subst h1; obtain⟨t,rfl⟩:=r1
  rw [bj]at h2; subst h2; obtain⟨w,rfl⟩:=r2
  rw [show cR (.str i) (.int j)=false by simp [cR]]
  exact⟨.str_int i t j w,.str_int i t j w,.str_int i t j w⟩
 | .str i,.str j,x,y,u,v,hs,h1,h2,r1,r2=>by
  rw [bj]at h1; subst h1; obtain⟨t,rfl⟩:=r1
  rw [bj]at h2; subst h2; obtain⟨w,rfl⟩:=r2
  rw [cR]
  exact⟨.str_str i t j w,.str_str i t j w,.str_str i t j w⟩
 | .str i,.non,x,y,u,v,hs,h1,h2,r1,r2=>by
  rw [bj]at h1; subst h1; obtain⟨t,rfl⟩:=r1
  rw [bj]at h2; subst h2; cases r2
  rw [show cR (.str i) (.non)=false by simp [cR]]
  exact⟨.str_none i t,.str_none i t,.str_none i t⟩
 | .str i,.bl j,x,y,u,v,hs,h1,h2,r1,r2=>by
  rw [bj]at h1; subst h1; obtain⟨t,rfl⟩:=r1
  rw [bj]at h2; subst h2; cases r2
  rw [show cR (.str i) (.bl j)=false by simp [cR]]
  exact⟨.str_bool i t j,.str_bool i t j,.str_bool i t j⟩
 | .str i,.tup j,x,y,u,v,hs,h1,h2,r1,r2=>by
  rw [bj]at h1; subst h1; obtain⟨t,rfl⟩:=r1
  rw [bj]at h2; obtain⟨aw,GB,rfl,q2,_⟩:=h2; cases r2; obtain⟨tq,Ge,pw,_⟩:=I.tuple q2
  rw [show cR (.str i) (.tup j)=false by simp [cR]]
  exact⟨.str_tuple i t pw hu,.str_tuple i t pw hu,.str_tuple i t pw hu⟩
 | .str i,.lst j,x,y,u,v,hs,h1,h2,r1,r2=>by
  rw [bj]at h1; subst h1; obtain⟨t,rfl⟩:=r1
  rw [bj]at h2; obtain⟨aw,GB,rfl,q2,_⟩:=h2; cases r2; obtain⟨tq,Ge,Gq,_⟩:=I.list (a_.of q2); have pw:=Gq.isList
  rw [show cR (.str i) (.lst j)=false by simp [cR]]
  exact⟨.str_list i t pw hu,.str_list i t pw hu,.str_list i t pw hu⟩
 | .non,.int j,x,y,u,v,hs,h1,h2,r1,r2=>by
  rw [bj]at h1; subst h1; cases r1
  rw [bj]at h2; subst h2; obtain⟨w,rfl⟩:=r2
  rw [show cR (.non) (.int j)=false by simp [cR]]
  exact⟨.none_int j w,.none_int j w,.none_int j w⟩
 | .non,.str j,x,y,u,v,hs,h1,h2,r1,r2=>by
  rw [bj]at h1; subst h1; cases r1
  rw [bj]at h2; subst h2; obtain⟨w,rfl⟩:=r2
  rw [show cR (.non) (.str j)=false by simp [cR]]
  exact⟨.none_str j w,.none_str j w,.none_str j w⟩
 | .non,.non,x,y,u,v,hs,h1,h2,r1,r2=>by
  rw [bj]at h1; subst h1; cases r1
  rw [bj]at h2; subst h2; cases r2
  rw [cR]
  exact⟨.same _,.none_none,.none_none⟩
 | .non,.bl j,x,y,u,v,hs,h1,h2,r1,r2=>by
  rw [bj]at h1; subst h1; cases r1
  rw [bj]at h2; subst h2; cases r2
  rw [show cR (.non) (.bl j)=false by simp [cR]]
  exact⟨.none_bool j,.none_bool j,.none_bool j⟩
 | .non,.tup j,x,y,u,v,hs,h1,h2,r1,r2=>by
  rw [bj]at h1; subst h1; cases r1
  rw [bj]at h2; obtain⟨aw,GB,rfl,q2,_⟩:=h2; cases r2; obtain⟨tq,Ge,pw,_⟩:=I.tuple q2
  rw [show cR (.non) (.tup j)=false by simp [cR]]
  exact⟨.none_tuple pw hu,.none_tuple pw hu,.none_tuple pw hu⟩
 | .non,.lst j,x,y,u,v,hs,h1,h2,r1,r2=>by
  rw [bj]at h1; subst h1; cases r1
  rw [bj]at h2; obtain⟨aw,GB,rfl,q2,_⟩:=h2; cases r2; obtain⟨tq,Ge,Gq,_⟩:=I.list (a_.of q2); have pw:=Gq.isList
  rw [show cR (.non) (.lst j)=false by simp [cR]]
  exact⟨.none_list pw hu,.none_list pw hu,.none_list pw hu⟩
 | .bl i,.int j,x,y,u,v,hs,h1,h2,r1,r2=>by
  rw [bj]at h1; subst h1; cases r1
  rw [bj]at h2; subst h2; obtain⟨w,rfl⟩:=r2
  rw [cR]
  exact⟨.bool_int i j w,.bool_int i j w,.bool_int i j w⟩
 | .bl i,.str j,x,y,u,v,hs,h1,h2,r1,r2=>by
  rw [bj]at h1; subst h1; cases r1
  rw [bj]at h2; subst h2; obtain⟨w,rfl⟩:=r2
  rw [show cR (.bl i) (.str j)=false by simp [cR]]
  exact⟨.bool_str i j w,.bool_str i j w,.bool_str i j w⟩
 | .bl i,.non,x,y,u,v,hs,h1,h2,r1,r2=>by
  rw [bj]at h1; subst h1; cases r1
  rw [bj]at h2; subst h2; cases r2
  rw [show cR (.bl i) (.non)=false by simp [cR]]
  exact⟨.bool_none i,.bool_none i,.bool_none i⟩
 | .bl i,.bl j,x,y,u,v,hs,h1,h2,r1,r2=>by
  rw [bj]at h1; subst h1; cases r1
  rw [bj]at h2; subst h2; cases r2
  rw [cR]
  exact⟨.bool_bool i j,.bool_bool i j,.bool_bool i j⟩
 | .bl i,.tup j,x,y,u,v,hs,h1,h2,r1,r2=>by
  rw [bj]at h1; subst h1; cases r1
  rw [bj]at h2; obtain⟨aw,GB,rfl,q2,_⟩:=h2; cases r2; obtain⟨tq,Ge,pw,_⟩:=I.tuple q2
  rw [show cR (.bl i) (.tup j)=false by simp [cR]]
  exact⟨.bool_tuple i pw hu,.bool_tuple i pw hu,.bool_tuple i pw hu⟩
 | .bl i,.lst j,x,y,u,v,hs,h1,h2,r1,r2=>by
  rw [bj]at h1; subst h1; cases r1
  rw [bj]at h2; obtain⟨aw,GB,rfl,q2,_⟩:=h2; cases r2; obtain⟨tq,Ge,Gq,_⟩:=I.list (a_.of q2); have pw:=Gq.isList
  rw [show cR (.bl i) (.lst j)=false by simp [cR]]
  exact⟨.bool_list i pw hu,.bool_list i pw hu,.bool_list i pw hu⟩
 | .tup i,.int j,x,y,u,v,hs,h1,h2,r1,r2=>by
  rw [bj]at h1; obtain⟨HA,Gu,rfl,q1,_⟩:=h1; cases r1; obtain⟨uB,Gd,pt,_⟩:=I.tuple q1
  rw [bj]at h2; subst h2; obtain⟨w,rfl⟩:=r2
  rw [show cR (.tup i) (.int j)=false by simp [cR]]
  exact⟨.tuple_int j w pt hu,.tuple_int j w pt hu,.tuple_int j w pt hu⟩
 | .tup i,.str j,x,y,u,v,hs,h1,h2,r1,r2=>by
  rw [bj]at h1; obtain⟨HA,Gu,rfl,q1,_⟩:=h1; cases r1; obtain⟨uB,Gd,pt,_⟩:=I.tuple q1
  rw [bj]at h2; subst h2; obtain⟨w,rfl⟩:=r2
  rw [show cR (.tup i) (.str j)=false by simp [cR]]
  exact⟨.tuple_str j w pt hu,.tuple_str j w pt hu,.tuple_str j w pt hu⟩
 | .tup i,.non,x,y,u,v,hs,h1,h2,r1,r2=>by
  rw [bj]at h1; obtain⟨HA,Gu,rfl,q1,_⟩:=h1; cases r1; obtain⟨uB,Gd,pt,_⟩:=I.tuple q1
  rw [bj]at h2; subst h2; cases r2
  rw [show cR (.tup i) (.non)=false by simp [cR]]
  exact⟨.tuple_none pt hu,.tuple_none pt hu,.tuple_none pt hu⟩
 | .tup i,.bl j,x,y,u,v,hs,h1,h2,r1,r2=>by
  rw [bj]at h1; obtain⟨HA,Gu,rfl,q1,_⟩:=h1; cases r1; obtain⟨uB,Gd,pt,_⟩:=I.tuple q1
  rw [bj]at h2; subst h2; cases r2
  rw [show cR (.tup i) (.bl j)=false by simp [cR]]
  exact⟨.tuple_bool j pt hu,.tuple_bool j pt hu,.tuple_bool j pt hu⟩
 | .tup ds,.tup es,x,y,u,v,hs,h1,h2,r1,r2=>by cases hs
 | .tup i,.lst j,x,y,u,v,hs,h1,h2,r1,r2=>by
  rw [bj]at h1; obtain⟨HA,Gu,rfl,q1,_⟩:=h1; cases r1; obtain⟨uB,Gd,pt,_⟩:=I.tuple q1
  rw [bj]at h2; obtain⟨aw,GB,rfl,q2,_⟩:=h2; cases r2; obtain⟨tq,Ge,Gq,_⟩:=I.list (a_.of q2); have pw:=Gq.isList
  rw [show cR (.tup i) (.lst j)=false by simp [cR]]
  exact⟨.tuple_list pt pw hu,.tuple_list pt pw hu,.tuple_list pt pw hu⟩
 | .lst i,.int j,x,y,u,v,hs,h1,h2,r1,r2=>by
  rw [bj]at h1; obtain⟨HA,Gu,rfl,q1,_⟩:=h1; cases r1; obtain⟨uB,Gd,GZ,_⟩:=I.list (a_.of q1); have pt:=GZ.isList
  rw [bj]at h2; subst h2; obtain⟨w,rfl⟩:=r2
  rw [show cR (.lst i) (.int j)=false by simp [cR]]
  exact⟨.list_int j w pt hu,.list_int j w pt hu,.list_int j w pt hu⟩
 | .lst i,.str j,x,y,u,v,hs,h1,h2,r1,r2=>by
  rw [bj]at h1; obtain⟨HA,Gu,rfl,q1,_⟩:=h1; cases r1; obtain⟨uB,Gd,GZ,_⟩:=I.list (a_.of q1); have pt:=GZ.isList
  rw [bj]at h2; subst h2; obtain⟨w,rfl⟩:=r2
  rw [show cR (.lst i) (.str j)=false by simp [cR]]
  exact⟨.list_str j w pt hu,.list_str j w pt hu,.list_str j w pt hu⟩
 | .lst i,.non,x,y,u,v,hs,h1,h2,r1,r2=>by
  rw [bj]at h1; obtain⟨HA,Gu,rfl,q1,_⟩:=h1; cases r1; obtain⟨uB,Gd,GZ,_⟩:=I.list (a_.of q1); have pt:=GZ.isList
  rw [bj]at h2; subst h2; cases r2
  rw [show cR (.lst i) (.non)=false by simp [cR]]
  exact⟨.list_none pt hu,.list_none pt hu,.list_none pt hu⟩
 | .lst i,.bl j,x,y,u,v,hs,h1,h2,r1,r2=>by
  rw [bj]at h1; obtain⟨HA,Gu,rfl,q1,_⟩:=h1; cases r1; obtain⟨uB,Gd,GZ,_⟩:=I.list (a_.of q1); have pt:=GZ.isList
  rw [bj]at h2; subst h2; cases r2
  rw [show cR (.lst i) (.bl j)=false by simp [cR]]
  exact⟨.list_bool j pt hu,.list_bool j pt hu,.list_bool j pt hu⟩
 | .lst i,.tup j,x,y,u,v,hs,h1,h2,r1,r2=>by
  rw [bj]at h1; obtain⟨HA,Gu,rfl,q1,_⟩:=h1; cases r1; obtain⟨uB,Gd,GZ,_⟩:=I.list (a_.of q1); have pt:=GZ.isList
  rw [bj]at h2; obtain⟨aw,GB,rfl,q2,_⟩:=h2; cases r2; obtain⟨tq,Ge,pw,_⟩:=I.tuple q2
  rw [show cR (.lst i) (.tup j)=false by simp [cR]]
  exact⟨.list_tuple pt pw hu,.list_tuple pt pw hu,.list_tuple pt pw hu⟩
 | .lst ds,.lst es,x,y,u,v,hs,h1,h2,r1,r2=>by cases hs
theorem mP(I:Inv X pins σ H s){a:Addr}{xs ys:List V}(h:a_ X.K H a xs)(h':aH X.K H a ys):False:=by
 obtain⟨_,_,p,_⟩:=I.list h
 obtain⟨_,_,p',_⟩:=I.tuple h'
 exact SeqAt.ne_of_list_tuple p.isList p' rfl
mutual
theorem bj.inj(I:Inv X pins σ H s):∀{d e:D} {v:V},bj X.K H d v->bj X.K H e v->d=e
 | .int i,.int j,v,h1,h2=>by
  rw [bj]at h1; rw [bj]at h2
  subst h1
  injection h2 with h2
  rw [h2]
 | .int i,.str j,v,h1,h2=>by
  rw [bj]at h1; rw [bj]at h2
  subst h1
  cases h2
 | .int i,.non,v,h1,h2=>by
  rw [bj]at h1; rw [bj]at h2
  subst h1
  cases h2
 | .int i,.bl j,v,h1,h2=>by
  rw [bj]at h1; rw [bj]at h2
  subst h1
  cases h2
 | .int i,.tup j,v,h1,h2=>by
  rw [bj]at h1; rw [bj]at h2
  obtain⟨a,vs,rfl,q,g⟩:=h2
  cases h1
 | .int i,.lst j,v,h1,h2=>by
  rw [bj]at h1; rw [bj]at h2
  obtain⟨a,vs,rfl,q,g⟩:=h2
  cases h1
 | .str i,.int j,v,h1,h2=>by
  rw [bj]at h1; rw [bj]at h2
  subst h1
  cases h2
 | .str i,.str j,v,h1,h2=>by
  rw [bj]at h1; rw [bj]at h2
  subst h1
  injection h2 with h2
  rw [h2]
 | .str i,.non,v,h1,h2=>by
  rw [bj]at h1; rw [bj]at h2
  subst h1
  cases h2
 | .str i,.bl j,v,h1,h2=>by
  rw [bj]at h1; rw [bj]at h2
  subst h1
  cases h2
 | .str i,.tup j,v,h1,h2=>by
  rw [bj]at h1; rw [bj]at h2
  obtain⟨a,vs,rfl,q,g⟩:=h2
  cases h1
 | .str i,.lst j,v,h1,h2=>by
  rw [bj]at h1; rw [bj]at h2
  obtain⟨a,vs,rfl,q,g⟩:=h2
  cases h1
 | .non,.int j,v,h1,h2=>by
  rw [bj]at h1; rw [bj]at h2
  subst h1
  cases h2
 | .non,.str j,v,h1,h2=>by
  rw [bj]at h1; rw [bj]at h2
  subst h1
  cases h2
 | .non,.non,v,h1,h2=>rfl
 | .non,.bl j,v,h1,h2=>by
  rw [bj]at h1; rw [bj]at h2
  subst h1
  cases h2
 | .non,.tup j,v,h1,h2=>by
  rw [bj]at h1; rw [bj]at h2
  obtain⟨a,vs,rfl,q,g⟩:=h2
  cases h1
 | .non,.lst j,v,h1,h2=>by
  rw [bj]at h1; rw [bj]at h2
  obtain⟨a,vs,rfl,q,g⟩:=h2
  cases h1
 | .bl i,.int j,v,h1,h2=>by
  rw [bj]at h1; rw [bj]at h2
  subst h1
  cases h2
 | .bl i,.str j,v,h1,h2=>by
  rw [bj]at h1; rw [bj]at h2
  subst h1
  cases h2
 | .bl i,.non,v,h1,h2=>by
  rw [bj]at h1; rw [bj]at h2
  subst h1
  cases h2
 | .bl i,.bl j,v,h1,h2=>by
  rw [bj]at h1; rw [bj]at h2
  subst h1
  injection h2 with h2
  rw [h2]
 | .bl i,.tup j,v,h1,h2=>by
  rw [bj]at h1; rw [bj]at h2
  obtain⟨a,vs,rfl,q,g⟩:=h2
  cases h1
 | .bl i,.lst j,v,h1,h2=>by
  rw [bj]at h1; rw [bj]at h2
  obtain⟨a,vs,rfl,q,g⟩:=h2
  cases h1
 | .tup i,.int j,v,h1,h2=>by
  rw [bj]at h1; rw [bj]at h2
  obtain⟨a,vs,rfl,q,g⟩:=h1
  cases h2
 | .tup i,.str j,v,h1,h2=>by
  rw [bj]at h1; rw [bj]at h2
  obtain⟨a,vs,rfl,q,g⟩:=h1
  cases h2
 | .tup i,.non,v,h1,h2=>by
  rw [bj]at h1; rw [bj]at h2
  obtain⟨a,vs,rfl,q,g⟩:=h1
  cases h2
 | .tup i,.bl j,v,h1,h2=>by
  rw [bj]at h1; rw [bj]at h2
  obtain⟨a,vs,rfl,q,g⟩:=h1
  cases h2
 | .tup i,.tup j,v,h1,h2=>by
  rw [bj]at h1; rw [bj]at h2
  obtain⟨a,vs,rfl,q,g⟩:=h1
  obtain⟨b,ws,e,q',g'⟩:=h2
  cases e
  rw [I.iA q' q]at g'
  rw [bV.inj I g g']
 | .tup i,.lst j,v,h1,h2=>by
  rw [bj]at h1; rw [bj]at h2
  obtain⟨a,vs,rfl,q,g⟩:=h1
  obtain⟨b,ws,e,q',g'⟩:=h2
  cases e
  exact(mP I (a_.of q') q).elim
 | .lst i,.int j,v,h1,h2=>by
  rw [bj]at h1; rw [bj]at h2
  obtain⟨a,vs,rfl,q,g⟩:=h1
  cases h2
 | .lst i,.str j,v,h1,h2=>by
  rw [bj]at h1; rw [bj]at h2
  obtain⟨a,vs,rfl,q,g⟩:=h1
  cases h2
 | .lst i,.non,v,h1,h2=>by
  rw [bj]at h1; rw [bj]at h2
  obtain⟨a,vs,rfl,q,g⟩:=h1
  cases h2
 | .lst i,.bl j,v,h1,h2=>by
  rw [bj]at h1; rw [bj]at h2
  obtain⟨a,vs,rfl,q,g⟩:=h1
  cases h2
 | .lst i,.tup j,v,h1,h2=>by
  rw [bj]at h1; rw [bj]at h2
  obtain⟨a,vs,rfl,q,g⟩:=h1
  obtain⟨b,ws,e,q',g'⟩:=h2
  cases e
  exact(mP I (a_.of q) q').elim
 | .lst i,.lst j,v,h1,h2=>by
  rw [bj]at h1; rw [bj]at h2
  obtain⟨a,vs,rfl,q,g⟩:=h1
  obtain⟨b,ws,e,q',g'⟩:=h2
  cases e
  rw [q]at q'
  cases q'
  rw [bV.inj I g g']
theorem bV.inj(I:Inv X pins σ H s):∀{ds es:List D} {vs:List V},bV X.K H ds vs->bV X.K H es vs->ds=es
 | [],[],vs,h1,h2=>rfl
 | [],e::es,vs,h1,h2=>by
  rw [bV]at h1; rw [bV]at h2
  obtain⟨v,r,rfl,_⟩:=h2
  cases h1
 | d::ds,[],vs,h1,h2=>by
  rw [bV]at h1; rw [bV]at h2
  obtain⟨v,r,rfl,_⟩:=h1
  cases h2
 | d::ds,e::es,vs,h1,h2=>by
  rw [bV]at h1; rw [bV]at h2
  obtain⟨v,r,rfl,a1,a2⟩:=h1
  obtain⟨v',r',z,b1,b2⟩:=h2
  injection z with z1 z2
  rw [←z1]at b1
  rw [←z2]at b2
  rw [bj.inj I a1 b1,bV.inj I a2 b2]
end
theorem yT(I:Inv X pins σ H s):∀(n:Nat) {A:Around} {d e:D} {x y:V} {u v:Value},d.depth<=n->A.units+n<cLine->bj X.K H d x->bj X.K H e y->RelV x u->RelV y v->both A s u v (cR d e):=by
 intro n
 induction n with
 | zero =>
  intro A d e x y u v hd hu h1 h2 r1 r2
  refine oU I (by omega) ?_ h1 h2 r1 r2
  cases d <;> cases e <;> first | rfl | (rw [D.depth]at hd; omega)
 | succ n ih =>
  intro A d e x y u v hd hu h1 h2 r1 r2
  cases hs:seqs d e with
  | false=>exact oU I (by omega) hs h1 h2 r1 r2
  | true =>
   have items:∀{ds es:List D} {vs ws:List V} {its its':List Value},1+cA ds<=n+1->bV X.K H ds vs->bV X.K H es ws->Vals vs its->Vals ws its'->∀j (h1:j<its.toArray.size) (h2:j<its'.toArray.size),SeqAt.EqAt A.in1 s its.toArray[j] its'.toArray[j] (cR (ds.getD j .non) (es.getD j .non)):=by
    intro ds es vs ws its its' hdd g g' rv x9 j j1 j2
    obtain⟨x,e1,rx⟩:=nQ rv j1
    obtain⟨y,e2,ry⟩:=nQ x9 j2
    obtain⟨d,ed,gd⟩:=g.get e1
    obtain⟨e,ee,ge⟩:=g'.get e2
    rw [lI ed,lI ee]
    have:=kW ed
    exact(ih (by omega) (by show A.units+1+n<cLine; omega) gd ge rx ry).1
   cases d <;> cases e <;> first | cases hs | skip
   ·rename_i ds es
    rw [D.depth]at hd
    have g1:=h1
    have g2:=h2
    rw [bj]at h1; rw [bj]at h2
    obtain⟨a,vs,rfl,q,g⟩:=h1
    obtain⟨b,ws,rfl,q',g'⟩:=h2
    cases r1; cases r2
    obtain⟨its,rv,p,_⟩:=I.tuple q
    obtain⟨its',x9,p',_⟩:=I.tuple q'
    have l1:its.toArray.size=ds.length:=by simp [←rv.length,g.length]
    have l2:its'.toArray.size=es.length:=by simp [←x9.length,g'.length]
    have z1:=SeqAt.RcAt.tuples p p' (by omega) (items hd g g' rv x9)
    have z2:=SeqAt.RcNeAt.tuples p p' (by omega) (items hd g g' rv x9)
    rw [l1,l2,B4]at z1 z2
    rw [cR]
    refine⟨?_,z1,z2⟩
    by_cases hab:a=b
    ·subst hab
     have e:=bj.inj I g1 g2
     injection e with e
     rw [e,iI]
     exact .same _
    ·exact .of_refs hab z1
   ·rename_i ds es
    rw [D.depth]at hd
    have g1:=h1
    have g2:=h2
    rw [bj]at h1; rw [bj]at h2
    obtain⟨a,vs,rfl,q,g⟩:=h1
    obtain⟨b,ws,rfl,q',g'⟩:=h2
    cases r1; cases r2
    obtain⟨its,rv,p,_⟩:=I.list (a_.of q)
    obtain⟨its',x9,p',_⟩:=I.list (a_.of q')
    have l1:its.toArray.size=ds.length:=by simp [←rv.length,g.length]
    have l2:its'.toArray.size=es.length:=by simp [←x9.length,g'.length]
    have zz:SeqAt.RcAt A s (.ref a) (.ref b) (iF ds es)/\SeqAt.RcNeAt A s (.ref a) (.ref b) (!iF ds es):=by
     by_cases hl:ds.length=es.length
     ·have z1:=SeqAt.RcAt.lists p.isList p'.isList (by rw [l1,l2,hl]) (by omega) (items hd g g' rv x9)
      have z2:=SeqAt.RcNeAt.lists p.isList p'.isList (by rw [l1,l2,hl]) (by omega) (items hd g g' rv x9)
      rw [l1,oN hl]at z1 z2
      exact⟨z1,z2⟩
     ·rw [pZ hl]
      exact⟨SeqAt.RcAt.lists_lengths p.isList p'.isList (by rw [l1,l2]; simpa using hl) (by omega),SeqAt.RcNeAt.lists_lengths p.isList p'.isList (by rw [l1,l2]; simpa using hl) (by omega)⟩
    rw [cR]
    refine⟨?_,zz.1,zz.2⟩
    by_cases hab:a=b
    ·subst hab
     have e:=bj.inj I g1 g2
     injection e with e
     rw [e,iI]
     exact .same _
    ·exact .of_refs hab zz.1
def PV(K:Wg)(A:Around):R2:=λx y H Q=>∃d e,bj K H d x/\bj K H e y/\A.units+d.depth<cLine/\Q (.bl (cR d e)) H
def Pa(K:Wg)(A:Around):R2:=λx y H Q=>∃d e,bj K H d x/\bj K H e y/\A.units+d.depth<cLine/\Q (.bl (!cR d e)) H
theorem yM:je X (compareOp .Eq) (PV X.K X.A):=by
 intro pins s σ H x y v u Q I rx ry h
 obtain⟨d,e,h1,h2,hu,q⟩:=h
 exact(yT I d.depth (Vn _) hu h1 h2 rx ry).2.1 _ _ _ _ ⟨.bl _,H,I,rfl,q⟩
theorem jn:je X (compareOp .NotEq) (Pa X.K X.A):=by
 intro pins s σ H x y v u Q I rx ry h
 obtain⟨d,e,h1,h2,hu,q⟩:=h
 exact(yT I d.depth (Vn _) hu h1 h2 rx ry).2.2 _ _ _ _ ⟨.bl _,H,I,rfl,q⟩
def Fe(d:D)(es:List D):Bool:=es.any λe=>cR e d
def Pq(K:Wg)(A:Around)(neg:Bool):R2:=λx y H Q=>∃d es p xs,y=.ref p/\(a_ K H p xs\/aH K H p xs)/\bj K H d x/\bV K H es xs/\A.units+1+cA es<cLine/\Q (.bl (if neg then !Fe d es else Fe d es)) H
theorem xh{α:Type}{f:α->Bool}:∀{l:List α},l.any f=(List.range l.length).any λj=>(l[j]?.map f).getD false
 | []=>rfl
 | a::l=>by
  rw [Wd,VV,List.range_succ_eq_map,Wd,List.any_map,@xh _ f l]
  rfl
open Classical in
noncomputable def A8 (its:List Value) (es:List D) (d:D) (y:Value):Bool:=decide (∃j,its[j]? = some y/\cR (es.getD j .non) d=true)
theorem Cd(I:Inv X pins σ H s){its:List Value}{es:List D}{xs:List V}{d:D}(g:bV X.K H es xs)(r:Vals xs its){j:Nat}{y:Value}(h:its[j]? = some y):A8 its es d y=cR (es.getD j .non) d:=by
 have at':∀{j:Nat},its[j]? = some y->∃e v,es.getD j .non=e/\RelV v y/\bj X.K H e v:=λ{j} h=>by
  have hj:j<its.toArray.size:=by
   have:=(VC.mp h).1
   simpa using this
  obtain⟨v,e1,rv⟩:=nQ r hj
  obtain⟨e,ee,ge⟩:=g.get e1
  have:its.toArray[j]=y:=by
   have:=(VC.mp h).2
   simpa using this
  rw [this]at rv
  exact⟨e,v,lI ee,rv,ge⟩
 obtain⟨e,v,q1,q2,q3⟩:=at' h
 unfold A8
 cases q:cR (es.getD j .non) d with
 | true=>exact @Vq _ (Classical.propDecidable _) ⟨j,h,q⟩
 | false =>
  refine @Vp _ (Classical.propDecidable _) ?_
  rintro⟨j',h',z⟩
  obtain⟨e',v',p1,p2,p3⟩:=at' h'
  have:=RelV.inj p2 q2
  subst this
  have:=bj.inj I p3 q3
  rw [p1,this,←q1,q]at z
  cases z
theorem zL(I:Inv X pins σ H s){its:List Value}{es:List D}{xs:List V}{d:D}(g:bV X.K H es xs)(r:Vals xs its):its.any (A8 its es d)=Fe d es:=by
 have hl:its.length=es.length:=by rw [←r.length,g.length]
 unfold Fe
 rw [@xh _ (A8 its es d),@xh _ (λe=>cR e d),hl]
 have key:∀j∈List.range es.length,((its[j]?.map (A8 its es d)).getD false)=((es[j]?.map λe=>cR e d).getD false):=λj hj=>by
  have hj':=List.mem_range.mp hj
  have e1:its[j]? = some its[j]:=Vw (by omega)
  have e2:es[j]? = some es[j]:=Vw hj'
  rw [e1,e2]
  show A8 its es d its[j]=cR es[j] d
  rw [Cd I g r e1,lI e2]
 generalize List.range es.length=l at key
 induction l with
 | nil=>rfl
 | cons a l ih=>rw [Wd,Wd,key a (VU ..),ih λj hj=>key j (Vz _ hj)]
theorem vp(I:Inv X pins σ H s){A:Around}{its:List Value}{es:List D}{xs:List V}{d:D}{x:V}{u:Value}(g:bV X.K H es xs)(r:Vals xs its)(h:bj X.K H d x)(rx:RelV x u)(hu:A.units+1+cA es<cLine):∀y∈its.toArray,SeqAt.EqAt A.in1 s y u (A8 its es d y):=λy hy=>by
 have hy':y∈its:=by simpa using hy
 obtain⟨j,hj,e⟩:=List.getElem_of_mem hy'
 have e1:its[j]? = some y:=by rw [Vw hj,e]
 rw [Cd I g r e1]
 obtain⟨v,e2,rv⟩:=nQ r (j:=j) (by simpa using hj)
 obtain⟨e',e3,ge⟩:=g.get e2
 have:its.toArray[j]'(by simpa using hj)=y:=by simpa using e
 rw [this]at rv
 rw [lI e3]
 have:=kW e3
 exact(yT I e'.depth (Vn _) (by show A.units+1+e'.depth<cLine; omega) ge h rv rx).1
theorem rP:je X (compareOp .NotIn) (Pq X.K X.A true):=by
 intro pins s σ H x y v u Q I rx ry h
 obtain⟨d,es,p,xs,rfl,hq,h1,g,hu,q⟩:=h
 cases ry
 rcases hq with hq | hq
 ·obtain⟨its,r,pl,hz⟩:=I.list hq
  refine SeqAt.notIn_listAt (A8 its es d) pl.isList (vp I g r h1 rx hu) ⟨.bl _,H,I,rfl,?_⟩
  rw [show its.toArray.any (A8 its es d)=its.any (A8 its es d) by simp,zL I g r]
  exact q
 ·obtain⟨its,r,pl,hz⟩:=I.tuple hq
  refine SeqAt.notIn_tupleAt (A8 its es d) pl (vp I g r h1 rx hu) ⟨.bl _,H,I,rfl,?_⟩
  rw [show its.toArray.any (A8 its es d)=its.any (A8 its es d) by simp,zL I g r]
  exact q
end
section
variable{K:Wg}{H H':Hp}{a:Addr}
theorem FF:bj K H .non .non:=by rw [bj]
theorem zf(x:Int):bj K H (.int x) (.int x):=by rw [bj]
theorem gF(x:Str):bj K H (.str x) (.str x):=by rw [bj]
theorem Kr(x:Bool):bj K H (.bl x) (.bl x):=by rw [bj]
theorem iN{vs:List V}{ds:List D}(h:H a=some (.tup vs))(g:bV K H ds vs):bj K H (.tup ds) (.ref a):=by rw [bj]; exact⟨a,vs,rfl,aH.of h,g⟩
theorem lu{vs:List V}{ds:List D}(h:H a=some (.lst vs))(g:bV K H ds vs):bj K H (.lst ds) (.ref a):=by rw [bj]; exact⟨a,vs,rfl,h,g⟩
end
def B8(xs:Array Nat):Prop:=xs.toList.Pairwise (· < ·)
theorem B8.lt{xs:Array Nat}(h:B8 xs){i j a b:Nat}(hij:i<j)(ha:xs[i]? = some a)(hb:xs[j]? = some b):a<b:=by
 rw [←Array.getElem?_toList]at ha hb
 obtain⟨h1,e1⟩:=VC.mp ha
 obtain⟨h2,e2⟩:=VC.mp hb
 rw [←e1,←e2]
 exact List.pairwise_iff_getElem.mp h i j h1 h2 hij
theorem qf{xs:Array Nat}(h:B8 xs)(j:Nat):∀(fuel lo hi:Nat),hi<=xs.size->lo<=hi->hi-lo<=fuel->(∀i a,i<lo->xs[i]? = some a->a<j)->(∀i a,hi<=i->xs[i]? = some a->j<=a)->
  SetTable.below.go xs j fuel lo hi<=xs.size/\(∀i a,i<SetTable.below.go xs j fuel lo hi->xs[i]? = some a->a<j)/\∀i a,SetTable.below.go xs j fuel lo hi<=i->xs[i]? = some a->j<=a
 | 0,lo,hi,h1,h2,h3,h4,h5=>by
  have e:lo=hi:=by omega
  subst e
  exact⟨h1,h4,h5⟩
 | fuel+1,lo,hi,h1,h2,h3,h4,h5=>by
  unfold SetTable.below.go
  by_cases hlt:lo<hi
  ·rw [V0 hlt]
   have hm:(lo+hi) / 2<xs.size:=by omega
   have eg:xs[(lo+hi) / 2]? = some xs[(lo+hi) / 2]:=VQ hm
   have ed:xs.getD ((lo+hi) / 2) j=xs[(lo+hi) / 2]:=by simp [Array.getD,hm]
   dsimp only
   rw [ed]
   by_cases hc:xs[(lo+hi) / 2]<j
   ·rw [V0 hc]
    refine qf h j fuel _ hi h1 (by omega) (by omega) (λi a hi' e=>?_) h5
    by_cases q:i=(lo+hi) / 2
    ·subst q
     rw [eg]at e
     cases e
     exact hc
    ·exact Nat.lt_trans (h.lt (by omega) e eg) hc
   ·rw [VZ hc]
    refine qf h j fuel lo _ (by omega) (by omega) (by omega) h4 λi a hi' e=>?_
    by_cases q:i=(lo+hi) / 2
    ·subst q
     rw [eg]at e
     cases e
     omega
    ·have:=h.lt (show(lo+hi) / 2<i by omega) eg e
     omega
  ·rw [VZ hlt]
   have e:lo=hi:=by omega
   subst e
   exact⟨h1,h4,h5⟩
theorem kS{xs:Array Nat}(h:B8 xs)(j:Nat):SetTable.below xs j<=xs.size/\(∀i a,i<SetTable.below xs j->xs[i]? = some a->a<j)/\∀i a,SetTable.below xs j<=i->xs[i]? = some a->j<=a :=
 qf h j xs.size 0 xs.size (Vn _) (VJ _) (by omega) (λi a hi=>VY hi (by omega)) λi a hi e=>by
  rw [Array.getElem?_eq_none hi]at e
  cases e
theorem yF{xs:Array Nat}(h:B8 xs){j:Nat}(hn:xs[SetTable.below xs j]?≠some j):B8 (SetTable.insertAt xs (SetTable.below xs j) j):=by
 obtain⟨h1,h2,h3⟩:=kS h j
 unfold B8
 rw [SetTable.toList_insertAt]
 have hl:∀a∈xs.toList.take (SetTable.below xs j),a<j:=λa ha=>by
  obtain⟨i,hi⟩:=List.mem_iff_getElem?.mp ha
  rw [List.getElem?_take]at hi
  split at hi
  ·rename_i hlt
   exact h2 i a hlt (by rw [←Array.getElem?_toList]; exact hi)
  ·cases hi
 have hr:∀a∈xs.toList.drop (SetTable.below xs j),j<a:=λa ha=>by
  obtain⟨i,hi⟩:=List.mem_iff_getElem?.mp ha
  rw [List.getElem?_drop,Array.getElem?_toList]at hi
  have q:=h3 _ a (Nat.le_add_right _ i) hi
  rcases Nat.lt_or_eq_of_le q with q | q
  ·exact q
  ·exfalso
   subst q
   cases i with
   | zero=>exact hn hi
   | succ i =>
    have hb:SetTable.below xs j<xs.size:=by
     have:=(Array.getElem?_eq_some_iff.mp hi).1
     omega
    have e0:xs[SetTable.below xs j]? = some xs[SetTable.below xs j]:=VQ hb
    have l1:=h3 _ _ (Vn _) e0
    have l2:=h.lt (show SetTable.below xs j<SetTable.below xs j+(i+1) by omega) e0 hi
    omega
 have hp:(xs.toList.take (SetTable.below xs j)++xs.toList.drop (SetTable.below xs j)).Pairwise (· < ·):=by rw [List.take_append_drop]; exact h
 rw [List.pairwise_append]at hp
 first
 | (rw [List.pairwise_append]
    refine⟨hp.1,?_,λa ha b hb=>?_⟩
    ·exact List.pairwise_cons.mpr ⟨hr,hp.2.1⟩
    ·rcases VF.mp hb with e | hb
     ·subst e; exact hl a ha
     ·exact hp.2.2 a ha b hb)
 | skip
structure TabOk(t:SetTable)(b:Bool):Prop where
 PQ:B8 t.place
 OE:t.dummies = #[]
 led:t.led=b
theorem zc(j:Nat):SetTable.has #[] j=false:=by simp [SetTable.has]
theorem ng{t:SetTable}(hd:t.dummies = #[]){f:Nat->Int}{h:Int}(hf:∀i,(f i==h)=false):∀(fuel:Nat) (p:SetTable.Probe) (j:Nat) (d:Option Nat),p.dummy=none->SetTable.probe.go t f h fuel p=some (.empty j d)->
  d=none/\t.slot j=.empty
 | 0,p,j,d,_,e=>by
  unfold SetTable.probe.go at e
  cases e
 | fuel+1,p,j,d,hp,e=>by
  have TQ:∀p:SetTable.Probe,p.dummy=none->(t.advance p).dummy=none:=λp hp=>by
   unfold SetTable.advance
   split
   ·exact hp
   ·exact hp
  unfold SetTable.probe.go at e
  split at e
  ·rename_i hs
   cases e
   exact⟨hp,hs⟩
  ·rename_i hs
   unfold SetTable.slot at hs
   dsimp only at hs
   rw [hd,zc]at hs
   split at hs <;> cases hs
  ·rename_i i hs
   rw [hf i]at e
   exact ng hd hf fuel _ j d (TQ p hp) e
theorem yu{t:SetTable}{j:Nat}(h:t.slot j=.empty):t.place[SetTable.below t.place j]?≠some j:=λe=>by
 unfold SetTable.slot at h
 dsimp only at h
 rw [e]at h
 rw [V0 (by simp)]at h
 cases h
theorem Aa(n:Nat):B8 (Array.range n):=by
 unfold B8
 rw [Array.toList_range]
 exact List.pairwise_lt_range
theorem i6{t:SetTable}{b:Bool}(h:TabOk t b)(n:Nat):TabOk (t.standIn n) b:=⟨Aa n,rfl,h.led⟩
theorem z0{t:SetTable}{b:Bool}(ok:TabOk t b)(es:Array (Int×Value))(h:Int)(x:Value):TabOk (layNew t es h x).2.1 b:=by
 unfold layNew
 split
 ·rename_i slot wd e
  have hs:t.slot slot=.empty:=by
   unfold SetTable.freeSlot at e
   split at e
   ·rename_i j d e2
    unfold SetTable.probe at e2
    obtain⟨q1,q2⟩:=ng ok.OE (λ_=>by simp; omega) _ _ _ _ rfl e2
    subst q1
    cases e
    exact q2
   ·cases e
  have o2:TabOk (t.put slot).1 b:=by
   unfold SetTable.put
   refine⟨yF ok.PQ (yu hs),?_,ok.led⟩
   show(if SetTable.has t.dummies slot=true then _ else t.dummies) = #[]
   rw [ok.OE,zc]
   rfl
  dsimp only
  unfold SetTable.orStandIn
  split
  ·exact o2
  ·exact i6 o2 _
 ·exact i6 ok _
theorem rk{α:Type}(f:Nat->Option α)(n:Nat):(((List.range n).filterMap λj=>(f j).map (j,·)).map (·.1)).Pairwise (· < ·):=by
 have e:(((List.range n).filterMap λj=>(f j).map (j,·)).map (·.1))=(List.range n).filter λj=>(f j).isSome:=by
  rw [List.map_filterMap,←List.filterMap_eq_filter]
  congr 1
  funext j
  cases hf:f j <;> simp [Option.guard,hf]
 rw [e]
 exact List.Pairwise.filter _ List.pairwise_lt_range
theorem vK{t:SetTable}{b:Bool}(ok:TabOk t b)(es:Array (Int×Value))(n:Nat):TabOk (relayAll t es n).2.1 b:=by
 unfold relayAll
 split
 ·rename_i t' order e
  have o2:TabOk t' b:=by
   unfold SetTable.relaid SetTable.laid at e
   simp only [bind,Option.bind_eq_some_iff]at e
   obtain⟨owner,_,e⟩:=e
   cases e
   exact⟨rk _ _,rfl,ok.led⟩
  dsimp only
  split
  ·exact o2
  ·exact i6 ok _
 ·exact i6 ok _
section
variable{prog:Program}{w:World}{A:Around}{E:Value->Shared->Prop}{s:Shared}
def cu(w:World):Bool:=w.params.followText "set-order"
def BE:Value->Key
 | .int i _=>.inl i
 | .str x _=>.inr x
 | _=>.inl 0
theorem yA{k:Key}{v:Value}(h:gb k v=true):BE v=k:=by
 rcases bJ h with⟨i,t,rfl,rfl⟩ | ⟨x,t,rfl,rfl⟩ <;> rfl
structure fA(prog:Program)(w:World)(h:Heap)(a:Addr)(ks:List Key)(es:Array (Int×Value))(ep:Nat)(t:SetTable):Prop where
 obj:h.get? a=some {cls:=.type "set",dict:=none,data:=.set es ep t,slots:=#[]}
 els:ElemsOf (bL prog w) es.toList
 few:es.size<scanBound
 fits:t.fits es.size=true
 tab:TabOk t (!cu w)
 Oa:ks.Nodup
 keys:(es.toList.map λe=>BE e.2).Perm ks
theorem fA.keep{h h':Heap}{a:Addr}{ks:List Key}{es:Array (Int×Value)}{ep:Nat}{t:SetTable}(r:fA prog w h a ks es ep t)(k:∀o,h.get? a=some o->h'.get? a=some o):fA prog w h' a ks es ep t :=
 ⟨k _ r.obj,r.els,r.few,r.fits,r.tab,r.Oa,r.keys⟩
theorem fA.mem{h:Heap}{a:Addr}{ks:List Key}{es:Array (Int×Value)}{ep:Nat}{t:SetTable}(r:fA prog w h a ks es ep t){k:Key}:(∃e∈es.toList,(bL prog w).is k e.2=true)↔k∈ks:=by
 constructor
 ·rintro⟨e,he,hk⟩
  refine r.keys.mem_iff.mp (VE.mpr ⟨e,he,yA hk⟩)
 ·intro hk
  obtain⟨e,he,q⟩:=VE.mp (r.keys.mem_iff.mpr hk)
  obtain⟨⟨k',hk',_⟩,_⟩:=r.els e he
  refine⟨e,he,?_⟩
  have:BE e.2=k':=yA hk'
  rw [←q,this]
  exact hk'
open Classical in
noncomputable def lJ (ks:List Key) (k:Key):List Key:=if k∈ks then ks else ks++[k]
theorem zY{h:Heap}{a:Addr}{es:Array (Int×Value)}{ep:Nat}{t:SetTable}(ho:h.get? a=some {cls:=.type "set",dict:=none,data:=.set es ep t,slots:=#[]})(es':Array (Int×Value))(t':SetTable) :
  (h.update a (Obj.putSet es' t')).get? a=some {cls:=.type "set",dict:=none,data:=.set es' (ep+1) t',slots:=#[]}:=by
 have:=Heap.get?_update_self (Obj.putSet es' t') ho (by rw [putSet_of es' t' rfl]; rfl)
 rw [putSet_of es' t' rfl]at this
 exact this
theorem wx{g:Bool->Sem Unit}(hg:∀(b:Bool) (s₁:Shared) (Q':Unit->Shared->Prop),Q' () s₁->wpAny (model prog w) A (g b) Q' E s₁)
  {a:Addr} {es:Array (Int×Value)} {ep:Nat} {t:SetTable} (ho:s.heap.get? a=some {cls:=.type "set",dict:=none,data:=.set es ep t,slots:=#[]})
  {es1:Array (Int×Value)} {t2:SetTable} {ks:List Key} (he:ElemsOf (bL prog w) es1.toList) (hb:es1.size<scanBound) (hf:t2.fits es1.size=true) (ht:TabOk t2 (!cu w)) (hn:ks.Nodup) (hk:(es1.toList.map λe=>BE e.2).Perm ks)
  {wasDummy:Bool} {R:Option Bool->Shared->Prop}
  (h:∀h' es' ep' t',Heap.SameBut a s.heap h'->fA prog w h' a ks es' ep' t'->R (some true) {s with heap:=h'}) :
  wpAny (model prog w) A (do
    storeSet a es1 t2
    if(!wasDummy&&t2.tooFull)=true then do
      g (relayAll t2 es1 (SetTable.grown es1.size)).2.2
      storeSet a (relayAll t2 es1 (SetTable.grown es1.size)).1 (relayAll t2 es1 (SetTable.grown es1.size)).2.1
      pure (some true)
     else pure (some true)) R E s:=by
 refine Vi (wpAny_storeSet_of ho rfl ?_ (fits_of_scanBound hb))
 have ho1:=zY ho es1 t2
 have Rw:=Heap.SameBut.update s.heap a (Obj.putSet es1 t2)
 split
 ·have hp:=relayAll_perm t2 es1 (SetTable.grown es1.size)
  have hfr:=relayAll_fits t2 es1 (SetTable.grown es1.size)
  have hto:=vK ht es1 (SetTable.grown es1.size)
  generalize hRl:relayAll t2 es1 (SetTable.grown es1.size)=Rl at hp hfr hto⊢
  obtain⟨es2,t3,gave2⟩:=Rl
  dsimp only at hp hfr hto⊢
  have hsz:es2.size=es1.size:=by rw [←Wc,hp.length_eq,Wc]
  have hb2:es2.size<scanBound:=by rw [hsz]; exact hb
  refine Vi (hg _ _ _ ?_)
  refine Vi (wpAny_storeSet_of ho1 rfl ?_ (fits_of_scanBound hb2))
  exact Vj (h _ es2 _ t3 (Rw.trans (Heap.SameBut.update _ a _)) ⟨zY ho1 es2 t3,he.perm hp,hb2,hfr,hto,hn,(hp.map _).trans hk⟩)
 ·exact Vj (h _ es1 _ t2 Rw ⟨ho1,he,hb,hf,ht,hn,hk⟩)
theorem xw{a:Addr}{ks:List Key}{es:Array (Int×Value)}{ep:Nat}{t:SetTable}{k:Key}{x:Value}{Q:Bool->Shared->Prop}(hkey:gb k x=true)(hsc:x.scannable=true)(hS:fA prog w s.heap a ks es ep t)
  (hroom:ks.length+1<scanBound)
  (h:∀b h' es' ep' t',Heap.SameBut a s.heap h'->fA prog w h' a (lJ ks k) es' ep' t'->Q b {s with heap:=h'}) :
  wpAny (model prog w) A (setAddHashed a x ((bL prog w).hash k)) Q E s:=by
 have MH:es.size=ks.length:=by rw [←hS.keys.length_eq,Vr,Wc]
 have hkey':(bL prog w).is k x=true:=hkey
 have hel:=hS.els
 unfold setAddHashed setAddHashedIn
 refine VS (Vi (wpAny_setState_of hS.obj rfl hS.fits ?_))
 dsimp only
 rw [byScan_of hsc hS.few hel]
 simp only [↓reduceIte]
 unfold setAddByScan
 refine Vi ?_
 refine Vi (wpAny_rule ?_)
 refine Vi (wpAny_setScan_of hkey' hS.obj rfl hS.fits hel ?_)
 cases hr:List.findIdx? (λe=>(bL prog w).is k e.2) es.toList with
 | some j =>
  dsimp only
  obtain⟨hj,hpj,_⟩:=List.findIdx?_eq_some_iff_getElem.mp hr
  have hin:k∈ks:=hS.mem.mp ⟨es.toList[j],List.getElem_mem hj,hpj⟩
  refine Vj (Vj ?_)
  have e:s ={s with heap:=s.heap}:=by cases s; rfl
  have:=h false s.heap es ep t (Heap.SameBut.refl a s.heap) (by unfold lJ; rw [V0 hin]; exact hS)
  rw [e]
  exact this
 | none =>
  dsimp only
  have hout:k∉ks:=λhin=>by
   obtain⟨e,he,hp⟩:=hS.mem.mpr hin
   have:=List.findIdx?_eq_none_iff.mp hr e he
   rw [hp]at this
   exact Bool.noConfusion this
  have hgw:∀(b:Bool) {s₁:Shared} {Q':Unit->Shared->Prop},Q' () s₁->wpAny (model prog w) A (match b with | true=>rule "set.scan.the-table-gave-way" | false=>pure ()) Q' E s₁ :=
   λb s₁ Q' hq=>by cases b <;> first | exact Vj hq | exact wpAny_rule hq
  have hperm:=layNew_perm t es ((bL prog w).hash k) x
  have hfits:=layNew_fits t es ((bL prog w).hash k) x
  have htab:=z0 hS.tab es ((bL prog w).hash k) x
  generalize hL:layNew t es ((bL prog w).hash k) x=L at hperm hfits htab⊢
  obtain⟨es1,t1,wasDummy,gave⟩:=L
  dsimp only at hperm hfits htab⊢
  rw [Array.toList_push]at hperm
  have hel1:ElemsOf (bL prog w) es1.toList:=(hel.push hkey' hsc).perm hperm
  have hb1':es1.size<scanBound:=by
   rw [←Wc,hperm.length_eq,Vs,Wc,MH]
   simpa using hroom
  have QE:lJ ks k=ks++[k]:=by unfold lJ; rw [VZ hout]
  have Bz:(lJ ks k).Nodup:=by
   rw [QE,List.nodup_append]
   exact⟨hS.Oa,by simp,λx hx y hy e=>by simp at hy; subst hy; subst e; exact hout hx⟩
  have hkeys:(es1.toList.map λe=>BE e.2).Perm (lJ ks k):=by
   rw [QE]
   refine(hperm.map _).trans ?_
   rw [Vt]
   refine hS.keys.append ?_
   show [BE x].Perm [k]
   rw [yA hkey]
  refine Vi (hgw _ ?_)
  split
  ·refine Vi ?_
   rw [hashByValue_scannable 8 hsc]
   refine Vj ?_
   refine wx (ks:=lJ ks k) ?_ hS.obj hel1 hb1' ?_ ?_ Bz hkeys ?_
   ·intro b s₁ Q' hq; cases b <;> first | exact Vj hq | exact wpAny_rule hq
   ·split
    ·exact hfits
    ·exact SetTable.fits_plain_off hfits
   ·split
    ·exact htab
    ·exact⟨htab.PQ,htab.OE,htab.led⟩
   ·intro h' es' ep' t' hsb hS'; dsimp only; exact Vj (h true h' es' ep' t' hsb hS')
  ·refine Vi (Vj ?_)
   simp only [↓reduceIte]
   refine wx (ks:=lJ ks k) ?_ hS.obj hel1 hb1' hfits htab Bz hkeys ?_
   ·intro b s₁ Q' hq; cases b <;> first | exact Vj hq | exact wpAny_rule hq
   ·intro h' es' ep' t' hsb hS'; dsimp only; exact Vj (h true h' es' ep' t' hsb hS')
noncomputable def ku (key:Nat->Key):Nat->List Key
 | 0=>[]
 | i+1=>lJ (ku key i) (key i)
theorem D6(ks:List Key)(k:Key):(lJ ks k).length<=ks.length+1:=by
 unfold lJ
 split
 ·omega
 ·simp
theorem pD(key:Nat->Key):∀i,(ku key i).length<=i
 | 0=>Vn _
 | i+1=>Vo (D6 _ _) (Nat.succ_le_succ (pD key i))
theorem BJ{ks:List Key}{k x:Key}:x∈lJ ks k↔x∈ks\/x=k:=by
 unfold lJ
 split
 ·rename_i h
  exact⟨.inl,λq=>q.elim id λe=>e▸h⟩
 ·simp
theorem ve{key:Nat->Key}{x:Key}:∀{i:Nat},x∈ku key i↔∃j,j<i/\key j=x
 | 0=>by simp [ku]
 | i+1=>by
  show x∈lJ (ku key i) (key i)↔_
  rw [BJ,ve]
  constructor
  ·rintro(⟨j,hj,e⟩ | e)
   ·exact⟨j,Nat.lt_succ_of_lt hj,e⟩
   ·exact⟨i,Nat.lt_succ_self _,e.symm⟩
  ·rintro⟨j,hj,e⟩
   rcases Nat.lt_succ_iff_lt_or_eq.mp hj with q | q
   ·exact .inl ⟨j,q,e⟩
   ·exact .inr (by rw [←e,q])
end
section
variable{prog:Program}{w:World}{A:Around}{R:Result->Shared->Prop}{I:Addr}{fp wr:List Addr}{G:Array GenState->Array GenState->Prop}{n:Nat}{P:Nat->Value->Prop}{St:Nat->Shared->Prop}
theorem D8(W:WalksS prog w A.in1 I fp wr G n P St)(S:Addr)(hSf:S∉fp)(key:Nat->Key)(hval:∀i v,P i v->gb (key i) v=true/\v.scannable=true)(hb:n+1<scanBound) :
  ∀(k i:Nat) (s:Shared) (es:Array (Int×Value)) (ep:Nat) (t:SetTable),n-i=k->i<=n->St i s->fA prog w s.heap S (ku key i) es ep t->
   (∀s' es' ep' t',Moved (S::wr) G s s'->fA prog w s'.heap S (ku key n) es' ep' t'->R (.ok (.ret .none)) s')->
   codeAny (model prog w) A (.builtin "set.update.loop" ⟨[.ref S,.ref I],[]⟩) R s:=by
 have hSw:S∉wr:=λh=>hSf (W.sub _ h)
 have hsub:∀b∈wr,b∈S::wr:=λb hb=>Vz _ hb
 intro k
 induction k with
 | zero =>
  intro i s es ep t hk hi hst hS hR
  have hin:i=n:=by omega
  subst hin
  refine codeAny_builtin F.entry_set_update_loop ?_
  rw [Around.under_plainId F.plain_set_update_loop _]
  show wpAny _ A.in1 (pyNext (.ref I) >>= _) _ _ s
  refine Vi (W.done s _ _ hst λs' hm=>?_)
  show wpAny _ A.in1 (ret Value.none) _ _ s'
  exact Vj (hR s' es ep t (hm.mono hsub) (hS.keep λo e=>hm.heap S o hSw e))
 | succ k ih =>
  intro i s es ep t hk hi hst hS hR
  have hlt:i<n:=by omega
  refine codeAny_builtin F.entry_set_update_loop ?_
  rw [Around.under_plainId F.plain_set_update_loop _]
  show wpAny _ A.in1 (pyNext (.ref I) >>= _) _ _ s
  refine Vi (W.item i s _ _ hlt hst λv s' hP hst' hm=>?_)
  obtain⟨hv1,hv2⟩:=hval i v hP
  have hS':=hS.keep (h':=s'.heap) λo e=>hm.heap S o hSw e
  show wpAny _ A.in1 (holding [v] (setAdd S v) >>= _) _ _ s'
  refine Vi (VS ?_)
  unfold setAdd
  refine VS ?_
  refine Vi ((bL prog w).pyHash (k:=key i) hv1 ?_)
  have hroom:(ku key i).length+1<scanBound:=by have:=pD key i; omega
  refine xw (s:={s' with toks:=s'.toks+1}) hv1 hv2 hS' hroom λb h' es' ep' t' hsb hS2=>?_
  refine Vj ⟨plainId_quiet F.plain_set_update_loop _,ih (i+1) _ es' ep' t' (by omega) hlt (W.frame _ s' _ _ hst' (Nat.le_succ _) λb hb o e=>?_) hS2 λs'' es2 UU t2 hm'' hS''=>?_⟩
  ·rw [hsb.2 b (λh:b=S=>hSf (by rw [←h]; exact hb))]; exact e
  ·refine hR s'' es2 UU t2 (Moved.trans W.gtrans ((hm.mono hsub).then_heap (Nat.le_succ _) λb o hb e=>?_) hm'') hS''
   rw [hsb.2 b (λh:b=S=>hb (by rw [h]; exact VU))]; exact e
end
section
variable{prog:Program}{w:World}{A:Around}{E:Value->Shared->Prop}{s:Shared}
theorem vz(a:Value){Q₁:Value->Shared->Prop}
  (h:Q₁ (.ref s.heap.objs.size) {s with heap:=s.heap.push {cls:=.type "set",dict:=none,data:=.set #[] 0 (.fresh 0 0 (!cu w))}}) :
  codeAny (model prog w) A (.call (.builtin "set.__new__") ⟨[.type "set",a],[]⟩) (wants Q₁ E) s:=by
 refine codeAny_of_tree ?_
 show wpAny _ A.in1 (do checkBuiltinCall "set.__new__" ⟨[.type "set",a],[]⟩; again (.builtin "set.__new__" ⟨[.type "set",a],[]⟩)) _ _ s
 refine Vi (wpAny_of_eq (F.newCall_set_1 a) (Vj ⟨plainId_quiet F.plain_set_new _,codeAny_builtin F.entry_set_new ?_⟩))
 rw [Around.under_plainId F.plain_set_new _]
 unfold Builtin.«set.__new__» Builtin.Frozenset.newClass
 have hsub:=sub_set_self
 obtain⟨hp,g,d,tk,os⟩:=s
 dsimp only
 wp_walk
 refine wpAny_askSetting (Vj ?_)
 dsimp only
 simp only [newObj]
 refine Vi (wpAny_alloc (Vj ?_))
 exact Vj h
end
theorem sub_tuple_set:isSubtype (.type "tuple") (.type "set")=pure false:=by rw [isSubtype_type]; kernel_rfl
theorem sub_tuple_frozenset:isSubtype (.type "tuple") (.type "frozenset")=pure false:=by rw [isSubtype_type]; kernel_rfl
structure tQ(prog:Program)(w:World)(T:String)(l:Addr)(items:Array Value):Prop where
 Ji:isSubtype (.type T) (.type "set")=pure false
 Jb:isSubtype (.type T) (.type "frozenset")=pure false
 nd:(Value.type T==Value.type "dict")=false
 it:∀(A:Around) (s:Shared) (o:Obj),A.handled=none->s.heap.get? l=some o->o.cls=.type T->(∃n,o.data=.seq items n)->∃(oI:Obj) (St:Nat->Heap->Prop),
  (∀(E:Value->Shared->Prop) (Q:Value->Shared->Prop),Q (.ref s.heap.objs.size) {s with heap:=s.heap.push oI}->wpAny (model prog w) A (pyIter (.ref l)) Q E s)/\
  Walks prog w A s.heap.objs.size [s.heap.objs.size,l] [s.heap.objs.size] items.size (λi v=>items[i]? = some v) St/\St 0 (s.heap.push oI)
theorem src_list{prog:Program}{w:World}{l:Addr}{items:Array Value}:tQ prog w "list" l items where
 Ji:=F.sub_list_set
 Jb:=F.sub_list_frozenset
 nd:=by decide
 it:=λA s o hh ho hc hd=>by
  have hl:s.heap.IsList l items:=⟨o,ho,hc,hd⟩
  refine⟨_,_,λE Q q=>wpAny_pyIter_list hl q,Walks.list hh _ l (VI (Vl ho)) items,⟨_,Vm _ rfl,rfl,rfl⟩,hl.push _⟩
theorem Hr{prog:Program}{w:World}{l:Addr}{items:Array Value}:tQ prog w "tuple" l items where
 Ji:=sub_tuple_set
 Jb:=sub_tuple_frozenset
 nd:=by decide
 it:=λA s o hh ho hc hd=>by
  have hl:s.heap.IsTuple l items:=⟨o,ho,hc,hd⟩
  refine⟨_,_,λE Q q=>wpAny_pyIter_tuple hl q,Walks.tuple hh _ l (VI (Vl ho)) items,⟨_,Vm _ rfl,rfl,rfl⟩,hl.push _⟩
section
variable{prog:Program}{w:World}{A:Around}{E:Value->Shared->Prop}{s:Shared}
theorem wF{T:String}{l:Addr}{items:Array Value}{o:Obj}{key:Nat->Key}{Q:Value->Shared->Prop}(src:tQ prog w T l items)
  (hh:A.handled=none) (ho:s.heap.get? l=some o) (hc:o.cls=.type T) (hdt:∃n,o.data=.seq items n) (hi:∀i v,items[i]? = some v->gb (key i) v=true/\v.scannable=true) (hb:items.size+1<scanBound)
  (h:∀(h':Heap) (tk:Nat) es ep t,fA prog w h' s.heap.objs.size (ku key items.size) es ep t->(∀b o,s.heap.get? b=some o->h'.get? b=some o)->Q (.ref s.heap.objs.size) {s with heap:=h',toks:=tk}) :
  wpAny (model prog w) A (call (.type "set") [.ref l]) Q E s:=by
 obtain⟨c,tl,hmro⟩:=F.called_set.mro
 have hmade:=F.called_set.made
 have hsub:=F.called_set.sub
 refine wpAny_call (codeAny_of_tree ?_)
 show wpAny _ _ (callAny (.type "set") _) _ _ _
 refine Vj ⟨Code.quiet_builtin _ (by decide +kernel),codeAny_builtin F.entry_type_call ?_⟩
 rw [Around.under_plain (weight_type_call_type "set" [.ref l] []) rfl]
 have h1:=F.called_set.notType
 have h2:=F.called_set.canCreate
 have hct:=F.typeCall_set_1 (.ref l)
 repeat (any_goals (first | assumption | wp_step))
 refine codeAny_mono (vz (.ref l) (E:=E) (Q₁:=λobj s₁=>obj=.ref s.heap.objs.size/\s₁ ={s with heap:=s.heap.push {cls:=.type "set",dict:=none,data:=.set #[] 0 (.fresh 0 0 (!cu w))}}) ⟨rfl,rfl⟩) λr s₁ hr=>?_
 cases r with
 | error e=>exact hr
 | ok fl =>
  cases fl with
  | ret obj =>
   obtain⟨rfl,rfl⟩:=hr
   have hS:(s.heap.push {cls:=.type "set",dict:=none,data:=.set #[] 0 (.fresh 0 0 (!cu w))}).get? s.heap.objs.size=some {cls:=.type "set",dict:=none,data:=.set #[] 0 (.fresh 0 0 (!cu w))}:=Vm _ rfl
   have hT:Shared.TypeIs {s with heap:=s.heap.push {cls:=.type "set",dict:=none,data:=.set #[] 0 (.fresh 0 0 (!cu w))}} (.ref s.heap.objs.size) "set":=⟨_,hS,rfl⟩
   have hli:=F.called_set.init.lookup
   have hbi:=F.called_set.init.bind (.ref s.heap.objs.size)
   repeat (any_goals (first | assumption | wp_step))
   refine codeAny_mono (codeAny_call_builtin (R:=wants (λr s₂=>r=.none/\∃h' tk es ep t,s₂ ={s with heap:=h',toks:=tk}/\
     fA prog w h' s.heap.objs.size (ku key items.size) es ep t/\(∀b o,s.heap.get? b=some o->h'.get? b=some o)) E) F.called_set.init.plain F.entry_set_init (check_set_init_1 hT ?_)) λr₂ s₂ hr₂=>?_
   ·have ho':(s.heap.push {cls:=.type "set",dict:=none,data:=.set #[] 0 (.fresh 0 0 (!cu w))}).get? l=some o:=Vk _ ho
    have U_:Shared.TypeIs {s with heap:=s.heap.push {cls:=.type "set",dict:=none,data:=.set #[] 0 (.fresh 0 0 (!cu w))}} (.ref l) T:=⟨_,ho',hc⟩
    have hsls:=src.Ji
    have hslf:=src.Jb
    have hne:=src.nd
    obtain⟨oI,St,hit,W,st⟩:=src.it A.in1.in1.in1 {s with heap:=s.heap.push {cls:=.type "set",dict:=none,data:=.set #[] 0 (.fresh 0 0 (!cu w))}} o (by simpa using hh) ho' hc hdt
    unfold Builtin.«set.__init__» noKeywords Builtin.Frozenset.updateFrom
    generalize hPI:pyIter=PI
    wp_walk
    subst hPI
    refine wpAny_of_in1 (hit _ _ ?_)
    refine Vi (wpAny_runValue ?_)
    have hlS:l<s.heap.objs.size:=Vl ho
    have hsz:(s.heap.push {cls:=.type "set",dict:=none,data:=.set #[] 0 (.fresh 0 0 (!cu w))}).objs.size=s.heap.objs.size+1:=Heap.size_push _ _
    have hSf:s.heap.objs.size∉[(s.heap.push {cls:=.type "set",dict:=none,data:=.set #[] 0 (.fresh 0 0 (!cu w))}).objs.size,l]:=by
     rw [hsz]; simp only [VF,V1,or_false,not_or]
     exact⟨VI (Nat.lt_succ_self _),Nat.ne_of_gt hlS⟩
    refine D8 W.toS s.heap.objs.size hSf key (λi v hv=>hi i v hv) hb (items.size-0) 0 _ #[] 0 (SetTable.fresh 0 0 (!cu w)) (by omega) (VJ _) st ?hS0 ?hR
    case hS0 =>
     have hget:=Vk oI hS
     exact⟨hget,λe he=>VY he (by simp),by unfold scanBound; decide,by simp [SetTable.fits,SetTable.fresh,SetTable.fill],⟨List.Pairwise.nil,rfl,rfl⟩,List.nodup_nil,by simp [ku]⟩
    case hR =>
     intro s' es' ep' t' hm hS'
     obtain⟨h',g',d',tk',os'⟩:=s'
     have eg:g'=s.gens:=hm.gens
     have ed:d'=s.drawn:=hm.drawn
     have eo:os'=s.os:=hm.os
     subst eg; subst ed; subst eo
     show wpAny _ _ _ _ _ _
     refine Vj ?_
     show wpAny _ _ (ret Value.none) _ _ _
     refine Vj ⟨rfl,h',tk',es',ep',t',rfl,hS',λb o e=>?_⟩
     have hb1:b≠s.heap.objs.size:=VI (Vl e)
     have hb2:b≠(s.heap.push {cls:=.type "set",dict:=none,data:=.set #[] 0 (.fresh 0 0 (!cu w))}).objs.size:=by
      rw [hsz]; exact VI (Nat.lt_succ_of_lt (Vl e))
     exact hm.heap b o (by simp only [VF,V1,or_false,not_or]; exact⟨hb1,hb2⟩) (Vk _ (Vk _ e))
   ·cases r₂ with
    | error e=>exact hr₂
    | ok fl₂ =>
     cases fl₂ with
     | ret r =>
      obtain⟨rfl,h',tk,es,ep,t,rfl,hS',hk'⟩:=hr₂
      repeat (any_goals (first | assumption | wp_step))
      exact h _ _ es ep t hS' hk'
     | _=>exact hr₂.elim
  | _=>exact hr.elim
end
theorem nj:entryFor table "set.__iter__"=some Builtin.«frozenset.__iter__» :=
 entryFor_alias (id':="frozenset.__iter__") (by kernel_rfl) rfl (by decide +kernel) (by kernel_rfl)
theorem eQ:Slot "set_iterator" "__next__" "set_iterator.__next__" :=
 .of (owner:="set_iterator") (n:="__next__") (by rw [typeLookup_type,builtinLookup_eq_fast]; kernel_rfl) (by decide +kernel) (by decide +kernel) (by decide +kernel)
  (by first | exact .inl (by decide +kernel) | exact .inr (by decide +kernel)) (by rw [isSubtype_type]; kernel_rfl)
theorem qT:entryFor table "set_iterator.__next__"=some Builtin.«set_iterator.__next__»:=entryFor_of_fast (by kernel_rfl)
theorem uM(a:Value):argsOk "set_iterator.__next__" ⟨[a],[]⟩:=by unfold argsOk; kernel_rfl
section
variable{prog:Program}{w:World}{A:Around}{E:Value->Shared->Prop}{s:Shared}
theorem AR{src:Source}{n:Nat}{Q:Nat->Shared->Prop}(hn:n≠0)(h:∀k d,k<n->Q k {s with drawn:=d}):wpAny (model prog w) A (choose src n) Q E s:=λ_ _ _ =>
 ⟨hn,h _ _ (Nat.mod_lt _ (Nat.pos_of_ne_zero hn))⟩
theorem gZ{α:Type}:∀{xs:List α} {i:Nat} {x:α},xs[i]? = some x->(x::xs.eraseIdx i).Perm xs
 | [],i,x,h=>by simp at h
 | y::ys,0,x,h=>by
  have e:y=x:=by simpa using h
  subst e
  exact List.Perm.refl _
 | y::ys,i+1,x,h=>by
  have h':ys[i]? = some x:=by simpa using h
  exact(List.Perm.swap _ _ _).trans ((gZ h').cons y)
theorem lR{α:Type}:∀(n:Nat) (xs:List α) (s:Shared) {Q:List α->Shared->Prop},xs.length=n->(∀ys d,ys.Perm xs->Q ys {s with drawn:=d})->wpAny (model prog w) A (drawOrder n xs) Q E s
 | 0,xs,s,Q,e,h=>by
  have:xs=[]:=List.length_eq_zero_iff.mp e
  subst this
  unfold drawOrder
  exact Vj (h [] s.drawn (List.Perm.refl _))
 | n+1,[],s,Q,e,h=>by cases e
 | n+1,x::xs,s,Q,e,h=>by
  unfold drawOrder
  refine Vi (AR (by simp) λk d hk=>?_)
  have hk':(x::xs)[k]? = some (x::xs)[k]:=Vw hk
  rw [hk']
  dsimp only
  refine Vi (lR n _ _ (by rw [List.length_eraseIdx_of_lt hk,e]; rfl) λys d' hp=>?_)
  exact Vj (h _ d' ((hp.cons _).trans (gZ hk')))
abbrev e8(first:Value)(i:Nat)(S:Addr)(n ep:Nat):Obj:={cls:=.type "set_iterator",data:=.fields #[first,.int i 0,.ref S,.int n 0,.int ep 0]}
def l6(es:Array (Int×Value))(t:SetTable):Bool:=!t.plain&&decide (es.size > 1)
theorem Ej{S:Addr}{ks:List Key}{es:Array (Int×Value)}{ep:Nat}{t:SetTable}{Q:Value->Shared->Prop}(hS:fA prog w s.heap S ks es ep t)
  (h1:(!cu w&&l6 es t)=false->Q (.ref s.heap.objs.size) {s with heap:=s.heap.push (e8 (.int 0 0) 0 S es.size ep)})
  (h2:(!cu w&&l6 es t)=true->∀(d:Drawn) (ps:List Nat),ps.Perm (List.range es.size)->Q (.ref (s.heap.objs.size+1)) {s with heap:=(s.heap.push {cls:=.type "tuple",data:=.seq (ps.map λ(i:Nat)=>Value.int i 0).toArray}).push (e8 (.ref s.heap.objs.size) 0 S es.size ep),drawn:=d}) :
  wpAny (model prog w) A (pyIter (.ref S)) Q E s:=by
 have hT:s.TypeIs (.ref S) "set":=⟨_,hS.obj,rfl⟩
 have hz:es.size<=sizeLine:=fits_of_scanBound hS.few
 refine wpAny_pyIter_slot hT F.slot_set_iter (V9 F.slot_set_iter hT nj ?_ (F.args_set_iter_1 _))
 unfold Builtin.«frozenset.__iter__» Builtin.Frozenset.slot0 slotArgs
 simp only [List.isEmpty_nil,Bool.not_true,Bool.false_eq_true,↓reduceIte,bind_assoc,List.length_nil,bne_self_eq_false]
 unfold Builtin.Frozenset.addrOf Builtin.Frozenset.sizeOf
 refine Vi (Vj ?_)
 try dsimp only
 refine Vi (Vj ?_)
 refine Vi (Vi (wpAny_setEntries_of hS.obj rfl hS.fits (Vj ?_)))
 unfold setDrawn setsByText
 refine Vi (Vi (wpAny_setState_of hS.obj rfl hS.fits (Vi (Vi (wpAny_askSetting (Vj (Vj ?_)))))))
 show wpAny _ _ (if(!cu w&&l6 es t)=true then _ else _) _ _ _
 cases hb:(!cu w&&l6 es t)
 ·rw [VZ (by simp)]
  refine Vi (Vj ?_)
  refine Vi (wpAny_setEpoch_of hS.obj rfl hS.fits ?_)
  refine Vi (VT (Vj ⟨_,rfl,"set_iterator",_,⟨_,Vm _ rfl,rfl⟩,eQ.lookup,?_⟩))
  exact h1 hb
 ·rw [V0 rfl]
  refine Vi (lR es.size (List.range es.size) s (by simp) λps d hp=>?_)
  have hl:ps.length=es.size:=by rw [hp.length_eq]; simp
  refine Vi (wpAny_newTuple ?_ (by rw [Vr,hl]; exact hz))
  have hS2:=hS.keep (h':=s.heap.push {cls:=.type "tuple",data:=.seq (ps.map λ(i:Nat)=>rawInt i).toArray}) λo e=>Vk _ e
  refine Vi (wpAny_setEpoch_of hS2.obj rfl hS2.fits ?_)
  refine Vi (VT (Vj ⟨_,rfl,"set_iterator",_,⟨_,Vm _ rfl,rfl⟩,eQ.lookup,?_⟩))
  have:=h2 hb d ps hp
  rw [size_push']
  exact this
theorem lA{I S:Addr}{first:Value}{i n ep:Nat}{Q:Option Value->Shared->Prop}(hI:s.heap.get? I=some (e8 first i S n ep))
  (h:wpAny (model prog w) A.in1 (Builtin.«set_iterator.__next__» ⟨[.ref I],[]⟩) (λfin s'=>∃r,fin=.done (.ret r)/\Q (some r) s') (λe s'=>wpAny (model prog w) A (do if←isInstance e (.type "StopIteration")then pure none else throw e) Q E s') s) :
  wpAny (model prog w) A (pyNext (.ref I)) Q E s:=by
 have hT:s.TypeIs (.ref I) "set_iterator":=⟨_,hI,rfl⟩
 unfold pyNext
 refine Vi (wpAny_attempt (wpAny_callSpecial?_slot (name:=Str.ofString "__next__") hT eQ (V9 eQ hT qT ?_ (uM _))))
 refine VR h (λfin s' q=>?_) λe s' q=>?_
 ·obtain⟨r,rfl,q⟩:=q
  exact⟨_,rfl,Vj q⟩
 ·exact q
theorem lT{I S:Addr}{first:Value}{i n ep:Nat}(hI:s.heap.get? I=some (e8 first i S n ep)){first':Value}{i':Nat}{fs:Array Value}(k:Nat)(v:Value)(hk:k<5)(e:(#[first,.int i 0,.ref S,.int n 0,.int ep 0]:Array Value).setIfInBounds k v=fs) :
  (s.heap.update I (Obj.mapFields (·.setIfInBounds k v))).get? I=some {cls:=.type "set_iterator",data:=.fields fs}:=by
 have:=Heap.get?_update_self (Obj.mapFields (·.setIfInBounds k v)) hI (Obj.isFreed_of_fields (Obj.data_mapFields (o:=e8 first i S n ep) rfl _))
 rw [this,←e]
 rfl
end
section
variable{prog:Program}{w:World}{A:Around}{E:Value->Shared->Prop}{s:Shared}
theorem wC{Q:Option Value->Shared->Prop}{h0:Heap}{I:Addr}(hh:A.handled=none)(hQ:∀h',Heap.ExtBut I h0 h'->Q none {s with heap:=h'})(hs:Heap.ExtBut I h0 s.heap) :
  wpAny (model prog w) A.in1 (newExc (.type "StopIteration") [] >>= λe=>(raiseNew e:Sem Fin)) (λfin s'=>∃r,fin=.done (.ret r)/\Q (some r) s') (λe s'=>wpAny (model prog w) A (do if←isInstance e (.type "StopIteration")then pure none else throw e) Q E s') s:=by
 refine Vi ?_
 simp only [newExc,newTuple]
 refine Vi (VT ?_ (by size_fits))
 refine Vi (m:=firstArgMember _ _) (wpAny_of_eq (a:=Value.none) (by first | rfl | (simp only [firstArgMember]; rfl)) ?_)
 refine VT ?_ (by size_fits)
 simp only [raiseNew]
 refine Vi (wpAny_handled ?_)
 rw [show A.in1.handled=none from hh]
 refine Vi (Vj (wpAny_throw ?_))
 refine Vi (wpAny_isInstance (T:="StopIteration") (b:=true) ⟨_,Vm _ rfl,rfl⟩ isSubtype_stop ?_)
 exact Vj (hQ _ ((hs.push _).push _))
theorem n9{I S:Addr}{ks:List Key}{es:Array (Int×Value)}{i ep:Nat}{t:SetTable}{first:Value}{R:Fin->Shared->Prop}{F:Value->Shared->Prop}(hI:s.heap.get? I=some (e8 first i S es.size ep))(hS:fA prog w s.heap S ks es ep t)
  (h:wpAny (model prog w) A (if let .int slot _:=first then do
    match←setNext S slot.toNat i ep with
    | some (x,next) =>
     setField (.ref I) 0 (rawInt next)
     setField (.ref I) 1 (rawInt (i+1))
     ret x
    | none=>setField (.ref I) 2 .none; raiseNew (←newExc (.type "StopIteration") [])
   else do
    let some places←seqItems? first | unsupported "internal:set_iterator"
    match places[i]? with
    | some (.int place _) =>
     let x←setNextDrawn S place.toNat ep
     setField (.ref I) 1 (rawInt (i+1))
     ret x
    | some _=>unsupported "internal:set_iterator"
    | none=>setField (.ref I) 0 (rawInt 0); setField (.ref I) 2 .none; raiseNew (←newExc (.type "StopIteration") [])) R F s) :
  wpAny (model prog w) A (Builtin.«set_iterator.__next__» ⟨[.ref I],[]⟩) R F s:=by
 unfold Builtin.«set_iterator.__next__» slotArgs
 simp only [List.isEmpty_nil,Bool.not_true,Bool.false_eq_true,↓reduceIte,bind_assoc,List.length_nil,bne_self_eq_false]
 refine Vi (Vj ?_)
 try dsimp only
 refine Vi (wpAny_fieldsOf hI rfl ?_)
 dsimp only
 refine Vi (wpAny_setEntries_of hS.obj rfl hS.fits ?_)
 rw [VZ (by simp)]
 exact h
theorem FE{I S:Addr}{ks:List Key}{es:Array (Int×Value)}{i ep slot next:Nat}{t:SetTable}{v:Value}{Q:Option Value->Shared->Prop}(hI:s.heap.get? I=some (e8 (.int slot 0) i S es.size ep))(hS:fA prog w s.heap S ks es ep t)
  (hn:∀(Q:Option (Value×Nat)->Shared->Prop) (E:Value->Shared->Prop),Q (some (v,next)) s->wpAny (model prog w) A.in1 (setNext S slot i ep) Q E s)
  (hQ:∀h',h'.get? I=some (e8 (.int next 0) (i+1) S es.size ep)->(∀b,b≠I->h'.get? b=s.heap.get? b)->Q (some v) {s with heap:=h'}):wpAny (model prog w) A (pyNext (.ref I)) Q E s:=by
 refine lA hI (n9 hI hS ?_)
 dsimp only
 refine Vi (hn _ _ ?_)
 dsimp only
 refine Vi (wpAny_setField hI rfl (by simp) ?_)
 have h1:=lT (s:=s) hI (first':=.none) (i':=0) (fs:=#[.int next 0,.int i 0,.ref S,.int es.size 0,.int ep 0]) 0 (rawInt next) (by decide) (by simp [rawInt])
 refine Vi (wpAny_setField h1 rfl (by simp) ?_)
 have h2:=lT (s:={s with heap:=s.heap.update I (Obj.mapFields (·.setIfInBounds 0 (rawInt next)))}) (first:=.int next 0) (i:=i) (S:=S) (n:=es.size) (ep:=ep) h1 (first':=.none) (i':=0) (fs:=#[.int next 0,.int ((i+1:Nat):Int) 0,.ref S,.int es.size 0,.int ep 0]) 1 (rawInt ((i:Int)+1)) (by decide) (by simp [rawInt])
 refine Vj ⟨_,rfl,hQ _ h2 λb hb=>?_⟩
 exact((Heap.SameBut.update _ I _).2 b hb).trans ((Heap.SameBut.update _ I _).2 b hb)
theorem Jf{I S:Addr}{ks:List Key}{es:Array (Int×Value)}{i ep slot:Nat}{t:SetTable}{Q:Option Value->Shared->Prop}(hh:A.handled=none)(hI:s.heap.get? I=some (e8 (.int slot 0) i S es.size ep))(hS:fA prog w s.heap S ks es ep t)
  (hn:∀(Q:Option (Value×Nat)->Shared->Prop) (E:Value->Shared->Prop),Q none s->wpAny (model prog w) A.in1 (setNext S slot i ep) Q E s)
  (hQ:∀h',Heap.ExtBut I s.heap h'->Q none {s with heap:=h'}):wpAny (model prog w) A (pyNext (.ref I)) Q E s:=by
 refine lA hI (n9 hI hS ?_)
 dsimp only
 refine Vi (hn _ _ ?_)
 dsimp only
 refine Vi (wpAny_setField hI rfl (by simp) ?_)
 exact wC (s:={s with heap:=s.heap.update I (Obj.mapFields (·.setIfInBounds 2 .none))}) (I:=I) (h0:=s.heap) hh hQ (Heap.SameBut.update ..).extBut
theorem GX{I S T:Addr}{ks:List Key}{es:Array (Int×Value)}{i ep p:Nat}{t:SetTable}{ps:Array Value}{hv:Int}{v:Value}{Q:Option Value->Shared->Prop}(hI:s.heap.get? I=some (e8 (.ref T) i S es.size ep))(hS:fA prog w s.heap S ks es ep t)
  (hT:s.heap.get? T=some {cls:=.type "tuple",data:=.seq ps}) (hp:ps[i]? = some (.int p 0)) (he:es[p]? = some (hv,v))
  (hQ:∀h',h'.get? I=some (e8 (.ref T) (i+1) S es.size ep)->(∀b,b≠I->h'.get? b=s.heap.get? b)->Q (some v) {s with heap:=h'}):wpAny (model prog w) A (pyNext (.ref I)) Q E s:=by
 refine lA hI (n9 hI hS ?_)
 dsimp only
 unfold seqItems?
 refine Vi (Vi (wpAny_load hT (Vj ?_)))
 dsimp only
 rw [hp]
 dsimp only
 unfold setNextDrawn
 refine Vi (Vi (wpAny_setState_of hS.obj rfl hS.fits ?_))
 dsimp only
 rw [VZ (by simp)]
 rw [show es[(p:Int).toNat]? = some (hv,v) from he]
 refine Vj ?_
 refine Vi (wpAny_setField hI rfl (by simp) ?_)
 have h2:=lT (s:=s) hI (first':=.none) (i':=0) (fs:=#[.ref T,.int ((i+1:Nat):Int) 0,.ref S,.int es.size 0,.int ep 0]) 1 (rawInt ((i:Int)+1)) (by decide) (by simp [rawInt])
 exact Vj ⟨_,rfl,hQ _ h2 λb hb=>(Heap.SameBut.update _ I _).2 b hb⟩
theorem K9{I S T:Addr}{ks:List Key}{es:Array (Int×Value)}{i ep:Nat}{t:SetTable}{ps:Array Value}{Q:Option Value->Shared->Prop}(hh:A.handled=none)(hI:s.heap.get? I=some (e8 (.ref T) i S es.size ep))(hS:fA prog w s.heap S ks es ep t)
  (hT:s.heap.get? T=some {cls:=.type "tuple",data:=.seq ps}) (hp:ps[i]? = none)
  (hQ:∀h',Heap.ExtBut I s.heap h'->Q none {s with heap:=h'}):wpAny (model prog w) A (pyNext (.ref I)) Q E s:=by
 refine lA hI (n9 hI hS ?_)
 dsimp only
 unfold seqItems?
 refine Vi (Vi (wpAny_load hT (Vj ?_)))
 dsimp only
 rw [hp]
 dsimp only
 refine Vi (wpAny_setField hI rfl (by simp) ?_)
 have h1:=lT (s:=s) hI (first':=.none) (i':=0) (fs:=#[.int 0 0,.int i 0,.ref S,.int es.size 0,.int ep 0]) 0 (rawInt 0) (by decide) (by simp [rawInt])
 refine Vi (wpAny_setField h1 rfl (by simp) ?_)
 refine wC (s:={s with heap:=(s.heap.update I (Obj.mapFields (·.setIfInBounds 0 (rawInt 0)))).update I (Obj.mapFields (·.setIfInBounds 2 .none))}) (I:=I) (h0:=s.heap) hh hQ ?_
 exact((Heap.SameBut.update s.heap I _).trans (Heap.SameBut.update _ I _)).extBut
end
theorem zJ{α:Type}(next:Nat->Nat):∀(fuel k:Nat) (left:List α) (out:Array α),left.length=fuel->(pickOrder.go next fuel k left out).toList.Perm (out.toList++left)
 | 0,k,left,out,e=>by
  have:left=[]:=List.length_eq_zero_iff.mp e
  subst this
  unfold pickOrder.go
  simp
 | fuel+1,k,left,out,e=>by
  unfold pickOrder.go
  have hlt:next k % left.length<left.length:=Nat.mod_lt _ (by omega)
  have hg:left[next k % left.length]? = some left[next k % left.length]:=Vw hlt
  rw [hg]
  dsimp only
  refine(zJ next fuel (k+1) _ _ (by rw [List.length_eraseIdx_of_lt hlt,e]; rfl)).trans ?_
  rw [Array.toList_push,List.append_assoc]
  refine List.Perm.append_left _ ?_
  exact gZ hg
theorem rH{α:Type}(next:Nat->Nat)(xs:Array α):(pickOrder next xs).toList.Perm xs.toList:=by
 unfold pickOrder
 have:=zJ next xs.size 0 xs.toList #[] (by simp)
 simpa using this
def F3(place:Array Nat):Nat->Nat
 | 0=>0
 | i+1=>(place[i]?.getD 0)+1
theorem xV{place:Array Nat}(h:B8 place):∀{i:Nat},i<=place.size->SetTable.below place (F3 place i)=i
 | 0,_=>by
  obtain⟨h1,h2,h3⟩:=kS h 0
  show SetTable.below place 0=0
  rcases Nat.eq_zero_or_pos (SetTable.below place 0)with q | q
  ·exact q
  ·have hz:0<place.size:=by omega
   have:=h2 0 _ q (VQ hz)
   omega
 | i+1,hi=>by
  have hlt:i<place.size:=hi
  have eg:place[i]? = some place[i]:=VQ hlt
  have es:F3 place (i+1)=place[i]+1:=by show(place[i]?.getD 0)+1=_; rw [eg]; rfl
  rw [es]
  obtain⟨h1,h2,h3⟩:=kS h (place[i]+1)
  rcases Nat.lt_trichotomy (SetTable.below place (place[i]+1)) (i+1)with q | q | q
  ·have:=h3 i _ (by omega) eg
   omega
  ·exact q
  ·have hlt2:i+1<place.size:=by omega
   have e2:place[i+1]? = some place[i+1]:=VQ hlt2
   have a:=h2 (i+1) _ q e2
   have b:=h.lt (Nat.lt_succ_self i) eg e2
   omega
section
variable{prog:Program}{w:World}
def Nx(prog:Program)(w:World)(S:Addr)(ks:List Key)(es:Array (Int×Value))(ep:Nat)(t:SetTable)(sl:Nat->Nat)(vs:List Value):Prop :=
 ∀(i:Nat) (s:Shared) (A:Around) (E:Value->Shared->Prop) (Q:Option (Value×Nat)->Shared->Prop),fA prog w s.heap S ks es ep t->i<=es.size->Q ((vs[i]?).map λv=>(v,sl (i+1))) s->wpAny (model prog w) A (setNext S (sl i) i ep) Q E s
theorem GQ{S:Addr}{ks:List Key}{es:Array (Int×Value)}{ep:Nat}{t:SetTable}(hb:cu w=true):Nx prog w S ks es ep t (λ_=>0) ((pickOrder (w.params.setOrder S ep) es).toList.map (·.2)):=by
 intro i s A E Q hS hi q
 unfold setNext setsByText
 refine Vi (wpAny_setState_of hS.obj rfl hS.fits ?_)
 dsimp only
 refine Vi (Vi (wpAny_askSetting (Vj ?_)))
 rw [V0 (show(model prog w).w.params.followText "set-order"=true from hb),VZ (by simp)]
 unfold setWalk setsByText
 refine Vi (Vi (wpAny_setState_of hS.obj rfl hS.fits ?_))
 dsimp only
 refine Vi (Vi (wpAny_askSetting (Vj ?_)))
 rw [V0 (show(model prog w).w.params.followText "set-order"=true from hb)]
 refine Vi (wpAny_askSetting (Vj (Vj ?_)))
 rw [VO,Option.map_map,Array.getElem?_toList]at q
 exact q
theorem CM{S:Addr}{ks:List Key}{es:Array (Int×Value)}{ep:Nat}{t:SetTable}(hb:cu w=false)(hd:l6 es t=false):Nx prog w S ks es ep t (F3 t.place) (es.toList.map (·.2)):=by
 intro i s A E Q hS hi q
 have hps:t.place.size=es.size:=by have:=hS.fits; simp [SetTable.fits]at this; exact this.1
 unfold setNext setsByText
 refine Vi (wpAny_setState_of hS.obj rfl hS.fits ?_)
 dsimp only
 refine Vi (Vi (wpAny_askSetting (Vj ?_)))
 rw [VZ (show¬(model prog w).w.params.followText "set-order"=true by show¬cu w=true; rw [hb]; decide)]
 have PZ:t.led=true:=by rw [hS.tab.led,hb]; rfl
 show wpAny _ _ (if l6 es t=true then _ else _) _ _ _
 rw [VZ (by rw [hd]; decide)]
 show wpAny _ _ ((if(!t.led && !es.isEmpty)=true then unsupported _ else pure ()) >>= _) _ _ _
 rw [VZ (by rw [PZ]; simp)]
 refine Vi (Vj (Vj ?_))
 rw [xV hS.tab.PQ (by rw [hps]; exact hi)]
 rw [VO,Option.map_map,Array.getElem?_toList]at q
 by_cases hlt:i<es.size
 ·rw [VQ hlt]at q⊢
  have hp2:i<t.place.size:=by rw [hps]; exact hlt
  have e2:F3 t.place (i+1)=t.place[i]+1:=by show(t.place[i]?.getD 0)+1=_; rw [VQ hp2]; rfl
  rw [VQ hp2]
  dsimp only [Option.map_some,Function.comp]at q⊢
  rw [e2]at q
  exact q
 ·rw [Array.getElem?_eq_none (by omega)]at q⊢
  exact q
theorem lH:Slot "set_iterator" "__iter__" "set_iterator.__iter__" :=
 .of (owner:="set_iterator") (n:="__iter__") (by rw [typeLookup_type,builtinLookup_eq_fast]; kernel_rfl) (by decide +kernel) (by decide +kernel) (by decide +kernel)
  (by first | exact .inl (by decide +kernel) | exact .inr (by decide +kernel)) (by rw [isSubtype_type]; kernel_rfl)
theorem qV:entryFor table "set_iterator.__iter__"=some Builtin.«dict_keyiterator.__iter__» :=
 entryFor_alias (id':="dict_keyiterator.__iter__") (by kernel_rfl) rfl (by decide +kernel) (by kernel_rfl)
theorem tV(a:Value):argsOk "set_iterator.__iter__" ⟨[a],[]⟩:=by unfold argsOk; kernel_rfl
theorem y6{A:Around}{E:Value->Shared->Prop}{s:Shared}{I S:Addr}{first:Value}{i n ep:Nat}{Q:Value->Shared->Prop}(hI:s.heap.get? I=some (e8 first i S n ep))(h:Q (.ref I) s):wpAny (model prog w) A (pyIter (.ref I)) Q E s:=by
 have hT:s.TypeIs (.ref I) "set_iterator":=⟨_,hI,rfl⟩
 refine wpAny_pyIter_slot hT lH (V9 lH hT qV ?_ (tV _))
 show wpAny _ _ (ret (.ref I)) _ _ s
 exact Vj ⟨_,rfl,"set_iterator",_,hT,eQ.lookup,h⟩
theorem CB{A:Around}(hh:A.handled=none){I S:Addr}(hne:S≠I){ks:List Key}{es:Array (Int×Value)}{ep:Nat}{t:SetTable}{sl:Nat->Nat}{vs:List Value}(hv:vs.length=es.size)(hn:Nx prog w S ks es ep t sl vs) :
  Walks prog w A I [I,S] [I] es.size (λi v=>vs[i]? = some v) (λi h=>h.get? I=some (e8 (.int (sl i) 0) i S es.size ep)/\fA prog w h S ks es ep t) where
 sub:=λb hb=>by simp at hb; simp [hb]
 frame:=λ_ _ _ st hk=>⟨hk I (by simp) _ st.1,st.2.keep λo e=>hk S (by simp) o e⟩
 item:=λi s Q E hi st hQ=>by
  have e:vs[i]? = some (vs[i]'(by omega)):=Vw (by omega)
  refine FE (v:=vs[i]'(by omega)) (next:=sl (i+1)) st.1 st.2 (λQ E q=>hn i s _ E Q st.2 (Nat.le_of_lt hi) (by rw [e]; exact q)) λh' h1 h2=>?_
  exact hQ _ h' s.toks e ⟨h1,st.2.keep λo q=>(h2 S hne).trans q⟩ λb o hb q=>(h2 b (by simpa using hb)).trans q
 done:=λs Q E st hQ=>Jf hh st.1 st.2 (λQ E q=>hn es.size s _ E Q st.2 (Vn _) (by rw [List.getElem?_eq_none (by omega)]; exact q)) λh' he=>hQ h' s.toks λb o hb e=>he b o (λh=>hb (by simp [h])) e
 self:=λi s Q E st hQ=>y6 st.1 hQ
theorem x5{A:Around}(hh:A.handled=none){I S T:Addr}(hne:S≠I)(hnt:T≠I){ks:List Key}{es:Array (Int×Value)}{ep:Nat}{t:SetTable}{ps:List Nat}(hp:ps.Perm (List.range es.size)) :
  Walks prog w A I [I,S,T] [I] es.size (λi v=>(ps.filterMap λj=>(es[j]?).map (·.2))[i]? = some v) (λi h=>h.get? I=some (e8 (.ref T) i S es.size ep)/\fA prog w h S ks es ep t/\h.get? T=some {cls:=.type "tuple",data:=.seq (ps.map λ(i:Nat)=>Value.int i 0).toArray}) where
 sub:=λb hb=>by simp at hb; simp [hb]
 frame:=λ_ _ _ st hk=>⟨hk I (by simp) _ st.1,st.2.1.keep λo e=>hk S (by simp) o e,hk T (by simp) _ st.2.2⟩
 item:=λi s Q E hi st hQ=>by
  have hl:ps.length=es.size:=by rw [hp.length_eq]; simp
  have hlt:i<ps.length:=by omega
  have hpi:ps[i]<es.size:=List.mem_range.mp (hp.mem_iff.mp (List.getElem_mem hlt))
  have em:(ps.filterMap λj=>(es[j]?).map (·.2))=ps.map λj=>(es.getD j (0,.none)).2:=by
   have gen:∀l:List Nat,(∀j∈l,j<es.size)->(l.filterMap λj=>(es[j]?).map (·.2))=l.map λj=>(es.getD j (0,.none)).2:=by
    intro l
    induction l with
    | nil=>intro _; rfl
    | cons a l ih =>
     intro hl
     have ha:=hl a VU
     rw [List.filterMap_cons,ih λj hj=>hl j (Vz _ hj)]
     simp [Array.getD,ha]
   exact gen ps λj hj=>List.mem_range.mp (hp.mem_iff.mp hj)
  refine GX (p:=ps[i]) (hv:=es[ps[i]].1) (v:=es[ps[i]].2) st.1 st.2.1 st.2.2 (by simp [hlt]) (by rw [VQ hpi]) λh' h1 h2=>?_
  refine hQ _ h' s.toks ?_ ⟨h1,st.2.1.keep λo q=>(h2 S hne).trans q,(h2 T hnt).trans st.2.2⟩ λb o hb q=>(h2 b (by simpa using hb)).trans q
  rw [em,VO,Vw hlt]
  simp [Array.getD,hpi]
 done:=λs Q E st hQ=>by
  have hl:ps.length=es.size:=by rw [hp.length_eq]; simp
  exact K9 hh st.1 st.2.1 st.2.2 (by simp [hl]) λh' he=>hQ h' s.toks λb o hb e=>he b o (λh=>hb (by simp [h])) e
 self:=λi s Q E st hQ=>y6 st.1 hQ
end
section
variable{prog:Program}{w:World}{A:Around}{E:Value->Shared->Prop}{s:Shared}
theorem Dq(hh:A.handled=none){S:Addr}{ks:List Key}{es:Array (Int×Value)}{ep:Nat}{t:SetTable}{Q:Value->Shared->Prop}(hS:fA prog w s.heap S ks es ep t)
  (h:∀(I:Addr) (h1:Heap) (d:Drawn) (fp:List Addr) (vs:List Value) (St:Nat->Heap->Prop),(∀b o,s.heap.get? b=some o->h1.get? b=some o)->s.heap.objs.size<=I->(∀b∈fp,b=S\/s.heap.objs.size<=b)->
   Walks prog w A I fp [I] es.size (λi v=>vs[i]? = some v) St->St 0 h1->vs.length=es.size->vs.Perm (es.toList.map (·.2))->Q (.ref I) {s with heap:=h1,drawn:=d}) :
  wpAny (model prog w) A (pyIter (.ref S)) Q E s:=by
 have hlt:S<s.heap.objs.size:=Vl hS.obj
 refine Ej hS (λhb=>?_) λhb d ps hp=>?_
 ·have key:∀sl vs,sl 0=0->vs.length=es.size->vs.Perm (es.toList.map (·.2))->Nx prog w S ks es ep t sl vs->Q (.ref s.heap.objs.size) {s with heap:=s.heap.push (e8 (.int 0 0) 0 S es.size ep)}:=λsl vs h0 hl hpm hn=>by
   have W:=CB (A:=A) hh (I:=s.heap.objs.size) (S:=S) (VI hlt) hl hn
   have:=h s.heap.objs.size (s.heap.push (e8 (.int 0 0) 0 S es.size ep)) s.drawn _ vs _ (λb o e=>Vk _ e) (Vn _) (λb hb=>?_) W ⟨?_,hS.keep λo e=>Vk _ e⟩ hl hpm
   ·exact this
   ·simp only [VF,V1,or_false]at hb
    rcases hb with rfl | rfl
    ·exact .inr (Vn _)
    ·exact .inl rfl
   ·rw [h0]
    exact Vm _ rfl
  cases hbt:cu w with
  | true=>exact key _ _ rfl (by rw [Vr,(rH _ _).length_eq,Wc]) ((rH _ _).map _) (GQ hbt)
  | false =>
   rw [hbt]at hb
   exact key _ _ rfl (by rw [Vr,Wc]) (List.Perm.refl _) (CM hbt (by simpa using hb))
 ·have hl:ps.length=es.size:=by rw [hp.length_eq]; simp
  have W:=x5 (prog:=prog) (w:=w) (A:=A) hh (I:=s.heap.objs.size+1) (S:=S) (T:=s.heap.objs.size) (VI (Nat.lt_succ_of_lt hlt)) (VI (Nat.lt_succ_self _)) (ks:=ks) (es:=es) (ep:=ep) (t:=t) hp
  have pm:(ps.filterMap λj=>(es[j]?).map (·.2)).Perm (es.toList.map (·.2)):=by
   refine(hp.filterMap _).trans ?_
   rw [←List.map_filterMap]
   rw [filterMap_getElem?_range]
  refine h (s.heap.objs.size+1) _ d _ _ _ (λb o e=>Vk _ (Vk _ e)) (Nat.le_succ _) (λb hb=>?_) W ⟨?_,hS.keep λo e=>Vk _ (Vk _ e),Vk _ (Vm _ rfl)⟩ (by rw [pm.length_eq,Vr,Wc]) pm
  ·simp only [VF,V1,or_false]at hb
   rcases hb with rfl | rfl | rfl
   ·exact .inr (Nat.le_succ _)
   ·exact .inl rfl
   ·exact .inr (Vn _)
  ·have:=Vm (s.heap.push {cls:=.type "tuple",data:=.seq (ps.map λ(i:Nat)=>Value.int i 0).toArray}) (o:=e8 (.ref s.heap.objs.size) 0 S es.size ep) rfl
   rw [size_push']at this
   exact this
theorem Dh{r:Addr}{Q:Bool->Shared->Prop}(hT:s.TypeIs (.ref r) "set")(h:Q false s):wpAny (model prog w) A (Builtin.List.listLengthHint (.ref r)) Q E s:=by
 unfold Builtin.List.listLengthHint
 refine Vi (wpAny_specialOf hT PySem.F.slot_set_len.lookup ?_)
 generalize hid:("set.__len__" : String)=id0
 wp_delta
 rw [show splitId id0=some ("set","__len__") from by subst hid; decide +kernel]
 subst hid
 refine Vi (wpAny_isInstance (T:="set") (b:=true) hT (by rw [isSubtype_type]; kernel_rfl) ?_)
 refine wpAny_ite_split (λhab=>VY hab (by decide)) (λ_=>?_)
 refine wpAny_ite_split (λ_=>?_) (λhab=>VY (by decide +kernel) hab)
 refine Vi (wpAny_typeOf hT ?_)
 exact Vj h
theorem ya{S L:Addr}{ks:List Key}{es:Array (Int×Value)}{ep:Nat}{t:SetTable}{R:Result->Shared->Prop}(hh:A.handled=none)(hS:fA prog w s.heap S ks es ep t)(Q6:L≠S)(res:Value)(c₀:Nat)(hL:s.heap.get? L=some {cls:=.type "list",data:=.seq #[] c₀})
  (hR:∀h' tk d acc' c',(∀b o,b≠L->s.heap.get? b=some o->h'.get? b=some o)->h'.get? L=some {cls:=.type "list",dict:=none,data:=.seq acc' c',slots:=#[]}->acc'.toList.Perm (es.toList.map (·.2))->R (.ok (.ret res)) {s with heap:=h',toks:=tk,drawn:=d}) :
  wpAny (model prog w) A.in1 (Builtin.List.listExtendWith (.ref L) (.ref S) res)
   (λfin s'=>match fin with | .done f=>R (.ok f) s' | .again c'=>c'.quiet=true/\codeAny (model prog w) A c' R s') (λe s'=>R (.error e) s') s:=by
 have hT:s.TypeIs (.ref S) "set":=⟨_,hS.obj,rfl⟩
 have hz:es.size<=sizeLine:=fits_of_scanBound hS.few
 unfold Builtin.List.listExtendWith
 refine Vi (wpAny_typeOf hT ?_)
 have h1:Builtin.List.listSameRef (.ref L) (.ref S)=false:=by simp [Builtin.List.listSameRef,Q6]
 have h2:(Value.type "set"==Value.type "list")=false:=by decide
 have h3:(Value.type "set"==Value.type "tuple")=false:=by decide
 simp only [h1,h2,h3,Bool.or_false,Bool.false_eq_true,if_false]
 refine Vi (Dq (A:=A.in1) hh hS λI h1 d fp vs St hk hI hfp W st hvl hpm=>?_)
 have hLlt:L<s.heap.objs.size:=Vl hL
 have hLI:L≠I:=VI (Vv hLlt hI)
 have hLf:L∉fp:=λhb=>by
  rcases hfp L hb with e | e
  ·exact Q6 e
  ·exact VY hLlt (Nat.not_lt.mpr e)
 have key:∀(h:Heap) (c₁ tk:Nat),St 0 h->(∀b o,b≠L->s.heap.get? b=some o->h.get? b=some o)->
   h.get? L=some {cls:=.type "list",data:=.seq #[] c₁}->codeAny (model prog w) A (.builtin "list.extend.loop" ⟨[.ref L,.ref I,res],[]⟩) R {s with heap:=h,toks:=tk,drawn:=d}:=by
  intro h c₁ tk hst hkk hS₁
  refine codeAny_extend_loopS W.toS hz L hLf res es.size 0 _ #[] c₁ rfl (VJ _) hst hS₁ (ItemsOf.nil _) λs' acc' c' hm hS' hacc=>?_
  rw [Moved.eq_with hm]
  refine hR s'.heap s'.toks d acc' c' (λb o hb e=>hm.heap b o (λhmem=>?_) (hkk b o hb e)) hS' ?_
  ·rcases VF.mp hmem with e' | hmem
   ·exact hb e'
   ·have:=VD.mp hmem
    subst this
    exact VY (Vl e) (Nat.not_lt.mpr hI)
  ·have ev:acc'.toList=vs:=by
    refine List.ext_getElem? λi=>?_
    rw [Array.getElem?_toList]
    by_cases hlt:i<es.size
    ·have:i<acc'.size:=by rw [hacc.1]; exact hlt
     rw [VQ this]
     exact(hacc.2 i _ (VQ this)).symm
    ·rw [Array.getElem?_eq_none (by rw [hacc.1]; omega),List.getElem?_eq_none (by omega)]
   rw [ev]
   exact hpm
 have hS₁:h1.get? L=some {cls:=.type "list",data:=.seq #[] c₀}:=hk _ _ hL
 refine Vi (VS (Dh (s:={s with heap:=h1,drawn:=d}) ⟨_,hk _ _ hS.obj,rfl⟩ ?_))
 refine wpAny_ite_split (λ_=>?_) (λ_=>Vj ⟨plainId_quiet PySem.F.plain_extend_loop _,key _ c₀ _ st (λb o _ e=>hk b o e) hS₁⟩)
 refine Vi (wpAny_rule ?_)
 refine Vi ?_
 show wpAny _ _ (updateSeq L (·.push .none) >>= λ_=>updateSeq L (·.pop)) _ _ _
 refine Vi (wpAny_updateSeq hS₁ rfl ?_)
 have hS₂:=Heap.get?_update_self (Obj.mapSeq (·.push Value.none)) hS₁ rfl
 refine wpAny_updateSeq (hz:=by seq_fits) hS₂ rfl ?_
 have hS₃:=Heap.get?_update_self (Obj.mapSeq (·.pop)) hS₂ rfl
 refine Vj ⟨plainId_quiet PySem.F.plain_extend_loop _,key _ _ _ ?_ (λb o hb e=>?_) hS₃⟩
 ·refine W.frame 0 _ _ st λb hb o e=>?_
  have hbS:b≠L:=λh=>hLf (h▸hb)
  exact(Heap.get?_update_other _ _ (Ne.symm hbS)).trans ((Heap.get?_update_other _ _ (Ne.symm hbS)).trans e)
 ·exact(Heap.get?_update_other _ _ (Ne.symm hb)).trans ((Heap.get?_update_other _ _ (Ne.symm hb)).trans (hk _ _ e))
theorem vM{S:Addr}{ks:List Key}{es:Array (Int×Value)}{ep:Nat}{t:SetTable}{R:List Value->Shared->Prop}(hh:A.handled=none)(hS:fA prog w s.heap S ks es ep t)
  (h:∀(h':Heap) (tk:Nat) (d:Drawn) (vs:List Value),s.heap.objs.size<=h'.objs.size->(∀b o,s.heap.get? b=some o->h'.get? b=some o)->vs.Perm (es.toList.map (·.2))->R vs {s with heap:=h',toks:=tk,drawn:=d}) :
  wpAny (model prog w) A (collect (.ref S)) R E s:=by
 have hlt:S<s.heap.objs.size:=Vl hS.obj
 unfold collect
 refine Vi (wpAny_runValue (codeAny_builtin entry_proto_collect' ?_))
 rw [Around.under_plainId PySem.F.plain_proto_collect _]
 show wpAny _ A.in1 (newList [] >>= λl=>again (.builtin "list.__iadd__" ⟨[l,.ref S],[]⟩)) _ _ s
 refine Vi (VT ?_)
 refine Vj ⟨plainId_quiet PySem.F.plain_list_iadd _,codeAny_builtin entry_list_iadd' ?_⟩
 rw [Around.under_plainId PySem.F.plain_list_iadd _]
 have hL:(s.heap.push {cls:=.type "list",data:=.seq ([]:List Value).toArray}).get? s.heap.objs.size=some {cls:=.type "list",data:=.seq #[]}:=Vm _ rfl
 show wpAny _ A.in1 (Builtin.List.listExtendWith (.ref s.heap.objs.size) (.ref S) (.ref s.heap.objs.size)) _ _ _
 have key:=ya (A:=A) (s:={s with heap:=s.heap.push {cls:=.type "list",data:=.seq ([]:List Value).toArray}})
  (R:=λ(q:Result) (s':Shared)=>∃(h':Heap) (tk:Nat) (d:Drawn) (acc':Array Value) (c':Nat),q=.ok (.ret (.ref s.heap.objs.size))/\s' ={s with heap:=h',toks:=tk,drawn:=d}/\
   (∀b o,s.heap.get? b=some o->h'.get? b=some o)/\h'.get? s.heap.objs.size=some {cls:=.type "list",dict:=none,data:=.seq acc' c',slots:=#[]}/\acc'.toList.Perm (es.toList.map (·.2)))
  hh (hS.keep λo e=>Vk _ e) (Nat.ne_of_gt hlt) (.ref s.heap.objs.size) 0 hL
  (λh' tk d acc' c' hk hS' hacc=>⟨h',tk,d,acc',c',rfl,rfl,λb o e=>hk b o (VI (Vl e)) (Vk _ e),hS',hacc⟩)
 refine VR key (λfin s' x=>?_) λe s' x=>?_
 ·cases fin with
  | done f =>
   obtain⟨h',tk,d,acc',c',e,rfl,hk,hS',hacc⟩:=x
   cases e
   show wpAny _ A (load s.heap.objs.size >>= _) _ _ _
   refine Vi (wpAny_load hS' ?_)
   exact Vj (h h' tk d acc'.toList (Nat.le_of_lt (Vl hS')) hk hacc)
  | again c₁ =>
   refine⟨x.1,codeAny_mono x.2 λq s₂ y=>?_⟩
   obtain⟨h',tk,d,acc',c',rfl,rfl,hk,hS',hacc⟩:=y
   show wpAny _ A (load s.heap.objs.size >>= _) _ _ _
   refine Vi (wpAny_load hS' ?_)
   exact Vj (h h' tk d acc'.toList (Nat.le_of_lt (Vl hS')) hk hacc)
 ·obtain⟨_,_,_,_,_,e',_⟩:=x
  cases e'
theorem xl{S:Addr}{ks:List Key}{es:Array (Int×Value)}{ep:Nat}{t:SetTable}{Q:Value->Shared->Prop}(hh:A.handled=none)(hS:fA prog w s.heap S ks es ep t)
  (h:∀(h':Heap) (tk:Nat) (d:Drawn) (vs:List Value),s.heap.objs.size<=h'.objs.size->(∀b o,s.heap.get? b=some o->h'.get? b=some o)->vs.Perm (es.toList.map (·.2))->
   wpAny (model prog w) A.in1 (call (.builtin "list.sort") [.ref h'.objs.size]) (λ_ s'=>Q (.ref h'.objs.size) s') E {s with heap:=h'.push (seqObj "list" vs.toArray 0),toks:=tk,drawn:=d}) :
  wpAny (model prog w) A (call (.builtin "sorted") [.ref S]) Q E s:=by
 refine Calls.call_function_entry kind_sorted plain_sorted entry_sorted (args_sorted1 _) ?_
 unfold Builtin.«sorted»
 refine Vi (m:=checkCount "sorted" 1 1 _) (Vj ?_)
 refine Vi (vM (A:=A.in1) hh hS λh' tk d vs hz hk hp=>?_)
 have hl:vs.length<=sizeLine:=by rw [hp.length_eq,Vr,Wc]; exact fits_of_scanBound hS.few
 refine Vi (wpAny_newList ?_ hl)
 refine Vi (VS (VR (h h' tk d vs hz hk hp) (λ_ s' x=>?_) λ_ _ e=>e))
 exact Vj ⟨_,rfl,x⟩
end
def wX(x y:Str):Prop:=x.cps.toList<y.cps.toList
theorem Bg:bootBuiltins "set"=some (.type "set"):=by kernel_rfl
theorem Ko{x y:Str}(h:¬y.cps.toList<x.cps.toList)(n:x≠y):wX x y:=by
 unfold wX
 have hle:x.cps.toList<=y.cps.toList:=List.not_lt.mp h
 refine Decidable.byContradiction λh2=>n ?_
 have O1:y.cps.toList<=x.cps.toList:=List.not_lt.mp h2
 have e:=List.le_antisymm hle O1
 cases x; cases y
 simp at e
 subst e
 rfl
theorem HH{vs:List Value}{ss:List Str}(hS:StrsAre vs ss){xs:Array Keyed}(hp:xs.Perm (pairsOf vs))(hs:SortedToK strKind xs (pairsOf vs).size) :
  ∃ss',StrsAre (xs.map (·.2)).toList ss'/\ss'.Perm ss/\ss'.Pairwise λa b=>¬b.cps.toList<a.cps.toList:=by
 have hl:xs.toList.Perm (vs.zip vs):=by rw [←pairsOf_toList]; exact Array.perm_iff_toList_perm.mp hp
 have hmem:∀p,p∈xs.toList->p.1=p.2/\p.1∈vs:=λp hp'=>mem_zip_self (hl.mem_iff.mp hp')
 refine⟨xs.toList.map (λp=>strOf p.1),?_,?_,?_⟩
 ·have e:(xs.map (·.2)).toList=xs.toList.map (·.1):=by
   rw [Array.toList_map]; exact List.map_congr_left λp hp'=>(hmem p hp').1.symm
  rw [e]
  have h1:=strsAre_map (xs.toList.map (·.1)) (by
   intro v hv
   obtain⟨p,hp',rfl⟩:=VE.mp hv
   exact hS.all _ (hmem p hp').2)
  rwa [List.map_map]at h1
 ·have h1:=hl.map (λp=>strOf p.1)
  have e2:(vs.zip vs).map (λp=>strOf p.1)=ss:=by
   have:(vs.zip vs).map (λp=>strOf p.1)=((vs.zip vs).map Prod.fst).map strOf:=by rw [List.map_map]; rfl
   rw [this,List.map_fst_zip (Vn _),hS.strs]
  rwa [e2]at h1
 ·rw [List.pairwise_iff_getElem]
  intro i j hi hj hij
  have hi':i<xs.size:=by simpa using hi
  have hj':j<xs.size:=by simpa using hj
  have h1:=hs i j (Nat.le_of_lt hij) (by rw [←hp.size_eq]; exact hj')
  obtain⟨x,t,ex⟩:=hS.all _ (hmem xs[i] (by simp)).2
  obtain⟨y,u,ey⟩:=hS.all _ (hmem xs[j] (by simp)).2
  rw [KK_str hi' (x:=x) (t:=t) (q:=xs[i].2) (Prod.ext ex rfl),KK_str hj' (x:=y) (t:=u) (q:=xs[j].2) (Prod.ext ey rfl)]at h1
  change decide (y.cps.toList<x.cps.toList)=false at h1
  simp only [List.getElem_map,Array.getElem_toList]
  rw [show strOf xs[i].1=x by rw [ex]; rfl,show strOf xs[j].1=y by rw [ey]; rfl]
  exact of_decide_eq_false h1
section
variable{prog:Program}{w:World}{A:Around}{E:Value->Shared->Prop}{s:Shared}
theorem AI{a:Addr}{vs:List Value}{ns:List Int}{Q:Value->Shared->Prop}(ho:s.heap.get? a=some (seqObj "list" vs.toArray 0))(hI:IntsAre vs ns)(h64:vs.length<64)
  (h:∀(out:Array Value) (ns':List Int),IntsAre out.toList ns'->ns'.Perm ns->ns'.Pairwise (·<=·)->Q .none {s with heap:=sortedHeap s.heap a vs out}):wpAny (model prog w) A (call (.builtin "list.sort") [.ref a]) Q E s :=
 V9 slot_list_sort ⟨_,ho,rfl⟩ entry_list_sort (list_sort_tree ho hI h64 λout ns' a1 a2 a3=>⟨_,rfl,h out ns' a1 a2 a3⟩) (args_list_sort _)
theorem Bo{a:Addr}{vs:List Value}{ss:List Str}{Q:Value->Shared->Prop}(ho:s.heap.get? a=some (seqObj "list" vs.toArray 0))(hS:StrsAre vs ss)(h64:vs.length<64)
  (h:∀(out:Array Value) (ss':List Str),StrsAre out.toList ss'->ss'.Perm ss->(ss'.Pairwise λa b=>¬b.cps.toList<a.cps.toList)->Q .none {s with heap:=sortedHeap s.heap a vs out}):wpAny (model prog w) A (call (.builtin "list.sort") [.ref a]) Q E s :=
 V9 slot_list_sort ⟨_,ho,rfl⟩ entry_list_sort (list_sort_treeK strKind_oneLt ho hS.keysOf (λv₁ v₂ rest e=>keyKind_strs (by rw [←e]; exact hS)) h64 λst' hp hs=>⟨_,rfl,by
  obtain⟨ss',h1,h2,h3⟩:=HH hS hp hs
  exact h _ ss' h1 h2 h3⟩) (args_list_sort _)
end
def lM(xs ys:List V):Prop :=
 (∃ns ms:List Int,xs=ns.map V.int/\ys=ms.map V.int/\ms.Pairwise (· < ·)/\∀n,n∈ms↔n∈ns)\/∃ns ms:List Str,xs=ns.map V.str/\ys=ms.map V.str/\ms.Pairwise wX/\∀n,n∈ms↔n∈ns
def C_(K:Wg)(te:TE):TE:=λσ H Q=>te σ H λx H1=>∃a xs,x=.ref a/\(a_ K H1 a xs\/aH K H1 a xs)/\xs.length<64/\((∃ns:List Int,xs=ns.map V.int)\/∃ss:List Str,xs=ss.map V.str)/\
 ∀p ys,H1 p=none->lM xs ys->Q (.ref p) (upd H1 p (.lst ys))
theorem Jr{ms ms':List Int}(h:ms.Pairwise (·<=·))(n:ms.Nodup):ms.Pairwise (· < ·):=by
 rw [List.pairwise_iff_getElem]at h⊢
 intro i j hi hj hij
 have h1:=h i j hi hj hij
 have h2:=List.pairwise_iff_getElem.mp n i j hi hj hij
 omega
theorem ye{ns:List Int}:∀{us:List Value},IntsAre us ns->Vals (ns.map V.int) us:=by
 induction ns with
 | nil=>intro us r; cases r; exact .nil
 | cons y ys ih=>intro us r; cases r with | cons _ t r=>exact .cons ⟨t,rfl⟩ (ih r)
theorem xZ{ns:List Str}:∀{us:List Value},StrsAre us ns->Vals (ns.map V.str) us:=by
 induction ns with
 | nil=>intro us r; cases r; exact .nil
 | cons y ys ih=>intro us r; cases r with | cons _ t r=>exact .cons ⟨t,rfl⟩ (ih r)
def keyV:V->Key
 | .int n=>.inl n
 | .str x=>.inr x
 | _=>.inl 0
def jA(xs:List V)(i:Nat):Key:=((xs[i]?).map keyV).getD (.inl 0)
theorem jX{xs:List V}{k:Key}:k∈ku (jA xs) xs.length↔∃x∈xs,keyV x=k:=by
 rw [ve]
 constructor
 ·rintro⟨j,hj,e⟩
  refine⟨xs[j],List.getElem_mem hj,?_⟩
  unfold jA at e
  rw [Vw hj]at e
  exact e
 ·rintro⟨x,hx,e⟩
  obtain⟨j,hj,rfl⟩:=List.mem_iff_getElem.mp hx
  refine⟨j,hj,?_⟩
  unfold jA
  rw [Vw hj]
  exact e
theorem EX{xs:List V}{its:List Value}(r:Vals xs its)(hx:∀x∈xs,(∃n,x=.int n)\/∃y,x=.str y)(i:Nat)(v:Value)(e:its.toArray[i]? = some v):gb (jA xs i) v=true/\v.scannable=true:=by
 have e':its[i]? = some v:=by simpa using e
 have hl:=r.length
 have hi:i<xs.length:=by rw [hl]; exact(VC.mp e').1
 obtain⟨u,hu,ru⟩:=r.get (Vw hi)
 rw [e']at hu
 cases hu
 have ek:jA xs i=keyV xs[i]:=by unfold jA; rw [Vw hi]; rfl
 rw [ek]
 rcases hx xs[i] (List.getElem_mem hi)with⟨n,q⟩ | ⟨y,q⟩
 ·rw [q]at ru⊢
  obtain⟨t,rfl⟩:=ru
  exact⟨mw n t,rfl⟩
 ·rw [q]at ru⊢
  obtain⟨t,rfl⟩:=ru
  exact⟨mG y t,rfl⟩
section
variable{X:Cx}{e:Expr}{te:TE}{p1 p2 pos pos2:Pos}
theorem vR{pins:List (Addr×Obj)}{σ:St}{H:Hp}{s:Shared}{Q:VK}{S:Addr}{xs:List V}{es:Array (Int×Value)}{ep:Nat}{t:SetTable}(hc:X.calm=true)(I:Inv X pins σ H s)(hS:fA X.prog X.w s.heap S (ku (jA xs) xs.length) es ep t)(h64:xs.length<64)
  (hx:(∃ns:List Int,xs=ns.map V.int)\/∃ss:List Str,xs=ss.map V.str) (q:∀p ys,H p=none->lM xs ys->Q (.ref p) (upd H p (.lst ys))) :
  wpAny (model X.prog X.w) X.A (call (.builtin "sorted") [.ref S]) (EP X pins σ Q) X.xe s:=by
 refine xl (I.ok.hd hc) hS λh' tk d vs hz hk hp=>?_
 have hn:H h'.objs.size=none:=I.hok.fresh hz
 have hperm:(vs.map BE).Perm (ku (jA xs) xs.length):=by
  refine(hp.map BE).trans ?_
  rw [List.map_map]
  exact hS.keys
 have hlen:vs.length<64:=by
  have h1:=hperm.length_eq
  have h2:=pD (jA xs) xs.length
  rw [Vr]at h1
  omega
 have hel:∀v∈vs,∃k,gb k v=true/\k∈ku (jA xs) xs.length:=λv hv=>by
  obtain⟨e,he,rfl⟩:=VE.mp (hp.mem_iff.mp hv)
  obtain⟨⟨k,hk',_⟩,_⟩:=hS.els e he
  exact⟨k,hk',hS.mem.mp ⟨e,he,hk'⟩⟩
 have hob:(h'.push (seqObj "list" vs.toArray 0)).get? h'.objs.size=some (seqObj "list" vs.toArray 0):=Vm _ rfl
 have fin:∀(ys:List V) (out:Array Value),Vals ys out.toList->ys.length<64->lM xs ys->EP X pins σ Q (.ref h'.objs.size) {s with heap:=sortedHeap (h'.push (seqObj "list" vs.toArray 0)) h'.objs.size vs out,toks:=tk,drawn:=d}:=λys out r hl so=>by
  have keep:∀b o,s.heap.get? b=some o->(sortedHeap (h'.push (seqObj "list" vs.toArray 0)) h'.objs.size vs out).get? b=some o:=λb o e=>by
   have hb:=hk b o e
   have hlt:=Vl hb
   rw [sortedHeap_old (VI hlt) (by rw [size_push']; exact Nat.lt_succ_of_lt hlt)]
   exact Vk _ hb
  obtain⟨c,hat⟩ :∃c,(sortedHeap (h'.push (seqObj "list" vs.toArray 0)) h'.objs.size vs out).get? h'.objs.size=some (seqObj "list" out c):=sortedHeap_at hob
  have hobj:cB X.prog X.w (upd H h'.objs.size (.lst ys)) (sortedHeap (h'.push (seqObj "list" vs.toArray 0)) h'.objs.size vs out) h'.objs.size (.lst ys):=⟨by rw [sizeLine_eq]; omega,out.toList,c,r,by rw [hat]⟩
  refine⟨.ref h'.objs.size,upd H h'.objs.size (.lst ys),?_,rfl,q _ _ hn so⟩
  exact I.call' (s':={s with heap:=sortedHeap (h'.push (seqObj "list" vs.toArray 0)) h'.objs.size vs out,toks:=tk,drawn:=d}) (ch:=[]) rfl (Un.laid keep hz hn) (I.hok.laid keep hz hobj) I.bare λb hb=>VY hb (by simp)
 rcases hx with⟨ns,rfl⟩ | ⟨ss,rfl⟩
 ·have hint:∀v∈vs,∃n t,v=Value.int n t:=λv hv=>by
   obtain⟨k,hk1,hk2⟩:=hel v hv
   obtain⟨x,hx,e⟩:=jX.mp hk2
   obtain⟨n,hn',rfl⟩:=VE.mp hx
   subst e
   rcases bJ hk1 with⟨i,t,e1,e2⟩ | ⟨y,t,e1,e2⟩
   ·exact⟨i,t,e2⟩
   ·cases e1
  have hI:=intsAre_map vs hint
  refine AI hob hI hlen λout ns' a1 a2 a3=>?_
  have ek:vs.map BE=(vs.map numOf).map Sum.inl:=by
   rw [List.map_map]
   refine List.map_congr_left λv hv=>?_
   obtain⟨n,t,rfl⟩:=hint v hv
   rfl
  have Bz:ns'.Nodup:=by
   refine a2.nodup_iff.mpr ?_
   have h1:=hperm.nodup_iff.mpr hS.Oa
   rw [ek]at h1
   exact(List.pairwise_map.mp h1).imp λhne e=>hne (congrArg _ e)
  refine fin (ns'.map V.int) out (ye a1) (by rw [Vr,a2.length_eq,Vr]; exact hlen) (.inl ⟨ns,ns',rfl,rfl,Jr (ms':=[]) a3 Bz,λn=>?_⟩)
  rw [a2.mem_iff]
  have:n∈vs.map numOf↔(Sum.inl n:Key)∈vs.map BE:=by
   rw [ek]
   constructor
   ·exact λh=>VE.mpr ⟨n,h,rfl⟩
   ·intro h
    obtain⟨m,hm,e⟩:=VE.mp h
    cases e
    exact hm
  rw [this,hperm.mem_iff,jX]
  constructor
  ·rintro⟨x,hx,e⟩
   obtain⟨m,hm,rfl⟩:=VE.mp hx
   cases e
   exact hm
  ·exact λh=>⟨.int n,VE.mpr ⟨n,h,rfl⟩,rfl⟩
 ·have hstr:∀v∈vs,∃n t,v=Value.str n t:=λv hv=>by
   obtain⟨k,hk1,hk2⟩:=hel v hv
   obtain⟨x,hx,e⟩:=jX.mp hk2
   obtain⟨n,hn',rfl⟩:=VE.mp hx
   subst e
   rcases bJ hk1 with⟨i,t,e1,e2⟩ | ⟨y,t,e1,e2⟩
   ·cases e1
   ·exact⟨y,t,e2⟩
  have hI:=strsAre_map vs hstr
  refine Bo hob hI hlen λout ns' a1 a2 a3=>?_
  have ek:vs.map BE=(vs.map strOf).map Sum.inr:=by
   rw [List.map_map]
   refine List.map_congr_left λv hv=>?_
   obtain⟨n,t,rfl⟩:=hstr v hv
   rfl
  have Bz:ns'.Nodup:=by
   refine a2.nodup_iff.mpr ?_
   have h1:=hperm.nodup_iff.mpr hS.Oa
   rw [ek]at h1
   exact(List.pairwise_map.mp h1).imp λhne e=>hne (congrArg _ e)
  refine fin (ns'.map V.str) out (xZ a1) (by rw [Vr,a2.length_eq,Vr]; exact hlen) (.inr ⟨ss,ns',rfl,rfl,?_,λn=>?_⟩)
  ·rw [List.pairwise_iff_getElem]at a3⊢
   intro i j hi hj hij
   exact Ko (a3 i j hi hj hij) (List.pairwise_iff_getElem.mp Bz i j hi hj hij)
  rw [a2.mem_iff]
  have:n∈vs.map strOf↔(Sum.inr n:Key)∈vs.map BE:=by
   rw [ek]
   constructor
   ·exact λh=>VE.mpr ⟨n,h,rfl⟩
   ·intro h
    obtain⟨m,hm,e⟩:=VE.mp h
    cases e
    exact hm
  rw [this,hperm.mem_iff,jX]
  constructor
  ·rintro⟨x,hx,e⟩
   obtain⟨m,hm,rfl⟩:=VE.mp hx
   cases e
   exact hm
  ·exact λh=>⟨.str n,VE.mpr ⟨n,h,rfl⟩,rfl⟩
theorem kY(hc:X.calm=true)(hg1:Gl X "sorted")(hm1:X.mg "sorted"=none)(hg2:Gl X "set")(hm2:X.mg "set"=none)(he:PE X e te)(hs1:starEach [e] X.env=[(false,eval e X.env)]:=by rfl)
  (hs2:starEach [Expr.Call (.Name "set" p2) [e] [] pos2] X.env=[(false,eval (.Call (.Name "set" p2) [e] [] pos2) X.env)]:=by rfl) :
  PE X (.Call (.Name "sorted" p1) [.Call (.Name "set" p2) [e] [] pos2] [] pos) (C_ X.K te):=by
 intro pins s σ H Q I h
 refine wpAny_Call_Name_kw (iO I hg1 hm1 boot_sorted ?_ (by decide) (by decide))
 refine PyProof.Rows.callWith_builtin1 ?_ hs2 rfl
 rw [hs2]
 refine Calls.spliced_cons ?_
 refine wpAny_Call_Name_kw (iO I hg2 hm2 Bg ?_ (by decide) (by decide))
 refine PyProof.Rows.callWith_type1 ?_ hs1 rfl
 rw [hs1]
 refine Calls.spliced_cons (cn (he pins s σ H _ I h) λu s1 ⟨x,H1,I1,r1,a,xs,ex,Mf,h64,hx,q⟩=>?_)
 refine Calls.spliced_nil ?_
 subst ex
 cases r1
 have hx':∀x∈xs,(∃n,x=.int n)\/∃y,x=.str y:=λx QG=>by
  rcases hx with⟨ns,rfl⟩ | ⟨ss,rfl⟩
  ·obtain⟨n,_,rfl⟩:=VE.mp QG; exact .inl ⟨n,rfl⟩
  ·obtain⟨n,_,rfl⟩:=VE.mp QG; exact .inr ⟨n,rfl⟩
 have go:∀{T:String} {its:List Value} {o:Obj},tQ X.prog X.w T a its.toArray->Vals xs its->s1.heap.get? a=some o->o.cls=.type T->(∃n,o.data=.seq its.toArray n)->
   wpAny (model X.prog X.w) X.A (call (.type "set") [.ref a]) (λv s2=>wpAny (model X.prog X.w) X.A (spliced []) (λvs s3=>wpAny (model X.prog X.w) X.A (call (.builtin "sorted") (v::vs)) (EP X pins σ Q) X.xe s3) X.xe s2) X.xe s1:=λ{T its o} src r ho hcl hd=>by
  have hl:=r.length
  refine wF (key:=jA xs) src (I1.ok.hd hc) ho hcl hd (EX r hx') (by simp [scanBound]; omega) λh' tk es ep t hS hk=>?_
  refine Calls.spliced_nil ?_
  have Uz:its.toArray.size=xs.length:=by rw [VB,hl]
  rw [Uz]at hS
  exact vR hc (I1.kept (t':=tk) hk) hS h64 hx q
 rcases Mf with Mf | Mf
 ·obtain⟨its,r,pl,_⟩:=I1.list Mf
  obtain⟨o,ho,hcl,hd⟩:=pl.isList
  exact go src_list r ho hcl hd
 ·obtain⟨its,r,pl,_⟩:=I1.tuple Mf
  obtain⟨o,ho,hcl,hd⟩:=pl
  exact go Hr r ho hcl hd
end
end L2
namespace CS
open PySem L2
theorem yg{x:Str}(h:wX x x):False:=List.lt_irrefl _ h
theorem DP{ws:List Str}(h:ws.Pairwise wX):ws.Nodup:=h.imp λhl e=>by subst e; exact yg hl
end CS
namespace My
open PySem L2 CS
abbrev yE:Stmt:=top 56
abbrev xp:Stmt:=top 57
abbrev K8:Stmt:=top 58
abbrev sH:Stmt:=top 59
abbrev oF:Stmt:=top 60
abbrev xm:Stmt:=top 61
abbrev xE:Stmt:=top 62
abbrev tJ:Stmt:=top 63
abbrev x3:Stmt:=top 64
abbrev uL:Stmt:=top 65
abbrev yy:Stmt:=top 66
theorem Gm:ay ["_law_pot_here","_law_sort"] ["_law_pot_here","_law_sort"] (ar yE):=fs
theorem GF:ay ["_law_pot_here","_law_sort"] ["_law_pot_here","_law_sort"] (ar xp):=fs
theorem E4:ay ["_law_pot_here","_law_sort","_law_low","_law_some"] ["_law_pot_here","_law_sort"] (ar K8):=fs
theorem D0:ay ["_law_pot_here","_law_head"] ["_law_pot_here","_law_head"] (ar sH):=fs
theorem Ac:ay ["_law_pot_here","_law_head","_law_many_here"] ["_law_pot_here","_law_head","_law_many_here"] (ar oF):=fs
theorem FQ:ay ["_law_pot_here"] ["_law_pot_here"] (ar xE):=fs
structure iW(mg:Str->Option Value):Prop where
 int:mg "int"=none
 min:mg "min"=none
 all:mg "all"=none
 sorted:mg "sorted"=none
 set:mg "set"=none
def dZ(v:V):Prop:=(∃n,v=.int n)\/∃x,v=.str x
structure de(K:Wg)(H:Hp)(a:Addr)(hs:List Str):Prop where
 tup:H a=some (.tup (hs.map V.str))
 pos:1<=hs.length
 few:hs.length<=6
theorem de.grow{K:Wg}{p a:Addr}{H H1:Hp}{hs:List Str}(hP:dy H p)(g:bp p H H1)(h:de K H a hs):de K H1 a hs :=
 ⟨g.keep _ _ (λz=>by obtain⟨x,y,e,_⟩:=hP; have:=h.tup; rw [z,e]at this; cases this) h.tup,h.pos,h.few⟩
def tP:Sp:=λvs H Q _=>∃(p:Addr) (s:Str),vs=[.ref p,.str s]/\dy H p/\∀x H',bp p H H'->Q (.str x) H'
def tx:Sp:=λvs H Q _=>∃(p:Addr) (s:Str),vs=[.ref p,.str s]/\dy H p/\∀v H',bp p H H'->dZ v->Q v H'
def iz(K:Wg):Sp:=λvs H Q _=>∃(p a:Addr) (hs:List Str),vs=[.ref p,.ref a]/\dy H p/\de K H a hs/\∀(n:Int) H',bp p H H'->1<=n->n<=12->Q (.int n) H'
def mh(K:Wg):Sp:=λvs H Q _=>∃(p a:Addr) (hs:List Str) (m:Int),vs=[.ref p,.ref a,.int m]/\dy H p/\de K H a hs/\0<=m/\m<=10/\∀t (ns:List Int) H',bp p H H'->H' t=some (.tup (ns.map V.int))->ns.length=m.toNat->(∀n∈ns,1<=n)->Q (.ref t) H'
def tj:Sp:=λvs H Q _=>∃(p:Addr),vs=[.ref p]/\dy H p/\∀x H',bp p H H'->Q (.str x) H'
theorem sk{m:Int}(h0:0<m)(h1:m<=1000):m.natAbs.log2<9000:=Vu (Nat.log2_le_self _) (by omega)
theorem jh{j:Int}(h:0<=j)(h1:j<=1000):-(2 ^ 62)<=j/\j<2 ^ 62:=by
 have e:((2:Int) ^ 62)=4611686018427387904:=by decide
 rw [e]; omega
variable{P:Program}{w:World}{K:Wg}{mg:Str->Option Value}{base:Heap}
theorem CD(B2:iW mg)(F:FA K mg "_law_a_sort" yE)(G:bf bc P w K mg base 1 "_law_draw" ["_law_pot_here","_law_many_here"] dB) :
  bf bc P w K mg base 2 "_law_a_sort" ["_law_pot_here","_law_sort"] tP:=by
 refine F.ok Gm λf cdv A outer s H vs Q E hr h=>?_
 obtain⟨p,x,rfl,hP,q⟩:=h
 refine⟨_,aq (du (aU aP (av G hr (ae (pv 0) (ae ai ah))) ai) (ax (bo K (aQ (ae ao (ae ao ah))) (av G hr (ae (pv 0) (ae ai ah))))) b9)
  (ax (bo K (aQ (ae ao (ae (pv 1) ah))) (aW cE rfl B2.int V7 (ae (bT kf (pv 1) ao) ah)))),?_⟩
 refine⟨_,rfl,p,_,rfl,hP,by decide,by decide,λe1 H1 g1 a1 b1=>⟨rfl,_,rfl,?_⟩⟩
 refine cJ (λ_=>?_) (λ_=>?_)
 ·refine⟨cN,λD hD=>?_⟩
  have g2:=g1.new (o:=.lst [.str "n",.str "w"]) hD
  refine⟨_,rfl,p,_,rfl,g2.cq,by decide,by decide,λe2 H2 g3 a2 b2=>?_⟩
  have hd:e2=0\/e2=1:=by omega
  have hk:=g3.keep D _ (g1.ne hD) ag
  rcases hd with z | z <;> subst z
  ·exact⟨D,_,_,_,rfl,rfl,a_.of hk,rfl,q _ _ (g2.trans g3)⟩
  ·exact⟨D,_,_,_,rfl,rfl,a_.of hk,rfl,q _ _ (g2.trans g3)⟩
 ·refine⟨_,rfl,cN,λD hD=>?_⟩
  have g2:=g1.new (o:=.lst [.str "n",.str x]) hD
  refine⟨_,rfl,rfl,.inr ⟨_,rfl,?_⟩⟩
  have oJ:∃z:Str,jj [V.str "n",V.str x] (if(!decide (V.str x=V.str "t"))=true then 1 else 0)=some (.str z):=by
   cases(!decide (V.str x=V.str "t"))
   ·exact⟨_,rfl⟩
   ·exact⟨_,rfl⟩
  obtain⟨z,hz⟩:=oJ
  exact⟨D,_,_,_,rfl,rfl,a_.of ag,hz,q z _ g2⟩
theorem DG(F:FA K mg "_law_cell" xp)(G:bf bc P w K mg base 2 "_law_a_sort" ["_law_pot_here","_law_sort"] tP)(G3:bf bc P w K mg base 2 "_law_word" ["_law_pot_here"] sG)(G2:bf bc P w K mg base 2 "_law_number" ["_law_pot_here"] qr) :
  bf bc P w K mg base 3 "_law_cell" ["_law_pot_here","_law_sort"] tx:=by
 refine F.ok GF λf cdv A outer s H vs Q E hr h=>?_
 obtain⟨p,x,rfl,hP,q⟩:=h
 refine⟨_,aq (du (aU aP (av G hr (ae (pv 0) (ae (pv 1) ah))) ao) (ax (av G3 hr (ae (pv 0) ah))) b9)
  (ax (av G2 hr (ae (pv 0) ah))),?_⟩
 refine⟨_,rfl,_,rfl,p,x,rfl,hP,λy H1 g1=>⟨rfl,_,rfl,?_⟩⟩
 refine cJ (λ_=>?_) (λ_=>?_)
 ·exact⟨_,rfl,p,rfl,g1.cq,λz H2 g2 n1=>q _ _ (g1.trans g2) (.inr ⟨z,rfl⟩)⟩
 ·exact⟨_,rfl,p,rfl,g1.cq,λn H2 g2 n1 n2=>q _ _ (g1.trans g2) (.inl ⟨n,rfl⟩)⟩
theorem Bd(B:jH mg)(F:FA K mg "_law_column" sH)(G:bf bc P w K mg base 1 "_law_draw" ["_law_pot_here","_law_many_here"] dB) :
  bf bc P w K mg base 2 "_law_column" ["_law_pot_here","_law_head"] (iz K):=by
 refine F.ok D0 λf cdv A outer s H vs Q E hr h=>?_
 obtain⟨p,a,hs,rfl,hP,hh,q⟩:=h
 refine⟨_,aq (du (aU aP (av G hr (ae (pv 0) (ae ai ah))) ai) (ax (aD cL ai (av G hr (ae (pv 0) (ae ai ah))))) b9)
  (ax (aD cL ai (av G hr (ae (pv 0) (ae (bg bA rfl B.len We (ae (pv 1) ah)) ah))))),?_⟩
 refine⟨_,rfl,p,_,rfl,hP,by decide,by decide,λe1 H1 g1 a1 b1=>⟨rfl,_,rfl,?_⟩⟩
 refine cJ (λ_=>?_) (λ_=>?_)
 ·exact⟨_,rfl,p,_,rfl,g1.cq,by decide,by decide,λe2 H2 g2 a2 b2=>⟨_,_,rfl,rfl,q _ _ (g1.trans g2) (by omega) (by omega)⟩⟩
 ·have h1:=hh.grow hP g1
  have hl:(hs.map V.str).length=hs.length:=Vr _
  have:=hh.pos
  have:=hh.few
  exact⟨_,rfl,_,rfl,a,_,rfl,.inr (aH.of h1.tup),p,_,rfl,g1.cq,by omega,sk (by omega) (by omega),λe2 H2 g2 a2 b2=>⟨_,_,rfl,rfl,q _ _ (g1.trans g2) (by omega) (by omega)⟩⟩
theorem xa(B:jH mg)(F:FA K mg "_law_columns" oF)(G:bf bc P w K mg base 2 "_law_column" ["_law_pot_here","_law_head"] (iz K)) :
  bf bc P w K mg base 3 "_law_columns" ["_law_pot_here","_law_head","_law_many_here"] (mh K):=by
 refine F.ok Ac λf cdv A outer s H vs Q E hr h=>?_
 obtain⟨p,a,hs,m,rfl,hP,hh,m0,m1,q⟩:=h
 refine⟨_,bM (Ca (aW bH rfl B.tuple V6 (ae (bx (N':=["_law_k","_law_pot_here","_law_head"]) (src:=[none,some 0,some 1]) rfl (aZ.jT (by kernel_rfl)) (c8 rfl B.range (ae (pv 2) ah)) (λcl C s H fp=>eI (i:=0)) (λcl C s H fp=>aX)
   (λcl C s H fp=>av (hg:=yH) G hr (ae (zw 1) (ae (zw 2) ah)))) ah))),?_⟩
 have g0:=bp.refl hP
 refine⟨_,rfl,m,rfl,(jh m0 (by omega)).1,(jh m0 (by omega)).2,λD hD=>?_⟩
 have nD:=g0.ne hD
 refine i9 (n:=m.toNat) (λi σ ys H'=>(∃o,σ=[o,some (.ref p),some (.ref a)])/\(∃ns:List Int,ys=ns.map V.int/\ns.length=i/\∀n∈ns,1<=n)/\H' D=some (.lst ys)/\bp p H H')
  ⟨⟨none,rfl⟩,⟨[],rfl,rfl,by simp⟩,ag,g0.new hD⟩ ?_ ?_ ?_ ?_
 ·rintro i σ ys H' _ ⟨_,⟨ns,rfl,rfl,_⟩,h,_⟩
  exact⟨h,by rw [Vr]; exact Vn _⟩
 ·exact Vo (show m.toNat<=10 by omega) (by decide)
 ·rintro i σ ys H' hi ⟨⟨o,rfl⟩,⟨ns,rfl,rfl,hp⟩,h,g⟩
  exact⟨_,rfl,_,rfl,p,a,hs,rfl,g.cq,hh.grow hP g,λn H2 g2 n1 n2=>⟨g2.keep D _ nD h,⟨_,rfl⟩,⟨ns++[n],by rw [Vt]; rfl,by rw [Vs]; rfl,λk hk=>by rcases VH.mp hk with z | z; exact hp k z; rw [VD.mp z]; exact n1⟩,ag,g0.put hD nD (g.trans g2)⟩⟩
 ·rintro σ ys H' ⟨_,⟨ns,rfl,hn,hp⟩,h,g⟩
  exact⟨D,_,rfl,.inl ⟨a_.of h,λt ht=>q t ns _ (g.new ht) ag hn hp⟩⟩
theorem ES(F:FA K mg "_law_state" xE)(G:bf bc P w K mg base 2 "_law_draw" ["_law_pot_here","_law_many_here"] dB)(G3:bf bc P w K mg base 2 "_law_word" ["_law_pot_here"] sG) :
  bf bc P w K mg base 3 "_law_state" ["_law_pot_here"] tj:=by
 refine F.ok FQ λf cdv A outer s H vs Q E hr h=>?_
 obtain⟨p,rfl,hP,q⟩:=h
 refine⟨_,aq (du (aU aP (av G hr (ae (pv 0) (ae ai ah))) ai) (ax (av G3 hr (ae (pv 0) ah))) b9)
  (ax (bo K (aQ (ae ao (ae ao (ae ao ah)))) (av G hr (ae (pv 0) (ae ai ah))))),?_⟩
 refine⟨_,rfl,p,_,rfl,hP,by decide,by decide,λe1 H1 g1 a1 b1=>⟨rfl,_,rfl,?_⟩⟩
 refine cJ (λ_=>?_) (λ_=>?_)
 ·exact⟨_,rfl,p,rfl,g1.cq,λz H2 g2 n1=>q _ _ (g1.trans g2)⟩
 ·refine⟨fM,λD hD=>?_⟩
  have g2:=g1.new (o:=.lst [.str "s",.str "t",.str "u"]) hD
  refine⟨_,rfl,p,_,rfl,g2.cq,by decide,by decide,λe2 H2 g3 a2 b2=>?_⟩
  have hd:e2=0\/e2=1\/e2=2:=by omega
  have hk:=g3.keep D _ (g1.ne hD) ag
  rcases hd with z | z | z <;> subst z
  ·exact⟨D,_,_,_,rfl,rfl,a_.of hk,rfl,q _ _ (g2.trans g3)⟩
  ·exact⟨D,_,_,_,rfl,rfl,a_.of hk,rfl,q _ _ (g2.trans g3)⟩
  ·exact⟨D,_,_,_,rfl,rfl,a_.of hk,rfl,q _ _ (g2.trans g3)⟩
end My
namespace My
open PySem L2
theorem iw{p a:Addr}{H H':Hp}{xs:List V}(hP:dy H p)(g:bp p H H')(e:H a=some (.tup xs)):H' a=some (.tup xs):=g.keep _ _ (λz=>by obtain⟨x,y,e2,_⟩:=hP; rw [z,e2]at e; cases e) e
def aE(H H':Hp):Prop:=∀a xs,H a=some (.tup xs)->H' a=some (.tup xs)
theorem aE.of{H H':Hp}(s:aM H H'):aE H H':=λ_ _ e=>s _ _ e
theorem aE.grow{p:Addr}{H H':Hp}(hP:dy H p)(g:bp p H H'):aE H H':=λa xs e=>iw hP g e
abbrev Hd:=List Str
theorem bt{H H':Hp}{D:Addr}{o:HO}(hD:H D=none)(s:aM H H'):aM H (upd H' D o):=λb u e=>by
 rw [aI (aV e hD)]; exact s _ _ e
theorem take_one{α:Type}{ws:List α}{i:Nat}{w:α}(h:ws[i]? = some w):ws.take (i+1)=ws.take i++[w]:=by
 rw [List.take_add_one,h]; rfl
theorem aG{D:Ends}{σ:St}{H:Hp}(h:D.nx σ H):rV D σ H:=h
def sW:V->Str
 | .str _=>"w"
 | _=>"n"
def bu(hd:Hd)(c:Int):Str:=hd.getD (c-1).toNat ""
inductive W1 where
 | keep (c:Int) (t:Str)
 | same (c d:Int)
 | cut (cs:List Int)
 | turn (c:Int) (ps:List (V×V))
 | must (c:Int) (ps:List (V×V))
 | walk (c:Int) (mv:List V)
 | sort (cs:List Int)
 | apart
 | count (cs:List Int)
 | sum (cs:List Int) (c:Int)
 | number
 | first (n:Int)
inductive Wk where
 | one (x:W1)
 | both (p q:List Wk)
 | meet (c d:Int) (p q:List Wk)
def W1.nm:W1->Str
 | .keep ..=>"keep"
 | .same ..=>"same"
 | .cut ..=>"cut"
 | .turn ..=>"turn"
 | .must ..=>"must"
 | .walk ..=>"walk"
 | .sort ..=>"sort"
 | .apart=>"apart"
 | .count ..=>"count"
 | .sum ..=>"sum"
 | .number=>"number"
 | .first ..=>"first"
def Wk.nm:Wk->Str
 | .one x=>x.nm
 | .both ..=>"both"
 | .meet ..=>"meet"
structure bF{α:Type}(At:Hp->Addr->α->Prop)(H:Hp)(p:Addr)(bs:List Addr)(xs:List α):Prop where
 tup:H p=some (.tup (bs.map V.ref))
 len:bs.length=xs.length
 at_:∀(i:Nat) a x,bs[i]? = some a->xs[i]? = some x->At H a x
theorem bF.keep{α:Type}{At:Hp->Addr->α->Prop}{H H':Hp}{p:Addr}{bs:List Addr}{xs:List α}(k:aE H H')(kA:∀a x,At H a x->At H' a x)(h:bF At H p bs xs):bF At H' p bs xs:=⟨k _ _ h.tup,h.len,λi a x e1 e2=>kA _ _ (h.at_ i a x e1 e2)⟩
theorem bF.get{α:Type}{At:Hp->Addr->α->Prop}{H:Hp}{p:Addr}{bs:List Addr}{xs:List α}(h:bF At H p bs xs){i:Nat}{x:V}(hx:(bs.map V.ref)[i]? = some x):∃(a:Addr) (y:α),x=.ref a/\xs[i]? = some y/\At H a y:=by
 rw [VO]at hx
 cases e:bs[i]? with
 | none=>rw [e]at hx; cases hx
 | some b =>
  rw [e]at hx
  have hx':V.ref b=x:=VL hx
  subst hx'
  have hi:i<xs.length:=by rw [←h.len]; exact(VC.mp e).1
  have er:xs[i]? = some xs[i]:=Vw hi
  exact⟨b,xs[i],rfl,er,h.at_ i b _ e er⟩
abbrev kL(H:Hp)(a:Addr)(p:V×V):Prop:=H a=some (.tup [p.1,p.2])
def Bk(H:Hp)(a:Addr)(v:V):Prop:=∃s t,H a=some (.tup [.str s,v,.str t])
def BC(H:Hp)(a:Addr)(c:Int):Prop:=∃b,H a=some (.tup [.int c,.bl b])
def j9(H:Hp)(a:Addr):W1->Prop
 | .keep c t=>∃s xs,H a=some (.tup [.str "keep",.int c,.ref s])/\H s=some (.tup (.str t::xs))
 | .same c d=>H a=some (.tup [.str "same",.int c,.int d])
 | .cut cs=>∃t,H a=some (.tup [.str "cut",.ref t])/\H t=some (.tup (cs.map V.int))
 | .turn c ps=>∃t bs,H a=some (.tup [.str "turn",.int c,.ref t])/\bF kL H t bs ps
 | .must c ps=>∃t bs,H a=some (.tup [.str "must",.int c,.ref t])/\bF kL H t bs ps
 | .walk c mv=>∃s t bs,H a=some (.tup [.str "walk",.int c,.str s,.ref t])/\bF Bk H t bs mv
 | .sort cs=>∃t bs,H a=some (.tup [.str "sort",.ref t])/\bF BC H t bs cs
 | .apart=>H a=some (.tup [.str "apart"])
 | .count cs=>∃t,H a=some (.tup [.str "count",.ref t])/\H t=some (.tup (cs.map V.int))
 | .sum cs c=>∃t,H a=some (.tup [.str "sum",.ref t,.int c])/\H t=some (.tup (cs.map V.int))
 | .number=>H a=some (.tup [.str "number"])
 | .first n=>H a=some (.tup [.str "first",.int n])
theorem Bk.keep{H H':Hp}(k:aE H H'){a:Addr}{v:V}(h:Bk H a v):Bk H' a v:=by
 obtain⟨s,t,h⟩:=h; exact⟨s,t,k _ _ h⟩
theorem BC.keep{H H':Hp}(k:aE H H'){a:Addr}{c:Int}(h:BC H a c):BC H' a c:=by
 obtain⟨b,h⟩:=h; exact⟨b,k _ _ h⟩
theorem j9.keep{H H':Hp}{a:Addr}{x:W1}(k:aE H H')(h:j9 H a x):j9 H' a x:=by
 cases x with
 | keep c t=>obtain⟨s,xs,h1,h2⟩:=h; exact⟨s,xs,k _ _ h1,k _ _ h2⟩
 | same c d=>exact k _ _ h
 | cut cs=>obtain⟨t,h1,h2⟩:=h; exact⟨t,k _ _ h1,k _ _ h2⟩
 | turn c ps=>obtain⟨t,bs,h1,h2⟩:=h; exact⟨t,bs,k _ _ h1,h2.keep k λ_ _ z=>k _ _ z⟩
 | must c ps=>obtain⟨t,bs,h1,h2⟩:=h; exact⟨t,bs,k _ _ h1,h2.keep k λ_ _ z=>k _ _ z⟩
 | walk c mv=>obtain⟨s,t,bs,h1,h2⟩:=h; exact⟨s,t,bs,k _ _ h1,h2.keep k λ_ _ z=>z.keep k⟩
 | sort cs=>obtain⟨t,bs,h1,h2⟩:=h; exact⟨t,bs,k _ _ h1,h2.keep k λ_ _ z=>z.keep k⟩
 | apart=>exact k _ _ h
 | count cs=>obtain⟨t,h1,h2⟩:=h; exact⟨t,k _ _ h1,k _ _ h2⟩
 | sum cs c=>obtain⟨t,h1,h2⟩:=h; exact⟨t,k _ _ h1,k _ _ h2⟩
 | number=>exact k _ _ h
 | first n=>exact k _ _ h
theorem j9.first{H:Hp}{a:Addr}{x:W1}(h:j9 H a x):∃xs,H a=some (.tup (.str x.nm::xs)):=by
 cases x with
 | keep c t=>obtain⟨s,xs,h1,h2⟩:=h; exact⟨_,h1⟩
 | same c d=>exact⟨_,h⟩
 | cut cs=>obtain⟨t,h1,h2⟩:=h; exact⟨_,h1⟩
 | turn c ps=>obtain⟨t,bs,h1,h2⟩:=h; exact⟨_,h1⟩
 | must c ps=>obtain⟨t,bs,h1,h2⟩:=h; exact⟨_,h1⟩
 | walk c mv=>obtain⟨s,t,bs,h1,h2⟩:=h; exact⟨_,h1⟩
 | sort cs=>obtain⟨t,bs,h1,h2⟩:=h; exact⟨_,h1⟩
 | apart=>exact⟨_,h⟩
 | count cs=>obtain⟨t,h1,h2⟩:=h; exact⟨_,h1⟩
 | sum cs c=>obtain⟨t,h1,h2⟩:=h; exact⟨_,h1⟩
 | number=>exact⟨_,h⟩
 | first n=>exact⟨_,h⟩
def cX:Nat->Hp->Addr->Wk->Prop
 | _,H,a,.one x=>j9 H a x
 | 0,_,_,_=>False
 | n+1,H,a,.both p q=>∃b c bs cs,H a=some (.tup [.str "both",.ref b,.ref c])/\bF (cX n) H b bs p/\bF (cX n) H c cs q
 | n+1,H,a,.meet c d p q=>∃b e bs es,H a=some (.tup [.str "meet",.int c,.int d,.ref b,.ref e])/\bF (cX n) H b bs p/\bF (cX n) H e es q
abbrev jC(n:Nat)(H:Hp)(p:Addr)(ws:List Wk):Prop:=∃bs,bF (cX n) H p bs ws
theorem cX.keep{H H':Hp}(k:aE H H'):∀{n:Nat} {a:Addr} {x:Wk},cX n H a x->cX n H' a x
 | 0,a,.one x,h=>j9.keep k h
 | n+1,a,.one x,h=>j9.keep k h
 | n+1,a,.both p q,h=>by
  obtain⟨b,c,bs,cs,h1,h2,h3⟩:=h
  exact⟨b,c,bs,cs,k _ _ h1,h2.keep k λ_ _ z=>z.keep k,h3.keep k λ_ _ z=>z.keep k⟩
 | n+1,a,.meet c d p q,h=>by
  obtain⟨b,e,bs,es,h1,h2,h3⟩:=h
  exact⟨b,e,bs,es,k _ _ h1,h2.keep k λ_ _ z=>z.keep k,h3.keep k λ_ _ z=>z.keep k⟩
theorem cX.first{H:Hp}:∀{n:Nat} {a:Addr} {x:Wk},cX n H a x->∃xs,H a=some (.tup (.str x.nm::xs))
 | 0,a,.one x,h=>j9.first h
 | n+1,a,.one x,h=>j9.first h
 | n+1,a,.both p q,h=>by obtain⟨b,c,bs,cs,h1,_⟩:=h; exact⟨_,h1⟩
 | n+1,a,.meet c d p q,h=>by obtain⟨b,e,bs,es,h1,_⟩:=h; exact⟨_,h1⟩
theorem jC.keep{n:Nat}{H H':Hp}{p:Addr}{ws:List Wk}(k:aE H H')(h:jC n H p ws):jC n H' p ws:=by
 obtain⟨bs,h⟩:=h
 exact⟨bs,h.keep k λ_ _ z=>z.keep k⟩
abbrev dF(H:Hp)(a:Addr)(h:Hd):Prop:=H a=some (.tup (h.map V.str))
structure gz(H:Hp)(l:Addr)(as:List Addr)(hs:List Hd):Prop where
 lst:H l=some (.lst (as.map V.ref))
 len:as.length=hs.length
 at_:∀(i:Nat) a h,as[i]? = some a->hs[i]? = some h->dF H a h
theorem gz.same{H H':Hp}{l:Addr}{as:List Addr}{hs:List Hd}(s:aM H H')(h:gz H l as hs):gz H' l as hs:=⟨s _ _ h.lst,h.len,λi a r e1 e2=>s _ _ (h.at_ i a r e1 e2)⟩
theorem gz.nth{H:Hp}{l:Addr}{as:List Addr}{hs:List Hd}{i:Nat}{h:Hd}(x:gz H l as hs)(e:hs[i]? = some h):∃a,(as.map V.ref)[i]? = some (.ref a)/\dF H a h:=by
 have hi:i<as.length:=by rw [x.len]; exact(VC.mp e).1
 exact⟨as[i],by rw [VO,Vw hi]; rfl,x.at_ i _ _ (Vw hi) e⟩
theorem dJ{hd:List Str}{c:Int}(h:1<=c/\c<=hd.length):jj (hd.map V.str) (c-1)=some (.str (bu hd c)):=by
 have hi:(c-1).toNat<hd.length:=by omega
 have e:(((c-1).toNat:Nat):Int)=c-1:=by omega
 have:=au (xs:=hd.map V.str) (j:=(c-1).toNat) (v:=.str (bu hd c)) (by
  rw [VO,Vw hi]
  unfold bu
  rw [List.getD_eq_getElem?_getD,Vw hi]
  rfl)
 rw [e]at this
 exact this
def dg:W1->List Int
 | .keep c _=>[c]
 | .same c d=>[c,d]
 | .cut cs=>cs
 | .turn c _=>[c]
 | .must c _=>[c]
 | .walk c _=>[c]
 | .sort cs=>cs
 | .count cs=>cs
 | .sum cs c=>cs++[c]
 | _=>[]
def oy:W1->Prop
 | .cut cs=>cs.length<=1000
 | .sort cs=>cs.length<=1000
 | .count cs=>cs.length<=1000
 | .sum cs _=>cs.length<=1000
 | .turn _ ps=>ps.length<=1000
 | .must _ ps=>ps.length<=1000
 | .walk _ mv=>mv.length<=1000
 | _=>True
def HU:W1->Prop
 | .turn _ ps=>∀p∈ps,dZ p.1/\dZ p.2
 | .must _ ps=>∀p∈ps,dZ p.1/\dZ p.2
 | .walk _ mv=>∀v∈mv,v=.non\/dZ v
 | _=>True
def ne1:W1->Prop
 | .turn _ ps=>ps≠[]/\ps.length<=50
 | .must _ ps=>ps≠[]/\ps.length<=50
 | .walk _ mv=>mv.length<=50
 | .cut cs=>cs≠[]
 | _=>True
structure AA(x:W1):Prop where
 sm:oy x
 good:HU x
 ne:ne1 x
 pos:∀c∈dg x,1<=c
end My
namespace CS
open PySem L2
theorem vQ{α:Type} [DecidableEq α]:∀{ms ns:List α},ms.Nodup->(∀m∈ms,m∈ns)->ms.length<=ns.length
 | [],_,_,_=>VJ _
 | m::ms,ns,nd,h=>by
  have Rz:=List.nodup_cons.mp nd
  have hm:=h m VU
  have ih:=vQ (ms:=ms) (ns:=ns.erase m) Rz.2 λx hx=>(List.mem_erase_of_ne (λe=>Rz.1 (by rw [←e]; exact hx))).mpr (h x (Vz _ hx))
  rw [List.length_erase_of_mem hm]at ih
  have:0<ns.length:=List.length_pos_of_mem hm
  rw [VV]
  omega
theorem sorted_strs{ns:List Str}{ys:List V}(h:lM (ns.map V.str) ys):∃ms:List Str,ys=ms.map V.str/\ms.Pairwise wX/\(∀n∈ms,n∈ns)/\ms.length<=ns.length:=by
 rcases h with⟨ss,ms,e1,e2,h1,h2⟩ | ⟨ns',ms,e1,e2,h1,h2⟩
 ·cases ns with
  | nil =>
   cases ss with
   | nil =>
    cases ms with
    | nil=>exact⟨[],e2,.nil,by simp,Vn _⟩
    | cons m ms=>exact VY ((h2 m).mp VU) (by simp)
   | cons s ss=>cases e1
  | cons n ns =>
   cases ss with
   | nil=>cases e1
   | cons s ss=>simp at e1
 ·have:ns=ns':=by
   have:=congrArg (List.map λv=>match v with | V.str n=>n | _=>"") e1
   simpa [List.map_map,Function.comp_def] using this
  subst this
  exact⟨ms,e2,h1,λn hn=>(h2 n).mp hn,vQ (DP h1) λn hn=>(h2 n).mp hn⟩
end CS
namespace My
open PySem L2 CS
theorem ak{i:Nat}{v:V}{σ:St}{H:Hp}{k:St->Hp->Prop}(h:k (σ.set i (some v)) H):bE i v σ H k:=h
def DJ(K:Wg):Sp:=λvs H Q _=>∃(p:Addr) (s:Str),vs=[.ref p,.str s]/\dy H p/\∀(a:Addr) (t:Str) (xs:List V) H',bp p H H'->H' a=some (.tup (.str t::xs))->Q (.ref a) H'
theorem mz{K:Wg}{H:Hp}:∀ws:List Str,bV K H (ws.map D.str) (ws.map V.str)
 | []=>bV.nil
 | w::ws=>bV.cons (gF w) (mz ws)
variable{P:Program}{w:World}{K:Wg}{mg:Str->Option Value}{base:Heap}
theorem Kt(B:jH mg)(B2:iW mg)(F:FA K mg "_law_set" K8)(GA:bf bc P w K mg base 2 "_law_a_sort" ["_law_pot_here","_law_sort"] tP)(G:bf bc P w K mg base 2 "_law_draw" ["_law_pot_here","_law_many_here"] dB)(G3:bf bc P w K mg base 2 "_law_word" ["_law_pot_here"] sG)(G2:bf bc P w K mg base 2 "_law_number" ["_law_pot_here"] qr) :
  bf bc P w K mg base 3 "_law_set" ["_law_pot_here","_law_sort"] (DJ K):=by
 refine F.ok E4 λf cdv A outer s H vs Q E hr h=>?_
 obtain⟨p,x,rfl,hP,q⟩:=h
 refine⟨_,aq (du (aU aP (av GA hr (ae (pv 0) (ae (pv 1) ah))) ao)
   (ax (aJ (ae ao (ae (bT aP (av G hr (ae (pv 0) (ae ai ah))) ai) (ae (aW bH rfl B.tuple V6 (ae (kY rfl rfl B2.sorted rfl B2.set
    (bx (N':=["_law_k","_law_pot_here"]) (src:=[none,some 0]) rfl (aZ.jT (by kernel_rfl)) (c8 rfl B.range (ae (av G hr (ae (pv 0) (ae ai ah))) ah)) (λcl C s H fp=>eI (i:=0)) (λcl C s H fp=>aX)
     (λcl C s H fp=>av (hg:=yH) G3 hr (ae (zw 1) ah)))) ah)) ah))))) b9)
  (aq (aL (i:=2) E4.nd rfl (V2 rfl) (bg (rF rfl) rfl B2.min PyProof.Rows.boot_min (ae (av G2 hr (ae (pv 0) ah)) (ae (aD bO (aD mM ai ai) ai) ah))))
  (aq (aL (i:=3) E4.nd rfl (V2 rfl) (aQ (ae (aJ ah) (ae (aJ (ae (aJ (ae iS (ae iS ah))) ah)) (ae (aJ (ae (aJ (ae (pv 2) (ae (aD cL (pv 2) (av G hr (ae (pv 0) (ae ai ah)))) ah))) ah))
    (ae (aJ (ae (aJ (ae iS (ae (pv 2) ah))) ah)) (ae (aJ (ae (aJ (ae (pv 2) (ae iS ah))) ah)) ah)))))))
  (ax (aJ (ae ao (ae (bo K (aD o_ (pv 3) (aQ (ae (aJ (ae (aJ (ae (pv 2) (ae (pv 2) ah))) (ae (aJ (ae (aD cL (pv 2) ai) (ae (aD cL (pv 2) ai) ah))) ah))) ah))) (av G hr (ae (pv 0) (ae ai ah)))) ah)))))),?_⟩
 refine⟨_,rfl,_,rfl,p,x,rfl,hP,λy H1 g1=>⟨rfl,_,rfl,?_⟩⟩
 refine cJ (λ_=>?_) (λ_=>?_)
 ·refine⟨_,rfl,p,_,rfl,g1.cq,by decide,by decide,λe2 H2 g2 a2 b2=>⟨rfl,_,rfl,p,_,rfl,g2.cq,by decide,by decide,λj H3 g3 j0 j1=>?_⟩⟩
  have gg:=(g1.trans g2).trans g3
  refine⟨j,rfl,(jh j0 (by omega)).1,(jh j0 (by omega)).2,λDw hD=>?_⟩
  have nD:Dw≠p:=gg.ne hD
  refine i9 (n:=j.toNat) (λi σ ys H'=>∃(o:Option V) (ns:List Str),σ=[o,some (.ref p)]/\ys=ns.map V.str/\ns.length=i/\H' Dw=some (.lst ys)/\bp p H H')
   ⟨none,[],rfl,rfl,rfl,ag,gg.new hD⟩ ?_ ?_ ?_ ?_
  ·rintro i σ ys H' _ ⟨o,ns,_,rfl,rfl,h,_⟩
   exact⟨h,by rw [Vr]; exact Vn _⟩
  ·exact Vo (show j.toNat<=40 by omega) (by decide)
  ·rintro i σ ys H' hi ⟨o,ns,rfl,rfl,rfl,h,g'⟩
   exact⟨_,rfl,p,rfl,g'.cq,λn H4 g4 n1=>⟨g4.keep Dw _ nD h,some (.int (0+(ns.length:Nat))),ns++[n],rfl,by rw [Vt]; rfl,by rw [Vs]; rfl,ag,gg.put hD nD (g'.trans g4)⟩⟩
  rintro qM Oj H4 ⟨o0,ns,_,rfl,hns,UR,g4⟩
  refine⟨Dw,_,rfl,.inl (a_.of UR),by rw [Vr]; omega,.inr ⟨ns,rfl⟩,λSA ys UW hso=>?_⟩
  obtain⟨ms,rfl,hms,hsub,Rr⟩:=sorted_strs hso
  refine⟨SA,_,rfl,.inl ⟨a_.of ag,λt ht=>⟨fM,λa ha=>?_⟩⟩⟩
  have gf:=((g4.new (o:=.lst (ms.map V.str)) UW).new (o:=.tup (ms.map V.str)) ht).new (o:=.tup [.str "w",.bl (decide (V.int e2=V.int 0)),.ref t]) ha
  exact q a "w" _ _ gf ag
 ·refine⟨_,rfl,p,rfl,g1.cq,λn H2 g2 n1 n2=>⟨_,_,rfl,rfl,⟨by decide,by decide,by decide⟩,_,_,rfl,rfl,_,_,rfl,?_⟩⟩
  have gg:=g1.trans g2
  generalize (if _<n then _ else n:Int)=low
  refine⟨VJ _,λt0 h0=>⟨cN,λt1 h1=>⟨dH,λt2 h2=>?_⟩⟩⟩
  have k0:=gg.new (o:=.tup []) h0
  have k1:=k0.new (o:=.tup [.non,.non]) h1
  have k2:=k1.new (o:=.tup [.ref t1]) h2
  refine⟨_,rfl,_,rfl,_,rfl,p,_,rfl,k2.cq,by decide,by decide,λe3 H3 g3 a3 b3=>?_⟩
  have k3:=k2.trans g3
  refine⟨_,_,rfl,rfl,cN,λt3 h3=>⟨dH,λt4 h4=>?_⟩⟩
  refine⟨_,rfl,cN,λt5 h5=>⟨dH,λt6 h6=>?_⟩⟩
  refine⟨_,rfl,cN,λt7 h7=>⟨dH,λt8 h8=>?_⟩⟩
  refine⟨uJ,λL hL=>?_⟩
  have k5:=k3.new (o:=.tup [.int low,.int (low+e3)]) h3
  have k6:=k5.new (o:=.tup [.ref t3]) h4
  have k7:=k6.new (o:=.tup [.non,.int low]) h5
  have k8:=k7.new (o:=.tup [.ref t5]) h6
  have k9:=k8.new (o:=.tup [.int low,.non]) h7
  have k10:=k9.new (o:=.tup [.ref t7]) h8
  have k11:=k10.new (o:=.lst [.ref t0,.ref t2,.ref t4,.ref t6,.ref t8]) hL
  have nL:=k10.ne hL
  refine ak ?_
  dsimp only
  refine⟨_,rfl,_,rfl,_,rfl,cN,λt9 h9=>?_⟩
  refine⟨_,rfl,_,_,rfl,rfl,_,rfl,_,_,rfl,rfl,cN,λQI h10=>⟨cN,λN6 h11=>⟨dH,λL2 hL2=>?_⟩⟩⟩
  have k12:=k11.new (o:=.tup [.int low,.int low]) h9
  have k13:=k12.new (o:=.tup [.int (low+2),.int (low+5)]) h10
  have k14:=k13.new (o:=.tup [.ref t9,.ref QI]) h11
  have QP:=k14.new (o:=.lst [.ref N6]) hL2
  have s12:=(aj h9 (.tup [.int low,.int low])).trans ((aj h10 (.tup [.int (low+2),.int (low+5)])).trans ((aj h11 (.tup [.ref t9,.ref QI])).trans (aj hL2 (.lst [.ref N6]))))
  refine⟨L,L2,_,_,rfl,rfl,s12 _ _ ag,ag,L8,λL3 Lv=>?_⟩
  have RN:=QP.new (o:=.lst ([.ref t0,.ref t2,.ref t4,.ref t6,.ref t8]++[.ref N6])) Lv
  have Uq:=QP.ne Lv
  refine⟨_,rfl,p,_,rfl,RN.cq,by decide,by decide,λe4 H4 g4 a4 b4=>?_⟩
  have UZ:=g4.keep L3 _ Uq ag
  have oJ:∃v,jj ([V.ref t0,.ref t2,.ref t4,.ref t6,.ref t8]++[.ref N6]) e4=some v:=by
   have hd:e4=0\/e4=1\/e4=2\/e4=3\/e4=4\/e4=5:=by omega
   rcases hd with z | z | z | z | z | z <;> rw [z] <;> exact⟨_,rfl⟩
  obtain⟨v,hv⟩:=oJ
  refine⟨L3,_,_,v,rfl,rfl,a_.of UZ,hv,cN,λa ha=>?_⟩
  exact q a "n" _ _ ((RN.trans g4).new ha) ag
theorem nV:ay ["_law_pot_here","_law_here","_law_there","_law_pairs_here","_law_k","_law_pair"] ["_law_pot_here","_law_here","_law_there"] (ar xm):=fs
theorem nK:ay ["_law_pot_here","_law_head","_law_order_here","_law_k","_law_column_here"] ["_law_pot_here","_law_head"] (ar x3):=fs
def yV:Sp:=λvs H Q _=>∃(p:Addr) (s1 s2:Str),vs=[.ref p,.str s1,.str s2]/\dy H p/\∀t bs (ps:List (V×V)) H',bp p H H'->bF kL H' t bs ps->ps≠[]->ps.length<=8->(∀q∈ps,dZ q.1/\dZ q.2)->Q (.ref t) H'
def zp(K:Wg):Sp:=λvs H Q _=>∃(p a:Addr) (hs:List Str),vs=[.ref p,.ref a]/\de K H a hs/\dy H p/\∀t bs (cs:List Int) H',bp p H H'->bF BC H' t bs cs->cs.length<=8->(∀c∈cs,1<=c)->Q (.ref t) H'
structure eF{α:Type}(At:Hp->Addr->α->Prop)(H:Hp)(bs:List Addr)(xs:List α):Prop where
 len:bs.length=xs.length
 at_:∀(i:Nat) a x,bs[i]? = some a->xs[i]? = some x->At H a x
theorem eF.nil{α:Type}{At:Hp->Addr->α->Prop}{H:Hp}:eF At H [] []:=⟨rfl,λi a x e=>by cases e⟩
theorem eF.keep{α:Type}{At:Hp->Addr->α->Prop}{H H':Hp}{bs:List Addr}{xs:List α}(k:∀a x,At H a x->At H' a x)(h:eF At H bs xs):eF At H' bs xs:=⟨h.len,λi a x e1 e2=>k _ _ (h.at_ i a x e1 e2)⟩
theorem eF.snoc{α:Type}{At:Hp->Addr->α->Prop}{H:Hp}{bs:List Addr}{xs:List α}{b:Addr}{x:α}(h:eF At H bs xs)(hx:At H b x):eF At H (bs++[b]) (xs++[x]):=by
 refine⟨by rw [Vs,Vs,h.len]; rfl,λi a y e1 e2=>?_⟩
 by_cases hi:i<bs.length
 ·rw [VN hi]at e1
  rw [VN (by rw [←h.len]; exact hi)]at e2
  exact h.at_ i a y e1 e2
 ·have hi':i=bs.length:=by
   have:=(VC.mp e1).1
   rw [Vs]at this
   simp at this
   omega
  rw [hi',VM (Vn _),Nat.sub_self]at e1
  rw [hi',h.len,VM (Vn _),Nat.sub_self]at e2
  cases e1
  cases e2
  exact hx
theorem eF.get{α:Type}{At:Hp->Addr->α->Prop}{H:Hp}{bs:List Addr}{xs:List α}(h:eF At H bs xs){i:Nat}{v:V}(hx:(bs.map V.ref)[i]? = some v):∃(a:Addr) (y:α),v=.ref a/\xs[i]? = some y/\At H a y:=by
 rw [VO]at hx
 cases e:bs[i]? with
 | none=>rw [e]at hx; cases hx
 | some b =>
  rw [e]at hx
  have hx':V.ref b=v:=VL hx
  subst hx'
  have hi:i<xs.length:=by rw [←h.len]; exact(VC.mp e).1
  have er:xs[i]? = some xs[i]:=Vw hi
  exact⟨b,xs[i],rfl,er,h.at_ i b _ e er⟩
theorem uh{v:V}(h:dZ v):fu v=true:=by rcases h with⟨n,rfl⟩ | ⟨x,rfl⟩ <;> rfl
theorem BY(B:jH mg)(B2:iW mg)(F:FA K mg "_law_pairs" xm)(G:bf bc P w K mg base 3 "_law_draw" ["_law_pot_here","_law_many_here"] dB)(G2:bf bc P w K mg base 3 "_law_cell" ["_law_pot_here","_law_sort"] tx) :
  bf bc P w K mg base 4 "_law_pairs" ["_law_pot_here","_law_here","_law_there"] yV:=by
 refine F.ok nV λf cdv A outer s H vs Q E hr h=>?_
 obtain⟨p,s1,s2,rfl,hP,q⟩:=h
 refine⟨_,aq (aL (i:=3) nV.nd rfl (V2 rfl) (aQ ah))
  (aq (gp PassesOwn.never rfl (c8 rfl B.range (ae (bo K (aQ (ae (aD cL ai (av G hr (ae (pv 0) (ae ai ah)))) (ae ai ah))) (aW cE rfl B2.int V7 (ae (bT aP (av G hr (ae (pv 0) (ae ai ah))) ai) ah))) ah)) (bU (i:=4) nV.nd rfl (V2 rfl))
   (aq (aL (i:=5) nV.nd rfl (V2 rfl) (aJ (ae (av G2 hr (ae (pv 0) (ae (pv 1) ah))) (ae (av G2 hr (ae (pv 0) (ae (pv 2) ah))) ah))))
   (bM (du (dk iR (La (pv 5) ai (λ_ _=>rfl)) (bx (N':=["_law_a","_law_b"]) (src:=[none,none]) rfl (aZ.jT (by kernel_rfl)) (fq (pv 3))
     (g:=i8 K 2 (bR (bE 0) (bR (bE 1) i5))) (λcl C s H fp=>cG rfl (aA (eI (i:=0)) (aA (eI (i:=1)) bY))) (λcl C s H fp=>aX) (λcl C s H fp=>jd 0)) rfl)
    (bM (fQ (lD PySem.F.plainAttrs_list PySem.F.slot_list_append PySem.F.type_list_append c9 (pv 3) (ae (pv 5) ah)))) b9))))
  (ax (aW bH rfl B.tuple V6 (ae (pv 3) ah)))),?_⟩
 have g0:=bp.refl hP
 refine⟨VJ _,λL hL=>?_⟩
 have nL:=g0.ne hL
 have gL:=g0.new (o:=.lst []) hL
 refine⟨_,rfl,p,_,rfl,gL.cq,by decide,by decide,λe1 H1 g1 a1 b1=>⟨_,_,rfl,rfl,cN,λR hR=>?_⟩⟩
 have k1:=gL.trans g1
 have k2:=k1.new (o:=.lst [.int (1+e1),.int 8]) hR
 refine⟨_,rfl,p,_,rfl,k2.cq,by decide,by decide,λe2 H2 g2 a2 b2=>⟨rfl,.inr ⟨_,rfl,?_⟩⟩⟩
 have k3:=k2.trans g2
 have oJ:∃m:Int,jj [V.int (1+e1),V.int 8] (if decide (V.int e2=V.int 8)=true then 1 else 0)=some (.int m)/\1<=m/\m<=8:=by
  cases decide (V.int e2=V.int 8)
  ·exact⟨_,rfl,by omega,by omega⟩
  ·exact⟨_,rfl,by decide,by decide⟩
 obtain⟨m,hm,m0,m1⟩:=oJ
 refine⟨R,_,_,_,rfl,rfl,a_.of (g2.keep R _ (k1.ne hR) ag),hm,m,rfl,(jh (by omega) (by omega)).1,(jh (by omega) (by omega)).2,?_⟩
 have Lv:=g2.keep L _ nL ((aj hR (.lst [.int (1+e1),.int 8])) _ _ (g1.keep L _ nL ag))
 refine e9 (n:=m.toNat) (λi σ H'=>(∃o4 o5,σ=[some (.ref p),some (.str s1),some (.str s2),some (.ref L),o4,o5])/\(∃(bs:List Addr) (ps:List (V×V)),H' L=some (.lst (bs.map V.ref))/\ps.length<=i/\eF kL H' bs ps/\(∀q∈ps,dZ q.1/\dZ q.2)/\(1<=i->ps≠[]))/\bp p H H')
  ⟨⟨none,none,rfl⟩,⟨[],[],Lv,Vn _,eF.nil,by simp,λz=>VY z (by decide)⟩,k3⟩ ?_ ?_
 ·rintro i σ H' hi ⟨⟨o4,o5,rfl⟩,⟨bs,ps,hv,hl,hp,hcl,hne⟩,g⟩
  refine⟨_,rfl,_,rfl,p,s1,rfl,g.cq,λx H4 g4 cx=>?_⟩
  refine⟨_,rfl,_,rfl,p,s2,rfl,g4.cq,λy H5 g5 cy=>⟨cN,λT hT=>?_⟩⟩
  have sT:=aj hT (.tup [x,y])
  have LA:=g4.trans g5
  have gT:=(g.trans LA).new (o:=.tup [x,y]) hT
  have BH:=sT _ _ (LA.keep L _ nL hv)
  have JL:eF kL (upd H5 T (.tup [x,y])) bs ps:=hp.keep λ_ _ e=>sT _ _ (iw g.cq LA e)
  have hlb:(bs.map V.ref).length=ps.length:=by rw [Vr,hp.len]
  refine⟨_,rfl,T,_,_,_,rfl,rfl,aH.of ag,rfl,?_⟩
  refine⟨_,rfl,L,rfl,⟨_,a_.of BH⟩,λDc GK=>?_⟩
  refine dN (xs:=bs.map V.ref) (λi σ ys H'=>(∃o o',σ=[o,o'])/\ys.length=i/\ys.all fu=true/\H' Dc=some (.lst ys)/\aM (upd H5 T (.tup [x,y])) H')
   ⟨⟨none,none,rfl⟩,rfl,rfl,ag,aj GK _⟩ ?_ ?_ ?_ ?_ ?_
  ·rintro i σ ys H' _ ⟨_,hl,_,h,_⟩
   exact⟨h,V_ hl⟩
  ·rintro i σ ys H' _ ⟨_,_,_,_,sm⟩
   exact a_.of (sm _ _ BH)
  ·rw [hlb]; exact Vo (show ps.length<=1000 by omega) (by decide)
  ·rintro i v σ ys H' hv ⟨⟨o,o',rfl⟩,hl,hf,h,sm⟩
   obtain⟨t,q',rfl,eq',ht⟩:=JL.get hv
   have fx:=uh (hcl q' (Vy eq')).1
   refine⟨t,_,rfl,aH.of (sm _ _ ht),rfl,_,_,rfl,_,_,rfl,rfl,_,rfl,h,⟨_,_,rfl⟩,by rw [Vs,hl]; rfl,?_,ag,λb u eb=>?_⟩
   ·rw [List.all_append,hf]; simp [fx]
   ·by_cases hb:b=Dc
    ·subst hb; exact VY eb (by rw [GK]; simp)
    ·rw [aI hb]; exact sm _ _ eb
  ·rintro σ ys H6 ⟨_,hyl,hf,h,sm⟩
   refine⟨Dc,_,rfl,.inl (a_.of h),uh cx,hf,_,rfl,?_⟩
   have gS:=gT.trans (bp.same gT.cq sm)
   refine cJ (λ_=>?_) (λc=>?_)
   ·refine⟨_,rfl,.inl ⟨rfl,_,a_.of (sm _ _ BH)⟩,_,rfl,L,_,_,rfl,rfl,sm _ _ BH,by rw [hlb]; exact Vu (show ps.length<=1000 by omega) (by decide),?_⟩
    have kk:∀a xs,upd H5 T (.tup [x,y]) a=some (.tup xs)->upd H6 L (.lst (bs.map V.ref++[.ref T])) a=some (.tup xs):=λa xs e=>by
     rw [aI (λz=>by rw [z,BH]at e; cases e)]; exact sm _ _ e
    refine⟨⟨_,_,rfl⟩,⟨bs++[T],ps++[(x,y)],by rw [ag,Vt]; rfl,by rw [Vs]; exact Nat.add_le_add_right hl 1,(JL.keep λ_ _ e=>kk _ _ e).snoc (kk _ _ ag),λq' hq'=>?_,λ_=>by simp⟩,g0.put hL nL gS⟩
    rcases VH.mp hq' with z | z
    ·exact hcl q' z
    ·rw [VD.mp z]; exact⟨cx,cy⟩
   ·refine⟨⟨_,_,rfl⟩,⟨bs,ps,sm _ _ BH,Nat.le_succ_of_le hl,JL.keep λ_ _ e=>sm _ _ e,hcl,λ_=>?_⟩,gS⟩
    rintro rfl
    have:ys=[]:=List.eq_nil_of_length_eq_zero (by rw [hyl,hlb]; rfl)
    subst this
    exact c rfl
 ·rintro σ H' ⟨⟨o4,o5,rfl⟩,⟨bs,ps,hv,hl,hp,hcl,hne⟩,g⟩
  refine⟨_,rfl,L,_,rfl,.inl ⟨a_.of hv,λt ht=>?_⟩⟩
  have st:=aj ht (.tup (bs.map V.ref))
  exact q t bs ps _ (g.new ht) ⟨ag,hp.len,λi a x e1 e2=>st _ _ (hp.at_ i a x e1 e2)⟩ (hne (by omega)) (by omega) hcl
theorem eF.cons{α:Type}{At:Hp->Addr->α->Prop}{H:Hp}{bs:List Addr}{xs:List α}{b:Addr}{x:α}(hx:At H b x)(h:eF At H bs xs):eF At H (b::bs) (x::xs) :=
 ⟨by rw [VV,VV,h.len],λi a y e1 e2=>by
  cases i with
  | zero=>cases e1; cases e2; exact hx
  | succ i=>exact h.at_ i a y e1 e2⟩
def Lu(H:Hp)(v:V):Prop:=∃t n b,v=.ref t/\H t=some (.tup [.int n,.bl b])/\1<=n
theorem Lu.keep{H H':Hp}{v:V}(k:∀a xs,H a=some (.tup xs)->H' a=some (.tup xs))(h:Lu H v):Lu H' v:=by
 obtain⟨t,x,y,e,h1,h2⟩:=h
 exact⟨t,x,y,e,k _ _ h1,h2⟩
theorem rS{H:Hp}:∀{vs:List V},(∀v∈vs,Lu H v)->∃(bs:List Addr) (cs:List Int),vs=bs.map V.ref/\eF BC H bs cs/\∀c∈cs,1<=c
 | [],_=>⟨[],[],rfl,eF.nil,by simp⟩
 | v::vs,h=>by
  obtain⟨bs,cs,rfl,h1,h2⟩:=rS (vs:=vs) λw hw=>h w (Vz _ hw)
  obtain⟨t,n,b,rfl,ht,hn⟩:=h v (VU ..)
  refine⟨t::bs,n::cs,rfl,h1.cons ⟨b,ht⟩,λc hc=>?_⟩
  rcases VF.mp hc with rfl | z
  ·exact hn
  ·exact h2 c z
theorem CJ(B:jH mg)(F:FA K mg "_law_order" x3)(G:bf bc P w K mg base 2 "_law_draw" ["_law_pot_here","_law_many_here"] dB)(G2:bf bc P w K mg base 2 "_law_column" ["_law_pot_here","_law_head"] (iz K)) :
  bf bc P w K mg base 3 "_law_order" ["_law_pot_here","_law_head"] (zp K):=by
 refine F.ok nK λf cdv A outer s H vs Q E hr h=>?_
 obtain⟨p,a,hs,rfl,hh,hP,q⟩:=h
 refine⟨_,aq (aL (i:=2) nK.nd rfl (V2 rfl) (aQ ah))
  (aq (gp PassesOwn.never rfl (c8 rfl B.range (ae (aD cL ai (av G hr (ae (pv 0) (ae ai ah)))) ah)) (bU (i:=3) nK.nd rfl (V2 rfl))
   (aq (aL (i:=4) nK.nd rfl (V2 rfl) (av G2 hr (ae (pv 0) (ae (pv 1) ah))))
   (bM (du (dk iR (pv 4) (bx (N':=["_law_other_here","_law_is_falling"]) (src:=[none,none]) rfl (aZ.jT (by kernel_rfl)) (fq (pv 2))
     (g:=i8 K 2 (bR (bE 0) (bR (bE 1) i5))) (λcl C s H fp=>cG rfl (aA (eI (i:=0)) (aA (eI (i:=1)) bY))) (λcl C s H fp=>aX) (λcl C s H fp=>jd 0)) rfl)
    (bM (fQ (lD PySem.F.plainAttrs_list PySem.F.slot_list_append PySem.F.type_list_append c9 (pv 2) (ae (aJ (ae (pv 4) (ae (bT aP (av G hr (ae (pv 0) (ae ai ah))) ai) ah))) ah)))) b9))))
  (ax (aW bH rfl B.tuple V6 (ae (pv 2) ah)))),?_⟩
 have g0:=bp.refl hP
 refine⟨VJ _,λL hL=>?_⟩
 have nL:=g0.ne hL
 have gL:=g0.new (o:=.lst []) hL
 refine⟨_,rfl,p,_,rfl,gL.cq,by decide,by decide,λe1 H1 g1 a1 b1=>⟨_,_,rfl,rfl,1+e1,rfl,(jh (by omega) (by omega)).1,(jh (by omega) (by omega)).2,?_⟩⟩
 have k1:=gL.trans g1
 have hL1:=g1.keep L _ nL ag
 refine e9 (n:=(1+e1).toNat) (λi σ H'=>(∃o4 o5,σ=[some (.ref p),some (.ref a),some (.ref L),o4,o5])/\(∃vs,H' L=some (.lst vs)/\vs.length<=i/\∀v∈vs,Lu H' v)/\bp p H H')
  ⟨⟨none,none,rfl⟩,⟨[],hL1,Vn _,by simp⟩,k1⟩ ?_ ?_
 ·rintro i σ H' hi ⟨⟨o4,o5,rfl⟩,⟨vs,hv,hl,hp⟩,g⟩
  refine⟨_,rfl,_,rfl,p,a,hs,rfl,g.cq,hh.grow hP g,λn H5 g5 n1 n2=>?_⟩
  refine ak ?_
  dsimp only
  have BH:=g5.keep L _ nL hv
  have JL:∀v∈vs,Lu H5 v:=λv h=>(hp v h).keep λa xs e=>iw g.cq g5 e
  refine⟨_,rfl,_,rfl,L,rfl,⟨_,a_.of BH⟩,λDc GK=>?_⟩
  refine dN (xs:=vs) (λi σ ys H'=>(∃o o',σ=[o,o'])/\ys.length<=i/\ys.all fu=true/\H' Dc=some (.lst ys)/\aM H5 H')
   ⟨⟨none,none,rfl⟩,Vn _,rfl,ag,aj GK _⟩ ?_ ?_ ?_ ?_ ?_
  ·rintro i σ ys H' _ ⟨_,hl,_,h,_⟩
   exact⟨h,hl⟩
  ·rintro i σ ys H' _ ⟨_,_,_,_,sm⟩
   exact a_.of (sm _ _ BH)
  ·exact Vo (show vs.length<=1000 by omega) (by decide)
  ·rintro i v σ ys H' hv ⟨⟨o,o',rfl⟩,hl,hf,h,sm⟩
   obtain⟨t,x',y',rfl,ht,_⟩:=JL v (Vy hv)
   refine⟨t,_,rfl,aH.of (sm _ _ ht),rfl,_,_,rfl,_,_,rfl,rfl,_,rfl,h,⟨_,_,rfl⟩,by rw [Vs]; exact Nat.add_le_add_right hl 1,?_,ag,λb u eb=>?_⟩
   ·rw [List.all_append,hf]; rfl
   ·by_cases hb:b=Dc
    ·subst hb; exact VY eb (by rw [GK]; simp)
    ·rw [aI hb]; exact sm _ _ eb
  ·rintro σ ys H6 ⟨_,_,hf,h,sm⟩
   refine⟨Dc,_,rfl,.inl (a_.of h),rfl,hf,_,rfl,?_⟩
   have Rc:=g.trans g5
   have gS:=Rc.trans (bp.same Rc.cq sm)
   refine cJ (λ_=>?_) (λ_=>?_)
   ·refine⟨_,rfl,.inl ⟨rfl,_,a_.of (sm _ _ BH)⟩,_,rfl,_,rfl,p,_,rfl,gS.cq,by decide,by decide,λe7 H7 g7 a7 b7=>⟨rfl,cN,λT hT=>?_⟩⟩
    have sT:=aj hT (.tup [.int n,.bl (decide (V.int e7=V.int 0))])
    have Fv:=sT _ _ (g7.keep L _ nL (sm _ _ BH))
    refine⟨L,_,_,rfl,rfl,Fv,Vu (show vs.length<=1000 by omega) (by decide),?_⟩
    refine⟨⟨_,_,rfl⟩,⟨vs++[.ref T],ag,by rw [Vs]; exact Nat.add_le_add_right hl 1,λv hv=>?_⟩,g0.put hL nL ((gS.trans g7).new hT)⟩
    have kk:∀a xs,upd H7 T (.tup [.int n,.bl (decide (V.int e7=V.int 0))]) a=some (.tup xs)->upd (upd H7 T (.tup [.int n,.bl (decide (V.int e7=V.int 0))])) L (.lst (vs++[.ref T])) a=some (.tup xs):=λa xs e=>by
     rw [aI (λz=>by rw [z,Fv]at e; cases e)]; exact e
    rcases VH.mp hv with z | z
    ·exact(JL v z).keep λa xs e=>kk _ _ (sT _ _ (iw gS.cq g7 (sm _ _ e)))
    ·rw [VD.mp z]; exact⟨T,n,_,rfl,kk _ _ ag,n1⟩
   ·exact⟨⟨_,_,rfl⟩,⟨vs,sm _ _ BH,Nat.le_succ_of_le hl,λv hv=>(JL v hv).keep λa xs e=>sm _ _ e⟩,gS⟩
 ·rintro σ H' ⟨⟨o4,o5,rfl⟩,⟨vs,hv,hl,hp⟩,g⟩
  refine⟨_,rfl,L,_,rfl,.inl ⟨a_.of hv,λt ht=>?_⟩⟩
  have st:=aj ht (.tup vs)
  obtain⟨bs,cs,rfl,h1,h2⟩:=rS hp
  exact q t bs cs _ (g.new ht) ⟨ag,h1.len,λi a x e1 e2=>by obtain⟨b,hb⟩:=h1.at_ i a x e1 e2; exact⟨b,st _ _ hb⟩⟩ (by rw [←h1.len]; rw [Vr]at hl; omega) h2
theorem og:ay ["_law_pot_here","_law_sort","_law_moves_here","_law_k","_law_move"] ["_law_pot_here","_law_sort"] (ar tJ):=fs
def zK:Sp:=λvs H Q _=>∃(p:Addr) (s1:Str),vs=[.ref p,.str s1]/\dy H p/\∀t bs (mv:List V) H',bp p H H'->bF Bk H' t bs mv->mv.length<=16->(∀v∈mv,v=.non\/dZ v)->Q (.ref t) H'
def vw(H:Hp)(v:V):Prop:=∃t x y,v=.ref t/\H t=some (.tup [x,y])/\fu x=true/\fu y=true
theorem vw.keep{H H':Hp}{v:V}(k:∀a xs,H a=some (.tup xs)->H' a=some (.tup xs))(h:vw H v):vw H' v:=by
 obtain⟨t,x,y,e,h1,h2,h3⟩:=h
 exact⟨t,x,y,e,k _ _ h1,h2,h3⟩
def Lx:V->D
 | .int i=>.int i
 | .str x=>.str x
 | .bl b=>.bl b
 | _=>.non
theorem ot{K:Wg}{H:Hp}{v:V}(h:fu v=true):bj K H (Lx v) v:=by
 cases v <;> first | (first | exact zf _ | exact gF _ | exact Kr _ | exact FF) | (simp [fu]at h)
def qC(H:Hp)(v:V):Prop:=∃t x y z,v=.ref t/\H t=some (.tup [.str x,y,.str z])/\(y=.non\/dZ y)
theorem qC.keep{H H':Hp}{v:V}(k:∀a xs,H a=some (.tup xs)->H' a=some (.tup xs))(h:qC H v):qC H' v:=by
 obtain⟨t,x,y,z,e,h1,h2⟩:=h
 exact⟨t,x,y,z,e,k _ _ h1,h2⟩
theorem mV{H:Hp}:∀{vs:List V},(∀v∈vs,qC H v)->∃(bs:List Addr) (mv:List V),vs=bs.map V.ref/\eF Bk H bs mv/\∀c∈mv,c=.non\/dZ c
 | [],_=>⟨[],[],rfl,eF.nil,by simp⟩
 | v::vs,h=>by
  obtain⟨bs,cs,rfl,h1,h2⟩:=mV (vs:=vs) λw hw=>h w (Vz _ hw)
  obtain⟨t,x,y,z,rfl,ht,hn⟩:=h v (VU ..)
  refine⟨t::bs,y::cs,rfl,h1.cons ⟨x,z,ht⟩,λc hc=>?_⟩
  rcases VF.mp hc with rfl | z
  ·exact hn
  ·exact h2 c z
theorem wA{y:V}(h:y=.non\/dZ y):fu y=true:=by
 rcases h with rfl | h
 ·rfl
 ·exact uh h
theorem AJ(v:V):(Lx v).depth=0:=by cases v <;> simp [Lx,D.depth]
theorem qp{K:Wg}{H:Hp}:∀{vs:List V},(∀v∈vs,vw H v)->∃ds,bV K H ds vs/\cA ds<=1
 | [],_=>⟨[],bV.nil,by simp [cA]⟩
 | v::vs,h=>by
  obtain⟨ds,h1,h2⟩:=qp (K:=K) (vs:=vs) λw hw=>h w (Vz _ hw)
  obtain⟨t,x,y,rfl,ht,fx,fy⟩:=h v (VU ..)
  refine⟨.tup [Lx x,Lx y]::ds,bV.cons (iN ht (bV.cons (ot fx) (bV.cons (ot fy) bV.nil))) h1,?_⟩
  simp only [cA,D.depth,AJ]; omega
theorem DT(B:jH mg)(B2:iW mg)(F:FA K mg "_law_moves" tJ)(G:bf bc P w K mg base 3 "_law_draw" ["_law_pot_here","_law_many_here"] dB)(G3:bf bc P w K mg base 3 "_law_state" ["_law_pot_here"] tj)(G2:bf bc P w K mg base 3 "_law_cell" ["_law_pot_here","_law_sort"] tx) :
  bf bc P w K mg base 4 "_law_moves" ["_law_pot_here","_law_sort"] zK:=by
 refine F.ok og λf cdv A outer s H vs Q E hr h=>?_
 obtain⟨p,s1,rfl,hP,q⟩:=h
 have hu:(A.deeper (PyProof.Rows.envOfC "_law_moves" (ar tJ) s.heap.objs.size f cdv)).units+1+1<cLine:=by have:=hr.units; omega
 refine⟨_,aq (aL (i:=2) og.nd rfl (V2 rfl) (aQ ah))
  (aq (gp PassesOwn.never rfl (c8 rfl B.range (ae (bo K (aQ (ae (av G hr (ae (pv 0) (ae ai ah))) (ae ai ah))) (aW cE rfl B2.int V7 (ae (bT aP (av G hr (ae (pv 0) (ae ai ah))) ai) ah))) ah)) (bU (i:=3) og.nd rfl (V2 rfl))
   (aq (aL (i:=4) og.nd rfl (V2 rfl) (aJ (ae (av G3 hr (ae (pv 0) ah)) (ae (bo K (aQ (ae (av G2 hr (ae (pv 0) (ae (pv 1) ah))) (ae iS ah))) (aW cE rfl B2.int V7 (ae (bT aP (av G hr (ae (pv 0) (ae ai ah))) ai) ah))) (ae (av G3 hr (ae (pv 0) ah)) ah)))))
   (bM (du (dk rP (bN Ce (pv 4) cC (bS ai)) (bx (N':=["_law_state_here","_law_cell_here","_law_after"]) (src:=[none,none,none]) rfl (aZ.jT (by kernel_rfl)) (fq (pv 2))
     (g:=i8 K 3 (bR (bE 0) (bR (bE 1) (bR (bE 2) i5)))) (λcl C s H fp=>cG rfl (aA (eI (i:=0)) (aA (eI (i:=1)) (aA (eI (i:=2)) bY)))) (λcl C s H fp=>aX) (λcl C s H fp=>aJ (ae (jd 0) (ae (jd 1) ah)))) rfl)
    (bM (fQ (lD PySem.F.plainAttrs_list PySem.F.slot_list_append PySem.F.type_list_append c9 (pv 2) (ae (pv 4) ah)))) b9))))
  (ax (aW bH rfl B.tuple V6 (ae (pv 2) ah)))),?_⟩
 have g0:=bp.refl hP
 refine⟨VJ _,λL hL=>?_⟩
 have nL:=g0.ne hL
 have gL:=g0.new (o:=.lst []) hL
 refine⟨_,rfl,p,_,rfl,gL.cq,by decide,by decide,λe1 H1 g1 a1 b1=>⟨cN,λR hR=>?_⟩⟩
 have k1:=gL.trans g1
 have k2:=k1.new (o:=.lst [.int e1,.int 16]) hR
 refine⟨_,rfl,p,_,rfl,k2.cq,by decide,by decide,λe2 H2 g2 a2 b2=>⟨rfl,.inr ⟨_,rfl,?_⟩⟩⟩
 have k3:=k2.trans g2
 have oJ:∃m:Int,jj [V.int e1,V.int 16] (if decide (V.int e2=V.int 8)=true then 1 else 0)=some (.int m)/\0<=m/\m<=16:=by
  cases decide (V.int e2=V.int 8)
  ·exact⟨_,rfl,by omega,by omega⟩
  ·exact⟨_,rfl,by decide,by decide⟩
 obtain⟨m,hm,m0,m1⟩:=oJ
 refine⟨R,_,_,_,rfl,rfl,a_.of (g2.keep R _ (k1.ne hR) ag),hm,m,rfl,(jh m0 (by omega)).1,(jh m0 (by omega)).2,?_⟩
 have Lv:=g2.keep L _ nL ((aj hR (.lst [.int e1,.int 16])) _ _ (g1.keep L _ nL ag))
 refine e9 (n:=m.toNat) (λi σ H'=>(∃o4 o5,σ=[some (.ref p),some (.str s1),some (.ref L),o4,o5])/\(∃vs,H' L=some (.lst vs)/\vs.length<=i/\∀v∈vs,qC H' v)/\bp p H H')
  ⟨⟨none,none,rfl⟩,⟨[],Lv,Vn _,by simp⟩,k3⟩ ?_ ?_
 ·rintro i σ H' hi ⟨⟨o4,o5,rfl⟩,⟨vs,hv,hl,hp⟩,g⟩
  refine⟨_,rfl,p,rfl,g.cq,λx H3 g3=>?_⟩
  refine⟨_,rfl,_,rfl,p,s1,rfl,g3.cq,λy H4 g4 cy=>⟨cN,λR2 zX=>?_⟩⟩
  have l1:=(g3.trans g4).new (o:=.lst [y,.non]) zX
  refine⟨_,rfl,p,_,rfl,l1.cq,by decide,by decide,λe5 H5 g5 a5 b5=>⟨rfl,.inr ⟨_,rfl,?_⟩⟩⟩
  have EZ:∃y2:V,jj [y,V.non] (if decide (V.int e5=V.int 0)=true then 1 else 0)=some y2/\(y2=.non\/dZ y2):=by
   cases decide (V.int e5=V.int 0)
   ·exact⟨_,rfl,.inr cy⟩
   ·exact⟨_,rfl,.inl rfl⟩
  obtain⟨y2,hy2,QS⟩:=EZ
  have R_:=wA QS
  refine⟨R2,_,_,_,rfl,rfl,a_.of (g5.keep R2 _ ((g3.trans g4).ne zX) ag),hy2,?_⟩
  have l2:=l1.trans g5
  refine⟨_,rfl,p,rfl,l2.cq,λz H6 g6=>⟨fM,λT hT=>?_⟩⟩
  have l3:=l2.trans g6
  have sT:=aj hT (.tup [.str x,y2,.str z])
  have S8:=sT _ _ (l3.keep L _ nL hv)
  have UL:∀v∈vs,qC (upd H6 T (.tup [.str x,y2,.str z])) v:=λv h=>(hp v h).keep λa xs e=>sT _ _ (iw g.cq l3 e)
  have gT:=(g.trans l3).new (o:=.tup [.str x,y2,.str z]) hT
  refine ak ?_
  dsimp only
  refine⟨_,rfl,_,rfl,T,_,rfl,aH.of ag,(by show¬(HT.dO 3 0 none=0/\HT.dO 3 3 (some 2)=3); decide),λr hr=>?_⟩
  have sr:=aj hr (.tup [.str x,y2])
  have Fv:=sr _ _ S8
  have GL:∀v∈vs,qC (upd (upd H6 T (.tup [.str x,y2,.str z])) r (.tup [.str x,y2])) v:=λv h=>(UL v h).keep λa xs e=>sr _ _ e
  have UY:=sr _ _ (ag (H:=H6) (a:=T) (o:=.tup [.str x,y2,.str z]))
  have Uh:=ag (H:=upd H6 T (.tup [.str x,y2,.str z])) (a:=r) (o:=.tup [.str x,y2])
  have gr:=gT.trans (bp.same gT.cq sr)
  refine⟨_,rfl,L,rfl,⟨_,a_.of Fv⟩,λDc GK=>?_⟩
  rw [show fz [V.str x,y2,V.str z] none (some 2)=[V.str x,y2] from rfl]at GK⊢
  generalize upd (upd H6 T (.tup [.str x,y2,.str z])) r (.tup [.str x,y2])=H7 at *
  refine dN (xs:=vs) (λi σ ys H'=>(∃o o' QY,σ=[o,o',QY])/\ys.length<=i/\(∀v∈ys,vw H' v)/\H' Dc=some (.lst ys)/\aM H7 H')
   ⟨⟨none,none,none,rfl⟩,Vn _,by simp,ag,aj GK _⟩ ?_ ?_ ?_ ?_ ?_
  ·rintro i σ ys H' _ ⟨_,hl,_,h,_⟩
   exact⟨h,hl⟩
  ·rintro i σ ys H' _ ⟨_,_,_,_,sm⟩
   exact a_.of (sm _ _ Fv)
  ·exact Vo (show vs.length<=1000 by omega) (by decide)
  ·rintro i v σ ys H' hv ⟨⟨o,o',QY,rfl⟩,hl,hf,h,sm⟩
   obtain⟨t,x',y',z',rfl,ht,UN⟩:=GL v (Vy hv)
   refine⟨t,_,rfl,aH.of (sm _ _ ht),rfl,_,_,rfl,_,_,rfl,_,_,rfl,rfl,_,rfl,_,rfl,cN,λU hU=>?_⟩
   have sU:=aj hU (.tup [.str x',y'])
   have QM:=sU _ _ h
   refine⟨QM,⟨_,_,_,rfl⟩,by rw [Vs]; exact Nat.add_le_add_right hl 1,λv hv=>?_,ag,λb u eb=>?_⟩
   ·have kk:∀a xs,upd H' U (.tup [.str x',y']) a=some (.tup xs)->upd (upd H' U (.tup [.str x',y'])) Dc (.lst (ys++[.ref U])) a=some (.tup xs):=λa xs e=>by
     rw [aI (λz=>by rw [z,QM]at e; cases e)]; exact e
    rcases VH.mp hv with z | z
    ·exact(hf v z).keep λa xs e=>kk _ _ (sU _ _ e)
    ·rw [VD.mp z]; exact⟨U,.str x',y',rfl,kk _ _ ag,rfl,wA UN⟩
   ·by_cases hb:b=Dc
    ·subst hb; exact VY eb (by rw [GK]; simp)
    ·rw [aI hb]; exact sU _ _ (sm _ _ eb)
  ·rintro σ ys H8 ⟨_,_,hf,h,sm⟩
   obtain⟨es,h1,h2⟩:=qp (K:=K) hf
   refine⟨.tup [.str x,Lx y2],es,Dc,ys,rfl,.inl (a_.of h),iN (sm _ _ Uh) (bV.cons (gF _) (bV.cons (ot R_) bV.nil)),h1,?_,_,rfl,?_⟩
   ·exact Vu (Nat.add_le_add_left h2 _) hu
   have gS:=gr.trans (bp.same gr.cq sm)
   refine cJ (λ_=>?_) (λ_=>?_)
   ·refine⟨_,rfl,.inl ⟨rfl,_,a_.of (sm _ _ Fv)⟩,_,rfl,L,_,_,rfl,rfl,sm _ _ Fv,Vu (show vs.length<=1000 by omega) (by decide),?_⟩
    refine⟨⟨_,_,rfl⟩,⟨vs++[.ref T],ag,by rw [Vs]; exact Nat.add_le_add_right hl 1,λv hv=>?_⟩,g0.put hL nL gS⟩
    have kk:∀a xs,H7 a=some (.tup xs)->upd H8 L (.lst (vs++[.ref T])) a=some (.tup xs):=λa xs e=>by
     rw [aI (λz=>by rw [z,Fv]at e; cases e)]; exact sm _ _ e
    rcases VH.mp hv with z | z
    ·exact(GL v z).keep kk
    ·rw [VD.mp z]; exact⟨T,_,_,_,rfl,kk _ _ UY,QS⟩
   ·exact⟨⟨_,_,rfl⟩,⟨vs,sm _ _ Fv,Nat.le_succ_of_le hl,λv hv=>(GL v hv).keep λa xs e=>sm _ _ e⟩,gS⟩
 ·rintro σ H' ⟨⟨o4,o5,rfl⟩,⟨vs,hv,hl,hp⟩,g⟩
  refine⟨_,rfl,L,_,rfl,.inl ⟨a_.of hv,λt ht=>?_⟩⟩
  have st:=aj ht (.tup vs)
  obtain⟨bs,mv,rfl,h1,h2⟩:=mV hp
  exact q t bs mv _ (g.new ht) ⟨ag,h1.len,λi a x e1 e2=>by obtain⟨b,c,hb⟩:=h1.at_ i a x e1 e2; exact⟨b,c,st _ _ hb⟩⟩ (by rw [←h1.len]; rw [Vr]at hl; omega) h2
end My
namespace L2
open PySem PySem.Spec PyProof.Rows
theorem gm:fillsNumberSlot (.type "tuple") "mul"=pure false:=PySem.fillsNumberSlot_seq (id:="tuple.__mul__") (r:=some (.builtin "tuple.__rmul__")) F.slot_tuple_mul.lookup (by decide +kernel) F.slot_tuple_rmul.lookup (by decide +kernel)
theorem ui:seqRepeat? (.type "tuple")=pure (some (.builtin "tuple.__mul__")):=by
 unfold seqRepeat?
 rw [PySem.seqSlot_of (T:="tuple") (name:="__mul__") F.slot_tuple_mul.lookup (by decide +kernel),PySem.seqSlot_of (T:="tuple") (name:="__rmul__") F.slot_tuple_rmul.lookup (by decide +kernel)]
 rfl
theorem iY(a:Int)(t:Tok)(l:Addr)(items:Array Value)(n:Nat)(dd:Option Addr)(sl:Array (Option Value)):Meets (Builtin.«int.__rmul__» ⟨[.int a t,.ref l],[]⟩) (λ_ R s=>s.heap.get? l=some ⟨.type "tuple",dd,.seq items n,sl⟩/\R (.ok (.ret Value.notImplemented)) s) :=
 .of_wp λprog w A R s h=>by
  obtain⟨hp,g,d,tk,os⟩:=s; obtain⟨hl,h⟩:=h
  wp_walk
  exact⟨_,rfl,h⟩
theorem Fh(l:Addr)(items:Array Value)(n:Nat)(dd:Option Addr)(sl:Array (Option Value))(k:Int)(t:Tok)(h1:2<=k)(h2:k<1000)(hi:items.isEmpty=false)(hz:items.size*k.toNat<=10000) :
  Meets (Builtin.«tuple.__mul__» ⟨[.ref l,.int k t],[]⟩) (λ_ R s=>s.heap.get? l=some ⟨.type "tuple",dd,.seq items n,sl⟩/\
   R (.ok (.ret (.ref s.heap.objs.size))) {s with heap:=s.heap.push {cls:=.type "tuple",data:=.seq ((List.replicate k.toNat items).foldl (· ++ ·) #[])}}) :=
 .of_wp λprog w A R s h=>by
  obtain⟨hp,g,d,tk,os⟩:=s; obtain⟨hl,h⟩:=h
  have Rj:(2:Int) ^ 63=9223372036854775808:=by decide
  have hsk:(items.size:Int)*k<=10000:=by
   have:((items.size*k.toNat:Nat):Int)<=10000:=by exact_mod_cast hz
   rw [Int.natCast_mul,Int.toNat_of_nonneg (by omega)]at this
   exact this
  have c1:¬(decide (k < -2 ^ 63)||decide (k≥2 ^ 63))=true:=by
   rw [Rj]; simp; omega
  have c2:¬(items.isEmpty||k==1)=true:=by
   rw [hi,Bool.false_or]; simp; omega
  have c3:¬(decide (k<=0)||items.isEmpty)=true:=by
   rw [hi,Bool.or_false]; simp; omega
  have c4:¬(items.size:Int)*k > (2 ^ 63-1) / 8:=by
   rw [Rj]; omega
  have c5:¬Builtin.Tuple.tupleTooMany ((items.size:Int)*k)=true:=by
   unfold Builtin.Tuple.tupleTooMany
   have:((sizeLine:Nat):Int)≥10000:=by decide
   simp; omega
  have c6:¬(List.foldl (λx1 x2=>x1++x2) #[] (List.replicate k.toNat items)).size > sizeLine:=by
   have e:List.foldl (λx1 x2=>x1++x2) #[] (List.replicate k.toNat items)=(List.replicate k.toNat items.toList).flatten.toArray:=by
    have:=foldl_rep items.toList k.toNat []
    rw [List.nil_append]at this
    exact this
   rw [e,VB,len_rep,Wc,Nat.mul_comm]
   have:10000<=sizeLine:=by decide
   omega
  wp_walk
  rw [VZ c1]
  wp_walk
  rw [VZ c2]
  wp_walk
  rw [VZ c3]
  wp_walk
  rw [VZ c4]
  wp_walk
  exact⟨_,rfl,h⟩
section
variable{X:Cx}
def Ic(K:Wg):R2:=λx y H Q=>∃l k xs,x=.ref l/\y=.int k/\aH K H l xs/\xs≠[]/\2<=k/\k<1000/\xs.length*k.toNat<=10000/\
 ∀p,H p=none->Q (.ref p) (upd H p (.tup (List.replicate k.toNat xs).flatten))
theorem zu:je X (binaryOp .Mult) (Ic X.K):=by
 intro pins s σ H x y v u Q I rx ry h
 obtain⟨l,k,xs,rfl,rfl,hq,hx,h1,h2,hz,q⟩:=h
 cases rx
 obtain⟨t,rfl⟩:=ry
 obtain⟨its,r,⟨o,e,hc,n,hd⟩,_⟩:=I.tuple hq
 obtain⟨c,dd,da,sl⟩:=o
 cases(show c=.type "tuple" from hc)
 cases(show da=.seq its.toArray n from hd)
 have hl:=r.length
 have hi:its.toArray.isEmpty=false:=by
  cases its with
  | nil=>exact VY (List.eq_nil_of_length_eq_zero (by rw [hl]; rfl)) hx
  | cons a r=>rfl
 have hnew:List.foldl (λx1 x2=>x1++x2) #[] (List.replicate k.toNat its.toArray)=(List.replicate k.toNat its).flatten.toArray:=by
  have:=foldl_rep its k.toNat []
  rw [List.nil_append]at this
  exact this
 refine wpAny_binaryOp_repeat_ref (T:="tuple") (U:="int") (by decide) ⟨_,e,rfl⟩ (λs'=>typeIs_int s' k t) gm F.fills_int_mul F.slot_int_rmul ui F.slot_int_index.lookup
  (call_meets F.slot_int_rmul (typeIs_int s k t) F.entry_int_rmul (F.args_int_rmul_2 _ _) (iY k t l its.toArray n dd sl)
   ⟨e,rfl,⟨_,e,rfl⟩,call_meets F.slot_tuple_mul ⟨_,e,rfl⟩ F.entry_tuple_mul (F.args_tuple_mul_2 _ _) (Fh l its.toArray n dd sl k t h1 h2 hi (by rw [VB,←hl]; exact hz)) ⟨e,?_⟩⟩)
 rw [hnew]
 refine⟨.ref s.heap.objs.size,_,I.laid (t':=s.toks) (o:=.tup (List.replicate k.toNat xs).flatten) (λb ob q=>Vk _ q) (Vn _) ?_,rfl,q _ (I.hok.fresh (Vn _))⟩
 exact⟨by rw [len_rep,Nat.mul_comm]; exact Vo hz (by decide),_,r.rep k.toNat,ic.new _ _⟩
end
end L2
namespace My
open PySem L2 CS
theorem qt:ay ["_law_pot_here","_law_head","_law_word_here","_law_column_here","_law_sort"] ["_law_pot_here","_law_head","_law_word_here"] (ar uL):=fs
theorem zP:ay ["_law_pot_here","_law_head","_law_word_here","_law_column_here"] ["_law_pot_here","_law_head","_law_word_here"] (ar yy):=fs
def nU(K:Wg)(ok:Str->Prop):Sp:=λvs H Q _=>∃(p a:Addr) (hs:List Str) (wd:Str),vs=[.ref p,.ref a,.str wd]/\dy H p/\de K H a hs/\ok wd/\∀t (x:W1) H',bp p H H'->j9 H' t x->AA x->x.nm=wd->Q (.ref t) H'
def JE(s:Str):Prop:=s="keep"\/s="same"\/s="cut"\/s="turn"\/s="must"
def Ea(s:Str):Prop:=s="walk"\/s="sort"\/s="apart"\/s="count"\/s="sum"\/s="number"\/s="first"
theorem zx{K:Wg}{H:Hp}{p a:Addr}{hs:List Str}{σ:St}{Q:VK}{c:Int}{i j:Nat}(hP:dy H p)(hh:de K H a hs)(e1:σ[i]? = some (some (.ref a)))(e2:σ[j]? = some (some (.int c)))(c1:1<=c)(c2:c<=12)(q:∀x H',bp p H H'->Q (.str x) H') :
  h_ (uy K) (h_ (IC K) (bD i) (h_ (Ic K) (ER (bq (tC (.str "n")) fJ)) (tC (.int 12)))) (h_ (A_ λi j=>.int (i-j)) (bD j) (tC (.int 1))) σ H Q:=by
 refine⟨_,e1,dH,λt ht=>⟨t,12,_,rfl,rfl,aH.of ag,by simp,by decide,by decide,by decide,λu hu=>?_⟩⟩
 have g0:=bp.refl hP
 have g1:=g0.new (o:=.tup [.str "n"]) ht
 have g2:=g1.new (o:=.tup (List.replicate (12:Int).toNat [V.str "n"]).flatten) hu
 have h2:=hh.grow hP g2
 have hp1:=hh.pos
 have hf:=hh.few
 refine⟨a,u,_,_,rfl,rfl,aH.of h2.tup,aH.of ag,?_,?_,λz=>VY z (by decide),λ_ w hw=>?_⟩
 ·intro z
  rw [List.map_eq_nil_iff.mp z]at hp1
  exact VY hp1 (by decide)
 ·rw [Vr]
  exact Vo (show hs.length+12<=18 by omega) (by decide)
 have hl:(hs.map V.str++(List.replicate (12:Int).toNat [V.str "n"]).flatten).length=hs.length+12:=by rw [Vs,Vr]; rfl
 have hi:(c-1).toNat<(hs.map V.str++(List.replicate (12:Int).toNat [V.str "n"]).flatten).length:=by rw [hl]; omega
 have hv:jj (hs.map V.str++(List.replicate (12:Int).toNat [V.str "n"]).flatten) (c-1)=some ((hs.map V.str++(List.replicate (12:Int).toNat [V.str "n"]).flatten)[(c-1).toNat]):=by
  have:=au (j:=(c-1).toNat) (Vw hi)
  rw [show(((c-1).toNat:Nat):Int)=c-1 by omega]at this
  exact this
 have hm:=List.getElem_mem hi
 have hx:∃x:Str,(hs.map V.str++(List.replicate (12:Int).toNat [V.str "n"]).flatten)[(c-1).toNat]=.str x:=by
  rcases VH.mp hm with z | z
  ·obtain⟨x,_,e⟩:=VE.mp z
   exact⟨x,e.symm⟩
  ·obtain⟨l,hl,hz⟩:=List.mem_flatten.mp z
   rw [List.eq_of_mem_replicate hl]at hz
   exact⟨"n",VD.mp hz⟩
 obtain⟨x,ex⟩:=hx
 rw [ex]at hv
 exact⟨_,e2,_,_,rfl,rfl,w,_,_,_,rfl,rfl,aH.of ag,hv,q x _ (g2.new hw)⟩
variable{P:Program}{w:World}{K:Wg}{mg:Str->Option Value}{base:Heap}
theorem AZ(B2:iW mg)(F:FA K mg "_law_one_row" uL)(GC:bf bc P w K mg base 4 "_law_column" ["_law_pot_here","_law_head"] (iz K))(N7:bf bc P w K mg base 4 "_law_columns" ["_law_pot_here","_law_head","_law_many_here"] (mh K))(GD:bf bc P w K mg base 4 "_law_draw" ["_law_pot_here","_law_many_here"] dB)(GS:bf bc P w K mg base 4 "_law_set" ["_law_pot_here","_law_sort"] (DJ K))(GP:bf bc P w K mg base 4 "_law_pairs" ["_law_pot_here","_law_here","_law_there"] yV) :
  bf bc P w K mg base 5 "_law_one_row" ["_law_pot_here","_law_head","_law_word_here"] (nU K JE):=by
 refine F.ok qt λf cdv A outer s H vs Q E hr h=>?_
 obtain⟨p,a,hs,wd,rfl,hP,hh,Ir,q⟩:=h
 refine⟨_,aq (du (aU aP (pv 2) ao) (ax (aJ (ae ao (ae (av GC hr (ae (pv 0) (ae (pv 1) ah))) (ae (av GC hr (ae (pv 0) (ae (pv 1) ah))) ah))))) b9)
  (aN (aU aP (pv 2) ao) (aJ (ae ao (ae (av N7 hr (ae (pv 0) (ae (pv 1) (ae (aD cL ai (av GD hr (ae (pv 0) (ae ai ah)))) ah)))) ah)))
  (aq (aL (i:=3) qt.nd rfl (V2 rfl) (av GC hr (ae (pv 0) (ae (pv 1) ah))))
  (aq (aL (i:=4) qt.nd rfl (V2 rfl) (az K (aD sM (pv 1) (aD zu (aJ (ae ao ah)) ai)) (aD bO (pv 3) ai)))
  (aN (aU aP (pv 2) ao) (aJ (ae ao (ae (pv 3) (ae (av GS hr (ae (pv 0) (ae (pv 4) ah))) ah))))
  (ax (aJ (ae (pv 2) (ae (pv 3) (ae (av GP hr (ae (pv 0) (ae (pv 4) (ae (bo K (aQ (ae (pv 4) (ae (bo K (aQ (ae ao (ae ao ah))) (av GD hr (ae (pv 0) (ae ai ah)))) ah))) (aW cE rfl B2.int V7 (ae (bT aP (pv 2) ao) ah))) ah)))) ah))))))))),?_⟩
 refine⟨_,rfl,rfl,_,rfl,?_⟩
 refine cJ (λc=>?_) (λns=>?_)
 ·have e:wd="same":=by have:=VX c; injection this
  subst e
  refine⟨_,rfl,_,rfl,p,a,hs,rfl,hP,hh,λn H1 g1 n1 _=>?_⟩
  refine⟨_,rfl,_,rfl,p,a,hs,rfl,g1.cq,hh.grow hP g1,λm H2 g2 m1 _=>⟨fM,λt ht=>?_⟩⟩
  exact q t (.same n m) _ ((g1.trans g2).new ht) ag ⟨trivial,trivial,trivial,λc hc=>by rcases VF.mp hc with rfl | z; exact n1; rw [VD.mp z]; exact m1⟩ rfl
 refine⟨_,rfl,rfl,_,rfl,?_⟩
 refine cJ (λc=>?_) (λnc=>?_)
 ·have e:wd="cut":=by have:=VX c; injection this
  subst e
  refine⟨_,rfl,_,rfl,_,rfl,p,_,rfl,hP,by decide,by decide,λd H1 g1 a1 b1=>⟨_,_,rfl,rfl,?_⟩⟩
  refine⟨p,a,hs,_,rfl,g1.cq,hh.grow hP g1,by omega,by omega,λt2 ns H2 g2 h2 hn hp=>⟨cN,λt ht=>?_⟩⟩
  exact q t (.cut ns) _ ((g1.trans g2).new ht) ⟨t2,ag,aj ht _ _ _ h2⟩ ⟨by show ns.length<=1000; omega,trivial,by rintro rfl; rw [List.length_nil]at hn; omega,hp⟩ rfl
 refine⟨_,rfl,_,rfl,p,a,hs,rfl,hP,hh,λn H1 g1 n1 n2=>?_⟩
 refine ak ?_
 dsimp only
 have hh1:=hh.grow hP g1
 refine zx g1.cq hh1 rfl rfl n1 n2 λx H2 g2=>?_
 have gg:=g1.trans g2
 refine ak ?_
 dsimp only
 refine⟨_,rfl,rfl,_,rfl,?_⟩
 refine cJ (λc=>?_) (λnk=>?_)
 ·have e:wd="keep":=by have:=VX c; injection this
  subst e
  refine⟨_,rfl,_,rfl,_,rfl,p,x,rfl,gg.cq,λv d xs H3 g3 hd=>⟨fM,λt ht=>?_⟩⟩
  have st:=aj ht (.tup [.str "keep",.int n,.ref v])
  exact q t (.keep n d) _ ((gg.trans g3).new ht) ⟨v,xs,ag,st _ _ hd⟩ ⟨trivial,trivial,trivial,λc hc=>by rw [VD.mp hc]; exact n1⟩ rfl
 refine⟨_,rfl,_,rfl,_,rfl,_,rfl,_,rfl,cN,λR hR=>?_⟩
 have k1:=gg.new (o:=.lst [.str "n",.str "w"]) hR
 refine⟨_,rfl,p,_,rfl,k1.cq,by decide,by decide,λd H3 g3 a3 b3=>?_⟩
 have hk:=g3.keep R _ (gg.ne hR) ag
 have EU:∃y:Str,jj [V.str "n",V.str "w"] d=some (.str y):=by
  have hd:d=0\/d=1:=by omega
  rcases hd with z | z <;> rw [z]
  ·exact⟨_,rfl⟩
  ·exact⟨_,rfl⟩
 obtain⟨y,hy⟩:=EU
 refine⟨R,_,_,_,rfl,rfl,a_.of hk,hy,cN,λR2 zX=>?_⟩
 have k2:=(k1.trans g3).new (o:=.lst [.str x,.str y]) zX
 refine⟨_,rfl,rfl,.inr ⟨_,rfl,?_⟩⟩
 have EZ:∃z:Str,jj [V.str x,V.str y] (if decide (V.str wd=V.str "must")=true then 1 else 0)=some (.str z):=by
  cases decide (V.str wd=V.str "must")
  ·exact⟨_,rfl⟩
  ·exact⟨_,rfl⟩
 obtain⟨z,hz⟩:=EZ
 refine⟨R2,_,_,_,rfl,rfl,a_.of ag,hz,?_⟩
 refine⟨p,x,z,rfl,k2.cq,λt2 bs ps H4 g4 hI hne hz8 hcl=>⟨fM,λt ht=>?_⟩⟩
 have st:=aj ht (.tup [.str wd,.int n,.ref t2])
 have hI':bF kL (upd H4 t (.tup [.str wd,.int n,.ref t2])) t2 bs ps:=hI.keep (aE.of st) λ_ _ e=>st _ _ e
 have hpos:∀c∈[n],1<=c:=λc hc=>by rw [VD.mp hc]; exact n1
 rcases Ir with e | e | e | e | e
 ·exact VY (by rw [e]; rfl) nk
 ·exact VY (by rw [e]; rfl) ns
 ·exact VY (by rw [e]; rfl) nc
 ·subst e
  exact q t (.turn n ps) _ ((k2.trans g4).new ht) ⟨t2,bs,ag,hI'⟩ ⟨by show ps.length<=1000; omega,hcl,⟨hne,by omega⟩,hpos⟩ rfl
 ·subst e
  exact q t (.must n ps) _ ((k2.trans g4).new ht) ⟨t2,bs,ag,hI'⟩ ⟨by show ps.length<=1000; omega,hcl,⟨hne,by omega⟩,hpos⟩ rfl
theorem DB(F:FA K mg "_law_other" yy)(GC:bf bc P w K mg base 4 "_law_column" ["_law_pot_here","_law_head"] (iz K))(GT:bf bc P w K mg base 4 "_law_state" ["_law_pot_here"] tj)(GM:bf bc P w K mg base 4 "_law_moves" ["_law_pot_here","_law_sort"] zK)(GO:bf bc P w K mg base 4 "_law_order" ["_law_pot_here","_law_head"] (zp K))(N7:bf bc P w K mg base 4 "_law_columns" ["_law_pot_here","_law_head","_law_many_here"] (mh K))(GD:bf bc P w K mg base 4 "_law_draw" ["_law_pot_here","_law_many_here"] dB) :
  bf bc P w K mg base 5 "_law_other" ["_law_pot_here","_law_head","_law_word_here"] (nU K Ea):=by
 refine F.ok zP λf cdv A outer s H vs Q E hr h=>?_
 obtain⟨p,a,hs,wd,rfl,hP,hh,Ir,q⟩:=h
 refine⟨_,aq (du (aU aP (pv 2) ao) (aq (aL (i:=3) zP.nd rfl (V2 rfl) (av GC hr (ae (pv 0) (ae (pv 1) ah))))
   (ax (aJ (ae ao (ae (pv 3) (ae (av GT hr (ae (pv 0) ah)) (ae (av GM hr (ae (pv 0) (ae (az K (aD sM (pv 1) (aD zu (aJ (ae ao ah)) ai)) (aD bO (pv 3) ai)) ah))) ah))))))) b9)
  (aN (aU aP (pv 2) ao) (aJ (ae ao (ae (av GO hr (ae (pv 0) (ae (pv 1) ah))) ah)))
  (aN (aU aP (pv 2) ao) (aJ (ae ao (ae (av N7 hr (ae (pv 0) (ae (pv 1) (ae (av GD hr (ae (pv 0) (ae ai ah))) ah)))) ah)))
  (aN (aU aP (pv 2) ao) (aJ (ae ao (ae (av N7 hr (ae (pv 0) (ae (pv 1) (ae (av GD hr (ae (pv 0) (ae ai ah))) ah)))) (ae (av GC hr (ae (pv 0) (ae (pv 1) ah))) ah))))
  (aN (aU aP (pv 2) ao) (aJ (ae ao (ae (bo K (aQ (ae (av GD hr (ae (pv 0) (ae ai ah))) (ae (av GD hr (ae (pv 0) (ae ai ah))) ah))) (av GD hr (ae (pv 0) (ae ai ah)))) ah)))
  (ax (aJ (ae (pv 2) ah))))))),?_⟩
 refine⟨_,rfl,rfl,_,rfl,?_⟩
 refine cJ (λc=>?_) (λn1=>?_)
 ·have e:wd="walk":=by have:=VX c; injection this
  subst e
  refine⟨_,rfl,_,rfl,p,a,hs,rfl,hP,hh,λn H1 g1 n1 n2=>?_⟩
  refine ak ?_
  dsimp only
  refine⟨_,rfl,_,rfl,p,rfl,g1.cq,λst H2 g2=>?_⟩
  have gg:=g1.trans g2
  refine⟨_,rfl,zx gg.cq (hh.grow hP gg) rfl rfl n1 n2 λx H3 g3=>?_⟩
  have g5:=gg.trans g3
  refine⟨p,x,rfl,g5.cq,λt2 bs mv H4 g4 hI Tu hcl=>⟨LX,λt ht=>?_⟩⟩
  have sn:=aj ht (.tup [.str "walk",.int n,.str st,.ref t2])
  exact q t (.walk n mv) _ ((g5.trans g4).new ht) ⟨st,t2,bs,ag,hI.keep (aE.of sn) λ_ _ e=>e.keep (aE.of sn)⟩ ⟨by show mv.length<=1000; omega,hcl,by show mv.length<=50; omega,λc hc=>by rw [VD.mp hc]; exact n1⟩ rfl
 refine⟨_,rfl,rfl,_,rfl,?_⟩
 refine cJ (λc=>?_) (λn2=>?_)
 ·have e:wd="sort":=by have:=VX c; injection this
  subst e
  refine⟨_,rfl,_,rfl,p,a,hs,rfl,hh,hP,λt2 bs cs H4 g4 hI OP hcp=>⟨cN,λt ht=>?_⟩⟩
  have sn:=aj ht (.tup [.str "sort",.ref t2])
  exact q t (.sort cs) _ (g4.new ht) ⟨t2,bs,ag,hI.keep (aE.of sn) λ_ _ e=>e.keep (aE.of sn)⟩ ⟨by show cs.length<=1000; omega,trivial,trivial,hcp⟩ rfl
 refine⟨_,rfl,rfl,_,rfl,?_⟩
 refine cJ (λc=>?_) (λn3=>?_)
 ·have e:wd="count":=by have:=VX c; injection this
  subst e
  refine⟨_,rfl,_,rfl,_,rfl,p,_,rfl,hP,by decide,by decide,λd H1 g1 a1 b1=>?_⟩
  refine⟨p,a,hs,_,rfl,g1.cq,hh.grow hP g1,by omega,by omega,λt2 ns H2 g2 h2 hn hp=>⟨cN,λt ht=>?_⟩⟩
  exact q t (.count ns) _ ((g1.trans g2).new ht) ⟨t2,ag,aj ht _ _ _ h2⟩ ⟨by show ns.length<=1000; omega,trivial,trivial,hp⟩ rfl
 refine⟨_,rfl,rfl,_,rfl,?_⟩
 refine cJ (λc=>?_) (λn4=>?_)
 ·have e:wd="sum":=by have:=VX c; injection this
  subst e
  refine⟨_,rfl,_,rfl,_,rfl,p,_,rfl,hP,by decide,by decide,λd H1 g1 a1 b1=>?_⟩
  refine⟨p,a,hs,_,rfl,g1.cq,hh.grow hP g1,by omega,by omega,λt2 ns H2 g2 h2 hn hp=>?_⟩
  have gg:=g1.trans g2
  refine⟨_,rfl,_,rfl,p,a,hs,rfl,gg.cq,hh.grow hP gg,λn H3 g3 n1 n2=>⟨fM,λt ht=>?_⟩⟩
  have h3:=iw gg.cq g3 h2
  exact q t (.sum ns n) _ ((gg.trans g3).new ht) ⟨t2,ag,aj ht _ _ _ h3⟩ ⟨by show ns.length<=1000; omega,trivial,trivial,λc hc=>by rcases VH.mp hc with z | z; exact hp c z; rw [VD.mp z]; exact n1⟩ rfl
 refine⟨_,rfl,rfl,_,rfl,?_⟩
 refine cJ (λc=>?_) (λn5=>?_)
 ·have e:wd="first":=by have:=VX c; injection this
  subst e
  refine⟨_,rfl,p,_,rfl,hP,by decide,by decide,λd H1 g1 a1 b1=>?_⟩
  refine⟨_,rfl,p,_,rfl,g1.cq,by decide,by decide,λd2 H2 g2 a2 b2=>⟨cN,λR hR=>?_⟩⟩
  have gg:=(g1.trans g2).new (o:=.lst [.int d,.int d2]) hR
  refine⟨_,rfl,p,_,rfl,gg.cq,by decide,by decide,λd3 H3 g3 a3 b3=>?_⟩
  have hk:=g3.keep R _ ((g1.trans g2).ne hR) ag
  have EU:∃y:Int,jj [V.int d,V.int d2] d3=some (.int y):=by
   have hd:d3=0\/d3=1:=by omega
   rcases hd with z | z <;> rw [z]
   ·exact⟨_,rfl⟩
   ·exact⟨_,rfl⟩
  obtain⟨y,hy⟩:=EU
  refine⟨R,_,_,_,rfl,rfl,a_.of hk,hy,cN,λt ht=>?_⟩
  exact q t (.first y) _ ((gg.trans g3).new ht) ag ⟨trivial,trivial,trivial,λc hc=>by cases hc⟩ rfl
 refine⟨_,rfl,dH,λt ht=>?_⟩
 have g9:=(bp.refl hP).new (o:=.tup [.str wd]) ht
 rcases Ir with e | e | e | e | e | e | e
 ·exact VY (by rw [e]; rfl) n1
 ·exact VY (by rw [e]; rfl) n2
 ·subst e
  exact q t .apart _ g9 ag ⟨trivial,trivial,trivial,λc hc=>by cases hc⟩ rfl
 ·exact VY (by rw [e]; rfl) n3
 ·exact VY (by rw [e]; rfl) n4
 ·subst e
  exact q t .number _ g9 ag ⟨trivial,trivial,trivial,λc hc=>by cases hc⟩ rfl
 ·exact VY (by rw [e]; rfl) n5
end My
namespace L2
open PySem
def LO(K:Wg):List V->Hp->VK->Prop:=λxs H Q=>∃p ys,xs=[.ref p]/\(a_ K H p ys\/aH K H p ys)/\Q (.int ys.length) H
variable{X:Cx}
theorem A6:gu X (.builtin "len") (LO X.K):=bA
end L2
namespace L2
open PySem PySem.Spec PyProof.Rows
variable{X:Cx}
def Nj(K:Wg)(n:String):List V->Hp->VK->Prop:=λxs H Q=>∃x t b,xs=[x,.ty n]/\mJ K H x t/\PySem.W.kitOne K t (.type n)=some b/\Q (.bl b) H
theorem vS{n:String}:gu X (.builtin "isinstance") (Nj X.K n):=by
 intro pins s σ H xs us Q I r h
 obtain⟨x,t,b,rfl,ty,e,q⟩:=h
 obtain⟨u,w',rfl,r1,r2⟩:=vals2 r
 cases(show w'=Value.type n from r2)
 exact A5 I r1 ty e λtk=>⟨.bl b,H,I.tok _,rfl,q⟩
def O4(K:Wg)(ta tb:TE):TE:=λσ H Q=>ta σ H λx H1=>∃k,MX K x H1 k/\if k=true then Q x H1 else tb σ H1 Q
theorem KP{a b:Expr}{ta tb:TE}{pos:Pos}(ha:PE X a ta)(hb:PE X b tb):PE X (.BoolOp .Or [a,b] pos) (O4 X.K ta tb):=by
 intro pins s σ H Q I h
 refine BoolOp_or (cn (ha pins s σ H _ I h) λv s1 ⟨x,H1,I1,r1,k,hk,q1⟩=>?_)
 refine cn (JA pins s1 σ H1 x v (λb H2=>b=k/\H2=H1) I1 r1 ⟨k,hk,rfl,rfl⟩) λb s2 ⟨H2,I2,e1,e2⟩=>?_
 subst e1 e2
 cases b with
 | false=>exact dc hb pins s2 σ _ Q I2 q1
 | true=>exact⟨x,_,I2,r1,q1⟩
end L2
namespace L2
open PySem
def Ik:R2:=λx y H Q=>∃a b xs ys,x=.ref a/\y=.ref b/\H a=some (.tup xs)/\H b=some (.tup ys)/\xs.length+ys.length<=sizeLine/\∀t H',aM H H'->H' t=some (.tup (xs++ys))->Q (.ref t) H'
theorem bZ{X:Cx}:je X (binaryOp .Add) Ik:=by
 intro pins s σ H x y v u Q I rx ry h
 obtain⟨a,b,xs,ys,rfl,rfl,ha,hb,hz,q⟩:=h
 by_cases hx:xs=[]
 ·subst hx
  exact DY pins s σ H _ _ v u Q I rx ry ⟨a,b,ys,rfl,rfl,aH.of ha,aH.of hb,q b H (aM.refl _) hb⟩
 ·exact sM pins s σ H _ _ v u Q I rx ry ⟨a,b,xs,ys,rfl,rfl,aH.of ha,aH.of hb,hx,hz,λz=>q a H (aM.refl _) (by rw [z,V8]; exact ha),λ_ p hp=>q p _ (λb' u' e=>by rw [aI (aV e hp)]; exact e) ag⟩
def Pk:V->Option Int->Option Int->Hp->VK->Prop:=λx lo hi H Q=>∃a xs,x=.ref a/\H a=some (.tup xs)/\∀t H',aM H H'->H' t=some (.tup (fz xs lo hi))->Q (.ref t) H'
theorem cz{X:Cx}:E7 X Pk:=by
 intro pins s σ H x v vl vu lo hi sl Q I rx hs pl pu h
 obtain⟨a,xs,rfl,hx,q⟩:=h
 exact(Ce.or HK) pins s σ H _ v vl vu lo hi sl Q I rx hs pl pu (Hz rfl (aH.of hx) (λz=>q a H (aM.refl _) (by rw [z]; exact hx)) λp hp=>q p _ (λb' u' e=>by rw [aI (aV e hp)]; exact e) ag)
theorem oq{xs:List V}{n:Nat}(h:n<=xs.length):fz xs none (some (n:Int))=xs.take n:=by
 unfold fz
 rw [HT.zU,HT.lQ]
 simp [Nat.min_eq_left h]
theorem vt{xs:List V}{n:Nat}(h:n<=xs.length):fz xs (some (n:Int)) none=xs.drop n:=by
 unfold fz
 rw [HT.zU,HT.lQ,Nat.min_eq_left h]
 exact List.take_of_length_le (by rw [List.length_drop]; exact Vn _)
structure EO(X:Cx)(e:Expr)(t:TE):Prop where
 h:PE X e t
structure AO(X:Cx)(es:List Expr)(t:TA):Prop where
 h:PA X es t
structure SO(X:Cx)(sts:List Stmt)(t:TS):Prop where
 h:qj X sts t
section
variable{X:Cx}{a b e:Expr}{es:List Expr}{ta tb te:TE}{t:TA}{pos pos':Pos}
theorem l7:AO X [] fJ:=⟨ah⟩
theorem cD(ha:EO X e te)(hr:AO X es t)(hs:starEach (e::es) X.env=(false,eval e X.env)::starEach es X.env:=by rfl):AO X (e::es) (bq te t):=⟨ae ha.h hr.h hs⟩
theorem Kv(h:AO X es t):EO X (.List es pos) (yo t):=⟨aQ h.h⟩
theorem pe{x1}(h:AO X es t):EO X (.Tuple es x1 pos) (ER t):=⟨aJ h.h⟩
theorem DM{i:Nat}{x:Str}{rest:List Stmt}{u:TS}(hN:X.N.Nodup)(hi:X.N[i]? = some x)(hx:Loc X.env.scope x)(he:EO X e te)(h2:SO X rest u)(hs:swapsWith e (some (.Name x pos')) pos.line X.env=pure false:=by rfl)(hf:X.fn x=true\/X.env.scope.names.lookup x=some .local:=by first | exact .inl rfl | exact .inr rfl | assumption) :
  SO X (.Assign [.Name x pos'] e pos::rest) (xB (B0 te (bE i)) u):=⟨aq (aL hN hi hx he.h hs hf) h2.h⟩
end
theorem HY{X:Cx}{sts:List Stmt}{t:TS}{R:TS->Prop}(h:SO X sts t)(r:R t):∃t,qj X sts t/\R t:=⟨t,h.h,r⟩
end L2
namespace L2
open PySem PySem.Spec PyProof.Rows
def dM(K:Wg)(d:Addr)(key:Str)(f:Addr):Prop :=
 ∃(es:Array DictEntry) (ep:Nat) (i:Nat) (x:Int) (t:Tok),K.lookup d=some ⟨.type "dict",none,.dict es ep,#[]⟩/\es.all (λe=>isExactStrKey e.key)=true/\es.findIdx? (λe=>e.key.isStr key)=some i/\es[i]? = some ⟨x,.str key t,.ref f⟩
def FT(K:Wg):R2:=λx y H Q=>∃d k f,x=.ref d/\y=.str k/\dM K d k f/\Q (.ref f) H
section
variable{X:Cx}
theorem oK:MG X (FT X.K):=by
 intro value slice pins s σ H x y v u Q I rx ry h hs
 obtain⟨d,k,f,rfl,rfl,⟨es,ep,i,hx,te,lk,ha,hi,he⟩,q⟩:=h
 cases rx
 obtain⟨t,rfl⟩:=ry
 have ho:s.heap.get? d=some ⟨.type "dict",none,.dict es ep,#[]⟩:=I.jZ _ _ lk
 have hT:s.TypeIs (.ref d) "dict":=⟨_,ho,rfl⟩
 have fin:EP X pins σ Q (.ref f) {s with toks:=s.toks+1}:=⟨.ref f,H,I.kept (h':=s.heap) (t':=s.toks+1) λ_ _ e=>e,rfl,q⟩
 refine subscriptTail_builtinR (x:=.ref f) hT slot_dict_getitem.lookup ?_ hs
 unfold getItem
 try with_reducible refine VS ?_
 refine Vi (wpAny_sequenceKey hT (by decide) ?_)
 refine Vi (wpAny_callSpecial?_slot (name:=Str.ofString "__getitem__") hT slot_dict_getitem
  (V9 slot_dict_getitem hT entry_dict_getitem ?_ (args_dict_getitem _ _)))
 show wpAny _ _ (dictGet d (.str k t) >>= _) _ _ s
 refine Vi ?_
 unfold dictGet
 try with_reducible refine VS ?_
 refine Vi (wpAny_pyHash_str ?_)
 unfold dictFind
 refine Vi ?_
 try with_reducible refine VS ?_
 refine Vi (wpAny_dictEntries (s:={s with toks:=s.toks+1}) ho rfl ?_)
 dsimp only
 rw [V0 ha]
 unfold foundByValue
 rw [hi]
 dsimp only
 rw [he]
 dsimp only
 refine Vi (wpAny_dictEpoch (s:={s with toks:=s.toks+1}) ho rfl ?_)
 refine Vi (wpAny_eqBool_str ?_)
 refine Vi (wpAny_dictEpoch (s:={s with toks:=s.toks+1}) ho rfl ?_)
 rw [VZ (by simp),Vq rfl]
 refine Vi (wpAny_rule (Vj ?_))
 refine Vi (wpAny_dictEntries (s:={s with toks:=s.toks+1}) ho rfl (Vj ?_))
 rw [he]
 refine Vj ⟨.ref f,rfl,Vj ⟨rfl,fin⟩⟩
def Kj(X:Cx)(CX:rC)(k:Nat)(E:XK)(te:TE)(t:TA):TE:=λσ H Q=>te σ H λv H1=>∃f fd ps sp,v=.ref f/\e_ X.prog X.w X.K X.mg X.base CX k f fd ps sp/\PySem.W.keepIn X.K (.ref f)=true/\Binds X.K fd ps []/\t σ H1 λvs H2=>sp vs H2 Q E
variable{CX:rC}{k:Nat}{E:XK}{x:Str}{p pos:Pos}{e:Expr}{es:List Expr}{te:TE}{t:TA}
theorem oG(hn:PE X (.Name x p) te)(hr:eV k X.A)(hx:Passes CX X E)(ha:PA X (e::es) t)
  (he:starEach (e::es) X.env=(false,eval e X.env)::starEach es X.env:=by rfl) (hpl:(backTo pos (starEach es X.env)).any (·.1)=false:=by rfl) :
  PE X (.Call (.Name x p) (e::es) [] pos) (Kj X CX k E te t):=by
 intro pins s σ H Q I h
 refine wpAny_Call_Name_kw (cn (hn pins s σ H _ I h) λu s1 ⟨v,H1,I1,rv,f,fd,ps,sp,ev,F,hk,hb,q⟩=>?_)
 subst ev
 cases rv
 refine PySem.W.callWith_K (h₀:=X.base) I1.ok.mod.Lq hk (cn (ha pos pins s1 σ H1 _ I1 q) λus s2 ⟨vs,H2,I2,r,q2⟩=>⟨I2.jZ,?_⟩) he hpl
 exact BW F hr hb .nil hx I2 r (by rw [V8]; exact q2)
end
end L2
namespace My
open PySem L2
structure A2(mg:Str->Option Value):Prop where
 str:mg "str"=none
 any:mg "any"=none
 zip:mg "zip"=none
 enumerate:mg "enumerate"=none
theorem vX{K:Wg}{t:Value}(h:(t==t)=true):PySem.W.kitOne K t t=some true:=by
 unfold PySem.W.kitOne
 exact V0 h
def gj:Sp:=λvs H Q _=>∃v,vs=[v]/\dZ v/\Q (.str (sW v)) H
abbrev lZ:Stmt:=top 8
theorem yb:ay ["cell"] ["cell"] (ar lZ):=fs
variable{P:Program}{w:World}{K:Wg}{mg:Str->Option Value}{base:Heap}
theorem Ad(B:jH mg)(B3:A2 mg)(Ki:PySem.W.kitOne K (.type "int") (.type "str")=some false)(F:FA K mg "sort_of" lZ) :
  bf bc P w K mg base 1 "sort_of" ["cell"] gj:=by
 refine F.ok yb λf cdv A outer s H vs Q E hr h=>?_
 obtain⟨v,rfl,hv,q⟩:=h
 refine⟨_,(ax (gq (fH (bg (vS (n:="str")) rfl B.isinstance PyProof.Rows.boot_isinstance (ae (pv 0) (ae (DV (n:="str") rfl B3.str (by decide +kernel)) ah)))) ao ao)),?_⟩
 rcases hv with⟨n,rfl⟩ | ⟨x,rfl⟩
 ·exact⟨_,rfl,_,_,false,rfl,.int n,Ki,_,rfl,bB q⟩
 ·exact⟨_,rfl,_,_,true,rfl,.str x,vX (by decide),_,rfl,cp q⟩
def eM(ok:W1->Prop):Sp:=λvs H Q _=>∃(a:Addr) (x:W1),vs=[.ref a]/\j9 H a x/\ok x/\oy x/\∀(u:Addr) (H':Hp),aM H H'->H' u=some (.tup ((dg x).map V.int))->Q (.ref u) H'
def Qj(x:W1):Prop:=x=.apart\/x=.number\/∃n,x=.first n
def yW:Sp:=λvs H Q _=>∃v,vs=[v]/\∀(u:Addr) (H':Hp),aM H H'->H' u=some (.tup [])->Q (.ref u) H'
abbrev iP:Stmt:=top 12
theorem qL:ay ["worker"] ["worker"] (ar iP):=fs
theorem Af(F:FA K mg "no_columns" iP) :
  bf bc P w K mg base 1 "no_columns" ["worker"] yW:=by
 refine F.ok qL λf cdv A outer s H vs Q E hr h=>?_
 have hu:=iD hr
 obtain⟨v,rfl,q⟩:=h
 refine⟨_,(ax (aJ ah)),?_⟩
 exact⟨VJ _,λu hu=>q u _ (aj hu _) ag⟩
theorem Cp:∀vs H Q E,eM Qj vs H Q E->yW vs H Q E:=by
 rintro vs H Q E ⟨a,x,rfl,_,ho,_,q⟩
 refine⟨_,rfl,λu H' s hu=>q u H' s ?_⟩
 rw [hu]
 rcases ho with rfl | rfl | ⟨n,rfl⟩ <;> rfl
def vW(x:W1):Prop:=∃c,(∃t,x=.keep c t)\/(∃ps,x=.turn c ps)\/(∃ps,x=.must c ps)\/∃mv,x=.walk c mv
theorem vW.at_{x:W1}{H:Hp}{a:Addr}(h:vW x)(ha:j9 H a x):∃c y ys,H a=some (.tup (y :: .int c::ys))/\dg x=[c]:=by
 obtain⟨c,⟨t,rfl⟩ | ⟨ps,rfl⟩ | ⟨ps,rfl⟩ | ⟨mv,rfl⟩⟩:=h
 ·obtain⟨s,xs,h1,h2⟩:=ha; exact⟨c,_,_,h1,rfl⟩
 ·obtain⟨t,bs,h1,h2⟩:=ha; exact⟨c,_,_,h1,rfl⟩
 ·obtain⟨t,bs,h1,h2⟩:=ha; exact⟨c,_,_,h1,rfl⟩
 ·obtain⟨s,t,bs,h1,h2⟩:=ha; exact⟨c,_,_,h1,rfl⟩
abbrev iL:Stmt:=top 13
theorem q_:ay ["worker"] ["worker"] (ar iL):=fs
theorem A9(F:FA K mg "one_column" iL) :
  bf bc P w K mg base 1 "one_column" ["worker"] (eM vW):=by
 refine F.ok q_ λf cdv A outer s H vs Q E hr h=>?_
 have hu:=iD hr
 obtain⟨a,x,rfl,ha,ho,hs,q⟩:=h
 refine⟨_,(ax (aJ (ae (az K (pv 0) ai) ah))),?_⟩
 obtain⟨c,y,ys,h1,hc⟩:=ho.at_ ha
 refine⟨_,rfl,a,_,1,_,rfl,rfl,aH.of h1,au (j:=1) rfl,dH,λu hu=>q u _ (aj hu _) ?_⟩
 rw [ag,hc]
 rfl
def IW(x:W1):Prop:=∃c d,x=.same c d
abbrev gY:Stmt:=top 14
theorem oR:ay ["worker"] ["worker"] (ar gY):=fs
theorem ym(F:FA K mg "two_columns" gY) :
  bf bc P w K mg base 1 "two_columns" ["worker"] (eM IW):=by
 refine F.ok oR λf cdv A outer s H vs Q E hr h=>?_
 obtain⟨a,x,rfl,ha,ho,hs,q⟩:=h
 refine⟨_,(ax (bN cz (pv 0) (bS ai) (bS ai))),?_⟩
 obtain⟨c,d,rfl⟩:=ho
 have h1:H a=some (.tup [.str "same",.int c,.int d]):=ha
 exact⟨_,rfl,_,rfl,_,rfl,a,_,rfl,h1,λt H' s' ht=>q t H' s' (by rw [ht]; rfl)⟩
def yn(x:W1):Prop:=∃cs,x=.cut cs\/x=.count cs
abbrev fo:Stmt:=top 15
theorem lU:ay ["worker"] ["worker"] (ar fo):=fs
theorem wK(F:FA K mg "listed_columns" fo) :
  bf bc P w K mg base 1 "listed_columns" ["worker"] (eM yn):=by
 refine F.ok lU λf cdv A outer s H vs Q E hr h=>?_
 obtain⟨a,x,rfl,ha,ho,hs,q⟩:=h
 refine⟨_,(ax (az K (pv 0) ai)),?_⟩
 obtain⟨cs,rfl | rfl⟩:=ho
 ·obtain⟨t,h1,h2⟩:=ha
  exact⟨_,rfl,a,_,1,_,rfl,rfl,aH.of h1,rfl,q t H (aM.refl _) h2⟩
 ·obtain⟨t,h1,h2⟩:=ha
  exact⟨_,rfl,a,_,1,_,rfl,rfl,aH.of h1,rfl,q t H (aM.refl _) h2⟩
def B7(x:W1):Prop:=∃cs,x=.sort cs
abbrev fV:Stmt:=top 16
theorem nq:ay ["worker"] ["worker"] (ar fV):=fs
theorem vo(B:jH mg)(F:FA K mg "sort_columns" fV) :
  bf bc P w K mg base 1 "sort_columns" ["worker"] (eM B7):=by
 refine F.ok nq λf cdv A outer s H vs Q E hr h=>?_
 have hu:=iD hr
 obtain⟨a,x,rfl,ha,ho,hs,q⟩:=h
 refine⟨_,(ax (aW bH rfl B.tuple V6 (ae (bx (N':=["column","greatest_first"]) (src:=[none,none]) rfl (aZ.jT (by kernel_rfl)) (cQ (az K (pv 0) ai)) (g:=(i8 K 2 (bR (bE 0) (bR (bE 1) i5)))) (λcl C s H fp=>(cG rfl (aA (eI (i:=0)) (aA (eI (i:=1)) bY)))) (λcl C s H fp=>aX) (te:=(bD 0)) (λcl C s H fp=>(jd 0))) ah))),?_⟩
 obtain⟨cs,rfl⟩:=ho
 obtain⟨t,bs,h1,hI⟩:=ha
 have hs:cs.length<=1000:=hs
 have hl:(bs.map V.ref).length=cs.length:=by rw [Vr,hI.len]
 refine⟨_,rfl,a,_,1,_,rfl,rfl,aH.of h1,rfl,t,rfl,⟨_,aH.of hI.tup⟩,λD hD=>?_⟩
 refine cI (xs:=bs.map V.ref) (λi σ ys H'=>(∃o1 o2,σ=[o1,o2])/\ys=(cs.take i).map V.int/\ys.length=i/\H' D=some (.lst ys)/\aM H H') ⟨⟨none,none,rfl⟩,rfl,rfl,ag,aj hD _⟩ ?_ ?_ ?_ ?_ ?_
 ·rintro i σ ys H' _ ⟨_,_,hi,h,_⟩
  exact⟨h,V_ hi⟩
 ·rintro i σ ys H' _ ⟨_,_,_,_,sm⟩
  exact aH.of (sm _ _ hI.tup)
 ·rw [hl]; exact Vo hs (by decide)
 ·rintro i x σ ys H' hx ⟨⟨o1,o2,rfl⟩,rfl,hi,h,sm⟩
  obtain⟨b,c,rfl,ec,bb,hb⟩:=hI.get hx
  refine⟨b,_,rfl,aH.of (sm _ _ hb),rfl,_,_,rfl,ak ⟨_,_,rfl,ak ⟨rfl,?_⟩⟩⟩
  refine⟨_,rfl,h,⟨_,_,rfl⟩,?_,?_,ag,bt hD sm⟩
  ·rw [List.take_add_one,ec,Vt]; rfl
  ·rw [Vs,hi]; rfl
 ·rintro σ ys H' ⟨_,rfl,_,h,sm⟩
  rw [hl,V3]at h
  exact⟨D,_,rfl,.inl ⟨a_.of h,λu hu=>q u _ (sm.trans (aj hu _)) ag⟩⟩
def IU(x:W1):Prop:=∃cs c,x=.sum cs c
abbrev ie:Stmt:=top 17
theorem pU:ay ["worker"] ["worker"] (ar ie):=fs
theorem yC(F:FA K mg "sum_columns" ie) :
  bf bc P w K mg base 1 "sum_columns" ["worker"] (eM IU):=by
 refine F.ok pU λf cdv A outer s H vs Q E hr h=>?_
 have hu:=iD hr
 obtain⟨a,x,rfl,ha,ho,hs,q⟩:=h
 refine⟨_,(ax (aD bZ (az K (pv 0) ai) (aJ (ae (az K (pv 0) ai) ah)))),?_⟩
 obtain⟨cs,c,rfl⟩:=ho
 obtain⟨t,h1,h2⟩:=ha
 have hs:cs.length<=1000:=hs
 refine⟨_,rfl,a,_,1,_,rfl,rfl,aH.of h1,rfl,_,rfl,a,_,2,_,rfl,rfl,aH.of h1,rfl,dH,λu hu=>?_⟩
 have su:=aj hu (.tup [.int c])
 refine⟨t,u,_,_,rfl,rfl,su _ _ h2,ag,?_,λt' H' s' ht'=>q t' H' (su.trans s') ?_⟩
 ·rw [Vr]
  exact Vo (show cs.length+1<=1001 by omega) (by decide)
 ·rw [ht']
  show _=some (HO.tup ((cs++[c]).map V.int))
  rw [Vt]
  rfl
def there(c:Int)(h:Hd):Bool:=decide (1<=c)&&decide (c<=(h.length:Nat))
def ub:Sp:=λvs H Q _=>∃(c:Int) (a:Addr) (h:Hd),vs=[.int c,.ref a]/\dF H a h/\Q (.bl (there c h)) H
abbrev k_:Stmt:=top 19
theorem wI:ay ["column","head"] ["column","head"] (ar k_):=fs
theorem B_(B:jH mg)(F:FA K mg "is_there" k_) :
  bf bc P w K mg base 1 "is_there" ["column","head"] ub:=by
 refine F.ok wI λf cdv A outer s H vs Q E hr h=>?_
 obtain⟨c,a,h,rfl,ha,q⟩:=h
 refine⟨_,(ax (CY Eb Eb ai (pv 0) (bg bA rfl B.len We (ae (pv 1) ah)))),?_⟩
 refine⟨_,rfl,_,_,rfl,rfl,_,rfl,?_⟩
 unfold there at q
 refine cJ (λk=>?_) (λk=>?_)
 ·rw [k]at q
  refine⟨_,rfl,a,_,rfl,.inr (aH.of ha),_,_,rfl,rfl,?_⟩
  rw [Vr]
  rw [Bool.true_and]at q
  exact q
 ·rw [VG.mpr k]at q
  exact q
def cV:Wk->List Hd->Bool
 | .one x,hs=>(dg x).all λc=>there c (hs.headD [])
 | .both ..,_=>true
 | .meet c d _ _,hs=>there c (hs.headD [])&&there d (hs.getD 1 [])
def BS:Wk->Nat
 | .one _=>1
 | _=>2
def kJ:Wk->Prop
 | .one x=>oy x
 | _=>True
def dG(n:Nat)(F:Wk->List Hd->Bool)(ok:Wk->List Hd->Prop):Sp:=λvs H Q _=>∃(a l:Addr) (x:Wk) (as:List Addr) (hs:List Hd),vs=[.ref a,.ref l]/\cX n H a x/\gz H l as hs/\hs.length=BS x/\kJ x/\ok x hs/\∀H',aM H H'->Q (.bl (F x hs)) H'
def HS(P:Program)(w:World)(K:Wg)(mg:Str->Option Value)(base:Heap)(aR:Addr)(L:Nat)(x:W1):Prop :=
 ∃(f:Addr) (fd:FuncData),dM K aR x.nm f/\e_ P w K mg base bc L f fd ["worker"] (eM λy=>y=x)/\PySem.W.keepIn K (.ref f)=true/\Binds K fd ["worker"] []
theorem cH{ok ok':W1->Prop}(h:∀x,ok' x->ok x):∀vs H Q E,eM ok' vs H Q E->eM ok vs H Q E:=by
 rintro vs H Q E ⟨a,x,h1,h2,h3,h4⟩
 exact⟨a,x,h1,h2,h x h3,h4⟩
theorem Bv{aR:Addr}{f1 f2 f3 f4 f5 f6:Addr}
  (tk:dM K aR "keep" f2) (ts:dM K aR "same" f3) (tc:dM K aR "cut" f4) (tt:dM K aR "turn" f2) (tm:dM K aR "must" f2) (tw:dM K aR "walk" f2) (to:dM K aR "sort" f5) (ta:dM K aR "apart" f1) (tn:dM K aR "count" f4) (tu:dM K aR "sum" f6) (tb:dM K aR "number" f1) (tf:dM K aR "first" f1)
  (G0:FnAt P w K mg base 1 f1 ["worker"] yW) (G2:FnAt P w K mg base 1 f2 ["worker"] (eM vW)) (G3:FnAt P w K mg base 1 f3 ["worker"] (eM IW)) (G4:FnAt P w K mg base 1 f4 ["worker"] (eM yn)) (G5:FnAt P w K mg base 1 f5 ["worker"] (eM B7)) (G6:FnAt P w K mg base 1 f6 ["worker"] (eM IU)):∀x,HS P w K mg base aR 1 x:=by
 obtain⟨d1,G0,b1,k1⟩:=G0
 obtain⟨d2,G2,b2,k2⟩:=G2
 obtain⟨d3,G3,b3,k3⟩:=G3
 obtain⟨d4,G4,b4,k4⟩:=G4
 obtain⟨d5,G5,b5,k5⟩:=G5
 obtain⟨d6,G6,b6,k6⟩:=G6
 have G1:=G0.imp Cp
 intro x
 cases x with
 | keep c t=>exact⟨f2,d2,tk,G2.imp (cH λ_ e=>⟨c,.inl ⟨t,e⟩⟩),k2,b2⟩
 | same c d=>exact⟨f3,d3,ts,G3.imp (cH λ_ e=>⟨c,d,e⟩),k3,b3⟩
 | cut cs=>exact⟨f4,d4,tc,G4.imp (cH λ_ e=>⟨cs,.inl e⟩),k4,b4⟩
 | turn c ps=>exact⟨f2,d2,tt,G2.imp (cH λ_ e=>⟨c,.inr (.inl ⟨ps,e⟩)⟩),k2,b2⟩
 | must c ps=>exact⟨f2,d2,tm,G2.imp (cH λ_ e=>⟨c,.inr (.inr (.inl ⟨ps,e⟩))⟩),k2,b2⟩
 | walk c mv=>exact⟨f2,d2,tw,G2.imp (cH λ_ e=>⟨c,.inr (.inr (.inr ⟨mv,e⟩))⟩),k2,b2⟩
 | sort cs=>exact⟨f5,d5,to,G5.imp (cH λ_ e=>⟨cs,e⟩),k5,b5⟩
 | apart=>exact⟨f1,d1,ta,G1.imp (cH λ_ e=>.inl e),k1,b1⟩
 | count cs=>exact⟨f4,d4,tn,G4.imp (cH λ_ e=>⟨cs,.inr e⟩),k4,b4⟩
 | sum cs c=>exact⟨f6,d6,tu,G6.imp (cH λ_ e=>⟨cs,c,e⟩),k6,b6⟩
 | number=>exact⟨f1,d1,tb,G1.imp (cH λ_ e=>.inr (.inl e)),k1,b1⟩
 | first n=>exact⟨f1,d1,tf,G1.imp (cH λ_ e=>.inr (.inr ⟨n,e⟩)),k1,b1⟩
theorem dv{x:W1}{hs:List Hd}(h:hs.length=BS (.one x)):∃hd,hs=[hd]:=by
 cases hs with
 | nil=>cases h
 | cons hd r =>
  cases r with
  | nil=>exact⟨hd,rfl⟩
  | cons _ _=>cases h
theorem dR{hs:List Hd}(h:hs.length=2):∃h1 h2,hs=[h1,h2]:=by
 match hs,h with
 | [h1,h2],_=>exact⟨h1,h2,rfl⟩
theorem Bj{x:W1}(h:oy x):(dg x).length<=1001:=by
 cases x <;> simp only [dg,Vs,VV,List.length_nil] <;> first | omega | (simp only [oy]at h; omega)
theorem Nk{x:W1}:x.nm≠"meet"/\x.nm≠"both":=by cases x <;> (simp only [W1.nm]; decide +kernel)
def gJ:Wk->List Int
 | .one x=>dg x
 | _=>[]
def y8(n:Nat)(x:Wk):Sp:=λvs H Q _=>∃(a:Addr),vs=[.ref a]/\cX n H a x/\kJ x/\∀(u:Addr) (H':Hp),aM H H'->H' u=some (.tup ((gJ x).map V.int))->Q (.ref u) H'
def CH(P:Program)(w:World)(K:Wg)(mg:Str->Option Value)(base:Heap)(aR:Addr)(n:Nat)(x:Wk):Prop :=
 ∃(f:Addr) (fd:FuncData),dM K aR x.nm f/\e_ P w K mg base bc 1 f fd ["worker"] (y8 n x)/\PySem.W.keepIn K (.ref f)=true/\Binds K fd ["worker"] []
theorem cb{n:Nat}{H:Hp}{a:Addr}{x:W1}:cX n H a (.one x)↔j9 H a x:=by cases n <;> exact Iff.rfl
theorem KC{P:Program}{w:World}{K:Wg}{mg:Str->Option Value}{base:Heap}{aR f:Addr}{n:Nat}(h:∀x,HS P w K mg base aR 1 x)(tb:dM K aR "both" f)(G:FnAt P w K mg base 1 f ["worker"] yW) :
  ∀x:Wk,x.nm≠"meet"->CH P w K mg base aR n x:=by
 obtain⟨fd,G,b,k⟩:=G
 intro x hx
 cases x with
 | one x =>
  obtain⟨g,gd,h1,h2,h3⟩:=h x
  refine⟨g,gd,h1,h2.imp ?_,h3⟩
  rintro vs H Q E ⟨a,rfl,ha,hs,q⟩
  exact⟨a,x,rfl,cb.mp ha,rfl,hs,q⟩
 | both p q =>
  refine⟨f,fd,tb,G.imp ?_,k,b⟩
  rintro vs H Q E ⟨a,rfl,ha,hs,q⟩
  exact⟨_,rfl,q⟩
 | meet c d p q=>exact VY rfl hx
theorem r8{x:Wk}(h:kJ x):(gJ x).length<=1001:=by
 cases x with
 | one x=>exact Bj h
 | both p q=>exact VJ _
 | meet c d p q=>exact VJ _
abbrev gP:Stmt:=top 20
theorem jG:ay ["worker","heads","columns_of"] ["worker","heads"] (ar gP):=fs
theorem A0{n:Nat}{aC:Addr}(B:jH mg)(B2:iW mg)(mC:mg "COLUMNS_OF"=some (.ref aC))(GC:∀x:Wk,x.nm≠"meet"->CH P w K mg base aC n x)(F:FA K mg "columns_fit" gP)
  (kQ:bf bc P w K mg base 1 "is_there" ["column","head"] ub) :
  bf bc P w K mg base 2 "columns_fit" ["worker","heads"] (dG n cV (λ_ _=>True)):=by
 refine F.ok jG λf cdv A outer s H vs Q E hr h=>?_
 have hu:=iD hr
 have hu1:=jb hr
 obtain⟨a,l,x,as,hs,rfl,ha,hL,hn,hsm,U6,q⟩:=h
 refine⟨_,(aN (aU aP (az K (pv 0) ai) ao) (pY (av kQ hr (ae (az K (pv 0) ai) (ae (bo K (pv 1) ai) ah))) (dc (av kQ hr (ae (az K (pv 0) ai) (ae (bo K (pv 1) ai) ah)))))
   (aq (aL (i:=2) jG.nd rfl (V2 rfl) (gn (r:=FT K) oK (dh rfl mC (show RelV (.ref aC) (.ref aC) from rfl)) (az K (pv 0) ai) (λ_ _=>rfl)))
   (ax (bg (iC rfl) rfl B2.all PyProof.Rows.boot_all (ae (bx (N':=["column","heads"]) (src:=[none,some 1]) rfl (aZ.jT (by kernel_rfl)) (cQ (oG (k:=1) (pv 2) hr v7 (ae (pv 0) ah))) (λcl C s H fp=>(eI (i:=0))) (λcl C s H fp=>aX) (te:=(ja ub [] E0 (bq (bD 0) (bq (h_ (yt K) (bD 1) (tC (.int 0))) fJ)))) (λcl C s H fp=>(av (hg:=yH) kQ hr (ae (jd 0) (ae (bo K (zw 1) ai) ah))))) ah))))),?_⟩
 obtain⟨xs,h1⟩:=ha.first
 refine⟨_,rfl,a,_,0,_,rfl,rfl,aH.of h1,au (j:=0) rfl,rfl,_,rfl,cJ (λk=>?_) (λk=>aG ?_)⟩
 ·have k:V.str x.nm=V.str "meet":=VX k
  injection k with k
  cases x with
  | one x=>exact VY k Nk.1
  | both p q=>exact VY k (by show("both" : Str)≠"meet"; decide +kernel)
  | meet c d p q' =>
  obtain⟨h0,h2,rfl⟩:=dR hn
  obtain⟨a0,e0,gB⟩:=hL.nth (i:=0) rfl
  obtain⟨a1,e1,vf⟩:=hL.nth (i:=1) rfl
  cases n with
  | zero=>exact V4 ha
  | succ n =>
  obtain⟨b,e,bs,es,h1,_⟩:=ha
  refine⟨_,rfl,a,_,1,_,rfl,rfl,aH.of h1,rfl,_,rfl,l,_,0,_,rfl,rfl,a_.of hL.lst,au (j:=0) e0,c,a0,h0,rfl,gB,_,rfl,?_⟩
  have q:=q H (aM.refl _)
  have q:Q (.bl (there c h0&&there d h2)) H:=q
  refine cJ (λk=>?_) (λk=>?_)
  ·rw [k,Bool.true_and]at q
   exact⟨_,rfl,a,_,2,_,rfl,rfl,aH.of h1,rfl,_,rfl,l,_,1,_,rfl,rfl,a_.of hL.lst,au (j:=1) e1,d,a1,h2,rfl,vf,q⟩
  ·rw [VG.mpr k]at q
   exact q
 ·have hx:x.nm≠"meet":=λe=>k (Vq (by rw [e]))
  obtain⟨g,gd,Kz,FG,kG,bG⟩:=GC x hx
  refine⟨_,rfl,a,_,0,_,rfl,rfl,aH.of h1,au (j:=0) rfl,aC,x.nm,g,rfl,rfl,Kz,ak ?_⟩
  dsimp only
  refine⟨_,rfl,g,gd,_,y8 n x,rfl,FG,kG,bG,_,rfl,a,rfl,ha,hsm,λu H1 s1 hu1=>⟨u,rfl,⟨_,aH.of hu1⟩,λD hD=>?_⟩⟩
  have hh:∃h0,hs[0]? = some h0/\hs.headD []=h0:=by
   cases hs with
   | nil=>cases x <;> cases hn
   | cons h0 r=>exact⟨h0,rfl,rfl⟩
  obtain⟨h0,US,eh⟩:=hh
  obtain⟨a0,e0,gB⟩:=hL.nth US
  refine cI (xs:=(gJ x).map V.int) (λi σ ys H'=>(∃o,σ=[o,some (.ref l)])/\ys=(((gJ x).take i).map λc=>there c h0).map V.bl/\ys.length=i/\H' D=some (.lst ys)/\aM H1 H') ⟨⟨none,rfl⟩,rfl,rfl,ag,aj hD _⟩ ?_ ?_ ?_ ?_ ?_
  ·rintro i σ ys H' _ ⟨_,_,hi,h,_⟩
   exact⟨h,V_ hi⟩
  ·rintro i σ ys H' _ ⟨_,_,_,_,sm⟩
   exact aH.of (sm _ _ hu1)
  ·rw [Vr]; exact Vo (r8 hsm) (by decide)
  ·rintro i v σ ys H' hv ⟨⟨o,rfl⟩,rfl,hi,h,sm⟩
   rw [VO]at hv
   cases ec:(gJ x)[i]? with
   | none=>rw [ec]at hv; cases hv
   | some c =>
    rw [ec]at hv
    have hv:V.int c=v:=VL hv
    subst hv
    have s2:=s1.trans sm
    refine⟨_,rfl,_,rfl,l,_,0,_,rfl,rfl,a_.of (s2 _ _ hL.lst),au (j:=0) e0,c,a0,h0,rfl,s2 _ _ gB,h,⟨_,rfl⟩,?_,?_,ag,bt hD sm⟩
    ·rw [take_one ec,Vt,Vt]; rfl
    ·rw [Vs,hi]; rfl
  ·rintro σ ys H' ⟨_,rfl,_,h,sm⟩
   rw [Vr,V3]at h
   refine⟨D,_,rfl,a_.of h,?_⟩
   have e:cV x hs=((gJ x).map λc=>there c h0).all id:=by
    cases x with
    | one x =>
     show(dg x).all (λc=>there c (hs.headD []))=_
     rw [eh,List.all_map]
     rfl
    | both p q=>rfl
    | meet c d p q=>exact VY rfl hx
   rw [←e]
   exact q H' (s1.trans sm)
end My
namespace L2
open PySem
section
variable{g g2:TG}{tc uv:TT}{te:TE}{wi2:TI}{D:Addr}{Q:VK}{N:St->List V->Hp->Prop}{qM:St}{H0:Hp}{Oj:List V}{K:Wg}{a:Addr}{xs:List V}
theorem yj(Pv:Nat->St->List V->Hp->Prop)(h0:Pv 0 qM [] H0)(hD:∀i σ ys H,i<=xs.length->Pv i σ ys H->H D=some (.lst ys))(hl:∀i σ ys H,i<=xs.length->Pv i σ ys H->a_ K H a xs)
  (hs:∀i x σ ys H,xs[i]? = some x->Pv i σ ys H->g x σ H λdn H2=>tc dn H2 λb H3=>if b=true then wi2 dn H3 λJ2 H4=>∃W2:Nat->Nat->St->List V->Hp->Prop,(∃m,W2 0 m dn ys H4)/\qe J2 g2 uv te D (Pv (i+1)) W2 else Pv (i+1) dn ys H3)
  (hd:∀σ ys H,Pv xs.length σ ys H->Q (.ref D) H):∃W:Nat->Nat->St->List V->Hp->Prop,(∃m,W 0 m qM [] H0)/\tX (Oc K a) g tc wi2 g2 uv te D Q W:=by
 refine⟨λi m σ ys H=>m=xs.length-i/\i<=xs.length/\Pv i σ ys H,⟨xs.length,by simp,VJ _,h0⟩,?_⟩
 rintro i m σ ys H ⟨rfl,hi,p⟩
 have q:=hl i σ ys H hi p
 refine⟨hD i σ ys H hi p,?_⟩
 by_cases hlt:i<xs.length
 ·refine .inr ⟨⟨xs,xs[i],q,by simp [hlt]⟩,Pv (i+1),λσ' ys' H' p'=>⟨xs.length-(i+1),by omega,rfl,hlt,p'⟩,λx H' y=>?_⟩
  obtain⟨e,y⟩:=y
  subst e
  exact hs i x σ ys _ (y xs q) p
 ·have e:i=xs.length:=by omega
  subst e
  exact .inl ⟨⟨xs,q,Vn _⟩,hd σ ys H p⟩
end
end L2
namespace My
open PySem L2
def alike(s t:Str):Bool:=decide (s=t) && !decide (s="t")
def sY:Sp:=λvs H Q _=>∃s t:Str,vs=[.str s,.str t]/\Q (.bl (alike s t)) H
theorem bP(s t:Str):decide (V.str s=V.str t)=decide (s=t):=by
 by_cases e:s=t
 ·rw [e]; simp
 ·rw [Vp e,Vp (λz=>e (V.str.inj z))]
abbrev fD:Stmt:=top 21
theorem l4:ay ["one","other"] ["one","other"] (ar fD):=fs
variable{P:Program}{w:World}{K:Wg}{mg:Str->Option Value}{base:Heap}
theorem CA{tk:Tok}(mT:mg "TALLY"=some (.str "t" tk))(F:FA K mg "are_same_sort" fD) :
  bf bc P w K mg base 1 "are_same_sort" ["one","other"] sY:=by
 refine F.ok l4 λf cdv A outer s H vs Q E hr h=>?_
 obtain⟨s1,t1,rfl,q⟩:=h
 refine⟨_,(ax (pY (bT aP (pv 0) (pv 1)) (dc (bT kf (pv 0) (dh (v:=.str "t") rfl mT ⟨_,rfl⟩))))),?_⟩
 unfold alike at q
 refine⟨_,rfl,_,rfl,rfl,_,rfl,?_⟩
 rw [bP]
 refine cJ (λk=>?_) (λk=>?_)
 ·rw [k,Bool.true_and,←bP]at q
  exact⟨_,rfl,rfl,q⟩
 ·rw [VG.mpr k]at q
  exact q
def cZ(vs:List V)(t:Str):Bool:=!decide (t="t")&&vs.all λv=>decide (sW v=t)
def iT:Sp:=λvs H Q _=>∃(l:Addr) (us:List V) (t:Str),vs=[.ref l,.str t]/\H l=some (.lst us)/\us.length<=100000/\(∀v∈us,dZ v)/\∀H',aM H H'->Q (.bl (cZ us t)) H'
abbrev jF:Stmt:=top 22
theorem ux:ay ["cells","column_sort"] ["cells","column_sort"] (ar jF):=fs
theorem vL{tk:Tok}(B2:iW mg)(mT:mg "TALLY"=some (.str "t" tk))(F:FA K mg "cells_fit" jF)
  (il:bf bc P w K mg base 1 "sort_of" ["cell"] gj) :
  bf bc P w K mg base 2 "cells_fit" ["cells","column_sort"] iT:=by
 refine F.ok ux λf cdv A outer s H vs Q E hr h=>?_
 obtain⟨l,us,t,rfl,hl,hz,hc,q⟩:=h
 refine⟨_,(ax (pY (bT kf (pv 1) (dh (v:=.str "t") rfl mT ⟨_,rfl⟩)) (dc (bg (iC rfl) rfl B2.all PyProof.Rows.boot_all (ae (bx (N':=["cell","column_sort"]) (src:=[none,some 1]) rfl (aZ.jT (by kernel_rfl)) (fq (pv 0)) (λcl C s H fp=>(eI (i:=0))) (λcl C s H fp=>aX) (te:=(h_ IM (ja gj [] E0 (bq (bD 0) fJ)) (bD 1))) (λcl C s H fp=>(bT aP (av (hg:=yH) il hr (ae (jd 0) ah)) (zw 1)))) ah))))),?_⟩
 unfold cZ at q
 refine⟨_,rfl,rfl,_,rfl,?_⟩
 rw [bP]
 refine cJ (λk=>?_) (λk=>?_)
 ·rw [k,Bool.true_and]at q
  refine⟨_,rfl,l,rfl,⟨_,a_.of hl⟩,λD hD=>?_⟩
  refine dN (xs:=us) (λi σ ys H'=>(∃o,σ=[o,some (.str t)])/\ys=((us.take i).map λv=>decide (sW v=t)).map V.bl/\ys.length=i/\H' D=some (.lst ys)/\aM H H') ⟨⟨none,rfl⟩,rfl,rfl,ag,aj hD _⟩ ?_ ?_ ?_ ?_ ?_
  ·rintro i σ ys H' _ ⟨_,_,hi,h,_⟩
   exact⟨h,V_ hi⟩
  ·rintro i σ ys H' _ ⟨_,_,_,_,sm⟩
   exact a_.of (sm _ _ hl)
  ·exact Vo hz (by decide)
  ·rintro i v σ ys H' hv ⟨⟨o,rfl⟩,rfl,hi,h,sm⟩
   refine⟨_,rfl,v,rfl,hc v (Vy hv),_,rfl,rfl,h,⟨_,rfl⟩,?_,?_,ag,bt hD sm⟩
   ·rw [take_one hv,Vt,Vt,bP]; rfl
   ·rw [Vs,hi]; rfl
  ·rintro σ ys H' ⟨_,rfl,_,h,sm⟩
   rw [V3]at h
   refine⟨D,_,rfl,a_.of h,?_⟩
   have e:(us.all λv=>decide (sW v=t))=(us.map λv=>decide (sW v=t)).all id:=by rw [List.all_map]; rfl
   rw [←e]
   exact q H' sm
 ·rw [VG.mpr k]at q
  exact q H (aM.refl _)
def goodW:Wk->Prop
 | .one x=>HU x
 | _=>True
def c7(ss:List Str):Bool:=ss.all λs=>decide (s=ss.headD "")
def gy(t:Str):Str:=if t="t" then "n" else t
def ba:Wk->List Hd->Bool
 | .one (.keep c t),hs=>decide (t=gy (bu (hs.headD []) c))
 | .one (.same c d),hs=>alike (bu (hs.headD []) c) (bu (hs.headD []) d)
 | .one (.turn c ps),hs=>cZ (ps.flatMap λp=>[p.1,p.2]) (bu (hs.headD []) c)
 | .one (.must c ps),hs=>c7 (ps.map λp=>sW p.2)&&cZ (ps.map λp=>p.1) (bu (hs.headD []) c)
 | .one (.walk c mv),hs=>cZ (mv.filter λv=>!decide (v=.non)) (bu (hs.headD []) c)
 | .one (.sum _ c),hs=>!decide (bu (hs.headD []) c="w")
 | .both ..,hs=>decide (hs.headD []=hs.getD 1 [])
 | .meet c d _ _,hs=>alike (bu (hs.headD []) c) (bu (hs.getD 1 []) d)
 | _,_=>true
def qP(k:Wk->Prop)(x:Wk)(hs:List Hd):Prop:=k x/\cV x hs=true/\goodW x
theorem fc{c:Int}{h:Hd}(e:there c h=true):1<=c/\c<=h.length:=by
 unfold there at e
 simp only [VW,decide_eq_true_eq]at e
 exact e
theorem cM{x:W1}{h:Hd}{c:Int}(e:cV (.one x) [h]=true)(hc:c∈dg x):1<=c/\c<=h.length:=fc (List.all_eq_true.mp e c hc)
abbrev jx:Stmt:=top 23
theorem lC:ay ["worker","heads","column_sort"] ["worker","heads"] (ar jx):=fs
theorem vD{n:Nat}{tk:Tok}(mT:mg "TALLY"=some (.str "t" tk))(F:FA K mg "keep_fits" jx) :
  bf bc P w K mg base 1 "keep_fits" ["worker","heads"] (dG n ba (qP λx=>∃c t,x=.one (.keep c t))):=by
 refine F.ok lC λf cdv A outer s H vs Q E hr h=>?_
 obtain⟨a,l,x,as,hs,rfl,ha,hL,hn,hsm,ho,q⟩:=h
 refine⟨_,(aq (aL (i:=2) lC.nd rfl (V2 rfl) (az K (bo K (pv 1) ai) (aD bO (az K (pv 0) ai) ai)))
   (ax (bT aP (az K (az K (pv 0) ai) ai) (gq (aU aP (pv 2) (dh (v:=.str "t") rfl mT ⟨_,rfl⟩)) ao (pv 2))))),?_⟩
 obtain⟨⟨c,t,rfl⟩,hf,hg⟩:=ho
 obtain⟨hd,rfl⟩:=dv hn
 obtain⟨a0,e0,gB⟩:=hL.nth (i:=0) rfl
 obtain⟨st,xs,h1,h2⟩:=cb.mp ha
 have hc:=cM hf (c:=c) (by simp [dg])
 refine⟨_,rfl,l,_,0,_,rfl,rfl,a_.of hL.lst,au (j:=0) e0,_,rfl,a,_,1,_,rfl,rfl,aH.of h1,rfl,_,_,rfl,rfl,a0,_,_,_,rfl,rfl,aH.of gB,dJ hc,ak ?_⟩
 dsimp only
 refine⟨_,rfl,a,_,2,_,rfl,rfl,aH.of h1,rfl,st,_,0,_,rfl,rfl,aH.of h2,au (j:=0) rfl,_,rfl,rfl,_,rfl,?_⟩
 have q:=q H (aM.refl _)
 have q:Q (.bl (decide (t=gy (bu hd c)))) H:=q
 unfold gy at q
 rw [bP]
 refine cJ (λk=>?_) (λk=>?_)
 ·rw [V0 (VX k),←bP]at q
  exact⟨rfl,q⟩
 ·rw [VZ (λe=>k (Vq e)),←bP]at q
  exact⟨_,rfl,rfl,q⟩
abbrev jK:Stmt:=top 24
theorem tN:ay ["worker","heads"] ["worker","heads"] (ar jK):=fs
theorem vn{n:Nat}(F:FA K mg "same_fits" jK)
  (fG:bf bc P w K mg base 1 "are_same_sort" ["one","other"] sY) :
  bf bc P w K mg base 2 "same_fits" ["worker","heads"] (dG n ba (qP λx=>∃c d,x=.one (.same c d))):=by
 refine F.ok tN λf cdv A outer s H vs Q E hr h=>?_
 obtain⟨a,l,x,as,hs,rfl,ha,hL,hn,hsm,ho,q⟩:=h
 refine⟨_,(ax (av fG hr (ae (az K (bo K (pv 1) ai) (aD bO (az K (pv 0) ai) ai)) (ae (az K (bo K (pv 1) ai) (aD bO (az K (pv 0) ai) ai)) ah)))),?_⟩
 obtain⟨⟨c,d,rfl⟩,hf,hg⟩:=ho
 obtain⟨hd,rfl⟩:=dv hn
 obtain⟨a0,e0,gB⟩:=hL.nth (i:=0) rfl
 have h1:H a=some (.tup [.str "same",.int c,.int d]):=cb.mp ha
 have hc:=cM hf (c:=c) (by simp [dg])
 have hc2:=cM hf (c:=d) (by simp [dg])
 refine⟨_,rfl,l,_,0,_,rfl,rfl,a_.of hL.lst,au (j:=0) e0,_,rfl,a,_,1,_,rfl,rfl,aH.of h1,rfl,_,_,rfl,rfl,a0,_,_,_,rfl,rfl,aH.of gB,dJ hc,?_⟩
 exact⟨_,rfl,l,_,0,_,rfl,rfl,a_.of hL.lst,au (j:=0) e0,_,rfl,a,_,2,_,rfl,rfl,aH.of h1,rfl,_,_,rfl,rfl,a0,_,_,_,rfl,rfl,aH.of gB,dJ hc2,_,_,rfl,q H (aM.refl _)⟩
abbrev km:Stmt:=top 28
theorem wm:ay ["worker","heads"] ["worker","heads"] (ar km):=fs
theorem x_{n:Nat}(F:FA K mg "sum_fits" km) :
  bf bc P w K mg base 1 "sum_fits" ["worker","heads"] (dG n ba (qP λx=>∃cs c,x=.one (.sum cs c))):=by
 refine F.ok wm λf cdv A outer s H vs Q E hr h=>?_
 obtain⟨a,l,x,as,hs,rfl,ha,hL,hn,hsm,ho,q⟩:=h
 refine⟨_,(ax (bT kf (az K (bo K (pv 1) ai) (aD bO (az K (pv 0) ai) ai)) ao)),?_⟩
 obtain⟨⟨cs,c,rfl⟩,hf,hg⟩:=ho
 obtain⟨hd,rfl⟩:=dv hn
 obtain⟨a0,e0,gB⟩:=hL.nth (i:=0) rfl
 obtain⟨t,h1,h2⟩:=cb.mp ha
 have hc:=cM hf (c:=c) (by simp [dg])
 have q:=q H (aM.refl _)
 have q:Q (.bl (!decide (bu hd c="w"))) H:=q
 rw [←bP]at q
 exact⟨_,rfl,l,_,0,_,rfl,rfl,a_.of hL.lst,au (j:=0) e0,_,rfl,a,_,2,_,rfl,rfl,aH.of h1,rfl,_,_,rfl,rfl,a0,_,_,_,rfl,rfl,aH.of gB,dJ hc,rfl,q⟩
abbrev jr:Stmt:=top 30
theorem uf:ay ["worker","heads"] ["worker","heads"] (ar jr):=fs
theorem uX{n:Nat}(F:FA K mg "meet_fits" jr)
  (fG:bf bc P w K mg base 1 "are_same_sort" ["one","other"] sY) :
  bf bc P w K mg base 2 "meet_fits" ["worker","heads"] (dG n ba (qP λx=>∃c d p q,x=.meet c d p q)):=by
 refine F.ok uf λf cdv A outer s H vs Q E hr h=>?_
 obtain⟨a,l,x,as,hs,rfl,ha,hL,hn,hsm,ho,q⟩:=h
 refine⟨_,(ax (av fG hr (ae (az K (bo K (pv 1) ai) (aD bO (az K (pv 0) ai) ai)) (ae (az K (bo K (pv 1) ai) (aD bO (az K (pv 0) ai) ai)) ah)))),?_⟩
 obtain⟨⟨c,d,p1,p2,rfl⟩,hf,hg⟩:=ho
 obtain⟨h0,h2,rfl⟩:=dR hn
 obtain⟨a0,e0,gB⟩:=hL.nth (i:=0) rfl
 obtain⟨a1,e1,vf⟩:=hL.nth (i:=1) rfl
 cases n with
 | zero=>exact V4 ha
 | succ n =>
 obtain⟨b,e,bs,es,h1,_⟩:=ha
 have hf:(there c h0&&there d h2)=true:=hf
 rw [VW]at hf
 refine⟨_,rfl,l,_,0,_,rfl,rfl,a_.of hL.lst,au (j:=0) e0,_,rfl,a,_,1,_,rfl,rfl,aH.of h1,rfl,_,_,rfl,rfl,a0,_,_,_,rfl,rfl,aH.of gB,dJ (fc hf.1),?_⟩
 exact⟨_,rfl,l,_,1,_,rfl,rfl,a_.of hL.lst,au (j:=1) e1,_,rfl,a,_,2,_,rfl,rfl,aH.of h1,rfl,_,_,rfl,rfl,a1,_,_,_,rfl,rfl,aH.of vf,dJ (fc hf.2),_,_,rfl,q H (aM.refl _)⟩
theorem qd(s t:List Str):cR (.tup (s.map D.str)) (.tup (t.map D.str))=decide (s=t):=by
 have gen:∀s t:List Str,iF (s.map D.str) (t.map D.str)=decide (s=t):=by
  intro s
  induction s with
  | nil=>intro t; cases t <;> simp [iF]
  | cons x s ih =>
   intro t
   cases t with
   | nil=>simp [iF]
   | cons y t =>
    rw [Wb,Wb,iF,ih t]
    by_cases e1:x=y <;> by_cases e2:s=t <;> simp [cR,e1,e2]
 rw [cR,gen]
theorem y_{K:Wg}{H:Hp}{a:Addr}{h:Hd}(e:dF H a h):bj K H (.tup (h.map D.str)) (.ref a):=iN e (mz h)
theorem kP(h:List Str):(D.tup (h.map D.str)).depth<=1:=by
 rw [D.depth]
 have:cA (h.map D.str)<=0:=by
  induction h with
  | nil=>rw [List.map_nil,cA]; exact Vn _
  | cons x h ih=>rw [Wb,cA]; exact Nat.max_le.mpr ⟨by simp [D.depth],ih⟩
 omega
abbrev jm:Stmt:=top 29
theorem uk:ay ["worker","heads"] ["worker","heads"] (ar jm):=fs
theorem vH{n:Nat}(F:FA K mg "both_fits" jm) :
  bf bc P w K mg base 1 "both_fits" ["worker","heads"] (dG n ba (qP λx=>∃p q,x=.both p q)):=by
 refine F.ok uk λf cdv A outer s H vs Q E hr h=>?_
 have hu:=iD hr
 obtain⟨a,l,x,as,hs,rfl,ha,hL,hn,hsm,ho,q⟩:=h
 refine⟨_,(ax (bT yM (bo K (pv 1) ai) (bo K (pv 1) ai))),?_⟩
 obtain⟨⟨p1,p2,rfl⟩,hf,hg⟩:=ho
 obtain⟨h0,h2,rfl⟩:=dR hn
 obtain⟨a0,e0,gB⟩:=hL.nth (i:=0) rfl
 obtain⟨a1,e1,vf⟩:=hL.nth (i:=1) rfl
 refine⟨_,rfl,l,_,0,_,rfl,rfl,a_.of hL.lst,au (j:=0) e0,_,rfl,l,_,1,_,rfl,rfl,a_.of hL.lst,au (j:=1) e1,_,_,y_ gB,y_ vf,?_,?_⟩
 ·exact Vu (Nat.add_le_add_left (Vo (kP h0) (by decide:1<=8)) _) hu
 ·rw [qd]
  exact q H (aM.refl _)
end My
namespace L2
open PySem
section
variable{g g2:TG}{tc uv:TT}{te:TE}{wi2:TI}{D:Addr}{Q:VK}{N:St->List V->Hp->Prop}{qM:St}{H0:Hp}{Oj:List V}{K:Wg}{a:Addr}{xs:List V}
theorem rR(Pv:Nat->St->List V->Hp->Prop)(h0:Pv 0 qM [] H0)(hD:∀i σ ys H,i<=xs.length->Pv i σ ys H->H D=some (.lst ys))(hl:∀i σ ys H,i<=xs.length->Pv i σ ys H->aH K H a xs)
  (hs:∀i x σ ys H,xs[i]? = some x->Pv i σ ys H->g x σ H λdn H2=>tc dn H2 λb H3=>if b=true then wi2 dn H3 λJ2 H4=>∃W2:Nat->Nat->St->List V->Hp->Prop,(∃m,W2 0 m dn ys H4)/\qe J2 g2 uv te D (Pv (i+1)) W2 else Pv (i+1) dn ys H3)
  (hd:∀σ ys H,Pv xs.length σ ys H->Q (.ref D) H):∃W:Nat->Nat->St->List V->Hp->Prop,(∃m,W 0 m qM [] H0)/\tX (F5 K a) g tc wi2 g2 uv te D Q W:=by
 refine⟨λi m σ ys H=>m=xs.length-i/\i<=xs.length/\Pv i σ ys H,⟨xs.length,by simp,VJ _,h0⟩,?_⟩
 rintro i m σ ys H ⟨rfl,hi,p⟩
 have q:=hl i σ ys H hi p
 refine⟨hD i σ ys H hi p,?_⟩
 by_cases hlt:i<xs.length
 ·refine .inr ⟨⟨xs,xs[i],q,by simp [hlt]⟩,Pv (i+1),λσ' ys' H' p'=>⟨xs.length-(i+1),by omega,rfl,hlt,p'⟩,λx H' y=>?_⟩
  obtain⟨e,y⟩:=y
  subst e
  exact hs i x σ ys _ (y xs q) p
 ·have e:i=xs.length:=by omega
  subst e
  exact .inl ⟨⟨xs,q,Vn _⟩,hd σ ys H p⟩
theorem l8(Pv:Nat->St->List V->Hp->Prop)(h0:Pv 0 qM Oj H0)(hD:∀i σ ys H,i<=xs.length->Pv i σ ys H->H D=some (.lst ys)/\(i<xs.length->ys.length<sizeLine))(hl:∀i σ ys H,i<=xs.length->Pv i σ ys H->aH K H a xs)
  (hs:∀i x σ ys H,xs[i]? = some x->Pv i σ ys H->g x σ H λdn H2=>tc dn H2 λb H3=>if b=true then te dn H3 λv H4=>H4 D=some (.lst ys)/\Pv (i+1) dn (ys++[v]) (upd H4 D (.lst (ys++[v])))else Pv (i+1) dn ys H3)
  (hd:∀σ ys H,Pv xs.length σ ys H->N σ ys H):∃W:Nat->Nat->St->List V->Hp->Prop,(∃m,W 0 m qM Oj H0)/\qe (F5 K a) g tc te D N W:=by
 refine⟨λi m σ ys H=>m=xs.length-i/\i<=xs.length/\Pv i σ ys H,⟨xs.length,by simp,VJ _,h0⟩,?_⟩
 rintro i m σ ys H ⟨rfl,hi,p⟩
 have q:=hl i σ ys H hi p
 refine⟨(hD i σ ys H hi p).1,?_⟩
 by_cases hlt:i<xs.length
 ·refine .inr ⟨⟨xs,xs[i],q,by simp [hlt]⟩,(hD i σ ys H hi p).2 hlt,Pv (i+1),λσ' ys' H' p'=>⟨xs.length-(i+1),by omega,rfl,hlt,p'⟩,λx H' y=>?_⟩
  obtain⟨e,y⟩:=y
  subst e
  exact hs i x σ ys _ (y xs q) p
 ·have e:i=xs.length:=by omega
  subst e
  exact .inl ⟨⟨xs,q,Vn _⟩,hd σ ys H p⟩
end
end L2
namespace My
open PySem L2
abbrev jM:Stmt:=top 25
theorem uH:ay ["worker","heads"] ["worker","heads"] (ar jM):=fs
variable{P:Program}{w:World}{K:Wg}{mg:Str->Option Value}{base:Heap}
theorem vT{n:Nat}(F:FA K mg "turn_fits" jM)
  (fv:bf bc P w K mg base 2 "cells_fit" ["cells","column_sort"] iT) :
  bf bc P w K mg base 3 "turn_fits" ["worker","heads"] (dG n ba (qP λx=>∃c ps,x=.one (.turn c ps))):=by
 refine F.ok uH λf cdv A outer s H vs Q E hr h=>?_
 have hu:=iD hr
 obtain⟨a,l,x,as,hs,rfl,ha,hL,hn,hsm,ho,q⟩:=h
 refine⟨_,(ax (av fv hr (ae (rY (N':=["pair","cell"]) (src:=[none,none]) rfl (aZ.jT (by kernel_rfl)) (cQ (az K (pv 0) ai)) (λcl C s H fp=>(eI (i:=0))) (λcl C s H fp=>aX) (wi2:=(HF K (bD 0))) (λcl C s H fp=>(cQ (jd 0))) (λcl C s H fp=>(eI (i:=1))) (λcl C s H fp=>aX) (te:=(bD 1)) (λcl C s H fp=>(jd 1))) (ae (az K (bo K (pv 1) ai) (aD bO (az K (pv 0) ai) ai)) ah)))),?_⟩
 obtain⟨⟨c,ps,rfl⟩,hf,hg⟩:=ho
 obtain⟨hd,rfl⟩:=dv hn
 obtain⟨a0,e0,gB⟩:=hL.nth (i:=0) rfl
 obtain⟨t,bs,h1,hI⟩:=cb.mp ha
 have hc:=cM hf (c:=c) (by simp [dg])
 have hz:ps.length<=1000:=hsm
 have hg:∀p∈ps,dZ p.1/\dZ p.2:=hg
 have hlb:(bs.map V.ref).length=ps.length:=by rw [Vr,hI.len]
 refine⟨_,rfl,a,_,2,_,rfl,rfl,aH.of h1,rfl,t,rfl,⟨_,aH.of hI.tup⟩,λD hD=>?_⟩
 refine rR (xs:=bs.map V.ref) (λi σ ys H'=>(∃o1 o2,σ=[o1,o2])/\ys=(ps.take i).flatMap (λp=>[p.1,p.2])/\ys.length=2*i/\H' D=some (.lst ys)/\aM H H') ⟨⟨none,none,rfl⟩,rfl,rfl,ag,aj hD _⟩ ?_ ?_ ?_ ?_
 ·rintro i σ ys H' _ ⟨_,_,_,h,_⟩
  exact h
 ·rintro i σ ys H' _ ⟨_,_,_,_,sm⟩
  exact aH.of (sm _ _ hI.tup)
 ·rintro i v σ ys H' hv ⟨⟨o1,o2,rfl⟩,rfl,hi,h,sm⟩
  obtain⟨b,p,rfl,ep,hb⟩:=hI.get hv
  have hib:i<1000:=by have:=(VC.mp ep).1; omega
  refine ak ⟨_,rfl,b,rfl,⟨_,aH.of (sm _ _ hb)⟩,?_⟩
  refine l8 (xs:=[p.1,p.2]) (λj σ zs H2=>(∃o,σ=[some (.ref b),o])/\zs=(ps.take i).flatMap (λp=>[p.1,p.2])++[p.1,p.2].take j/\zs.length=2*i+j/\H2 D=some (.lst zs)/\aM H H2) ⟨⟨o2,rfl⟩,by rw [List.take_zero,V8],hi,h,sm⟩ ?_ ?_ ?_ ?_
  ·rintro j σ zs H2 hj ⟨_,_,M8,h2,_⟩
   refine⟨h2,λ_=>?_⟩
   rw [M8]
   exact Vu (show 2*i+j<=3000 by have:j<=2:=hj; omega) (by decide)
  ·rintro j σ zs H2 _ ⟨_,_,_,_,s2⟩
   exact aH.of (s2 _ _ hb)
  ·rintro j u σ zs H2 hu' ⟨⟨o,rfl⟩,rfl,M8,h2,s2⟩
   refine ak ⟨_,rfl,h2,⟨_,rfl⟩,?_,?_,ag,bt hD s2⟩
   ·rw [take_one hu',List.append_assoc]
   ·rw [Vs,M8]; rfl
  ·rintro σ zs H2 ⟨⟨o,rfl⟩,rfl,M8,h2,s2⟩
   refine⟨⟨_,_,rfl⟩,?_,by rw [M8]; show 2*i+2=_; omega,h2,s2⟩
   rw [take_one ep,List.flatMap_append]
   rfl
 ·rintro σ ys H1 ⟨_,rfl,hyl,h,sm⟩
  rw [hlb,V3]at h hyl
  refine⟨_,rfl,l,_,0,_,rfl,rfl,a_.of (sm _ _ hL.lst),au (j:=0) e0,_,rfl,a,_,1,_,rfl,rfl,aH.of (sm _ _ h1),rfl,_,_,rfl,rfl,a0,_,_,_,rfl,rfl,aH.of (sm _ _ gB),dJ hc,?_⟩
  refine⟨D,_,_,rfl,h,by omega,λv hv=>?_,λH' s'=>q H' (sm.trans s')⟩
  obtain⟨p,hp,hv⟩:=List.mem_flatMap.mp hv
  simp only [VF,V1,or_false]at hv
  rcases hv with rfl | rfl
  ·exact(hg p hp).1
  ·exact(hg p hp).2
abbrev jJ:Stmt:=top 27
theorem lz:ay ["worker","heads","cells"] ["worker","heads"] (ar jJ):=fs
theorem wu{n:Nat}(F:FA K mg "walk_fits" jJ)
  (fv:bf bc P w K mg base 2 "cells_fit" ["cells","column_sort"] iT) :
  bf bc P w K mg base 3 "walk_fits" ["worker","heads"] (dG n ba (qP λx=>∃c mv,x=.one (.walk c mv))):=by
 refine F.ok lz λf cdv A outer s H vs Q E hr h=>?_
 obtain⟨a,l,x,as,hs,rfl,ha,hL,hn,hsm,ho,q⟩:=h
 refine⟨_,(aq (kM (i:=2) (N':=["state","cell","after"]) (src:=[none,none,none]) lz.nd rfl (V2 rfl) rfl rfl (aZ.jT (by kernel_rfl)) (cQ (az K (pv 0) ai)) (g:=(i8 K 3 (bR (bE 0) (bR (bE 1) (bR (bE 2) i5))))) (λcl C s H fp=>(cG rfl (aA (eI (i:=0)) (aA (eI (i:=1)) (aA (eI (i:=2)) bY))))) (tc:=(sq (h_ (λx y H Q=>y=.non/\Q (.bl (!decide (x=.non))) H) (bD 1) (tC .non)))) (λcl C s H fp=>qh (aU sI (jd 1) iS)) (te:=(bD 1)) (λcl C s H fp=>(jd 1)))
   (ax (av fv hr (ae (pv 2) (ae (az K (bo K (pv 1) ai) (aD bO (az K (pv 0) ai) ai)) ah))))),?_⟩
 obtain⟨⟨c,mv,rfl⟩,hf,hg⟩:=ho
 obtain⟨hd,rfl⟩:=dv hn
 obtain⟨a0,e0,gB⟩:=hL.nth (i:=0) rfl
 obtain⟨st,t,bs,h1,hI⟩:=cb.mp ha
 have hc:=cM hf (c:=c) (by simp [dg])
 have hz:mv.length<=1000:=hsm
 have hg:∀v∈mv,v=.non\/dZ v:=hg
 have hlb:(bs.map V.ref).length=mv.length:=by rw [Vr,hI.len]
 refine⟨_,rfl,a,_,3,_,rfl,rfl,aH.of h1,rfl,t,rfl,⟨_,aH.of hI.tup⟩,λD hD=>?_⟩
 refine cI (xs:=bs.map V.ref) (λi σ ys H'=>(∃o1 o2 o3,σ=[o1,o2,o3])/\ys=(mv.take i).filter (λv=>!decide (v=.non))/\ys.length<=i/\H' D=some (.lst ys)/\aM H H') ⟨⟨none,none,none,rfl⟩,rfl,Vn _,ag,aj hD _⟩ ?_ ?_ ?_ ?_ ?_
 ·rintro i σ ys H' _ ⟨_,_,hi,h,_⟩
  exact⟨h,hi⟩
 ·rintro i σ ys H' _ ⟨_,_,_,_,sm⟩
  exact aH.of (sm _ _ hI.tup)
 ·rw [hlb]; exact Vo hz (by decide)
 ·rintro i v σ ys H' hv ⟨⟨o1,o2,o3,rfl⟩,rfl,hi,h,sm⟩
  obtain⟨b,u,rfl,eu,s1,t1,hb⟩:=hI.get hv
  refine⟨b,_,rfl,aH.of (sm _ _ hb),rfl,_,_,rfl,ak ⟨_,_,rfl,ak ⟨_,_,rfl,ak ⟨rfl,?_⟩⟩⟩⟩
  refine⟨_,rfl,rfl,_,rfl,?_⟩
  refine cJ (λk=>?_) (λk=>?_)
  ·refine⟨_,rfl,h,⟨_,_,_,rfl⟩,?_,by rw [Vs]; simp only [List.length_singleton]; omega,ag,bt hD sm⟩
   rw [take_one eu,List.filter_append,List.filter_cons,V0 k]
   rfl
  ·refine⟨⟨_,_,_,rfl⟩,?_,by omega,h,sm⟩
   rw [take_one eu,List.filter_append,List.filter_cons,VZ k]
   simp
 ·rintro σ ys H1 ⟨_,rfl,hyl,h,sm⟩
  rw [hlb,V3]at h hyl
  refine ak ?_
  dsimp only
  refine⟨_,rfl,_,rfl,l,_,0,_,rfl,rfl,a_.of (sm _ _ hL.lst),au (j:=0) e0,_,rfl,a,_,1,_,rfl,rfl,aH.of (sm _ _ h1),rfl,_,_,rfl,rfl,a0,_,_,_,rfl,rfl,aH.of (sm _ _ gB),dJ hc,?_⟩
  refine⟨D,_,_,rfl,h,by omega,λv hv=>?_,λH' s'=>q H' (sm.trans s')⟩
  obtain⟨hm,hk⟩:=List.mem_filter.mp hv
  rcases hg v hm with rfl | z
  ·simp at hk
  ·exact z
end My
namespace L2
open PySem PySem.Spec PyProof.Rows
open Classical in
noncomputable def lG (ks:List Key) (k:Key):Bool:=decide (k∈ks)
open Classical in
theorem f_{ks:List Key}{k:Key}:lG ks k=true↔k∈ks:=by
 unfold lG
 exact decide_eq_true_iff
noncomputable def fO (ks:List Key) (k:Key):List Key:=if lG ks k=true then ks else ks++[k]
theorem EL(ks:List Key)(k k':Key):lG (fO ks k) k'=(lG ks k'||decide (k'=k)):=by
 rw [Bool.eq_iff_iff,Bool.or_eq_true,decide_eq_true_eq,f_,f_]
 unfold fO
 by_cases h:lG ks k=true
 ·rw [V0 h]
  exact⟨.inl,λz=>z.elim id λe=>by rw [e]; exact f_.mp h⟩
 ·rw [VZ h,VH,VD]
def x4(J:It)(g:TG)(te:TE)(Q:VK)(W:Nat->Nat->St->List Key->Hp->Prop):Prop :=
 ∀i m σ ks H,W i m σ ks H->ks.length+1<scanBound/\((J.stop i H/\Q (.int (ks.length:Nat)) H)\/(J.go i H/\∃N:St->List Key->Hp->Prop,(∀σ' ks' H',N σ' ks' H'->∃m',m'<m/\W (i+1) m' σ' ks' H')/\
  ∀x H',J.GR i H x H'->g x σ H' λdn H2=>te dn H2 λv H3=>∃k,v=kV k/\N dn (fO ks k) H3))
def FZ(src:List (Option Nat))(wi:TI)(g:TG)(te:TE):TE:=λσ H Q=>wi σ H λJ H1=>∃W:Nat->Nat->St->List Key->Hp->Prop,(∃m,W 0 m (j8 src σ) [] H1)/\x4 J g te Q W
section
variable{prog:Program}{w:World}{A:Around}{s:Shared}{R:Result->Shared->Prop}{elt target iter:Expr}{sc:Scope}{pos:Pos}{it acc:Value}{env:Env}
theorem Am:compTurn (.SetComp elt [⟨target,iter,[],0⟩] sc pos) 0 it acc env=(standAt iter.pos >>= λ_=>pyNext it >>= λr=>match r with
   | none=>pure (.done .next)
   | some v=>letOwnedTupleGo target it v >>= λ_=>assign target env v >>= λ_=>(eval elt env >>= λx=>standAt elt.pos >>= λ_=>call (.builtin "set.add") [acc,x] >>= λ_=>pure ()) >>= λ_=>again (.compLoop (.SetComp elt [⟨target,iter,[],0⟩] sc pos) 0 it acc env)):=by rfl
theorem yi(h0:codeAny (model prog w) A (.compLoop (.SetComp elt [⟨target,iter,[],0⟩] sc pos) 0 it acc env) R s)
  (h:wpAny (model prog w) A (pyIter it) (λit' s'=>codeAny (model prog w) A (.compLoop (.SetComp elt [⟨target,iter,[],0⟩] sc pos) 0 it' acc env) R s') (notedBy (model prog w) A env λx s'=>R (.error x) s') s) :
  codeAny (model prog w) A (.compStart (.SetComp elt [⟨target,iter,[],0⟩] sc pos) 0 it acc env) R s:=by
 refine codeAny_of_tree (show wpAny _ _ ((compStart (.SetComp elt [⟨target,iter,[],0⟩] sc pos) 0 it acc env).onRaise (λx=>do noteFrame x env; standAt theWindowsPlace)) _ _ s from wpAny_notedAt ?_)
 unfold compStart
 refine show wpAny _ _ (ask >>= _) _ _ s from Vi (wpAny_askSetting (wpAny_ite ?_))
 split
 ·first | exact Vi (Vj (Vj ⟨rfl,h0⟩)) | exact Vj ⟨rfl,h0⟩
 ·refine Vi (wpAny_rule (show wpAny _ _ (standAt iter.pos >>= _) _ _ s from ?_))
  exact Vi (wpAny_standAt (Vi (cn h λit' s' h'=>Vj ⟨rfl,h'⟩)))
theorem AK(Iv:Nat->Shared->Prop)
  (turn:∀n s,Iv n s->wpAny (model prog w) A (pyNext it) (λr s₁=>match r with
   | none=>R (.ok .next) s₁
   | some v=>wpAny (model prog w) A (letOwnedTupleGo target it v) (λ_ s₁'=>wpAny (model prog w) A (assign target env v) (λ_ s₂=>wpAny (model prog w) A (eval elt env) (λx s₄ =>
       wpAny (model prog w) A (call (.builtin "set.add") [acc,x]) (λ_ s₅=>∃m,m<n/\Iv m s₅) (λ_ _=>False) s₄) (λ_ _=>False) s₂) (λ_ _=>False) s₁') (λ_ _=>False) s₁) (λ_ _=>False) s)
  (n:Nat) (h:Iv n s):codeAny (model prog w) A (.compLoop (.SetComp elt [⟨target,iter,[],0⟩] sc pos) 0 it acc env) R s:=by
 refine codeAny_loop rfl Iv (λn s hI=>?_) n h
 show wpAny _ A ((compTurn (.SetComp elt [⟨target,iter,[],0⟩] sc pos) 0 it acc env).onRaise (λx=>do noteFrame x env; theTreesLotGoes x)) _ _ s
 refine wpAny_noted ?_
 rw [Am]
 refine Vi (wpAny_standAt (Vi (VR (turn n s hI) (λr s₁ h₁=>?_) λ_ _ h'=>h'.elim)))
 cases r with
 | none=>exact Vj h₁
 | some v =>
  refine Vi (VR h₁ (λ_ s₁' h₁'=>Vi (VR h₁' (λ_ s₂ h₂=>?_) λ_ _ h'=>h'.elim)) λ_ _ h'=>h'.elim)
  exact Vi (Vi (VR h₂ (λx s₄ h₄=>Vi (wpAny_standAt (Vi (VR h₄ (λ_ s₅ h₅=>Vj (Vj ⟨rfl,h₅⟩)) λ_ _ h'=>h'.elim)))) λ_ _ h'=>h'.elim))
end
theorem JT{k:Key}{u:Value}(r:RelV (kV k) u):gb k u=true/\u.scannable=true:=by
 cases k with
 | inl i=>obtain⟨t,rfl⟩:=r; exact⟨mw _ _,rfl⟩
 | inr x=>obtain⟨t,rfl⟩:=r; exact⟨mG _ _,rfl⟩
section
variable{X:Cx}{elt target iter:Expr}{sc:Scope}{pos:Pos}{wi:TI}{g:TG}{te:TE}{N':List Str}{src:List (Option Nat)}
abbrev tM(h:Heap)(prog:Program)(w:World)(S:Addr)(ks:List Key):Prop:=h.SetOf (bL prog w) S (λk=>lG ks k) ks.length
theorem D5{h:Heap}{prog:Program}{w:World}{S:Addr}{ks:List Key}(x:tM h prog w S ks):∃o,h.get? S=some o/\∀v,o.data≠ .cell v:=by
 obtain⟨o,es,ep,t,ho,_,hd,_⟩:=x
 exact⟨o,ho,λv z=>by rw [hd]at z; cases z⟩
theorem jV{h h':Heap}{prog:Program}{w:World}{S:Addr}{ks:List Key}(x:tM h prog w S ks)(k:∀o,h.get? S=some o->h'.get? S=some o):tM h' prog w S ks:=by
 obtain⟨o,es,ep,t,ho,z⟩:=x
 exact⟨o,es,ep,t,k _ ho,z⟩
theorem xR{pins:List (Addr×Obj)}{σ:St}{H2:Hp}{s2:Shared}{it:Addr}{fp:List Addr}{tn:Nat->Heap->Prop}{J:It}{Q:VK}{E:Value->Shared->Prop}{RR:Value->Addr->Result->Shared->Prop}
  (hc:X.calm=true) (S:aZ X.env.scope X.N N' src sc)
  (hg:∀cl C s H fp,PG (aK X N' sc cl C s H fp) target g) (he:∀cl C s H fp,PE (aK X N' sc cl C s H fp) elt te)
  (I2:Inv X pins σ H2 s2) (T:Turn X.prog X.w X.K target J fp it tn) (st2:tn 0 s2.heap) (f2:∀b∈fp,dI X pins H2 b)
  (hW:∃W:Nat->Nat->St->List Key->Hp->Prop,(∃m,W 0 m (j8 src σ) [] H2)/\x4 J g te Q W)
  (hRR:∀D C s5 H' m ks,Inv X pins σ H' s5->s5.heap.Ns C m->dI X pins H' C->C≠D->tM s5.heap X.prog X.w D ks->Q (.int (ks.length:Nat)) H'->RR (.ref D) C (.ok .next) s5) :
  wpAny (model X.prog X.w) X.A (newSet (.type "set")) (λacc s₃=>wpAny (model X.prog X.w) X.A (newFunctionEnv sc X.env.globals (bQ X.env.cells sc.names []) [] X.env.qual none .none (some X.env)) (λcenv s₄ =>
   codeAny (model X.prog X.w) X.A (.compStart (.SetComp elt [⟨target,iter,[],0⟩] sc pos) 0 (.ref it) acc {cenv with scope:=relabel sc X.env}) (RR acc cenv.locals) s₄) E s₃) E s2:=by
 have o2:∀b∈fp,b<s2.heap.objs.size:=λb hb=>by
  obtain⟨o,e,_⟩:=T.obj 0 _ st2 b hb
  exact Vl e
 refine wpAny_newSet_of (knd:=bL X.prog X.w) λled hS=>?_
 have Jn:H2 s2.heap.objs.size=none:=I2.hok.fresh (Vn _)
 obtain⟨W,⟨m0,w0⟩,turn⟩:=hW
 have Iu:∀b o,s2.heap.get? b=some o->(s2.heap.push {cls:=.type "set",dict:=none,data:=.set #[] 0 (.fresh 0 0 led)}).get? b=some o:=λb o e=>Vk _ e
 have I3:Inv X pins σ H2 {s2 with heap:=s2.heap.push {cls:=.type "set",dict:=none,data:=.set #[] 0 (.fresh 0 0 led)}}:=I2.kept (t':=s2.toks) Iu
 have fS:dI X pins H2 s2.heap.objs.size:=I2.mL (Vn _) Jn
 have st3:tn 0 (s2.heap.push {cls:=.type "set",dict:=none,data:=.set #[] 0 (.fresh 0 0 led)}):=T.keep 0 _ _ st2 λb hb o e=>Iu b o e
 generalize hs3:({s2 with heap:=s2.heap.push {cls:=.type "set",dict:=none,data:=.set #[] 0 (.fresh 0 0 led)}}:Shared)=s3 at I3
 have hh3:s3.heap=s2.heap.push {cls:=.type "set",dict:=none,data:=.set #[] 0 (.fresh 0 0 led)}:=by rw [←hs3]
 have E5:s2.heap.objs.size<s3.heap.objs.size:=by rw [hh3,Heap.size_push]; exact Nat.lt_succ_self _
 generalize U5:s2.heap.objs.size=Sa at *
 have o3:∀b∈Sa::fp,b<s3.heap.objs.size:=λb hb=>by
  rcases VF.mp hb with rfl | hb
  ·exact E5
  ·exact Nat.lt_trans (o2 b hb) E5
 have nS:∀b∈fp,b≠Sa:=λb hb=>VI (o2 b hb)
 have f3:∀b∈Sa::fp,dI X pins H2 b:=λb hb=>by
  rcases VF.mp hb with rfl | hb
  ·exact fS
  ·exact f2 b hb
 rw [←hh3]at st3 hS
 refine wpAny_newFunctionEnv S.pC (by intro y hy; simp at hy) (λh1 hns hsb=>?_) S.kind
 have hsb':Heap.SameBut s3.heap.objs.size (s3.heap.push {cls:=.type "dict",data:=.dict #[]}) h1:=hsb
 have I4:Inv (aK X N' sc (bQ X.env.cells sc.names []) s3.heap.objs.size s3 H2 (Sa::fp)) [] (j8 src σ) H2 {s3 with heap:=h1,toks:=s3.toks+([]:List (Str×Value)).length} :=
  iJ S I3 f3 o3 hns hsb'
 have k4:∀b o,b<s3.heap.objs.size->s3.heap.get? b=some o->h1.get? b=some o:=λb o hb e=>(hsb'.2 b (VI hb)).trans (Vk _ e)
 have DN:tn 0 h1:=T.keep 0 _ _ st3 λb hb o e=>k4 b o (o3 b (Vz _ hb)) e
 have e0:(λk:Key=>lG [] k) = λ_=>false:=by
  funext k
  exact VG.mpr λz=>by cases f_.mp z
 have UG:tM s3.heap X.prog X.w Sa []:=by
  show Heap.SetOf _ _ _ (λk=>lG [] k) _
  rw [e0]
  exact hS
 have UT:tM h1 X.prog X.w Sa []:=jV UG λo e=>k4 _ o E5 e
 have fC:∀(H':Hp),H' s3.heap.objs.size=none->dI X pins H' s3.heap.objs.size:=λH' hn=>I3.mL (Vn _) hn
 generalize hY:aK X N' sc (bQ X.env.cells sc.names []) s3.heap.objs.size s3 H2 (Sa::fp)=Y at I4
 have NZ:Y.prog=X.prog:=by rw [←hY]
 have Ol:Y.w=X.w:=by rw [←hY]
 have Q_:Y.K=X.K:=by rw [←hY]
 have RW:Y.calm=X.calm:=by rw [←hY]
 have Oh:Y.A=X.A:=by rw [←hY]
 have Q9:Y.env=compEnvC sc (bQ X.env.cells sc.names []) s3.heap.objs.size X.env:=by rw [←hY]
 have N_:Y.ex=Sa::fp:=by rw [←hY]
 have QB:Y.xe = λ_ _=>False:=by rw [←hY]
 have Se:Y.pn=[]:=by rw [←hY]
 have Qu:PG Y target g:=by rw [←hY]; exact hg _ _ _ _ _
 have O3:PE Y elt te:=by rw [←hY]; exact he _ _ _ _ _
 have stat:∀{pl:List (Addr×Obj)} {H':Hp} {b:Addr},H' b=none->b∈Sa::fp->(∀p∈pl,p.1≠b)->dI Y pl H' b:=λ{pl H' b} hn hb hp =>
  ⟨hn,(I4.ok.Br b (by rw [N_]; exact hb)).1,I4.ok.om b (by rw [N_]; exact hb),.inl (by rw [N_]; exact hb),(I4.ok.Br b (by rw [N_]; exact hb)).2,λp h=>hp p (by rw [Se]at h; exact h)⟩
 have MT:∀{σ':St} {H':Hp} {s':Shared} {pl:List (Addr×Obj)} {o:Obj},Inv Y pl σ' H' s'->s'.heap.get? Sa=some o->(∀v,o.data≠ .cell v)->H' Sa=none->Inv Y [(Sa,o)] σ' H' s':=λ{σ' H' s' pl o} J e d hn =>
  J.i7 λp hp=>by
   have:p=(Sa,o):=by simpa using hp
   subst this
   exact⟨e,hn,(stat (pl:=[]) hn VU λ_ z=>nomatch z).2.1,(stat (pl:=[]) hn VU λ_ z=>nomatch z).2.2.1,d⟩
 have loop:codeAny (model X.prog X.w) X.A (.compLoop (.SetComp elt [⟨target,iter,[],0⟩] sc pos) 0 (.ref it) (.ref Sa) (compEnvC sc (bQ X.env.cells sc.names []) s3.heap.objs.size X.env))
   (RR (.ref Sa) s3.heap.objs.size) {s3 with heap:=h1,toks:=s3.toks+([]:List (Str×Value)).length}:=by
  refine AK (λn s'=>∃i σ' ks H',Inv Y [] σ' H' s'/\tn i s'.heap/\(∀b∈Sa::fp,H' b=none)/\tM s'.heap X.prog X.w Sa ks/\W i n σ' ks H') ?_ m0
   ⟨0,_,[],_,I4,DN,λb hb=>(f3 b hb).1,UT,w0⟩
  rintro n s5 ⟨i,nY,ks,H5,I5,uT,wZ,Qb,w5⟩
  obtain⟨hroom,alt⟩:=turn i n nY ks H5 w5
  obtain⟨oS,eS,dS⟩:=D5 Qb
  have RY:=MT I5 eS dS (wZ _ VU)
  have CT:∀{H':Hp},(∀b∈fp,H' b=none)->∀b∈fp,dI Y [(Sa,oS)] H' b:=λhn b hb=>stat (hn b hb) (Vz _ hb) λp hp=>by
   have:p=(Sa,oS):=by simpa using hp
   subst this
   exact(nS b hb).symm
  have QC:∀b∈fp,H5 b=none:=λb hb=>wZ b (Vz _ hb)
  rcases alt with⟨stop,qn⟩ | ⟨go,N,hN,step⟩
  ·have:=T.done Y NZ Ol Q_ (by rw [RW]; exact hc) i [(Sa,oS)] s5 nY H5 (λ_ _=>False) RY (CT QC) uT stop
   rw [Oh]at this
   refine cn this λr s6 ⟨hr,I6⟩=>?_
   subst hr
   have Su:tM s6.heap X.prog X.w Sa ks:=jV Qb λo e=>by
    rw [eS]at e; cases e
    exact(I6.pin (Sa,oS) (Vx _ (.head _))).1
   subst hY
   obtain⟨m6,n6,_⟩:=id I6.loc
   exact hRR _ _ s6 H5 m6 ks (I3.call' I6.os I6.base I6.hok I6.bare λb hb=>⟨(f3 b hb).2.2.2.1,(f3 b hb).2.1,(f3 b hb).2.2.2.2.1,(f3 b hb).2.2.2.2.2⟩) n6 (fC _ I6.free) (Nat.ne_of_gt E5) Su qn
  ·have:=T.item Y NZ Ol Q_ (by rw [RW]; exact hc) i [(Sa,oS)] s5 nY H5 (λ_ _=>False) RY (CT QC) uT go
   rw [Oh]at this
   refine cn this λr s6 ⟨u,hr,h6⟩=>?_
   subst hr
   refine cn h6 λ_ s7 ⟨x,H7,I7,r7,y7,tL,FL⟩=>?_
   have Fg:=I7.pinned (CT FL) (T.obj _ _ tL)
   have QH:=Qu _ s7 nY H7 x u _ Fg r7 (step x H7 y7)
   rw [NZ,Ol,Oh,Q9,QB]at QH
   refine cn QH λ_ s8 ⟨uS,H8,I8,q8⟩=>?_
   have QL:=O3 _ s8 uS H8 _ I8 q8
   rw [NZ,Ol,Oh,Q9,QB]at QL
   refine cn QL λxv s9 ⟨v,H9,I9,r9,k,ek,w9⟩=>?_
   subst ek
   obtain⟨hk1,hk2⟩:=JT r9
   have pS:=I9.pin (Sa,oS) (Vx _ (List.mem_append_left _ (.head _)))
   have SW:tM s9.heap X.prog X.w Sa ks:=jV Qb λo e=>by
    rw [eS]at e; cases e
    exact pS.1
   refine call_set_add (knd:=bL X.prog X.w) (k:=k) hk1 hk2 SW hroom λh' hsb hS'=>?_
   obtain⟨m',hm,w'⟩:=hN _ _ _ w9
   have IS:∀b∈fp,∀o,s7.heap.get? b=some o->s9.heap.get? b=some o/\H9 b=none:=λb hb o e=>by
    have:=I9.pin (b,o) (Vx _ (Vx _ (cO hb e)))
    exact⟨this.1,this.2.1⟩
   have TV:Inv Y [] uS H9 s9:=I9.i7 λp hp=>nomatch hp
   have Mu:=stat (pl:=[]) (H':=H9) (b:=Sa) pS.2.1 VU λ_ z=>nomatch z
   refine⟨m',hm,i+1,uS,fO ks k,H9,TV.turned (t':=s9.toks+1) (λb o hb e=>(hsb.2 b hb).trans e) Mu.1 Mu.2.1 Mu.2.2.2.1 Mu.2.2.2.2.1 Mu.2.2.2.2.2,T.keep _ _ _ tL λb hb o e=>(hsb.2 b (nS b hb)).trans (IS b hb o e).1,λb hb=>?_,?_,w'⟩
   ·rcases VF.mp hb with rfl | hb
    ·exact pS.2.1
    ·obtain⟨o,e,_⟩:=T.obj _ _ tL b hb
     exact(IS b hb o e).2
   ·have e1:(λk'=>lG ks k'||decide (k'=k)) = λk'=>lG (fO ks k) k':=by
     funext k'
     exact(EL ks k k').symm
    have e2:(if lG ks k=true then ks.length else ks.length+1)=(fO ks k).length:=by
     unfold fO
     by_cases h:lG ks k=true
     ·rw [V0 h,V0 h]
     ·rw [VZ h,VZ h,Vs]; rfl
    show h'.SetOf (bL X.prog X.w) Sa (λk'=>lG (fO ks k) k') (fO ks k).length
    rw [←e1,←e2]
    exact hS'
 exact yi loop (T.self _ 0 _ _ _ DN loop)
theorem xQ{np lp:Pos}(hc:X.calm=true)(Sr:Gl X "len")(Rr:X.mg "len"=none)(S:aZ X.env.scope X.N N' src sc)(hi:PI X target iter wi)
  (hg:∀cl C s H fp,PG (aK X N' sc cl C s H fp) target g) (he:∀cl C s H fp,PE (aK X N' sc cl C s H fp) elt te)
  (hs:∀x,foldedSetIterable iter X.env x=pure x:=by intro _; rfl) (hs1:starEach [Expr.SetComp elt [⟨target,iter,[],0⟩] sc pos] X.env=[(false,eval (.SetComp elt [⟨target,iter,[],0⟩] sc pos) X.env)]:=by rfl) :
  PE X (.Call (.Name "len" np) [.SetComp elt [⟨target,iter,[],0⟩] sc pos] [] lp) (FZ src wi g te):=by
 intro pins s σ H Q I h
 refine wpAny_Call_Name_kw (iO I Sr Rr We ?_ (by decide) (by decide))
 refine PyProof.Rows.callWith_builtin1 ?_ hs1 rfl
 rw [hs1]
 refine Calls.spliced_cons ?_
 rw [arm_eval_SetComp]
 refine wpAny_comprehension_free (use:=none) (e:=.SetComp elt [⟨target,iter,[],0⟩] sc pos) (g:=⟨target,iter,[],0⟩) (gs:=[]) rfl hs (c_ λy hy hk=>I.ok.has y.1 (S.free y hy hk)) S.kind (λy hy hl=>by rw [←hl]; exact S.uniq y hy) ?_
 refine cn (hi pins s σ H _ I h) λv s1 h1=>cn h1 λitv s2 h2=>?_
 obtain⟨it,fp,tn,J,H2,e,I2,T,st2,f2,hW⟩:=h2
 subst e
 refine xR (Q:=Q) (RR:=λacc C=>compPost (model X.prog X.w) X.A X.xe none (λv s2=>wpAny (model X.prog X.w) X.A (spliced []) (λvs s3=>wpAny (model X.prog X.w) X.A (call (.builtin "len") (v::vs)) (EP X pins σ Q) X.xe s3) X.xe s2) acc C) hc S hg he I2 T st2 f2 hW ?_
 intro D C s5 H' m ks I5 n5 fC hCD hS q
 refine⟨m,n5,λh' sb=>Calls.spliced_nil ?_⟩
 have I6:=I5.turned (t':=s5.toks) (λb o hb e=>(sb.2 b hb).trans e) fC.1 fC.2.1 fC.2.2.2.1 fC.2.2.2.2.1 fC.2.2.2.2.2
 obtain⟨o,es,ep,t,ho,hex,hd,hel,_,hb,hf,hn⟩:=jV (h':=h') hS λo e=>(sb.2 _ hCD.symm).trans e
 have hsc:(scanBound:Int)<2 ^ 63:=by decide
 have hlt:((es.size:Nat):Int)<2 ^ 63:=Int.lt_trans (Int.ofNat_lt.mpr hb) hsc
 refine call_len_set (s:={s5 with heap:=h',toks:=s5.toks}) ho hex hd hf hlt ?_
 exact⟨.int (ks.length:Nat),H',I6.kept (h':=h') (t':=s5.toks+1+1) λ_ _ e=>e,⟨_,by rw [hn]⟩,q⟩
end
end L2
namespace L2
open PySem
theorem yI{K:Wg}{a:Addr}{xs:List V}{g:TG}{te:TE}{Q:VK}{qM:St}{H0:Hp}(Pv:Nat->St->List Key->Hp->Prop)(h0:Pv 0 qM [] H0)(hb:∀i σ ks H,i<=xs.length->Pv i σ ks H->ks.length+1<scanBound)(hl:∀i σ ks H,i<=xs.length->Pv i σ ks H->aH K H a xs)
  (hs:∀i x σ ks H,xs[i]? = some x->Pv i σ ks H->g x σ H λdn H2=>te dn H2 λv H3=>∃k,v=kV k/\Pv (i+1) dn (fO ks k) H3)
  (hd:∀σ ks H,Pv xs.length σ ks H->Q (.int (ks.length:Nat)) H):∃W:Nat->Nat->St->List Key->Hp->Prop,(∃m,W 0 m qM [] H0)/\x4 (F5 K a) g te Q W:=by
 refine⟨λi m σ ks H=>m=xs.length-i/\i<=xs.length/\Pv i σ ks H,⟨xs.length,by simp,VJ _,h0⟩,?_⟩
 rintro i m σ ks H ⟨rfl,hi,p⟩
 have q:=hl i σ ks H hi p
 refine⟨hb i σ ks H hi p,?_⟩
 by_cases hlt:i<xs.length
 ·refine .inr ⟨⟨xs,xs[i],q,by simp [hlt]⟩,Pv (i+1),λσ' ks' H' p'=>⟨xs.length-(i+1),by omega,rfl,hlt,p'⟩,λx H' y=>?_⟩
  obtain⟨e,y⟩:=y
  subst e
  exact hs i x σ ks _ (y xs q) p
 ·have e:i=xs.length:=by omega
  subst e
  exact .inl ⟨⟨xs,q,Vn _⟩,hd σ ks H p⟩
theorem En(ks:List Key)(k:Key):ks.length<=(fO ks k).length/\(fO ks k).length<=ks.length+1:=by
 unfold fO
 split
 ·exact⟨Vn _,Nat.le_succ _⟩
 ·rw [Vs]; simp
end L2
namespace My
open PySem L2
noncomputable def gE (acc:List Key) (ss:List Str):List Key:=ss.foldl (λacc s=>fO acc (.inr s)) acc
theorem p8:∀(ss:List Str) (acc:List Key),acc.length<=(gE acc ss).length/\(gE acc ss).length<=acc.length+ss.length
 | [],acc=>⟨Vn _,Vn _⟩
 | s::ss,acc=>by
  have h1:=p8 ss (fO acc (.inr s))
  have h2:=En acc (.inr s)
  show acc.length<=(gE (fO acc (.inr s)) ss).length/\(gE (fO acc (.inr s)) ss).length<=acc.length+(ss.length+1)
  omega
theorem uW(s0:Str):∀ss:List Str,((gE [.inr s0] ss).length > 1) =¬(∀s∈ss,s=s0)
 | []=>by simp [gE]
 | s::ss=>by
  by_cases e:s=s0
  ·have:gE [.inr s0] (s::ss)=gE [.inr s0] ss:=by
    show gE (fO [.inr s0] (.inr s)) ss=_
    unfold fO
    rw [V0 (f_.mpr (by rw [e]; exact VD.mpr rfl))]
   rw [this,uW s0 ss]
   simp [e]
  ·have:gE [.inr s0] (s::ss)=gE [.inr s0,.inr s] ss:=by
    show gE (fO [.inr s0] (.inr s)) ss=_
    unfold fO
    rw [VZ (λz=>e (by have:=VD.mp (f_.mp z); injection this))]
    rfl
   have hl:=(p8 ss [.inr s0,.inr s]).1
   rw [this]
   simp only [VV,List.length_nil]at hl
   simp [e]
   omega
theorem AH(ss:List Str):decide ((1:Int)<((gE [] ss).length:Nat)) = !c7 ss:=by
 cases ss with
 | nil=>simp [gE,c7]
 | cons s ss =>
  have:gE [] (s::ss)=gE [.inr s] ss:=by
   show gE (fO [] (.inr s)) ss=_
   unfold fO
   rw [VZ (λz=>by cases f_.mp z)]
   rfl
  rw [this]
  have h:=uW s ss
  have e:c7 (s::ss)=decide (∀x∈ss,x=s):=by
   unfold c7
   rw [Bool.eq_iff_iff,List.all_eq_true,decide_eq_true_eq]
   constructor
   ·intro z x hx
    exact VX (z x (Vz _ hx))
   ·intro z x hx
    rcases VF.mp hx with rfl | hx
    ·exact Vq rfl
    ·exact Vq (z x hx)
  rw [e,←decide_not,decide_eq_decide]
  constructor
  ·intro z
   have:(gE [.inr s] ss).length > 1:=by omega
   rwa [h]at this
  ·intro z
   rw [←h]at z
   omega
theorem Bx{ss:List Str}{i:Nat}{s:Str}(h:ss[i]? = some s):gE [] (ss.take (i+1))=fO (gE [] (ss.take i)) (.inr s):=by
 unfold gE
 rw [take_one h,List.foldl_append]
 rfl
abbrev jw:Stmt:=top 26
theorem uC:ay ["worker","heads"] ["worker","heads"] (ar jw):=fs
variable{P:Program}{w:World}{K:Wg}{mg:Str->Option Value}{base:Heap}
theorem v_{n:Nat}(B:jH mg)(F:FA K mg "must_fits" jw)
  (il:bf bc P w K mg base 1 "sort_of" ["cell"] gj)
  (fv:bf bc P w K mg base 2 "cells_fit" ["cells","column_sort"] iT) :
  bf bc P w K mg base 3 "must_fits" ["worker","heads"] (dG n ba (qP λx=>∃c ps,x=.one (.must c ps))):=by
 refine F.ok uC λf cdv A outer s H vs Q E hr h=>?_
 obtain⟨a,l,x,as,hs,rfl,ha,hL,hn,hsm,ho,q⟩:=h
 refine⟨_,(aN (aU gG (xQ (N':=["old","new"]) (src:=[none,none]) rfl rfl B.len (aZ.jT (by kernel_rfl)) (cQ (az K (pv 0) ai)) (g:=i8 K 2 (bR (bE 0) (bR (bE 1) i5))) (λcl C s H fp=>(cG rfl (aA (eI (i:=0)) (aA (eI (i:=1)) bY)))) (te:=(ja gj [] E0 (bq (bD 1) fJ))) (λcl C s H fp=>(av (hg:=yH) il hr (ae (jd 1) ah)))) ai) eE
   (ax (av fv hr (ae (bx (N':=["old","new"]) (src:=[none,none]) rfl (aZ.jT (by kernel_rfl)) (cQ (az K (pv 0) ai)) (g:=(i8 K 2 (bR (bE 0) (bR (bE 1) i5)))) (λcl C s H fp=>(cG rfl (aA (eI (i:=0)) (aA (eI (i:=1)) bY)))) (λcl C s H fp=>aX) (te:=(bD 0)) (λcl C s H fp=>(jd 0))) (ae (az K (bo K (pv 1) ai) (aD bO (az K (pv 0) ai) ai)) ah))))),?_⟩
 obtain⟨⟨c,ps,rfl⟩,hf,hg⟩:=ho
 obtain⟨hd,rfl⟩:=dv hn
 obtain⟨a0,e0,gB⟩:=hL.nth (i:=0) rfl
 obtain⟨t,bs,h1,hI⟩:=cb.mp ha
 have hc:=cM hf (c:=c) (by simp [dg])
 have hz:ps.length<=1000:=hsm
 have hg:∀p∈ps,dZ p.1/\dZ p.2:=hg
 have hlb:(bs.map V.ref).length=ps.length:=by rw [Vr,hI.len]
 have hls:(ps.map λp=>sW p.2).length=ps.length:=Vr _
 refine⟨_,rfl,a,_,2,_,rfl,rfl,aH.of h1,rfl,t,rfl,⟨_,aH.of hI.tup⟩,?_⟩
 refine yI (xs:=bs.map V.ref) (λi σ ks H'=>(∃o1 o2,σ=[o1,o2])/\ks=gE [] ((ps.map λp=>sW p.2).take i)/\H'=H) ⟨⟨none,none,rfl⟩,rfl,rfl⟩ ?_ ?_ ?_ ?_
 ·rintro i σ ks H' hi ⟨_,rfl,_⟩
  have:=(p8 ((ps.map λp=>sW p.2).take i) []).2
  rw [VP,List.length_nil]at this
  exact Vu (show _<=1001 by omega) (by decide)
 ·rintro i σ ks H' _ ⟨_,_,rfl⟩
  exact aH.of hI.tup
 ·rintro i v σ ks H' hv ⟨⟨o1,o2,rfl⟩,rfl,rfl⟩
  obtain⟨b,p,rfl,ep,hb⟩:=hI.get hv
  refine⟨b,_,rfl,aH.of hb,rfl,_,_,rfl,ak ⟨_,_,rfl,ak ⟨rfl,?_⟩⟩⟩
  refine⟨_,rfl,p.2,rfl,(hg p (Vy ep)).2,.inr (sW p.2),rfl,⟨_,_,rfl⟩,?_,rfl⟩
  rw [Bx (by rw [VO,ep]; rfl)]
 ·rintro σ ks H' ⟨_,rfl,rfl⟩
  rw [hlb,←hls,V3]
  refine⟨_,_,rfl,rfl,_,rfl,?_⟩
  have q:∀Kc,aM H' Kc->Q (.bl (c7 (ps.map λp=>sW p.2)&&cZ (ps.map λp=>p.1) (bu hd c))) Kc:=q
  rw [AH]
  cases hO:c7 (ps.map λp=>sW p.2)with
  | false =>
   rw [hO]at q
   exact cp (q H' (aM.refl _))
  | true =>
   rw [hO]at q
   refine bB (aG ⟨_,rfl,a,_,2,_,rfl,rfl,aH.of h1,rfl,t,rfl,⟨_,aH.of hI.tup⟩,λD hD=>?_⟩)
   refine cI (xs:=bs.map V.ref) (λi σ ys H2=>(∃o1 o2,σ=[o1,o2])/\ys=(ps.take i).map (λp=>p.1)/\ys.length=i/\H2 D=some (.lst ys)/\aM H' H2) ⟨⟨none,none,rfl⟩,rfl,rfl,ag,aj hD _⟩ ?_ ?_ ?_ ?_ ?_
   ·rintro i σ ys H2 _ ⟨_,_,hi,h,_⟩
    exact⟨h,V_ hi⟩
   ·rintro i σ ys H2 _ ⟨_,_,_,_,sm⟩
    exact aH.of (sm _ _ hI.tup)
   ·rw [hlb]; exact Vo hz (by decide)
   ·rintro i v σ ys H2 hv ⟨⟨o1,o2,rfl⟩,rfl,hi,h,sm⟩
    obtain⟨b,p,rfl,ep,hb⟩:=hI.get hv
    refine⟨b,_,rfl,aH.of (sm _ _ hb),rfl,_,_,rfl,ak ⟨_,_,rfl,ak ⟨rfl,?_⟩⟩⟩
    refine⟨_,rfl,h,⟨_,_,rfl⟩,?_,?_,ag,bt hD sm⟩
    ·rw [take_one ep,Vt]; rfl
    ·rw [Vs,hi]; rfl
   ·rintro σ ys H2 ⟨_,rfl,hyl,h,sm⟩
    rw [hlb,V3]at h hyl
    refine⟨_,rfl,l,_,0,_,rfl,rfl,a_.of (sm _ _ hL.lst),au (j:=0) e0,_,rfl,a,_,1,_,rfl,rfl,aH.of (sm _ _ h1),rfl,_,_,rfl,rfl,a0,_,_,_,rfl,rfl,aH.of (sm _ _ gB),dJ hc,?_⟩
    refine⟨D,_,_,rfl,h,by omega,λv hv=>?_,λH3 s'=>q H3 (sm.trans s')⟩
    obtain⟨p,hp,rfl⟩:=VE.mp hv
    exact(hg p hp).1
end My
namespace L2
open PySem PySem.Spec PyProof.Rows
def jl(K:Wg)(d:Addr)(key:Str):Prop :=
 (d==sysModules)=false/\∃(es:Array DictEntry) (ep:Nat),K.lookup d=some ⟨.type "dict",none,.dict es ep,#[]⟩/\es.all (λe=>isExactStrKey e.key)=true/\es.findIdx? (λe=>e.key.isStr key)=none
def HG(K:Wg):R2:=λx y H Q=>∃d k,x=.str k/\y=.ref d/\(((∃f,dM K d k f)/\Q (.bl false) H)\/(jl K d k/\Q (.bl true) H))
section
variable{X:Cx}
theorem rA:je X (compareOp .NotIn) (HG X.K):=by
 intro pins s σ H x y v u Q I rx ry h
 obtain⟨d,k,rfl,rfl,h⟩:=h
 cases ry
 obtain⟨t,rfl⟩:=rx
 rcases h with⟨⟨f,es,ep,i,hx,te,lk,ha,hi,he⟩,q⟩ | ⟨⟨hd,es,ep,lk,ha,hi⟩,q⟩
 ·have ho:s.heap.get? d=some ⟨.type "dict",none,.dict es ep,#[]⟩:=I.jZ _ _ lk
  have hT:s.TypeIs (.ref d) "dict":=⟨_,ho,rfl⟩
  have fin:EP X pins σ Q (.bool false) {s with toks:=s.toks+1}:=⟨.bl false,H,I.kept (h':=s.heap) (t':=s.toks+1) λ_ _ e=>e,rfl,q⟩
  show wpAny _ _ (do return Value.bool (!(←contains (.ref d) (.str k t)))) (EP X pins σ Q) X.xe s
  refine Vi (wpAny_contains_slot hT slot_dict_contains (V9 slot_dict_contains hT entry_dict_contains ?_ (args_dict_contains _ _)))
  show wpAny _ _ (dictGet d (.str k t) >>= _) _ _ s
  refine Vi ?_
  unfold dictGet
  try with_reducible refine VS ?_
  refine Vi (wpAny_pyHash_str ?_)
  unfold dictFind
  refine Vi ?_
  try with_reducible refine VS ?_
  refine Vi (wpAny_dictEntries (s:={s with toks:=s.toks+1}) ho rfl ?_)
  dsimp only
  rw [V0 ha]
  unfold foundByValue
  rw [hi]
  dsimp only
  rw [he]
  dsimp only
  refine Vi (wpAny_dictEpoch (s:={s with toks:=s.toks+1}) ho rfl ?_)
  refine Vi (wpAny_eqBool_str ?_)
  refine Vi (wpAny_dictEpoch (s:={s with toks:=s.toks+1}) ho rfl ?_)
  rw [VZ (by simp),Vq rfl]
  refine Vi (wpAny_rule (Vj ?_))
  refine Vi (wpAny_dictEntries (s:={s with toks:=s.toks+1}) ho rfl (Vj ?_))
  rw [he]
  show wpAny _ _ (ret (.bool true)) _ _ _
  exact Vj ⟨_,rfl,wpAny_truthy_bool (Vj fin)⟩
 ·have ho:s.heap.get? d=some ⟨.type "dict",none,.dict es ep,#[]⟩:=I.jZ _ _ lk
  have hT:s.TypeIs (.ref d) "dict":=⟨_,ho,rfl⟩
  have fin:EP X pins σ Q (.bool true) {s with toks:=s.toks+1}:=⟨.bl true,H,I.kept (h':=s.heap) (t':=s.toks+1) λ_ _ e=>e,rfl,q⟩
  show wpAny _ _ (do return Value.bool (!(←contains (.ref d) (.str k t)))) (EP X pins σ Q) X.xe s
  refine Vi (wpAny_contains_slot hT slot_dict_contains (V9 slot_dict_contains hT entry_dict_contains ?_ (args_dict_contains _ _)))
  show wpAny _ _ (dictGet d (.str k t) >>= _) _ _ s
  refine Vi ?_
  unfold dictGet
  try with_reducible refine VS ?_
  refine Vi (wpAny_pyHash_str ?_)
  unfold dictFind
  refine Vi ?_
  try with_reducible refine VS ?_
  refine Vi (wpAny_dictEntries (s:={s with toks:=s.toks+1}) ho rfl ?_)
  dsimp only
  rw [V0 ha]
  unfold foundByValue
  rw [hi]
  dsimp only
  refine Vj ?_
  show wpAny _ _ (pure none) _ _ _
  refine Vj ?_
  show wpAny _ _ (Builtin.Dict.pendingKey? d _ >>= _) _ _ _
  exact Vi (wpAny_pendingKey_other hd (Vj ⟨_,rfl,wpAny_truthy_bool (Vj fin)⟩))
end
end L2
namespace My
open PySem L2
def IH(P:Program)(w:World)(K:Wg)(mg:Str->Option Value)(base:Heap)(aS:Addr)(n:Nat)(x:Wk):Prop :=
 (∃(f:Addr) (fd:FuncData),dM K aS x.nm f/\e_ P w K mg base bc 3 f fd ["worker","heads"] (dG n ba (qP λy=>y=x))/\PySem.W.keepIn K (.ref f)=true/\Binds K fd ["worker","heads"] [])\/(jl K aS x.nm/\∀hs,ba x hs=true)
theorem eG{n:Nat}{F:Wk->List Hd->Bool}{k k':Wk->Prop}(h:∀x,k' x->k x):∀vs H Q E,dG n F (qP k') vs H Q E->dG n F (qP k) vs H Q E:=by
 rintro vs H Q E ⟨a,l,x,as,hs,h1,h2,h3,h4,h5,⟨h6,h7⟩,h8⟩
 exact⟨a,l,x,as,hs,h1,h2,h3,h4,h5,⟨h x h6,h7⟩,h8⟩
variable{P:Program}{w:World}{K:Wg}{mg:Str->Option Value}{base:Heap}
theorem Bs{n:Nat}{aS:Addr}{f1 f2 f3 f4 f5 f6 f7 f8:Addr}
  (t1:dM K aS "keep" f1) (t2:dM K aS "same" f2) (t3:dM K aS "turn" f3) (t4:dM K aS "must" f4) (t5:dM K aS "walk" f5) (t6:dM K aS "sum" f6) (t7:dM K aS "both" f7) (t8:dM K aS "meet" f8)
  (u1:jl K aS "cut") (u2:jl K aS "sort") (u3:jl K aS "apart") (u4:jl K aS "count") (u5:jl K aS "number") (u6:jl K aS "first")
  (G1:FnAt P w K mg base 1 f1 ["worker","heads"] (dG n ba (qP λx=>∃c t,x=.one (.keep c t)))) (G2:FnAt P w K mg base 2 f2 ["worker","heads"] (dG n ba (qP λx=>∃c d,x=.one (.same c d)))) (G3:FnAt P w K mg base 3 f3 ["worker","heads"] (dG n ba (qP λx=>∃c ps,x=.one (.turn c ps)))) (G4:FnAt P w K mg base 3 f4 ["worker","heads"] (dG n ba (qP λx=>∃c ps,x=.one (.must c ps))))
  (G5:FnAt P w K mg base 3 f5 ["worker","heads"] (dG n ba (qP λx=>∃c mv,x=.one (.walk c mv)))) (G6:FnAt P w K mg base 1 f6 ["worker","heads"] (dG n ba (qP λx=>∃cs c,x=.one (.sum cs c)))) (G7:FnAt P w K mg base 1 f7 ["worker","heads"] (dG n ba (qP λx=>∃p q,x=.both p q))) (G8:FnAt P w K mg base 2 f8 ["worker","heads"] (dG n ba (qP λx=>∃c d p q,x=.meet c d p q))):∀x,IH P w K mg base aS n x:=by
 obtain⟨d1,G1,b1,k1⟩:=G1
 obtain⟨d2,G2,b2,k2⟩:=G2
 obtain⟨d3,G3,b3,k3⟩:=G3
 obtain⟨d4,G4,b4,k4⟩:=G4
 obtain⟨d5,G5,b5,k5⟩:=G5
 obtain⟨d6,G6,b6,k6⟩:=G6
 obtain⟨d7,G7,b7,k7⟩:=G7
 obtain⟨d8,G8,b8,k8⟩:=G8
 intro x
 match x with
 | .one (.keep c t)=>exact .inl ⟨f1,d1,t1,(G1.imp (eG λ_ e=>⟨c,t,e⟩)).mono (by omega),k1,b1⟩
 | .one (.same c d)=>exact .inl ⟨f2,d2,t2,(G2.imp (eG λ_ e=>⟨c,d,e⟩)).mono (by omega),k2,b2⟩
 | .one (.turn c ps)=>exact .inl ⟨f3,d3,t3,G3.imp (eG λ_ e=>⟨c,ps,e⟩),k3,b3⟩
 | .one (.must c ps)=>exact .inl ⟨f4,d4,t4,G4.imp (eG λ_ e=>⟨c,ps,e⟩),k4,b4⟩
 | .one (.walk c mv)=>exact .inl ⟨f5,d5,t5,G5.imp (eG λ_ e=>⟨c,mv,e⟩),k5,b5⟩
 | .one (.sum cs c)=>exact .inl ⟨f6,d6,t6,(G6.imp (eG λ_ e=>⟨cs,c,e⟩)).mono (by omega),k6,b6⟩
 | .both p q=>exact .inl ⟨f7,d7,t7,(G7.imp (eG λ_ e=>⟨p,q,e⟩)).mono (by omega),k7,b7⟩
 | .meet c d p q=>exact .inl ⟨f8,d8,t8,(G8.imp (eG λ_ e=>⟨c,d,p,q,e⟩)).mono (by omega),k8,b8⟩
 | .one (.cut _)=>exact .inr ⟨u1,λ_=>rfl⟩
 | .one (.sort _)=>exact .inr ⟨u2,λ_=>rfl⟩
 | .one .apart=>exact .inr ⟨u3,λ_=>rfl⟩
 | .one (.count _)=>exact .inr ⟨u4,λ_=>rfl⟩
 | .one .number=>exact .inr ⟨u5,λ_=>rfl⟩
 | .one (.first _)=>exact .inr ⟨u6,λ_=>rfl⟩
abbrev jv:Stmt:=top 32
theorem lV:ay ["worker","heads","fit"] ["worker","heads"] (ar jv):=fs
theorem wo{n:Nat}{aS:Addr}(mS:mg "SORTS_FIT"=some (.ref aS))(GS:∀x:Wk,IH P w K mg base aS n x)(F:FA K mg "sorts_fit" jv) :
  bf bc P w K mg base 4 "sorts_fit" ["worker","heads"] (dG n ba (qP λ_=>True)):=by
 refine F.ok lV λf cdv A outer s H vs Q E hr h=>?_
 obtain⟨a,l,x,as,hs,rfl,ha,hL,hn,hsm,ho,q⟩:=h
 refine⟨_,(aN (dk rA (az K (pv 0) ai) (dh rfl mS (show RelV (.ref aS) (.ref aS) from rfl)) rfl) eE
   (aq (aL (i:=2) lV.nd rfl (V2 rfl) (gn (r:=FT K) oK (dh rfl mS (show RelV (.ref aS) (.ref aS) from rfl)) (az K (pv 0) ai) (λ_ _=>rfl)))
   (ax (oG (k:=3) (pv 2) hr v7 (ae (pv 0) (ae (pv 1) ah)))))),?_⟩
 obtain⟨xs,h1⟩:=ha.first
 obtain⟨_,hf,hg⟩:=ho
 refine⟨_,rfl,a,_,0,_,rfl,rfl,aH.of h1,au (j:=0) rfl,aS,x.nm,rfl,rfl,?_⟩
 rcases GS x with⟨g,gd,Kz,FG,kG,bG⟩ | ⟨hno,he⟩
 ·refine .inl ⟨⟨g,Kz⟩,_,rfl,bB (aG ?_)⟩
  refine⟨_,rfl,a,_,0,_,rfl,rfl,aH.of h1,au (j:=0) rfl,aS,x.nm,g,rfl,rfl,Kz,ak ?_⟩
  dsimp only
  exact⟨_,rfl,g,gd,_,_,rfl,FG,kG,bG,_,rfl,_,rfl,a,l,x,as,hs,rfl,ha,hL,hn,hsm,⟨rfl,hf,hg⟩,q⟩
 ·refine .inr ⟨hno,_,rfl,cp ?_⟩
  have q:=q H (aM.refl _)
  rw [he hs]at q
  exact q
def xg(h:Hd)(cs:List Int):Prop:=∀c∈cs,1<=c/\c<=h.length
def qi:Sp:=λvs H Q _=>∃(a b:Addr) (h:Hd) (cs:List Int),vs=[.ref a,.ref b]/\dF H a h/\H b=some (.tup (cs.map V.int))/\cs.length<=1000/\xg h cs/\∀(u:Addr) (H':Hp),aM H H'->dF H' u (cs.map (bu h))->Q (.ref u) H'
abbrev oZ:Stmt:=top 33
theorem Ak:ay ["head","columns"] ["head","columns"] (ar oZ):=fs
theorem AE(B:jH mg)(F:FA K mg "picked" oZ) :
  bf bc P w K mg base 1 "picked" ["head","columns"] qi:=by
 refine F.ok Ak λf cdv A outer s H vs Q E hr h=>?_
 have hu:=iD hr
 obtain⟨a,b,h,cs,rfl,ha,hb,hz,ht,q⟩:=h
 refine⟨_,(ax (aW bH rfl B.tuple V6 (ae (bx (N':=["column","head"]) (src:=[none,some 0]) rfl (aZ.jT (by kernel_rfl)) (cQ (pv 1)) (λcl C s H fp=>(eI (i:=0))) (λcl C s H fp=>aX) (te:=(h_ (uy K) (bD 1) (h_ (A_ λi j=>V.int (i-j)) (bD 0) (tC (.int 1))))) (λcl C s H fp=>(az K (zw 1) (aD bO (jd 0) ai)))) ah))),?_⟩
 refine⟨_,rfl,b,rfl,⟨_,aH.of hb⟩,λD hD=>?_⟩
 refine cI (xs:=cs.map V.int) (λi σ ys H'=>(∃o,σ=[o,some (.ref a)])/\ys=((cs.take i).map (bu h)).map V.str/\ys.length=i/\H' D=some (.lst ys)/\aM H H') ⟨⟨none,rfl⟩,rfl,rfl,ag,aj hD _⟩ ?_ ?_ ?_ ?_ ?_
 ·rintro i σ ys H' _ ⟨_,_,hi,h,_⟩
  exact⟨h,V_ hi⟩
 ·rintro i σ ys H' _ ⟨_,_,_,_,sm⟩
  exact aH.of (sm _ _ hb)
 ·rw [Vr]; exact Vo hz (by decide)
 ·rintro i v σ ys H' hv ⟨⟨o,rfl⟩,rfl,hi,hh,sm⟩
  rw [VO]at hv
  cases ec:cs[i]? with
  | none=>rw [ec]at hv; cases hv
  | some c =>
   rw [ec]at hv
   have hv:V.int c=v:=VL hv
   subst hv
   refine⟨_,rfl,_,rfl,_,_,rfl,rfl,a,_,_,_,rfl,rfl,aH.of (sm _ _ ha),dJ (ht c (Vy ec)),hh,⟨_,rfl⟩,?_,?_,ag,bt hD sm⟩
   ·rw [take_one ec,Vt,Vt]; rfl
   ·rw [Vs,hi]; rfl
 ·rintro σ ys H' ⟨_,rfl,_,hh,sm⟩
  rw [Vr,V3]at hh
  exact⟨D,_,rfl,.inl ⟨a_.of hh,λu hu=>q u _ (sm.trans (aj hu _)) ag⟩⟩
theorem nX{ts:List Str}{c:Int}(h1:1<=c)(h2:c<=ts.length):fz (ts.map V.str) none (some (c-1))=(ts.take (c-1).toNat).map V.str:=by
 have:=oq (xs:=ts.map V.str) (n:=(c-1).toNat) (by rw [Vr]; omega)
 rw [show(((c-1).toNat:Nat):Int)=c-1 by omega]at this
 rw [this,List.map_take]
theorem jU{ts:List Str}{c:Int}(h1:1<=c)(h2:c<=ts.length):fz (ts.map V.str) (some c) none=(ts.drop c.toNat).map V.str:=by
 have:=vt (xs:=ts.map V.str) (n:=c.toNat) (by rw [Vr]; omega)
 rw [show((c.toNat:Nat):Int)=c by omega]at this
 rw [this,List.map_drop]
def bw:Wk->List Hd->Hd
 | .one (.cut cs),hs=>cs.map (bu (hs.headD []))
 | .one (.must c ps),hs=>(hs.headD []).take (c-1).toNat++(ps.take 1).map (λp=>sW p.2)++(hs.headD []).drop c.toNat
 | .one (.walk _ _),hs=>hs.headD []++(["w"]:Hd)
 | .one (.count cs),hs=>cs.map (bu (hs.headD []))++(["t"]:Hd)
 | .one (.sum cs _),hs=>cs.map (bu (hs.headD []))++(["t"]:Hd)
 | .one .number,hs=>hs.headD []++(["t"]:Hd)
 | .meet _ d _ _,hs=>hs.headD []++(hs.getD 1 []).take (d-1).toNat++(hs.getD 1 []).drop d.toNat
 | _,hs=>hs.headD []
def Q5:Wk->Prop
 | .one (.must _ ps)=>ps≠[]
 | _=>True
structure OM(k:Wk->Prop)(x:Wk)(hs:List Hd):Prop where
 k:k x
 fit:cV x hs=true
 good:goodW x
 ne:Q5 x
 sm:∀h∈hs,h.length<=1000
def dC(n:Nat)(k:Wk->Prop):Sp:=λvs H Q _=>∃(a l:Addr) (x:Wk) (as:List Addr) (hs:List Hd),vs=[.ref a,.ref l]/\cX n H a x/\gz H l as hs/\hs.length=BS x/\kJ x/\OM k x hs/\∀u H',aM H H'->dF H' u (bw x hs)->Q (.ref u) H'
theorem eT{a b:Addr}{xs ys:Hd}{H:Hp}{Q:VK}(h1:dF H a xs)(h2:dF H b ys)(hz:xs.length+ys.length<=100000)(q:∀t H',aM H H'->dF H' t (xs++ys)->Q (.ref t) H'):Ik (.ref a) (.ref b) H Q :=
 ⟨a,b,_,_,rfl,rfl,h1,h2,by rw [Vr,Vr]; exact Vo hz (by decide),λt H' s' ht=>q t H' s' (by rw [dF,Vt]; exact ht)⟩
abbrev gA:Stmt:=top 36
theorem nE:ay ["worker","heads"] ["worker","heads"] (ar gA):=fs
theorem EI{n:Nat}(F:FA K mg "head_of_walk" gA) :
  bf bc P w K mg base 1 "head_of_walk" ["worker","heads"] (dC n (λx=>∃c mv,x=.one (.walk c mv))):=by
 refine F.ok nE λf cdv A outer s H vs Q E hr h=>?_
 have hu:=iD hr
 obtain⟨a,l,x,as,hs,rfl,ha,hL,hn,hsm,ho,q⟩:=h
 refine⟨_,(ax (aD bZ (bo K (pv 1) ai) (aJ (ae ao ah)))),?_⟩
 obtain⟨c,mv,rfl⟩:=ho.k
 obtain⟨hd,rfl⟩:=dv hn
 obtain⟨a0,e0,gB⟩:=hL.nth (i:=0) rfl
 have hz:=ho.sm hd (by simp)
 refine⟨_,rfl,l,_,0,_,rfl,rfl,a_.of hL.lst,au (j:=0) e0,dH,λu hu=>?_⟩
 have su:=aj hu (.tup [.str "w"])
 exact eT (ys:=["w"]) (su _ _ gB) ag (by show _+1<=_; omega) λt H' s' ht=>q t H' (su.trans s') ht
abbrev fb:Stmt:=top 38
theorem lN:ay ["worker","heads"] ["worker","heads"] (ar fb):=fs
theorem yv{n:Nat}{tk:Tok}(mT:mg "TALLY"=some (.str "t" tk))(F:FA K mg "head_of_number" fb) :
  bf bc P w K mg base 1 "head_of_number" ["worker","heads"] (dC n (λx=>x=.one .number)):=by
 refine F.ok lN λf cdv A outer s H vs Q E hr h=>?_
 have hu:=iD hr
 obtain⟨a,l,x,as,hs,rfl,ha,hL,hn,hsm,ho,q⟩:=h
 refine⟨_,(ax (aD bZ (bo K (pv 1) ai) (aJ (ae (dh (v:=.str "t") rfl mT ⟨_,rfl⟩) ah)))),?_⟩
 cases ho.k
 obtain⟨hd,rfl⟩:=dv hn
 obtain⟨a0,e0,gB⟩:=hL.nth (i:=0) rfl
 have hz:=ho.sm hd (by simp)
 refine⟨_,rfl,l,_,0,_,rfl,rfl,a_.of hL.lst,au (j:=0) e0,dH,λu hu=>?_⟩
 have su:=aj hu (.tup [.str "t"])
 exact eT (ys:=["t"]) (su _ _ gB) ag (by show _+1<=_; omega) λt H' s' ht=>q t H' (su.trans s') ht
abbrev hX:Stmt:=top 34
theorem pV:ay ["worker","heads"] ["worker","heads"] (ar hX):=fs
theorem Gb{n:Nat}(F:FA K mg "head_of_cut" hX)
  (pH:bf bc P w K mg base 1 "picked" ["head","columns"] qi) :
  bf bc P w K mg base 2 "head_of_cut" ["worker","heads"] (dC n (λx=>∃cs,x=.one (.cut cs))):=by
 refine F.ok pV λf cdv A outer s H vs Q E hr h=>?_
 obtain⟨a,l,x,as,hs,rfl,ha,hL,hn,hsm,ho,q⟩:=h
 refine⟨_,(ax (av pH hr (ae (bo K (pv 1) ai) (ae (az K (pv 0) ai) ah)))),?_⟩
 obtain⟨cs,rfl⟩:=ho.k
 obtain⟨hd,rfl⟩:=dv hn
 obtain⟨a0,e0,gB⟩:=hL.nth (i:=0) rfl
 obtain⟨t,h1,h2⟩:=cb.mp ha
 exact⟨_,rfl,l,_,0,_,rfl,rfl,a_.of hL.lst,au (j:=0) e0,_,rfl,a,_,1,_,rfl,rfl,aH.of h1,rfl,a0,t,hd,cs,rfl,gB,h2,hsm,λc hc=>cM ho.fit hc,q⟩
abbrev eZ:Stmt:=top 37
theorem la:ay ["worker","heads"] ["worker","heads"] (ar eZ):=fs
theorem Cy{n:Nat}{tk:Tok}(mT:mg "TALLY"=some (.str "t" tk))(F:FA K mg "head_of_tallied" eZ)
  (pH:bf bc P w K mg base 1 "picked" ["head","columns"] qi) :
  bf bc P w K mg base 2 "head_of_tallied" ["worker","heads"] (dC n (λx=>∃cs,x=.one (.count cs)\/∃c,x=.one (.sum cs c))):=by
 refine F.ok la λf cdv A outer s H vs Q E hr h=>?_
 have hu:=iD hr
 have hu1:=jb hr
 obtain⟨a,l,x,as,hs,rfl,ha,hL,hn,hsm,ho,q⟩:=h
 refine⟨_,(ax (aD bZ (av pH hr (ae (bo K (pv 1) ai) (ae (az K (pv 0) ai) ah))) (aJ (ae (dh (v:=.str "t") rfl mT ⟨_,rfl⟩) ah)))),?_⟩
 have key:∃(cs:List Int) (hd:Hd) (t y:Addr) (v:V) (vs:List V),hs=[hd]/\H a=some (.tup (v :: .ref t::vs))/\H t=some (.tup (cs.map V.int))/\cs.length<=1000/\xg hd cs/\bw x hs=cs.map (bu hd)++(["t"]:Hd):=by
  obtain⟨cs,rfl | ⟨c,rfl⟩⟩:=ho.k
  ·obtain⟨hd,rfl⟩:=dv hn
   obtain⟨t,h1,h2⟩:=cb.mp ha
   exact⟨cs,hd,t,t,_,_,rfl,h1,h2,hsm,λc hc=>cM ho.fit hc,rfl⟩
  ·obtain⟨hd,rfl⟩:=dv hn
   obtain⟨t,h1,h2⟩:=cb.mp ha
   exact⟨cs,hd,t,t,_,_,rfl,h1,h2,hsm,λc hc=>cM ho.fit (List.mem_append_left _ hc),rfl⟩
 obtain⟨cs,hd,t,_,v,vs,rfl,h1,h2,hz,hth,eh⟩:=key
 obtain⟨a0,e0,gB⟩:=hL.nth (i:=0) rfl
 refine⟨_,rfl,l,_,0,_,rfl,rfl,a_.of hL.lst,au (j:=0) e0,_,rfl,a,_,1,_,rfl,rfl,aH.of h1,au (j:=1) rfl,a0,t,hd,cs,rfl,gB,h2,hz,hth,λu1 H1 s1 hu1=>?_⟩
 refine⟨dH,λu hu=>?_⟩
 have su:=aj hu (.tup [.str "t"])
 refine eT (ys:=["t"]) (su _ _ hu1) ag ?_ λt' H' s' ht=>q t' H' (s1.trans (su.trans s')) (by rw [eh]; exact ht)
 rw [Vr]
 show _+1<=_
 omega
abbrev gx:Stmt:=top 39
theorem nu:ay ["worker","heads"] ["worker","heads"] (ar gx):=fs
theorem CI{n:Nat}(F:FA K mg "head_of_meet" gx) :
  bf bc P w K mg base 1 "head_of_meet" ["worker","heads"] (dC n (λx=>∃c d p q,x=.meet c d p q)):=by
 refine F.ok nu λf cdv A outer s H vs Q E hr h=>?_
 obtain⟨a,l,x,as,hs,rfl,ha,hL,hn,hsm,ho,q⟩:=h
 refine⟨_,(ax (aD bZ (aD bZ (bo K (pv 1) ai) (bN cz (bo K (pv 1) ai) cC (bS (aD bO (az K (pv 0) ai) ai)))) (bN cz (bo K (pv 1) ai) (bS (az K (pv 0) ai)) cC))),?_⟩
 obtain⟨c,d,p,q',rfl⟩:=ho.k
 obtain⟨h0,h2,rfl⟩:=dR hn
 obtain⟨a0,e0,gB⟩:=hL.nth (i:=0) rfl
 obtain⟨a1,e1,vf⟩:=hL.nth (i:=1) rfl
 have hz0:=ho.sm h0 (by simp)
 have hz1:=ho.sm h2 (by simp)
 have hf:(there c h0&&there d h2)=true:=ho.fit
 rw [VW]at hf
 obtain⟨d1,d2⟩:=fc hf.2
 cases n with
 | zero=>exact V4 ha
 | succ n =>
 obtain⟨b,e,bs,es,h1,_⟩:=ha
 refine⟨_,rfl,l,_,0,_,rfl,rfl,a_.of hL.lst,au (j:=0) e0,_,rfl,l,_,1,_,rfl,rfl,a_.of hL.lst,au (j:=1) e1,?_⟩
 refine⟨_,rfl,a,_,2,_,rfl,rfl,aH.of h1,rfl,_,_,rfl,rfl,_,rfl,a1,_,rfl,vf,λt1 H1 s1 ht1=>?_⟩
 rw [nX d1 d2]at ht1
 refine eT (s1 _ _ gB) ht1 (by rw [VP]; omega) λt2 H2 s2 vU=>?_
 have s12:=s1.trans s2
 refine⟨_,rfl,l,_,1,_,rfl,rfl,a_.of (s12 _ _ hL.lst),au (j:=1) e1,_,rfl,a,_,2,_,rfl,rfl,aH.of (s12 _ _ h1),rfl,_,rfl,a1,_,rfl,s12 _ _ vf,λt3 H3 s3 IQ=>?_⟩
 rw [jU d1 d2]at IQ
 refine eT (s3 _ _ vU) IQ (by rw [Vs,VP,List.length_drop]; omega) λt4 H4 s4 E_=>q t4 H4 (s12.trans (s3.trans s4)) E_
abbrev fZ:Stmt:=top 35
theorem fE:ay ["worker","heads","column","pairs","told"] ["worker","heads"] (ar fZ):=fs
theorem BL{n:Nat}(B:jH mg)(F:FA K mg "head_of_must" fZ)
  (il:bf bc P w K mg base 1 "sort_of" ["cell"] gj) :
  bf bc P w K mg base 2 "head_of_must" ["worker","heads"] (dC n (λx=>∃c ps,x=.one (.must c ps))):=by
 refine F.ok fE λf cdv A outer s H vs Q E hr h=>?_
 have hu:=iD hr
 obtain⟨a,l,x,as,hs,rfl,ha,hL,hn,hsm,ho,q⟩:=h
 refine⟨_,(aq (Ke (i:=2) (j:=3) rfl fE.nd rfl rfl (by decide) rfl rfl (ae (az K (pv 0) ai) (ae (az K (pv 0) ai) ah)) rfl)
   (aq (kM (i:=4) (N':=["old","new"]) (src:=[none,none]) fE.nd rfl (V2 rfl) rfl rfl (aZ.jT (by kernel_rfl)) (cQ (bN cz (pv 3) cC (bS ai))) (g:=(i8 K 2 (bR (bE 0) (bR (bE 1) i5)))) (λcl C s H fp=>(cG rfl (aA (eI (i:=0)) (aA (eI (i:=1)) bY)))) (λcl C s H fp=>aX) (te:=(ja gj [] E0 (bq (bD 1) fJ))) (λcl C s H fp=>(av (hg:=yH) il hr (ae (jd 1) ah))))
   (ax (aD bZ (aD bZ (bN cz (bo K (pv 1) ai) cC (bS (aD bO (pv 2) ai))) (KP (aW bH rfl B.tuple V6 (ae (pv 4) ah)) (bN cz (bo K (pv 1) ai) (bS (aD bO (pv 2) ai)) (bS (pv 2))))) (bN cz (bo K (pv 1) ai) (bS (pv 2)) cC))))),?_⟩
 obtain⟨c,ps,rfl⟩:=ho.k
 obtain⟨hd,rfl⟩:=dv hn
 obtain⟨a0,e0,gB⟩:=hL.nth (i:=0) rfl
 obtain⟨t,bs,h1,hI⟩:=cb.mp ha
 obtain⟨c1,c2⟩:=cM ho.fit (c:=c) (by simp [dg])
 have hz:=ho.sm hd (by simp)
 have hne:ps≠[]:=ho.ne
 have hg:∀p∈ps,dZ p.1/\dZ p.2:=ho.good
 have O8:fz (bs.map V.ref) none (some 1)=(bs.take 1).map V.ref:=by
  have e:=oq (xs:=bs.map V.ref) (n:=1) (by rw [Vr,hI.len]; cases ps with | nil=>exact VY rfl hne | cons _ _=>simp)
  rw [List.map_take]
  exact e
 refine⟨_,rfl,a,_,1,_,rfl,rfl,aH.of h1,rfl,_,rfl,a,_,2,_,rfl,rfl,aH.of h1,rfl,_,_,rfl,?_⟩
 dsimp only
 refine⟨_,rfl,_,rfl,t,_,rfl,hI.tup,λt1 H1 s1 ht1=>?_⟩
 rw [O8]at ht1
 refine⟨t1,rfl,⟨_,aH.of ht1⟩,λD hD=>?_⟩
 have hl1:((bs.take 1).map V.ref).length=1:=by
  rw [Vr,VP,hI.len]; cases ps with | nil=>exact VY rfl hne | cons _ _=>simp
 refine cI (xs:=(bs.take 1).map V.ref) (λi σ ys H'=>(∃o1 o2,σ=[o1,o2])/\ys=((ps.take i).map λp=>sW p.2).map V.str/\ys.length=i/\H' D=some (.lst ys)/\aM H1 H') ⟨⟨none,none,rfl⟩,rfl,rfl,ag,aj hD _⟩ ?_ ?_ ?_ ?_ ?_
 ·rintro i σ ys H' _ ⟨_,_,hi,h,_⟩
  exact⟨h,V_ hi⟩
 ·rintro i σ ys H' _ ⟨_,_,_,_,sm⟩
  exact aH.of (sm _ _ ht1)
 ·rw [hl1]; decide
 ·rintro i v σ ys H' hv ⟨⟨o1,o2,rfl⟩,rfl,hi,h,sm⟩
  have hv':(bs.map V.ref)[i]? = some v:=by
   rw [List.map_take,List.getElem?_take]at hv
   split at hv
   ·exact hv
   ·cases hv
  obtain⟨b,p,rfl,ep,hb⟩:=hI.get hv'
  refine⟨b,_,rfl,aH.of (sm _ _ (s1 _ _ hb)),rfl,_,_,rfl,ak ⟨_,_,rfl,ak ⟨rfl,?_⟩⟩⟩
  refine⟨_,rfl,p.2,rfl,(hg p (Vy ep)).2,h,⟨_,_,rfl⟩,?_,?_,ag,bt hD sm⟩
  ·rw [take_one ep,Vt,Vt]; rfl
  ·rw [Vs,hi]; rfl
 ·rintro σ ys H' ⟨_,rfl,hi,h,sm⟩
  rw [hl1]at h hi
  have s2:=s1.trans sm
  refine ak ?_
  dsimp only
  refine⟨_,rfl,l,_,0,_,rfl,rfl,a_.of (s2 _ _ hL.lst),au (j:=0) e0,_,rfl,_,_,rfl,rfl,_,rfl,a0,_,rfl,s2 _ _ gB,λt3 H3 s3 IQ=>?_⟩
  rw [nX c1 c2]at IQ
  refine⟨_,rfl,D,_,rfl,.inl ⟨a_.of (s3 _ _ h),λu hu=>⟨true,.inr (.inl ⟨_,aH.of ag,?_⟩),cp ?_⟩⟩⟩
  ·cases ps with | nil=>exact VY rfl hne | cons _ _=>rfl
  have su:=aj hu (.tup (((ps.take 1).map λp=>sW p.2).map V.str))
  refine eT (su _ _ IQ) ag (by rw [VP,Vr,VP]; omega) λt4 H4 s4 E_=>?_
  have s5:=s2.trans (s3.trans (su.trans s4))
  refine⟨_,rfl,l,_,0,_,rfl,rfl,a_.of (s5 _ _ hL.lst),au (j:=0) e0,_,rfl,_,rfl,a0,_,rfl,s5 _ _ gB,λt6 H6 s6 Dt=>?_⟩
  rw [jU c1 c2]at Dt
  refine eT (s6 _ _ E_) Dt (by rw [Vs,VP,Vr,VP,List.length_drop]; omega) λt7 H7 s7 EV=>q t7 H7 (s5.trans (s6.trans s7)) EV
def DZ(P:Program)(w:World)(K:Wg)(mg:Str->Option Value)(base:Heap)(aT:Addr)(n:Nat)(x:Wk):Prop :=
 (∃(f:Addr) (fd:FuncData),dM K aT x.nm f/\e_ P w K mg base bc 2 f fd ["worker","heads"] (dC n λy=>y=x)/\PySem.W.keepIn K (.ref f)=true/\Binds K fd ["worker","heads"] [])\/(jl K aT x.nm/\∀hs,bw x hs=hs.headD [])
theorem eA{n:Nat}{k k':Wk->Prop}(h:∀x,k' x->k x):∀vs H Q E,dC n k' vs H Q E->dC n k vs H Q E:=by
 rintro vs H Q E ⟨a,l,x,as,hs,h1,h2,h3,h4,h5,⟨h6,h7,h8,h9,h10⟩,h11⟩
 exact⟨a,l,x,as,hs,h1,h2,h3,h4,h5,⟨h x h6,h7,h8,h9,h10⟩,h11⟩
theorem yO{n:Nat}{aT:Addr}{f1 f2 f3 f4 f5 f6:Addr}
  (t1:dM K aT "cut" f1) (t2:dM K aT "must" f2) (t3:dM K aT "walk" f3) (t4:dM K aT "count" f4) (Uw:dM K aT "sum" f4) (t5:dM K aT "number" f5) (t6:dM K aT "meet" f6)
  (u1:jl K aT "keep") (u2:jl K aT "same") (u3:jl K aT "turn") (u4:jl K aT "sort") (u5:jl K aT "apart") (u6:jl K aT "first") (u7:jl K aT "both")
  (G1:FnAt P w K mg base 2 f1 ["worker","heads"] (dC n λx=>∃cs,x=.one (.cut cs))) (G2:FnAt P w K mg base 2 f2 ["worker","heads"] (dC n λx=>∃c ps,x=.one (.must c ps))) (G3:FnAt P w K mg base 1 f3 ["worker","heads"] (dC n λx=>∃c mv,x=.one (.walk c mv))) (G4:FnAt P w K mg base 2 f4 ["worker","heads"] (dC n λx=>∃cs,x=.one (.count cs)\/∃c,x=.one (.sum cs c)))
  (G5:FnAt P w K mg base 1 f5 ["worker","heads"] (dC n λx=>x=.one .number)) (G6:FnAt P w K mg base 1 f6 ["worker","heads"] (dC n λx=>∃c d p q,x=.meet c d p q)):∀x,DZ P w K mg base aT n x:=by
 obtain⟨d1,G1,b1,k1⟩:=G1
 obtain⟨d2,G2,b2,k2⟩:=G2
 obtain⟨d3,G3,b3,k3⟩:=G3
 obtain⟨d4,G4,b4,k4⟩:=G4
 obtain⟨d5,G5,b5,k5⟩:=G5
 obtain⟨d6,G6,b6,k6⟩:=G6
 intro x
 match x with
 | .one (.cut cs)=>exact .inl ⟨f1,d1,t1,G1.imp (eA λ_ e=>⟨cs,e⟩),k1,b1⟩
 | .one (.must c ps)=>exact .inl ⟨f2,d2,t2,G2.imp (eA λ_ e=>⟨c,ps,e⟩),k2,b2⟩
 | .one (.walk c mv)=>exact .inl ⟨f3,d3,t3,(G3.imp (eA λ_ e=>⟨c,mv,e⟩)).mono (by omega),k3,b3⟩
 | .one (.count cs)=>exact .inl ⟨f4,d4,t4,G4.imp (eA λ_ e=>⟨cs,.inl e⟩),k4,b4⟩
 | .one (.sum cs c)=>exact .inl ⟨f4,d4,Uw,G4.imp (eA λ_ e=>⟨cs,.inr ⟨c,e⟩⟩),k4,b4⟩
 | .one .number=>exact .inl ⟨f5,d5,t5,(G5.imp (eA λ_ e=>e)).mono (by omega),k5,b5⟩
 | .meet c d p q=>exact .inl ⟨f6,d6,t6,(G6.imp (eA λ_ e=>⟨c,d,p,q,e⟩)).mono (by omega),k6,b6⟩
 | .one (.keep _ _)=>exact .inr ⟨u1,λ_=>rfl⟩
 | .one (.same _ _)=>exact .inr ⟨u2,λ_=>rfl⟩
 | .one (.turn _ _)=>exact .inr ⟨u3,λ_=>rfl⟩
 | .one (.sort _)=>exact .inr ⟨u4,λ_=>rfl⟩
 | .one .apart=>exact .inr ⟨u5,λ_=>rfl⟩
 | .one (.first _)=>exact .inr ⟨u6,λ_=>rfl⟩
 | .both _ _=>exact .inr ⟨u7,λ_=>rfl⟩
theorem C6{x:Wk}{hs:List Hd}(hn:hs.length=BS x):∃h0,hs[0]? = some h0/\hs.headD []=h0:=by
 cases hs with
 | nil=>cases x <;> cases hn
 | cons h0 r=>exact⟨h0,rfl,rfl⟩
abbrev jP:Stmt:=top 41
theorem ly:ay ["worker","heads","head_of_told"] ["worker","heads"] (ar jP):=fs
theorem vb{n:Nat}{aT:Addr}(mH:mg "HEADS_TOLD"=some (.ref aT))(GH:∀x:Wk,DZ P w K mg base aT n x)(F:FA K mg "head_told" jP) :
  bf bc P w K mg base 3 "head_told" ["worker","heads"] (dC n (λ_=>True)):=by
 refine F.ok ly λf cdv A outer s H vs Q E hr h=>?_
 obtain⟨a,l,x,as,hs,rfl,ha,hL,hn,hsm,ho,q⟩:=h
 refine⟨_,(aN (dk rA (az K (pv 0) ai) (dh rfl mH (show RelV (.ref aT) (.ref aT) from rfl)) rfl) (bo K (pv 1) ai)
   (aq (aL (i:=2) ly.nd rfl (V2 rfl) (gn (r:=FT K) oK (dh rfl mH (show RelV (.ref aT) (.ref aT) from rfl)) (az K (pv 0) ai) (λ_ _=>rfl)))
   (ax (oG (k:=2) (pv 2) hr v7 (ae (pv 0) (ae (pv 1) ah)))))),?_⟩
 obtain⟨xs,h1⟩:=ha.first
 refine⟨_,rfl,a,_,0,_,rfl,rfl,aH.of h1,au (j:=0) rfl,aT,x.nm,rfl,rfl,?_⟩
 rcases GH x with⟨g,gd,Kz,FG,kG,bG⟩ | ⟨hno,he⟩
 ·refine .inl ⟨⟨g,Kz⟩,_,rfl,bB (aG ?_)⟩
  refine⟨_,rfl,a,_,0,_,rfl,rfl,aH.of h1,au (j:=0) rfl,aT,x.nm,g,rfl,rfl,Kz,ak ?_⟩
  dsimp only
  exact⟨_,rfl,g,gd,_,_,rfl,FG,kG,bG,_,rfl,_,rfl,a,l,x,as,hs,rfl,ha,hL,hn,hsm,⟨rfl,ho.fit,ho.good,ho.ne,ho.sm⟩,q⟩
 ·refine .inr ⟨hno,_,rfl,cp ?_⟩
  obtain⟨h0,e0,eh⟩:=C6 hn
  obtain⟨a0,e0,gB⟩:=hL.nth e0
  refine⟨_,rfl,l,_,0,_,rfl,rfl,a_.of hL.lst,au (j:=0) e0,q a0 H (aM.refl _) ?_⟩
  rw [he hs,eh]
  exact gB
def dA:Wk->List (List Wk)
 | .one _=>[]
 | .both p q=>[p,q]
 | .meet _ _ p q=>[p,q]
def EM(n:Nat):Sp:=λvs H Q _=>∃(a:Addr) (x:Wk),vs=[.ref a]/\cX n H a x/\∀(u:Addr) (bs:List Addr) (H':Hp),aM H H'->bF (jC (n-1)) H' u bs (dA x)->Q (.ref u) H'
def Dy:List V:=[.str "both",.str "meet"]
def nF:List V:=[.str "keep",.str "same",.str "cut",.str "turn",.str "must"]
structure Gx(K:Wg)(mg:Str->Option Value)(nm:Str)(a:Addr)(vs:List V):Prop where
 m:mg nm=some (.ref a)
 t:∀H,aH K H a vs
theorem ua{x y:Str}:Fj (.str x) (.str y)=decide (y=x):=by
 show(x==y)=_
 by_cases h:x=y
 ·rw [h]; simp
 ·rw [Vp (λe=>h e.symm)]
  exact beq_false_of_ne h
def ck:Wk->Bool
 | .one _=>false
 | _=>true
def cF(s:Str):Bool:=inV (.str s) nF
theorem zm{x:Wk}:inV (.str x.nm) Dy=ck x:=by
 cases x with
 | one x=>cases x <;> (simp only [Wk.nm,W1.nm,ck]; decide +kernel)
 | both p q=>simp only [Wk.nm,ck]; decide +kernel
 | meet c d p q=>simp only [Wk.nm,ck]; decide +kernel
theorem vZ{us:List V}{a b:V}:fz (us++[a,b]) (some (-2)) none=[a,b]:=by
 unfold fz HT.dO
 have hl:(us++[a,b]).length=us.length+2:=by simp
 rw [hl]
 show List.take (us.length+2-(if(-2:Int)<0 then((-2:Int)+((us.length+2:Nat):Int)).toNat else _)) (List.drop (if(-2:Int)<0 then((-2:Int)+((us.length+2:Nat):Int)).toNat else _) (us++[a,b]))=_
 rw [V0 (by decide)]
 have:((-2:Int)+((us.length+2:Nat):Int)).toNat=us.length:=by omega
 rw [this,List.drop_left]
 simp
abbrev gQ:Stmt:=top 2
theorem pQ:ay ["worker"] ["worker"] (ar gQ):=fs
theorem JJ{n:Nat}{aB:Addr}(Cb:Gx K mg "BRANCHED" aB Dy)(F:FA K mg "branches_of" gQ) :
  bf bc P w K mg base 1 "branches_of" ["worker"] (EM n):=by
 refine F.ok pQ λf cdv A outer s H vs Q E hr h=>?_
 obtain⟨a,x,rfl,ha,q⟩:=h
 refine⟨_,(ax (gq (dk cv (az K (pv 0) ai) (dh (v:=.ref aB) rfl Cb.m rfl) rfl) (bN cz (pv 0) (bS (sj mr ai)) cC) (aJ ah))),?_⟩
 obtain⟨xs,h1⟩:=ha.first
 refine⟨_,rfl,a,_,0,_,rfl,rfl,aH.of h1,au (j:=0) rfl,aB,Dy,rfl,.inr (Cb.t _),rfl,rfl,_,rfl,?_⟩
 show if inV (.str x.nm) Dy=true then _ else _
 rw [zm]
 cases x with
 | one x =>
  refine bB ⟨yf,λp hp=>q p [] _ (aj hp _) ⟨ag,rfl,λi a x e=>by cases e⟩⟩
 | both p q' =>
  cases n with
  | zero=>exact V4 ha
  | succ n =>
  obtain⟨b,c,bs,cs,h1,h2,h3⟩:=ha
  refine cp ⟨_,rfl,_,rfl,_,rfl,a,_,rfl,h1,λt H' s' ht=>?_⟩
  rw [show [V.str "both",.ref b,.ref c]=[V.str "both"]++[.ref b,.ref c] from rfl,vZ]at ht
  refine q t [b,c] H' s' ⟨ht,rfl,λi a x e1 e2=>?_⟩
  have k:=aE.of s'
  match i with
  | 0=>cases e1; cases e2; exact jC.keep k ⟨bs,h2⟩
  | 1=>cases e1; cases e2; exact jC.keep k ⟨cs,h3⟩
  | i+2=>cases e1
 | meet c d p q' =>
  cases n with
  | zero=>exact V4 ha
  | succ n =>
  obtain⟨b,e,bs,es,h1,h2,h3⟩:=ha
  refine cp ⟨_,rfl,_,rfl,_,rfl,a,_,rfl,h1,λt H' s' ht=>?_⟩
  rw [show [V.str "meet",.int c,.int d,.ref b,.ref e]=[V.str "meet",.int c,.int d]++[.ref b,.ref e] from rfl,vZ]at ht
  refine q t [b,e] H' s' ⟨ht,rfl,λi a x e1 e2=>?_⟩
  have k:=aE.of s'
  match i with
  | 0=>cases e1; cases e2; exact jC.keep k ⟨bs,h2⟩
  | 1=>cases e1; cases e2; exact jC.keep k ⟨es,h3⟩
  | i+2=>cases e1
def aF:Wk->Str
 | .one (.first n)=>if n<=0 then "first 0" else "first"
 | x=>x.nm
def xY(n:Nat):Sp:=λvs H Q _=>∃(a:Addr) (x:Wk),vs=[.ref a]/\cX n H a x/\Q (.str (aF x)) H
theorem lx{x:Wk}(h:x.nm="first"):∃n,x=.one (.first n):=by
 revert h
 cases x with
 | one x=>cases x <;> simp only [Wk.nm,W1.nm] <;> first | (intro h; exact⟨_,rfl⟩) | (intro h; exact VY h (by decide +kernel))
 | both p q=>simp only [Wk.nm]; intro h; exact VY h (by decide +kernel)
 | meet c d p q=>simp only [Wk.nm]; intro h; exact VY h (by decide +kernel)
theorem lX{x:Wk}(h:x.nm≠"first"):aF x=x.nm:=by
 cases x with
 | one x=>cases x <;> first | rfl | exact VY rfl h
 | both p q=>rfl
 | meet c d p q=>rfl
abbrev g_:Stmt:=top 42
theorem p6:ay ["worker"] ["worker"] (ar g_):=fs
theorem Hu{n:Nat}(F:FA K mg "name_passed" g_) :
  bf bc P w K mg base 1 "name_passed" ["worker"] (xY n):=by
 refine F.ok p6 λf cdv A outer s H vs Q E hr h=>?_
 obtain⟨a,x,rfl,ha,q⟩:=h
 refine⟨_,(aN (PW.pt (jR (aU aP (az K (pv 0) ai) ao) (gI (aU Eb (az K (pv 0) ai) ai)))) ao
   (ax (az K (pv 0) ai))),?_⟩
 obtain⟨xs,h1⟩:=ha.first
 refine⟨_,rfl,a,_,0,_,rfl,rfl,aH.of h1,au (j:=0) rfl,rfl,_,rfl,?_⟩
 rw [bP]
 by_cases e:x.nm="first"
 ·rw [Vq e]
  obtain⟨m,rfl⟩:=lx e
  have h1:H a=some (.tup [.str "first",.int m]):=cb.mp ha
  refine cp ⟨_,rfl,a,_,1,_,rfl,rfl,aH.of h1,rfl,_,_,rfl,rfl,_,rfl,?_⟩
  have q:Q (.str (if m<=0 then "first 0" else "first")) H:=q
  refine cJ (λk=>?_) (λk=>aG ?_)
  ·rw [V0 (VX k)]at q
   exact q
  ·rw [VZ (λz=>k (Vq z))]at q
   exact⟨_,rfl,a,_,0,_,rfl,rfl,aH.of h1,rfl,q⟩
 ·rw [Vp e]
  rw [lX e]at q
  exact bB (bB (aG ⟨_,rfl,a,_,0,_,rfl,rfl,aH.of h1,au (j:=0) rfl,q⟩))
structure Kn where
 hd:Hd
 ps:List Str
 lo:Bool
def gD(H:Hp)(a:Addr)(k:Kn):Prop:=∃h p,H a=some (.tup [.ref h,.ref p,.bl k.lo])/\dF H h k.hd/\dF H p k.ps
theorem gD.same{H H':Hp}{a:Addr}{k:Kn}(s:aM H H')(h:gD H a k):gD H' a k:=by
 obtain⟨u,p,h1,h2,h3⟩:=h
 exact⟨u,p,s _ _ h1,s _ _ h2,s _ _ h3⟩
def jY:Wk->List Str->Bool
 | .one (.walk _ _),ps=>ps.all cF
 | .meet _ _ p q,_=>(p++q).all λw=>cF w.nm
 | _,_=>true
def BR(x:Wk):Prop:=∀p∈dA x,p.length<=1000
def Ez(n:Nat):Sp:=λvs H Q _=>∃(a b:Addr) (x:Wk) (k:Kn),vs=[.ref a,.ref b]/\cX n H a x/\gD H b k/\k.ps.length<=1000/\BR x/\∀H',aM H H'->Q (.bl (jY x k.ps)) H'
theorem zh{x:Wk}(h:x.nm="walk"):∃c mv,x=.one (.walk c mv):=by
 revert h
 cases x with
 | one x=>cases x <;> simp only [Wk.nm,W1.nm] <;> first | (intro h; exact⟨_,_,rfl⟩) | (intro h; exact VY h (by decide +kernel))
 | both p q=>simp only [Wk.nm]; intro h; exact VY h (by decide +kernel)
 | meet c d p q=>simp only [Wk.nm]; intro h; exact VY h (by decide +kernel)
theorem iZ{x:Wk}(h:x.nm="meet"):∃c d p q,x=.meet c d p q:=by
 revert h
 cases x with
 | one x=>cases x <;> simp only [Wk.nm,W1.nm] <;> (intro h; exact VY h (by decide +kernel))
 | both p q=>simp only [Wk.nm]; intro h; exact VY h (by decide +kernel)
 | meet c d p q=>intro h; exact⟨_,_,_,_,rfl⟩
theorem EH{x:Wk}{ps:List Str}(h:x.nm≠"walk")(h2:x.nm≠"meet"):jY x ps=true:=by
 cases x with
 | one x=>cases x <;> first | rfl | exact VY rfl h
 | both p q=>rfl
 | meet c d p q=>exact VY rfl h2
abbrev kO:Stmt:=top 43
theorem wQ:ay ["worker","known"] ["worker","known"] (ar kO):=fs
theorem yJ{n:Nat}{aO:Addr}(B2:iW mg)(Co:Gx K mg "ONE_ROW" aO nF)(F:FA K mg "rows_fit" kO)
  (ig:bf bc P w K mg base 1 "branches_of" ["worker"] (EM n)) :
  bf bc P w K mg base 2 "rows_fit" ["worker","known"] (Ez n):=by
 refine F.ok wQ λf cdv A outer s H vs Q E hr h=>?_
 have hu:=iD hr
 obtain⟨a,b,x,k,rfl,ha,hk,hps,Ir,q⟩:=h
 refine⟨_,(aN (aU aP (az K (pv 0) ai) ao) (bg (iC rfl) rfl B2.all PyProof.Rows.boot_all (ae (bx (N':=["name"]) (src:=[none]) rfl (aZ.jT (by kernel_rfl)) (cQ (az K (pv 1) ai)) (λcl C s H fp=>(eI (i:=0))) (λcl C s H fp=>aX) (te:=(h_ (Ih K false) (bD 0) (tC (.ref aO)))) (λcl C s H fp=>(fL cv (jd 0) (dh (v:=.ref aO) yH Co.m rfl) rfl))) ah))
   (aN (aU aP (az K (pv 0) ai) ao) (bg (iC rfl) rfl B2.all PyProof.Rows.boot_all (ae (rY (N':=["branch","inner"]) (src:=[none,none]) rfl (aZ.jT (by kernel_rfl)) (cQ (av ig hr (ae (pv 0) ah))) (λcl C s H fp=>(eI (i:=0))) (λcl C s H fp=>aX) (wi2:=(HF K (bD 0))) (λcl C s H fp=>(cQ (jd 0))) (λcl C s H fp=>(eI (i:=1))) (λcl C s H fp=>aX) (te:=(h_ (Ih K false) (h_ (uy K) (bD 1) (tC (.int 0))) (tC (.ref aO)))) (λcl C s H fp=>(fL cv (az K (jd 1) ai) (dh (v:=.ref aO) yH Co.m rfl) rfl))) ah))
   (ax eE))),?_⟩
 obtain⟨xs,h1⟩:=ha.first
 refine⟨_,rfl,a,_,0,_,rfl,rfl,aH.of h1,au (j:=0) rfl,rfl,_,rfl,?_⟩
 rw [bP]
 by_cases e:x.nm="walk"
 ·rw [Vq e]
  obtain⟨c,mv,rfl⟩:=zh e
  obtain⟨hh,p,hk1,hk2,hk3⟩:=hk
  refine cp ⟨_,rfl,b,_,1,_,rfl,rfl,aH.of hk1,rfl,p,rfl,⟨_,aH.of hk3⟩,λD hD=>?_⟩
  refine cI (xs:=k.ps.map V.str) (λi σ ys H'=>(∃o,σ=[o])/\ys=((k.ps.take i).map cF).map V.bl/\ys.length=i/\H' D=some (.lst ys)/\aM H H') ⟨⟨none,rfl⟩,rfl,rfl,ag,aj hD _⟩ ?_ ?_ ?_ ?_ ?_
  ·rintro i σ ys H' _ ⟨_,_,hi,h,_⟩
   exact⟨h,V_ hi⟩
  ·rintro i σ ys H' _ ⟨_,_,_,_,sm⟩
   exact aH.of (sm _ _ hk3)
  ·rw [Vr]; exact Vo hps (by decide)
  ·rintro i v σ ys H' hv ⟨⟨o,rfl⟩,rfl,hi,h,sm⟩
   rw [VO]at hv
   cases ec:k.ps[i]? with
   | none=>rw [ec]at hv; cases hv
   | some s0 =>
    rw [ec]at hv
    have hv:V.str s0=v:=VL hv
    subst hv
    refine⟨_,rfl,aO,nF,rfl,.inr (Co.t _),rfl,rfl,h,⟨_,rfl⟩,?_,?_,ag,bt hD sm⟩
    ·rw [take_one ec,Vt,Vt]; rfl
    ·rw [Vs,hi]; rfl
  ·rintro σ ys H' ⟨_,rfl,_,h,sm⟩
   rw [Vr,V3]at h
   refine⟨D,_,rfl,a_.of h,?_⟩
   rw [show(k.ps.map cF).all id=k.ps.all cF by rw [List.all_map]; rfl]
   exact q H' sm
 ·rw [Vp e]
  refine bB (aG ⟨_,rfl,a,_,0,_,rfl,rfl,aH.of h1,au (j:=0) rfl,rfl,_,rfl,?_⟩)
  rw [bP]
  by_cases e2:x.nm="meet"
  ·rw [Vq e2]
   obtain⟨c,d,p1,p2,rfl⟩:=iZ e2
   refine cp ⟨_,rfl,a,_,rfl,ha,λu bs H1 s1 hI=>⟨u,rfl,⟨_,aH.of hI.tup⟩,λD hD=>?_⟩⟩
   let ws:Nat->List Wk:=λi=>(([p1,p2]:List (List Wk)).take i).flatten
   have hw1:p1.length<=1000:=Ir p1 (by simp [dA])
   have hw2:p2.length<=1000:=Ir p2 (by simp [dA])
   have hlb:(bs.map V.ref).length=2:=by rw [Vr,hI.len]; rfl
   have hws:∀i,(ws i).length<=2000:=by
    intro i
    match i with
    | 0=>exact VJ _
    | 1=>show(p1++[]).length<=_; rw [V8]; omega
    | i+2=>show((p1::p2::List.take i []).flatten).length<=_; rw [List.take_nil]; show(p1++(p2++[])).length<=_; rw [V8,Vs]; omega
   refine rR (xs:=bs.map V.ref) (λi σ ys H'=>(∃o1 o2,σ=[o1,o2])/\ys=(ws i).map (λw=>V.bl (cF w.nm))/\H' D=some (.lst ys)/\aM H1 H') ⟨⟨none,none,rfl⟩,rfl,ag,aj hD _⟩ ?_ ?_ ?_ ?_
   ·rintro i σ ys H' _ ⟨_,_,h,_⟩
    exact h
   ·rintro i σ ys H' _ ⟨_,_,_,sm⟩
    exact aH.of (sm _ _ hI.tup)
   ·rintro i v σ ys H' hv ⟨⟨o1,o2,rfl⟩,rfl,h,sm⟩
    obtain⟨b',pp,rfl,ep,cs,hJ⟩:=hI.get hv
    have hpl:pp.length<=1000:=Ir pp (Vy ep)
    refine ak ⟨_,rfl,b',rfl,⟨_,aH.of (sm _ _ hJ.tup)⟩,?_⟩
    refine l8 (xs:=cs.map V.ref) (λj σ zs H2=>(∃o,σ=[some (.ref b'),o])/\zs=(ws i).map (λw=>V.bl (cF w.nm))++(pp.take j).map (λw=>V.bl (cF w.nm))/\H2 D=some (.lst zs)/\aM H1 H2) ⟨⟨o2,rfl⟩,by rw [List.take_zero,List.map_nil,V8],h,sm⟩ ?_ ?_ ?_ ?_
    ·rintro j σ zs H2 hj ⟨_,rfl,h2,_⟩
     refine⟨h2,λ_=>?_⟩
     rw [Vs,Vr,Vr,VP]
     have:=hws i
     exact Vu (show _<=3000 by omega) (by decide)
    ·rintro j σ zs H2 _ ⟨_,_,_,s2⟩
     exact aH.of (s2 _ _ hJ.tup)
    ·rintro j v2 σ zs H2 hu' ⟨⟨o,rfl⟩,rfl,h2,s2⟩
     obtain⟨c',wk,rfl,ew,hW⟩:=hJ.get hu'
     obtain⟨ys',hW⟩:=hW.first
     refine ak ⟨_,rfl,c',_,0,_,rfl,rfl,aH.of (s2 _ _ hW),au (j:=0) rfl,aO,nF,rfl,.inr (Co.t _),rfl,rfl,h2,⟨_,rfl⟩,?_,ag,bt hD s2⟩
     rw [take_one ew,Vt,List.append_assoc]; rfl
    ·rintro σ zs H2 ⟨⟨o,rfl⟩,rfl,h2,s2⟩
     refine⟨⟨_,_,rfl⟩,?_,h2,s2⟩
     rw [Vr,hJ.len,V3,←Vt]
     congr 1
     show _=((dA (.meet c d p1 p2)).take (i+1)).flatten
     rw [take_one ep,List.flatten_append]
     show _=_++(pp++[])
     rw [V8]
     rfl
   ·rintro σ ys H' ⟨_,rfl,h,sm⟩
    rw [hlb]at h
    refine⟨D,(p1++p2).map λw=>cF w.nm,rfl,a_.of ?_,?_⟩
    ·rw [h,List.map_map]
     show some (HO.lst ((p1++(p2++[])).map _))=_
     rw [V8]
     rfl
    ·rw [List.all_map]
     exact q H' (s1.trans sm)
  ·rw [Vp e2]
   rw [EH e e2]at q
   exact bB (aG (q H (aM.refl _)))
theorem rG(ss:List Str):(ss.map V.str).all fu=true:=by
 rw [List.all_eq_true]
 intro v hv
 obtain⟨s,_,rfl⟩:=VE.mp hv
 rfl
def ll(ps:List Str)(s:Str):Bool:=inV (.str s) (ps.map V.str)
theorem Gk{ps:List Str}{s:Str}:ll ps s=true↔s∈ps:=by
 unfold ll inV
 rw [List.any_eq_true]
 constructor
 ·rintro⟨v,hv,e⟩
  obtain⟨t,ht,rfl⟩:=VE.mp hv
  rw [ua]at e
  rw [VX e]
  exact ht
 ·intro h
  exact⟨.str s,VE.mpr ⟨s,h,rfl⟩,by rw [ua]; exact Vq rfl⟩
def fe:Wk->Kn->Bool
 | .one (.keep c _),k=>decide (bu k.hd c="t")
 | .one (.first n),k=>decide (¬n<=0)&&(ll k.ps "walk"||ll k.ps "both"||ll k.ps "meet")
 | .meet ..,k=>ll k.ps "walk"||ll k.ps "first"
 | _,_=>false
def keepIn(x:Wk)(h:Hd):Prop:=∀c t,x=.one (.keep c t)->1<=c/\c<=h.length
def y0(n:Nat):Sp:=λvs H Q _=>∃(a b:Addr) (x:Wk) (k:Kn),vs=[.ref a,.ref b]/\cX n H a x/\gD H b k/\keepIn x k.hd/\∀H',aM H H'->Q (.bl (fe x k)) H'
theorem sZ{x:Wk}(h:x.nm="keep"):∃c t,x=.one (.keep c t):=by
 revert h
 cases x with
 | one x=>cases x <;> simp only [Wk.nm,W1.nm] <;> first | (intro h; exact⟨_,_,rfl⟩) | (intro h; exact VY h (by decide +kernel))
 | both p q=>simp only [Wk.nm]; intro h; exact VY h (by decide +kernel)
 | meet c d p q=>simp only [Wk.nm]; intro h; exact VY h (by decide +kernel)
theorem pG{x:Wk}:aF x="first"↔∃n,¬n<=(0:Int)/\x=.one (.first n):=by
 constructor
 ·intro h
  by_cases e:x.nm="first"
  ·obtain⟨n,rfl⟩:=lx e
   refine⟨n,λz=>?_,rfl⟩
   have h:(if n<=0 then("first 0" : Str)else "first")="first":=h
   rw [V0 z]at h
   exact VY h (by decide +kernel)
  ·rw [lX e]at h
   exact VY h e
 ·rintro⟨n,h,rfl⟩
  show(if n<=0 then("first 0" : Str)else "first")="first"
  rw [VZ h]
theorem Au{x:Wk}{k:Kn}(h1:x.nm≠"keep")(h2:aF x≠"first")(h3:x.nm≠"meet"):fe x k=false:=by
 match x with
 | .one (.keep _ _)=>exact VY rfl h1
 | .one (.first n) =>
  have:n<=0:=by
   by_cases z:n<=0
   ·exact z
   ·exact VY (pG.mpr ⟨n,z,rfl⟩) h2
  show(decide (¬n<=0)&&_)=false
  rw [Vp (λz=>z this)]
  rfl
 | .meet ..=>exact VY rfl h3
 | .both ..=>rfl
 | .one (.same ..)=>rfl
 | .one (.cut ..)=>rfl
 | .one (.turn ..)=>rfl
 | .one (.must ..)=>rfl
 | .one (.walk ..)=>rfl
 | .one (.sort ..)=>rfl
 | .one .apart=>rfl
 | .one (.count ..)=>rfl
 | .one (.sum ..)=>rfl
 | .one .number=>rfl
abbrev gO:Stmt:=top 45
theorem eU:ay ["worker","known","head","passed","loose"] ["worker","known"] (ar gO):=fs
theorem Ey{n:Nat}{tk:Tok}(B3:A2 mg)(mT:mg "TALLY"=some (.str "t" tk))(F:FA K mg "makes_loose" gO)
  (gW:bf bc P w K mg base 1 "name_passed" ["worker"] (xY n)) :
  bf bc P w K mg base 2 "makes_loose" ["worker","known"] (y0 n):=by
 refine F.ok eU λf cdv A outer s H vs Q E hr h=>?_
 have hu:=iD hr
 have hu1:=jb hr
 obtain⟨a,b,x,k,rfl,ha,hk,hkp,q⟩:=h
 refine⟨_,(aq (oP (pv 1) (cG rfl (aA (bU (i:=2) eU.nd rfl (V2 rfl)) (aA (bU (i:=3) eU.nd rfl (Or.inr rfl)) (aA (bU (i:=4) eU.nd rfl (V2 rfl)) bY)))))
   (aN (aU aP (az K (pv 0) ai) ao) (bT aP (az K (pv 2) (aD bO (az K (pv 0) ai) ai)) (dh (v:=.str "t") rfl mT ⟨_,rfl⟩))
   (aN (aU aP (av gW hr (ae (pv 0) ah)) ao) (bg (lY rfl) rfl B3.any PyProof.Rows.boot_any (ae (bx (N':=["name","passed"]) (src:=[none,some 3]) rfl (aZ.jT (by kernel_rfl)) (cQ (aJ (ae ao (ae ao (ae ao ah))))) (λcl C s H fp=>(eI (i:=0))) (λcl C s H fp=>aX) (te:=(h_ (Ih K false) (bD 0) (bD 1))) (λcl C s H fp=>(fL cv (jd 0) (zw 1) rfl))) ah))
   (aN (aU aP (az K (pv 0) ai) ao) (bg (lY rfl) rfl B3.any PyProof.Rows.boot_any (ae (bx (N':=["name","passed"]) (src:=[none,some 3]) rfl (aZ.jT (by kernel_rfl)) (cQ (aJ (ae ao (ae ao ah)))) (λcl C s H fp=>(eI (i:=0))) (λcl C s H fp=>aX) (te:=(h_ (Ih K false) (bD 0) (bD 1))) (λcl C s H fp=>(fL cv (jd 0) (zw 1) rfl))) ah))
   (ax eE))))),?_⟩
 obtain⟨xs,h1⟩:=ha.first
 obtain⟨hh,p,hk1,hk2,hk3⟩:=hk
 refine⟨_,rfl,b,_,rfl,aH.of hk1,rfl,_,_,rfl,ak ⟨_,_,rfl,ak ⟨_,_,rfl,ak ⟨rfl,?_⟩⟩⟩⟩
 dsimp only
 refine⟨_,rfl,a,_,0,_,rfl,rfl,aH.of h1,au (j:=0) rfl,rfl,_,rfl,?_⟩
 rw [bP]
 by_cases e:x.nm="keep"
 ·rw [Vq e]
  obtain⟨c,t,rfl⟩:=sZ e
  obtain⟨st,ys,hx1,hx2⟩:=cb.mp ha
  refine cp ⟨_,rfl,_,rfl,a,_,1,_,rfl,rfl,aH.of hx1,rfl,_,_,rfl,rfl,hh,_,_,_,rfl,rfl,aH.of hk2,dJ (hkp c t rfl),rfl,?_⟩
  rw [bP]
  exact q H (aM.refl _)
 rw [Vp e]
 refine bB (aG ⟨_,rfl,a,x,rfl,ha,rfl,_,rfl,?_⟩)
 rw [bP]
 by_cases e2:aF x="first"
 ·rw [Vq e2]
  obtain⟨m,hm,rfl⟩:=pG.mp e2
  refine cp ⟨fM,λu hu=>?_⟩
  have su:=aj hu (.tup [V.str "walk",.str "both",.str "meet"])
  have hu1:upd H u (.tup [V.str "walk",.str "both",.str "meet"]) u=_:=ag
  revert su hu1
  generalize upd H u (.tup [V.str "walk",.str "both",.str "meet"])=H1
  intro su hu1
  refine⟨u,rfl,⟨_,aH.of hu1⟩,λD hD=>?_⟩
  refine cI (xs:=(["walk","both","meet"]:List Str).map V.str) (λi σ ys H'=>(∃o,σ=[o,some (.ref p)])/\ys=(((["walk","both","meet"]:List Str).take i).map (ll k.ps)).map V.bl/\ys.length=i/\H' D=some (.lst ys)/\aM H1 H') ⟨⟨none,rfl⟩,rfl,rfl,ag,aj hD _⟩ ?_ ?_ ?_ ?_ ?_
  ·rintro i σ ys H' _ ⟨_,_,hi,h,_⟩
   exact⟨h,V_ hi⟩
  ·rintro i σ ys H' _ ⟨_,_,_,_,sm⟩
   exact aH.of (sm _ _ hu1)
  ·decide
  ·rintro i v σ ys H' hv ⟨⟨o,rfl⟩,rfl,hi,h,sm⟩
   rw [VO]at hv
   cases ec:(["walk","both","meet"]:List Str)[i]? with
   | none=>rw [ec]at hv; cases hv
   | some s0 =>
    rw [ec]at hv
    have hv:V.str s0=v:=VL hv
    subst hv
    refine⟨_,rfl,_,rfl,p,_,rfl,.inr (aH.of (sm _ _ (su _ _ hk3))),rfl,rG _,h,⟨_,rfl⟩,?_,?_,ag,bt hD sm⟩
    ·rw [take_one ec,Vt,Vt]; rfl
    ·rw [Vs,hi]; rfl
  ·rintro σ ys H' ⟨_,rfl,_,h,sm⟩
   refine⟨D,_,rfl,a_.of h,?_⟩
   have q:=q H' (su.trans sm)
   have q:Q (.bl (decide (¬m<=0)&&(ll k.ps "walk"||ll k.ps "both"||ll k.ps "meet"))) H':=q
   rw [Vq hm,Bool.true_and]at q
   show Q (.bl (ll k.ps "walk"||(ll k.ps "both"||(ll k.ps "meet"||false)))) H'
   rw [Bool.or_false,←Bool.or_assoc]
   exact q
 rw [Vp e2]
 refine bB (aG ⟨_,rfl,a,_,0,_,rfl,rfl,aH.of h1,au (j:=0) rfl,rfl,_,rfl,?_⟩)
 rw [bP]
 by_cases e3:x.nm="meet"
 ·rw [Vq e3]
  obtain⟨c,d,p1,p2,rfl⟩:=iZ e3
  refine cp ⟨cN,λu hu=>?_⟩
  have su:=aj hu (.tup [V.str "walk",.str "first"])
  have hu1:upd H u (.tup [V.str "walk",.str "first"]) u=_:=ag
  revert su hu1
  generalize upd H u (.tup [V.str "walk",.str "first"])=H1
  intro su hu1
  refine⟨u,rfl,⟨_,aH.of hu1⟩,λD hD=>?_⟩
  refine cI (xs:=(["walk","first"]:List Str).map V.str) (λi σ ys H'=>(∃o,σ=[o,some (.ref p)])/\ys=(((["walk","first"]:List Str).take i).map (ll k.ps)).map V.bl/\ys.length=i/\H' D=some (.lst ys)/\aM H1 H') ⟨⟨none,rfl⟩,rfl,rfl,ag,aj hD _⟩ ?_ ?_ ?_ ?_ ?_
  ·rintro i σ ys H' _ ⟨_,_,hi,h,_⟩
   exact⟨h,V_ hi⟩
  ·rintro i σ ys H' _ ⟨_,_,_,_,sm⟩
   exact aH.of (sm _ _ hu1)
  ·decide
  ·rintro i v σ ys H' hv ⟨⟨o,rfl⟩,rfl,hi,h,sm⟩
   rw [VO]at hv
   cases ec:(["walk","first"]:List Str)[i]? with
   | none=>rw [ec]at hv; cases hv
   | some s0 =>
    rw [ec]at hv
    have hv:V.str s0=v:=VL hv
    subst hv
    refine⟨_,rfl,_,rfl,p,_,rfl,.inr (aH.of (sm _ _ (su _ _ hk3))),rfl,rG _,h,⟨_,rfl⟩,?_,?_,ag,bt hD sm⟩
    ·rw [take_one ec,Vt,Vt]; rfl
    ·rw [Vs,hi]; rfl
  ·rintro σ ys H' ⟨_,rfl,_,h,sm⟩
   refine⟨D,_,rfl,a_.of h,?_⟩
   have q:=q H' (su.trans sm)
   have q:Q (.bl (ll k.ps "walk"||ll k.ps "first")) H':=q
   show Q (.bl (ll k.ps "walk"||(ll k.ps "first"||false))) H'
   rw [Bool.or_false]
   exact q
 rw [Vp e3]
 rw [Au e e2 e3]at q
 exact bB (aG (q H (aM.refl _)))
def iK:Wk->Bool
 | .one (.must ..)=>true
 | _=>false
def sP(x:Wk)(k:Kn)(hs:List Hd):Option Str :=
 if cV x hs=true then
  if ba x hs=true then
   if(bw x hs).length<=6 then
    if jY x k.ps=true then
     if(iK x&&k.lo)=true then some "loose" else none
    else some "rows"
   else some "wide"
  else some "sort"
 else some "column"
def wV:Option Str->V
 | none=>.non
 | some s=>.str s
structure Bw(x:Wk):Prop where
 sm:kJ x
 good:goodW x
 ne:Q5 x
 wide:BR x
def HW(n:Nat):Sp:=λvs H Q _=>∃(a b l:Addr) (x:Wk) (k:Kn) (as:List Addr) (hs:List Hd),vs=[.ref a,.ref b,.ref l]/\cX n H a x/\gD H b k/\gz H l as hs/\hs.length=BS x/\Bw x/\k.ps.length<=1000/\(∀h∈hs,h.length<=1000)/\∀H',aM H H'->Q (wV (sP x k hs)) H'
theorem y4{x:Wk}:decide (x.nm="must")=iK x:=by
 cases x with
 | one x=>cases x <;> (simp only [Wk.nm,W1.nm,iK]; first | exact Vq rfl | decide +kernel | exact Vp (by decide +kernel))
 | both p q=>simp only [Wk.nm,iK]; exact Vp (by decide +kernel)
 | meet c d p q=>simp only [Wk.nm,iK]; exact Vp (by decide +kernel)
abbrev mF:Stmt:=top 44
theorem yL:ay ["worker","known","heads"] ["worker","known","heads"] (ar mF):=fs
theorem As{n:Nat}(B:jH mg){tw:Tok}(mW:mg "WIDEST_ROW"=some (.int 6 tw))(F:FA K mg "why_not" mF)
  (qR:bf bc P w K mg base 2 "columns_fit" ["worker","heads"] (dG n cV λ_ _=>True))
  (vI:bf bc P w K mg base 4 "sorts_fit" ["worker","heads"] (dG n ba (qP λ_=>True)))
  (jL:bf bc P w K mg base 3 "head_told" ["worker","heads"] (dC n λ_=>True))
  (xT:bf bc P w K mg base 2 "rows_fit" ["worker","known"] (Ez n)) :
  bf bc P w K mg base 5 "why_not" ["worker","known","heads"] (HW n):=by
 refine F.ok yL λf cdv A outer s H vs Q E hr h=>?_
 have hu:=iD hr
 obtain⟨a,b,l,x,k,as,hs,rfl,ha,hk,hL,hn,hok,hps,SQ,q⟩:=h
 refine⟨_,(aN (l_ (fH (av qR hr (ae (pv 0) (ae (pv 2) ah))))) ao
   (aN (l_ (fH (av vI hr (ae (pv 0) (ae (pv 2) ah))))) ao
   (aN (aU gG (bg bA rfl B.len We (ae (av jL hr (ae (pv 0) (ae (pv 2) ah))) ah)) (dh (v:=.int 6) rfl mW ⟨_,rfl⟩)) ao
   (aN (l_ (fH (av xT hr (ae (pv 0) (ae (pv 1) ah))))) ao
   (aN (PW.pt (jR (aU aP (az K (pv 0) ai) ao) (gI (fH (az K (pv 1) ai))))) ao
   (ax iS)))))),?_⟩
 unfold sP at q
 refine⟨_,rfl,_,rfl,a,l,x,as,hs,rfl,ha,hL,hn,hok.sm,trivial,λH1 s1=>⟨_,rfl,?_⟩⟩
 by_cases e1:cV x hs=false
 ·rw [e1]
  rw [VZ (by rw [e1]; decide)]at q
  exact cp (q H1 s1)
 have e1:cV x hs=true:=by simpa using e1
 rw [e1]
 rw [V0 e1]at q
 have ha1:=ha.keep (aE.of s1)
 refine bB (aG ⟨_,rfl,_,rfl,a,l,x,as,hs,rfl,ha1,hL.same s1,hn,hok.sm,⟨trivial,e1,hok.good⟩,λH2 s2=>⟨_,rfl,?_⟩⟩)
 have s12:=s1.trans s2
 by_cases e2:ba x hs=false
 ·rw [e2]
  rw [VZ (by rw [e2]; decide)]at q
  exact cp (q H2 s12)
 have e2:ba x hs=true:=by simpa using e2
 rw [e2]
 rw [V0 e2]at q
 have ha2:=ha.keep (aE.of s12)
 refine bB (aG ⟨_,rfl,_,rfl,a,l,x,as,hs,rfl,ha2,hL.same s12,hn,hok.sm,⟨trivial,e1,hok.good,hok.ne,SQ⟩,λu H3 s3 hu=>?_⟩)
 have qE:=s12.trans s3
 refine⟨u,_,rfl,.inr (aH.of hu),_,_,rfl,rfl,_,rfl,?_⟩
 rw [Vr]
 by_cases e3:¬(bw x hs).length<=6
 ·rw [VZ e3]at q
  rw [Vq (show(6:Int)<((bw x hs).length:Nat) by omega)]
  exact cp (q H3 qE)
 have e3:(bw x hs).length<=6:=by omega
 rw [V0 e3]at q
 rw [Vp (show¬(6:Int)<((bw x hs).length:Nat) by omega)]
 have ha3:=ha.keep (aE.of qE)
 refine bB (aG ⟨_,rfl,_,rfl,a,b,x,k,rfl,ha3,hk.same qE,hps,hok.wide,λH4 s4=>⟨_,rfl,?_⟩⟩)
 have rl:=qE.trans s4
 by_cases e4:jY x k.ps=false
 ·rw [e4]
  rw [VZ (by rw [e4]; decide)]at q
  exact cp (q H4 rl)
 have e4:jY x k.ps=true:=by simpa using e4
 rw [e4]
 rw [V0 e4]at q
 have U1:=ha.keep (aE.of rl)
 obtain⟨xs,h1⟩:=U1.first
 refine bB (aG ⟨_,rfl,a,_,0,_,rfl,rfl,aH.of h1,au (j:=0) rfl,rfl,_,rfl,?_⟩)
 rw [bP,y4]
 cases e5:iK x with
 | false =>
  rw [e5]at q
  exact bB (bB (aG (q H4 rl)))
 | true =>
  rw [e5,Bool.true_and]at q
  obtain⟨hh,p,hk1,_⟩:=hk.same rl
  refine cp ⟨_,rfl,b,_,2,_,rfl,rfl,aH.of hk1,rfl,_,rfl,?_⟩
  refine cJ (λz=>?_) (λz=>aG ?_)
  ·rw [V0 z]at q
   exact q H4 rl
  ·rw [VZ z]at q
   exact q H4 rl
end My
namespace L2
open PySem PySem.Spec PyProof.Rows
section
variable{X:Cx}{N':List Str}{src:List (Option Nat)}{sc:Scope}{elt t1 i1 t2 i2:Expr}{f1 f2:List Expr}{pos:Pos}{wi wi2:TI}{g g2:TG}{tc uv:TT}{te:TE}
theorem vG{i:Nat}{x:Str}{pos' spos:Pos}(hN:X.N.Nodup)(hi':X.N[i]? = some x)(hx:Loc X.env.scope x)(hsw:swapsWith (qX elt t1 i1 f1 t2 i2 f2 sc pos) (some (.Name x pos')) spos.line X.env=pure true)
  (hc:X.calm=true) (S:aZ X.env.scope X.N N' src sc) (hi:PI X t1 i1 wi)
  (hg:∀cl C s H fp,PG (aK X N' sc cl C s H fp) t1 g) (ht:∀cl C s H fp,jg (aK X N' sc cl C s H fp) f1 tc)
  (hi2:∀cl C s H fp,PI (aK X N' sc cl C s H fp) t2 i2 wi2) (hg2:∀cl C s H fp,PG (aK X N' sc cl C s H fp) t2 g2) (vU:∀cl C s H fp,jg (aK X N' sc cl C s H fp) f2 uv)
  (he:∀cl C s H fp,PE (aK X N' sc cl C s H fp) elt te)
  (hf:X.fn x=true\/X.env.scope.names.lookup x=some .local:=by first | exact .inl rfl | exact .inr rfl | assumption)
  (hs:∀x,foldedSetIterable i1 X.env x=pure x:=by intro _; rfl) (hs2:∀(env:Env) x,foldedSetIterable i2 env x=pure x:=by intro _ _; rfl) :
  PS X (.Assign [.Name x pos'] (qX elt t1 i1 f1 t2 i2 f2 sc pos) spos) (B0 (Ci src wi g tc wi2 g2 uv te) (bE i)):=by
 intro pins s σ H D I h
 rw [exec_Assign_Name_used _ _ _ _ hsw]
 refine Vi (wpAny_standAt (Vi ?_))
 show wpAny _ _ (comprehension _ _ _ _ _ _ _ _ >>= _) _ _ s
 refine Vi (wpAny_comprehension_free (use:=some (assign (.Name x pos') X.env)) rfl hs (c_ λy hy hk=>I.ok.has y.1 (S.free y hy hk)) S.kind (λy hy hl=>by rw [←hl]; exact S.uniq y hy) ?_)
 refine cn (hi pins s σ H _ I h) λv s1 h1=>cn h1 λitv s2 h2=>?_
 obtain⟨it,fp,tn,J,H2,e,I2,T,st2,Lk,hW⟩:=h2
 subst e
 refine mU (Q:=λy H'=>D.nx (σ.set i (some y)) H') (RR:=λacc C=>compPost (model X.prog X.w) X.A X.xe (some (assign (.Name x pos') X.env)) _ acc C) hc S hg ht hi2 hg2 vU he hs2 I2 T st2 Lk hW ?_
 intro D' C s5 H' m I5 n5 fC q
 refine wpAny_assign_Name (md I5 hN hi' hx (show RelV (.ref D') (.ref D') from rfl) (λs6 I6 hsb=>?_) hf)
 obtain⟨a,sb,ha⟩:=hsb
 have Oz:C≠a:=by
  rcases ha with z | z
  ·rw [z]; exact fC.2.1
  ·exact λe=>fC.2.2.2.2.1 x a z e.symm
 refine⟨m,n5.sameBut sb Oz,λh' Px=>?_⟩
 refine Vj (Vj ?_)
 exact⟨_,H',I6.turned (t':=s6.toks) (λb o hb e=>(Px.2 b hb).trans e) fC.1 fC.2.1 fC.2.2.2.1 fC.2.2.2.2.1 fC.2.2.2.2.2,q⟩
end
end L2
namespace My
open PySem L2
structure jy(H:Hp)(l:Addr)(as:List Addr)(ks:List Kn):Prop where
 lst:H l=some (.lst (as.map V.ref))
 len:as.length=ks.length
 at_:∀(i:Nat) a k,as[i]? = some a->ks[i]? = some k->gD H a k
theorem jy.same{H H':Hp}{l:Addr}{as:List Addr}{ks:List Kn}(s:aM H H')(h:jy H l as ks):jy H' l as ks:=⟨s _ _ h.lst,h.len,λi a k e1 e2=>(h.at_ i a k e1 e2).same s⟩
theorem jy.get{H:Hp}{l:Addr}{as:List Addr}{ks:List Kn}(h:jy H l as ks){i:Nat}{x:V}(hx:(as.map V.ref)[i]? = some x):∃(a:Addr) (k:Kn),x=.ref a/\ks[i]? = some k/\gD H a k:=by
 rw [VO]at hx
 cases e:as[i]? with
 | none=>rw [e]at hx; cases hx
 | some b =>
  rw [e]at hx
  have hx':V.ref b=x:=VL hx
  subst hx'
  have hi:i<ks.length:=by rw [←h.len]; exact(VC.mp e).1
  have er:ks[i]? = some ks[i]:=Vw hi
  exact⟨b,ks[i],rfl,er,h.at_ i b _ e er⟩
def AU(ps ns:List Str):Prop:=ps.Pairwise wX/\∀s,s∈ps↔s∈ns
def j4(ks:List Kn):List Hd:=ks.map λk=>k.hd
structure Qn(x:Wk)(k:Kn)(ks:List Kn):Prop where
 n:ks.length=BS x
 ok:Bw x
 fit:cV x (j4 ks)=true
 keep:keepIn x k.hd
 hd:∀k∈ks,k.hd.length<=1000
 ps:∀k∈ks,k.ps.length<=20
def u_(n:Nat):Sp:=λvs H Q _=>∃(a b l:Addr) (x:Wk) (k:Kn) (as:List Addr) (ks:List Kn),vs=[.ref a,.ref b,.ref l]/\cX n H a x/\gD H b k/\jy H l as ks/\Qn x k ks/\
 ∀(u:Addr) (k':Kn) (H':Hp),aM H H'->gD H' u k'->k'.hd=bw x (j4 ks)->AU k'.ps (ks.flatMap (λk=>k.ps)++[aF x])->k'.lo=(fe x k||ks.any λk=>k.lo)->Q (.ref u) H'
theorem Cj{x:Wk}:BS x<=2:=by cases x <;> simp [BS]
theorem EG{ks:List Kn}{m:Nat}(hl:ks.length<=m)(h:∀k∈ks,k.ps.length<=20):(ks.flatMap λk=>k.ps).length<=20*m:=by
 induction ks generalizing m with
 | nil=>exact VJ _
 | cons k ks ih =>
  rw [List.flatMap_cons,Vs]
  have h1:=h k (by simp)
  have h2:=ih (m:=m-1) (by simp at hl; omega) λk hk=>h k (by simp [hk])
  simp at hl
  omega
theorem zt{H:Hp}{D:Addr}{ks:List Kn}{bs:List Addr}(h:H D=some (.lst (bs.map V.ref)))(hl:bs.length=ks.length)(ha:∀(i:Nat) a k,bs[i]? = some a->ks[i]? = some k->dF H a k.hd):gz H D bs (j4 ks):=by
 refine⟨h,by rw [hl,j4,Vr],λi a r e1 e2=>?_⟩
 rw [j4,VO]at e2
 cases ek:ks[i]? with
 | none=>rw [ek]at e2; cases e2
 | some k =>
  rw [ek]at e2
  cases e2
  exact ha i a k e1 ek
abbrev gv:Stmt:=top 46
theorem jc:ay ["worker","known","told","names"] ["worker","known","told"] (ar gv):=fs
variable{P:Program}{w:World}{K:Wg}{mg:Str->Option Value}{base:Heap}
theorem AW{n:Nat}(B:jH mg)(B2:iW mg)(B3:A2 mg)(F:FA K mg "known_behind" gv)
  (jL:bf bc P w K mg base 3 "head_told" ["worker","heads"] (dC n λ_=>True))
  (gW:bf bc P w K mg base 1 "name_passed" ["worker"] (xY n))
  (qY:bf bc P w K mg base 2 "makes_loose" ["worker","known"] (y0 n)) :
  bf bc P w K mg base 4 "known_behind" ["worker","known","told"] (u_ n):=by
 refine F.ok jc λf cdv A outer s H vs Q E hr h=>?_
 have hu:=iD hr
 have hu1:=jb hr
 obtain⟨a,b,l,x,k,as,ks,rfl,ha,hk,hL,ho,q⟩:=h
 refine⟨_,(aq (vG (i:=3) (N':=["head","passed","loose","name"]) (src:=[none,none,none,none]) jc.nd rfl (V2 rfl) rfl rfl (aZ.jT (by kernel_rfl)) (fq (pv 2)) (g:=(i8 K 3 (bR (bE 0) (bR (bE 1) (bR (bE 2) i5))))) (λcl C s H fp=>(cG rfl (aA (eI (i:=0)) (aA (eI (i:=1)) (aA (eI (i:=2)) bY))))) (λcl C s H fp=>aX) (wi2:=(HF K (bD 1))) (λcl C s H fp=>(cQ (jd 1))) (λcl C s H fp=>(eI (i:=3))) (λcl C s H fp=>aX) (te:=(bD 3)) (λcl C s H fp=>(jd 3)))
   (ax (aJ (ae (av jL hr (ae (pv 0) (ae (bx (N':=["head","passed","loose"]) (src:=[none,none,none]) rfl (aZ.jT (by kernel_rfl)) (fq (pv 2)) (g:=(i8 K 3 (bR (bE 0) (bR (bE 1) (bR (bE 2) i5))))) (λcl C s H fp=>(cG rfl (aA (eI (i:=0)) (aA (eI (i:=1)) (aA (eI (i:=2)) bY))))) (λcl C s H fp=>aX) (te:=(bD 0)) (λcl C s H fp=>(jd 0))) ah))) (ae (aW bH rfl B.tuple V6 (ae (kY rfl rfl B2.sorted rfl B2.set (aD o_ (pv 3) (aQ (ae (av gW hr (ae (pv 0) ah)) ah)))) ah)) (ae (gc (av qY hr (ae (pv 0) (ae (pv 1) ah))) (dc (bg (lY rfl) rfl B3.any PyProof.Rows.boot_any (ae (bx (N':=["head","passed","loose"]) (src:=[none,none,none]) rfl (aZ.jT (by kernel_rfl)) (fq (pv 2)) (g:=(i8 K 3 (bR (bE 0) (bR (bE 1) (bR (bE 2) i5))))) (λcl C s H fp=>(cG rfl (aA (eI (i:=0)) (aA (eI (i:=1)) (aA (eI (i:=2)) bY))))) (λcl C s H fp=>aX) (te:=(bD 2)) (λcl C s H fp=>(jd 2))) ah)))) ah)))))),?_⟩
 have hn2:ks.length<=2:=by rw [ho.n]; exact Cj
 have hla:(as.map V.ref).length=ks.length:=by rw [Vr,hL.len]
 refine⟨_,rfl,l,rfl,⟨_,a_.of hL.lst⟩,λD hD=>?_⟩
 have hfl:∀i,((ks.take i).flatMap λk=>k.ps).length<=40:=λi=>EG (m:=2) (by rw [VP]; omega) λk hk=>ho.ps k (List.mem_of_mem_take hk)
 refine yj (xs:=as.map V.ref) (λi σ ys H'=>(∃o1 o2 o3 o4,σ=[o1,o2,o3,o4])/\ys=((ks.take i).flatMap λk=>k.ps).map V.str/\H' D=some (.lst ys)/\aM H H') ⟨⟨none,none,none,none,rfl⟩,rfl,ag,aj hD _⟩ ?_ ?_ ?_ ?_
 ·rintro i σ ys H' _ ⟨_,_,h,_⟩
  exact h
 ·rintro i σ ys H' _ ⟨_,_,_,sm⟩
  exact a_.of (sm _ _ hL.lst)
 ·rintro i v σ ys H' hv ⟨⟨o1,o2,o3,o4,rfl⟩,rfl,h,sm⟩
  obtain⟨b',k',rfl,ek,hh,p,hk1,hk2,hk3⟩:=hL.get hv
  have hpl:k'.ps.length<=20:=ho.ps k' (Vy ek)
  refine⟨b',_,rfl,aH.of (sm _ _ hk1),rfl,_,_,rfl,ak ⟨_,_,rfl,ak ⟨_,_,rfl,ak ⟨rfl,?_⟩⟩⟩⟩
  refine⟨_,rfl,p,rfl,⟨_,aH.of (sm _ _ hk3)⟩,?_⟩
  refine l8 (xs:=k'.ps.map V.str) (λj σ zs H2=>(∃o1 o2 o3 o4,σ=[o1,o2,o3,o4])/\zs=((ks.take i).flatMap λk=>k.ps).map V.str++(k'.ps.take j).map V.str/\H2 D=some (.lst zs)/\aM H H2) ⟨⟨_,_,_,_,rfl⟩,by rw [List.take_zero,List.map_nil,V8],h,sm⟩ ?_ ?_ ?_ ?_
  ·rintro j σ zs H2 hj ⟨_,rfl,h2,_⟩
   refine⟨h2,λ_=>?_⟩
   rw [Vs,Vr,Vr,VP]
   have:=hfl i
   exact Vu (show _<=60 by omega) (by decide)
  ·rintro j σ zs H2 _ ⟨_,_,_,s2⟩
   exact aH.of (s2 _ _ hk3)
  ·rintro j v2 σ zs H2 hu' ⟨⟨o1,o2,o3,o4,rfl⟩,rfl,h2,s2⟩
   rw [VO]at hu'
   cases es:k'.ps[j]? with
   | none=>rw [es]at hu'; cases hu'
   | some s0 =>
    rw [es]at hu'
    have hv2:V.str s0=v2:=VL hu'
    subst hv2
    refine ak ⟨_,rfl,h2,⟨_,_,_,_,rfl⟩,?_,ag,bt hD s2⟩
    rw [take_one es,Vt,List.append_assoc]; rfl
  ·rintro σ zs H2 ⟨⟨o1,o2,o3,o4,rfl⟩,rfl,h2,s2⟩
   refine⟨⟨_,_,_,_,rfl⟩,?_,h2,s2⟩
   rw [Vr,V3,←Vt,take_one ek,List.flatMap_append]
   show _=(_++(k'.ps++[])).map V.str
   rw [V8]
 ·rintro σ ys H1 ⟨_,rfl,h1,s1⟩
  rw [hla,V3]at h1
  have hfl:=hfl ks.length
  rw [V3]at hfl
  refine ak ?_
  dsimp only
  have hL1:=hL.same s1
  refine⟨_,rfl,_,rfl,l,rfl,⟨_,a_.of hL1.lst⟩,λD2 hD2=>?_⟩
  refine dN (xs:=as.map V.ref) (λi σ ys H'=>(∃o1 o2 o3,σ=[o1,o2,o3])/\(∃bs:List Addr,ys=bs.map V.ref/\bs.length=i/\∀(j:Nat) a k,bs[j]? = some a->ks[j]? = some k->dF H1 a k.hd)/\H' D2=some (.lst ys)/\aM H1 H') ⟨⟨none,none,none,rfl⟩,⟨[],rfl,rfl,λj a k e=>by cases e⟩,ag,aj hD2 _⟩ ?_ ?_ ?_ ?_ ?_
  ·rintro i σ ys H' _ ⟨_,⟨bs,rfl,hi,_⟩,h,_⟩
   exact⟨h,by rw [Vr]; exact V_ hi⟩
  ·rintro i σ ys H' _ ⟨_,_,_,sm⟩
   exact a_.of (sm _ _ hL1.lst)
  ·rw [hla]; exact Vo hn2 (by decide)
  ·rintro i v σ ys H' hv ⟨⟨o1,o2,o3,rfl⟩,⟨bs,rfl,hi,hb⟩,h,sm⟩
   obtain⟨b',k',rfl,ek,hh,p,hk1,hk2,hk3⟩:=hL1.get hv
   refine⟨b',_,rfl,aH.of (sm _ _ hk1),rfl,_,_,rfl,ak ⟨_,_,rfl,ak ⟨_,_,rfl,ak ⟨rfl,?_⟩⟩⟩⟩
   refine⟨_,rfl,h,⟨_,_,_,rfl⟩,⟨bs++[hh],by rw [Vt]; rfl,by rw [Vs,hi]; rfl,λj a k e1 e2=>?_⟩,ag,bt hD2 sm⟩
   by_cases hj:j<bs.length
   ·rw [VN hj]at e1
    exact hb j a k e1 e2
   ·have hj':j=bs.length:=by
     have:=(VC.mp e1).1
     rw [Vs]at this
     simp at this
     omega
    rw [hj',VM (Vn _),Nat.sub_self]at e1
    cases e1
    rw [hj',hi,ek]at e2
    cases e2
    exact hk2
  ·rintro σ ys H2 ⟨_,⟨bs,rfl,hi,hb⟩,h2,s2⟩
   rw [hla]at hi
   have s12:=s1.trans s2
   refine⟨a,D2,x,bs,j4 ks,rfl,ha.keep (aE.of s12),zt h2 hi (λi a k e1 e2=>s2 _ _ (hb i a k e1 e2)),by rw [j4,Vr,ho.n],ho.ok.sm,⟨trivial,ho.fit,ho.ok.good,ho.ok.ne,λh hh=>by obtain⟨k,hk,rfl⟩:=VE.mp hh; exact ho.hd k hk⟩,λu1 H3 s3 hu1=>?_⟩
   have qE:=s12.trans s3
   refine⟨_,rfl,_,rfl,a,x,rfl,ha.keep (aE.of qE),dH,λu2 hu2=>?_⟩
   have s4:=aj hu2 (.lst [V.str (aF x)])
   refine⟨D,u2,_,_,rfl,rfl,s4 _ _ (s3 _ _ (s2 _ _ h1)),ag,by rw [Vr]; exact Vo (show _+1<=41 by omega) (by decide),λu3 wR=>?_⟩
   have s5:=aj wR (.lst (((ks.flatMap λk=>k.ps).map V.str)++[V.str (aF x)]))
   have hmap:(ks.flatMap λk=>k.ps).map V.str++[V.str (aF x)]=((ks.flatMap λk=>k.ps)++[aF x]).map V.str:=by rw [Vt]; rfl
   refine⟨u3,_,rfl,.inl (a_.of ag),?_,.inr ⟨_,hmap⟩,λu4 ys uR hS=>?_⟩
   ·rw [Vs,Vr]
    show _+1<64
    omega
   have s6:=aj uR (.lst ys)
   have hys:∃ms:List Str,ys=ms.map V.str/\AU ms ((ks.flatMap λk=>k.ps)++[aF x]):=by
    rcases hS with⟨ns,ms,e1,e2,_⟩ | ⟨ns,ms,e1,e2,e3,e4⟩
    ·rw [hmap]at e1
     cases ns with
     | nil=>rw [Vt]at e1; simp at e1
     | cons n ns =>
      exfalso
      have:V.int n∈((ks.flatMap λk=>k.ps)++[aF x]).map V.str:=by rw [e1]; simp
      obtain⟨s,_,e⟩:=VE.mp this
      cases e
    ·rw [hmap]at e1
     have:ns=(ks.flatMap λk=>k.ps)++[aF x]:=(List.map_inj_right (f:=V.str) (λa b e=>V.str.inj e)).mp e1.symm
     subst this
     exact⟨ms,e2,e3,e4⟩
   obtain⟨ms,rfl,hms⟩:=hys
   refine⟨u4,_,rfl,.inl ⟨a_.of ag,λu5 Ul=>?_⟩⟩
   have s7:=aj Ul (.tup (ms.map V.str))
   have Oi:=s4.trans (s5.trans (s6.trans s7))
   have KN:upd (upd (upd (upd H3 u2 (.lst [V.str (aF x)])) u3 (.lst (((ks.flatMap λk=>k.ps).map V.str)++[V.str (aF x)]))) u4 (.lst (ms.map V.str))) u5 (.tup (ms.map V.str)) u5=some (.tup (ms.map V.str)):=ag
   revert Oi KN
   generalize upd (upd (upd (upd H3 u2 (.lst [V.str (aF x)])) u3 (.lst (((ks.flatMap λk=>k.ps).map V.str)++[V.str (aF x)]))) u4 (.lst (ms.map V.str))) u5 (.tup (ms.map V.str))=H4
   intro Oi KN
   have rl:=qE.trans Oi
   refine⟨_,rfl,_,rfl,a,b,x,k,rfl,ha.keep (aE.of rl),hk.same rl,ho.keep,λH5 s8=>?_⟩
   have MC:=rl.trans s8
   have fin:∀(v:Bool) (H6:Hp),aM H5 H6->v=(fe x k||ks.any λk=>k.lo)->∀u6,H6 u6=none->Q (.ref u6) (upd H6 u6 (.tup [.ref u1,.ref u5,.bl v])):=by
    intro v H6 s9 hv u6 Ts
    have D9:=aj Ts (.tup [.ref u1,.ref u5,.bl v])
    have LK:=(s8.trans s9).trans D9
    exact q u6 ⟨bw x (j4 ks),ms,v⟩ _ ((MC.trans s9).trans D9) ⟨u1,u5,ag,LK _ _ (Oi _ _ hu1),LK _ _ KN⟩ rfl hms hv
   refine⟨_,rfl,cJ (λe=>?_) (λe=>?_)⟩
   ·exact⟨fM,fin true H5 (aM.refl _) (by rw [e]; rfl)⟩
   have O6:=hL.same MC
   refine⟨_,rfl,l,rfl,⟨_,a_.of O6.lst⟩,λD3 Q7=>?_⟩
   refine dN (xs:=as.map V.ref) (λi σ ys H'=>(∃o1 o2 o3,σ=[o1,o2,o3])/\ys=((ks.take i).map λk=>k.lo).map V.bl/\ys.length=i/\H' D3=some (.lst ys)/\aM H5 H') ⟨⟨none,none,none,rfl⟩,rfl,rfl,ag,aj Q7 _⟩ ?_ ?_ ?_ ?_ ?_
   ·rintro i σ ys H' _ ⟨_,_,hi,h,_⟩
    exact⟨h,V_ hi⟩
   ·rintro i σ ys H' _ ⟨_,_,_,_,sm⟩
    exact a_.of (sm _ _ O6.lst)
   ·rw [hla]; exact Vo hn2 (by decide)
   ·rintro i v σ ys H' hv ⟨⟨o1,o2,o3,rfl⟩,rfl,hi,h,sm⟩
    obtain⟨b',k',rfl,ek,hh,p,hk1,hk2,hk3⟩:=O6.get hv
    refine⟨b',_,rfl,aH.of (sm _ _ hk1),rfl,_,_,rfl,ak ⟨_,_,rfl,ak ⟨_,_,rfl,ak ⟨rfl,?_⟩⟩⟩⟩
    refine⟨_,rfl,h,⟨_,_,_,rfl⟩,?_,?_,ag,bt Q7 sm⟩
    ·rw [take_one ek,Vt,Vt]; rfl
    ·rw [Vs,hi]; rfl
   ·rintro σ ys H' ⟨_,rfl,_,h,sm⟩
    rw [hla,V3]at h
    refine⟨D3,_,rfl,a_.of h,fM,fin _ H' sm ?_⟩
    rw [VG.mpr e,Bool.false_or,List.any_map]
    rfl
end My
namespace L2
open PySem PySem.Spec PyProof.Rows
section
variable{X:Cx}{tg e:Expr}
theorem PG.zv{g:TG}(h:PG X.zv tg g):PG X tg g:=λpins s σ H v u Q I r hw =>
 VR (h pins s σ H v u Q (I.wish _) r hw) (λ_ _ ⟨σ',H',I',q⟩=>⟨σ',H',I'.dj,q⟩) λ_ _ z=>V4 z
theorem jg.zv{ifs:List Expr}{t:TT}(h:jg X.zv ifs t):jg X ifs t:=λpins s σ H Q I hw =>
 VR (h pins s σ H Q (I.wish _) hw) (λ_ _ ⟨H',I',q⟩=>⟨H',I'.dj,q⟩) λ_ _ z=>V4 z
end
section
variable{X:Cx}{elt target iter:Expr}{ifs:List Expr}{sc:Scope}{pos:Pos}{wi:TI}{g:TG}{tc:TT}{te:TE}{N':List Str}{src:List (Option Nat)}{E:XK}{L:Addr}
theorem xy{it acc:Value}{env:Env}{prog:Program}{w:World}{A:Around}{s:Shared}{R:Result->Shared->Prop}{F:Value->Shared->Prop}(hF:∀ev s',F ev s'->notedBy (model prog w) A env (λx s'=>R (.error x) s') ev s')(Iv:Nat->Shared->Prop)
  (turn:∀n s,Iv n s->wpAny (model prog w) A (pyNext it) (λr s₁=>match r with
   | none=>R (.ok .next) s₁
   | some v=>wpAny (model prog w) A (letOwnedTupleGo target it v) (λ_ s₁'=>wpAny (model prog w) A (assign target env v) (λ_ s₂ =>
     wpAny (model prog w) A (forIn ifs true λc r=>if r=true then do let ok←isTrue c env (eval c env); pure (ForInStep.yield ok)else pure (ForInStep.yield r)) (λok s₃ =>
      if ok=true then wpAny (model prog w) A (eval elt env) (λx s₄ =>
       wpAny (model prog w) A (call (.builtin "list.append") [acc,x]) (λ_ s₅=>∃m,m<n/\Iv m s₅) F s₄) F s₃
      else∃m,m<n/\Iv m s₃) F s₂) F s₁') F s₁) F s)
  (n:Nat) (h:Iv n s):codeAny (model prog w) A (.compLoop (.ListComp elt [⟨target,iter,ifs,0⟩] sc pos) 0 it acc env) R s:=by
 refine codeAny_loop rfl Iv (λn s hI=>?_) n h
 show wpAny _ A ((compTurn (.ListComp elt [⟨target,iter,ifs,0⟩] sc pos) 0 it acc env).onRaise (λx=>do noteFrame x env; theTreesLotGoes x)) _ _ s
 refine wpAny_noted ?_
 rw [compTurn_list]
 refine VR (E:=F) ?_ (λ_ _ z=>z) hF
 refine Vi (wpAny_standAt (Vi (cn (turn n s hI) λr s₁ h₁=>?_)))
 cases r with
 | none=>exact Vj h₁
 | some v =>
  refine Vi (cn h₁ λ_ s₁' h₁'=>Vi (cn h₁' λ_ s₂ h₂=>Vi (cn h₂ λok s₃ h₃=>?_)))
  cases ok with
  | false=>exact Vj ⟨rfl,h₃⟩
  | true=>exact Vi (Vi (cn h₃ λx s₄ h₄=>Vi (cn h₄ λ_ s₅ h₅=>Vj (Vj ⟨rfl,h₅⟩))))
theorem yS{pins:List (Addr×Obj)}{σ:St}{H2:Hp}{s3:Shared}{fp:List Addr}{cl:List (Str×Addr)}{use:Option (Value->Sem Unit)}{QQ:Value->Shared->Prop}{acc:Value}{ev:Value}{s':Shared}(tp:Top X L)(I3:Inv X pins σ H2 s3)
  (f3:∀b∈fp,dI X pins H2 b) (h:XE (aK X N' sc cl s3.heap.objs.size s3 H2 fp) E ev s') :
  notedBy (model X.prog X.w) X.A (compEnvC sc cl s3.heap.objs.size X.env) (λx s''=>compPost (model X.prog X.w) X.A (XE X E) use QQ acc s3.heap.objs.size (.error x) s'') ev s':=by
 obtain⟨e,C,od,σ',H,rfl,I,f,hE⟩:=h
 have Tp:Top (aK X N' sc cl s3.heap.objs.size s3 H2 fp) L:=⟨tp.ex,tp.fr⟩
 refine nG (X:=aK X N' sc cl s3.heap.objs.size s3 H2 fp) I.ok.frames Tp tp.fr I f λs5 T I5 f5=>?_
 obtain⟨m6,n6,_⟩:=id I5.loc
 have fin:∃m,s5.heap.Ns s3.heap.objs.size m/\∀h',Heap.SameBut s3.heap.objs.size s5.heap h'->∀cenv:Env,cenv.locals=s3.heap.objs.size->wpAny (model X.prog X.w) X.A (PySem.passOn "comprehension.variables-let-go" (.ref e) cenv:Sem Value) (λ_ _=>False) (XE X E) {s5 with heap:=h'}:=by
  refine⟨m6,n6,λh' sb cenv hcl=>?_⟩
  have J:Inv X [] σ H s5:=(I3.call' I5.os I5.base I5.hok I5.bare λb hb=>⟨(f3 b hb).2.2.2.1,(f3 b hb).2.1,(f3 b hb).2.2.2.2.1,(f3 b hb).2.2.2.2.2⟩).i7 (pins':=[]) λp hp=>VY hp (by simp)
  have fC:dI X [] H s3.heap.objs.size:=by
   have z:=I3.mL (H':=H) (b:=s3.heap.objs.size) (Vn _) I5.free
   exact⟨z.1,z.2.1,z.2.2.1,z.2.2.2.1,z.2.2.2.2.1,λp hp=>z.2.2.2.2.2 p (List.mem_append_left _ (by simpa using hp))⟩
  have J2:Inv X [] σ H {s5 with heap:=h'}:=J.turned (t':=s5.toks) (λb o hb z=>(sb.2 b hb).trans z) fC.1 fC.2.1 fC.2.2.2.1 fC.2.2.2.2.1 fC.2.2.2.2.2
  obtain⟨vs,sl,g1,g2⟩:=f5.obj
  obtain⟨oT,ts,t1,t2,t3⟩:=f5.tb.obj
  have Lg:∀b,H b≠none->b≠s3.heap.objs.size:=λb hb z=>hb (by rw [z]; exact I5.free)
  have neT:T≠s3.heap.objs.size:=λz=>by
   obtain⟨o,es,ep,ho,hd,_⟩:=n6
   have ho':s5.heap.get? s3.heap.objs.size=some o:=ho
   rw [z,ho']at t1
   cases t1
   rw [hd]at t2
   cases t2
  have f6:ou X H h' e C od T:=⟨f5.at_,⟨vs,sl,(sb.2 e (Lg e (by rw [f5.at_]; simp))).trans g1,g2⟩,f5.tb.free,Vo I3.sz f5.tb.new,λp hp z=>by
   have:=(I3.pin p (List.mem_append_left _ hp)).1
   exact VY (Vv (Vl this) f5.tb.new) (by rw [z]; exact Nat.lt_irrefl _),oT,ts,(sb.2 T neT).trans t1,t2,t3⟩
  obtain⟨vs',sl',Hx,SV⟩:=f6.obj
  unfold PySem.passOn
  refine Vi (wpAny_field Hx rfl SV ?_)
  have ne:¬((Value.ref T==Value.none)=true):=by simp
  rw [VZ ne]
  have go:=iG (M:=model X.prog X.w) (A:=X.A) (E:=XE X E) (Q:=λ_ s7=>wpAny (model X.prog X.w) X.A (throw (.ref e):Sem Value) (λ_ _=>False) (XE X E) s7) J2 f6 cenv.frame λs7 I7 f7=>wpAny_throw ⟨e,C,od,σ,H,rfl,I7,f7.RL,hE⟩
  first
   | exact Vi go
   | exact Vi (Vj (Vi go))
 cases use <;> exact fin
theorem va{pins:List (Addr×Obj)}{σ:St}{H2:Hp}{s2:Shared}{it:Addr}{fp:List Addr}{tn:Nat->Heap->Prop}{J:It}{Q:VK}{E2:Value->Shared->Prop}{use:Option (Value->Sem Unit)}{QQ:Value->Shared->Prop}
  (hc:X.calm=true) (tp:Top X L) (S:aZ X.env.scope X.N N' src sc)
  (hg:∀cl C s H fp,PG ((aK X N' sc cl C s H fp).xs E) target g) (ht:∀cl C s H fp,jg ((aK X N' sc cl C s H fp).xs E) ifs tc) (he:∀cl C s H fp,PE ((aK X N' sc cl C s H fp).xs E) elt te)
  (I2:Inv X pins σ H2 s2) (T:Turn X.prog X.w X.K target J fp it tn) (st2:tn 0 s2.heap) (f2:∀b∈fp,dI X pins H2 b)
  (hW:∀D,H2 D=none->∃W:Nat->Nat->St->List V->Hp->Prop,(∃m,W 0 m (j8 src σ) [] (upd H2 D (.lst [])))/\pA J g tc te D Q W)
  (hRR:∀D C s5 H' m,Inv X pins σ H' s5->s5.heap.Ns C m->dI X pins H' C->Q (.ref D) H'->compPost (model X.prog X.w) X.A (XE X E) use QQ (.ref D) C (.ok .next) s5) :
  wpAny (model X.prog X.w) X.A (newList []) (λacc s₃=>wpAny (model X.prog X.w) X.A (newFunctionEnv sc X.env.globals (bQ X.env.cells sc.names []) [] X.env.qual none .none (some X.env)) (λcenv s₄ =>
   codeAny (model X.prog X.w) X.A (.compStart (.ListComp elt [⟨target,iter,ifs,0⟩] sc pos) 0 (.ref it) acc {cenv with scope:=relabel sc X.env}) (compPost (model X.prog X.w) X.A (XE X E) use QQ acc cenv.locals) s₄) E2 s₃) E2 s2:=by
 have o2:∀b∈fp,b<s2.heap.objs.size:=λb hb=>by
  obtain⟨o,z,_⟩:=T.obj 0 _ st2 b hb
  exact Vl z
 refine VT ?_
 have Jn:H2 s2.heap.objs.size=none:=I2.hok.fresh (Vn _)
 obtain⟨W,⟨m0,w0⟩,turn⟩:=hW s2.heap.objs.size Jn
 have I3:Inv X pins σ (upd H2 s2.heap.objs.size (.lst [])) {s2 with heap:=s2.heap.push {cls:=.type "list",dict:=none,data:=.seq ([]:List Value).toArray}} :=
  I2.laid (t':=s2.toks) (λb u z=>Vk _ z) (Vn _) ⟨VJ _,[],0,.nil,Vm _ rfl⟩
 have st3:tn 0 (s2.heap.push {cls:=.type "list",dict:=none,data:=.seq ([]:List Value).toArray}):=T.keep 0 _ _ st2 λb hb o z=>Vk _ z
 generalize hs3:({s2 with heap:=s2.heap.push {cls:=.type "list",dict:=none,data:=.seq ([]:List Value).toArray}}:Shared)=s3 at I3
 have hh3:s3.heap=s2.heap.push {cls:=.type "list",dict:=none,data:=.seq ([]:List Value).toArray}:=by rw [←hs3]
 have E5:s2.heap.objs.size<s3.heap.objs.size:=by rw [hh3,Heap.size_push]; exact Nat.lt_succ_self _
 have o3:∀b∈fp,b<s3.heap.objs.size:=λb hb=>Nat.lt_trans (o2 b hb) E5
 have f3:∀b∈fp,dI X pins (upd H2 s2.heap.objs.size (.lst [])) b:=λb hb=>⟨by rw [aI (VI (o2 b hb))]; exact(f2 b hb).1,(f2 b hb).2⟩
 rw [←hh3]at st3
 refine wpAny_newFunctionEnv S.pC (by intro y hy; simp at hy) (λh1 hns hsb=>?_) S.kind
 have hsb':Heap.SameBut s3.heap.objs.size (s3.heap.push {cls:=.type "dict",data:=.dict #[]}) h1:=hsb
 generalize hY:aK X N' sc (bQ X.env.cells sc.names []) s3.heap.objs.size s3 (upd H2 s2.heap.objs.size (.lst [])) fp=Y
 have I4:Inv Y [] (j8 src σ) (upd H2 s2.heap.objs.size (.lst [])) {s3 with heap:=h1,toks:=s3.toks+([]:List (Str×Value)).length}:=by
  rw [←hY]
  exact iJ S I3 f3 o3 hns hsb'
 have DN:tn 0 h1:=T.keep 0 _ _ st3 λb hb o z=>(hsb'.2 b (VI (o3 b hb))).trans (Vk _ z)
 have fC:∀(H':Hp),H' s3.heap.objs.size=none->dI X pins H' s3.heap.objs.size:=λH' hn=>I3.mL (Vn _) hn
 have loop:codeAny (model X.prog X.w) X.A (.compLoop (.ListComp elt [⟨target,iter,ifs,0⟩] sc pos) 0 (.ref it) (.ref s2.heap.objs.size) (compEnvC sc (bQ X.env.cells sc.names []) s3.heap.objs.size X.env))
   (compPost (model X.prog X.w) X.A (XE X E) use QQ (.ref s2.heap.objs.size) s3.heap.objs.size) {s3 with heap:=h1,toks:=s3.toks+([]:List (Str×Value)).length}:=by
  have stat:∀{H':Hp},(∀b∈fp,H' b=none)->∀b∈fp,dI (Y.xs E) [] H' b:=λhn b hb=>by
   have z:=I4.ok
   subst hY
   exact⟨hn b hb,(z.Br b hb).1,z.om b hb,.inl hb,(z.Br b hb).2,λp hp=>VY (show p∈([]:List (Addr×Obj)) from hp) (by simp)⟩
  have Qu:=hg (bQ X.env.cells sc.names []) s3.heap.objs.size s3 (upd H2 s2.heap.objs.size (.lst [])) fp
  have htY:=ht (bQ X.env.cells sc.names []) s3.heap.objs.size s3 (upd H2 s2.heap.objs.size (.lst [])) fp
  have O3:=he (bQ X.env.cells sc.names []) s3.heap.objs.size s3 (upd H2 s2.heap.objs.size (.lst [])) fp
  refine xy (F:=XE Y E) (λev s' hx=>by subst hY; exact yS tp I3 f3 hx) (λn s'=>∃i σ' ys H',Inv (Y.xs E) [] σ' H' s'/\tn i s'.heap/\(∀b∈fp,H' b=none)/\W i n σ' ys H') ?_ m0
   ⟨0,_,[],_,I4.wish _,DN,λb hb=>(f3 b hb).1,w0⟩
  rintro n s5 ⟨i,nY,ys,H5,I5,uT,wZ,w5⟩
  obtain⟨hD,alt⟩:=turn i n nY ys H5 w5
  subst hY
  rcases alt with⟨stop,qn⟩ | ⟨go,hsz,N,hN,step⟩
  ·refine cn (T.done ((aK X N' sc (bQ X.env.cells sc.names []) s3.heap.objs.size s3 (upd H2 s2.heap.objs.size (.lst [])) fp).xs E) rfl rfl rfl hc i [] s5 nY H5 _ I5 (stat wZ) uT stop) λr s6 ⟨hr,I6⟩=>?_
   subst hr
   obtain⟨m6,n6,_⟩:=id I6.loc
   exact hRR _ _ s6 H5 m6 (I3.call' I6.os I6.base I6.hok I6.bare λb hb=>⟨(f3 b hb).2.2.2.1,(f3 b hb).2.1,(f3 b hb).2.2.2.2.1,(f3 b hb).2.2.2.2.2⟩) n6 (fC _ I6.free) qn
  ·refine cn (T.item ((aK X N' sc (bQ X.env.cells sc.names []) s3.heap.objs.size s3 (upd H2 s2.heap.objs.size (.lst [])) fp).xs E) rfl rfl rfl hc i [] s5 nY H5 _ I5 (stat wZ) uT go) λr s6 ⟨u,hr,h6⟩=>?_
   subst hr
   refine cn h6 λ_ s7 ⟨x,H7,I7,r7,y7,tL,FL⟩=>?_
   have Fg:=I7.pinned (stat FL) (T.obj _ _ tL)
   refine cn (Qu _ s7 nY H7 x u _ Fg r7 (step x H7 y7)) λ_ s8 ⟨uS,H8,I8,q8⟩=>?_
   refine cn (htY _ s8 uS H8 _ I8 q8) λb s9 ⟨H9,I9,q9⟩=>?_
   have again:∀{σ':St} {H':Hp} {s':Shared} {ys':List V} {m':Nat},Inv ((aK X N' sc (bQ X.env.cells sc.names []) s3.heap.objs.size s3 (upd H2 s2.heap.objs.size (.lst [])) fp).xs E) ([]++jS fp s7.heap) σ' H' s'->m'<n->W (i+1) m' σ' ys' H'->
     ∃m,m<n/\∃i σ' ys H',Inv ((aK X N' sc (bQ X.env.cells sc.names []) s3.heap.objs.size s3 (upd H2 s2.heap.objs.size (.lst [])) fp).xs E) [] σ' H' s'/\tn i s'.heap/\(∀b∈fp,H' b=none)/\W i m σ' ys H':=λ{σ' H' s' ys' m'} I' hm w'=>by
    refine⟨m',hm,i+1,σ',ys',H',I'.fX,T.keep _ _ _ tL λb hb o z=>(I'.pin (b,o) (Vx _ (Vx _ (cO hb z)))).1,λb hb=>?_,w'⟩
    obtain⟨o,z,d⟩:=T.obj _ _ tL b hb
    exact(I'.pin (b,o) (Vx _ (Vx _ (cO hb z)))).2.1
   cases b with
   | false =>
    rw [VZ VA]at q9⊢
    obtain⟨m',hm,w'⟩:=hN _ _ _ q9
    exact again I9 hm w'
   | true =>
    rw [V0 rfl]at q9⊢
    refine cn (O3 _ s9 uS H9 _ I9 q9) λxv D9 ⟨v,Ax,LM,r10,Dp,w10⟩=>?_
    obtain⟨m',hm,w'⟩:=hN _ _ _ w10
    have LJ:n_ (.ref s2.heap.objs.size) [v] Ax λ_ H'=>H'=upd Ax s2.heap.objs.size (.lst (ys++[v])):=⟨_,ys,v,rfl,rfl,Dp,hsz,rfl⟩
    refine cn (c9 _ D9 uS Ax _ _ _ _ _ LM (show RelV (.ref s2.heap.objs.size) (.ref s2.heap.objs.size) from rfl) (.cons r10 .nil) LJ) λ_ Rm ⟨_,Pr,Ip,_,Mn⟩=>?_
    rw [Mn]at Ip
    exact again Ip hm w'
 exact codeAny_compStart_list loop (T.self _ 0 _ _ _ DN loop)
theorem Bb(hc:X.calm=true)(tp:Top X L)(S:aZ X.env.scope X.N N' src sc)(hi:PI (X.xs E) target iter wi)
  (hg:∀cl C s H fp,PG ((aK X N' sc cl C s H fp).xs E) target g) (ht:∀cl C s H fp,jg ((aK X N' sc cl C s H fp).xs E) ifs tc) (he:∀cl C s H fp,PE ((aK X N' sc cl C s H fp).xs E) elt te)
  (hs:∀x,foldedSetIterable iter X.env x=pure x:=by intro _; rfl) :
  PE (X.xs E) (.ListComp elt [⟨target,iter,ifs,0⟩] sc pos) (ET src wi g tc te):=by
 intro pins s σ H Q I h
 rw [eval_ListComp]
 refine wpAny_comprehension_free (use:=none) rfl hs (c_ λy hy hk=>I.ok.has y.1 (S.free y hy hk)) S.kind (λy hy hl=>by rw [←hl]; exact S.uniq y hy) ?_
 refine cn (hi pins s σ H _ I h) λv s1 h1=>cn h1 λitv s2 h2=>?_
 obtain⟨it,fp,tn,J,H2,z,I2,T,st2,f2,hW⟩:=h2
 subst z
 refine va (Q:=Q) (QQ:=EP (X.xs E) pins σ Q) (use:=none) hc tp S hg ht he I2.dj T st2 f2 hW ?_
 intro D C s5 H' m I5 n5 fC q
 refine⟨m,n5,λh' sb=>⟨.ref D,H',?_,rfl,q⟩⟩
 exact(I5.turned (t':=s5.toks) (λb o hb z=>(sb.2 b hb).trans z) fC.1 fC.2.1 fC.2.2.2.1 fC.2.2.2.2.1 fC.2.2.2.2.2).wish _
end
section
variable{X:Cx}{pins:List (Addr×Obj)}{σ:St}{H:Hp}{s:Shared}
theorem nZ{M:Model}{A:Around}{E2:Value->Shared->Prop}{i:Nat}{n:Str}{pos:Pos}{Q:Unit->Shared->Prop}(I:Inv X pins σ H s)(hN:X.N.Nodup)(hi:X.N[i]? = some n)(hk:X.env.scope.names.lookup n=some .local)
  (q:∀s',Inv X pins (σ.set i none) H s'->Q () s'):wpAny M A (do bindName X.env n .none; unbindBehindTheSuite X.env n pos) Q E2 s:=by
 refine Vi (wpAny_bindName (iu I hN hi (.inl hk) (show RelV .non .none from rfl) (λs1 I1=>?_) (.inr hk)))
 have Ef:i<σ.length:=by rw [I.len]; exact(VC.mp hi).1
 obtain⟨m,hn,hl⟩:=id I1.loc
 obtain⟨u,ru,lk⟩:=hl i n .non hi (List.getElem?_set_self Ef) (.inl hk)
 have hv:m n=some u:=by
  rcases lk with⟨_,z⟩ | ⟨z,_⟩
  ·exact z
  ·have hk':X.env.kindOf n=some .local:=hk
   rw [hk']at z
   rcases z with z | z <;> cases z
 have hp:(X.env.scope.kind == .class||(X.env.scope.kind == .module&&X.env.locals != X.env.globals))=false:=by rw [I.ok.kind]; rfl
 unfold unbindBehindTheSuite
 refine wpAny_onRaise (wpAny_unbindName_local hk hn hv hp λh' u' hn' hs=>q _ ?_)
 obtain⟨oL,_,_,hoL,_⟩:=id hn
 have below:∀b o,X.s₀.heap.get? b=some o->b≠X.env.locals:=λb o z=>VI (Vv (Vl z) I1.ok.above)
 refine⟨I1.ok,I1.os,I1.bare,⟨λb o z nn hb hx=>(hs.2 b (below b o z)).trans (I1.base.keep b o z nn hb hx),λb o z nn hb hx=>?_,I1.base.free,λb o z hx=>?_,I1.base.tups,I1.base.qk,I1.base.qO⟩,⟨_,hn',λj y v' e1 e2 e3=>?_⟩,λy c z=>?_,I1.free,I1.fU,λp hp'=>?_,λb ob z=>?_,by simpa using I.len⟩
 ·obtain⟨sl,z1⟩:=I1.base.slot b o z nn hb hx
  exact⟨sl,(hs.2 b (below b o z)).trans z1⟩
 ·obtain⟨o',z1⟩:=I1.base.there b o z hx
  exact⟨o',(hs.2 b (below b o z)).trans z1⟩
 ·have hj:j≠i:=λz=>by
   rw [z,List.getElem?_set_self Ef]at e2
   cases e2
  rw [List.getElem?_set_ne (Ne.symm hj)]at e2
  obtain⟨u2,r2,To⟩:=hl j y v' e1 (by rw [List.getElem?_set_ne (Ne.symm hj)]; exact e2) e3
  refine⟨u2,r2,?_⟩
  have T6:y≠n:=λz=>hj (qv hN e1 (z▸hi))
  rcases To with⟨k,z⟩ | ⟨k,c,z1,z2⟩
  ·exact .inl ⟨k,by simp [T6,z]⟩
  ·exact .inr ⟨k,c,z1,z2.sameBut hs (I1.Fm y c z1)⟩
 ·obtain⟨w',z1⟩:=I1.cell y c z
  exact⟨w',z1.sameBut hs (I1.Fm y c z)⟩
 ·obtain⟨z1,z2,z3,z4,z5⟩:=I1.pin p hp'
  exact⟨(hs.2 p.1 z3).trans z1,z2,z3,z4,z5⟩
 ·refine(I1.hok b ob z).stay (λc w' hc z1=>(hs.2 c ?_).trans z1) (λ_ z1=>z1) λ_ _ z1=>z1
  rintro rfl
  rcases hc with rfl | hc
  ·rw [I1.free]at z; cases z
  ·rw [I1.free]at hc; cases hc
end
abbrev Cx.bear(X:Cx)(pins:List (Addr×Obj)):Cx:={X with pn:=X.pn++pins}
abbrev Cx.FJ(X:Cx)(e:Addr):Cx:={X with A:=X.A.mark (some (.ref e)),calm:=false,xe:=λ_ _=>False}
section
variable{X:Cx}{pins:List (Addr×Obj)}{σ:St}{H:Hp}{s:Shared}
theorem Inv.bear(I:Inv X pins σ H s):Inv (X.bear pins) [] σ H s :=
 ⟨⟨I.ok.mod,I.ok.kind,I.ok.glob,I.ok.blt,I.ok.above,I.ok.inj,I.ok.has,I.ok.cab,I.ok.hd,I.ok.frames,I.ok.KS,I.ok.Br,I.ok.bs,I.ok.BG,I.ok.vV,I.ok.om,I.ok.ky,I.ok.E8⟩,I.os,I.bare,I.base,I.loc,I.cell,I.free,I.fU,λp hp=>I.pin p (by simpa using hp),I.hok,I.len⟩
theorem Inv.me(I:Inv (X.bear pins) [] σ H s):Inv X pins σ H s :=
 ⟨⟨I.ok.mod,I.ok.kind,I.ok.glob,I.ok.blt,I.ok.above,I.ok.inj,I.ok.has,I.ok.cab,I.ok.hd,I.ok.frames,I.ok.KS,I.ok.Br,I.ok.bs,I.ok.BG,I.ok.vV,I.ok.om,I.ok.ky,I.ok.E8⟩,I.os,I.bare,I.base,I.loc,I.cell,I.free,I.fU,λp hp=>I.pin p (by simpa using hp),I.hok,I.len⟩
theorem Inv.FJ(I:Inv X pins σ H s)(e:Addr):Inv (X.FJ e) pins σ H s :=
 ⟨⟨I.ok.mod,I.ok.kind,I.ok.glob,I.ok.blt,I.ok.above,I.ok.inj,I.ok.has,I.ok.cab,(λz=>VY (show false=true from z) (by decide)),I.ok.frames,I.ok.KS,I.ok.Br,I.ok.bs,I.ok.BG,I.ok.vV,I.ok.om,I.ok.ky,I.ok.E8⟩,I.os,I.bare,I.base,I.loc,I.cell,I.free,I.fU,I.pin,I.hok,I.len⟩
theorem Inv.Fs{e:Addr}(ok:X.Ok)(I:Inv (X.FJ e) pins σ H s):Inv X pins σ H s:=⟨ok,I.os,I.bare,I.base,I.loc,I.cell,I.free,I.fU,I.pin,I.hok,I.len⟩
end
def Pc(K:Wg)(tb:TS)(E:XK)(Cc:Addr)(i:Nat)(ts:TS):TS:=λD σ H=>tb D σ H/\∀(σ':St) (C e:Addr) (od:Option Addr) (H':Hp),σ'.length=σ.length->H' e=some (xO e C od)->E (.ref C) (some e) H'->
 PySem.W.exmOne K (.ref C) (.ref Cc)=some true/\ts {nx:=λdn H2=>D.nx (dn.set i none) H2,rt:=D.rt,bk:=λdn H2=>D.bk (dn.set i none) H2,ct:=λdn H2=>D.ct (dn.set i none) H2} (σ'.set i (some (.ref e))) H'
theorem Jl{X:Cx}{E:XK}{L Cc:Addr}{i:Nat}{n x:Str}{body suite:List Stmt}{b0:Stmt}{np hpos pos:Pos}{tb ts:TS}(tp:Top X L)(hN:X.N.Nodup)(hi:X.N[i]? = some n)(hk:X.env.scope.names.lookup n=some .local)(hg:Gl X x)(hm:X.mg x=some (.ref Cc))
  (hb:∀pins,qj ((X.bear pins).xs E) body tb) (hs:∀e,qj (X.FJ e) (b0::suite) ts) (hdb:(x==("__debug__" : Str))=false:=by decide) :
  PS X (.Try body [.ExceptHandler (some (.Name x np)) (some n) (b0::suite) hpos] [] [] pos) (Pc X.K tb E Cc i ts):=by
 intro pins s σ H D I h
 obtain⟨h1,h2⟩:=h
 have back:∀{f:Flow} {s1:Shared},SP ((X.bear pins).xs E) [] D f s1->SP X pins D f s1:=λ{f s1} z=>by
  cases f with
  | next=>obtain⟨σ',H',I',q⟩:=z; exact⟨σ',H',I'.dj.me,q⟩
  | brk=>obtain⟨σ',H',I',q⟩:=z; exact⟨σ',H',I'.dj.me,q⟩
  | cont=>obtain⟨σ',H',I',q⟩:=z; exact⟨σ',H',I'.dj.me,q⟩
  | ret u=>obtain⟨v,σ',H',I',r,q⟩:=z; exact⟨v,σ',H',I'.dj.me,r,q⟩
 refine wpAny_Try_except (VR (hb pins [] s σ H D (I.bear.wish _) h1) (λf s1 z=>?_) λev s1 hx=>?_)
 ·cases f with
  | next=>exact wpAny_execs_nil (back z)
  | brk=>exact back (f:=.brk) z
  | cont=>exact back (f:=.cont) z
  | ret u=>exact back (f:=.ret u) z
 obtain⟨e,C,od,E9,H1,rfl,I1,f1,hE⟩:=hx
 have T5:Top (X.bear pins) L:=⟨tp.ex,tp.fr⟩
 have hlen:E9.length=σ.length:=by rw [I1.len]; exact I.len.symm
 obtain⟨hm1,hts⟩:=h2 E9 C e od H1 hlen f1.at_ hE
 refine nG (X:=X.bear pins) I1.ok.frames T5 tp.fr I1 f1 λs2 T I2 f2=>?_
 refine iG I2 f2 none λs3 I3 f3=>?_
 refine wpAny_handleBy_cons (codeAny_handlers_test ?_) (by intro z; cases z)
 have Q3:Inv (X.FJ e) pins E9 H1 s3:=I3.me.FJ e
 refine oi (X:=X.FJ e) Q3 hg hm ?_ hdb
 obtain⟨⟨fl,sl,Ls⟩,_⟩:=I3.hok e _ f3.at_
 have LT:PySem.W.Looks (model X.prog X.w) s3.heap (typeOf (.ref e)) (.ref C):=(PySem.W.Looks.ld Ls).andThen .now
 refine(PySem.W.exm_one Q3.jZ LT hm1).here ?_
 refine codeAny_handlers_suite_as ?_
 refine iG I3 f3 none λs5 I5 f5=>?_
 refine iu (X:=X.FJ e) (I5.me.FJ e) hN hi (.inl hk) (show RelV (.ref e) (.ref e) from rfl) (λs6 I6=>?_) (.inr hk)
 refine VR (hs e pins s6 _ H1 _ I6 hts) (λf s7 z=>?_) λ_ _ z=>V4 z
 cases f with
 | next=>obtain⟨σ',H',I',q⟩:=z; exact nZ (I'.Fs I.ok) hN hi hk λs8 I8=>⟨_,H',I8,q⟩
 | brk=>obtain⟨σ',H',I',q⟩:=z; exact nZ (I'.Fs I.ok) hN hi hk λs8 I8=>⟨_,H',I8,q⟩
 | cont=>obtain⟨σ',H',I',q⟩:=z; exact nZ (I'.Fs I.ok) hN hi hk λs8 I8=>⟨_,H',I8,q⟩
 | ret u=>obtain⟨v,σ',H',I',r,q⟩:=z; exact nZ (I'.Fs I.ok) hN hi hk λs8 I8=>⟨v,_,H',I8,r,q⟩
abbrev LB(t:Addr):Array Value:=#[.ref t,.none,.none,.none,.bool false,.none]
abbrev xF(a C:Addr)(od:Option Addr):HO:=.ext λh=>∃t sl,h.get? a=some {cls:=.ref C,dict:=od,data:=.fields (LB t),slots:=sl}
section
variable{P:Program}{w:World}{H:Hp}{h h':Heap}{a C d:Addr}{od:Option Addr}{fs:List (Str×V)}{o:HO}
theorem IE{tt:Addr}{sl:Array (Option Value)}(e:h.get? a=some {cls:=.ref C,dict:=od,data:=.fields (LB tt),slots:=sl}):cB P w H h a (xF a C od) :=
 ⟨⟨tt,sl,e⟩,⟨_,e⟩,λ_ _ ⟨tt,sl,e⟩ k=>⟨tt,sl,k _ e⟩⟩
end
section
variable{X:Cx}{pins:List (Addr×Obj)}{σ:St}{H:Hp}{s:Shared}{a C dx:Addr}{fs:List (Str×V)}{f:Str}{v y:V}{u:Value}{A:Around}{E:Value->Shared->Prop}
theorem Jt{Q:Unit->Shared->Prop}(I:Inv X pins σ H s)(e:H a=some (xF a C (some dx)))(ed:H dx=some (xD dx fs))(c:lF X.K C)(n:iV X.K C f)(hz:fs.length<1000)(ry:RelV y u)
  (h:∀s',Inv X pins σ (upd H dx (xD dx (ni f y fs))) s'->Q () s'):wpAny (model X.prog X.w) A (setAttr (.ref a) f u) Q E s:=by
 obtain⟨⟨tt,sl,ha⟩,_⟩:=I.hok a _ e
 obtain⟨⟨mA,ns,r⟩,_⟩:=I.hok dx _ ed
 obtain⟨od,ho,hl⟩:=my ns
 have J:PySem.W.InstAt s.heap a {cls:=.ref C,dict:=some dx,data:=.fields (LB tt),slots:=sl} C (some od):=⟨ha,rfl,rfl,ho⟩
 have wi:=sD r
 have TK:(fs.map (·.1)).length+1<=sizeLine:=by rw [Vr,sizeLine_eq]; omega
 obtain⟨cd,PE,hc,_,hd'⟩:=c.cls
 refine PySem.W.set_plain I.jZ J c.sa (rN (s:={s with toks:=s.toks+1}) c I.jZ J n λb=>?_)
 refine Vi (Vj (Vi (Vi (wpAny_loadPart ha (Vi (PySem.W.Looks.here (s:={s with toks:=s.toks+1}) (PySem.W.looks_clsIn I.jZ hc) ?_))))))
 rw [hd']
 refine Vj (a:=some dx) (Vi (Vj (Vi ?_)))
 refine wpAny_nsSet1 (s:={s with toks:=s.toks+1}) ns λh' hn2 hs2=>?_
 obtain⟨oD,esD,epD,hoD,hdD,hcD⟩:=hn2.count (PySem.Within.cons f u wi)
 refine Vi (wpAny_lookBehind hoD (by rw [hdD]; exact pastItsLine_dict (Vo hcD (by rw [VV]; exact Nat.le_succ_of_le TK))) ?_)
 refine Vj (h _ ?_)
 refine I.write (x:=dx) (e:=dx) (by rw [ed]; exact True.intro) (.inl rfl) (λb q hb z=>(hs2.2 b hb).trans z) ⟨_,hoD⟩ (EC hn2 λg=>?_)
 show jD ((ni f y fs).lookup g) (if g=f then some u else mA g)
 rw [eD]
 by_cases q:g=f
 ·rw [V0 q,V0 q]; exact ry
 ·rw [VZ q,VZ q]; exact r g
theorem Jm{Q:Unit->Shared->Prop}(I:Inv X pins σ H s)(e:H a=some (xF a C none))(c:lF X.K C)(n:iV X.K C f)(ry:RelV y u)
  (h:∀dx s',H dx=none->Inv X pins σ (upd (upd (upd H dx (xD dx [])) a (xF a C (some dx))) dx (xD dx (ni f y []))) s'->Q () s'):wpAny (model X.prog X.w) A (setAttr (.ref a) f u) Q E s:=by
 obtain⟨⟨tt,sl,ha⟩,_⟩:=I.hok a _ e
 have J:PySem.W.InstAt s.heap a {cls:=.ref C,dict:=none,data:=.fields (LB tt),slots:=sl} C none:=⟨ha,rfl,rfl,True.intro⟩
 obtain⟨cd,PE,hc,_,hd'⟩:=c.cls
 refine PySem.W.set_plain I.jZ J c.sa (rN (s:={s with toks:=s.toks+1}) c I.jZ J n λb=>?_)
 refine Vi (Vj (Vi (Vi (wpAny_loadPart ha (Vi (PySem.W.Looks.here (s:={s with toks:=s.toks+1}) (PySem.W.looks_clsIn I.jZ hc) ?_))))))
 rw [hd']
 have na:a≠s.heap.objs.size:=VI (Vl ha)
 have fr:H s.heap.objs.size=none:=I.hok.fresh (Vn _)
 have hgd:(s.heap.push {cls:=.type "dict",data:=.dict #[]}).get? s.heap.objs.size=some {cls:=.type "dict",data:=.dict #[]}:=Vm _ rfl
 have hn0:(s.heap.push {cls:=.type "dict",data:=.dict #[]}).Ns1 s.heap.objs.size (λ_=>none):=Heap.Ns1.of_empty ⟨_,#[],_,hgd,rfl,λe he=>VY he (by simp),λ_=>rfl⟩
 have I1:Inv X pins σ (upd H s.heap.objs.size (xD s.heap.objs.size [])) {s with heap:=s.heap.push {cls:=.type "dict",data:=.dict #[]},toks:=s.toks+1} :=
  I.laid (λb u q=>Vk _ q) (Vn _) (EC hn0 λg=>True.intro)
 have ha1:(s.heap.push {cls:=.type "dict",data:=.dict #[]}).get? a=some {cls:=.ref C,dict:=none,data:=.fields (LB tt),slots:=sl}:=Vk _ ha
 refine Vi (wpAny_alloc' ?_)
 refine Vi (wpAny_update' ha1 ?_)
 have ha2:((s.heap.push {cls:=.type "dict",data:=.dict #[]}).update a λo=>{cls:=o.cls,dict:=some s.heap.objs.size,data:=o.data,slots:=o.slots}).get? a=some {cls:=.ref C,dict:=some s.heap.objs.size,data:=.fields (LB tt),slots:=sl}:=Heap.get?_update_self _ ha1 rfl
 have I2:Inv X pins σ (upd (upd H s.heap.objs.size (xD s.heap.objs.size [])) a (xF a C (some s.heap.objs.size))) {s with heap:=(s.heap.push {cls:=.type "dict",data:=.dict #[]}).update a λo=>{cls:=o.cls,dict:=some s.heap.objs.size,data:=o.data,slots:=o.slots},toks:=s.toks+1} :=
  I1.write (x:=a) (e:=a) (by rw [aI na,e]; exact True.intro) (.inl rfl) (λb q hb z=>(Heap.get?_update_ne _ _ _ _ hb).trans z) ⟨_,ha2⟩ (IE ha2)
 have hd2:=I2.hok s.heap.objs.size (xD s.heap.objs.size []) (by rw [aI (Ne.symm na)]; exact ag)
 obtain⟨⟨mA,ns,r⟩,_⟩:=hd2
 refine Vj (Vi (Vj (Vi ?_)))
 refine wpAny_nsSet1 (s:={s with heap:=(s.heap.push {cls:=.type "dict",data:=.dict #[]}).update a λo=>{cls:=o.cls,dict:=some s.heap.objs.size,data:=o.data,slots:=o.slots},toks:=s.toks+1}) ns λh' hn2 hs2=>?_
 obtain⟨oD,esD,epD,hoD,hdD,hcD⟩:=hn2.count (PySem.Within.cons f u (sD r))
 refine Vi (wpAny_lookBehind hoD (by rw [hdD]; exact pastItsLine_dict (Vo hcD (by show 1<=sizeLine+1; exact Nat.succ_le_succ (VJ _)))) ?_)
 refine Vj (h s.heap.objs.size _ fr ?_)
 refine I2.write (x:=s.heap.objs.size) (e:=s.heap.objs.size) (by rw [aI (Ne.symm na),ag]; exact True.intro) (.inl rfl) (λb q hb z=>(hs2.2 b hb).trans z) ⟨_,hoD⟩ (EC hn2 λg=>?_)
 show jD ((ni f y []).lookup g) (if g=f then some u else mA g)
 rw [eD]
 by_cases q:g=f
 ·rw [V0 q,V0 q]; exact ry
 ·rw [VZ q,VZ q]; exact r g
end
section
variable{X:Cx}{CX:rC}{k:Nat}{f C:Addr}{fd:FuncData}{ps:List Str}{sp:Sp}{E:XK}{x:Str}{p pos:Pos}{e:Expr}{es:List Expr}{t:TA}
theorem Inv.ME{pins:List (Addr×Obj)}{σ:St}{H:Hp}{s:Shared}{h':Heap}{a:Addr}{rest:List Value}(I:Inv X pins σ H s)(m:Heap.MadeExcOf s.heap h' a (.ref C) rest):H a=none/\Inv X pins σ (upd H a (xF a C none)) {s with heap:=h'}:=by
 obtain⟨t,et,_,_⟩:=m.there
 have hn:=I.hok.none_of m.new
 exact⟨hn,I.un (t':=s.toks) (Un.laidN m.keeps m.new hn) (I.hok.laidN m.keeps m.new (IE et))⟩
def MU(C:Addr)(sp:Sp)(E:XK)(t:TA):TE:=λσ H Q=>t σ H λvs H1=>vs.length<=sizeLine/\∀a,H1 a=none->sp (.ref a::vs) (upd H1 a (xF a C none)) (λv H2=>v=.non/\Q (.ref a) H2) E
theorem Ga(hx:mq X.K C Ao "ValueError.__new__" (some (.ref f))=true)(hk:PySem.W.keepIn X.K (.ref C)=true)(hf:PySem.W.isFn X.K (.ref f)=true)(F:e_ X.prog X.w X.K X.mg X.base CX k f fd ps sp)(hr:eV (k+1) X.A)(hg:Gl X x)(hm:X.mg x=some (.ref C))
  (hb:Binds X.K fd ps []) (hpx:Passes CX X E) (ha:PA X (e::es) t)
  (hdb:(x==("__debug__" : Str))=false:=by decide) (he:starEach (e::es) X.env=(false,eval e X.env)::starEach es X.env:=by rfl) (hpl:(backTo pos (starEach es X.env)).any (·.1)=false:=by rfl) :
  PE X (.Call (.Name x p) (e::es) [] pos) (MU C sp E t):=by
 intro pins s σ H Q I h
 refine wpAny_Call_Name_kw (oi I hg hm ?_ hdb)
 refine PySem.W.callWith_K (h₀:=X.base) I.ok.mod.Lq hk (cn (ha pos pins s σ H _ I h) λus s1 ⟨vs,H1,I1,r,hz,q⟩=>⟨I1.jZ,?_⟩) he hpl
 obtain⟨bm,N,nm,q',bs,hd,sn,sub,ab,col,dd,k0,k1,k2,k3,k5,mN,hC,hN,hni,T⟩:=r6 I1.jZ hx
 have hfn:∃oI,s1.heap.get? f=some oI/\oI.cls=.type "function":=by
  have z:PySem.W.typeIn X.K (.ref f)=some (.type "function"):=beq_iff_eq.mp hf
  obtain⟨o,ho,hc⟩:=Option.map_eq_some_iff.mp (show(X.K.lookup f).map (·.cls)=some _ from z)
  exact⟨o,I1.jZ _ _ ho,hc⟩
 obtain⟨oI,hfI,hfc⟩:=hfn
 obtain⟨hp,gs,dr,tk,os⟩:=s1
 refine oz PySem.F.excBase_ValueError T hC hN hni hfI hfc (λh' a m=>?_) (by show us.length<=sizeLine; rw [←r.length]; exact hz)
 obtain⟨hn,I2⟩:=I1.ME m
 have hq:=q a hn
 have r2:Vals (V.ref a::vs) (Value.ref a::us):=.cons rfl r
 have hl:(Value.ref a::us).length=ps.length:=by rw [←r2.length]; exact F.len _ _ _ _ hq
 have hl':((Value.ref a::us)++([]:List Value)).length=ps.length:=by rw [V8]; exact hl
 have hb':=hb _ (Value.ref a::us) I2.jZ hl'
 rw [V8]at hb'
 refine wpAny_call (codeAny_mono (F.run _ X.stack _ _ ⟨Value.ref a::us,[]⟩ (Value.ref a::us) _ _ E (hr.make C us []) (I2.env0.make C us []) hb' r2 hq) λr s' hq'=>?_)
 cases r with
 | error ee=>exact hpx pins σ _ _ ee s' I2 hq'
 | ok fl =>
  cases fl with
  | ret u =>
   obtain⟨v,H',I3,rv,ev,q3⟩:=I2.after hq'
   subst ev
   exact⟨rv,⟨V.ref a,H',I3,rfl,q3⟩⟩
  | next=>exact V4 hq'
  | brk=>exact V4 hq'
  | cont=>exact V4 hq'
end
section
variable{X:Cx}{o value:Expr}{ta tv:TE}{f:Str}{pos pos':Pos}
def J9(K:Wg)(ta tv:TE)(f:Str):TS:=λD σ H=>tv σ H λy H1=>ta σ H1 λx H2=>∃a C,x=.ref a/\lF K C/\iV K C f/\
 ((H2 a=some (xF a C none)/\∀dx,H2 dx=none->D.nx σ (upd (upd (upd H2 dx (xD dx [])) a (xF a C (some dx))) dx (xD dx (ni f y []))))\/
  ∃dx fs,H2 a=some (xF a C (some dx))/\H2 dx=some (xD dx fs)/\fs.length<1000/\D.nx σ (upd H2 dx (xD dx (ni f y fs))))
theorem wb(ha:PE X o ta)(hv:PE X value tv)(hs:swapsWith value (some (.Attribute o f pos')) pos.line X.env=pure false):PS X (.Assign [.Attribute o f pos'] value pos) (J9 X.K ta tv f):=by
 intro pins s σ H D I h
 refine plainObj_wpAny_Assign_Attribute (cn (hv pins s σ H _ I h) λu s1 ⟨y,H1,I1,ry,q⟩=>cn (ha pins s1 σ H1 _ I1 q) λov s2 ⟨x,H2,I2,rx,a,C,ex,c,n,q2⟩=>?_) hs
 subst ex
 obtain rfl:ov=Value.ref a:=rx
 rcases q2 with⟨ea,q3⟩ | ⟨dx,fs,ea,ed,l,q3⟩
 ·exact Jm I2 ea c n ry λdx s3 hn I3=>⟨σ,_,I3,q3 dx hn⟩
 ·exact Jt I2 ea ed c n l ry λs3 I3=>⟨σ,_,I3,q3⟩
end
end L2
namespace PySem
section
variable{M:Model}{A:Around}{E:Value->Shared->Prop}{env:Env}
variable{nm q:Str}{C N:Addr}{bs bm:List Value}{hdct:Bool}{sn:List Str}{sub:List Value}{ab:Bool}{col:Option Bool}{dd:Option Addr}{k0 k1 k2 k3 k5:Option Value}{newId:String}
theorem wq{s:Shared}{x:Sem Value}{Q:Flow->Shared->Prop}(hbase:bm.contains (.type "BaseException")=true)(hh:A.handled=none)
  (h:wpAny M A x (λv s₁=>∃e t od sl,v=.ref e/\s₁.heap.get? C=some (excClassObj nm q C N bs bm hdct sn sub ab col dd k0 k1 k2 k3 k5 newId)/\
   s₁.heap.get? e=some {cls:=.ref C,dict:=od,data:=.fields #[.ref t,.none,.none,.none,.bool false,.none],slots:=sl}/\E (.ref e) s₁) E s) :
  wpAny M A (raiseStmt env (some x) none) Q E s:=by
 have hcB:(Value.ref C::bm).contains (.type "BaseException")=true:=by rw [List.contains_cons,hbase,Bool.or_true]
 unfold raiseStmt
 refine Vi (VR h (λv s₁ h₁=>?_) λ_ _ x=>x)
 obtain⟨e,t,od,sl,rfl,hC,he,hE⟩:=h₁
 obtain⟨hp,g,d,tk,os⟩:=s₁
 repeat (first | with_reducible refine wpAny_loadPart_at he ?_ | with_reducible refine wpAny_loadPart_at hC ?_ | (with_reducible refine wpAny_isSubtype_exc hC ?_; rw [hcB]) | wp_step)
 exact wpAny_raiseNew_none hh hE
end
end PySem
namespace L2
open PySem PySem.Spec PyProof.Rows
def F_(C:Addr)(E:XK)(te:TE):TS:=λ_ σ H=>te σ H λv H1=>∃a od,v=.ref a/\H1 a=some (xF a C od)/\E (.ref C) (some a) (upd H1 a (xO a C od))
theorem AY{X:Cx}{E:XK}{C:Addr}{pos:Pos}{e:Expr}{te:TE}{ini:Option Value}(hc:X.calm=true)(hx:mq X.K C Ao "ValueError.__new__" ini=true)(he:PE (X.xs E) e te) :
  PS (X.xs E) (.Raise (some e) none pos) (F_ C E te):=by
 intro pins s σ H D I h
 obtain⟨bm,N,nm,q',bs,hd,sn,sub,ab,col,dd,k0,k1,k2,k3,k5,mN,hC,hN,hni,T⟩:=r6 I.ok.mod.Lq hx
 rw [arm_exec_Raise]
 show wpAny _ _ (do standAt pos; raiseStmt X.env (some (do let v←eval e X.env; standAt pos; pure v)) none) _ _ s
 refine Vi (wpAny_standAt (wq (C:=C) (nm:=nm) (q:=q') (N:=N) (bs:=bs) (bm:=bm) (hdct:=hd) (sn:=sn) (sub:=sub) (ab:=ab) (col:=col) (dd:=dd) (k0:=k0) (k1:=k1) (k2:=k2) (k3:=k3) (k5:=k5) (newId:="ValueError.__new__") (T.hasType PySem.F.excBase_ValueError.hasBase) (I.ok.hd hc) ?_))
 refine Vi (cn (he pins s σ H _ I h) λu s1 ⟨v,H1,I1,rv,a,od,ev,ea,q⟩=>Vi (wpAny_standAt (Vj ?_)))
 subst ev
 cases rv
 obtain⟨⟨tt,sl,ha⟩,_⟩:=I1.hok a _ ea
 refine⟨a,tt,od,sl,rfl,I1.bk _ _ hC,ha,?_⟩
 have I2:=(I1.i7 (pins':=[]) λp hp=>VY hp (by simp)).dj
 have I3:Inv X [] σ (upd H1 a (xO a C od)) s1:=by
  have:=I2.write (x:=a) (e:=a) (h':=s1.heap) (t':=s1.toks) (o:=xO a C od) (by rw [ea]; exact True.intro) (.inl rfl) (λb q hb z=>z) ⟨_,ha⟩ (IG ha)
  exact this
 exact⟨a,C,od,σ,upd H1 a (xO a C od),rfl,I3,⟨ag,_,_,ha,.inl rfl⟩,q⟩
end L2
namespace My
open PySem L2
structure Fl where
 o:Bool
 j:Bool
 f:Bool
 w:Bool
 l:Bool
def pO(s:Str):Bool:=!cF s
def pJ(s:Str):Bool:=decide (s="walk")||decide (s="both")||decide (s="meet")
def pF(s:Str):Bool:=decide (s="first")
def pW(s:Str):Bool:=decide (s="walk")
def flagsOf(ps:List Str)(l:Bool):Fl:=⟨ps.any pO,ps.any pJ,ps.any pF,ps.any pW,l⟩
def Kn.fl(k:Kn):Fl:=flagsOf k.ps k.lo
def looseW:Wk->Hd->Fl->Bool
 | .one (.keep c _),h,_=>decide (bu h c="t")
 | .one (.first n),_,f=>decide (¬n<=0)&&f.j
 | .meet ..,_,f=>f.w||f.f
 | _,_,_=>false
def jI:Wk->Fl->Bool
 | .one (.walk _ _),f=>!f.o
 | .meet _ _ p q,_=>(p++q).all λw=>cF w.nm
 | _,_=>true
def fF(x:Wk)(f:Fl)(hs:List Hd):Option Str :=
 if cV x hs=true then
  if ba x hs=true then
   if(bw x hs).length<=6 then
    if jI x f=true then
     if(iK x&&f.l)=true then some "loose" else none
    else some "rows"
   else some "wide"
  else some "sort"
 else some "column"
theorem any_eq(ps:List Str)(s:Str):ps.any (λt=>decide (t=s))=ll ps s:=by
 apply Bool.eq_iff_iff.mpr
 rw [Gk,List.any_eq_true]
 constructor
 ·rintro⟨t,h,e⟩; rw [←VX e]; exact h
 ·intro h; exact⟨s,h,Vq rfl⟩
theorem Eg(ps:List Str)(p q:Str->Bool):ps.any (λs=>p s||q s)=(ps.any p||ps.any q):=by
 induction ps with
 | nil=>rfl
 | cons a ps ih=>rw [Wd,Wd,Wd,ih]; cases p a <;> cases q a <;> simp
theorem KL(ps:List Str):ps.any pJ=(ll ps "walk"||ll ps "both"||ll ps "meet"):=by
 unfold pJ
 rw [Eg ps (λs=>decide (s="walk")||decide (s="both")) (λs=>decide (s="meet")),Eg,any_eq,any_eq,any_eq]
theorem C4(x:Wk)(k:Kn):fe x k=looseW x k.hd k.fl:=by
 have e1:=KL k.ps
 have e2:k.ps.any pF=ll k.ps "first":=any_eq _ _
 have e3:k.ps.any pW=ll k.ps "walk":=any_eq _ _
 cases x with
 | one x =>
  cases x <;> try rfl
  show(decide _&&(ll k.ps "walk"||ll k.ps "both"||ll k.ps "meet"))=(decide _&&k.ps.any pJ)
  rw [e1]
 | both p q=>rfl
 | meet c d p q =>
  show(ll k.ps "walk"||ll k.ps "first")=(k.ps.any pW||k.ps.any pF)
  rw [e2,e3]
theorem FN(x:Wk)(k:Kn):jY x k.ps=jI x k.fl:=by
 cases x with
 | one x =>
  cases x <;> try rfl
  show k.ps.all cF = !(k.ps.any pO)
  rw [List.not_any_eq_all_not]
  congr 1
  funext s
  show _ = !(!cF s)
  rw [Bool.not_not]
 | both p q=>rfl
 | meet c d p q=>rfl
theorem Jj(x:Wk)(k:Kn)(hs:List Hd):sP x k hs=fF x k.fl hs:=by
 unfold sP fF
 rw [FN]
 rfl
def Ag(x:Wk)(h:Hd)(f:Fl)(fs:List Fl):Fl:=⟨fs.any (λg=>g.o)||pO (aF x),fs.any (λg=>g.j)||pJ (aF x),fs.any (λg=>g.f)||pF (aF x),fs.any (λg=>g.w)||pW (aF x),looseW x h f||fs.any λg=>g.l⟩
theorem Fu{a b:List Str}{p:Str->Bool}(h:∀s,s∈a↔s∈b):a.any p=b.any p:=by
 apply Bool.eq_iff_iff.mpr
 rw [List.any_eq_true,List.any_eq_true]
 constructor
 ·rintro⟨t,m,e⟩; exact⟨t,(h t).mp m,e⟩
 ·rintro⟨t,m,e⟩; exact⟨t,(h t).mpr m,e⟩
theorem uF(ks:List Kn)(x:Wk)(p:Str->Bool){ps:List Str}(h:AU ps (ks.flatMap (λk=>k.ps)++[aF x])):ps.any p=((ks.any λk=>k.ps.any p)||p (aF x)):=by
 rw [Fu h.2,List.any_append,List.any_flatMap]
 simp
theorem NA{x:Wk}{k k':Kn}{ks:List Kn}(h:AU k'.ps (ks.flatMap (λk=>k.ps)++[aF x]))(hl:k'.lo=(fe x k||ks.any λk=>k.lo)):k'.fl=Ag x k.hd k.fl (ks.map Kn.fl):=by
 unfold Kn.fl flagsOf Ag
 rw [uF ks x pO h,uF ks x pJ h,uF ks x pF h,uF ks x pW h,hl,C4,List.any_map,List.any_map,List.any_map,List.any_map,List.any_map]
 rfl
inductive Res where
 | ok (h:Hd) (f:Fl)
 | no (p:List Int) (s:Str)
def eW(x:Wk)(h:Hd)(f:Fl)(pl:List Int)(es:List (Hd×Fl)):Res:=match fF x f (es.map λe=>e.1)with
 | some s=>.no pl s
 | none=>.ok (bw x (es.map λe=>e.1)) (Ag x h f (es.map λe=>e.2))
def bK(r:Res)(g:Hd->Fl->Res):Res:=match r with
 | .ok h f=>g h f
 | .no a s=>.no a s
def putL(step:Hd->Fl->List Int->Wk->Res)(pl:List Int):Nat->Hd->Fl->List Wk->Res
 | _,h,f,[]=>.ok h f
 | i,h,f,x::ws=>bK (step h f (pl++[(i:Int)]) x) λh' f'=>putL step pl (i+1) h' f' ws
def qZ(step:Hd->Fl->List Int->Wk->Res)(x:Wk)(h:Hd)(f:Fl)(pl:List Int):List (List Wk)->Nat->List (Hd×Fl)->Res
 | [],_,es=>eW x h f pl es
 | p::ps,j,es=>bK (putL step (pl++[(j:Int)]) 0 h f p) λh' f'=>qZ step x h f pl ps (j+1) (es++[(h',f')])
def bC:Nat->Hd->Fl->List Int->Wk->Res
 | 0,h,f,pl,x=>eW x h f pl [(h,f)]
 | n+1,h,f,pl,x=>match x with
  | .one _=>eW x h f pl [(h,f)]
  | _=>qZ (bC n) x h f pl (dA x) 0 []
def BN:List Str:=["keep","same","cut","turn","must","walk","sort","apart","count","sum","number","first","both","meet","first 0"]
theorem Dn(x:Wk):aF x∈BN:=by
 match x with
 | .one (.first n) =>
  show(if n<=0 then("first 0" : Str)else "first")∈BN
  split <;> decide +kernel
 | .one (.keep ..) | .one (.same ..) | .one (.cut ..) | .one (.turn ..) | .one (.must ..) | .one (.walk ..) | .one (.sort ..) | .one .apart | .one (.count ..) | .one (.sum ..) | .one .number | .both .. | .meet ..=>exact List.mem_of_elem_eq_true (by simp only [aF,Wk.nm,W1.nm]; decide +kernel)
theorem sub_len:∀{l m:List Str},l.Nodup->(∀s∈l,s∈m)->l.length<=m.length
 | [],m,_,_=>VJ _
 | a::l,m,hn,hs=>by
  rw [List.nodup_cons]at hn
  have ha:a∈m:=hs a (by simp)
  have:=sub_len (l:=l) (m:=m.erase a) hn.2 λs h=>by
   have ne:s≠a:=by rintro rfl; exact hn.1 h
   exact(List.mem_erase_of_ne ne).mpr (hs s (by simp [h]))
  rw [List.length_erase_of_mem ha]at this
  have hp:0<m.length:=List.length_pos_of_mem ha
  rw [VV]
  omega
theorem nJ{x:Str}:¬wX x x:=λh=>List.lt_irrefl _ h
structure ny(k:Kn):Prop where
 hd:k.hd.length<=6
 nd:k.ps.Nodup
 sub:∀s∈k.ps,s∈BN
theorem ny.few{k:Kn}(h:ny k):k.ps.length<=15:=sub_len h.nd h.sub
theorem ny.next{k':Kn}{ks:List Kn}{x:Wk}(hk:∀k∈ks,ny k)(hh:k'.hd.length<=6)(h:AU k'.ps (ks.flatMap (λk=>k.ps)++[aF x])):ny k':=by
 refine⟨hh,h.1.imp λ{a b} e z=>by subst z; exact nJ e,λs hs=>?_⟩
 rcases VH.mp ((h.2 s).mp hs)with z | z
 ·obtain⟨k,h1,h2⟩:=List.mem_flatMap.mp z
  exact(hk k h1).sub s h2
 ·rw [VD.mp z]
  exact Dn x
def inClass(s:Stmt)(i:Nat):Stmt:=match s with
 | .ClassDef _ _ _ body _ _ _ _ _ _ _=>body.getD i (.Pass ⟨0,0,0,0⟩)
 | _=>.Pass ⟨0,0,0,0⟩
abbrev ma:Stmt:=inClass (top 5) 0
theorem FY:ay ["self","place","why"] ["self","place","why"] (ar ma):=⟨rfl,rfl,rfl,by decide +kernel,rfl,by decide +kernel,by decide +kernel⟩
abbrev A7(pl wy:V):List (Str×V):=ni "why" wy (ni "place" pl [])
def ze(K:Wg)(C:Addr):Sp:=λvs H Q _=>∃a v1 v2,vs=[.ref a,v1,v2]/\H a=some (xF a C none)/\lF K C/\iV K C "place"/\iV K C "why"/\
 ∀dx H',H dx=none->(∀b o,b≠a->H b=some o->H' b=some o)->H' a=some (xF a C (some dx))->H' dx=some (xD dx (A7 v1 v2))->Q .non H'
structure Ja(K:Wg)(mg:Str->Option Value)(C fI:Addr):Prop where
 xc:lF K C
 np:iV K C "place"
 nr:iV K C "why"
 Rh:mq K C Ao "ValueError.__new__" (some (.ref fI))=true
 kp:PySem.W.keepIn K (.ref C)=true
 fn:PySem.W.isFn K (.ref fI)=true
 mf:mg "NoPipe"=some (.ref C)
section
variable{P:Program}{w:World}{K:Wg}{mg:Str->Option Value}{base:Heap}{f C:Addr}{fd:FuncData}
theorem Cg(F:BD K "__init__" "NoPipe.__init__" ma f fd):e_ P w K mg base bc 1 f fd ["self","place","why"] (ze K C):=by
 refine F.ok FY (λvs H Q E h=>?_) (λcdv A outer s H vs Q E hr h=>?_)
 ·obtain⟨a,v1,v2,rfl,_⟩:=h
  rfl
 obtain⟨a,v1,v2,rfl,ha,c,n1,n2,q⟩:=h
 refine⟨_,aq (wb (pv 0) (pv 1) rfl) (bM (wb (pv 0) (pv 2) rfl)),?_⟩
 refine⟨_,rfl,_,rfl,a,C,rfl,c,n1,.inl ⟨ha,λdx hdx=>?_⟩⟩
 have nd:a≠dx:=aV ha hdx
 refine⟨_,rfl,_,rfl,a,C,rfl,c,n2,.inr ⟨dx,_,by rw [aI nd]; exact ag,ag,by show 1<1000; decide,?_⟩⟩
 refine q dx _ hdx (λb o nb e=>?_) (by rw [aI nd,aI nd]; exact ag) ag
 have Qg:b≠dx:=aV e hdx
 rw [aI Qg,aI Qg,aI nb,aI Qg]
 exact e
end
end My
namespace L2
open PySem PySem.Spec PyProof.Rows
section
variable{X:Cx}{pins:List (Addr×Obj)}{σ:List (Option V)}{H H':Hp}{s:Shared}{h':Heap}
theorem Inv.rW{t':Nat}{fp:List Addr}{T:Addr}{xs:List V}(I:Inv X pins σ H s)(hf:∀b∈fp,dI X pins H b)(k:∀b o,b∉fp->s.heap.get? b=some o->h'.get? b=some o)(hT:s.heap.objs.size<=T)
  (new:cB X.prog X.w (upd H T (.tup xs)) h' T (.tup xs)):Inv X pins σ (upd H T (.tup xs)) {s with heap:=h',toks:=t'}:=by
 have nT:H T=none:=I.hok.fresh hT
 have Ij:∀b u,H b=some u->b∉fp:=λb u e z=>by rw [(hf b z).1]at e; cases e
 have Tn:∀b o,s.heap.get? b=some o->b≠T:=λb o e z=>by
  have:=Vl e
  rw [z]at this
  exact VY (Vv this hT) (Nat.lt_irrefl _)
 refine I.step (g':=s.gens) (d':=s.drawn) (ch:=fp) (λb hb=>?_) (λb o _ _ hc e _=>k b o hc e) (λb o _ _ hc e _=>⟨o.slots,k b o hc e⟩) (λb o hc e n=>by rw [aI (Tn b o e)]; exact n)
  (λb o hc e=>⟨o,k b o hc e⟩) (λb ys e=>by rw [aI (aV e nT)]; exact e) (λb o u e=>by rw [aI (aV e nT)]; exact e) (λb ps e=>⟨#[],by rw [aI (aV e nT),e]; simp⟩) (λm hm=>?_) (λb u e=>?_) I.bare
 ·obtain⟨f0,f1,f2,f3,f4,f5⟩:=hf b hb
  exact⟨f3,f1,f4,f5⟩
 ·obtain⟨o,es,ep,ho,r⟩:=hm
  exact⟨o,es,ep,k _ o (λz=>(hf _ z).2.1 rfl) ho,r⟩
 ·by_cases hb:b=T
  ·subst hb; rw [ag]at e; cases e; exact new
  ·rw [aI hb]at e
   refine(I.hok b u e).stay (λc v hc q=>k c v ?_ q) (λc q=>by rw [aI (aV q nT)]; exact q) λc ys q=>by rw [aI (aV q nT)]; exact q
   rcases hc with z | z
   ·rw [z]; exact Ij b u e
   ·exact Ij c _ z
theorem Inv.qz{t':Nat}{fp:List Addr}(I:Inv X pins σ H s)(hf:∀b∈fp,dI X pins H b)(k:∀b o,b∉fp->s.heap.get? b=some o->h'.get? b=some o):Inv X pins σ H {s with heap:=h',toks:=t'}:=by
 have Ij:∀b u,H b=some u->b∉fp:=λb u e z=>by rw [(hf b z).1]at e; cases e
 refine I.step (g':=s.gens) (d':=s.drawn) (ch:=fp) (λb hb=>?_) (λb o _ _ hc e _=>k b o hc e) (λb o _ _ hc e _=>⟨o.slots,k b o hc e⟩) (λb o hc e n=>n)
  (λb o hc e=>⟨o,k b o hc e⟩) (λb ys e=>e) (λb o u e=>e) (λb ps e=>⟨#[],by rw [e]; simp⟩) (λm hm=>?_) (λb u e=>?_) I.bare
 ·obtain⟨f0,f1,f2,f3,f4,f5⟩:=hf b hb
  exact⟨f3,f1,f4,f5⟩
 ·obtain⟨o,es,ep,ho,r⟩:=hm
  exact⟨o,es,ep,k _ o (λz=>(hf _ z).2.1 rfl) ho,r⟩
 ·refine(I.hok b u e).stay (λc v hc q=>k c v ?_ q) (λ_ q=>q) λ_ _ q=>q
  rcases hc with z | z
  ·rw [z]; exact Ij b u e
  ·exact Ij c _ z
end
section
variable{prog:Program}{w:World}{A:Around}{E:Value->Shared->Prop}{s:Shared}
theorem kD{it t:Addr}{i:Nat}{items:Array Value}{x:Value}{Q:Value->Shared->Prop}(hit:s.heap.IsTupleIter it t i)(ht:s.heap.IsTuple t items)(hx:items[i]? = some x)
  (hQ:∀h',h'.IsTupleIter it t (i+1)->Heap.SameBut it s.heap h'->Q x {s with heap:=h'}):wpAny (model prog w) A (Builtin.SmallTypes.nextOf (.ref it)) Q E s:=by
 obtain⟨o,ho,hc,hd⟩:=id hit
 obtain⟨ol,hol,_,nl,hdl⟩:=ht
 unfold Builtin.SmallTypes.nextOf
 refine Vi (wpAny_callSpecial?_slot (name:=Str.ofString "__next__") hit.typeIs F.slot_tuple_iterator_next (V9 F.slot_tuple_iterator_next hit.typeIs F.entry_tuple_iterator_next ?_ (F.args_tuple_iterator_next_1 _)))
 show wpAny _ _ (field (.ref it) 0 >>= _) _ _ s
 refine Vi (wpAny_field ho hd (x:=.ref t) rfl ?_)
 show wpAny _ _ (if(Value.ref t==Value.none)=true then _ else _) _ _ s
 rw [VZ (show¬((Value.ref t==Value.none)=true) from VA)]
 show wpAny _ _ (field (.ref it) 1 >>= _) _ _ s
 refine Vi (wpAny_field ho hd (x:=.int i 0) rfl ?_)
 show wpAny _ _ (seqItems? (.ref t) >>= _) _ _ s
 refine Vi (wpAny_seqItems hol hdl ?_)
 simp only [Int.toNat_natCast,hx]
 refine Vi (wpAny_setField ho hd (by simp) (Vj ⟨x,rfl,Vj (hQ _ ?_ (Heap.SameBut.update ..))⟩))
 exact⟨_,Heap.get?_update_self _ ho (Obj.isFreed_of_fields (Obj.data_mapFields hd _)),(Obj.cls_mapFields ..).trans hc,by rw [Obj.data_mapFields hd]; simp [rawInt]⟩
end
section
variable{prog:Program}{w:World}{A:Around}{E:Value->Shared->Prop}{s:Shared}
theorem fW{it t:Addr}{i:Nat}{items:Array Value}{Q:Value->Shared->Prop}(hh:A.handled=none)(hit:s.heap.IsTupleIter it t i)(ht:s.heap.IsTuple t items)(hx:items[i]? = none)
  (hE:∀h' e,Heap.ExtBut it s.heap h'->(∃o,h'.get? e=some o/\o.cls=.type "StopIteration")->E (.ref e) {s with heap:=h'}):wpAny (model prog w) A (Builtin.SmallTypes.nextOf (.ref it)) Q E s:=by
 obtain⟨o,ho,hc,hd⟩:=id hit
 obtain⟨ol,hol,_,nl,hdl⟩:=ht
 unfold Builtin.SmallTypes.nextOf
 refine Vi (wpAny_callSpecial?_slot (name:=Str.ofString "__next__") hit.typeIs F.slot_tuple_iterator_next (V9 F.slot_tuple_iterator_next hit.typeIs F.entry_tuple_iterator_next ?_ (F.args_tuple_iterator_next_1 _)))
 show wpAny _ _ (field (.ref it) 0 >>= _) _ _ s
 refine Vi (wpAny_field ho hd (x:=.ref t) rfl ?_)
 show wpAny _ _ (if(Value.ref t==Value.none)=true then _ else _) _ _ s
 rw [VZ (show¬((Value.ref t==Value.none)=true) from VA)]
 show wpAny _ _ (field (.ref it) 1 >>= _) _ _ s
 refine Vi (wpAny_field ho hd (x:=.int i 0) rfl ?_)
 show wpAny _ _ (seqItems? (.ref t) >>= _) _ _ s
 refine Vi (wpAny_seqItems hol hdl ?_)
 simp only [Int.toNat_natCast,hx]
 refine Vi (wpAny_rule (Vi (wpAny_setField ho hd (by simp) ?_)))
 show wpAny _ _ (newExc (.type "StopIteration") [] >>= _) _ _ _
 refine Vi ?_
 simp only [newExc,newTuple]
 refine Vi (VT ?_ (by size_fits))
 refine Vi (m:=firstArgMember _ _) (wpAny_of_eq (a:=Value.none) (by first | rfl | (simp only [firstArgMember]; rfl)) ?_)
 refine VT ?_ (by size_fits)
 simp only [raiseNew]
 refine Vi (wpAny_handled ?_)
 first | rw [show A.in1.handled=none from hh] | rw [hh]
 refine Vi (Vj (wpAny_throw ?_))
 exact hE _ _ (((Heap.SameBut.update ..).extBut.push _).push _) ⟨_,Vm _ rfl,rfl⟩
theorem s_{h h':Heap}{a b:Addr}{xs:Array Value}(x:h.IsTuple a xs)(hs:Heap.ExtBut b h h')(hab:a≠b):h'.IsTuple a xs:=let ⟨o,ho,r⟩:=x; ⟨o,hs a o hab ho,r⟩
theorem Al(hh:A.handled=none)(it t:Addr)(hne:t≠it)(items:Array Value):Draws prog w A it [it,t] items.size (λi v=>items[i]? = some v) (λi h=>h.IsTupleIter it t i/\h.IsTuple t items) where
 live:=λ_ _ st=>let ⟨o,ho,_⟩:=st.1; ⟨o,ho⟩
 frame:=λ_ _ _ st hk=>⟨st.1.at λo e=>hk it (by simp) o e,let ⟨o,ho,r⟩:=st.2; ⟨o,hk t (by simp) o ho,r⟩⟩
 item:=λi s Q E hi st hQ=>by
  refine kD st.1 st.2 (x:=items[i]) (by simp [hi]) λh' hit' hs'=>?_
  exact hQ _ h' s.toks (by simp [hi]) ⟨hit',s_ st.2 hs'.extBut hne⟩ hs'
 done:=λs Q E st hE=>fW hh st.1 st.2 (by simp) hE
abbrev NY(h:Heap)(t:Addr):Heap:=h.push {cls:=.type "tuple_iterator",data:=.fields #[.ref t,.int 0 0]}
abbrev Q1(h:Heap)(t:Addr):Heap:=(NY h t).push {cls:=.type "enumerate",data:=.fields #[.none,.bool false,.ref h.objs.size,rawInt 0,.none,.none]}
theorem wt(t:Addr)(items:Array Value)(n:Nat)(dct:Option Addr)(sl:Array (Option Value)) :
  Meets (Builtin.«enumerate.__new__» ⟨[.type "enumerate",.ref t],[]⟩) (λ_ R s=>s.heap.get? t=some {cls:=.type "tuple",dict:=dct,data:=.seq items n,slots:=sl}/\R (.ok (.ret (.ref (NY s.heap t).objs.size))) {s with heap:=Q1 s.heap t}) :=
 .of_wp λprog w A R s h=>by
  obtain⟨hp,g,d,tk,os⟩:=s; obtain⟨hl,h⟩:=h
  have hsub:=sub_enumerate
  have hL:Heap.IsTuple (Shared.heap ⟨hp,g,d,tk,os⟩) t items:=⟨_,hl,rfl,n,rfl⟩
  wp_walk using AutoSeq1.wpAny_loadPart' hl
  refine wpAny_stack_any λst=>Vj ?_
  split
  ·rename_i c _ _ _ _ _
   cases(c==Value.type "enumerate")
   ·wp_walk using AutoSeq1.wpAny_loadPart' hl,wpAny_pyIter_tuple hL
    exact⟨_,rfl,h⟩
   ·wp_walk using AutoSeq1.wpAny_loadPart' hl,wpAny_pyIter_tuple hL
    exact⟨_,rfl,h⟩
  ·wp_walk using AutoSeq1.wpAny_loadPart' hl,wpAny_pyIter_tuple hL
   exact⟨_,rfl,h⟩
theorem yh{t:Addr}{items:Array Value}{Q:Value->Shared->Prop}(hL:s.heap.IsTuple t items)
  (h:∀h',IsEnum h' (s.heap.objs.size+1) s.heap.objs.size 0 .none->h'.IsTupleIter s.heap.objs.size t 0->h'.objs.size=s.heap.objs.size+2->(∀b o,s.heap.get? b=some o->h'.get? b=some o)->Q (.ref (s.heap.objs.size+1)) {s with heap:=h'}) :
  wpAny (model prog w) A (call (.type "enumerate") [.ref t]) Q E s:=by
 obtain⟨⟨c,dct,dt,sl⟩,hl,hc,n,hd⟩:=hL
 replace hc:c=.type "tuple":=hc
 replace hd:dt=.seq items n:=hd
 subst hc hd
 refine callType_new F.called_enumerate (by decide) (F.typeCall_enumerate_1 _) (F.newCall_enumerate_1 _) (λobj=>F.args_object_init_2 obj _) F.entry_enumerate_new (wt t items n dct sl) ⟨hl,?_⟩
 have hz:(NY s.heap t).objs.size=s.heap.objs.size+1:=Heap.size_push ..
 show _/\_
 have he:(Q1 s.heap t).get? (NY s.heap t).objs.size=some _:=Vm _ rfl
 rw [hz]at he
 rw [hz]
 exact⟨⟨_,he,rfl⟩,h _ he ⟨_,Vk _ (Vm _ rfl),rfl,rfl⟩ (by rw [Heap.size_push,hz]) λb o x=>Vk _ (Vk _ x)⟩
end
def NJ(K:Wg)(a:Addr):It :=
 ⟨λi H=>∃xs x,aH K H a xs/\xs[i]? = some x,
   λi H v H'=>∃T x,v=.ref T/\H T=none/\H'=upd H T (.tup [.int (i:Nat),x])/\∀xs,aH K H a xs->xs[i]? = some x,
   λi H=>∃xs,aH K H a xs/\xs.length<=i⟩
theorem yG{P:Program}{w:World}{K:Wg}{es:List Expr}{x1:Nat}{pos:Pos}(a e it:Addr)(hne:e≠it) :
  Turn P w K (.Tuple es x1 pos) (NJ K a) [e,it] e (λi h=>(∃old,IsEnum h e it (i:Nat) old)/\h.IsTupleIter it a i) where
 mem:=by simp
 obj:=λi h st c hc=>by
  obtain⟨⟨old,h1⟩,⟨o4,e4,c4,d4⟩⟩:=st
  simp only [VF,V1,or_false]at hc
  rcases hc with rfl | rfl
  ·exact⟨_,h1,λv z=>by cases(show Data.fields _=Data.cell v from z)⟩
  ·exact⟨o4,e4,λv z=>by rw [d4]at z; cases z⟩
 keep:=λi h h' st k=>by
  obtain⟨⟨old,h1⟩,h4⟩:=st
  exact⟨⟨old,k e (by simp) _ h1⟩,h4.at λo q=>k it (by simp) o q⟩
 item:=by
  intro X hP hw hK hc i pins s σ H E I hf st hg
  subst hP hw hK
  obtain⟨xs,x,hq,hx⟩:=hg
  obtain⟨its,rv,p,hz⟩:=I.tuple hq
  obtain⟨u,hu,ru⟩:=rv.get hx
  obtain⟨⟨old,h1⟩,h4⟩:=st
  have p':s.heap.IsTuple a its.toArray:=p
  have R5:e≠a:=λz=>by obtain⟨o,eo,co,_⟩:=p'; rw [←z,h1]at eo; cases eo; exact VY (Value.type.inj co) (by decide)
  have T8:a≠it:=λz=>by obtain⟨o,eo,co,_⟩:=p'; obtain⟨o4,e4,c4,_⟩:=h4; rw [z,e4]at eo; cases eo; exact VY (Value.type.inj (c4.symm.trans co)) (by decide)
  have hu':its.toArray[i]? = some u:=by simpa using hu
  have hlt:i<its.toArray.size:=by
   rcases Nat.lt_or_ge i its.toArray.size with z | z
   ·exact z
   ·rw [Array.getElem?_eq_none z]at hu'; cases hu'
  refine wpAny_pyNext_enum_itemD (Al (show X.A.in1.handled=none from I.ok.hd hc) it a T8 its.toArray) h1 ⟨h4,p'⟩ hlt hne (by simp [hne,R5]) λy h' tk hy g1 g2 g3 gs g6=>⟨_,rfl,?_⟩
  have Ut:y=u:=by rw [hu']at hy; exact(VL hy).symm
  subst Ut
  refine wpAny_letOwnedTupleGo_enum (show IsEnumOut h' e it ((i:Int)+1) y s.heap.objs.size from g1) λh'' f1 fs=>?_
  have elt:e<s.heap.objs.size:=Vl h1
  have Qm:s.heap.objs.size≠e:=Nat.ne_of_gt elt
  have kk:∀c o,c∉[e,it]->s.heap.get? c=some o->h''.get? c=some o:=λc o hc q=>by
   simp only [VF,V1,or_false,not_or]at hc
   exact fs.extBut _ _ hc.1 (g6 c o hc.1 hc.2 q)
  have pT:=fs.extBut _ _ Qm g3
  have I1:Inv X pins σ (upd H s.heap.objs.size (.tup [.int (i:Nat),x])) {s with heap:=h'',toks:=tk+1}:=I.rW hf kk (Vn _) ⟨by show 2<=sizeLine; decide,[.int (i:Nat) tk,y],.cons ⟨tk,rfl⟩ (.cons ru .nil),⟨_,pT,rfl,⟨_,rfl⟩,rfl⟩⟩
  refine⟨.ref s.heap.objs.size,_,I1,rfl,⟨_,x,rfl,I.hok.fresh (Vn _),rfl,λys hy'=>by rw [I.iA hy' hq]; exact hx⟩,⟨⟨_,f1⟩,g2.1.extBut fs.extBut hne.symm⟩,λc hc=>?_⟩
  have hn:=(hf c hc).1
  have:c≠s.heap.objs.size:=by
   simp only [VF,V1,or_false]at hc
   obtain⟨o4,e4,_⟩:=h4
   rcases hc with rfl | rfl
   ·exact VI elt
   ·exact VI (Vl e4)
  rw [aI this]; exact hn
 done:=by
  intro X hP hw hK hc i pins s σ H E I hf st hg
  subst hP hw hK
  obtain⟨xs,hq,hx⟩:=hg
  obtain⟨its,rv,p,hz⟩:=I.tuple hq
  obtain⟨⟨old,h1⟩,h4⟩:=st
  have hl:=rv.length
  have hn:its.toArray[i]? = none:=by simp; omega
  unfold pyNext
  have hT:s.TypeIs (.ref e) "enumerate":=⟨_,h1,rfl⟩
  refine Vi (wpAny_attempt (wpAny_callSpecial?_slot (name:=Str.ofString "__next__") hT F.slot_enumerate_next (V9 F.slot_enumerate_next hT F.entry_enumerate_next ?_ (F.args_enumerate_next_1 _))))
  show wpAny _ _ (field (.ref e) 2 >>= _) _ _ _
  refine Vi (wpAny_field h1 rfl (x:=.ref it) rfl ?_)
  refine Vi (fW (show X.A.in1.handled=none from I.ok.hd hc) h4 (show s.heap.IsTuple a its.toArray from p) hn λh' x he' hx'=>?_)
  obtain⟨o,ho,hco⟩:=hx'
  refine Vi (wpAny_isInstance (T:="StopIteration") (b:=true) ⟨o,ho,hco⟩ isSubtype_stop ?_)
  refine Vj ⟨rfl,I.qz (t':=s.toks) hf λc o hc q=>?_⟩
  simp only [VF,V1,or_false,not_or]at hc
  exact he' c o hc.2 q
 self:=λ_ _ _ _ _ st h=>let ⟨⟨_,h1⟩,_⟩:=st; wpAny_pyIter_enum h1 h
section
variable{X:Cx}
def MY(K:Wg)(ta:TA):TI:=λσ H R=>ta σ H λvs H1=>∃a,vs=[.ref a]/\(∃xs,aH K H1 a xs)/\R (NJ K a) H1
theorem qo{es:List Expr}{x1:Nat}{tpos:Pos}{a:Expr}{ta:TA}{p pos:Pos}(hg:Gl X "enumerate")(hm:X.mg "enumerate"=none)(ha:PA X [a] ta)(hs:starEach [a] X.env=[(false,eval a X.env)]:=by rfl) :
  PI X (.Tuple es x1 tpos) (.Call (.Name "enumerate" p) [a] [] pos) (MY X.K ta):=by
 intro pins s σ H R I h
 refine Call_ (iO I hg hm (by decide +kernel:bootBuiltins "enumerate"=some (.type "enumerate")) (PyProof.Rows.callWith_type1 (cn (ha pos pins s σ H _ I h) λus s1 ⟨vs,H1,I1,r1,q1⟩=>?_) hs rfl))
 obtain⟨l1,e,⟨xs,hq1⟩,q⟩:=q1
 subst e
 cases r1 with
 | cons r rr =>
  cases rr
  cases r
  obtain⟨its,rv,p1,hz⟩:=I1.tuple hq1
  refine yh p1 λh' he hi hsz hk=>?_
  refine wpAny_pyIter_enum (show IsEnum h' _ _ _ _ from he) ?_
  refine⟨_,[s1.heap.objs.size+1,s1.heap.objs.size],_,_,H1,rfl,I1.kept (t':=s1.toks) hk,yG _ _ _ (Nat.succ_ne_self _),⟨⟨_,he⟩,hi⟩,λc hc=>?_,q⟩
  simp only [VF,V1,or_false]at hc
  have hle:s1.heap.objs.size<=c:=by rcases hc with rfl | rfl <;> first | exact Vn _ | exact Nat.le_add_right _ _
  exact I1.mL hle (I1.hok.fresh hle)
end
theorem l5{K:Wg}{a:Addr}{xs:List V}{g:TG}{tb:TS}{D:Ends}{σ:St}{H:Hp}(Pv:Nat->St->Hp->Prop)(h0:Pv 0 σ H)(hl:∀i σ H,i<=xs.length->Pv i σ H->aH K H a xs)
  (hs:∀i x σ H T,xs[i]? = some x->Pv i σ H->H T=none->g (.ref T) σ (upd H T (.tup [.int (i:Nat),x])) λdn H2=>tb {D with nx:=Pv (i+1),ct:=Pv (i+1),bk:=D.nx} dn H2) (hd:∀σ H,Pv xs.length σ H->D.nx σ H) :
  ∃W:Nat->Nat->St->Hp->Prop,(∃m,W 0 m σ H)/\∀i m σ H,W i m σ H->
   ((NJ K a).stop i H/\D.nx σ H)\/((NJ K a).go i H/\∃N:St->Hp->Prop,(∀σ' H',N σ' H'->∃m',m'<m/\W (i+1) m' σ' H')/\∀x H',(NJ K a).GR i H x H'->g x σ H' λdn H2=>tb {D with nx:=N,ct:=N,bk:=D.nx} dn H2):=by
 refine⟨λi m σ H=>m=xs.length-i/\i<=xs.length/\Pv i σ H,⟨xs.length,by simp,VJ _,h0⟩,?_⟩
 rintro i m σ H ⟨rfl,hi,p⟩
 have q:=hl i σ H hi p
 by_cases hlt:i<xs.length
 ·refine .inr ⟨⟨xs,xs[i],q,by simp [hlt]⟩,Pv (i+1),λσ' H' p'=>⟨xs.length-(i+1),by omega,rfl,hlt,p'⟩,λv H' y=>?_⟩
  obtain⟨T,x,rfl,hT,rfl,hx⟩:=y
  exact hs i x σ H T (hx xs q) p hT
 ·have e:i=xs.length:=by omega
  subst e
  exact .inl ⟨⟨xs,q,Vn _⟩,hd σ H p⟩
end L2
namespace My
open PySem L2
section
variable{X:Cx}{N':List Str}{sc:Scope}{cl:List (Str×Addr)}{C:Addr}{s:Shared}{H:Hp}{fp:List Addr}{E:XK}
theorem JD{i:Nat}{x:Str}{pos:Pos}(hn:N'.Nodup:=by decide +kernel)(hN:N'[i]? = some x:=by rfl)(hv:sc.names.lookup x=some .local:=by rfl):PG ((aK X N' sc cl C s H fp).xs E) (.Name x pos) (bE i):=PG.zv (eI (X:=X) (cl:=cl) (C:=C) (s:=s) (H:=H) (fp:=fp) (N':=N') hn hN hv)
theorem Pw(i:Nat){x:Str}{pos:Pos}(hN:N'[i]? = some x:=by rfl)(hv:sc.names.lookup x=some .local:=by rfl)(hd:(x==("__debug__" : Str))=false:=by decide)(hcd:(x==("__classdict__" : Str))=false:=by decide):PE ((aK X N' sc cl C s H fp).xs E) (.Name x pos) (bD i):=PE.zv (jd (X:=X) (cl:=cl) (C:=C) (s:=s) (H:=H) (fp:=fp) (N':=N') i hN hv hd hcd)
end
theorem nN{t1 t2:TS}{D:Ends}{σ:St}{H:Hp}(Pm:St->Hp->Prop)(h:∀T:St->Hp->Prop,(∀σ' H',Pm σ' H'->T σ' H')->t1 {D with nx:=T} σ H)(t:∀σ' H',Pm σ' H'->t2 D σ' H'):xB t1 t2 D σ H:=h _ t
theorem nP{α:Type}{l:List α}{i:Nat}{x:α}(h:l[i]? = some x):l.drop i=x::l.drop (i+1):=by
 obtain⟨hi,rfl⟩:=VC.mp h
 exact List.drop_eq_getElem_cons hi
def eX(fl:Addr)(H H':Hp):Prop:=∀b o,b≠fl->H b=some o->H' b=some o
theorem eX.of{fl:Addr}{H H':Hp}(s:aM H H'):eX fl H H':=λ_ _ _ e=>s _ _ e
theorem eX.trans{fl:Addr}{H H1 H2:Hp}(a:eX fl H H1)(b:eX fl H1 H2):eX fl H H2:=λ_ _ n e=>b _ _ n (a _ _ n e)
theorem eX.put{fl:Addr}{H H1:Hp}{o:HO}(a:eX fl H H1):eX fl H (upd H1 fl o):=λb u n e=>by rw [aI n]; exact a _ _ n e
theorem eX.new{fl L:Addr}{H H1:Hp}{o:HO}(hL:H L=none)(a:eX fl H H1):eX fl H (upd H1 L o):=λb u n e=>by rw [aI (aV e hL)]; exact a _ _ n e
theorem eX.gy{fl:Addr}{H H':Hp}{xs:List V}(g:eX fl H H')(h:H fl=some (.lst xs)):aE H H':=λa ys e=>g _ _ (λz=>by rw [z,h]at e; cases e) e
theorem gD.keep{H H':Hp}{a:Addr}{k:Kn}(s:aE H H')(h:gD H a k):gD H' a k:=by
 obtain⟨u,p,h1,h2,h3⟩:=h
 exact⟨u,p,s _ _ h1,s _ _ h2,s _ _ h3⟩
def ra:Nat->List Wk->Prop
 | 0,ws=>ws.length<=11/\∀x∈ws,Bw x
 | n+1,ws=>ws.length<=11/\∀x∈ws,Bw x/\∀p∈dA x,ra n p
theorem ra.len{n:Nat}{ws:List Wk}(h:ra n ws):ws.length<=11:=by cases n <;> exact h.1
theorem ra.ok{n:Nat}{ws:List Wk}(h:ra n ws){x:Wk}(hx:x∈ws):Bw x:=by
 cases n with
 | zero=>exact h.2 x hx
 | succ n=>exact(h.2 x hx).1
def cW:Nat->Nat
 | 0=>1
 | n+1=>1+2*(11*cW n+1)
def bnd(n:Nat):Nat:=11*cW n+1
def Uy(C fl:Addr)(H:Hp)(a:List Int)(s:Str)(E:XK):Prop:=∀(e dx q:Addr) (H':Hp),eX fl H H'->H' e=some (xO e C (some dx))->H' dx=some (xD dx (A7 (.ref q) (.str s)))->H' q=some (.tup (a.map V.int))->E (.ref C) (some e) H'
def Ia(H:Hp)(t:Addr)(h:Hd):Prop:=∃q hh b,H t=some (.tup [q,.ref hh,b])/\dF H hh h
structure P6(n:Nat)(H:Hp)(p b pl fl:Addr)(ws:List Wk)(k:Kn)(pi:List Int)(xs:List V):Prop where
 pp:jC n H p ws
 kn:gD H b k
 pl:H pl=some (.tup (pi.map V.int))
 fl:H fl=some (.lst xs)
 ok:ra n ws
 ko:ny k
 pz:pi.length+2*n<=100
 xz:xs.length+bnd n<=200000
def zE(C:Addr):Nat->Sp
 | 0=>λ_ _ _ _=>False
 | n+1=>λvs H Q E=>∃(p b pl fl:Addr) (ws:List Wk) (k:Kn) (pi:List Int) (xs:List V),vs=[.ref p,.ref b,.ref pl,.ref fl]/\P6 n H p b pl fl ws k pi xs/\
  (∀a s,putL (bC n) pi 0 k.hd k.fl ws=.no a s->Uy C fl H a s E)/\
  (∀h f,putL (bC n) pi 0 k.hd k.fl ws=.ok h f->∀(u:Addr) (k':Kn) (H':Hp) (xs':List V) (t:Addr),eX fl H H'->gD H' u k'->ny k'->k'.hd=h->k'.fl=f->H' fl=some (.lst (xs'++[.ref t]))->xs'.length+1<=xs.length+bnd n->Ia H' t h->Q (.ref u) H')
theorem lS{x:Wk}(h:ck x=false):dA x=[]/\BS x=1:=by cases x <;> first | exact⟨rfl,rfl⟩ | cases h
theorem iQ{n:Nat}{x:Wk}{h:Hd}{f:Fl}{pl:List Int}(hx:ck x=false):bC n h f pl x=eW x h f pl [(h,f)]:=by
 cases x with
 | one x=>cases n <;> rfl
 | both p q=>cases hx
 | meet c d p q=>cases hx
theorem oo{n:Nat}{x:Wk}{h:Hd}{f:Fl}{pl:List Int}(hx:ck x=true):bC (n+1) h f pl x=qZ (bC n) x h f pl (dA x) 0 []:=by
 cases x with
 | one x=>cases hx
 | both p q=>rfl
 | meet c d p q=>rfl
theorem ml{x:Wk}(hx:ck x=true):(dA x).length=2/\BS x=2:=by cases x <;> first | exact⟨rfl,rfl⟩ | cases hx
theorem KH{x:Wk}{H:Hp}{a:Addr}(h:cX 0 H a x):ck x=false:=by cases x <;> first | rfl | exact V4 h
def nA(ks:List Kn):List (Hd×Fl):=ks.map λk=>(k.hd,k.fl)
theorem FR(ks:List Kn):(nA ks).map (λe=>e.1)=j4 ks:=by rw [nA,List.map_map]; rfl
theorem Fc(ks:List Kn):(nA ks).map (λe=>e.2)=ks.map Kn.fl:=by rw [nA,List.map_map]; rfl
theorem tS{x:Wk}{f:Fl}{hs:List Hd}(h:fF x f hs=none):cV x hs=true/\(bw x hs).length<=6:=by
 unfold fF at h
 split at h
 ·split at h
  ·split at h
   ·exact⟨by assumption,by assumption⟩
   ·cases h
  ·cases h
 ·cases h
theorem F0{x:Wk}{k:Kn}{ks:List Kn}(hk:ck x=false->ks=[k])(h:cV x (j4 ks)=true):keepIn x k.hd:=by
 rintro c t rfl
 rw [hk rfl]at h
 exact cM h (by simp [dg])
theorem EJ(n:Nat):1<=cW n:=by
 cases n with
 | zero=>exact Vn _
 | succ n=>show 1<=1+_; omega
theorem nH(n:Nat):cW (n+1)=1+2*bnd n:=rfl
theorem vY{H H':Hp}{L u:Addr}{as:List Addr}{ks:List Kn}{k:Kn}(h:jy H L as ks)(g:∀a k,gD H a k->gD H' a k)(hk:gD H' u k)(hL:H' L=some (.lst ((as++[u]).map V.ref))):jy H' L (as++[u]) (ks++[k]):=by
 refine⟨hL,by rw [Vs,Vs,h.len]; rfl,λi a k' e1 e2=>?_⟩
 by_cases hi:i<as.length
 ·rw [VN hi]at e1
  rw [VN (by rw [←h.len]; exact hi)]at e2
  exact g _ _ (h.at_ i a k' e1 e2)
 ·have hi':i=as.length:=by
   have:=(VC.mp e1).1
   rw [Vs]at this
   simp at this
   omega
  rw [hi',VM (Vn _),Nat.sub_self]at e1
  rw [hi',h.len,VM (Vn _),Nat.sub_self]at e2
  cases e1
  cases e2
  exact hk
theorem aE.refl{H:Hp}:aE H H:=λ_ _ e=>e
theorem aE.trans{H H1 H2:Hp}(a:aE H H1)(b:aE H1 H2):aE H H2:=λ_ _ e=>b _ _ (a _ _ e)
theorem aE.vJ{H H':Hp}{L:Addr}{xs:List V}{o:HO}(k:aE H H')(h:H' L=some (.lst xs)):aE H (upd H' L o):=λa ys e=>by
 have:=k _ _ e
 rw [aI (λz=>by rw [z,h]at this; cases this)]
 exact this
theorem Ee(pi:List Int)(i:Int):pi.map V.int++[V.int i]=(pi++[i]).map V.int:=by rw [Vt]; rfl
inductive S9 (a b c d e:V) (σ:St):Prop
 | mk (o5 o6 o7 o8 o9 sy rL:Option V) (h:σ=[some a,some b,some c,some d,some e,o5,o6,o7,o8,o9,sy,rL])
inductive NF (a b c d e f g h i:V) (σ:St):Prop
 | mk (o9 sy rL:Option V) (h:σ=[some a,some b,some c,some d,some e,some f,some g,some h,some i,o9,sy,rL])
inductive SI (n:Nat) (p b pl fl:Addr) (H:Hp) (k:Kn) (ws:List Wk) (pi:List Int) (xs:List V) (i:Nat) (σ:St) (H':Hp):Prop
 | mk (kb:Addr) (ki:Kn) (ys:List V) (st:S9 (.ref p) (.ref b) (.ref pl) (.ref fl) (.ref kb) σ) (h1:gD H' kb ki) (h2:ny ki) (h3:eX fl H H') (h4:H' fl=some (.lst ys)) (h5:ys.length<=xs.length+i*cW n) (h6:putL (bC n) pi 0 k.hd k.fl ws=putL (bC n) pi i ki.hd ki.fl (ws.drop i))
inductive Sv (n:Nat) (p b pl fl kb:Addr) (i:Nat) (a u2 L:Addr) (H4:Hp) (x:Wk) (ki k:Kn) (ws:List Wk) (pi:List Int) (ys:List V) (σ:St) (H6:Hp):Prop
 | mk (as:List Addr) (ks:List Kn) (zs:List V) (st:NF (.ref p) (.ref b) (.ref pl) (.ref fl) (.ref kb) (.int (i:Nat)) (.ref a) (.ref u2) (.ref L) σ) (h1:jy H6 L as ks) (h2:ks.length=(dA x).length) (h3:∀k∈ks,ny k) (h4:aE H4 H6) (h5:eX fl H4 H6) (h6:H6 fl=some (.lst zs)) (h7:zs.length<=ys.length+cW n) (h8:ck x=true->putL (bC n) pi 0 k.hd k.fl ws=bK (eW x ki.hd ki.fl (pi++[(i:Int)]) (nA ks)) λh' f'=>putL (bC n) pi (i+1) h' f' (ws.drop (i+1)))
inductive Td (n:Nat) (p b pl fl kb:Addr) (i:Nat) (a u2 L:Addr) (H4:Hp) (H5:Hp) (x:Wk) (ki k:Kn) (ws:List Wk) (pi:List Int) (ys:List V) (j:Nat) (σ:St) (H6:Hp):Prop
 | mk (as:List Addr) (ks:List Kn) (zs:List V) (st:NF (.ref p) (.ref b) (.ref pl) (.ref fl) (.ref kb) (.int (i:Nat)) (.ref a) (.ref u2) (.ref L) σ) (h1:jy H6 L as ks) (h2:ks.length=j) (h3:∀k∈ks,ny k) (h4:aE H5 H6) (h5:eX fl H4 H6) (h6:H6 fl=some (.lst zs)) (h7:∀m,n=m+1->zs.length<=ys.length+1+j*bnd m) (h8:j=0->zs.length<=ys.length+1) (h9:∀m,n=m+1->ck x=true->putL (bC n) pi 0 k.hd k.fl ws=bK (qZ (bC m) x ki.hd ki.fl (pi++[(i:Int)]) ((dA x).drop j) j (nA ks)) λh' f'=>putL (bC n) pi (i+1) h' f' (ws.drop (i+1)))
inductive S5 (n:Nat) (p b pl fl kb:Addr) (i:Nat) (a u2 L:Addr) (H4:Hp) (x:Wk) (ki k:Kn) (ws:List Wk) (pi:List Int) (zs:List V) (o9 sy rL:Option V) (σ:St) (H7:Hp):Prop
 | mk (as:List Addr) (ks:List Kn) (st:σ=[some (.ref p),some (.ref b),some (.ref pl),some (.ref fl),some (.ref kb),some (.int (i:Nat)),some (.ref a),some (.ref u2),some (.ref L),o9,sy,rL]) (h1:jy H7 L as ks) (h2:ks.length=BS x) (h3:∀k∈ks,ny k) (h4:ck x=false->ks=[ki]) (h5:aE H4 H7) (h6:eX fl H4 H7) (h7:H7 fl=some (.lst zs)) (h8:putL (bC n) pi 0 k.hd k.fl ws=bK (eW x ki.hd ki.fl (pi++[(i:Int)]) (nA ks)) λh' f'=>putL (bC n) pi (i+1) h' f' (ws.drop (i+1)))
abbrev fN:Stmt:=top 47
theorem bX:ay ["pipe","begun","prefix","found","known","at","worker","place","told","side","branch","why"] ["pipe","begun","prefix","found"] (ar fN):=fs
variable{P:Program}{w:World}{K:Wg}{mg:Str->Option Value}{base:Heap}
theorem uG{C fI:Addr}{d2:FuncData}{n L:Nat}(B:jH mg)(mE:mg "enumerate"=none)(Cf:Ja K mg C fI)(F:FA K mg "go_through" fN)(GI:e_ P w K mg base bc 1 fI d2 ["self","place","why"] (ze K C))(bI:Binds K d2 ["self","place","why"] [])
  (ig:bf bc P w K mg base 1 "branches_of" ["worker"] (EM n))
  (iM:bf (AG P w) P w K mg base (L+5) "go_through" ["pipe","begun","prefix","found"] (zE C n))
  (AM:bf bc P w K mg base 5 "why_not" ["worker","known","heads"] (HW n))
  (qB:bf bc P w K mg base 4 "known_behind" ["worker","known","told"] (u_ n)) :
  bf (AG P w) P w K mg base (L+6) "go_through" ["pipe","begun","prefix","found"] (zE C (n+1)):=by
 refine F.Ln bX λf cdv A outer s H vs Q E hr h=>?_
 have hu:=iD hr
 have hu1:=jb hr
 obtain⟨p,b,pl,fl,ws,k,pi,xs,rfl,hG,qx,q⟩:=h
 refine⟨_,(aq (aL (i:=4) bX.nd rfl (V2 rfl) (pv 1))
   (aq (gp (Df tO) rfl (qo rfl mE (ae (pv 0) ah)) (cG rfl (aA (bU (i:=5) bX.nd rfl (V2 rfl)) (aA (bU (i:=6) bX.nd rfl (V2 rfl)) bY)))
    (aq (aL (i:=7) bX.nd rfl (V2 rfl) (aD bZ (pv 2) (aJ (ae (pv 5) ah))))
     (aq (fQ (lD PySem.F.plainAttrs_list PySem.F.slot_list_append PySem.F.type_list_append c9 (pv 3) (ae (aJ (ae (pv 7) (ae (az K (pv 4) ai) (ae (az K (pv 4) ai) ah)))) ah)))
     (aq (aL (i:=8) bX.nd rfl (V2 rfl) (aQ ah))
     (aq (gp (Df tO) rfl (qo rfl mE (ae (av ig hr (ae (pv 6) ah)) ah)) (cG rfl (aA (bU (i:=9) bX.nd rfl (V2 rfl)) (aA (bU (i:=10) bX.nd rfl (V2 rfl)) bY)))
      (bM (fQ (lD PySem.F.plainAttrs_list PySem.F.slot_list_append PySem.F.type_list_append c9 (pv 8) (ae (vq iM hr rfl zQ (ae (pv 10) (ae (pv 4) (ae (aD bZ (pv 7) (aJ (ae (pv 9) ah))) (ae (pv 3) ah))))) ah)))))
     (aq (du (aU aP (bg bA rfl B.len We (ae (pv 8) ah)) ai)
      (bM (fQ (lD PySem.F.plainAttrs_list PySem.F.slot_list_append PySem.F.type_list_append c9 (pv 8) (ae (pv 4) ah))))
      b9)
     (aq (aL (i:=11) bX.nd rfl (V2 rfl) (av AM hr (ae (pv 6) (ae (pv 4) (ae (Bb (N':=["head","passed","loose"]) (src:=[none,none,none]) rfl tO (aZ.jT (by kernel_rfl)) (fq (pv 8)) (g:=(i8 K 3 (bR (bE 0) (bR (bE 1) (bR (bE 2) i5))))) (λcl C s H fp=>(cG rfl (aA (JD (i:=0)) (aA (JD (i:=1)) (aA (JD (i:=2)) bY))))) (λcl C s H fp=>jg.zv aX) (te:=(bD 0)) (λcl C s H fp=>(Pw 0))) ah)))))
     (aq (du (aU sI (pv 11) iS)
      (bM (AY rfl Cf.Rh (Ga Cf.Rh Cf.kp Cf.fn (GI.mono (by omega)) hr rfl Cf.mf bI v7 (ae (pv 7) (ae (pv 11) ah)))))
      b9)
     (bM (aL (i:=4) bX.nd rfl (V2 rfl) (av qB hr (ae (pv 6) (ae (pv 4) (ae (pv 8) ah))))))))))))))
   (aq (fQ (lD PySem.F.plainAttrs_list PySem.F.slot_list_append PySem.F.type_list_append c9 (pv 3) (ae (aJ (ae (aD bZ (pv 2) (aJ (ae (bg bA rfl B.len We (ae (pv 0) ah)) ah))) (ae (az K (pv 4) ai) (ae (az K (pv 4) ai) ah)))) ah)))
   (ax (pv 4))))),?_⟩
 obtain⟨⟨bs,hI⟩,hk,hpl,hfl,hok,hko,hpz,U9⟩:=hG
 have hlb:(bs.map V.ref).length=ws.length:=by rw [Vr,hI.len]
 have hcw:=EJ n
 have hw9:=hok.len
 have hbn:bnd n=11*cW n+1:=rfl
 refine⟨_,rfl,ak ?_⟩
 dsimp only
 refine⟨_,rfl,p,rfl,⟨_,aH.of hI.tup⟩,?_⟩
 refine l5 (xs:=bs.map V.ref) (SI n p b pl fl H k ws pi xs)
  ⟨b,k,xs,⟨_,_,_,_,_,_,_,rfl⟩,hk,hko,eX.of (aM.refl _),hfl,Nat.le_add_right _ _,rfl⟩ ?_ ?_ ?_
 ·rintro i σ H' _ ⟨kb,ki,ys,_,_,_,g,_⟩
  exact aH.of (g.gy hfl _ _ hI.tup)
 ·rintro i v σ H' T hx ⟨kb,ki,ys,⟨o5,o6,o7,o8,o9,sy,rL,rfl⟩,hki,hoi,g,hfl',hyz,hrun⟩ hT
  obtain⟨a,x,rfl,ex,ha⟩:=hI.get hx
  have Oe:i<11:=by have:=(VC.mp ex).1; omega
  have hic:i*cW n+cW n<=11*cW n:=by have:=Nat.mul_le_mul_right (cW n) Oe; rw [Nat.succ_mul]at this; exact this
  have Nd:=hok.ok (Vy ex)
  rw [nP ex]at hrun
  have hrun:putL (bC n) pi 0 k.hd k.fl ws=bK (bC n ki.hd ki.fl (pi++[(i:Int)]) x) λh' f'=>putL (bC n) pi (i+1) h' f' (ws.drop (i+1)):=hrun
  have sT:=aj hT (.tup [.int (i:Nat),.ref a])
  refine⟨T,_,rfl,aH.of ag,rfl,_,_,rfl,ak ⟨_,_,rfl,ak ⟨rfl,?_⟩⟩⟩
  dsimp only
  refine⟨_,rfl,_,rfl,dH,λu1 j6=>?_⟩
  have sU:=aj j6 (.tup [.int (i:Nat)])
  refine⟨pl,u1,_,_,rfl,rfl,sU _ _ (sT _ _ (g.gy hfl _ _ hpl)),ag,by rw [Vr]; exact Vo (show _+1<=1000 by omega) (by decide),λu2 H2 KO hu2=>ak ?_⟩
  rw [Ee]at hu2
  have s2:=sT.trans (sU.trans KO)
  dsimp only
  obtain⟨hh,ph,hk1,hk2,hk3⟩:=hki
  have hki:gD H' kb ki:=⟨hh,ph,hk1,hk2,hk3⟩
  refine⟨_,rfl,.inl ⟨rfl,_,a_.of (s2 _ _ hfl')⟩,_,rfl,_,rfl,kb,_,0,_,rfl,rfl,aH.of (s2 _ _ hk1),au (j:=0) rfl,_,rfl,kb,_,2,_,rfl,rfl,aH.of (s2 _ _ hk1),rfl,fM,λu3 wR=>?_⟩
  have s3:=aj wR (.tup [.ref u2,.ref hh,.bl ki.lo])
  refine⟨fl,_,_,rfl,rfl,s3 _ _ (s2 _ _ hfl'),Vu (show ys.length<=200000 by omega) (by decide),?_⟩
  have g4:eX fl H' (upd (upd H2 u3 (.tup [.ref u2,.ref hh,.bl ki.lo])) fl (.lst (ys++[.ref u3]))):=(eX.of (s2.trans s3)).put
  have Bp:upd (upd H2 u3 (.tup [.ref u2,.ref hh,.bl ki.lo])) fl (.lst (ys++[.ref u3])) fl=some (.lst (ys++[.ref u3])):=ag
  have uR:upd (upd H2 u3 (.tup [.ref u2,.ref hh,.bl ki.lo])) fl (.lst (ys++[.ref u3])) u2=some (.tup ((pi++[(i:Int)]).map V.int)):=by
   rw [aI (λz=>by have:=s2 _ _ hfl'; rw [←z,hu2]at this; cases this)]
   exact s3 _ _ hu2
  revert g4 Bp uR
  generalize upd (upd H2 u3 (.tup [.ref u2,.ref hh,.bl ki.lo])) fl (.lst (ys++[.ref u3]))=H4
  intro g4 Bp uR
  have DC:aE H' H4:=g4.gy hfl'
  have JN:aE H H4:=(g.gy hfl).trans DC
  refine⟨VJ _,λL hL=>ak ?_⟩
  have Ll:L≠fl:=λz=>by rw [z,Bp]at hL; cases hL
  dsimp only
  refine nN (Sv n p b pl fl kb i a u2 L H4 x ki k ws pi ys) (λT2 hT2=>?_) ?_
  ·have sL:=aj hL (.lst [])
   refine⟨_,rfl,a,x,rfl,ha.keep (JN.trans (aE.of sL)),λu5 cs H5 s5 hJ=>⟨u5,rfl,⟨_,aH.of hJ.tup⟩,?_⟩⟩
   have UP:(cs.map V.ref).length=(dA x).length:=by rw [Vr,hJ.len]
   refine l5 (xs:=cs.map V.ref) (Td n p b pl fl kb i a u2 L H4 H5 x ki k ws pi ys)
    ⟨[],[],ys++[.ref u3],⟨_,_,_,rfl⟩,⟨s5 _ _ ag,rfl,λi a k e=>by cases e⟩,rfl,λk hk=>(by cases hk),aE.refl,(eX.of sL).trans (eX.of s5),s5 _ _ (sL _ _ Bp),?_,?_,?_⟩ ?_ ?_ ?_
   ·intro m _; rw [Vs,Nat.zero_mul]; simp
   ·intro _; rw [Vs]; simp
   ·rintro m rfl hb
    rw [hrun,oo hb]
    rfl
   ·rintro j σ H6 _ ⟨as,ks,zs,_,_,_,_,kT,_⟩
    exact aH.of (kT _ _ hJ.tup)
   ·rintro j v σ H6 Sk hv ⟨as,ks,zs,⟨o9,sy,rL,rfl⟩,BI,hkl,K4,Rg,g6,yk,Lp,_,d0⟩ hT2'
    obtain⟨c',pp,rfl,ep,ds,Ug⟩:=hJ.get hv
    have hbr:ck x=true:=by
     cases hq:ck x with
     | true=>rfl
     | false=>rw [(lS hq).1]at ep; cases ep
    obtain⟨m,rfl⟩ :∃m,n=m+1:=by
     cases n with
     | zero=>rw [KH ha]at hbr; cases hbr
     | succ m=>exact⟨m,rfl⟩
    have hj2:j<2:=by have:=(VC.mp ep).1; rw [(ml hbr).1]at this; exact this
    have Lp:=Lp m rfl
    have hcs:=nH m
    have So:j*bnd m+bnd m<=2*bnd m:=by have:=Nat.mul_le_mul_right (bnd m) hj2; rw [Nat.succ_mul]at this; exact this
    have d0:=d0 m rfl hbr
    rw [nP ep]at d0
    have sA:=aj hT2' (.tup [.int (j:Nat),.ref c'])
    refine⟨Sk,_,rfl,aH.of ag,rfl,_,_,rfl,ak ⟨_,_,rfl,ak ⟨rfl,?_⟩⟩⟩
    dsimp only
    refine⟨_,rfl,.inl ⟨rfl,_,a_.of (sA _ _ BI.lst)⟩,_,rfl,_,rfl,_,rfl,_,rfl,dH,λu7 PD=>?_⟩
    have sB:=aj PD (.tup [.int (j:Nat)])
    have rX:aE H4 H6:=g6.gy Bp
    refine⟨u2,u7,_,_,rfl,rfl,sB _ _ (sA _ _ (rX _ _ uR)),ag,by rw [Vr,Vs]; exact Vo (show _+1+1<=1000 by omega) (by decide),λu8 H8 s8 iD=>?_⟩
    rw [Ee]at iD
    have wW:=sA.trans (sB.trans s8)
    have Ph:=Rg.trans (aE.of wW)
    have g8:eX fl H H8:=(g.trans g4).trans (g6.trans (eX.of wW))
    have P_:gD H8 kb ki:=(hki.keep DC).keep (rX.trans (aE.of wW))
    refine⟨_,rfl,c',kb,u8,fl,pp,ki,(pi++[(i:Int)])++[(j:Int)],zs,rfl,⟨⟨ds,Ug.keep Ph λ_ _ z=>z.keep Ph⟩,P_,iD,wW _ _ yk,(hok.2 x (Vy ex)).2 pp (Vy ep),hoi,by rw [Vs,Vs]; show _+1+1+_<=_; omega,by omega⟩,?_,?_⟩
    ·intro a' s' he
     have ht:putL (bC (m+1)) pi 0 k.hd k.fl ws=.no a' s':=by
      rw [d0]
      show bK (bK (putL (bC m) ((pi++[(i:Int)])++[(j:Int)]) 0 ki.hd ki.fl pp) _) _=_
      rw [he]
      rfl
     exact λe dx q' H9 g9=>qx a' s' ht e dx q' H9 (g8.trans g9)
    ·intro h' f' he u k' H9 xs' t' g9 hk' Nw eh ef OY UO _
     have hL9:H9 L=some (.lst (as.map V.ref)):=g9 _ _ Ll (wW _ _ BI.lst)
     have Ow:aE H8 H9:=g9.gy (wW _ _ yk)
     refine⟨L,_,_,rfl,rfl,hL9,?_,as++[u],ks++[k'],xs'++[.ref t'],⟨_,_,_,rfl⟩,?_,?_,?_,(Ph.trans Ow).vJ hL9,?_,?_,?_,?_,?_⟩
     ·rw [Vr,BI.len,hkl]; exact Nat.lt_trans hj2 (by decide)
     ·refine vY BI (λa k z=>z.keep (((aE.of wW).trans Ow).vJ hL9)) (hk'.keep (aE.refl.vJ hL9)) ?_
      rw [ag,Vt]; rfl
     ·rw [Vs,hkl]; rfl
     ·intro k2 hk2
      rcases VH.mp hk2 with z | z
      ·exact K4 k2 z
      ·rw [VD.mp z]; exact Nw
     ·exact eX.new hL ((g6.trans (eX.of wW)).trans g9)
     ·rw [aI (Ne.symm Ll)]; exact OY
     ·rintro m' e
      cases e
      rw [Vs,Nat.succ_mul]
      show xs'.length+1<=_
      omega
     ·intro z; cases z
     ·rintro m' e _
      cases e
      rw [d0]
      show bK (bK (putL (bC m) ((pi++[(i:Int)])++[(j:Int)]) 0 ki.hd ki.fl pp) _) _=_
      rw [he]
      show bK (qZ (bC m) x ki.hd ki.fl (pi++[(i:Int)]) _ (j+1) (nA ks++[(h',f')])) _=_
      rw [show nA (ks++[k'])=nA ks++[(h',f')] by rw [nA,Vt,←eh,←ef]; rfl]
   ·rintro σ H6 ⟨as,ks,zs,⟨o9,sy,rL,rfl⟩,BI,hkl,K4,Rg,g6,yk,Lp,hz0,d0⟩
    rw [UP]at hkl Lp hz0 d0
    refine hT2 _ _ ⟨as,ks,zs,⟨_,_,_,rfl⟩,BI,hkl,K4,g6.gy Bp,g6,yk,?_,?_⟩
    ·cases hq:ck x with
     | false=>have:=hz0 (by rw [(lS hq).1]; rfl); omega
     | true =>
      obtain⟨m,rfl⟩ :∃m,n=m+1:=by
       cases n with
       | zero=>rw [KH ha]at hq; cases hq
       | succ m=>exact⟨m,rfl⟩
      have:=Lp m rfl
      rw [(ml hq).1]at this
      rw [nH]
      omega
    ·intro hq
     obtain⟨m,rfl⟩ :∃m,n=m+1:=by
      cases n with
      | zero=>rw [KH ha]at hq; cases hq
      | succ m=>exact⟨m,rfl⟩
     have:=d0 m rfl hq
     rw [List.drop_length]at this
     exact this
  rintro σ H6 ⟨as0,Ra,zs,⟨o9,sy,rL,rfl⟩,rn,Gs,OF,rX,g6,yk,Lp,d0⟩
  refine nN (S5 n p b pl fl kb i a u2 L H4 x ki k ws pi zs o9 sy rL) (λT3 Lr=>?_) ?_
  ·refine⟨_,rfl,L,_,rfl,.inl (a_.of rn.lst),rfl,_,rfl,?_⟩
   cases hq:ck x with
   | false =>
    have e0:as0=[]:=List.eq_nil_of_length_eq_zero (by rw [rn.len,Gs,(lS hq).1]; rfl)
    subst e0
    have ek:Ra=[]:=List.eq_nil_of_length_eq_zero (by rw [Gs,(lS hq).1]; rfl)
    subst ek
    refine cp ⟨_,rfl,.inl ⟨rfl,_,a_.of rn.lst⟩,_,rfl,L,_,_,rfl,rfl,rn.lst,(by show 0<sizeLine; decide),Lr _ _ ⟨[kb],[ki],rfl,?_,(lS hq).2.symm,?_,λ_=>rfl,rX.vJ rn.lst,eX.new hL g6,?_,?_⟩⟩
    ·exact vY rn (λa k z=>z.keep (aE.refl.vJ rn.lst)) ((hki.keep DC).keep (rX.vJ rn.lst)) (by rw [ag]; rfl)
    ·intro k2 hk2; rw [VD.mp hk2]; exact hoi
    ·rw [aI (Ne.symm Ll)]; exact yk
    ·rw [hrun,iQ hq]; rfl
   | true =>
    have e2:as0.length=2:=by rw [rn.len,Gs,(ml hq).1]
    rw [Vp (by rw [Vr,e2]; intro z; cases z)]
    exact bB (aG (Lr _ _ ⟨as0,Ra,rfl,rn,by rw [Gs,(ml hq).1,(ml hq).2],OF,λz=>(by rw [hq]at z; cases z),rX,g6,yk,d0 hq⟩))
  rintro σ H7 ⟨as,ks,rfl,BI,hkn,HN,hone,P5,g7,OK,IT⟩
  have RT:aE H H7:=JN.trans P5
  have Ms:gD H7 kb ki:=(hki.keep DC).keep P5
  have hla:(as.map V.ref).length=ks.length:=by rw [Vr,BI.len]
  have hn2:ks.length<=2:=by rw [hkn]; exact Cj
  refine⟨_,rfl,_,rfl,_,rfl,L,rfl,⟨_,a_.of BI.lst⟩,λD2 hD2=>?_⟩
  refine dN (xs:=as.map V.ref) (λi σ ys H'=>(∃o1 o2 o3,σ=[o1,o2,o3])/\(∃bs:List Addr,ys=bs.map V.ref/\bs.length=i/\∀(j:Nat) a k,bs[j]? = some a->ks[j]? = some k->dF H7 a k.hd)/\H' D2=some (.lst ys)/\aM H7 H') ⟨⟨none,none,none,rfl⟩,⟨[],rfl,rfl,λj a k e=>by cases e⟩,ag,aj hD2 _⟩ ?_ ?_ ?_ ?_ ?_
  ·rintro i σ ys H' _ ⟨_,⟨bs,rfl,hi,_⟩,h,_⟩
   exact⟨h,by rw [Vr]; exact V_ hi⟩
  ·rintro i σ ys H' _ ⟨_,_,_,sm⟩
   exact a_.of (sm _ _ BI.lst)
  ·rw [hla]; exact Vo hn2 (by decide)
  ·rintro i v σ ys H' hv ⟨⟨o1,o2,o3,rfl⟩,⟨bs,rfl,hi,hb⟩,h,sm⟩
   obtain⟨b',k',rfl,ek,hh',p',hq1,hq2,U7⟩:=BI.get hv
   refine⟨b',_,rfl,aH.of (sm _ _ hq1),rfl,_,_,rfl,ak ⟨_,_,rfl,ak ⟨_,_,rfl,ak ⟨rfl,?_⟩⟩⟩⟩
   refine⟨_,rfl,h,⟨_,_,_,rfl⟩,⟨bs++[hh'],by rw [Vt]; rfl,by rw [Vs,hi]; rfl,λj a k e1 e2=>?_⟩,ag,bt hD2 sm⟩
   by_cases hj:j<bs.length
   ·rw [VN hj]at e1
    exact hb j a k e1 e2
   ·have hj':j=bs.length:=by
     have:=(VC.mp e1).1
     rw [Vs]at this
     simp at this
     omega
    rw [hj',VM (Vn _),Nat.sub_self]at e1
    cases e1
    rw [hj',hi,ek]at e2
    cases e2
    exact hq2
  rintro σ ys' H8 ⟨_,⟨ds,rfl,hi,hb⟩,h8,s8⟩
  rw [hla]at hi
  have Py:=RT.trans (aE.of s8)
  refine⟨a,kb,D2,x,ki,ds,j4 ks,rfl,ha.keep Py,Ms.same s8,zt h8 hi (λi a k e1 e2=>s8 _ _ (hb i a k e1 e2)),by rw [j4,Vr,hkn],Nd,Vo hoi.few (by decide),λh hh=>by obtain⟨k,hk,rfl⟩:=VE.mp hh; exact Vo (HN k hk).hd (by decide),λH9 s9=>ak ?_⟩
  have Lw:=s8.trans s9
  have UA:=RT.trans (aE.of Lw)
  have g9:eX fl H H9:=(g.trans g4).trans (g7.trans (eX.of Lw))
  rw [Jj]
  have hfin:eW x ki.hd ki.fl (pi++[(i:Int)]) (nA ks)=match fF x ki.fl (j4 ks)with | some s=>.no (pi++[(i:Int)]) s | none=>.ok (bw x (j4 ks)) (Ag x ki.hd ki.fl (ks.map Kn.fl)):=by
   unfold eW
   rw [FR,Fc]
   first | done | (cases fF x ki.fl (j4 ks) <;> rfl)
  cases ew:fF x ki.fl (j4 ks)with
  | some s =>
   rw [ew]at hfin
   have ht:putL (bC n) pi 0 k.hd k.fl ws=.no (pi++[(i:Int)]) s:=by rw [IT,hfin]; rfl
   dsimp only
   refine⟨_,rfl,rfl,_,rfl,cp ⟨_,rfl,_,rfl,cN,λe he=>?_⟩⟩
   have ne:∀d o,H9 d=some o->d≠e:=λd o z y=>by subst y; rw [he]at z; cases z
   refine⟨e,_,_,rfl,ag,Cf.xc,Cf.np,Cf.nr,λdx H3 hdx keep h2 h3=>⟨rfl,e,some dx,rfl,h2,?_⟩⟩
   have kk:∀d o,H9 d=some o->H3 d=some o:=λd o z=>keep d o (ne d o z) (by rw [aI (ne d o z)]; exact z)
   have SR:dx≠e:=λy=>by subst y; rw [ag]at hdx; cases hdx
   have KY:H9 u2=some (.tup ((pi++[(i:Int)]).map V.int)):=(P5.trans (aE.of Lw)) _ _ uR
   refine qx _ s ht e dx u2 _ (λd o nd z=>?_) ag (by rw [aI SR]; exact h3) ?_
   ·have z9:=g9 _ _ nd z
    rw [aI (ne d o z9)]; exact kk _ _ z9
   ·rw [aI (ne u2 _ KY)]; exact kk _ _ KY
  | none =>
   rw [ew]at hfin
   obtain⟨hfit,K0⟩:=tS ew
   dsimp only
   refine⟨_,rfl,rfl,_,rfl,bB (aG ?_)⟩
   dsimp only
   refine⟨_,rfl,_,rfl,_,rfl,a,kb,L,x,ki,as,ks,rfl,ha.keep UA,Ms.same Lw,BI.same Lw,⟨hkn,Nd,hfit,F0 hone hfit,λk hk=>Vo (HN k hk).hd (by decide),λk hk=>Vo (HN k hk).few (by decide)⟩,λu k' Ax D9 hk' e1 e2 e3=>ak ?_⟩
   refine⟨u,k',zs,⟨_,_,_,_,_,_,_,rfl⟩,hk',ny.next HN (by rw [e1]; exact K0) e2,g9.trans (eX.of D9),D9 _ _ (Lw _ _ OK),?_,?_⟩
   ·rw [Nat.succ_mul]; omega
   ·rw [IT,hfin,e1,NA e2 e3]
    rfl
 ·rintro σ H' ⟨kb,ki,ys,⟨o5,o6,o7,o8,o9,sy,rL,rfl⟩,hki,hoi,g,hfl',hyz,hrun⟩
  rw [hlb]at hyz hrun
  rw [List.drop_length]at hrun
  have Up:=Nat.mul_le_mul_right (cW n) hw9
  obtain⟨hh,ph,hk1,hk2,hk3⟩:=hki
  have k0:=g.gy hfl
  dsimp only
  refine⟨_,rfl,.inl ⟨rfl,_,a_.of hfl'⟩,_,rfl,_,rfl,p,_,rfl,.inr (aH.of (k0 _ _ hI.tup)),dH,λu1 j6=>?_⟩
  have sU:=aj j6 (.tup [.int ((bs.map V.ref).length:Nat)])
  refine⟨pl,u1,_,_,rfl,rfl,sU _ _ (k0 _ _ hpl),ag,by rw [Vr]; exact Vo (show _+1<=1000 by omega) (by decide),λu2 H2 KO hu2=>?_⟩
  have s2:=sU.trans KO
  refine⟨_,rfl,kb,_,0,_,rfl,rfl,aH.of (s2 _ _ hk1),au (j:=0) rfl,_,rfl,kb,_,2,_,rfl,rfl,aH.of (s2 _ _ hk1),rfl,fM,λu3 wR=>?_⟩
  have s3:=aj wR (.tup [.ref u2,.ref hh,.bl ki.lo])
  have NT:=s2.trans s3
  refine⟨fl,_,_,rfl,rfl,NT _ _ hfl',Vu (show ys.length<=200000 by omega) (by decide),_,rfl,?_⟩
  have kU:aE H' (upd (upd H2 u3 (.tup [.ref u2,.ref hh,.bl ki.lo])) fl (.lst (ys++[.ref u3]))):=(aE.of NT).vJ (NT _ _ hfl')
  refine q ki.hd ki.fl hrun kb ki _ ys u3 (g.trans (eX.of NT)).put ⟨hh,ph,kU _ _ hk1,kU _ _ hk2,kU _ _ hk3⟩ hoi rfl rfl ag (by omega) ⟨.ref u2,hh,.bl ki.lo,?_,kU _ _ hk2⟩
  have nf:u3≠fl:=λz=>by have:=s2 _ _ hfl'; rw [←z,wR]at this; cases this
  rw [aI nf]
  exact ag
def f0:Fl:=⟨false,false,false,false,false⟩
def fK(n:Nat)(hd:Hd)(ws:List Wk):Res:=putL (bC n) [] 0 hd f0 ws
def RQ(C:Addr)(H:Hp)(a:List Int)(s:Str)(E:XK):Prop:=∀(e dx q:Addr) (H':Hp),aM H H'->H' e=some (xO e C (some dx))->H' dx=some (xD dx (A7 (.ref q) (.str s)))->H' q=some (.tup (a.map V.int))->E (.ref C) (some e) H'
structure Nr(n:Nat)(H:Hp)(a p:Addr)(hd:Hd)(ws:List Wk):Prop where
 R0:dF H a hd
 six:hd.length<=6
 pp:jC n H p ws
 ok:ra n ws
def CU(C:Addr)(n:Nat):Sp:=λvs H Q E=>∃(a p:Addr) (hd:Hd) (ws:List Wk),vs=[.ref a,.ref p]/\Nr n H a p hd ws/\2*n<=100/\bnd n<=200000/\
 (∀x s,fK n hd ws=.no x s->RQ C H x s E)/\
 (∀h f,fK n hd ws=.ok h f->∀(l:Addr) (H':Hp) (xs':List V) (t:Addr),aM H H'->H' l=some (.lst (xs'++[.ref t]))->Ia H' t h->Q (.ref l) H')
theorem lg{fl:Addr}{H H1 H':Hp}(hn:H fl=none)(s:aM H H1)(g:eX fl H1 H'):aM H H':=λb o e=>g _ _ (aV e hn) (s _ _ e)
abbrev qa:Stmt:=top 48
theorem rZ:ay ["head","pipe","found"] ["head","pipe"] (ar qa):=fs
theorem AN{C:Addr}{n L:Nat}(F:FA K mg "survey" qa)
  (iM:bf (AG P w) P w K mg base (L+6) "go_through" ["pipe","begun","prefix","found"] (zE C (n+1))) :
  bf (AG P w) P w K mg base (L+7) "survey" ["head","pipe"] (CU C n):=by
 refine F.Ln rZ λf cdv A outer s H vs Q E hr h=>?_
 have hu:=iD hr
 have hu1:=jb hr
 obtain⟨a,p,hd,ws,rfl,hI,hn2,hbn,qx,q⟩:=h
 refine⟨_,(aq (aL (i:=2) rZ.nd rfl (V2 rfl) (aQ ah))
   (aq (fQ (vq iM hr rfl zQ (ae (pv 1) (ae (aJ (ae (pv 0) (ae (aJ ah) (ae eE ah)))) (ae (aJ ah) (ae (pv 2) ah))))))
   (ax (pv 2)))),?_⟩
 refine⟨VJ _,λF hF=>ak ?_⟩
 dsimp only
 have s0:=aj hF (.lst [])
 have Pt:upd H F (.lst []) F=some (.lst []):=ag
 revert s0 Pt
 generalize upd H F (.lst [])=H0
 intro s0 Pt
 refine⟨_,rfl,_,rfl,yf,λu1 j6=>?_⟩
 have s1:=aj j6 (.tup [])
 refine⟨fM,λu2 hu2=>?_⟩
 have s2:=aj hu2 (.tup [.ref a,.ref u1,.bl false])
 refine⟨yf,λu3 wR=>?_⟩
 have s3:=aj wR (.tup [])
 have wU:=s0.trans (s1.trans (s2.trans s3))
 have qE:=s1.trans (s2.trans s3)
 have e1:=s3 _ _ (s2 _ _ (ag (H:=H0) (a:=u1) (o:=.tup [])))
 have e2:=s3 _ _ (ag (H:=upd H0 u1 (.tup [])) (a:=u2) (o:=.tup [.ref a,.ref u1,.bl false]))
 have e3:upd (upd (upd H0 u1 (.tup [])) u2 (.tup [.ref a,.ref u1,.bl false])) u3 (.tup []) u3=some (.tup []):=ag
 revert wU qE e1 e2 e3
 generalize upd (upd (upd H0 u1 (.tup [])) u2 (.tup [.ref a,.ref u1,.bl false])) u3 (.tup [])=H3
 intro wU qE e1 e2 e3
 refine⟨_,rfl,p,u2,u3,F,ws,⟨hd,[],false⟩,[],[],rfl,⟨hI.pp.keep (aE.of wU),⟨a,u1,e2,wU _ _ hI.R0,e1⟩,e3,qE _ _ Pt,hI.ok,⟨hI.six,List.nodup_nil,λs hs=>(by cases hs)⟩,by simpa using hn2,by simpa using hbn⟩,?_,?_⟩
 ·intro x s he e dx q' H' g
  exact qx x s he e dx q' H' (lg hF wU g)
 ·intro h f he u k' H' xs' t g hk' Nw eh ef hfl' UO hE
  exact⟨_,rfl,q h f he F H' xs' t (lg hF wU g) hfl' hE⟩
def Ng(C:Addr)(n:Nat):Sp:=λvs H Q E=>∃(a p:Addr) (hd:Hd) (ws:List Wk),vs=[.ref a,.ref p]/\Nr n H a p hd ws/\2*n<=100/\bnd n<=200000/\
 (∀x s,fK n hd ws=.no x s->RQ C H x s E)/\
 (∀h f,fK n hd ws=.ok h f->∀(u:Addr) (H':Hp),aM H H'->dF H' u h->Q (.ref u) H')
abbrev ib:Stmt:=top 49
theorem p9:ay ["head","pipe"] ["head","pipe"] (ar ib):=fs
theorem qJ{C:Addr}{n L:Nat}(F:FA K mg "head_behind" ib)
  (EB:bf (AG P w) P w K mg base (L+7) "survey" ["head","pipe"] (CU C n)) :
  bf (AG P w) P w K mg base (L+8) "head_behind" ["head","pipe"] (Ng C n):=by
 refine F.Ln p9 λf cdv A outer s H vs Q E hr h=>?_
 obtain⟨a,p,hd,ws,rfl,hI,hn2,hbn,qx,q⟩:=h
 refine⟨_,(ax (az K (bo K (vq EB hr rfl zQ (ae (pv 0) (ae (pv 1) ah))) (sj mr ai)) ai)),?_⟩
 refine⟨_,rfl,_,rfl,a,p,hd,ws,rfl,hI,hn2,hbn,qx,λh f he l H' xs' t s' hl hE=>?_⟩
 obtain⟨qq,hh,b,h1,h2⟩:=hE
 exact⟨_,rfl,l,_,-1,_,rfl,rfl,a_.of hl,oE _ _,t,_,1,_,rfl,rfl,aH.of h1,rfl,q h f he hh H' s' h2⟩
end My
namespace L2
open PySem
def E3:List V->Hp->VK->Prop:=λxs H Q=>(∃i,xs=[.int i]/\Q (.int i) H)\/∃k,xs=[.bl k]/\Q (.int (if k then 1 else 0)) H
theorem AL{X:Cx}:gu X (.type "int") E3:=cE
end L2
namespace My
open PySem L2
theorem AS{a b c:Str}(h1:wX a b)(h2:wX b c):wX a c:=List.lt_trans h1 h2
theorem oQ:∀{a b:List Str},a.Pairwise wX->b.Pairwise wX->(∀s,s∈a↔s∈b)->a=b
 | [],[],_,_,_=>rfl
 | [],y::b,_,_,h=>VY ((h y).mpr (by simp)) (by simp)
 | x::a,[],_,_,h=>VY ((h x).mp (by simp)) (by simp)
 | x::a,y::b,ha,hb,h=>by
  rw [List.pairwise_cons]at ha hb
  have e:x=y:=by
   rcases VF.mp ((h x).mp (by simp))with e | m1
   ·exact e
   ·rcases VF.mp ((h y).mpr (by simp))with e | m2
    ·exact e.symm
    ·exact VY (AS (ha.1 y m2) (hb.1 x m1)) nJ
  subst e
  rw [oQ (a:=a) (b:=b) ha.2 hb.2 λs=>⟨λm=>?_,λm=>?_⟩]
  ·rcases VF.mp ((h s).mp (by simp [m]))with e | z
   ·subst e; exact VY (ha.1 _ m) nJ
   ·exact z
  ·rcases VF.mp ((h s).mpr (by simp [m]))with e | z
   ·subst e; exact VY (hb.1 _ m) nJ
   ·exact z
def jf(ss:List Str):List Str:=(if("n" : Str)∈ss then(["n"]:List Str)else [])++(if("w" : Str)∈ss then(["w"]:List Str)else [])
theorem lq{ss:List Str}(h:∀s∈ss,s="n"\/s="w")(s:Str):s∈jf ss↔s∈ss:=by
 unfold jf
 by_cases h1:("n" : Str)∈ss <;> by_cases h2:("w" : Str)∈ss <;> simp only [h1,h2,if_true,if_false,VH,VD,V1,or_false,false_or] <;> constructor
 ·rintro(rfl | rfl) <;> assumption
 ·exact λm=>h s m
 ·rintro rfl; assumption
 ·intro m; rcases h s m with rfl | rfl
  ·rfl
  ·exact VY m h2
 ·rintro rfl; assumption
 ·intro m; rcases h s m with rfl | rfl
  ·exact VY m h1
  ·rfl
 ·exact V4
 ·intro m; rcases h s m with rfl | rfl
  ·exact h1 m
  ·exact h2 m
theorem Cr(ss:List Str):(jf ss).Pairwise wX:=by
 have hlt:wX "n" "w":=by unfold wX; decide +kernel
 unfold jf
 by_cases h1:("n" : Str)∈ss <;> by_cases h2:("w" : Str)∈ss <;> simp [h1,h2,hlt]
theorem IJ(v:V):sW v="n"\/sW v="w":=by cases v <;> simp [sW]
theorem IZ{ms:List Str}{us:List V}(h:AU ms (us.map sW)):ms=jf (us.map sW):=by
 have hn:∀s∈us.map sW,s="n"\/s="w":=λs hs=>by obtain⟨v,_,rfl⟩:=VE.mp hs; exact IJ v
 exact oQ h.1 (Cr _) λs=>(h.2 s).trans (lq hn s).symm
def tI:Sp:=λvs H Q _=>∃(l:Addr) (us:List V),vs=[.ref l]/\H l=some (.lst us)/\us.length<60/\(∀v∈us,dZ v)/\∀(u:Addr) (H':Hp),aM H H'->H' u=some (.lst ((jf (us.map sW)).map V.str))->Q (.ref u) H'
abbrev i3:Stmt:=top 67
theorem rp:ay ["_law_cells"] ["_law_cells"] (ar i3):=fs
variable{P:Program}{w:World}{K:Wg}{mg:Str->Option Value}{base:Heap}
theorem C2(B:jH mg)(B2:iW mg)(B3:A2 mg)(Ki:PySem.W.kitOne K (.type "int") (.type "str")=some false)(F:FA K mg "_law_sorts" i3) :
  bf bc P w K mg base 1 "_law_sorts" ["_law_cells"] tI:=by
 refine F.ok rp λf cdv A outer s H vs Q E hr h=>?_
 have hu:=iD hr
 obtain⟨l,us,rfl,hl,hz,hc,q⟩:=h
 refine⟨_,(ax (kY rfl rfl B2.sorted rfl B2.set (bx (N':=["_law_cell_here"]) (src:=[none]) rfl (aZ.jT (by kernel_rfl)) (fq (pv 0)) (λcl C s H fp=>(eI (i:=0))) (λcl C s H fp=>aX) (te:=(h_ (yt K) (yo (bq (tC (.str "n")) (bq (tC (.str "w")) fJ))) (Lh E3 (bq (Lh (Nj K "str") (bq (bD 0) (bq (tC (.ty "str")) fJ))) fJ)))) (λcl C s H fp=>(bo K (aQ (ae ao (ae ao ah))) (aW AL yH B2.int V7 (ae (bg (vS (n:="str")) yH B.isinstance PyProof.Rows.boot_isinstance (ae (jd 0) (ae (DV (n:="str") yH B3.str (by decide +kernel)) ah))) ah))))))),?_⟩
 refine⟨_,rfl,l,rfl,⟨_,a_.of hl⟩,λD hD=>?_⟩
 refine dN (xs:=us) (λi σ ys H'=>(∃o,σ=[o])/\ys=((us.take i).map sW).map V.str/\ys.length=i/\H' D=some (.lst ys)/\aM H H') ⟨⟨none,rfl⟩,rfl,rfl,ag,aj hD _⟩ ?_ ?_ ?_ ?_ ?_
 ·rintro i σ ys H' _ ⟨_,_,hi,h,_⟩
  exact⟨h,V_ hi⟩
 ·rintro i σ ys H' _ ⟨_,_,_,_,sm⟩
  exact a_.of (sm _ _ hl)
 ·exact Vo (show us.length<=60 by omega) (by decide)
 ·rintro i v σ ys H' hv ⟨⟨o,rfl⟩,rfl,hi,h,sm⟩
  refine⟨cN,λR hR=>?_⟩
  have sR:=aj hR (.lst [V.str "n",.str "w"])
  have fin:∀s,sW v=s->upd H' R (.lst [V.str "n",.str "w"]) D=some (.lst (((us.take i).map sW).map V.str))/\((∃o,(List.set [o] 0 (some v))=[o])/\((us.take i).map sW).map V.str++[V.str s]=((us.take (i+1)).map sW).map V.str/\(((us.take i).map sW).map V.str++[V.str s]).length=i+1/\upd (upd H' R (.lst [V.str "n",.str "w"])) D (.lst (((us.take i).map sW).map V.str++[V.str s])) D=some (.lst (((us.take i).map sW).map V.str++[V.str s]))/\aM H (upd (upd H' R (.lst [V.str "n",.str "w"])) D (.lst (((us.take i).map sW).map V.str++[V.str s])))):=by
   rintro s rfl
   refine⟨sR _ _ h,⟨some v,rfl⟩,?_,?_,ag,bt hD (sm.trans sR)⟩
   ·rw [take_one hv,Vt,Vt]; rfl
   ·rw [Vs,hi]; rfl
  rcases hc v (Vy hv)with⟨n,rfl⟩ | ⟨x,rfl⟩
  ·obtain⟨f1,f2,f3,f4,f5,f6⟩:=fin "n" rfl
   exact⟨_,rfl,_,_,false,rfl,.int n,Ki,.inr ⟨_,rfl,R,_,0,_,rfl,rfl,a_.of ag,rfl,f1,⟨_,rfl⟩,f3,f4,f5,f6⟩⟩
  ·obtain⟨f1,f2,f3,f4,f5,f6⟩:=fin "w" rfl
   exact⟨_,rfl,_,_,true,rfl,.str x,vX (by decide),.inr ⟨_,rfl,R,_,1,_,rfl,rfl,a_.of ag,rfl,f1,⟨_,rfl⟩,f3,f4,f5,f6⟩⟩
 ·rintro σ ys H1 ⟨_,rfl,hi,h,sm⟩
  rw [V3]at h
  refine⟨D,_,rfl,.inl (a_.of h),by rw [Vr,Vr]; omega,.inr ⟨_,rfl⟩,λu ys hu' hS=>?_⟩
  have hys:ys=(jf (us.map sW)).map V.str:=by
   rcases hS with⟨ns,ms,e1,e2,e3,e4⟩ | ⟨ns,ms,e1,e2,e3,e4⟩
   ·cases hus:us with
    | nil =>
     rw [hus]at e1
     cases ns with
     | nil =>
      cases ms with
      | nil=>rw [e2]; rfl
      | cons m ms=>exact VY ((e4 m).mp (by simp)) (by simp)
     | cons n ns=>cases e1
    | cons v vs =>
     rw [hus]at e1
     cases ns with
     | nil=>cases e1
     | cons n ns=>cases e1
   ·have:ns=us.map sW:=(List.map_inj_right (f:=V.str) (λa b e=>V.str.inj e)).mp e1.symm
    subst this
    rw [e2,IZ ⟨e3,e4⟩]
  rw [hys]
  exact q u _ (sm.trans (aj hu' _)) ag
def vh(n:Nat):Sp:=λvs H Q _=>∃(a:Addr) (x:Wk),vs=[.ref a]/\cX n H a x/\∀H',aM H H'->Q (.bl (cF x.nm)) H'
abbrev eL:Stmt:=top 73
theorem kC:ay ["_law_worker_here"] ["_law_worker_here"] (ar eL):=fs
theorem BK{n:Nat}(F:FA K mg "_law_is_one_row" eL) :
  bf bc P w K mg base 1 "_law_is_one_row" ["_law_worker_here"] (vh n):=by
 refine F.ok kC λf cdv A outer s H vs Q E hr h=>?_
 obtain⟨a,x,rfl,ha,q⟩:=h
 refine⟨_,(ax (fL cv (az K (pv 0) ai) (aQ (ae ao (ae ao (ae ao (ae ao (ae ao ah)))))) rfl)),?_⟩
 obtain⟨xs,h1⟩:=ha.first
 refine⟨_,rfl,a,_,0,_,rfl,rfl,aH.of h1,au (j:=0) rfl,uJ,λR hR=>?_⟩
 exact⟨R,nF,rfl,.inl (a_.of ag),rfl,rfl,q _ (aj hR _)⟩
end My
namespace L2
open PySem
def Pd(neg:Bool):R2:=λx y H Q=>∃a b xs,x=.ref a/\y=.ref b/\H a=some (.lst xs)/\H b=some (.lst [])/\Q (.bl (if neg then !xs.isEmpty else xs.isEmpty)) H
theorem EN{X:Cx}(hu:X.A.units+8<cLine):je X (compareOp .NotEq) (Pd true):=by
 intro pins s σ H x y v u Q I rx ry h
 obtain⟨a,b,xs,rfl,rfl,ha,hb,q⟩:=h
 cases xs with
 | nil =>
  refine jn pins s σ H _ _ v u Q I rx ry ⟨.lst [],.lst [],lu ha bV.nil,lu hb bV.nil,?_,?_⟩
  ·have:(D.lst []).depth<=8:=by simp [D.depth,cA]
   omega
  ·have e:cR (.lst []) (.lst [])=true:=gw _
   rw [e]; exact q
 | cons z zs=>exact Er (by omega) pins s σ H _ _ v u Q I rx ry ⟨a,b,_,_,rfl,rfl,a_.of ha,a_.of hb,by simp,q⟩
end L2
namespace My
open PySem L2
theorem Ks{x:Wk}:inV (.str x.nm) [.str "keep",.str "turn",.str "must",.str "walk"]=true->∃y,x=.one y/\vW y:=by
 cases x with
 | one x=>cases x <;> simp only [Wk.nm,W1.nm] <;> intro h <;> first | exact⟨_,rfl,_,.inl ⟨_,rfl⟩⟩ | exact⟨_,rfl,_,.inr (.inl ⟨_,rfl⟩)⟩ | exact⟨_,rfl,_,.inr (.inr (.inl ⟨_,rfl⟩))⟩ | exact⟨_,rfl,_,.inr (.inr (.inr ⟨_,rfl⟩))⟩ | exact VY h (by decide +kernel)
 | both p q=>simp only [Wk.nm]; intro h; exact VY h (by decide +kernel)
 | meet c d p q=>simp only [Wk.nm]; intro h; exact VY h (by decide +kernel)
theorem in_list{x:Wk}:inV (.str x.nm) [.str "cut",.str "count"]=true->∃y,x=.one y/\yn y:=by
 cases x with
 | one x=>cases x <;> simp only [Wk.nm,W1.nm] <;> intro h <;> first | exact⟨_,rfl,_,.inl rfl⟩ | exact⟨_,rfl,_,.inr rfl⟩ | exact VY h (by decide +kernel)
 | both p q=>simp only [Wk.nm]; intro h; exact VY h (by decide +kernel)
 | meet c d p q=>simp only [Wk.nm]; intro h; exact VY h (by decide +kernel)
theorem zr{x:Wk}(h:x.nm="same"):∃c d,x=.one (.same c d):=by
 revert h
 cases x with
 | one x=>cases x <;> simp only [Wk.nm,W1.nm] <;> first | (intro h; exact⟨_,_,rfl⟩) | (intro h; exact VY h (by decide +kernel))
 | both p q=>simp only [Wk.nm]; intro h; exact VY h (by decide +kernel)
 | meet c d p q=>simp only [Wk.nm]; intro h; exact VY h (by decide +kernel)
theorem GJ{x:Wk}(h:x.nm="sort"):∃cs,x=.one (.sort cs):=by
 revert h
 cases x with
 | one x=>cases x <;> simp only [Wk.nm,W1.nm] <;> first | (intro h; exact⟨_,rfl⟩) | (intro h; exact VY h (by decide +kernel))
 | both p q=>simp only [Wk.nm]; intro h; exact VY h (by decide +kernel)
 | meet c d p q=>simp only [Wk.nm]; intro h; exact VY h (by decide +kernel)
theorem Dr{x:Wk}(h:x.nm="sum"):∃cs c,x=.one (.sum cs c):=by
 revert h
 cases x with
 | one x=>cases x <;> simp only [Wk.nm,W1.nm] <;> first | (intro h; exact⟨_,_,rfl⟩) | (intro h; exact VY h (by decide +kernel))
 | both p q=>simp only [Wk.nm]; intro h; exact VY h (by decide +kernel)
 | meet c d p q=>simp only [Wk.nm]; intro h; exact VY h (by decide +kernel)
theorem CQ{x:Wk}(h1:¬inV (.str x.nm) [.str "keep",.str "turn",.str "must",.str "walk"]=true)(h2:x.nm≠"same")(h3:¬inV (.str x.nm) [.str "cut",.str "count"]=true)(h4:x.nm≠"sort")(h5:x.nm≠"sum"):gJ x=[]:=by
 cases x with
 | one x=>cases x <;> first | rfl | exact VY rfl h2 | exact VY rfl h4 | exact VY rfl h5 | exact VY (by simp only [Wk.nm,W1.nm]; decide +kernel) h1 | exact VY (by simp only [Wk.nm,W1.nm]; decide +kernel) h3
 | both p q=>rfl
 | meet c d p q=>rfl
def xn(n:Nat):Sp:=λvs H Q _=>∃(a:Addr) (x:Wk),vs=[.ref a]/\cX n H a x/\kJ x/\∀(u:Addr) (H':Hp),aM H H'->H' u=some (.lst ((gJ x).map V.int))->Q (.ref u) H'
abbrev dY:Stmt:=top 68
theorem fw:ay ["_law_worker_here","_law_word_here"] ["_law_worker_here"] (ar dY):=fs
variable{P:Program}{w:World}{K:Wg}{mg:Str->Option Value}{base:Heap}
theorem GN{n:Nat}(B:jH mg)(F:FA K mg "_law_told_columns" dY) :
  bf bc P w K mg base 1 "_law_told_columns" ["_law_worker_here"] (xn n):=by
 refine F.ok fw λf cdv A outer s H vs Q E hr h=>?_
 have hu:=iD hr
 obtain⟨a,x,rfl,ha,hsm,q⟩:=h
 refine⟨_,(aq (aL (i:=1) fw.nd rfl (V2 rfl) (az K (pv 0) ai))
   (aN (dk cv (pv 1) (aQ (ae ao (ae ao (ae ao (ae ao ah))))) rfl) (aQ (ae (az K (pv 0) ai) ah))
   (aN (aU aP (pv 1) ao) (aQ (ae (az K (pv 0) ai) (ae (az K (pv 0) ai) ah)))
   (aN (dk cv (pv 1) (aQ (ae ao (ae ao ah))) rfl) (aW lr rfl B.list PyProof.Rows.boot_list (ae (az K (pv 0) ai) ah))
   (aN (aU aP (pv 1) ao) (bx (N':=["_law_column_here","_law_falling"]) (src:=[none,none]) rfl (aZ.jT (by kernel_rfl)) (cQ (az K (pv 0) ai)) (g:=(i8 K 2 (bR (bE 0) (bR (bE 1) i5)))) (λcl C s H fp=>(cG rfl (aA (eI (i:=0)) (aA (eI (i:=1)) bY)))) (λcl C s H fp=>aX) (te:=(bD 0)) (λcl C s H fp=>(jd 0)))
   (ax (gq (aU aP (pv 1) ao) (aD o_ (aW lr rfl B.list PyProof.Rows.boot_list (ae (az K (pv 0) ai) ah)) (aQ (ae (az K (pv 0) ai) ah))) (aQ ah)))))))),?_⟩
 obtain⟨xs,h1⟩:=ha.first
 refine⟨_,rfl,a,_,0,_,rfl,rfl,aH.of h1,au (j:=0) rfl,ak ?_⟩
 dsimp only
 refine⟨_,rfl,LX,λR1 Pe=>⟨R1,_,rfl,.inl (a_.of ag),rfl,rfl,_,rfl,?_⟩⟩
 have t1:=aj Pe (.lst [V.str "keep",.str "turn",.str "must",.str "walk"])
 revert t1
 generalize upd H R1 (.lst [V.str "keep",.str "turn",.str "must",.str "walk"])=H1
 intro t1
 refine cJ (λk=>?_) (λk1=>aG ?_)
 ·obtain⟨y,rfl,hy⟩:=Ks k
  obtain⟨c,v,vs,h2,hc⟩:=hy.at_ (cb.mp ha)
  refine⟨_,rfl,a,_,1,_,rfl,rfl,aH.of (t1 _ _ h2),au (j:=1) rfl,dH,λu hu=>q u _ (t1.trans (aj hu _)) ?_⟩
  rw [ag]
  show _=some (HO.lst ((dg y).map V.int))
  rw [hc]
  rfl
 refine⟨_,rfl,rfl,_,rfl,?_⟩
 rw [bP]
 by_cases e2:x.nm="same"
 ·rw [Vq e2]
  obtain⟨c,d,rfl⟩:=zr e2
  have h2:H a=some (.tup [.str "same",.int c,.int d]):=cb.mp ha
  exact cp ⟨_,rfl,a,_,1,_,rfl,rfl,aH.of (t1 _ _ h2),rfl,_,rfl,a,_,2,_,rfl,rfl,aH.of (t1 _ _ h2),rfl,cN,λu hu=>q u _ (t1.trans (aj hu _)) ag⟩
 rw [Vp e2]
 refine bB (aG ⟨_,rfl,cN,λR2 zX=>⟨R2,_,rfl,.inl (a_.of ag),rfl,rfl,_,rfl,?_⟩⟩)
 have SY:=aj zX (.lst [V.str "cut",.str "count"])
 have t2:=t1.trans SY
 revert t2
 generalize upd H1 R2 (.lst [V.str "cut",.str "count"])=H2
 intro t2
 refine cJ (λk=>?_) (λk3=>aG ?_)
 ·obtain⟨y,rfl,cs,rfl | rfl⟩:=in_list k
  ·obtain⟨t,h2,h3⟩:=cb.mp ha
   exact⟨_,rfl,a,_,1,_,rfl,rfl,aH.of (t2 _ _ h2),rfl,t,_,rfl,.inr (aH.of (t2 _ _ h3)),λu hu=>q u _ (t2.trans (aj hu _)) ag⟩
  ·obtain⟨t,h2,h3⟩:=cb.mp ha
   exact⟨_,rfl,a,_,1,_,rfl,rfl,aH.of (t2 _ _ h2),rfl,t,_,rfl,.inr (aH.of (t2 _ _ h3)),λu hu=>q u _ (t2.trans (aj hu _)) ag⟩
 refine⟨_,rfl,rfl,_,rfl,?_⟩
 rw [bP]
 by_cases e4:x.nm="sort"
 ·rw [Vq e4]
  obtain⟨cs,rfl⟩:=GJ e4
  obtain⟨t,bs,h2,hI⟩:=cb.mp ha
  have hs:cs.length<=1000:=hsm
  have hl:(bs.map V.ref).length=cs.length:=by rw [Vr,hI.len]
  refine cp ⟨_,rfl,a,_,1,_,rfl,rfl,aH.of (t2 _ _ h2),rfl,t,rfl,⟨_,aH.of (t2 _ _ hI.tup)⟩,λD hD=>?_⟩
  refine cI (xs:=bs.map V.ref) (λi σ ys H'=>(∃o1 o2,σ=[o1,o2])/\ys=(cs.take i).map V.int/\ys.length=i/\H' D=some (.lst ys)/\aM H2 H') ⟨⟨none,none,rfl⟩,rfl,rfl,ag,aj hD _⟩ ?_ ?_ ?_ ?_ ?_
  ·rintro i σ ys H' _ ⟨_,_,hi,h,_⟩
   exact⟨h,V_ hi⟩
  ·rintro i σ ys H' _ ⟨_,_,_,_,sm⟩
   exact aH.of (sm _ _ (t2 _ _ hI.tup))
  ·rw [hl]; exact Vo hs (by decide)
  ·rintro i x σ ys H' hx ⟨⟨o1,o2,rfl⟩,rfl,hi,h,sm⟩
   obtain⟨b,c,rfl,ec,bb,hb⟩:=hI.get hx
   refine⟨b,_,rfl,aH.of (sm _ _ (t2 _ _ hb)),rfl,_,_,rfl,ak ⟨_,_,rfl,ak ⟨rfl,?_⟩⟩⟩
   refine⟨_,rfl,h,⟨_,_,rfl⟩,?_,?_,ag,bt hD sm⟩
   ·rw [take_one ec,Vt]; rfl
   ·rw [Vs,hi]; rfl
  ·rintro σ ys H' ⟨_,rfl,_,h,sm⟩
   rw [hl,V3]at h
   exact q D H' (t2.trans sm) h
 rw [Vp e4]
 refine bB (aG ⟨_,rfl,rfl,_,rfl,?_⟩)
 rw [bP]
 by_cases e5:x.nm="sum"
 ·rw [Vq e5]
  obtain⟨cs,c,rfl⟩:=Dr e5
  obtain⟨t,h2,h3⟩:=cb.mp ha
  have hs:cs.length<=1000:=hsm
  refine cp ⟨_,rfl,a,_,1,_,rfl,rfl,aH.of (t2 _ _ h2),rfl,t,_,rfl,.inr (aH.of (t2 _ _ h3)),λu hu=>?_⟩
  have s3:=aj hu (.lst (cs.map V.int))
  refine⟨_,rfl,a,_,2,_,rfl,rfl,aH.of (s3 _ _ (t2 _ _ h2)),rfl,dH,λu2 hu2=>?_⟩
  have s4:=aj hu2 (.lst [V.int c])
  refine⟨u,u2,_,_,rfl,rfl,s4 _ _ ag,ag,?_,λu3 wR=>q u3 _ (t2.trans (s3.trans (s4.trans (aj wR _)))) ?_⟩
  ·rw [Vr]
   exact Vo (show cs.length+1<=1001 by omega) (by decide)
  ·rw [ag]
   show _=some (HO.lst ((cs++[c]).map V.int))
   rw [Vt]
   rfl
 rw [Vp e5]
 refine bB ⟨VJ _,λu hu=>q u _ (t2.trans (aj hu _)) ?_⟩
 rw [ag,CQ k1 e2 k3 e4 e5]
 rfl
def lj(x:Wk)(h:Hd)(es:List Hd):List Hd:=if ck x=true then es else [h]
def Mb(x:Wk):Prop:=∀c∈gJ x,1<=c
def Eu:Wk->Prop
 | .meet c d _ _=>1<=c/\1<=d
 | _=>True
def Km:Wk->Prop
 | .one x=>AA x
 | _=>True
structure uU(n:Nat)(H:Hp)(a b l:Addr)(x:Wk)(h:Hd)(as:List Addr)(es:List Hd):Prop where
 wk:cX n H a x
 hd:dF H b h
 en:gz H l as es
 n:ck x=true->es.length=2
 sm:kJ x
 pos:Mb x
 posm:Eu x
 dr:Km x
theorem uU.same{n:Nat}{H H':Hp}{a b l:Addr}{x:Wk}{h:Hd}{as:List Addr}{es:List Hd}(s:aM H H')(i:uU n H a b l x h as es):uU n H' a b l x h as es:=⟨i.wk.keep (aE.of s),s _ _ i.hd,i.en.same s,i.n,i.sm,i.pos,i.posm,i.dr⟩
def zD(n:Nat):Sp:=λvs H Q _=>∃(a b l:Addr) (x:Wk) (h:Hd) (as:List Addr) (es:List Hd),vs=[.ref a,.ref b,.ref l]/\uU n H a b l x h as es/\∀H',aM H H'->Q (.bl (!cV x (lj x h es))) H'
theorem qw{c:Int}{h:Hd}(hc:1<=c):there c h=decide (c<=(h.length:Nat)):=by
 unfold there
 rw [Vq hc,Bool.true_and]
theorem uY{cs:List Int}{i:Nat}{c:Int}{p:Int->Bool}(h:cs[i]? = some c):(cs.take (i+1)).filter p=(cs.take i).filter p++(if p c=true then [c]else []):=by
 rw [take_one h,List.filter_append]
 congr 1
 by_cases e:p c=true <;> simp [e]
theorem HL{cs:List Int}{h:Hd}(hp:∀c∈cs,1<=c):(cs.filter λc=>decide ((h.length:Int)<c)).isEmpty=cs.all λc=>there c h:=by
 induction cs with
 | nil=>rfl
 | cons c cs ih =>
  have ih:=ih λc hc=>hp c (by simp [hc])
  have hc:=hp c (by simp)
  rw [List.all_cons,←ih,qw hc,List.filter_cons]
  by_cases z:c<=(h.length:Nat)
  ·rw [Vq z,Vp (show¬(h.length:Int)<c by omega)]; simp
  ·rw [Vp z,Vq (show(h.length:Int)<c by omega)]; simp
abbrev fj:Stmt:=top 69
theorem lK:ay ["_law_worker_here","_law_head","_law_ends"] ["_law_worker_here","_law_head","_law_ends"] (ar fj):=fs
theorem D7{n:Nat}(B:jH mg)(F:FA K mg "_law_no_column" fj)
  (dW:bf bc P w K mg base 1 "_law_told_columns" ["_law_worker_here"] (xn n)) :
  bf bc P w K mg base 2 "_law_no_column" ["_law_worker_here","_law_head","_law_ends"] (zD n):=by
 refine F.ok lK λf cdv A outer s H vs Q E hr h=>?_
 have hu:=iD hr
 have hu1:=jb hr
 obtain⟨a,b,l,x,h,as,es,rfl,hI,q⟩:=h
 refine⟨_,(aN (aU aP (az K (pv 0) ai) ao) (gc (bT gG (az K (pv 0) ai) (bg bA rfl B.len We (ae (bo K (pv 2) ai) ah))) (dc (bT gG (az K (pv 0) ai) (bg bA rfl B.len We (ae (bo K (pv 2) ai) ah)))))
   (ax (bT (EN hu) (bx (N':=["_law_column_here","_law_head"]) (src:=[none,some 1]) rfl (aZ.jT (by kernel_rfl)) (fq (av dW hr (ae (pv 0) ah))) (λcl C s H fp=>(eI (i:=0))) (tc:=(sq (h_ (A_ λi j=>.bl (decide (j<i))) (bD 0) (Lh (LO K) (bq (bD 1) fJ))))) (λcl C s H fp=>qh (aU gG (jd 0) (bg A6 yH B.len We (ae (zw 1) ah)))) (te:=(bD 0)) (λcl C s H fp=>(jd 0))) (aQ ah)))),?_⟩
 obtain⟨xs,h1⟩:=hI.wk.first
 refine⟨_,rfl,a,_,0,_,rfl,rfl,aH.of h1,au (j:=0) rfl,rfl,_,rfl,?_⟩
 rw [bP]
 by_cases e:x.nm="meet"
 ·rw [Vq e]
  obtain⟨c,d,p,q',rfl⟩:=iZ e
  obtain⟨h0,h2,rfl⟩:=dR (hI.n rfl)
  obtain⟨a0,e0,gB⟩:=hI.en.nth (i:=0) rfl
  obtain⟨a1,e1,vf⟩:=hI.en.nth (i:=1) rfl
  have ha:=hI.wk
  have hp:1<=c/\1<=d:=hI.posm
  cases n with
  | zero=>exact V4 ha
  | succ n =>
  obtain⟨b',e',bs,es',h1,_⟩:=ha
  have q:=q H (aM.refl _)
  have q:Q (.bl (!(there c h0&&there d h2))) H:=q
  rw [qw hp.1,qw hp.2]at q
  refine cp ⟨_,rfl,a,_,1,_,rfl,rfl,aH.of h1,rfl,_,rfl,l,_,0,_,rfl,rfl,a_.of hI.en.lst,au (j:=0) e0,a0,_,rfl,.inr (aH.of gB),_,_,rfl,rfl,_,rfl,?_⟩
  rw [Vr]
  refine cJ (λk=>?_) (λk=>?_)
  ·have k:=VX k
   rw [Vp (show¬c<=(h0.length:Nat) by omega)]at q
   exact q
  ·have k:¬(h0.length:Nat)<c:=λz=>k (Vq z)
   rw [Vq (show c<=(h0.length:Nat) by omega),Bool.true_and]at q
   refine⟨_,rfl,a,_,2,_,rfl,rfl,aH.of h1,rfl,_,rfl,l,_,1,_,rfl,rfl,a_.of hI.en.lst,au (j:=1) e1,a1,_,rfl,.inr (aH.of vf),_,_,rfl,rfl,?_⟩
   rw [Vr]
   show Q (.bl (decide ((h2.length:Int)<d))) H
   by_cases z:d<=(h2.length:Nat)
   ·rw [Vq z]at q
    rw [Vp (show¬(h2.length:Int)<d by omega)]
    exact q
   ·rw [Vp z]at q
    rw [Vq (show(h2.length:Int)<d by omega)]
    exact q
 rw [Vp e]
 have OR:cV x (lj x h es)=(gJ x).all λc=>there c h:=by
  cases x with
  | one x=>rfl
  | both p q=>rfl
  | meet c d p q=>exact VY rfl e
 have Sm:(h.map V.str).length=h.length:=Vr _
 refine bB (aG ⟨_,rfl,a,x,rfl,hI.wk,hI.sm,λu H1 s1 j6=>⟨u,rfl,⟨_,a_.of j6⟩,λD hD=>?_⟩⟩)
 refine dN (xs:=(gJ x).map V.int) (λi σ ys H'=>(∃o,σ=[o,some (.ref b)])/\ys=(((gJ x).take i).filter λc=>decide ((h.length:Int)<c)).map V.int/\ys.length<=i/\H' D=some (.lst ys)/\aM H1 H') ⟨⟨none,rfl⟩,rfl,Vn _,ag,aj hD _⟩ ?_ ?_ ?_ ?_ ?_
 ·rintro i σ ys H' _ ⟨_,_,hi,h,_⟩
  exact⟨h,hi⟩
 ·rintro i σ ys H' _ ⟨_,_,_,_,sm⟩
  exact a_.of (sm _ _ j6)
 ·rw [Vr]; exact Vo (r8 hI.sm) (by decide)
 ·rintro i v σ ys H' hv ⟨⟨o,rfl⟩,rfl,hi,hh,sm⟩
  rw [VO]at hv
  cases ec:(gJ x)[i]? with
  | none=>rw [ec]at hv; cases hv
  | some c =>
   rw [ec]at hv
   have hv:V.int c=v:=VL hv
   subst hv
   refine⟨_,rfl,_,rfl,b,_,rfl,.inr (aH.of (sm _ _ (s1 _ _ hI.hd))),_,_,rfl,rfl,_,rfl,?_⟩
   refine cJ (λk=>?_) (λk=>?_) <;> rw [Sm]at k
   ·refine⟨_,rfl,hh,⟨_,rfl⟩,?_,by rw [Vs]; exact Nat.add_le_add_right hi 1,ag,bt hD sm⟩
    rw [uY ec,V0 k,Vt]; rfl
   ·refine⟨⟨_,rfl⟩,?_,Nat.le_succ_of_le hi,hh,sm⟩
    rw [uY ec,VZ k,V8]
 ·rintro σ ys H' ⟨_,rfl,_,hh,sm⟩
  rw [Vr,V3]at hh
  refine⟨VJ _,λR hR=>⟨D,R,_,rfl,rfl,aj hR _ _ _ hh,ag,?_⟩⟩
  have q:=q _ (s1.trans (sm.trans (aj hR (.lst []))))
  rw [OR,←HL hI.pos]at q
  show Q (.bl (!(((gJ x).filter _).map V.int).isEmpty)) _
  rw [List.isEmpty_map]
  exact q
def tF:W1->Str->Bool
 | .walk _ mv,t=>!(decide (jf ((mv.filter λv=>!decide (v=.non)).map sW)=[])||decide (jf ((mv.filter λv=>!decide (v=.non)).map sW)=[t]))
 | .turn _ ps,t=>!decide (jf ((ps.map λp=>p.1).map sW)=[t]) || !decide (jf ((ps.map λp=>p.2).map sW)=[t])
 | .must _ ps,t=>!decide (jf ((ps.map λp=>p.1).map sW)=[t])||decide (1<(jf ((ps.map λp=>p.2).map sW)).length)
 | _,_=>false
def sC(x:W1):Prop:=(∃c ps,x=.turn c ps)\/(∃c ps,x=.must c ps)\/∃c mv,x=.walk c mv
def MW(n:Nat):Sp:=λvs H Q _=>∃(a:Addr) (x:W1) (t:Str),vs=[.ref a,.str t]/\cX n H a (.one x)/\sC x/\AA x/\∀H',aM H H'->Q (.bl (tF x t)) H'
theorem js(s t:List Str):cR (.lst (s.map D.str)) (.lst (t.map D.str))=decide (s=t):=by
 rw [←qd s t]
 simp only [cR]
theorem kj{K:Wg}{H:Hp}{a:Addr}{h:List Str}(e:H a=some (.lst (h.map V.str))):bj K H (.lst (h.map D.str)) (.ref a):=lu e (mz h)
theorem wO(h:List Str):(D.lst (h.map D.str)).depth<=1:=by
 have:=kP h
 simp only [D.depth]at this⊢
 exact this
theorem rT{mv:List V}{i:Nat}{v:V}{p:V->Bool}(h:mv[i]? = some v):(mv.take (i+1)).filter p=(mv.take i).filter p++(if p v=true then [v]else []):=by
 rw [take_one h,List.filter_append]
 congr 1
 by_cases e:p v=true <;> simp [e]
theorem Fn{x:W1}(hx:sC x)(h:x.nm="walk"):∃c mv,x=.walk c mv:=by
 rcases hx with⟨c,ps,rfl⟩ | ⟨c,ps,rfl⟩ | h
 ·exact VY h (by simp only [W1.nm]; decide +kernel)
 ·exact VY h (by simp only [W1.nm]; decide +kernel)
 ·exact h
theorem Fd{v:V}(h:v=.non\/dZ v)(n:¬decide (v=.non)=true):dZ v:=by
 rcases h with rfl | h
 ·exact VY (Vq rfl) n
 ·exact h
abbrev cP:Stmt:=top 70
theorem dX:ay ["_law_worker_here","_law_here","_law_ones","_law_others"] ["_law_worker_here","_law_here"] (ar cP):=fs
theorem Ay{n:Nat}(B:jH mg)(F:FA K mg "_law_cells_wrong" cP)
  (eP:bf bc P w K mg base 1 "_law_sorts" ["_law_cells"] tI) :
  bf bc P w K mg base 2 "_law_cells_wrong" ["_law_worker_here","_law_here"] (MW n):=by
 refine F.ok dX λf cdv A outer s H vs Q E hr h=>?_
 have hu:=iD hr
 have hu1:=jb hr
 obtain⟨a,x,t,rfl,ha,hx,hd,q⟩:=h
 refine⟨_,(aN (aU aP (az K (pv 0) ai) ao) (fL rP (av eP hr (ae (bx (N':=["_law_state_here","_law_cell_here","_law_after"]) (src:=[none,none,none]) rfl (aZ.jT (by kernel_rfl)) (cQ (az K (pv 0) ai)) (g:=(i8 K 3 (bR (bE 0) (bR (bE 1) (bR (bE 2) i5))))) (λcl C s H fp=>(cG rfl (aA (eI (i:=0)) (aA (eI (i:=1)) (aA (eI (i:=2)) bY))))) (tc:=(sq (h_ (λx y H Q=>y=.non/\Q (.bl (!decide (x=.non))) H) (bD 1) (tC .non)))) (λcl C s H fp=>qh (aU sI (jd 1) iS)) (te:=(bD 1)) (λcl C s H fp=>(jd 1))) ah)) (aQ (ae (aQ ah) (ae (aQ (ae (pv 1) ah)) ah))) rfl)
   (aq (aL (i:=2) dX.nd rfl (V2 rfl) (av eP hr (ae (bx (N':=["_law_a","_law_b"]) (src:=[none,none]) rfl (aZ.jT (by kernel_rfl)) (cQ (az K (pv 0) ai)) (g:=(i8 K 2 (bR (bE 0) (bR (bE 1) i5)))) (λcl C s H fp=>(cG rfl (aA (eI (i:=0)) (aA (eI (i:=1)) bY)))) (λcl C s H fp=>aX) (te:=(bD 0)) (λcl C s H fp=>(jd 0))) ah)))
   (aq (aL (i:=3) dX.nd rfl (V2 rfl) (av eP hr (ae (bx (N':=["_law_a","_law_b"]) (src:=[none,none]) rfl (aZ.jT (by kernel_rfl)) (cQ (az K (pv 0) ai)) (g:=(i8 K 2 (bR (bE 0) (bR (bE 1) i5)))) (λcl C s H fp=>(cG rfl (aA (eI (i:=0)) (aA (eI (i:=1)) bY)))) (λcl C s H fp=>aX) (te:=(bD 1)) (λcl C s H fp=>(jd 1))) ah)))
   (aN (aU aP (az K (pv 0) ai) ao) (gc (bT jn (pv 2) (aQ (ae (pv 1) ah))) (dc (bT jn (pv 3) (aQ (ae (pv 1) ah)))))
   (ax (gc (bT jn (pv 2) (aQ (ae (pv 1) ah))) (dc (bT gG (bg bA rfl B.len We (ae (pv 3) ah)) ai)))))))),?_⟩
 obtain⟨xs,h1⟩:=ha.first
 refine⟨_,rfl,a,_,0,_,rfl,rfl,aH.of h1,au (j:=0) rfl,rfl,_,rfl,?_⟩
 rw [bP]
 by_cases e:x.nm="walk"
 ·rw [Vq (show(Wk.one x).nm="walk" from e)]
  obtain⟨c,mv,rfl⟩:=Fn hx e
  obtain⟨st,t',bs,h1,hI⟩:=cb.mp ha
  have hz:mv.length<=50:=hd.ne
  have hg:∀v∈mv,v=.non\/dZ v:=hd.good
  have hlb:(bs.map V.ref).length=mv.length:=by rw [Vr,hI.len]
  refine cp ⟨_,rfl,a,_,3,_,rfl,rfl,aH.of h1,rfl,t',rfl,⟨_,aH.of hI.tup⟩,λDl hD=>?_⟩
  refine cI (xs:=bs.map V.ref) (λi σ ys H'=>(∃o1 o2 o3,σ=[o1,o2,o3])/\ys=(mv.take i).filter (λv=>!decide (v=.non))/\ys.length<=i/\H' Dl=some (.lst ys)/\aM H H') ⟨⟨none,none,none,rfl⟩,rfl,Vn _,ag,aj hD _⟩ ?_ ?_ ?_ ?_ ?_
  ·rintro i σ ys H' _ ⟨_,_,hi,h,_⟩
   exact⟨h,hi⟩
  ·rintro i σ ys H' _ ⟨_,_,_,_,sm⟩
   exact aH.of (sm _ _ hI.tup)
  ·rw [hlb]; exact Vo hz (by decide)
  ·rintro i v σ ys H' hv ⟨⟨o1,o2,o3,rfl⟩,rfl,hi,h,sm⟩
   obtain⟨b,y,rfl,ey,s1,s2,hb⟩:=hI.get hv
   refine⟨b,_,rfl,aH.of (sm _ _ hb),rfl,_,_,rfl,ak ⟨_,_,rfl,ak ⟨_,_,rfl,ak ⟨rfl,?_⟩⟩⟩⟩
   refine⟨_,rfl,rfl,_,rfl,cJ (λk=>?_) (λk=>?_)⟩
   ·refine⟨_,rfl,h,⟨_,_,_,rfl⟩,?_,by rw [Vs]; exact Nat.add_le_add_right hi 1,ag,bt hD sm⟩
    rw [rT ey,V0 k]
   ·refine⟨⟨_,_,_,rfl⟩,?_,Nat.le_succ_of_le hi,h,sm⟩
    rw [rT ey,VZ k,V8]
  ·rintro σ ys H1 ⟨_,rfl,hyl,h,sm⟩
   rw [hlb,V3]at h
   rw [hlb,V3]at hyl
   refine⟨Dl,_,rfl,h,by omega,λv hv=>?_,λu H2 s2 hu2=>?_⟩
   ·obtain⟨m1,m2⟩:=List.mem_filter.mp hv
    exact Fd (hg v m1) (by simpa using m2)
   refine⟨VJ _,λR1 Pe=>⟨_,rfl,dH,λR2 zX=>⟨cN,λR3 OU=>?_⟩⟩⟩
   have t1:=aj Pe (.lst [])
   have t2:=aj zX (.lst [V.str t])
   have t3:=aj OU (.lst [V.ref R1,.ref R2])
   have Gp:cA [D.lst [],.lst [.str t]]<=1:=by simp [cA,D.depth]
   refine⟨_,[D.lst [],.lst [.str t]],R3,_,rfl,.inl (a_.of ag),kj ((t1.trans (t2.trans t3)) _ _ hu2),bV.cons (lu (t3 _ _ (t2 _ _ ag)) bV.nil) (bV.cons (lu (t3 _ _ ag) (bV.cons (gF _) bV.nil)) bV.nil),?_,?_⟩
   ·exact Vu (show(A.deeper (PyProof.Rows.envOfC "_law_cells_wrong" (ar cP) s.heap.objs.size f cdv)).units+1+cA _<=_ by omega) hu
   ·have q:=q _ (sm.trans (s2.trans (t1.trans (t2.trans t3))))
    have e1:=js [] (jf ((mv.filter λv=>!decide (v=.non)).map sW))
    have e2:=js [t] (jf ((mv.filter λv=>!decide (v=.non)).map sW))
    show Q (.bl (!(cR (.lst []) _||(cR (.lst [.str t]) _||false)))) _
    rw [show D.lst []=.lst (([]:List Str).map D.str) from rfl,show D.lst [.str t]=.lst (([t]:List Str).map D.str) from rfl,e1,e2,Bool.or_false]
    have q:Q (.bl (!(decide (jf ((mv.filter λv=>!decide (v=.non)).map sW)=[])||decide (jf ((mv.filter λv=>!decide (v=.non)).map sW)=[t])))) _:=q
    rw [show decide (([]:List Str)=jf ((mv.filter λv=>!decide (v=.non)).map sW))=decide (jf ((mv.filter λv=>!decide (v=.non)).map sW)=[]) from by simp only [eq_comm],show decide ([t]=jf ((mv.filter λv=>!decide (v=.non)).map sW))=decide (jf ((mv.filter λv=>!decide (v=.non)).map sW)=[t]) from by simp only [eq_comm]]
    exact q
 rw [Vp (show¬(Wk.one x).nm="walk" from e)]
 have key:∃(c:Int) (ps:List (V×V)) (t':Addr) (bs:List Addr),H a=some (.tup [.str x.nm,.int c,.ref t'])/\bF kL H t' bs ps/\ps.length<=50/\(∀p∈ps,dZ p.1/\dZ p.2)/\tF x t=(!decide (jf ((ps.map λp=>p.1).map sW)=[t])||(if x.nm="turn" then !decide (jf ((ps.map λp=>p.2).map sW)=[t])else decide (1<(jf ((ps.map λp=>p.2).map sW)).length))):=by
  rcases hx with⟨c,ps,rfl⟩ | ⟨c,ps,rfl⟩ | ⟨c,mv,rfl⟩
  ·obtain⟨t',bs,h1,hI⟩:=cb.mp ha
   exact⟨c,ps,t',bs,h1,hI,hd.ne.2,hd.good,by rw [V0 (show(W1.turn c ps).nm="turn" from rfl)]; rfl⟩
  ·obtain⟨t',bs,h1,hI⟩:=cb.mp ha
   exact⟨c,ps,t',bs,h1,hI,hd.ne.2,hd.good,by rw [VZ (by simp only [W1.nm]; decide +kernel)]; rfl⟩
  ·exact VY rfl e
 obtain⟨c,ps,t',bs,h1,hI,hz,hg,hcw⟩:=key
 rw [hcw]at q
 have hlb:(bs.map V.ref).length=ps.length:=by rw [Vr,hI.len]
 refine bB (aG ⟨_,rfl,a,_,2,_,rfl,rfl,aH.of h1,rfl,t',rfl,⟨_,aH.of hI.tup⟩,λDl hD=>?_⟩)
 refine cI (xs:=bs.map V.ref) (λi σ ys H'=>(∃o1 o2,σ=[o1,o2])/\ys=(ps.take i).map (λp=>p.1)/\ys.length=i/\H' Dl=some (.lst ys)/\aM H H') ⟨⟨none,none,rfl⟩,rfl,rfl,ag,aj hD _⟩ ?_ ?_ ?_ ?_ ?_
 ·rintro i σ ys H' _ ⟨_,_,hi,h,_⟩
  exact⟨h,V_ hi⟩
 ·rintro i σ ys H' _ ⟨_,_,_,_,sm⟩
  exact aH.of (sm _ _ hI.tup)
 ·rw [hlb]; exact Vo hz (by decide)
 ·rintro i v σ ys H' hv ⟨⟨o1,o2,rfl⟩,rfl,hi,h,sm⟩
  obtain⟨b,y,rfl,ey,hb⟩:=hI.get hv
  refine⟨b,_,rfl,aH.of (sm _ _ hb),rfl,_,_,rfl,ak ⟨_,_,rfl,ak ⟨rfl,?_⟩⟩⟩
  refine⟨_,rfl,h,⟨_,_,rfl⟩,?_,?_,ag,bt hD sm⟩
  ·rw [take_one ey,Vt]; rfl
  ·rw [Vs,hi]; rfl
 rintro σ ys H1 ⟨_,rfl,hyl,h,sm⟩
 rw [hlb,V3]at h
 refine⟨Dl,_,rfl,h,by rw [Vr]; omega,λv hv=>?_,λu1 H2 s2 j6=>ak ?_⟩
 ·obtain⟨p,hp,rfl⟩:=VE.mp hv
  exact(hg p hp).1
 have s12:=sm.trans s2
 dsimp only
 refine⟨_,rfl,a,_,2,_,rfl,rfl,aH.of (s12 _ _ h1),rfl,t',rfl,⟨_,aH.of (s12 _ _ hI.tup)⟩,λD2 hD2=>?_⟩
 refine cI (xs:=bs.map V.ref) (λi σ ys H'=>(∃o1 o2,σ=[o1,o2])/\ys=(ps.take i).map (λp=>p.2)/\ys.length=i/\H' D2=some (.lst ys)/\aM H2 H') ⟨⟨none,none,rfl⟩,rfl,rfl,ag,aj hD2 _⟩ ?_ ?_ ?_ ?_ ?_
 ·rintro i σ ys H' _ ⟨_,_,hi,h,_⟩
  exact⟨h,V_ hi⟩
 ·rintro i σ ys H' _ ⟨_,_,_,_,sm⟩
  exact aH.of (sm _ _ (s12 _ _ hI.tup))
 ·rw [hlb]; exact Vo hz (by decide)
 ·rintro i v σ ys H' hv ⟨⟨o1,o2,rfl⟩,rfl,hi,h,sm'⟩
  obtain⟨b,y,rfl,ey,hb⟩:=hI.get hv
  refine⟨b,_,rfl,aH.of (sm' _ _ (s12 _ _ hb)),rfl,_,_,rfl,ak ⟨_,_,rfl,ak ⟨rfl,?_⟩⟩⟩
  refine⟨_,rfl,h,⟨_,_,rfl⟩,?_,?_,ag,bt hD2 sm'⟩
  ·rw [take_one ey,Vt]; rfl
  ·rw [Vs,hi]; rfl
 rintro dn Tv H3 ⟨_,rfl,PX,h2,sm3⟩
 rw [hlb,V3]at h2
 refine⟨D2,_,rfl,h2,by rw [Vr]; omega,λv hv=>?_,λu2 H4 s4 hu2=>ak ?_⟩
 ·obtain⟨p,hp,rfl⟩:=VE.mp hv
  exact(hg p hp).2
 have N5:=sm3.trans s4
 have rl:=s12.trans N5
 have Io:=N5 _ _ j6
 dsimp only
 have Gp:∀ss:List Str,(A.deeper (PyProof.Rows.envOfC "_law_cells_wrong" (ar cP) s.heap.objs.size f cdv)).units+(D.lst (ss.map D.str)).depth<cLine:=λss=>Vu (Nat.add_le_add_left (Vo (wO ss) (by decide:1<=8)) _) hu
 refine⟨_,rfl,a,_,0,_,rfl,rfl,aH.of (rl _ _ h1),au (j:=0) rfl,rfl,_,rfl,?_⟩
 rw [bP]
 have step:∀(tb:TE) (H5:Hp),True:=λ_ _=>trivial
 by_cases e2:x.nm="turn"
 ·rw [Vq e2]
  rw [V0 e2]at q
  refine cp ⟨_,rfl,_,rfl,dH,λR hR=>?_⟩
  have tR:=aj hR (.lst [V.str t])
  refine⟨_,_,kj (tR _ _ Io),kj (h:=[t]) ag,Gp _,_,rfl,?_⟩
  rw [js]
  by_cases z:jf ((ps.map λp=>p.1).map sW)=[t]
  ·rw [Vq z]at q⊢
   refine bB ⟨_,rfl,_,rfl,dH,λR2 zX=>?_⟩
   have RM:=aj zX (.lst [V.str t])
   refine⟨_,_,kj (RM _ _ (tR _ _ hu2)),kj (h:=[t]) ag,Gp _,?_⟩
   rw [js]
   exact q _ (rl.trans (tR.trans RM))
  ·rw [Vp z]at q⊢
   exact cp (q _ (rl.trans tR))
 ·rw [Vp e2]
  rw [VZ e2]at q
  refine bB (aG ⟨_,rfl,_,rfl,dH,λR hR=>?_⟩)
  have tR:=aj hR (.lst [V.str t])
  refine⟨_,_,kj (tR _ _ Io),kj (h:=[t]) ag,Gp _,_,rfl,?_⟩
  rw [js]
  by_cases z:jf ((ps.map λp=>p.1).map sW)=[t]
  ·rw [Vq z]at q⊢
   refine bB ⟨_,rfl,u2,_,rfl,.inl (a_.of (tR _ _ hu2)),_,_,rfl,rfl,?_⟩
   have q:=q _ (rl.trans tR)
   show Q (.bl (decide ((1:Int)<(((jf ((ps.map λp=>p.2).map sW)).map V.str).length:Nat)))) _
   rw [Vr,show decide ((1:Int)<((jf ((ps.map λp=>p.2).map sW)).length:Nat))=decide (1<(jf ((ps.map λp=>p.2).map sW)).length) from by simp only [decide_eq_decide]; omega]
   exact q
  ·rw [Vp z]at q⊢
   exact cp (q _ (rl.trans tR))
theorem uj(us:List V):∀s∈us.map sW,s="n"\/s="w":=λs hs=>by obtain⟨v,_,rfl⟩:=VE.mp hs; exact IJ v
theorem sS{us:List V}(hn:us≠[])(t:Str):jf (us.map sW)=[t]↔∀v∈us,sW v=t:=by
 constructor
 ·intro h v hv
  have:=(lq (uj us) (sW v)).mpr (VE.mpr ⟨v,hv,rfl⟩)
  rw [h]at this
  exact VD.mp this
 ·intro h
  refine oQ (Cr _) (List.pairwise_singleton _ _) λs=>(lq (uj us) s).trans ⟨λm=>?_,λm=>?_⟩
  ·obtain⟨v,hv,rfl⟩:=VE.mp m
   rw [h v hv]; simp
  ·rw [VD.mp m]
   cases us with
   | nil=>exact VY rfl hn
   | cons v vs=>exact VE.mpr ⟨v,by simp,h v (by simp)⟩
theorem sQ{us:List V}(hn:us≠[])(t:Str):decide (jf (us.map sW)=[t])=us.all λv=>decide (sW v=t):=by
 apply Bool.eq_iff_iff.mpr
 rw [decide_eq_true_iff,sS hn,List.all_eq_true]
 exact⟨λh v hv=>Vq (h v hv),λh v hv=>VX (h v hv)⟩
theorem Gw(us:List V):decide (1<(jf (us.map sW)).length) = !c7 (us.map sW):=by
 cases us with
 | nil=>rfl
 | cons v vs =>
  by_cases h:∀u∈v::vs,sW u=sW v
  ·rw [(sS (by simp) (sW v)).mpr h]
   have:c7 ((v::vs).map sW)=true:=by
    unfold c7
    rw [List.all_eq_true]
    intro s hs
    obtain⟨u,hu,rfl⟩:=VE.mp hs
    exact Vq (h u hu)
   rw [this]
   rfl
  ·have h2:c7 ((v::vs).map sW)=false:=by
    apply VG.mpr
    intro z
    unfold c7 at z
    rw [List.all_eq_true]at z
    exact h λu hu=>VX (z (sW u) (VE.mpr ⟨u,hu,rfl⟩))
   rw [h2]
   have hlen:1<(jf ((v::vs).map sW)).length:=by
    match hs:jf ((v::vs).map sW)with
    | [] =>
     have:=(lq (uj (v::vs)) (sW v)).mpr (by simp)
     rw [hs]at this
     cases this
    | [a] =>
     exfalso
     have e:=(sS (by simp) a).mp hs
     exact h λu hu=>by rw [e u hu,e v (by simp)]
    | a::b::r=>simp
   rw [Vq hlen]
   rfl
theorem FP{x:W1}{h:Hd}{t:Str}{c:Int}(hx:sC x)(hd:AA x)(hc:dg x=[c])(ht:bu h c=t)(nt:t≠"t"):ba (.one x) [h] = !tF x t:=by
 rcases hx with⟨c',ps,rfl⟩ | ⟨c',ps,rfl⟩ | ⟨c',mv,rfl⟩ <;> cases hc
 ·have hn:ps≠[]:=hd.ne.1
  show cZ (ps.flatMap λp=>[p.1,p.2]) (bu h c) = !(_||_)
  rw [ht,sQ (by simpa using hn),sQ (by simpa using hn)]
  unfold cZ
  rw [Vp nt,List.all_flatMap,List.all_map,List.all_map]
  clear hd hn
  induction ps with
  | nil=>rfl
  | cons p ps ih =>
   simp only [Bool.not_false,Bool.true_and]at ih⊢
   rw [List.all_cons,List.all_cons,List.all_cons,ih]
   simp only [List.all_cons,List.all_nil,Function.comp,Bool.and_true]
   cases decide (sW p.1=t) <;> cases decide (sW p.2=t) <;> simp
 ·have hn:ps≠[]:=hd.ne.1
  show(c7 (ps.map λp=>sW p.2)&&cZ (ps.map λp=>p.1) (bu h c)) = !(_||_)
  rw [ht,sQ (by simpa using hn),Gw]
  unfold cZ
  rw [Vp nt,List.map_map]
  simp only [Bool.not_or,Bool.not_not,Bool.not_false,Bool.true_and]
  rw [Bool.and_comm]
  rfl
 ·show cZ (mv.filter λv=>!decide (v=.non)) (bu h c) = !(!(_||_))
  rw [ht,Bool.not_not]
  unfold cZ
  rw [Vp nt]
  by_cases e:mv.filter (λv=>!decide (v=.non))=[]
  ·rw [e]; rfl
  ·rw [sQ e]
   have:decide (jf ((mv.filter λv=>!decide (v=.non)).map sW)=[])=false:=by
    apply Vp
    intro z
    cases hm:mv.filter (λv=>!decide (v=.non))with
    | nil=>exact e hm
    | cons v vs =>
     have:=(lq (uj (mv.filter λv=>!decide (v=.non))) (sW v)).mpr (by rw [hm]; simp)
     rw [z]at this
     cases this
   rw [this]
   rfl
def qg:W1->Int
 | .keep c _=>c
 | .same _ d=>d
 | .turn c _=>c
 | .must c _=>c
 | .walk c _=>c
 | .sum _ c=>c
 | _=>0
def Ew(x:W1):Prop:=(∃c t,x=.keep c t)\/(∃c d,x=.same c d)\/(∃cs c,x=.sum cs c)\/sC x
theorem Cm{x:W1}(h:Ew x):∃pre,dg x=pre++[qg x]:=by
 rcases h with⟨c,t,rfl⟩ | ⟨c,d,rfl⟩ | ⟨cs,c,rfl⟩ | ⟨c,ps,rfl⟩ | ⟨c,ps,rfl⟩ | ⟨c,mv,rfl⟩
 ·exact⟨[],rfl⟩
 ·exact⟨[c],rfl⟩
 ·exact⟨cs,rfl⟩
 ·exact⟨[],rfl⟩
 ·exact⟨[],rfl⟩
 ·exact⟨[],rfl⟩
theorem Kg{x:Wk}:inV (.str x.nm) [.str "keep",.str "same",.str "turn",.str "must",.str "walk",.str "sum"]=true->∃y,x=.one y/\Ew y:=by
 cases x with
 | one x=>cases x <;> simp only [Wk.nm,W1.nm] <;> intro h <;> first | exact⟨_,rfl,.inl ⟨_,_,rfl⟩⟩ | exact⟨_,rfl,.inr (.inl ⟨_,_,rfl⟩)⟩ | exact⟨_,rfl,.inr (.inr (.inl ⟨_,_,rfl⟩))⟩ | exact⟨_,rfl,.inr (.inr (.inr (.inl ⟨_,_,rfl⟩)))⟩ | exact⟨_,rfl,.inr (.inr (.inr (.inr (.inl ⟨_,_,rfl⟩))))⟩ | exact⟨_,rfl,.inr (.inr (.inr (.inr (.inr ⟨_,_,rfl⟩))))⟩ | exact VY h (by decide +kernel)
 | both p q=>simp only [Wk.nm]; intro h; exact VY h (by decide +kernel)
 | meet c d p q=>simp only [Wk.nm]; intro h; exact VY h (by decide +kernel)
theorem HE{x:Wk}{hs:List Hd}(h:¬inV (.str x.nm) [.str "keep",.str "same",.str "turn",.str "must",.str "walk",.str "sum"]=true)(h1:x.nm≠"both")(h2:x.nm≠"meet"):ba x hs=true:=by
 cases x with
 | one x=>cases x <;> first | rfl | exact VY (by simp only [Wk.nm,W1.nm]; decide +kernel) h
 | both p q=>exact VY rfl h1
 | meet c d p q=>exact VY rfl h2
theorem zj{x:Wk}(h:x.nm="both"):∃p q,x=.both p q:=by
 revert h
 cases x with
 | one x=>cases x <;> simp only [Wk.nm,W1.nm] <;> (intro h; exact VY h (by decide +kernel))
 | both p q=>intro h; exact⟨_,_,rfl⟩
 | meet c d p q=>simp only [Wk.nm]; intro h; exact VY h (by decide +kernel)
theorem Ff{x:W1}(h:Ew x)(h1:x.nm≠"keep")(h2:x.nm≠"same")(h3:x.nm≠"sum"):sC x:=by
 rcases h with⟨c,t,rfl⟩ | ⟨c,d,rfl⟩ | ⟨cs,c,rfl⟩ | h
 ·exact VY rfl h1
 ·exact VY rfl h2
 ·exact VY rfl h3
 ·exact h
theorem Cw{x:W1}(h:sC x):dg x=[qg x]:=by
 rcases h with⟨c,ps,rfl⟩ | ⟨c,ps,rfl⟩ | ⟨c,mv,rfl⟩ <;> rfl
def vm(n:Nat):Sp:=λvs H Q _=>∃(a b l:Addr) (x:Wk) (h:Hd) (as:List Addr) (es:List Hd),vs=[.ref a,.ref b,.ref l]/\uU n H a b l x h as es/\cV x (lj x h es)=true/\∀H',aM H H'->Q (.bl (!ba x (lj x h es))) H'
abbrev f9:Stmt:=top 71
theorem d_:ay ["_law_worker_here","_law_head","_law_ends","_law_word_here","_law_pair","_law_here"] ["_law_worker_here","_law_head","_law_ends"] (ar f9):=fs
theorem AF{n:Nat}(B2:iW mg)(F:FA K mg "_law_no_sort" f9)
  (dW:bf bc P w K mg base 1 "_law_told_columns" ["_law_worker_here"] (xn n))
  (kF:bf bc P w K mg base 2 "_law_cells_wrong" ["_law_worker_here","_law_here"] (MW n)) :
  bf bc P w K mg base 3 "_law_no_sort" ["_law_worker_here","_law_head","_law_ends"] (vm n):=by
 refine F.ok d_ λf cdv A outer s H vs Q E hr h=>?_
 have hu:=iD hr
 obtain⟨a,b,l,x,h,as,es,rfl,hI,hf,q⟩:=h
 refine⟨_,(aq (aL (i:=3) d_.nd rfl (V2 rfl) (az K (pv 0) ai))
   (aN (aU aP (pv 3) ao) (bT jn (bo K (pv 2) ai) (bo K (pv 2) ai))
   (aq (du (aU aP (pv 3) ao)
    (aq (aL (i:=4) d_.nd rfl (V2 rfl) (aJ (ae (az K (bo K (pv 2) ai) (aD bO (az K (pv 0) ai) ai)) (ae (az K (bo K (pv 2) ai) (aD bO (az K (pv 0) ai) ai)) ah))))
     (ax (gc (bT kf (az K (pv 4) ai) (az K (pv 4) ai)) (dc (bT aP (az K (pv 4) ai) ao)))))
    b9)
   (aN (dk iR (pv 3) (aQ (ae ao (ae ao (ae ao (ae ao (ae ao (ae ao ah))))))) rfl) eE
   (aq (aL (i:=5) d_.nd rfl (V2 rfl) (az K (pv 1) (aD bO (bo K (av dW hr (ae (pv 0) ah)) (sj mr ai)) ai)))
   (aN (aU aP (pv 3) ao) (bT kf (az K (az K (pv 0) ai) ai) (bo K (aQ (ae (pv 5) (ae ao ah))) (aW cE rfl B2.int V7 (ae (bT aP (pv 5) ao) ah))))
   (aN (aU aP (pv 3) ao) (gc (bT aP (pv 5) ao) (dc (bT kf (pv 5) (az K (pv 1) (aD bO (az K (pv 0) ai) ai)))))
   (aN (aU aP (pv 3) ao) (bT aP (pv 5) ao)
   (ax (gc (bT aP (pv 5) ao) (dc (av kF hr (ae (pv 0) (ae (pv 5) ah)))))))))))))),?_⟩
 obtain⟨xs,h1⟩:=hI.wk.first
 refine⟨_,rfl,a,_,0,_,rfl,rfl,aH.of h1,au (j:=0) rfl,ak ?_⟩
 dsimp only
 refine⟨_,rfl,rfl,_,rfl,?_⟩
 rw [bP]
 by_cases e1:x.nm="both"
 ·rw [Vq e1]
  obtain⟨p,q',rfl⟩:=zj e1
  obtain⟨h0,h2,rfl⟩:=dR (hI.n rfl)
  obtain⟨a0,e0,gB⟩:=hI.en.nth (i:=0) rfl
  obtain⟨a1,e1',vf⟩:=hI.en.nth (i:=1) rfl
  refine cp ⟨_,rfl,l,_,0,_,rfl,rfl,a_.of hI.en.lst,au (j:=0) e0,_,rfl,l,_,1,_,rfl,rfl,a_.of hI.en.lst,au (j:=1) e1',_,_,y_ gB,y_ vf,?_,?_⟩
  ·exact Vu (Nat.add_le_add_left (Vo (kP h0) (by decide:1<=8)) _) hu
  ·rw [qd]
   exact q H (aM.refl _)
 rw [Vp e1]
 refine bB (aG ⟨_,rfl,rfl,_,rfl,?_⟩)
 rw [bP]
 by_cases e2:x.nm="meet"
 ·rw [Vq e2]
  obtain⟨c,d,p,q',rfl⟩:=iZ e2
  obtain⟨h0,h2,rfl⟩:=dR (hI.n rfl)
  obtain⟨a0,e0,gB⟩:=hI.en.nth (i:=0) rfl
  obtain⟨a1,e1',vf⟩:=hI.en.nth (i:=1) rfl
  have hf:(there c h0&&there d h2)=true:=hf
  rw [VW]at hf
  have ha:=hI.wk
  cases n with
  | zero=>exact V4 ha
  | succ n =>
  obtain⟨b',e',bs,es',h1,_⟩:=ha
  refine cp ⟨_,rfl,l,_,0,_,rfl,rfl,a_.of hI.en.lst,au (j:=0) e0,_,rfl,a,_,1,_,rfl,rfl,aH.of h1,rfl,_,_,rfl,rfl,a0,_,_,_,rfl,rfl,aH.of gB,dJ (fc hf.1),?_⟩
  refine⟨_,rfl,l,_,1,_,rfl,rfl,a_.of hI.en.lst,au (j:=1) e1',_,rfl,a,_,2,_,rfl,rfl,aH.of h1,rfl,_,_,rfl,rfl,a1,_,_,_,rfl,rfl,aH.of vf,dJ (fc hf.2),cN,λu hu'=>ak ?_⟩
  have su:=aj hu' (.tup [.str (bu h0 c),.str (bu h2 d)])
  have hu0:upd H u (.tup [.str (bu h0 c),.str (bu h2 d)]) u=_:=ag
  revert su hu0
  generalize upd H u (.tup [.str (bu h0 c),.str (bu h2 d)])=H1
  intro su hu0
  dsimp only
  refine⟨_,rfl,u,_,0,_,rfl,rfl,aH.of hu0,au (j:=0) rfl,_,rfl,u,_,1,_,rfl,rfl,aH.of hu0,rfl,rfl,_,rfl,?_⟩
  have q:=q H1 su
  have q:Q (.bl (!(decide (bu h0 c=bu h2 d) && !decide (bu h0 c="t")))) H1:=q
  rw [bP]
  by_cases z:bu h0 c=bu h2 d
  ·rw [Vq z]at q⊢
   refine bB ⟨_,rfl,u,_,0,_,rfl,rfl,aH.of hu0,au (j:=0) rfl,rfl,?_⟩
   rw [bP]
   simpa using q
  ·rw [Vp z]at q⊢
   exact cp q
 rw [Vp e2]
 refine bB (aG ⟨_,rfl,L8,λR hR=>⟨R,_,rfl,.inl (a_.of ag),rfl,rfl,_,rfl,?_⟩⟩)
 have t1:=aj hR (.lst [V.str "keep",.str "same",.str "turn",.str "must",.str "walk",.str "sum"])
 revert t1
 generalize upd H R (.lst [V.str "keep",.str "same",.str "turn",.str "must",.str "walk",.str "sum"])=H1
 intro t1
 cases e3:inV (.str x.nm) [.str "keep",.str "same",.str "turn",.str "must",.str "walk",.str "sum"]with
 | false =>
  rw [HE (by rw [e3]; decide) e1 e2]at q
  exact cp (q H1 t1)
 | true =>
 obtain⟨y,rfl,hy⟩:=Kg e3
 obtain⟨pre,hpre⟩:=Cm hy
 have Qv:=hI.same t1
 have hc:1<=qg y/\qg y<=h.length:=cM hf (by rw [hpre]; simp)
 refine bB (aG ⟨_,rfl,_,rfl,a,.one y,rfl,Qv.wk,Qv.sm,λu H2 s2 hu2=>?_⟩)
 have s12:=t1.trans s2
 have GW:=Qv.same s2
 have hu2:H2 u=some (.lst ((pre.map V.int)++[.int (qg y)])):=by
  rw [hu2]
  show some (HO.lst ((dg y).map V.int))=_
  rw [hpre,Vt]
  rfl
 refine⟨_,rfl,u,_,-1,_,rfl,rfl,a_.of hu2,oE _ _,_,_,rfl,rfl,b,_,_,_,rfl,rfl,aH.of GW.hd,dJ hc,ak ?_⟩
 dsimp only
 have Ho:∀s:Str,(Wk.one y).nm=s↔y.nm=s:=λs=>Iff.rfl
 refine⟨_,rfl,rfl,_,rfl,?_⟩
 rw [bP]
 by_cases e4:y.nm="keep"
 ·rw [Vq ((Ho _).mpr e4)]
  obtain⟨c,t,hh⟩:=sZ ((Ho _).mpr e4)
  cases hh
  obtain⟨st,ys,hk1,hk2⟩:=cb.mp GW.wk
  refine cp ⟨_,rfl,a,_,2,_,rfl,rfl,aH.of hk1,rfl,st,_,0,_,rfl,rfl,aH.of hk2,au (j:=0) rfl,_,rfl,cN,λR2 zX=>?_⟩
  have t2:=aj zX (.lst [V.str (bu h c),.str "n"])
  refine⟨_,rfl,rfl,.inr ⟨_,rfl,R2,_,_,.str (gy (bu h c)),rfl,rfl,a_.of ag,?_,rfl,?_⟩⟩
  ·show jj [V.str (bu h c),.str "n"] (if decide (V.str (bu h c)=V.str "t")=true then 1 else 0)=_
   unfold gy
   rw [bP]
   by_cases z:bu h c="t"
   ·rw [Vq z,V0 z]; rfl
   ·rw [Vp z,VZ z]; rfl
  ·show Q (.bl (!decide (V.str t=V.str (gy (bu h c))))) _
   rw [bP]
   exact q _ (s12.trans t2)
 rw [Vp (λz=>e4 ((Ho _).mp z))]
 refine bB (aG ⟨_,rfl,rfl,_,rfl,?_⟩)
 rw [bP]
 by_cases e5:y.nm="same"
 ·rw [Vq ((Ho _).mpr e5)]
  obtain⟨c,d,hh⟩:=zr ((Ho _).mpr e5)
  cases hh
  have h2:H2 a=some (.tup [.str "same",.int c,.int d]):=cb.mp GW.wk
  have hc1:=cM hf (c:=c) (by simp [dg])
  have q:=q H2 s12
  have q:Q (.bl (!(decide (bu h c=bu h d) && !decide (bu h c="t")))) H2:=q
  refine cp ⟨_,rfl,rfl,_,rfl,?_⟩
  rw [bP]
  show if decide (bu h d="t")=true then _ else _
  by_cases z:bu h d="t"
  ·rw [Vq z]
   refine cp ?_
   have:(!(decide (bu h c=bu h d) && !decide (bu h c="t")))=true:=by
    by_cases y1:bu h c=bu h d
    ·rw [Vq y1,y1,Vq z]; rfl
    ·rw [Vp y1]; rfl
   rw [this]at q
   exact q
  ·rw [Vp z]
   refine bB ⟨_,rfl,_,rfl,_,rfl,a,_,1,_,rfl,rfl,aH.of h2,rfl,_,_,rfl,rfl,b,_,_,_,rfl,rfl,aH.of GW.hd,dJ hc1,rfl,?_⟩
   show Q (.bl (!decide (V.str (bu h d)=V.str (bu h c)))) H2
   rw [bP]
   have:(!(decide (bu h c=bu h d) && !decide (bu h c="t"))) = !decide (bu h d=bu h c):=by
    by_cases y1:bu h c=bu h d
    ·rw [Vq y1,y1,Vp z,Vq rfl]; rfl
    ·rw [Vp y1,Vp (show¬bu h d=bu h c from λw=>y1 w.symm)]; rfl
   rw [this]at q
   exact q
 rw [Vp (λz=>e5 ((Ho _).mp z))]
 refine bB (aG ⟨_,rfl,rfl,_,rfl,?_⟩)
 rw [bP]
 by_cases e6:y.nm="sum"
 ·rw [Vq ((Ho _).mpr e6)]
  obtain⟨cs,c,hh⟩:=Dr ((Ho _).mpr e6)
  cases hh
  refine cp ⟨_,rfl,rfl,?_⟩
  show Q (.bl (decide (V.str (bu h c)=V.str "w"))) H2
  rw [bP]
  have q:=q H2 s12
  have q:Q (.bl (!(!decide (bu h c="w")))) H2:=q
  rw [Bool.not_not]at q
  exact q
 rw [Vp (λz=>e6 ((Ho _).mp z))]
 have ht:=Ff hy e4 e5 e6
 refine bB (aG ⟨_,rfl,rfl,_,rfl,?_⟩)
 rw [bP]
 by_cases z:bu h (qg y)="t"
 ·rw [Vq z]
  have:ba (.one y) [h]=false:=by
   rcases ht with⟨c,ps,rfl⟩ | ⟨c,ps,rfl⟩ | ⟨c,mv,rfl⟩
   ·show cZ _ (bu h c)=false
    rw [show bu h c="t" from z]; rfl
   ·show(_&&cZ _ (bu h c))=false
    rw [show bu h c="t" from z,Bool.and_comm]; rfl
   ·show cZ _ (bu h c)=false
    rw [show bu h c="t" from z]; rfl
  have q:=q H2 s12
  rw [show ba (.one y) (lj (.one y) h es)=false from this]at q
  exact cp q
 ·rw [Vp z]
  refine bB ⟨_,rfl,_,rfl,a,y,_,rfl,GW.wk,ht,GW.dr,λH3 s3=>?_⟩
  have q:=q H3 (s12.trans s3)
  rw [show ba (.one y) (lj (.one y) h es) = !tF y (bu h (qg y)) from FP ht GW.dr (Cw ht) rfl z,Bool.not_not]at q
  exact q
theorem F1{v:V}{vs:List V}(h:c7 ((v::vs).map sW)=true):jf ((v::vs).map sW)=[sW v]:=by
 rw [sS (by simp)]
 unfold c7 at h
 rw [List.all_eq_true]at h
 intro u hu
 exact VX (h (sW u) (VE.mpr ⟨u,hu,rfl⟩))
theorem KZ{x:Wk}:inV (.str x.nm) [.str "cut",.str "count",.str "sum"]=true->∃cs,x=.one (.cut cs)\/x=.one (.count cs)\/∃c,x=.one (.sum cs c):=by
 cases x with
 | one x=>cases x <;> simp only [Wk.nm,W1.nm] <;> intro h <;> first | exact⟨_,.inl rfl⟩ | exact⟨_,.inr (.inl rfl)⟩ | exact⟨_,.inr (.inr ⟨_,rfl⟩)⟩ | exact VY h (by decide +kernel)
 | both p q=>simp only [Wk.nm]; intro h; exact VY h (by decide +kernel)
 | meet c d p q=>simp only [Wk.nm]; intro h; exact VY h (by decide +kernel)
structure O9(x:Wk)(h:Hd)(es:List Hd):Prop where
 fit:cV x (lj x h es)=true
 sort:ba x (lj x h es)=true
 hz:h.length<=1000
 ez:∀e∈es,e.length<=1000
def JZ(n:Nat):Sp:=λvs H Q _=>∃(a b l:Addr) (x:Wk) (h:Hd) (as:List Addr) (es:List Hd),vs=[.ref a,.ref b,.ref l]/\uU n H a b l x h as es/\O9 x h es/\∀(u:Addr) (H':Hp),aM H H'->dF H' u (bw x (lj x h es))->Q (.ref u) H'
theorem Mk{x:Wk}(h:x.nm="must"):∃c ps,x=.one (.must c ps):=by
 revert h
 cases x with
 | one x=>cases x <;> simp only [Wk.nm,W1.nm] <;> first | (intro h; exact⟨_,_,rfl⟩) | (intro h; exact VY h (by decide +kernel))
 | both p q=>simp only [Wk.nm]; intro h; exact VY h (by decide +kernel)
 | meet c d p q=>simp only [Wk.nm]; intro h; exact VY h (by decide +kernel)
def BA:Wk->Hd->Hd
 | .one (.cut cs),h=>cs.map (bu h)
 | .one (.count cs),h=>cs.map (bu h)
 | .one (.sum cs _),h=>cs.map (bu h)
 | _,h=>h
theorem Hm{x:Wk}{h:Hd}(n:¬inV (.str x.nm) [.str "cut",.str "count",.str "sum"]=true):BA x h=h:=by
 cases x with
 | one x=>cases x <;> first | rfl | exact VY (by simp only [Wk.nm,W1.nm]; decide +kernel) n
 | both p q=>rfl
 | meet c d p q=>rfl
theorem Dx{x:Wk}{h:Hd}{es:List Hd}(n1:x.nm≠"both")(n2:x.nm≠"meet")(n3:x.nm≠"must"):bw x (lj x h es)=if inV (.str x.nm) [.str "count",.str "sum",.str "number"]=true then BA x h++(["t"]:Hd)else BA x h++(if x.nm="walk" then(["w"]:Hd)else []):=by
 cases x with
 | one x =>
  cases x <;> first
   | exact VY rfl n3
   | (rw [V0 (by simp only [Wk.nm,W1.nm]; decide +kernel)]; rfl)
   | (rw [VZ (by simp only [Wk.nm,W1.nm]; decide +kernel),V0 (by simp only [Wk.nm,W1.nm])]; rfl)
   | (rw [VZ (by simp only [Wk.nm,W1.nm]; decide +kernel),VZ (by simp only [Wk.nm,W1.nm]; decide +kernel),V8]; rfl)
 | both p q=>exact VY rfl n1
 | meet c d p q=>exact VY rfl n2
abbrev fh:Stmt:=top 72
theorem eY:ay ["_law_worker_here","_law_head","_law_ends","_law_word_here"] ["_law_worker_here","_law_head","_law_ends"] (ar fh):=fs
theorem v9{n:Nat}(B:jH mg)(F:FA K mg "_law_head_next" fh)
  (eP:bf bc P w K mg base 1 "_law_sorts" ["_law_cells"] tI) :
  bf bc P w K mg base 2 "_law_head_next" ["_law_worker_here","_law_head","_law_ends"] (JZ n):=by
 refine F.ok eY λf cdv A outer s H vs Q E hr h=>?_
 have hu:=iD hr
 obtain⟨a,b,l,x,h,as,es,rfl,hI,ho,q⟩:=h
 refine⟨_,(aq (aL (i:=3) eY.nd rfl (V2 rfl) (az K (pv 0) ai))
   (aN (aU aP (pv 3) ao) (bo K (pv 2) ai)
   (aN (aU aP (pv 3) ao) (aD bZ (aD bZ (bo K (pv 2) ai) (bN cz (bo K (pv 2) ai) cC (bS (aD bO (az K (pv 0) ai) ai)))) (bN cz (bo K (pv 2) ai) (bS (az K (pv 0) ai)) cC))
   (aN (aU aP (pv 3) ao) (aD bZ (aD bZ (bN cz (pv 1) cC (bS (aD bO (az K (pv 0) ai) ai))) (aW bH rfl B.tuple V6 (ae (av eP hr (ae (bx (N':=["_law_a","_law_b"]) (src:=[none,none]) rfl (aZ.jT (by kernel_rfl)) (cQ (az K (pv 0) ai)) (g:=(i8 K 2 (bR (bE 0) (bR (bE 1) i5)))) (λcl C s H fp=>(cG rfl (aA (eI (i:=0)) (aA (eI (i:=1)) bY)))) (λcl C s H fp=>aX) (te:=(bD 1)) (λcl C s H fp=>(jd 1))) ah)) ah))) (bN cz (pv 1) (bS (az K (pv 0) ai)) cC))
   (aq (du (dk cv (pv 3) (aQ (ae ao (ae ao (ae ao ah)))) rfl)
    (bM (aL (i:=1) eY.nd rfl (Or.inr rfl) (aW bH rfl B.tuple V6 (ae (bx (N':=["_law_column_here","_law_head"]) (src:=[none,some 1]) rfl (aZ.jT (by kernel_rfl)) (cQ (az K (pv 0) ai)) (λcl C s H fp=>(eI (i:=0))) (λcl C s H fp=>aX) (te:=(h_ (uy K) (bD 1) (h_ (A_ λi j=>V.int (i-j)) (bD 0) (tC (.int 1))))) (λcl C s H fp=>(az K (zw 1) (aD bO (jd 0) ai)))) ah))))
    b9)
   (aN (dk cv (pv 3) (aQ (ae ao (ae ao (ae ao ah)))) rfl) (aD bZ (pv 1) (aJ (ae ao ah)))
   (ax (aD bZ (pv 1) (gq (aU aP (pv 3) ao) (aJ (ae ao ah)) (aJ ah)))))))))),?_⟩
 obtain⟨xs,h1⟩:=hI.wk.first
 refine⟨_,rfl,a,_,0,_,rfl,rfl,aH.of h1,au (j:=0) rfl,ak ?_⟩
 dsimp only
 refine⟨_,rfl,rfl,_,rfl,?_⟩
 rw [bP]
 by_cases e1:x.nm="both"
 ·rw [Vq e1]
  obtain⟨p,q',rfl⟩:=zj e1
  obtain⟨h0,h2,rfl⟩:=dR (hI.n rfl)
  obtain⟨a0,e0,gB⟩:=hI.en.nth (i:=0) rfl
  exact cp ⟨_,rfl,l,_,0,_,rfl,rfl,a_.of hI.en.lst,au (j:=0) e0,q a0 H (aM.refl _) gB⟩
 rw [Vp e1]
 refine bB (aG ⟨_,rfl,rfl,_,rfl,?_⟩)
 rw [bP]
 by_cases e2:x.nm="meet"
 ·rw [Vq e2]
  obtain⟨c,d,p,q',rfl⟩:=iZ e2
  obtain⟨h0,h2,rfl⟩:=dR (hI.n rfl)
  obtain⟨a0,e0,gB⟩:=hI.en.nth (i:=0) rfl
  obtain⟨a1,e1',vf⟩:=hI.en.nth (i:=1) rfl
  have hz0:=ho.ez h0 (by simp)
  have hz1:=ho.ez h2 (by simp)
  have hf:(there c h0&&there d h2)=true:=ho.fit
  rw [VW]at hf
  obtain⟨d1,d2⟩:=fc hf.2
  have ha:=hI.wk
  cases n with
  | zero=>exact V4 ha
  | succ n =>
  obtain⟨b',e',bs,es',h1,_⟩:=ha
  refine cp ⟨_,rfl,l,_,0,_,rfl,rfl,a_.of hI.en.lst,au (j:=0) e0,_,rfl,l,_,1,_,rfl,rfl,a_.of hI.en.lst,au (j:=1) e1',?_⟩
  refine⟨_,rfl,a,_,2,_,rfl,rfl,aH.of h1,rfl,_,_,rfl,rfl,_,rfl,a1,_,rfl,vf,λt1 H1 s1 ht1=>?_⟩
  rw [nX d1 d2]at ht1
  refine eT (s1 _ _ gB) ht1 (by rw [VP]; omega) λt2 H2 s2 vU=>?_
  have s12:=s1.trans s2
  refine⟨_,rfl,l,_,1,_,rfl,rfl,a_.of (s12 _ _ hI.en.lst),au (j:=1) e1',_,rfl,a,_,2,_,rfl,rfl,aH.of (s12 _ _ h1),rfl,_,rfl,a1,_,rfl,s12 _ _ vf,λt3 H3 s3 IQ=>?_⟩
  rw [jU d1 d2]at IQ
  exact eT (s3 _ _ vU) IQ (by rw [Vs,VP,List.length_drop]; omega) λt4 H4 s4 E_=>q t4 H4 (s12.trans (s3.trans s4)) E_
 rw [Vp e2]
 refine bB (aG ⟨_,rfl,rfl,_,rfl,?_⟩)
 rw [bP]
 by_cases e3:x.nm="must"
 ·rw [Vq e3]
  obtain⟨c,ps,rfl⟩:=Mk e3
  obtain⟨t,bs,h1,hP⟩:=cb.mp hI.wk
  obtain⟨c1,c2⟩:=cM ho.fit (c:=c) (by simp [dg])
  have hd:AA (.must c ps):=hI.dr
  have hg:∀p∈ps,dZ p.1/\dZ p.2:=hd.good
  have hne:ps≠[]:=hd.ne.1
  have hpz:ps.length<=50:=hd.ne.2
  have RA:=ho.hz
  have hso:(c7 (ps.map λp=>sW p.2)&&cZ (ps.map λp=>p.1) (bu h c))=true:=ho.sort
  rw [VW]at hso
  have P1:jf ((ps.map λp=>p.2).map sW)=(ps.take 1).map λp=>sW p.2:=by
   cases ps with
   | nil=>exact VY rfl hne
   | cons p ps =>
    have:=hso.1
    rw [show((p::ps).map λp=>sW p.2)=((p::ps).map λp=>p.2).map sW by rw [List.map_map]; rfl]at this
    rw [Wb]at this⊢
    rw [F1 this]
    rfl
  have hlb:(bs.map V.ref).length=ps.length:=by rw [Vr,hP.len]
  refine cp ⟨_,rfl,_,rfl,a,_,1,_,rfl,rfl,aH.of h1,rfl,_,_,rfl,rfl,_,rfl,b,_,rfl,hI.hd,λt1 H1 s1 ht1=>?_⟩
  rw [nX c1 c2]at ht1
  refine⟨_,rfl,a,_,2,_,rfl,rfl,aH.of (s1 _ _ h1),rfl,t,rfl,⟨_,aH.of (s1 _ _ hP.tup)⟩,λDl hD=>?_⟩
  refine cI (xs:=bs.map V.ref) (λi σ ys H'=>(∃o1 o2,σ=[o1,o2])/\ys=(ps.take i).map (λp=>p.2)/\ys.length=i/\H' Dl=some (.lst ys)/\aM H1 H') ⟨⟨none,none,rfl⟩,rfl,rfl,ag,aj hD _⟩ ?_ ?_ ?_ ?_ ?_
  ·rintro i σ ys H' _ ⟨_,_,hi,h,_⟩
   exact⟨h,V_ hi⟩
  ·rintro i σ ys H' _ ⟨_,_,_,_,sm⟩
   exact aH.of (sm _ _ (s1 _ _ hP.tup))
  ·rw [hlb]; exact Vo hpz (by decide)
  ·rintro i v σ ys H' hv ⟨⟨o1,o2,rfl⟩,rfl,hi,hh,sm'⟩
   obtain⟨b',y,rfl,ey,hb⟩:=hP.get hv
   refine⟨b',_,rfl,aH.of (sm' _ _ (s1 _ _ hb)),rfl,_,_,rfl,ak ⟨_,_,rfl,ak ⟨rfl,?_⟩⟩⟩
   refine⟨_,rfl,hh,⟨_,_,rfl⟩,?_,?_,ag,bt hD sm'⟩
   ·rw [take_one ey,Vt]; rfl
   ·rw [Vs,hi]; rfl
  rintro dn Tv H3 ⟨_,rfl,PX,h2,sm3⟩
  rw [hlb,V3]at h2
  refine⟨Dl,_,rfl,h2,by rw [Vr]; omega,λv hv=>?_,λu2 H4 s4 hu2=>?_⟩
  ·obtain⟨p,hp,rfl⟩:=VE.mp hv
   exact(hg p hp).2
  rw [P1]at hu2
  have N5:=sm3.trans s4
  refine⟨u2,_,rfl,.inl ⟨a_.of hu2,λu3 wR=>?_⟩⟩
  have t5:=aj wR (.tup (((ps.take 1).map λp=>sW p.2).map V.str))
  have MC:=N5.trans t5
  refine eT (MC _ _ ht1) ag (by rw [VP,Vr,VP]; omega) λt6 H6 s6 Dt=>?_
  have O7:=s1.trans (MC.trans s6)
  refine⟨_,rfl,_,rfl,a,_,1,_,rfl,rfl,aH.of (O7 _ _ h1),rfl,_,rfl,b,_,rfl,O7 _ _ hI.hd,λt7 H7 s7 EV=>?_⟩
  rw [jU c1 c2]at EV
  exact eT (s7 _ _ Dt) EV (by rw [Vs,VP,Vr,VP,List.length_drop]; omega) λt8 H8 s8 OG=>q t8 H8 (O7.trans (s7.trans s8)) OG
 rw [Vp e3]
 rw [Dx e1 e2 e3]at q
 refine bB (aG ?_)
 dsimp only
 refine nN (λσ H'=>∃b',σ=[some (.ref a),some (.ref b'),some (.ref l),some (.str x.nm)]/\dF H' b' (BA x h)/\(BA x h).length<=1000/\aM H H') (λT hT=>?_) ?_
 ·refine⟨_,rfl,fM,λR hR=>⟨R,_,rfl,.inl (a_.of ag),rfl,rfl,_,rfl,?_⟩⟩
  have t1:=aj hR (.lst [V.str "cut",.str "count",.str "sum"])
  revert t1
  generalize upd H R (.lst [V.str "cut",.str "count",.str "sum"])=H1
  intro t1
  refine cJ (λk=>?_) (λk=>?_)
  ·have key:∃(cs:List Int) (t:Addr) (v:V) (vs:List V),H a=some (.tup (v :: .ref t::vs))/\H t=some (.tup (cs.map V.int))/\cs.length<=1000/\xg h cs/\BA x h=cs.map (bu h):=by
    obtain⟨cs,rfl | rfl | ⟨c,rfl⟩⟩:=KZ k
    ·obtain⟨t,h1,h2⟩:=cb.mp hI.wk
     exact⟨cs,t,_,_,h1,h2,hI.sm,λc hc=>cM ho.fit hc,rfl⟩
    ·obtain⟨t,h1,h2⟩:=cb.mp hI.wk
     exact⟨cs,t,_,_,h1,h2,hI.sm,λc hc=>cM ho.fit hc,rfl⟩
    ·obtain⟨t,h1,h2⟩:=cb.mp hI.wk
     exact⟨cs,t,_,_,h1,h2,hI.sm,λc hc=>cM ho.fit (List.mem_append_left _ hc),rfl⟩
   obtain⟨cs,t,v,vs,h2,h3,OP,hth,em⟩:=key
   refine⟨_,rfl,a,_,1,_,rfl,rfl,aH.of (t1 _ _ h2),au (j:=1) rfl,t,rfl,⟨_,aH.of (t1 _ _ h3)⟩,λDl hD=>?_⟩
   refine cI (xs:=cs.map V.int) (λi σ ys H'=>(∃o,σ=[o,some (.ref b)])/\ys=((cs.take i).map (bu h)).map V.str/\ys.length=i/\H' Dl=some (.lst ys)/\aM H1 H') ⟨⟨none,rfl⟩,rfl,rfl,ag,aj hD _⟩ ?_ ?_ ?_ ?_ ?_
   ·rintro i σ ys H' _ ⟨_,_,hi,h,_⟩
    exact⟨h,V_ hi⟩
   ·rintro i σ ys H' _ ⟨_,_,_,_,sm⟩
    exact aH.of (sm _ _ (t1 _ _ h3))
   ·rw [Vr]; exact Vo OP (by decide)
   ·rintro i v σ ys H' hv ⟨⟨o,rfl⟩,rfl,hi,hh,sm⟩
    rw [VO]at hv
    cases ec:cs[i]? with
    | none=>rw [ec]at hv; cases hv
    | some c =>
     rw [ec]at hv
     have hv:V.int c=v:=VL hv
     subst hv
     refine⟨_,rfl,_,rfl,_,_,rfl,rfl,b,_,_,_,rfl,rfl,aH.of (sm _ _ (t1 _ _ hI.hd)),dJ (hth c (Vy ec)),hh,⟨_,rfl⟩,?_,?_,ag,bt hD sm⟩
     ·rw [take_one ec,Vt,Vt]; rfl
     ·rw [Vs,hi]; rfl
   ·rintro σ ys H' ⟨_,rfl,_,hh,sm⟩
    rw [Vr,V3]at hh
    refine⟨Dl,_,rfl,.inl ⟨a_.of hh,λu hu'=>ak (hT _ _ ⟨u,rfl,?_,?_,t1.trans (sm.trans (aj hu' _))⟩)⟩⟩
    ·rw [em]; exact ag
    ·rw [em,Vr]; exact OP
  ·rw [Hm k]at hT
   exact aG (hT _ _ ⟨b,rfl,t1 _ _ hI.hd,ho.hz,t1⟩)
 rintro σ H1 ⟨b',rfl,hb,Tu,s1⟩
 refine⟨_,rfl,fM,λR hR=>⟨R,_,rfl,.inl (a_.of ag),rfl,rfl,_,rfl,?_⟩⟩
 have t1:=aj hR (.lst [V.str "count",.str "sum",.str "number"])
 have hb:=t1 _ _ hb
 have s2:=s1.trans t1
 revert s2 hb
 generalize upd H1 R (.lst [V.str "count",.str "sum",.str "number"])=H2
 intro hb s2
 refine cJ (λk=>?_) (λk=>aG ?_)
 ·have k:inV (.str x.nm) [V.str "count",.str "sum",.str "number"]=true:=k
  rw [V0 k]at q
  refine⟨_,rfl,dH,λu hu'=>?_⟩
  have su:=aj hu' (.tup [.str "t"])
  exact eT (ys:=["t"]) (su _ _ hb) ag (by show _+1<=_; omega) λt H' s' ht=>q t H' (s2.trans (su.trans s')) ht
 ·have k:¬inV (.str x.nm) [V.str "count",.str "sum",.str "number"]=true:=k
  rw [VZ k]at q
  refine⟨_,rfl,_,rfl,rfl,_,rfl,?_⟩
  rw [bP]
  by_cases e4:x.nm="walk"
  ·rw [V0 e4]at q
   rw [Vq e4]
   refine cp ⟨dH,λu hu'=>?_⟩
   have su:=aj hu' (.tup [.str "w"])
   exact eT (ys:=["w"]) (su _ _ hb) ag (by show _+1<=_; omega) λt H' s' ht=>q t H' (s2.trans (su.trans s')) ht
  ·rw [VZ e4]at q
   rw [Vp e4]
   refine bB ⟨yf,λu hu'=>?_⟩
   have su:=aj hu' (.tup [])
   exact eT (ys:=[]) (su _ _ hb) ag (by show _+0<=_; omega) λt H' s' ht=>q t H' (s2.trans (su.trans s')) ht
theorem cX.up:∀{n:Nat} {H:Hp} {a:Addr} {x:Wk},cX n H a x->cX (n+1) H a x
 | 0,H,a,.one x,h=>h
 | n+1,H,a,.one x,h=>h
 | n+1,H,a,.both p q,h=>by
  obtain⟨b,c,bs,cs,h1,h2,h3⟩:=h
  exact⟨b,c,bs,cs,h1,⟨h2.tup,h2.len,λi a x e1 e2=>(h2.at_ i a x e1 e2).up⟩,⟨h3.tup,h3.len,λi a x e1 e2=>(h3.at_ i a x e1 e2).up⟩⟩
 | n+1,H,a,.meet c d p q,h=>by
  obtain⟨b,e,bs,es,h1,h2,h3⟩:=h
  exact⟨b,e,bs,es,h1,⟨h2.tup,h2.len,λi a x e1 e2=>(h2.at_ i a x e1 e2).up⟩,⟨h3.tup,h3.len,λi a x e1 e2=>(h3.at_ i a x e1 e2).up⟩⟩
abbrev ud(H:Hp)(a:Addr)(f:Fl):Prop:=H a=some (.tup [.bl f.o,.bl f.j,.bl f.f,.bl f.w,.bl f.l])
def FH:Option Str->Str
 | none=>""
 | some s=>s
def EA(n:Nat):Sp:=λvs H Q _=>∃(a b g l:Addr) (x:Wk) (h:Hd) (fl:Fl) (as:List Addr) (es:List Hd),vs=[.ref a,.ref b,.ref g,.ref l]/\uU n H a b l x h as es/\ud H g fl/\BR x/\h.length<=1000/\(∀e∈es,e.length<=1000)/\∀H',aM H H'->Q (.str (FH (fF x fl (lj x h es)))) H'
theorem sF{x:Wk}{f:Fl}(h:x.nm="walk"):jI x f = !f.o:=by
 obtain⟨c,mv,rfl⟩:=zh h
 rfl
theorem Aq{x:Wk}{f:Fl}(h:x.nm≠"walk")(h2:x.nm≠"meet"):jI x f=true:=by
 cases x with
 | one x=>cases x <;> first | rfl | exact VY rfl h
 | both p q=>rfl
 | meet c d p q=>exact VY rfl h2
abbrev lb:Stmt:=top 74
theorem vP:ay ["_law_worker_here","_law_head","_law_flags_here","_law_ends"] ["_law_worker_here","_law_head","_law_flags_here","_law_ends"] (ar lb):=fs
theorem Gf{n:Nat}(B:jH mg)(B2:iW mg)(F:FA K mg "_law_why" lb)
  (l9:bf bc P w K mg base 2 "_law_no_column" ["_law_worker_here","_law_head","_law_ends"] (zD n))
  (pE:bf bc P w K mg base 3 "_law_no_sort" ["_law_worker_here","_law_head","_law_ends"] (vm n))
  (fk:bf bc P w K mg base 2 "_law_head_next" ["_law_worker_here","_law_head","_law_ends"] (JZ n))
  (eK:bf bc P w K mg base 1 "_law_is_one_row" ["_law_worker_here"] (vh n)) :
  bf bc P w K mg base 4 "_law_why" ["_law_worker_here","_law_head","_law_flags_here","_law_ends"] (EA n):=by
 refine F.ok vP λf cdv A outer s H vs Q E hr h=>?_
 have hu:=iD hr
 obtain⟨a,b,g,l,x,h,fl,as,es,rfl,hI,hF,hw,RA,hez,q⟩:=h
 refine⟨_,(aN (fH (av l9 hr (ae (pv 0) (ae (pv 1) (ae (pv 3) ah))))) ao
   (aN (fH (av pE hr (ae (pv 0) (ae (pv 1) (ae (pv 3) ah))))) ao
   (aN (aU gG (bg bA rfl B.len We (ae (av fk hr (ae (pv 0) (ae (pv 1) (ae (pv 3) ah)))) ah)) ai) ao
   (aN (PW.pt (jR (aU aP (az K (pv 0) ai) ao) (gI (fH (az K (pv 2) ai))))) ao
   (aN (PW.pt (jR (aU aP (az K (pv 0) ai) ao) (gI (l_ (fH (bg (iC rfl) rfl B2.all PyProof.Rows.boot_all (ae (bx (N':=["_law_one"]) (src:=[none]) rfl (aZ.jT (by kernel_rfl)) (cQ (aD bZ (az K (pv 0) ai) (az K (pv 0) ai))) (λcl C s H fp=>(eI (i:=0))) (λcl C s H fp=>aX) (te:=(ja (vh n) [] E0 (bq (bD 0) fJ))) (λcl C s H fp=>(av (hg:=yH) eK hr (ae (jd 0) ah)))) ah))))))) ao
   (ax (gq (PW.pt (jR (aU aP (az K (pv 0) ai) ao) (gI (fH (az K (pv 2) ai))))) ao ao))))))),?_⟩
 unfold fF at q
 refine⟨_,rfl,_,rfl,_,rfl,a,b,l,x,h,as,es,rfl,hI,λH1 s1=>⟨_,rfl,?_⟩⟩
 by_cases e1:cV x (lj x h es)=false
 ·rw [e1]
  rw [VZ (by rw [e1]; decide)]at q
  exact cp (q H1 s1)
 have e1:cV x (lj x h es)=true:=by simpa using e1
 rw [e1]
 rw [V0 e1]at q
 refine bB (aG ⟨_,rfl,_,rfl,_,rfl,a,b,l,x,h,as,es,rfl,hI.same s1,e1,λH2 s2=>⟨_,rfl,?_⟩⟩)
 have s12:=s1.trans s2
 by_cases e2:ba x (lj x h es)=false
 ·rw [e2]
  rw [VZ (by rw [e2]; decide)]at q
  exact cp (q H2 s12)
 have e2:ba x (lj x h es)=true:=by simpa using e2
 rw [e2]
 rw [V0 e2]at q
 refine bB (aG ⟨_,rfl,_,rfl,_,rfl,a,b,l,x,h,as,es,rfl,hI.same s12,⟨e1,e2,RA,hez⟩,λu H3 s3 hu'=>?_⟩)
 have qE:=s12.trans s3
 refine⟨u,_,rfl,.inr (aH.of hu'),_,_,rfl,rfl,_,rfl,?_⟩
 rw [Vr]
 by_cases e3:¬(bw x (lj x h es)).length<=6
 ·rw [VZ e3]at q
  rw [Vq (show(6:Int)<((bw x (lj x h es)).length:Nat) by omega)]
  exact cp (q H3 qE)
 have e3:(bw x (lj x h es)).length<=6:=by omega
 rw [V0 e3]at q
 rw [Vp (show¬(6:Int)<((bw x (lj x h es)).length:Nat) by omega)]
 have RE:=hI.same qE
 obtain⟨xs,h1⟩:=RE.wk.first
 have tail:∀H4,aM H3 H4->jI x fl=true->RB (Mw (sq (h_ IM (h_ (uy K) (bD 0) (tC (.int 0))) (tC (.str "must")))) (tB (h_ (uy K) (bD 2) (tC (.int 4))))) (tC (.str "loose")) (tC (.str "")) [some (.ref a),some (.ref b),some (.ref g),some (.ref l)] H4 Q:=by
  intro H4 s4 hr
  have rl:=qE.trans s4
  rw [V0 hr]at q
  refine⟨_,rfl,a,_,0,_,rfl,rfl,aH.of (s4 _ _ h1),au (j:=0) rfl,rfl,_,rfl,?_⟩
  rw [bP,y4]
  cases e5:iK x with
  | false =>
   rw [e5]at q
   exact bB (bB (q H4 rl))
  | true =>
   rw [e5,Bool.true_and]at q
   refine cp ⟨_,rfl,g,_,4,_,rfl,rfl,aH.of (rl _ _ hF),rfl,_,rfl,cJ (λz=>?_) (λz=>?_)⟩
   ·rw [V0 z]at q; exact q H4 rl
   ·rw [VZ z]at q; exact q H4 rl
 refine bB (aG ⟨_,rfl,a,_,0,_,rfl,rfl,aH.of h1,au (j:=0) rfl,rfl,_,rfl,?_⟩)
 rw [bP]
 by_cases e4:x.nm="walk"
 ·rw [Vq e4]
  refine cp ⟨_,rfl,g,_,0,_,rfl,rfl,aH.of (qE _ _ hF),au (j:=0) rfl,_,rfl,cJ (λz=>?_) (λz=>aG ?_)⟩
  ·rw [VZ (by rw [sF e4,z]; decide)]at q
   exact q H3 qE
  ·have hr:jI x fl=true:=by rw [sF e4,VG.mpr z]; rfl
   refine⟨_,rfl,a,_,0,_,rfl,rfl,aH.of h1,au (j:=0) rfl,rfl,_,rfl,?_⟩
   rw [bP,Vp (by rw [e4]; decide +kernel)]
   exact bB (bB (aG (tail H3 (aM.refl _) hr)))
 rw [Vp e4]
 refine bB (bB (aG ⟨_,rfl,a,_,0,_,rfl,rfl,aH.of h1,au (j:=0) rfl,rfl,_,rfl,?_⟩))
 rw [bP]
 by_cases e5:x.nm="meet"
 ·rw [Vq e5]
  obtain⟨c,d,p,q',rfl⟩:=iZ e5
  have ha:=RE.wk
  cases n with
  | zero=>exact V4 ha
  | succ n =>
  obtain⟨b',e',bs,es',h2,hp,hq⟩:=ha
  have hw1:p.length<=1000:=hw p (by simp [dA])
  have hw2:q'.length<=1000:=hw q' (by simp [dA])
  refine cp ⟨_,rfl,a,_,3,_,rfl,rfl,aH.of h2,rfl,_,rfl,a,_,4,_,rfl,rfl,aH.of h2,rfl,b',e',_,_,rfl,rfl,hp.tup,hq.tup,by rw [Vr,Vr,hp.len,hq.len]; exact Vo (show _<=2000 by omega) (by decide),λu4 H4 s4 uR=>⟨u4,rfl,⟨_,aH.of uR⟩,λDl hD=>?_⟩⟩
  rw [←Vt]at uR
  have hlen:((bs++es').map V.ref).length=(p++q').length:=by rw [Vr,Vs,Vs,hp.len,hq.len]
  have hat:∀(i:Nat) v,((bs++es').map V.ref)[i]? = some v->∃a y,v=.ref a/\(p++q')[i]? = some y/\cX n H4 a y:=by
   intro i v hv
   by_cases hi:i<bs.length
   ·rw [Vt,VN (by rw [Vr]; exact hi)]at hv
    obtain⟨a,y,e1,e2,e3⟩:=hp.get hv
    exact⟨a,y,e1,by rw [VN (by rw [←hp.len]; exact hi)]; exact e2,e3.keep (aE.of s4)⟩
   ·have hi:bs.length<=i:=by omega
    rw [Vt,VM (by rw [Vr]; exact hi),Vr]at hv
    obtain⟨a,y,e1,e2,e3⟩:=hq.get hv
    exact⟨a,y,e1,by rw [VM (by rw [←hp.len]; exact hi),←hp.len]; exact e2,e3.keep (aE.of s4)⟩
  refine cI (xs:=(bs++es').map V.ref) (λi σ ys H'=>(∃o,σ=[o])/\ys=(((p++q').take i).map λw=>cF w.nm).map V.bl/\ys.length=i/\H' Dl=some (.lst ys)/\aM H4 H') ⟨⟨none,rfl⟩,rfl,rfl,ag,aj hD _⟩ ?_ ?_ ?_ ?_ ?_
  ·rintro i σ ys H' _ ⟨_,_,hi,h,_⟩
   exact⟨h,V_ hi⟩
  ·rintro i σ ys H' _ ⟨_,_,_,_,sm⟩
   exact aH.of (sm _ _ uR)
  ·rw [hlen,Vs]; exact Vo (show _<=2000 by omega) (by decide)
  ·rintro i v σ ys H' hv ⟨⟨o,rfl⟩,rfl,hi,hh,sm⟩
   obtain⟨a',y,rfl,ey,hy⟩:=hat i v hv
   refine⟨_,rfl,a',y,rfl,(hy.keep (aE.of sm)).up,λH5 s5=>⟨s5 _ _ hh,⟨_,rfl⟩,?_,?_,ag,bt hD (sm.trans s5)⟩⟩
   ·rw [take_one ey,Vt,Vt]; rfl
   ·rw [Vs,hi]; rfl
  ·rintro σ ys H5 ⟨_,rfl,_,hh,sm⟩
   rw [hlen,V3]at hh
   refine⟨Dl,_,rfl,a_.of hh,_,rfl,?_⟩
   have er:((p++q').map λw=>cF w.nm).all id=jI (.meet c d p q') fl:=by rw [List.all_map]; rfl
   rw [er]
   cases z:jI (.meet c d p q') fl with
   | false =>
    rw [z]at q
    exact cp (q H5 (qE.trans (s4.trans sm)))
   | true=>exact bB (aG (tail H5 (s4.trans sm) z))
 ·rw [Vp e5]
  exact bB (bB (aG (tail H3 (aM.refl _) (Aq e4 e5))))
def jo(x:Wk)(h:Hd)(f:Fl):Fl:=⟨f.o || !cF x.nm,f.j||inV (.str x.nm) [.str "walk",.str "both",.str "meet"],f.f||pF (aF x),f.w||pW x.nm,f.l||looseW x h f⟩
def y3(n:Nat):Sp:=λvs H Q _=>∃(a b g:Addr) (x:Wk) (h:Hd) (fl:Fl),vs=[.ref a,.ref b,.ref g]/\cX n H a x/\dF H b h/\ud H g fl/\keepIn x h/\∀(u:Addr) (H':Hp),aM H H'->ud H' u (jo x h fl)->Q (.ref u) H'
theorem w_{x:Wk}{h:Hd}{f:Fl}(h1:x.nm≠"keep")(h2:x.nm≠"first")(h3:x.nm≠"meet"):looseW x h f=false:=by
 match x with
 | .one (.keep _ _)=>exact VY rfl h1
 | .one (.first n)=>exact VY rfl h2
 | .meet ..=>exact VY rfl h3
 | .both ..=>rfl
 | .one (.same ..)=>rfl
 | .one (.cut ..)=>rfl
 | .one (.turn ..)=>rfl
 | .one (.must ..)=>rfl
 | .one (.walk ..)=>rfl
 | .one (.sort ..)=>rfl
 | .one .apart=>rfl
 | .one (.count ..)=>rfl
 | .one (.sum ..)=>rfl
 | .one .number=>rfl
theorem yz{x:Wk}(h:x.nm≠"first"):pF (aF x)=false:=by
 rw [lX h]
 exact Vp h
abbrev i4:Stmt:=top 75
theorem bW:ay ["_law_worker_here","_law_head","_law_flags_here","_law_others","_law_joins","_law_firsts","_law_walks","_law_loose","_law_word_here"] ["_law_worker_here","_law_head","_law_flags_here"] (ar i4):=fs
theorem Cs{n:Nat}(F:FA K mg "_law_flags" i4)
  (eK:bf bc P w K mg base 1 "_law_is_one_row" ["_law_worker_here"] (vh n)) :
  bf bc P w K mg base 2 "_law_flags" ["_law_worker_here","_law_head","_law_flags_here"] (y3 n):=by
 refine F.ok bW λf cdv A outer s H vs Q E hr h=>?_
 have hu:=iD hr
 obtain⟨a,b,g,x,h,fl,rfl,ha,hb,hF,hkp,q⟩:=h
 refine⟨_,(aq (oP (pv 2) (cG rfl (aA (bU (i:=3) bW.nd rfl (V2 rfl)) (aA (bU (i:=4) bW.nd rfl (V2 rfl)) (aA (bU (i:=5) bW.nd rfl (V2 rfl)) (aA (bU (i:=6) bW.nd rfl (V2 rfl)) (aA (bU (i:=7) bW.nd rfl (V2 rfl)) bY)))))))
   (aq (aL (i:=8) bW.nd rfl (V2 rfl) (az K (pv 0) ai))
   (aq (du (aU aP (pv 8) ao)
    (bM (aL (i:=7) bW.nd rfl (V2 rfl) (gc (pv 7) (dc (bT aP (az K (pv 1) (aD bO (az K (pv 0) ai) ai)) ao)))))
    b9)
   (aq (du (PW.pt (jR (aU aP (pv 8) ao) (gI (aU gG (az K (pv 0) ai) ai))))
    (aq (aL (i:=7) bW.nd rfl (V2 rfl) (gc (pv 7) (dc (pv 4))))
     (bM (aL (i:=5) bW.nd rfl (V2 rfl) eE)))
    b9)
   (aq (du (aU aP (pv 8) ao)
    (bM (aL (i:=7) bW.nd rfl (V2 rfl) (gc (pv 7) (gc (pv 6) (dc (pv 5))))))
    b9)
   (ax (aJ (ae (gc (pv 3) (dc (K7 (av eK hr (ae (pv 0) ah))))) (ae (gc (pv 4) (dc (fL cv (pv 8) (aQ (ae ao (ae ao (ae ao ah)))) rfl))) (ae (pv 5) (ae (gc (pv 6) (dc (bT aP (pv 8) ao))) (ae (pv 7) ah)))))))))))),?_⟩
 obtain⟨xs,h1⟩:=ha.first
 refine⟨_,rfl,g,_,rfl,aH.of hF,rfl,_,_,rfl,ak ⟨_,_,rfl,ak ⟨_,_,rfl,ak ⟨_,_,rfl,ak ⟨_,_,rfl,ak ⟨rfl,?_⟩⟩⟩⟩⟩⟩
 dsimp only
 refine⟨_,rfl,a,_,0,_,rfl,rfl,aH.of h1,au (j:=0) rfl,ak ?_⟩
 dsimp only
 have fin:∀(fi lo:Bool),fi=(fl.f||pF (aF x))->lo=(fl.l||looseW x h fl)->Ab (ER (bq (vF (bD 3) (IP (ja (vh n) [] E0 (bq (bD 0) fJ)))) (bq (vF (bD 4) (h_ (Ih K false) (bD 8) (yo (bq (tC (.str "walk")) (bq (tC (.str "both")) (bq (tC (.str "meet")) fJ)))))) (bq (bD 5) (bq (vF (bD 6) (h_ IM (bD 8) (tC (.str "walk")))) (bq (bD 7) fJ)))))) {nx:=λ_ H'=>Q .non H',rt:=Q} [some (.ref a),some (.ref b),some (.ref g),some (.bl fl.o),some (.bl fl.j),some (.bl fi),some (.bl fl.w),some (.bl lo),some (.str x.nm)] H:=by
  rintro fi lo rfl rfl
  have q:∀(u:Addr) (H':Hp),aM H H'->H' u=some (.tup [.bl (fl.o || !cF x.nm),.bl (fl.j||inV (.str x.nm) [.str "walk",.str "both",.str "meet"]),.bl (fl.f||pF (aF x)),.bl (fl.w||pW x.nm),.bl (fl.l||looseW x h fl)])->Q (.ref u) H':=q
  have last:∀(o:Bool),o=(fl.o || !cF x.nm)->∀H1,aM H H1->bq (vF (bD 4) (h_ (Ih K false) (bD 8) (yo (bq (tC (.str "walk")) (bq (tC (.str "both")) (bq (tC (.str "meet")) fJ)))))) (bq (bD 5) (bq (vF (bD 6) (h_ IM (bD 8) (tC (.str "walk")))) (bq (bD 7) fJ))) [some (.ref a),some (.ref b),some (.ref g),some (.bl fl.o),some (.bl fl.j),some (.bl (fl.f||pF (aF x))),some (.bl fl.w),some (.bl (fl.l||looseW x h fl)),some (.str x.nm)] H1 (λvs H2=>(.bl o::vs).length<=sizeLine/\∀u,H2 u=none->Q (.ref u) (upd H2 u (.tup (.bl o::vs)))):=by
   rintro o rfl H1 s1
   have lst:∀(j:Bool),j=(fl.j||inV (.str x.nm) [.str "walk",.str "both",.str "meet"])->∀H2,aM H H2->bq (bD 5) (bq (vF (bD 6) (h_ IM (bD 8) (tC (.str "walk")))) (bq (bD 7) fJ)) [some (.ref a),some (.ref b),some (.ref g),some (.bl fl.o),some (.bl fl.j),some (.bl (fl.f||pF (aF x))),some (.bl fl.w),some (.bl (fl.l||looseW x h fl)),some (.str x.nm)] H2 (λvs H3=>(V.bl (fl.o || !cF x.nm) :: .bl j::vs).length<=sizeLine/\∀u,H3 u=none->Q (.ref u) (upd H3 u (.tup (.bl (fl.o || !cF x.nm) :: .bl j::vs)))):=by
    rintro j rfl H2 s2
    refine⟨_,rfl,_,rfl,_,rfl,cJ (λz=>?_) (λz=>?_)⟩
    ·refine⟨_,rfl,uJ,λu hu'=>q u _ (s2.trans (aj hu' _)) ?_⟩
     rw [ag,z]; rfl
    ·refine⟨_,rfl,rfl,_,rfl,uJ,λu hu'=>q u _ (s2.trans (aj hu' _)) ?_⟩
     rw [ag,VG.mpr z,bP]; rfl
   refine⟨_,rfl,_,rfl,cJ (λz=>?_) (λz=>?_)⟩
   ·exact lst true (by rw [z]; rfl) H1 s1
   ·refine⟨_,rfl,fM,λR hR=>⟨R,_,rfl,.inl (a_.of ag),rfl,rfl,?_⟩⟩
    exact lst _ (by rw [VG.mpr z]; rfl) _ (s1.trans (aj hR _))
  refine⟨_,rfl,_,rfl,cJ (λz=>?_) (λz=>?_)⟩
  ·exact last true (by rw [z]; rfl) H (aM.refl _)
  ·exact⟨_,rfl,a,x,rfl,ha,λH1 s1=>⟨_,rfl,last _ (by rw [VG.mpr z]; rfl) H1 s1⟩⟩
 refine⟨_,rfl,rfl,_,rfl,?_⟩
 rw [bP]
 by_cases e1:x.nm="keep"
 ·rw [Vq e1]
  obtain⟨c,t,rfl⟩:=sZ e1
  obtain⟨st,ys,hk1,hk2⟩:=cb.mp ha
  refine cp ?_
  refine⟨_,rfl,_,rfl,cJ (λz=>?_) (λz=>?_)⟩
  ·refine ak ?_
   dsimp only
   refine⟨_,rfl,rfl,_,rfl,?_⟩
   rw [bP,Vp (by simp only [Wk.nm,W1.nm]; decide +kernel)]
   refine bB (bB (aG ⟨_,rfl,rfl,_,rfl,?_⟩))
   rw [bP,Vp (by simp only [Wk.nm,W1.nm]; decide +kernel)]
   exact bB (aG (fin _ true (by rw [yz (by simp only [Wk.nm,W1.nm]; decide +kernel),Bool.or_false]) (by rw [z]; rfl)))
  ·refine⟨_,rfl,_,rfl,a,_,1,_,rfl,rfl,aH.of hk1,rfl,_,_,rfl,rfl,b,_,_,_,rfl,rfl,aH.of hb,dJ (hkp c t rfl),rfl,ak ?_⟩
   dsimp only
   generalize hlo:decide (V.str (bu h c)=V.str "t")=lo
   refine⟨_,rfl,rfl,_,rfl,?_⟩
   rw [bP,Vp (by simp only [Wk.nm,W1.nm]; decide +kernel)]
   refine bB (bB (aG ⟨_,rfl,rfl,_,rfl,?_⟩))
   rw [bP,Vp (by simp only [Wk.nm,W1.nm]; decide +kernel)]
   exact bB (aG (fin _ _ (by rw [yz (by simp only [Wk.nm,W1.nm]; decide +kernel),Bool.or_false]) (by rw [VG.mpr z,Bool.false_or,←hlo,bP]; rfl)))
 rw [Vp e1]
 refine bB (aG ⟨_,rfl,rfl,_,rfl,?_⟩)
 rw [bP]
 by_cases e2:x.nm="first"
 ·rw [Vq e2]
  obtain⟨m,rfl⟩:=lx e2
  have h2:H a=some (.tup [.str "first",.int m]):=cb.mp ha
  refine cp ⟨_,rfl,a,_,1,_,rfl,rfl,aH.of h2,rfl,_,_,rfl,rfl,_,rfl,?_⟩
  by_cases e3:m<=0
  ·rw [Vp (show¬(0:Int)<m by omega)]
   refine bB (aG ⟨_,rfl,rfl,_,rfl,?_⟩)
   rw [bP,Vp (by simp only [Wk.nm,W1.nm]; decide +kernel)]
   refine bB (aG (fin _ _ ?_ ?_))
   ·show fl.f=(fl.f||pF (if m<=0 then "first 0" else "first"))
    rw [V0 e3,show pF "first 0"=false by decide +kernel,Bool.or_false]
   ·show fl.l=(fl.l||(decide (¬m<=0)&&fl.j))
    rw [Vp (λz=>z e3),Bool.false_and,Bool.or_false]
  ·rw [Vq (show(0:Int)<m by omega)]
   have hf1:true=(fl.f||pF (if m<=0 then "first 0" else "first")):=by
    rw [VZ e3,show pF "first"=true by decide +kernel,Bool.or_true]
   have hl1:(fl.l||(decide (¬m<=0)&&fl.j))=(fl.l||fl.j):=by rw [Vq e3,Bool.true_and]
   refine cp ⟨_,rfl,_,rfl,cJ (λz=>?_) (λz=>?_)⟩
   ·refine ak ?_
    dsimp only
    refine ak ?_
    dsimp only
    refine⟨_,rfl,rfl,_,rfl,?_⟩
    rw [bP,Vp (by simp only [Wk.nm,W1.nm]; decide +kernel)]
    exact bB (aG (fin _ true hf1 (by show true=(fl.l||(decide (¬m<=0)&&fl.j)); rw [z]; rfl)))
   ·refine⟨_,rfl,ak ?_⟩
    dsimp only
    refine ak ?_
    dsimp only
    refine⟨_,rfl,rfl,_,rfl,?_⟩
    rw [bP,Vp (by simp only [Wk.nm,W1.nm]; decide +kernel)]
    exact bB (aG (fin _ _ hf1 (by show fl.j=(fl.l||(decide (¬m<=0)&&fl.j)); rw [hl1,VG.mpr z]; rfl)))
 rw [Vp e2]
 refine bB (bB (aG ⟨_,rfl,rfl,_,rfl,?_⟩))
 rw [bP]
 have hf2:fl.f=(fl.f||pF (aF x)):=by rw [yz e2,Bool.or_false]
 by_cases e3:x.nm="meet"
 ·rw [Vq e3]
  obtain⟨c,d,p,q',rfl⟩:=iZ e3
  refine cp ⟨_,rfl,_,rfl,cJ (λz=>?_) (λz=>⟨_,rfl,_,rfl,cJ (λz2=>?_) (λz2=>⟨_,rfl,?_⟩)⟩)⟩
  ·refine ak ?_
   dsimp only
   exact fin _ true hf2 (by rw [z]; rfl)
  ·refine ak ?_
   dsimp only
   exact fin _ true hf2 (by show true=(fl.l||(fl.w||fl.f)); rw [z2,Bool.true_or,Bool.or_true])
  ·refine ak ?_
   dsimp only
   exact fin _ fl.f hf2 (by show fl.f=(fl.l||(fl.w||fl.f)); rw [VG.mpr z,VG.mpr z2,Bool.false_or,Bool.false_or])
 ·rw [Vp e3]
  exact bB (aG (fin _ _ hf2 (by rw [w_ e1 e2 e3,Bool.or_false])))
def Hw(a b:Fl):Fl:=⟨a.o||b.o,a.j||b.j,a.f||b.f,a.w||b.w,a.l||b.l⟩
def mK(x:Wk)(h:Hd)(f:Fl)(pl:List Int)(es:List Hd)(a:Fl):Res:=match fF x f (lj x h es)with
 | some s=>.no pl s
 | none=>.ok (bw x (lj x h es)) (jo x h a)
def vi(step:Hd->Fl->List Int->Wk->Res)(x:Wk)(h:Hd)(f:Fl)(pl:List Int):List (List Wk)->Nat->List Hd->Fl->Res
 | [],_,es,a=>mK x h f pl es a
 | p::ps,j,es,a=>bK (putL step (pl++[(j:Int)]) 0 h f p) λh' f'=>vi step x h f pl ps (j+1) (es++[h']) (Hw a f')
def zk:Nat->Hd->Fl->List Int->Wk->Res
 | 0,h,f,pl,x=>eW x h f pl [(h,f)]
 | n+1,h,f,pl,x=>match x with
  | .one _=>mK x h f pl [] f
  | _=>vi (zk n) x h f pl (dA x) 0 [] f
def ik(f g:Fl):Prop:=(f.o=true->g.o=true)/\(f.j=true->g.j=true)/\(f.f=true->g.f=true)/\(f.w=true->g.w=true)/\(f.l=true->g.l=true)
theorem ik.refl{f:Fl}:ik f f:=⟨id,id,id,id,id⟩
theorem ik.trans{f g h:Fl}(a:ik f g)(b:ik g h):ik f h:=⟨b.1∘a.1,b.2.1∘a.2.1,b.2.2.1∘a.2.2.1,b.2.2.2.1∘a.2.2.2.1,b.2.2.2.2∘a.2.2.2.2⟩
theorem x6{x:Wk}{h:Hd}{f g:Fl}{fs:List Fl}(hm:g∈fs):ik g (Ag x h f fs):=by
 have a:∀p:Fl->Bool,p g=true->fs.any p=true:=λp e=>List.any_eq_true.mpr ⟨g,hm,e⟩
 refine⟨λe=>?_,λe=>?_,λe=>?_,λe=>?_,λe=>?_⟩
 ·show(fs.any _||_)=true; rw [a (λg=>g.o) e]; rfl
 ·show(fs.any _||_)=true; rw [a (λg=>g.j) e]; rfl
 ·show(fs.any _||_)=true; rw [a (λg=>g.f) e]; rfl
 ·show(fs.any _||_)=true; rw [a (λg=>g.w) e]; rfl
 ·show(_||fs.any _)=true; rw [a (λg=>g.l) e,Bool.or_true]
theorem tY{x:Wk}{h h':Hd}{f f':Fl}{pl:List Int}{es:List (Hd×Fl)}(e:eW x h f pl es=.ok h' f'):f'=Ag x h f (es.map λe=>e.2)/\fF x f (es.map λe=>e.1)=none:=by
 unfold eW at e
 split at e
 ·cases e
 ·next hn=>cases e; exact⟨rfl,hn⟩
theorem dQ{r:Res}{g:Hd->Fl->Res}{h':Hd}{f':Fl}(e:bK r g=.ok h' f'):∃h1 f1,r=.ok h1 f1/\g h1 f1=.ok h' f':=by
 cases r with
 | ok h f=>exact⟨h,f,rfl,e⟩
 | no a s=>cases e
theorem sN{step:Hd->Fl->List Int->Wk->Res}(hs:∀h f pl x h' f',step h f pl x=.ok h' f'->ik f f'){pl:List Int}:∀{ws:List Wk} {i:Nat} {h:Hd} {f:Fl} {h':Hd} {f':Fl},putL step pl i h f ws=.ok h' f'->ik f f'
 | [],_,_,_,_,_,e=>by cases e; exact ik.refl
 | x::ws,i,h,f,h',f',e=>by
  obtain⟨h1,f1,e1,e2⟩:=dQ e
  exact(hs _ _ _ _ _ _ e1).trans (sN hs e2)
theorem sO{x:Wk}(h:ck x=true):∃p q,dA x=[p,q]:=by
 cases x with
 | one x=>cases h
 | both p q=>exact⟨p,q,rfl⟩
 | meet c d p q=>exact⟨p,q,rfl⟩
theorem zd:∀(n:Nat) (h:Hd) (f:Fl) (pl:List Int) (x:Wk) (h':Hd) (f':Fl),bC n h f pl x=.ok h' f'->ik f f'
 | 0,h,f,pl,x,h',f',e=>by
  rw [(tY e).1]
  exact x6 (by simp)
 | n+1,h,f,pl,x,h',f',e=>by
  cases hb:ck x with
  | false =>
   rw [iQ hb]at e
   rw [(tY e).1]
   exact x6 (by simp)
  | true =>
   rw [oo hb]at e
   obtain⟨p,q,hpq⟩:=sO hb
   rw [hpq]at e
   obtain⟨h1,f1,e1,e⟩:=dQ e
   obtain⟨h2,f2,e2,e⟩:=dQ e
   rw [(tY e).1]
   exact(sN (zd n) e1).trans (x6 (by simp))
theorem Bu{x:Wk}(h:cF x.nm=true):ck x=false/\pW (aF x)=false/\pF (aF x)=false:=by
 revert h
 cases x with
 | one x=>cases x <;> simp only [Wk.nm,W1.nm] <;> intro h <;> first | exact VY h (by decide +kernel) | exact⟨rfl,by simp only [aF,Wk.nm,W1.nm]; decide +kernel,by simp only [aF,Wk.nm,W1.nm]; decide +kernel⟩
 | both p q=>simp only [Wk.nm]; intro h; exact VY h (by decide +kernel)
 | meet c d p q=>simp only [Wk.nm]; intro h; exact VY h (by decide +kernel)
theorem qD{n:Nat}{pl:List Int}:∀{ws:List Wk} {i:Nat} {h:Hd} {f:Fl} {h':Hd} {f':Fl},(∀x∈ws,cF x.nm=true)->putL (bC n) pl i h f ws=.ok h' f'->f'.w=f.w/\f'.f=f.f
 | [],_,_,_,_,_,_,e=>by cases e; exact⟨rfl,rfl⟩
 | x::ws,i,h,f,h',f',ho,e=>by
  obtain⟨h1,f1,e1,e2⟩:=dQ e
  obtain⟨a,b⟩:=qD (λy hy=>ho y (by simp [hy])) e2
  obtain⟨o1,o2,o3⟩:=Bu (ho x (by simp))
  rw [iQ o1]at e1
  rw [a,b,(tY e1).1]
  refine⟨?_,?_⟩
  ·show(([f].any λg=>g.w)||pW (aF x))=f.w
   rw [o2]; simp
  ·show(([f].any λg=>g.f)||pF (aF x))=f.f
   rw [o3]; simp
theorem wz(x:Wk):pO (aF x)=(!cF x.nm)/\pJ (aF x)=inV (.str x.nm) [.str "walk",.str "both",.str "meet"]/\pW (aF x)=pW x.nm:=by
 by_cases h:x.nm="first"
 ·obtain⟨n,rfl⟩:=lx h
  show pO (if n<=0 then "first 0" else "first")=_/\pJ (if n<=0 then "first 0" else "first")=_/\pW (if n<=0 then "first 0" else "first")=_
  simp only [Wk.nm,W1.nm]
  split <;> (refine⟨?_,?_,?_⟩ <;> decide +kernel)
 ·rw [lX h]
  refine⟨rfl,?_,rfl⟩
  unfold pJ inV
  simp only [Wd,List.any_nil,Bool.or_false,ua]
  rw [Bool.or_assoc]
theorem zM{x:Wk}{h:Hd}{f:Fl}{pl:List Int}(hb:ck x=false):mK x h f pl [] f=eW x h f pl [(h,f)]:=by
 have eh:lj x h []=[h]:=by unfold lj; rw [hb]; rfl
 obtain⟨n1,n2,n3⟩:=wz x
 have ef:jo x h f=Ag x h f [f]:=by
  unfold jo Ag
  simp only [Wd,List.any_nil,Bool.or_false,n1,n2,n3]
  rw [Bool.or_comm f.l]
 unfold mK eW
 rw [eh,ef]
 simp only [Wb,List.map_nil]
 first | done | (cases fF x f [h] <;> rfl)
theorem or3{a b c:Bool}(h:a=true->b=true):(a||b||c)=(b||c):=by
 cases a <;> cases b <;> simp_all
theorem Fo{n:Nat}{x:Wk}{h h1 h2:Hd}{f f1 f2:Fl}{pl p1 p2:List Int}{p q:List Wk}(hb:ck x=true)(hpq:dA x=[p,q])(e1:putL (bC n) p1 0 h f p=.ok h1 f1)(e2:putL (bC n) p2 0 h f q=.ok h2 f2) :
  mK x h f pl [h1,h2] (Hw (Hw f f1) f2)=eW x h f pl [(h1,f1),(h2,f2)]:=by
 have eh:lj x h [h1,h2]=[h1,h2]:=by unfold lj; rw [hb]; rfl
 have l1:=sN (zd n) e1
 obtain⟨n1,n2,n3⟩:=wz x
 unfold mK eW
 rw [eh]
 simp only [Wb,List.map_nil]
 cases ew:fF x f [h1,h2]with
 | some s=>rfl
 | none =>
  have ef:jo x h (Hw (Hw f f1) f2)=Ag x h f [f1,f2]:=by
   unfold jo Ag Hw
   simp only [Wd,List.any_nil,Bool.or_false,n1,n2,n3]
   rw [or3 l1.1,or3 l1.2.1,or3 l1.2.2.1,or3 l1.2.2.2.1,or3 l1.2.2.2.2]
   congr 1
   cases x with
   | one x=>cases hb
   | both a b=>rw [Bool.or_comm]; rfl
   | meet c d a b =>
    cases hpq
    have hr:(p++q).all (λw=>cF w.nm)=true:=by
     unfold fF at ew
     split at ew
     ·split at ew
      ·split at ew
       ·split at ew
        ·assumption
        ·cases ew
       ·cases ew
      ·cases ew
     ·cases ew
    rw [List.all_append,VW,List.all_eq_true,List.all_eq_true]at hr
    obtain⟨a1,a2⟩:=qD hr.1 e1
    obtain⟨b1,b2⟩:=qD hr.2 e2
    show((f1.l||f2.l)||((f1.w||f2.w)||(f1.f||f2.f)))=((f.w||f.f)||(f1.l||f2.l))
    rw [a1,a2,b1,b2,Bool.or_self,Bool.or_self,Bool.or_comm]
  rw [ef]
theorem xM:∀n:Nat,zk n=bC n
 | 0=>by
  funext h f pl x
  rfl
 | n+1=>by
  funext h f pl x
  cases hb:ck x with
  | false =>
   rw [iQ hb,←zM hb]
   cases x with
   | one x=>rfl
   | both a b=>cases hb
   | meet c d a b=>cases hb
  | true =>
   rw [oo hb]
   obtain⟨p,q,hpq⟩:=sO hb
   have hl:zk (n+1) h f pl x=vi (zk n) x h f pl (dA x) 0 [] f:=by
    cases x with
    | one x=>cases hb
    | both a b=>rfl
    | meet c d a b=>rfl
   rw [hl,hpq,xM n]
   show bK (putL (bC n) (pl++[((0:Nat):Int)]) 0 h f p) (λh' f'=>bK (putL (bC n) (pl++[((1:Nat):Int)]) 0 h f q) λh'' O5=>mK x h f pl [h',h''] (Hw (Hw f f') O5))=bK (putL (bC n) (pl++[((0:Nat):Int)]) 0 h f p) (λh' f'=>bK (putL (bC n) (pl++[((1:Nat):Int)]) 0 h f q) λh'' O5=>eW x h f pl [(h',f'),(h'',O5)])
   cases e1:putL (bC n) (pl++[((0:Nat):Int)]) 0 h f p with
   | no a s=>rfl
   | ok h1 f1 =>
    show bK _ _=bK _ _
    cases e2:putL (bC n) (pl++[((1:Nat):Int)]) 0 h f q with
    | no a s=>rfl
    | ok h2 f2=>exact Fo hb hpq e1 e2
end My
namespace L2
open PySem PySem.Spec PyProof.Rows
section
variable{prog:Program}{w:World}{A:Around}{E:Value->Shared->Prop}{s:Shared}
theorem z_{z TI TO i1 i2 l1 l2:Addr}{k:Nat}{xs ys:Array Value}{x y a b:Value}{Q:Value->Shared->Prop}(D:ZipApart z TI TO i1 i2 l1 l2)
  (hz:IsZip s.heap z TI TO .none) (hTI:IsPair s.heap TI (.ref i1) (.ref i2)) (hTO:IsPair s.heap TO a b)
  (h1:s.heap.IsTupleIter i1 l1 k) (h2:s.heap.IsTupleIter i2 l2 k) (hl1:s.heap.IsTuple l1 xs) (hl2:s.heap.IsTuple l2 ys) (hx:xs[k]? = some x) (hy:ys[k]? = some y)
  (hQ:∀h',IsZip h' z TI TO (rawInt s.heap.objs.size)->IsPair h' TO x y->h'.IsTupleIter i1 l1 (k+1)->h'.IsTupleIter i2 l2 (k+1)->IsPair h' s.heap.objs.size x y->h'.objs.size=s.heap.objs.size+1->
   (∀c o,c≠z->c≠TO->c≠i1->c≠i2->s.heap.get? c=some o->h'.get? c=some o)->Q (.ref s.heap.objs.size) {s with heap:=h'}) :
  wpAny (model prog w) A (Builtin.«zip.__next__» ⟨[.ref z],[]⟩) (λfin s'=>∃v,fin=.done (.ret v)/\Q v s') E s:=by
 show wpAny _ _ (field (.ref z) 2 >>= _) _ _ _
 refine Vi (wpAny_field hz rfl (x:=.bool false) rfl ?_)
 show wpAny _ _ (field (.ref z) 3 >>= _) _ _ _
 refine Vi (wpAny_field hz rfl (x:=.ref TI) rfl ?_)
 refine Vi (wpAny_seqItems hTI rfl ?_)
 show wpAny _ _ (Builtin.SmallTypes.ownedTupleIsFree (.ref z) >>= _) _ _ _
 refine Vi ?_
 unfold Builtin.SmallTypes.ownedTupleIsFree
 refine Vi (wpAny_field hz rfl (x:=.none) rfl (Vj ?_))
 simp only [if_true]
 refine Vi (wpAny_rule ?_)
 refine Vi (wpAny_field hz rfl (x:=.ref TO) rfl ?_)
 refine Vi (wpAny_setField_rec hz (by simp) λg1 z1 s1=>?_)
 replace z1:IsZip g1 z TI TO .ellipsis:=z1
 refine Vi ?_
 simp only [List.zipIdx_cons,List.zipIdx_nil,List.forIn_cons,List.forIn_nil]
 refine Vi (Vi (wpAny_onRaise ?_))
 show wpAny _ _ (Builtin.SmallTypes.nextOf (.ref i1) >>= _) _ _ _
 refine Vi (kD (h1.extBut s1.extBut D.i1z) (hl1.extBut s1.extBut D.l1z) hx λg2 a2 s2=>Vj ?_)
 have p2:IsPair g2 TO a b:=s2.extBut _ _ D.TOi1 (s1.extBut _ _ D.TOz hTO)
 refine Vi (wpAny_seqItems p2 rfl (Vi (wpAny_updateSeq_pair p2 λg3 p3 s3=>Vi (wpAny_letGo (Vj ?_)))))
 replace p3:IsPair g3 TO x b:=p3
 refine Vi (Vi (wpAny_onRaise ?_))
 show wpAny _ _ (Builtin.SmallTypes.nextOf (.ref i2) >>= _) _ _ _
 refine Vi (kD (((h2.extBut s1.extBut D.i2z).extBut s2.extBut D.i12.symm).extBut s3.extBut D.TOi2.symm) (((hl2.extBut s1.extBut D.l2z).extBut s2.extBut D.l2i1).extBut s3.extBut D.l2TO) hy λg4 a4 s4=>Vj ?_)
 have p4:IsPair g4 TO x b:=s4.extBut _ _ D.TOi2 p3
 refine Vi (wpAny_seqItems p4 rfl (Vi (wpAny_updateSeq_pair p4 λg5 p5 s5=>Vi (wpAny_letGo (Vj (Vj ?_))))))
 replace p5:IsPair g5 TO x y:=p5
 refine Vi (wpAny_seqItems p5 rfl (Vi (wpAny_newTuple ?_)))
 have hsz:g5.objs.size=s.heap.objs.size:=by rw [s5.1,s4.1,s3.1,s2.1,s1.1]
 have z5:IsZip g5 z TI TO .ellipsis:=s5.extBut _ _ D.TOz.symm (s4.extBut _ _ D.i2z.symm (s3.extBut _ _ D.TOz.symm (s2.extBut _ _ D.i1z.symm z1)))
 have k5:∀c o,c≠z->c≠TO->c≠i1->c≠i2->s.heap.get? c=some o->g5.get? c=some o:=λc o c1 c2 c3 c4 e=>s5.extBut _ _ c2 (s4.extBut _ _ c4 (s3.extBut _ _ c2 (s2.extBut _ _ c3 (s1.extBut _ _ c1 e))))
 have b1:g5.IsTupleIter i1 l1 (k+1):=((a2.extBut s3.extBut D.TOi1.symm).extBut s4.extBut D.i12).extBut s5.extBut D.TOi1.symm
 have b2:g5.IsTupleIter i2 l2 (k+1):=a4.extBut s5.extBut D.TOi2.symm
 have Mp:z<g5.objs.size:=Vl z5
 show wpAny _ _ (Builtin.SmallTypes.ownedTupleHandOut (.ref z) (.ref g5.objs.size) >>= _) _ _ _
 refine Vi ?_
 unfold Builtin.SmallTypes.ownedTupleHandOut
 have z6:IsZip (g5.push {cls:=.type "tuple",data:=.seq #[x,y]}) z TI TO .ellipsis:=Vk _ z5
 refine Vi (wpAny_setField_rec z6 (by simp) λg7 z7 s7=>?_)
 replace z7:IsZip g7 z TI TO (rawInt g5.objs.size):=z7
 refine wpAny_setField_rec z7 (by simp) λg8 z8 s8=>?_
 replace z8:IsZip g8 z TI TO (rawInt g5.objs.size):=z8
 have up:∀c o,c≠z->g5.get? c=some o->g8.get? c=some o:=λc o c1 e=>s8.extBut _ _ c1 (s7.extBut _ _ c1 (Vk _ e))
 have t8:IsPair g8 g5.objs.size x y:=s8.extBut _ _ (Nat.ne_of_gt Mp) (s7.extBut _ _ (Nat.ne_of_gt Mp) (Vm _ rfl))
 have n8:g8.objs.size=g5.objs.size+1:=by rw [s8.1,s7.1,Heap.size_push]
 rw [hsz]at z8 t8 n8
 refine Vj ⟨_,rfl,?_⟩
 show Q (.ref g5.objs.size) _
 rw [hsz]
 exact hQ g8 z8 (up _ _ D.TOz p5) (b1.at λo e=>up _ o D.i1z e) (b2.at λo e=>up _ o D.i2z e) t8 n8 λc o c1 c2 c3 c4 e=>up c o c1 (k5 c o c1 c2 c3 c4 e)
theorem Du{z TI TO i1 i2 l1 l2:Addr}{k:Nat}{xs:Array Value}{Q:Fin->Shared->Prop}(hh:A.handled=none)(D:ZipApart z TI TO i1 i2 l1 l2)
  (hz:IsZip s.heap z TI TO .none) (hTI:IsPair s.heap TI (.ref i1) (.ref i2)) (h1:s.heap.IsTupleIter i1 l1 k) (hl1:s.heap.IsTuple l1 xs) (hx:xs[k]? = none)
  (hE:∀h' e,(∀c o,c≠z->c≠i1->s.heap.get? c=some o->h'.get? c=some o)->(∃o,h'.get? e=some o/\o.cls=.type "StopIteration")->E (.ref e) {s with heap:=h'}) :
  wpAny (model prog w) A (Builtin.«zip.__next__» ⟨[.ref z],[]⟩) Q E s:=by
 show wpAny _ _ (field (.ref z) 2 >>= _) _ _ _
 refine Vi (wpAny_field hz rfl (x:=.bool false) rfl ?_)
 show wpAny _ _ (field (.ref z) 3 >>= _) _ _ _
 refine Vi (wpAny_field hz rfl (x:=.ref TI) rfl ?_)
 refine Vi (wpAny_seqItems hTI rfl ?_)
 show wpAny _ _ (Builtin.SmallTypes.ownedTupleIsFree (.ref z) >>= _) _ _ _
 refine Vi ?_
 unfold Builtin.SmallTypes.ownedTupleIsFree
 refine Vi (wpAny_field hz rfl (x:=.none) rfl (Vj ?_))
 simp only [if_true]
 refine Vi (wpAny_rule ?_)
 refine Vi (wpAny_field hz rfl (x:=.ref TO) rfl ?_)
 refine Vi (wpAny_setField_rec hz (by simp) λg1 z1 s1=>?_)
 replace z1:IsZip g1 z TI TO .ellipsis:=z1
 refine Vi ?_
 simp only [List.zipIdx_cons,List.zipIdx_nil,List.forIn_cons,List.forIn_nil]
 refine Vi (Vi (wpAny_onRaise ?_))
 show wpAny _ _ (Builtin.SmallTypes.nextOf (.ref i1) >>= _) _ _ _
 refine Vi (fW hh (h1.extBut s1.extBut D.i1z) (hl1.extBut s1.extBut D.l1z) hx λg2 e s2 he=>?_)
 obtain⟨oe,hoe,hce⟩:=he
 have z2:IsZip g2 z TI TO .ellipsis:=s2 _ _ D.i1z.symm z1
 have ez:e≠z:=λx=>by subst x; rw [z2]at hoe; cases hoe; simp at hce
 exact wpAny_setField_rec z2 (by simp) λg3 _ s3=>hE g3 e (λc o c1 c3 x=>s3.extBut _ _ c1 (s2 _ _ c3 (s1.extBut _ _ c1 x))) ⟨oe,s3.extBut _ _ ez hoe,hce⟩
theorem pL{z TI TO i1 i2 l1 l2:Addr}{k:Nat}{xs ys:Array Value}{x y a b:Value}{Q:Option Value->Shared->Prop}(D:ZipApart z TI TO i1 i2 l1 l2)
  (hz:IsZip s.heap z TI TO .none) (hTI:IsPair s.heap TI (.ref i1) (.ref i2)) (hTO:IsPair s.heap TO a b)
  (h1:s.heap.IsTupleIter i1 l1 k) (h2:s.heap.IsTupleIter i2 l2 k) (hl1:s.heap.IsTuple l1 xs) (hl2:s.heap.IsTuple l2 ys) (hx:xs[k]? = some x) (hy:ys[k]? = some y)
  (hQ:∀h',IsZip h' z TI TO (rawInt s.heap.objs.size)->IsPair h' TO x y->h'.IsTupleIter i1 l1 (k+1)->h'.IsTupleIter i2 l2 (k+1)->IsPair h' s.heap.objs.size x y->h'.objs.size=s.heap.objs.size+1->
   (∀c o,c≠z->c≠TO->c≠i1->c≠i2->s.heap.get? c=some o->h'.get? c=some o)->Q (some (.ref s.heap.objs.size)) {s with heap:=h'}) :
  wpAny (model prog w) A (pyNext (.ref z)) Q E s:=by
 have hT:s.TypeIs (.ref z) "zip":=⟨_,hz,rfl⟩
 unfold pyNext
 exact Vi (wpAny_attempt (wpAny_callSpecial?_slot (name:=Str.ofString "__next__") hT F.slot_zip_next
  (V9 F.slot_zip_next hT F.entry_zip_next (z_ D hz hTI hTO h1 h2 hl1 hl2 hx hy λh' a1 a2 a3 a4 a5 a6 a7=>Vj (hQ h' a1 a2 a3 a4 a5 a6 a7)) (F.args_zip_next_1 _))))
theorem qQ{z TI TO i1 i2 l1 l2:Addr}{k:Nat}{xs:Array Value}{Q:Option Value->Shared->Prop}(hh:A.handled=none)(D:ZipApart z TI TO i1 i2 l1 l2)
  (hz:IsZip s.heap z TI TO .none) (hTI:IsPair s.heap TI (.ref i1) (.ref i2)) (h1:s.heap.IsTupleIter i1 l1 k) (hl1:s.heap.IsTuple l1 xs) (hx:xs[k]? = none)
  (hQ:∀h',(∀c o,c≠z->c≠i1->s.heap.get? c=some o->h'.get? c=some o)->Q none {s with heap:=h'}):wpAny (model prog w) A (pyNext (.ref z)) Q E s:=by
 have hT:s.TypeIs (.ref z) "zip":=⟨_,hz,rfl⟩
 unfold pyNext
 refine Vi (wpAny_attempt (wpAny_callSpecial?_slot (name:=Str.ofString "__next__") hT F.slot_zip_next
  (V9 F.slot_zip_next hT F.entry_zip_next (Du hh D hz hTI h1 hl1 hx λh' e hk he=>?_) (F.args_zip_next_1 _))))
 obtain⟨o,ho,hc⟩:=he
 exact Vi (wpAny_isInstance (T:="StopIteration") (b:=true) ⟨o,ho,hc⟩ isSubtype_stop (Vj (hQ _ hk)))
abbrev NP(h:Heap)(l1:Addr):Heap:=h.push {cls:=.type "tuple_iterator",data:=.fields #[.ref l1,.int 0 0]}
abbrev Og(h:Heap)(l1 l2:Addr):Heap:=(NP h l1).push {cls:=.type "tuple_iterator",data:=.fields #[.ref l2,.int 0 0]}
abbrev NX(h:Heap)(l1 l2:Addr):Heap:=(Og h l1 l2).push {cls:=.type "tuple",data:=.seq #[.ref h.objs.size,.ref (NP h l1).objs.size]}
abbrev Oo(h:Heap)(l1 l2:Addr):Heap:=(NX h l1 l2).push {cls:=.type "tuple",data:=.seq #[.none,.none]}
abbrev K6(h:Heap)(l1 l2:Addr):Heap:=(Oo h l1 l2).push {cls:=.type "zip",data:=.fields #[.none,.bool false,.bool false,.ref (Og h l1 l2).objs.size,.ref (NX h l1 l2).objs.size]}
theorem xx(l1 l2:Addr)(xs ys:Array Value):Meets (Builtin.«zip.__new__» ⟨[.type "zip",.ref l1,.ref l2],[]⟩) (λ_ R s=>s.heap.IsTuple l1 xs/\s.heap.IsTuple l2 ys/\R (.ok (.ret (.ref (Oo s.heap l1 l2).objs.size))) {s with heap:=K6 s.heap l1 l2}) :=
 .of_wp λprog w A R s h=>by
  obtain⟨hp,g,d,tk,os⟩:=s; obtain⟨hl1,hl2,h⟩:=h
  have hsub:=sub_zip
  have hL1:Heap.IsTuple (Shared.heap ⟨hp,g,d,tk,os⟩) l1 xs:=hl1
  have hL2:Heap.IsTuple (Shared.heap ⟨hp.push {cls:=.type "tuple_iterator",data:=.fields #[.ref l1,.int 0 0]},g,d,tk,os⟩) l2 ys:=Heap.IsTuple.push hl2 _
  wp_walk using wpAny_pyIter_tuple hL1,wpAny_pyIter_tuple hL2
  exact⟨_,rfl,h⟩
theorem AV{l1 l2:Addr}{xs ys:Array Value}{Q:Value->Shared->Prop}(hl1:s.heap.IsTuple l1 xs)(hl2:s.heap.IsTuple l2 ys)
  (h:∀h',IsZip h' (s.heap.objs.size+4) (s.heap.objs.size+2) (s.heap.objs.size+3) .none->IsPair h' (s.heap.objs.size+2) (.ref s.heap.objs.size) (.ref (s.heap.objs.size+1))->
   IsPair h' (s.heap.objs.size+3) .none .none->h'.IsTupleIter s.heap.objs.size l1 0->h'.IsTupleIter (s.heap.objs.size+1) l2 0->h'.objs.size=s.heap.objs.size+5->
   (∀c o,s.heap.get? c=some o->h'.get? c=some o)->Q (.ref (s.heap.objs.size+4)) {s with heap:=h'}) :
  wpAny (model prog w) A (call (.type "zip") [.ref l1,.ref l2]) Q E s:=by
 refine callType_new F.called_zip (by decide) (F.typeCall_zip_2 _ _) (F.newCall_zip_2 _ _) (λobj=>F.args_object_init_3 obj _ _) F.entry_zip_new (xx l1 l2 xs ys) ⟨hl1,hl2,?_⟩
 have z1:(NP s.heap l1).objs.size=s.heap.objs.size+1:=Heap.size_push ..
 have z2:(Og s.heap l1 l2).objs.size=s.heap.objs.size+2:=by rw [Heap.size_push,z1]
 have z3:(NX s.heap l1 l2).objs.size=s.heap.objs.size+3:=by rw [Heap.size_push,z2]
 have z4:(Oo s.heap l1 l2).objs.size=s.heap.objs.size+4:=by rw [Heap.size_push,z3]
 have z5:(K6 s.heap l1 l2).objs.size=s.heap.objs.size+5:=by rw [Heap.size_push,z4]
 have g5:(K6 s.heap l1 l2).get? (Oo s.heap l1 l2).objs.size=some _:=Vm _ rfl
 have g4:(K6 s.heap l1 l2).get? (NX s.heap l1 l2).objs.size=some _:=Vk _ (Vm _ rfl)
 have g3:(K6 s.heap l1 l2).get? (Og s.heap l1 l2).objs.size=some _:=Vk _ (Vk _ (Vm _ rfl))
 have g2:(K6 s.heap l1 l2).get? (NP s.heap l1).objs.size=some _:=Vk _ (Vk _ (Vk _ (Vm _ rfl)))
 have g1:(K6 s.heap l1 l2).get? s.heap.objs.size=some _:=Vk _ (Vk _ (Vk _ (Vk _ (Vm _ rfl))))
 show _/\_
 rw [z2,z3,z4]at g5
 rw [z1,z2]at g3
 rw [z3]at g4
 rw [z1]at g2
 rw [z4]
 exact⟨⟨_,g5,rfl⟩,h _ g5 g3 g4 ⟨_,g1,rfl,rfl⟩ ⟨_,g2,rfl,rfl⟩ z5 λc o x=>Vk _ (Vk _ (Vk _ (Vk _ (Vk _ x))))⟩
end
def JF(K:Wg)(a b:Addr):It :=
 ⟨λi H=>∃xs ys x y,aH K H a xs/\aH K H b ys/\xs[i]? = some x/\ys[i]? = some y,
   λi H v H'=>∃T x y,v=.ref T/\H T=none/\H'=upd H T (.tup [x,y])/\(∀xs,aH K H a xs->xs[i]? = some x)/\∀ys,aH K H b ys->ys[i]? = some y,
   λi H=>∃xs,aH K H a xs/\xs.length<=i⟩
theorem Bf{P:Program}{w:World}{K:Wg}{es:List Expr}{x1:Nat}{pos:Pos}(a b z TI TO i1 i2:Addr)(D:ZipApart z TI TO i1 i2 a b) :
  Turn P w K (.Tuple es x1 pos) (JF K a b) [z,TI,TO,i1,i2] z (λi h=>IsZip h z TI TO .none/\IsPair h TI (.ref i1) (.ref i2)/\(∃u v,IsPair h TO u v)/\h.IsTupleIter i1 a i/\h.IsTupleIter i2 b i) where
 mem:=by simp
 obj:=λi h st c hc=>by
  obtain⟨h1,h2,⟨u,v,h3⟩,⟨o4,e4,c4,d4⟩,⟨o5,e5,c5,d5⟩⟩:=st
  simp only [VF,V1,or_false]at hc
  rcases hc with rfl | rfl | rfl | rfl | rfl
  ·exact⟨_,h1,λv z=>by cases(show Data.fields _=Data.cell v from z)⟩
  ·exact⟨_,h2,λv z=>by cases(show Data.seq _ _=Data.cell v from z)⟩
  ·exact⟨_,h3,λv z=>by cases(show Data.seq _ _=Data.cell v from z)⟩
  ·exact⟨o4,e4,λv z=>by rw [d4]at z; cases z⟩
  ·exact⟨o5,e5,λv z=>by rw [d5]at z; cases z⟩
 keep:=λi h h' st k=>by
  obtain⟨h1,h2,⟨u,v,h3⟩,h4,h5⟩:=st
  exact⟨k z (by simp) _ h1,k TI (by simp) _ h2,⟨u,v,k TO (by simp) _ h3⟩,h4.at λo e=>k i1 (by simp) o e,h5.at λo e=>k i2 (by simp) o e⟩
 item:=by
  intro X hP hw hK hc i pins s σ H E I hf st hg
  subst hP hw hK
  obtain⟨xs,ys,x,y,hq1,hq2,hx,hy⟩:=hg
  obtain⟨its,rv,p,hz⟩:=I.tuple hq1
  obtain⟨its2,QK,p2,hz2⟩:=I.tuple hq2
  obtain⟨u,hu,ru⟩:=rv.get hx
  obtain⟨u2,hu2,UC⟩:=QK.get hy
  obtain⟨h1,h2,⟨v1,v2,h3⟩,h4,h5⟩:=st
  refine pL D h1 h2 h3 h4 h5 p p2 (x:=u) (y:=u2) (by simpa using hu) (by simpa using hu2) λh' g1 g2 g3 g4 g5 hsz g6=>⟨_,rfl,?_⟩
  refine wpAny_letOwnedTupleGo_zip (show IsZip h' z TI TO (rawInt s.heap.objs.size) from g1) λh'' f1 fs=>?_
  have Mp:z<s.heap.objs.size:=Vl h1
  have Qm:s.heap.objs.size≠z:=Nat.ne_of_gt Mp
  have kk:∀c o,c∉[z,TI,TO,i1,i2]->s.heap.get? c=some o->h''.get? c=some o:=λc o hc e=>by
   simp only [VF,V1,or_false,not_or]at hc
   exact fs.extBut _ _ hc.1 (g6 c o hc.1 hc.2.2.1 hc.2.2.2.1 hc.2.2.2.2 e)
  have pT:IsPair h'' s.heap.objs.size u u2:=fs.extBut _ _ Qm g5
  have I1:Inv X pins σ (upd H s.heap.objs.size (.tup [x,y])) {s with heap:=h'',toks:=s.toks}:=I.rW hf kk (Vn _) ⟨by show 2<=sizeLine; decide,[u,u2],.cons ru (.cons UC .nil),⟨_,pT,rfl,⟨_,rfl⟩,rfl⟩⟩
  have OO:TI<s.heap.objs.size:=Vl h2
  refine⟨.ref s.heap.objs.size,_,I1,rfl,⟨_,x,y,rfl,I.hok.fresh (Vn _),rfl,λys hy'=>by rw [I.iA hy' hq1]; exact hx,λys hy'=>by rw [I.iA hy' hq2]; exact hy⟩,⟨f1,?_,⟨u,u2,fs.extBut _ _ D.TOz g2⟩,g3.extBut fs.extBut D.i1z,g4.extBut fs.extBut D.i2z⟩,λc hc=>?_⟩
  ·exact fs.extBut _ _ D.TIz (g6 TI _ D.TIz D.TITO D.TIi1 D.TIi2 h2)
  ·have hn:=(hf c hc).1
   have:c≠s.heap.objs.size:=by
    have lt:c<s.heap.objs.size:=by
     simp only [VF,V1,or_false]at hc
     obtain⟨o4,e4,_⟩:=h4
     obtain⟨o5,e5,_⟩:=h5
     rcases hc with rfl | rfl | rfl | rfl | rfl
     ·exact Mp
     ·exact OO
     ·exact Vl h3
     ·exact Vl e4
     ·exact Vl e5
    exact VI lt
   rw [aI this]; exact hn
 done:=by
  intro X hP hw hK hc i pins s σ H E I hf st hg
  subst hP hw hK
  obtain⟨xs,hq1,hend⟩:=hg
  obtain⟨its,rv,p,hz⟩:=I.tuple hq1
  obtain⟨h1,h2,⟨v1,v2,h3⟩,h4,h5⟩:=st
  have hl:=rv.length
  refine qQ (I.ok.hd hc) D h1 h2 h4 p (by simp; omega) λh' g6=>⟨rfl,I.qz (t':=s.toks) hf λc o hc e=>?_⟩
  simp only [VF,V1,or_false,not_or]at hc
  exact g6 c o hc.1 hc.2.2.2.1 e
 self:=λ_ _ _ _ _ st h=>wpAny_pyIter_zip st.1 h
section
variable{X:Cx}
def MN(K:Wg)(ta:TA):TI:=λσ H R=>ta σ H λvs H1=>∃a b,vs=[.ref a,.ref b]/\(∃xs,aH K H1 a xs)/\(∃ys,aH K H1 b ys)/\R (JF K a b) H1
theorem Hq{es:List Expr}{x1:Nat}{tpos:Pos}{a b:Expr}{ta:TA}{p pos:Pos}(hg:Gl X "zip")(hm:X.mg "zip"=none)(ha:PA X [a,b] ta)(hs:starEach [a,b] X.env=[(false,eval a X.env),(false,eval b X.env)]:=by rfl)(hs2:starEach [b] X.env=[(false,eval b X.env)]:=by rfl) :
  PI X (.Tuple es x1 tpos) (.Call (.Name "zip" p) [a,b] [] pos) (MN X.K ta):=by
 intro pins s σ H R I h
 refine Call_ (iO I hg hm (by decide +kernel:bootBuiltins "zip"=some (.type "zip")) (PyProof.Rows.callWith_type1 (cn (ha pos pins s σ H _ I h) λus s1 ⟨vs,H1,I1,r1,q1⟩=>?_) (by rw [hs,hs2]) (by rw [hs2]; rfl)))
 obtain⟨l1,l2,e,⟨xs,hq1⟩,⟨ys,hq2⟩,q⟩:=q1
 subst e
 cases r1 with
 | cons r rr =>
  cases rr with
  | cons r' rr =>
   cases rr
   cases r
   cases r'
   obtain⟨its,rv,p1,hz⟩:=I1.tuple hq1
   obtain⟨its2,QK,p2,hz2⟩:=I1.tuple hq2
   have a1:l1<s1.heap.objs.size:=by obtain⟨_,e,_⟩:=p1; exact Vl e
   have a2:l2<s1.heap.objs.size:=by obtain⟨_,e,_⟩:=p2; exact Vl e
   refine AV p1 p2 λh' hz hTI hTO hi1 hi2 hsz hk=>?_
   refine wpAny_pyIter_zip (show IsZip h' _ _ _ _ from hz) ?_
   refine⟨_,[s1.heap.objs.size+4,s1.heap.objs.size+2,s1.heap.objs.size+3,s1.heap.objs.size,s1.heap.objs.size+1],_,_,H1,rfl,I1.kept (t':=s1.toks) hk,Bf _ _ _ _ _ _ _ (zipApart_new a1 a2),⟨hz,hTI,⟨_,_,hTO⟩,hi1,hi2⟩,λc hc=>?_,q⟩
   simp only [VF,V1,or_false]at hc
   have hle:s1.heap.objs.size<=c:=by rcases hc with rfl | rfl | rfl | rfl | rfl <;> first | exact Vn _ | exact Nat.le_add_right _ _
   exact I1.mL hle (I1.hok.fresh hle)
end
theorem AB{K:Wg}{a b D:Addr}{xs ys:List V}{g:TG}{tc:TT}{te:TE}{Q:VK}{qM:St}{H0:Hp}(Pv:Nat->St->List V->Hp->Prop)(h0:Pv 0 qM [] H0)(hD:∀i σ zs H,i<=xs.length->Pv i σ zs H->H D=some (.lst zs)/\zs.length<=i)
  (hl:∀i σ zs H,i<=xs.length->Pv i σ zs H->aH K H a xs/\aH K H b ys) (hxy:xs.length=ys.length) (hz:xs.length<=sizeLine)
  (hs:∀i x y σ zs H T,xs[i]? = some x->ys[i]? = some y->Pv i σ zs H->H T=none->g (.ref T) σ (upd H T (.tup [x,y])) λdn H2=>tc dn H2 λb H3=>if b=true then te dn H3 λv H4=>H4 D=some (.lst zs)/\Pv (i+1) dn (zs++[v]) (upd H4 D (.lst (zs++[v])))else Pv (i+1) dn zs H3)
  (hd:∀σ zs H,Pv xs.length σ zs H->Q (.ref D) H):∃W:Nat->Nat->St->List V->Hp->Prop,(∃m,W 0 m qM [] H0)/\pA (JF K a b) g tc te D Q W:=by
 refine⟨λi m σ zs H=>m=xs.length-i/\i<=xs.length/\Pv i σ zs H,⟨xs.length,by simp,VJ _,h0⟩,?_⟩
 rintro i m σ zs H ⟨rfl,hi,p⟩
 obtain⟨q1,q2⟩:=hl i σ zs H hi p
 refine⟨(hD i σ zs H hi p).1,?_⟩
 by_cases hlt:i<xs.length
 ·have l2:i<ys.length:=by omega
  refine .inr ⟨⟨xs,ys,xs[i],ys[i],q1,q2,by simp [hlt],by simp [l2]⟩,Vu (hD i σ zs H hi p).2 (Vv hlt hz),Pv (i+1),λσ' ys' H' p'=>⟨xs.length-(i+1),by omega,rfl,hlt,p'⟩,λv H' y=>?_⟩
  obtain⟨T,x,y,rfl,hT,rfl,hx,hy⟩:=y
  exact hs i x y σ zs H T (hx xs q1) (hy ys q2) p hT
 ·have e:i=xs.length:=by omega
  subst e
  exact .inl ⟨⟨xs,q1,Vn _⟩,hd σ zs H p⟩
section
variable{κ:Type} [DecidableEq κ]
def xW(kvs:List (κ×V))(k:κ):Option V:=(kvs.find? λkv=>decide (kv.1=k)).map (·.2)
def putK(kvs:List (κ×V))(k:κ)(v:V):List (κ×V) :=
 if(kvs.any λkv=>decide (kv.1=k))=true then kvs.map (λkv=>if kv.1=k then(kv.1,v)else kv)else kvs++[(k,v)]
theorem uV{p:κ×V}{r:List (κ×V)}{k:κ}(e:p.1=k):xW (p::r) k=some p.2:=by simp [xW,List.find?_cons,e]
theorem vE{p:κ×V}{r:List (κ×V)}{k:κ}(e:¬p.1=k):xW (p::r) k=xW r k:=by simp [xW,List.find?_cons,e]
theorem vy(k:κ):∀kvs:List (κ×V),(kvs.any λkv=>decide (kv.1=k))=(xW kvs k).isSome
 | []=>rfl
 | p::r=>by
  rw [Wd]
  by_cases e:p.1=k
  ·simp only [uV e,Vq e,Bool.true_or,Option.isSome_some]
  ·rw [vE e,Vp e,Bool.false_or]; exact vy k r
theorem m_(kvs:List (κ×V))(k:κ)(v:V):(putK kvs k v).length<=kvs.length+1:=by
 unfold putK
 split
 ·rw [Vr]; omega
 ·rw [Vs,VV,List.length_nil]; omega
theorem jD.BB{o:Option V}{u:Option Value}(r:jD o u):o.isSome=u.isSome:=by
 cases o with
 | none=>cases u with
  | none=>rfl
  | some _=>exact(show False from r).elim
 | some _=>cases u with
  | none=>exact(show False from r).elim
  | some _=>rfl
theorem KV.any{kvs:List (κ×V)}{vs:List (κ×Value)}(r:KV kvs vs)(k:κ):(kvs.any λkv=>decide (kv.1=k))=vs.any λkv=>decide (kv.1=k):=by
 unfold KV at r
 induction r with
 | nil=>rfl
 | cons h t ih=>rw [Wd,Wd,ih,h.1]
theorem KV.repl{kvs:List (κ×V)}{vs:List (κ×Value)}(r:KV kvs vs)(k:κ){y:V}{u:Value}(ry:RelV y u) :
  KV (kvs.map λkv=>if kv.1=k then(kv.1,y)else kv) (vs.map λkv=>if kv.1=k then(kv.1,u)else kv):=by
 unfold KV at r⊢
 induction r with
 | nil=>exact .nil
 | @cons p q ps qs h t ih =>
  rw [Wb,Wb]
  refine .cons ?_ ih
  obtain⟨h1,h2⟩:=h
  by_cases e:p.1=k
  ·rw [V0 e,V0 (h1.symm.trans e)]; exact⟨h1,ry⟩
  ·rw [VZ e,VZ (λz=>e (h1.trans z))]; exact⟨h1,h2⟩
theorem KV.put{kvs:List (κ×V)}{vs:List (κ×Value)}(r:KV kvs vs)(k:κ){y:V}{u:Value}(ry:RelV y u):KV (putK kvs k y) (stored vs k u):=by
 unfold putK stored
 rw [r.any k]
 by_cases e:(vs.any λkv=>decide (kv.1=k))=true
 ·rw [V0 e,V0 e]; exact r.repl k ry
 ·rw [VZ e,VZ e]; exact Paired.snoc r ⟨rfl,ry⟩
theorem KV.length{kvs:List (κ×V)}{vs:List (κ×Value)}(r:KV kvs vs):kvs.length=vs.length:=Paired.length r
end
theorem H_{P:Program}{w:World}{k:Key}{u:Value}(r:RelV (kV k) u):(bL P w).is k u=true:=by
 cases k with
 | inl i=>obtain⟨t,e⟩:=(show∃t,u=Value.int i t from r); subst e; exact wN P w i t
 | inr x=>obtain⟨t,e⟩:=(show∃t,u=Value.str x t from r); subst e; exact wG P w x t
theorem Mz{P:Program}{w:World}{k:dz}{u:Value}(r:RelV (oV k) u):(optKind P w).is k u=true:=by
 cases k with
 | none=>obtain rfl:u=Value.none:=r; rfl
 | some k=>exact H_ (P:=P) (w:=w) r
theorem rQ{P:Program}{w:World}:∀{ks:List dz} {us:List Value},Vals (ks.map oV) us->ItemsAre (optKind P w) ks us
 | [],_,r=>by rw [List.map_nil]at r; cases r; exact .nil
 | k::ks,_,r=>by
  rw [Wb]at r
  cases r with
  | cons h t=>exact .cons (Mz h) (rQ t)
abbrev KT(H:Hp):List (List dz×V)->List (List dz×Addr×Value)->Prop:=Paired λp q=>p.1=q.1/\H q.2.1=some (.tup (p.1.map oV))/\RelV p.2 q.2.2
theorem KT.val{H:Hp}{kvs:List (List dz×V)}{xs:List (List dz×Addr×Value)}(r:KT H kvs xs)(k:List dz):jD (xW kvs k) ((atKey xs k).map (·.2)):=by
 induction r with
 | nil=>exact True.intro
 | @cons p q ps qs h t ih =>
  obtain⟨h1,_,h2⟩:=h
  by_cases e:p.1=k
  ·have e':q.1=k:=h1.symm.trans e
   have b:atKey (q::qs) k=some q.2:=by simp [atKey,List.find?_cons,e']
   rw [uV e,b]; exact h2
  ·have e':¬q.1=k:=λz=>e (h1.trans z)
   have b:atKey (q::qs) k=atKey qs k:=by simp [atKey,List.find?_cons,e']
   rw [vE e,b]; exact ih
theorem KT.repl{H:Hp}{kvs:List (List dz×V)}{xs:List (List dz×Addr×Value)}(r:KT H kvs xs)(k:List dz){y:V}{u:Value}(ry:RelV y u) :
  KT H (kvs.map λkv=>if kv.1=k then(kv.1,y)else kv) (xs.map (putAt k u)):=by
 induction r with
 | nil=>exact .nil
 | @cons p q ps qs h t ih =>
  rw [Wb,Wb]
  refine .cons ?_ ih
  obtain⟨h1,h2,h3⟩:=h
  unfold putAt
  by_cases e:p.1=k
  ·rw [V0 e,V0 (h1.symm.trans e)]; exact⟨h1,h2,ry⟩
  ·rw [VZ e,VZ (λz=>e (h1.trans z))]; exact⟨h1,h2,h3⟩
theorem KT.put{H:Hp}{kvs:List (List dz×V)}{xs:List (List dz×Addr×Value)}(r:KT H kvs xs)(k:List dz){b:Addr}{y:V}{u:Value}(hb:H b=some (.tup (k.map oV)))(ry:RelV y u) :
  KT H (putK kvs k y) (storedH xs k b u):=by
 have e:(kvs.any λkv=>decide (kv.1=k))=(atKey xs k).isSome:=by
  rw [vy,(r.val k).BB,Option.isSome_map]
 unfold putK storedH
 rw [e]
 by_cases q:(atKey xs k).isSome=true
 ·rw [V0 q,V0 q]; exact r.repl k ry
 ·rw [VZ q,VZ q]; exact Paired.snoc r ⟨rfl,hb,ry⟩
theorem KT.keeps{H H':Hp}{kvs:List (List dz×V)}{xs:List (List dz×Addr×Value)}(r:KT H kvs xs)(ht:∀b ys,H b=some (.tup ys)->H' b=some (.tup ys)):KT H' kvs xs :=
 Paired.KA r λ_ _ z=>⟨z.1,ht _ _ z.2.1,z.2.2⟩
section
variable{P:Program}{w:World}{H:Hp}{h:Heap}{a:Addr}
theorem IK{u:HO}(ok:ji P w H h)(e:Rd H a u):cB P w H h a u:=e.ok ok
theorem M4{kvs:List (Key×V)}(ok:ji P w H h)(e:Rd H a (.dK kvs)):kvs.length<=sizeLine/\(a==sysModules)=false/\∃vs,KV kvs vs/\h.DictOf (bL P w) a vs :=
 show cB P w H h a (.dK kvs) from IK ok e
theorem cS{kvs:List (Key×V)}(ok:ji P w H h)(e:H a=some (.dK kvs)):kvs.length<=sizeLine/\(a==sysModules)=false/\∃vs,KV kvs vs/\h.DictOf (bL P w) a vs:=M4 ok (.inl e)
theorem CV{ks:List dz}(ok:ji P w H h)(e:H a=some (.tup (ks.map oV))):(tupleKind (optKind P w)).is h ks a:=by
 obtain⟨_,its,r,o,h1,h2,⟨n,h3⟩,_⟩:=(show cB P w H h a (.tup (ks.map oV)) from ok a _ e)
 exact⟨o,its.toArray,n,h1,h2,h3,by simpa using rQ r⟩
theorem Ma{kvs:List (List dz×V)}(ok:ji P w H h)(e:Rd H a (.dT kvs)):kvs.length<=sizeLine/\(a==sysModules)=false/\
  ∃xs,KT H kvs xs/\h.DictOfH (tupleKind (optKind P w)) a xs:=by
 obtain⟨z,y,xs,r,o,es,ep,h1,h2,h3,h4,h5⟩:=(show cB P w H h a (.dT kvs) from IK ok e)
 refine⟨z,y,xs,r,o,es,ep,h1,h2,h3,h4,λx hx=>?_,h5⟩
 have all:∀{l:List (List dz×V)} {m:List (List dz×Addr×Value)},KT H l m->∀x∈m,(tupleKind (optKind P w)).is h x.1 x.2.1:=by
  intro l m q
  induction q with
  | nil=>intro x hx; exact nomatch hx
  | @cons p q ps qs hq t ih =>
   intro x hx
   rcases VF.mp hx with e | hx
   ·subst e
    exact CV ok (by rw [←hq.1]; exact hq.2.1)
   ·exact ih x hx
 exact all r x hx
theorem LQ{kvs:List (List dz×V)}(ok:ji P w H h)(e:H a=some (.dT kvs)):kvs.length<=sizeLine/\(a==sysModules)=false/\
  ∃xs,KT H kvs xs/\h.DictOfH (tupleKind (optKind P w)) a xs:=Ma ok (.inl e)
end
def Be(H:Hp)(a:Addr)(y v:V)(H':Hp):Prop :=
 (∃kvs k,H a=some (.dK kvs)/\y=kV k/\kvs.length<sizeLine/\H'=upd H a (.dK (putK kvs k v)))\/
 ∃kvs k b,H a=some (.dT kvs)/\y=.ref b/\H b=some (.tup (k.map oV))/\kvs.length<sizeLine/\H'=upd H a (.dT (putK kvs k v))
theorem Be.t{H:Hp}{a b:Addr}{kvs:List (List dz×V)}{k:List dz}{v:V}(e:H a=some (.dT kvs))(eb:H b=some (.tup (k.map oV)))(hl:kvs.length<sizeLine) :
  Be H a (.ref b) v (upd H a (.dT (putK kvs k v))):=.inr ⟨kvs,k,b,e,rfl,eb,hl,rfl⟩
section
variable{X:Cx}{pins:List (Addr×Obj)}{σ:St}{H:Hp}{s:Shared}{a:Addr}{y v:V}{u r:Value}{o:Option V}{A:Around}{E:Value->Shared->Prop}
theorem Inv.big(I:Inv X pins σ H s):sysModules<s.heap.objs.size:=by
 have h:mainGlobals<s.heap.objs.size:=(I.mod.glob.keeps I.bk).lt
 exact Nat.lt_trans (by decide) h
theorem za{h':Heap}{t':Nat}{ob:HO}(I:Inv X pins σ H s)(mu:Mt (H a))(hs:Heap.SameBut a s.heap h')(he:∃q,h'.get? a=some q)(new:cB X.prog X.w (upd H a ob) h' a ob) :
  Inv X pins σ (upd H a ob) {s with heap:=h',toks:=t'} :=
 I.write (x:=a) (e:=a) mu (.inl rfl) (λb q hb z=>(hs.2 b hb).trans z) he new
theorem JP{P:Program}{w:World}{H':Hp}{h':Heap}{kvs:List (Key×V)}{vs:List (Key×Value)}(z:kvs.length<=sizeLine)(hd:(a==sysModules)=false)(rel:KV kvs vs)(dd:h'.DictOf (bL P w) a vs) :
  cB P w H' h' a (.dK kvs):=⟨z,hd,vs,rel,dd⟩
theorem Bq{H':Hp}{Q:Unit->Shared->Prop}(hu:A.units+1<cLine)(I:Inv X pins σ H s)(g:Be H a y v H')(ry:RelV y u)(rv:RelV v r)(h:∀s',Inv X pins σ H' s'->Q () s') :
  wpAny (model X.prog X.w) A (setItem (.ref a) u r) Q E s:=by
 rcases g with⟨kvs,k,e,ey,l,eH⟩ | ⟨kvs,k,b,e,ey,eb,l,eH⟩
 ·subst ey eH
  obtain⟨z,hd,vs,rel,dd⟩:=cS I.hok e
  have hz:vs.length<=sizeLine:=by rw [←rel.length]; exact z
  have hl:(putK kvs k v).length<=sizeLine:=by have:=m_ kvs k v; omega
  refine wpAny_setItem_pairs (hsz:=hz) (H_ ry) dd λh' NU hs=>h _ ?_
  have he:∃q,h'.get? a=some q:=let ⟨q,_,_,hq,_⟩:=NU; ⟨q,hq⟩
  exact za I (by rw [e]; exact True.intro) hs he (JP hl hd (rel.put k rv) NU)
 ·subst ey eH
  cases(show u=Value.ref b from ry)
  obtain⟨z,hd,xs,rel,dd⟩:=LQ I.hok e
  have hz:xs.length<=sizeLine:=by rw [←Paired.length rel]; exact z
  have hl:(putK kvs k v).length<=sizeLine:=by have:=m_ kvs k v; omega
  refine wpAny_setItem_heap (hsz:=hz) (tupleKind_room_in1 hu) (CV I.hok eb) dd λh' NU hs=>h _ ?_
  obtain⟨q,es,ep,hq,h2,h3,h4,_,h5⟩:=NU
  refine za I (by rw [e]; exact True.intro) hs ⟨q,hq⟩ ⟨hl,hd,_,(rel.put k eb rv).keeps λc ys ec=>?_,q,es,ep,hq,h2,h3,h4,h5⟩
  rw [aI (L9 ec e (λz=>nomatch z))]
  exact ec
end
def Na(td ty tv:TE):TS:=λD σ H=>tv σ H λv H1=>td σ H1 λx H2=>ty σ H2 λy H3=>∃a H4,x=.ref a/\Be H3 a y v H4/\D.nx σ H4
section
variable{X:Cx}{o i e value:Expr}{pos pos' tpos:Pos}{td ty tv:TE}
theorem zg(hu:X.A.units+1<cLine)(ho:PE X o td)(hi:PE X i ty)(hv:PE X value tv)(hs:swapsWith value (some (.Subscript o i pos')) pos.line X.env=pure false) :
  PS X (.Assign [.Subscript o i pos'] value pos) (Na td ty tv):=by
 intro pins s σ H D I h
 refine wpAny_Assign_Subscript (cn (hv pins s σ H _ I h) λr s1 ⟨v,H1,I1,rv,q1⟩=>cn (ho pins s1 σ H1 _ I1 q1) λu s2 ⟨x,H2,I2,rx,q2⟩=>cn (hi pins s2 σ H2 _ I2 q2) λiv s3 ⟨y,H3,I3,ry,a,H4,ex,g,q3⟩=>?_) hs
 subst ex
 obtain rfl:u=Value.ref a:=rx
 exact Bq hu I3 g ry rv λs4 I4=>⟨σ,H4,I4,q3⟩
end
theorem Di{P:Program}{w:World}{H:Hp}(h:Heap)(hb:sysModules<h.objs.size):cB P w H (h.push {cls:=.type "dict",data:=.dict #[]}) h.objs.size (.dT []) :=
 ⟨VJ _,beq_eq_false_iff_ne.mpr (Ne.symm (VI hb)),[],.nil,_,#[],0,Vm _ rfl,⟨rfl,rfl,rfl⟩,rfl,rfl,List.nodup_nil⟩
def Jg:TE:=λ_ H Q=>∀p,H p=none->Q (.ref p) (upd H p (.dT []))
section
variable{X:Cx}{pos:Pos}
theorem BM:PE X (.Dict [] [] pos) Jg:=λpins s σ H Q I h =>
 wpAny_Dict_empty ⟨.ref s.heap.objs.size,_,I.laid (a:=s.heap.objs.size) (o:=.dT []) (t':=s.toks) (λ_ _ q=>Vk _ q) (Vn _) (Di s.heap I.big),rfl,h _ (I.hok.fresh (Vn _))⟩
end
end L2
namespace My
open PySem L2
theorem Hl{n:Nat}{x:Wk}{h:Hd}{f:Fl}{pl:List Int}(hx:ck x=true):bC (n+1) h f pl x=vi (bC n) x h f pl (dA x) 0 [] f:=by
 rw [←xM (n+1),←xM n]
 cases x with
 | one x=>cases hx
 | both p q=>rfl
 | meet c d p q=>rfl
theorem DX{n:Nat}{x:Wk}{h:Hd}{f:Fl}{pl:List Int}(hx:ck x=false):bC n h f pl x=mK x h f pl [] f:=by rw [iQ hx,zM hx]
def qu:Nat->List Wk->Prop
 | 0,ws=>∀x∈ws,Km x/\Eu x
 | n+1,ws=>∀x∈ws,(Km x/\Eu x)/\∀p∈dA x,qu n p
theorem qu.ok{n:Nat}{ws:List Wk}(h:qu n ws){x:Wk}(hx:x∈ws):Km x/\Eu x:=by
 cases n with
 | zero=>exact h x hx
 | succ n=>exact(h x hx).1
def IL(H:Hp)(u:Addr):Res->Prop
 | .ok h f=>∃a b,H u=some (.tup [.str "head",.ref a,.ref b])/\dF H a h/\ud H b f
 | .no p s=>∃a,H u=some (.tup [.str "no",.ref a,.str s])/\H a=some (.tup (p.map V.int))
abbrev TD:=List (List dz×V)
theorem vC{kvs:TD}{k:List dz}{v:V}:(putK kvs k v).length<=kvs.length+1:=by
 unfold putK
 split
 ·rw [Vr]; omega
 ·rw [Vs]; simp
def kI(pi:List Int):List dz:=pi.map λi=>some (.inl i)
theorem MB(pi:List Int):(kI pi).map oV=pi.map V.int:=by rw [kI,List.map_map]; rfl
theorem eX.rB{fd:Addr}{H H':Hp}{kvs:TD}(g:eX fd H H')(h:H fd=some (.dT kvs)):aE H H':=λa ys e=>g _ _ (λz=>by rw [z,h]at e; cases e) e
theorem aE.Qe{H H':Hp}{L:Addr}{kvs:TD}{o:HO}(k:aE H H')(h:H' L=some (.dT kvs)):aE H (upd H' L o):=λa ys e=>by
 have:=k _ _ e
 rw [aI (λz=>by rw [z,h]at this; cases this)]
 exact this
structure OA(n:Nat)(H:Hp)(b p pl g fd:Addr)(h:Hd)(ws:List Wk)(pi:List Int)(fl:Fl)(kvs:TD):Prop where
 hd:dF H b h
 pp:jC n H p ws
 pl:H pl=some (.tup (pi.map V.int))
 fg:ud H g fl
 fd:H fd=some (.dT kvs)
 ok:ra n ws
 dr:qu n ws
 six:h.length<=6
 pz:pi.length+2*n<=100
 kz:kvs.length+bnd n<=200000
def tE:Nat->Sp
 | 0=>λ_ _ _ _=>False
 | n+1=>λvs H Q _=>∃(b p pl g fd:Addr) (h:Hd) (ws:List Wk) (pi:List Int) (fl:Fl) (kvs:TD),vs=[.ref b,.ref p,.ref pl,.ref g,.ref fd]/\OA n H b p pl g fd h ws pi fl kvs/\
  ∀(u:Addr) (H':Hp) (kvs':TD),eX fd H H'->H' fd=some (.dT kvs')->kvs'.length<=kvs.length+bnd n->IL H' u (putL (bC n) pi 0 h fl ws)->Q (.ref u) H'
theorem GU{x:Wk}(h:Km x):Mb x:=by
 cases x with
 | one x=>exact h.pos
 | both p q=>intro c hc; cases hc
 | meet c d p q=>intro c hc; cases hc
def JC(a b:Fl):List Bool:=[a.o||b.o,a.j||b.j,a.f||b.f,a.w||b.w,a.l||b.l]
def NL(a:Fl):List V:=[.bl a.o,.bl a.j,.bl a.f,.bl a.w,.bl a.l]
theorem Ny{a b:Fl}:∀(i:Nat) (x y:V),(NL a)[i]? = some x->(NL b)[i]? = some y->∃p q,x=.bl p/\y=.bl q/\(JC a b)[i]? = some (p||q)
 | 0,x,y,h1,h2=>by cases h1; cases h2; exact⟨_,_,rfl,rfl,rfl⟩
 | 1,x,y,h1,h2=>by cases h1; cases h2; exact⟨_,_,rfl,rfl,rfl⟩
 | 2,x,y,h1,h2=>by cases h1; cases h2; exact⟨_,_,rfl,rfl,rfl⟩
 | 3,x,y,h1,h2=>by cases h1; cases h2; exact⟨_,_,rfl,rfl,rfl⟩
 | 4,x,y,h1,h2=>by cases h1; cases h2; exact⟨_,_,rfl,rfl,rfl⟩
 | n+5,x,y,h1,h2=>by cases h1
theorem DQ{H H':Hp}{L u:Addr}{as:List Addr}{es:List Hd}{h:Hd}(hE:gz H L as es)(k:aE H H')(hu:dF H' u h)(hL:H' L=some (.lst ((as++[u]).map V.ref))):gz H' L (as++[u]) (es++[h]):=by
 refine⟨hL,by rw [Vs,Vs,hE.len]; rfl,λi a r e1 e2=>?_⟩
 by_cases hi:i<as.length
 ·rw [VN hi]at e1
  rw [VN (by rw [←hE.len]; exact hi)]at e2
  exact k _ _ (hE.at_ i a r e1 e2)
 ·have hi':i=as.length:=by
   have:=(VC.mp e1).1
   rw [Vs]at this
   simp at this
   omega
  rw [hi',VM (Vn _),Nat.sub_self]at e1
  rw [hi',hE.len,VM (Vn _),Nat.sub_self]at e2
  cases e1
  cases e2
  exact hu
theorem Dz{n:Nat}{H:Hp}{a:Addr}{x:Wk}(h:cX (n+1) H a x)(hb:ck x=true):∃(vs:List V) (b c:Addr) (p q:List Wk),H a=some (.tup (vs++[.ref b,.ref c]))/\dA x=[p,q]/\jC n H b p/\jC n H c q:=by
 cases x with
 | one x=>cases hb
 | both p q=>obtain⟨b,c,bs,cs,h1,h2,h3⟩:=h; exact⟨[.str "both"],b,c,p,q,h1,rfl,⟨bs,h2⟩,⟨cs,h3⟩⟩
 | meet c d p q=>obtain⟨b,e,bs,es,h1,h2,h3⟩:=h; exact⟨[.str "meet",.int c,.int d],b,e,p,q,h1,rfl,⟨bs,h2⟩,⟨es,h3⟩⟩
theorem HJ{vs:List V}{u v:V}:jj (vs++[u,v]) (-2)=some u:=by
 unfold jj wY
 have hl:(vs++[u,v]).length=vs.length+2:=by simp
 rw [hl,VZ (by decide)]
 rw [V0 (by omega)]
 have:((-2:Int)+((vs.length+2:Nat):Int)).toNat=vs.length:=by omega
 first
  | (rw [this]; simp)
  | simp
theorem sg{n:Nat}{pl:List Int}:∀{ws:List Wk} {i:Nat} {h:Hd} {f:Fl} {h':Hd} {f':Fl},h.length<=6->putL (bC n) pl i h f ws=.ok h' f'->h'.length<=6
 | [],_,_,_,_,_,h6,e=>by cases e; exact h6
 | x::ws,i,h,f,h',f',h6,e=>by
  obtain⟨h1,f1,e1,e2⟩:=dQ e
  refine sg ?_ e2
  have key:∀es,eW x h f (pl++[(i:Int)]) es=.ok h1 f1->h1.length<=6:=by
   intro es e
   unfold eW at e
   split at e
   ·cases e
   ·next hn=>cases e; exact(tS hn).2
  cases hb:ck x with
  | false=>rw [iQ hb]at e1; exact key _ e1
  | true =>
   cases n with
   | zero=>exact key _ e1
   | succ n =>
    rw [oo hb]at e1
    obtain⟨p,q,hpq⟩:=sO hb
    rw [hpq]at e1
    obtain⟨_,_,_,e1⟩:=dQ e1
    obtain⟨_,_,_,e1⟩:=dQ e1
    exact key _ e1
inductive TR (a b c d e:V) (σ:St):Prop
 | mk (o5 o6 o7 o8 o9 sy rL Iz:Option V) (h:σ=[some a,some b,some c,some d,some e,o5,o6,o7,o8,o9,sy,rL,Iz])
inductive QR (a b c d e f g h i j:V) (σ:St):Prop
 | mk (sy rL Iz:Option V) (h:σ=[some a,some b,some c,some d,some e,some f,some g,some h,some i,some j,sy,rL,Iz])
inductive Sn (n:Nat) (p pl fd:Addr) (H:Hp) (h:Hd) (fl:Fl) (ws:List Wk) (pi:List Int) (kvs:TD) (i:Nat) (σ:St) (H':Hp):Prop
 | mk (bi gi:Addr) (hh:Hd) (fi:Fl) (kv:TD) (st:TR (.ref bi) (.ref p) (.ref pl) (.ref gi) (.ref fd) σ) (h1:dF H' bi hh) (h2:ud H' gi fi) (h3:hh.length<=6) (h4:eX fd H H') (h5:H' fd=some (.dT kv)) (h6:kv.length<=kvs.length+i*cW n) (h7:putL (bC n) pi 0 h fl ws=putL (bC n) pi i hh fi (ws.drop i))
inductive S3 (n:Nat) (bi p pl gi fd:Addr) (i:Nat) (a u2 Le:Addr) (H4:Hp) (x:Wk) (hh:Hd) (fi:Fl) (h:Hd) (fl:Fl) (ws:List Wk) (pi:List Int) (kv:TD) (σ:St) (H6:Hp):Prop
 | mk (as:List Addr) (es:List Hd) (af:Addr) (fa:Fl) (Ba:TD) (st:QR (.ref bi) (.ref p) (.ref pl) (.ref gi) (.ref fd) (.int (i:Nat)) (.ref a) (.ref u2) (.ref Le) (.ref af) σ) (h1:gz H6 Le as es) (h2:ck x=true->es.length=2) (h3:∀e∈es,e.length<=6) (h4:ud H6 af fa) (h5:aE H4 H6) (h6:eX fd H4 H6) (h7:H6 fd=some (.dT Ba)) (h8:Ba.length<=kv.length+cW n) (h9:putL (bC n) pi 0 h fl ws=bK (mK x hh fi (pi++[(i:Int)]) es fa) λh' f'=>putL (bC n) pi (i+1) h' f' (ws.drop (i+1)))
inductive TF (n:Nat) (bi p pl gi fd:Addr) (i:Nat) (a u2 Le:Addr) (H4:Hp) (x:Wk) (hh:Hd) (fi:Fl) (h:Hd) (fl:Fl) (ws:List Wk) (pi:List Int) (kv:TD) (j:Nat) (σ:St) (H6:Hp):Prop
 | mk (as:List Addr) (es:List Hd) (af:Addr) (fa:Fl) (Ba:TD) (st:QR (.ref bi) (.ref p) (.ref pl) (.ref gi) (.ref fd) (.int (i:Nat)) (.ref a) (.ref u2) (.ref Le) (.ref af) σ) (h1:gz H6 Le as es) (h2:es.length=j) (h3:∀e∈es,e.length<=6) (h4:ud H6 af fa) (h5:aE H4 H6) (h6:eX fd H4 H6) (h7:H6 fd=some (.dT Ba)) (h8:∀m,n=m+1->Ba.length<=kv.length+1+j*bnd m) (h9:j=0->Ba.length<=kv.length+1/\es=[]/\fa=fi)
  (h10:∀m,n=m+1->ck x=true->putL (bC n) pi 0 h fl ws=bK (vi (bC m) x hh fi (pi++[(i:Int)]) ((dA x).drop j) j es fa) λh' f'=>putL (bC n) pi (i+1) h' f' (ws.drop (i+1)))
abbrev i_:Stmt:=top 76
theorem cf:ay ["_law_head","_law_pipe_here","_law_place","_law_flags_here","_law_found","_law_number_here","_law_worker_here","_law_here","_law_ends","_law_after","_law_branch","_law_inner","_law_why_here"] ["_law_head","_law_pipe_here","_law_place","_law_flags_here","_law_found"] (ar i_):=fs
variable{P:Program}{w:World}{K:Wg}{mg:Str->Option Value}{base:Heap}
theorem uq{n L:Nat}(B:jH mg)(B2:iW mg)(B3:A2 mg)(mE:mg "enumerate"=none)(F:FA K mg "_law_put" i_)
  (kZ:bf bc P w K mg base (L+5) "_law_put" ["_law_head","_law_pipe_here","_law_place","_law_flags_here","_law_found"] (tE n))
  (yR:bf bc P w K mg base 4 "_law_why" ["_law_worker_here","_law_head","_law_flags_here","_law_ends"] (EA n))
  (uc:bf bc P w K mg base 2 "_law_flags" ["_law_worker_here","_law_head","_law_flags_here"] (y3 n))
  (fk:bf bc P w K mg base 2 "_law_head_next" ["_law_worker_here","_law_head","_law_ends"] (JZ n)) :
  bf bc P w K mg base (L+6) "_law_put" ["_law_head","_law_pipe_here","_law_place","_law_flags_here","_law_found"] (tE (n+1)):=by
 refine F.ok cf λf cdv A outer s H vs Q E hr h=>?_
 have hu:=iD hr
 have hu1:=jb hr
 obtain⟨b,p,pl,g,fd,h,ws,pi,fl,kvs,rfl,hG,q⟩:=h
 refine⟨_,(aq (gp PassesOwn.never rfl (qo rfl mE (ae (pv 1) ah)) (cG rfl (aA (bU (i:=5) cf.nd rfl (V2 rfl)) (aA (bU (i:=6) cf.nd rfl (V2 rfl)) bY)))
    (aq (aL (i:=7) cf.nd rfl (V2 rfl) (aD bZ (pv 2) (aJ (ae (pv 5) ah))))
     (aq (zg hu1 (pv 4) (pv 7) (az K (pv 3) ai) rfl)
     (aq (aL (i:=8) cf.nd rfl (V2 rfl) (aQ ah))
     (aq (aL (i:=9) cf.nd rfl (V2 rfl) (pv 3))
     (aq (gp PassesOwn.never rfl (c8 rfl B.range (ae (aD kN ai (aW cE rfl B2.int V7 (ae (fL cv (az K (pv 6) ai) (aQ (ae ao (ae ao ah))) rfl) ah))) ah)) (bU (i:=10) cf.nd rfl (V2 rfl))
      (aq (aL (i:=11) cf.nd rfl (V2 rfl) (av kZ hr (ae (pv 0) (ae (az K (pv 6) (aD bO (pv 10) ai)) (ae (aD bZ (pv 7) (aJ (ae (pv 10) ah))) (ae (pv 3) (ae (pv 4) ah)))))))
       (aN (aU aP (az K (pv 11) ai) ao) (pv 11)
       (aq (fQ (lD PySem.F.plainAttrs_list PySem.F.slot_list_append PySem.F.type_list_append c9 (pv 8) (ae (az K (pv 11) ai) ah)))
       (bM (aL (i:=9) cf.nd rfl (V2 rfl) (aW bH rfl B.tuple V6 (ae (bx (N':=["_law_one","_law_other_here"]) (src:=[none,none]) rfl (aZ.jT (by kernel_rfl)) (Hq rfl B3.zip (ae (pv 9) (ae (az K (pv 11) ai) ah))) (g:=(i8 K 2 (bR (bE 0) (bR (bE 1) i5)))) (λcl C s H fp=>(cG rfl (aA (eI (i:=0)) (aA (eI (i:=1)) bY)))) (λcl C s H fp=>aX) (te:=(vF (bD 0) (bD 1))) (λcl C s H fp=>(gc (jd 0) (dc (jd 1))))) ah))))))))
     (aq (aL (i:=12) cf.nd rfl (V2 rfl) (av yR hr (ae (pv 6) (ae (pv 0) (ae (pv 3) (ae (pv 8) ah))))))
     (aN (aU kf (pv 12) ao) (aJ (ae ao (ae (pv 7) (ae (pv 12) ah))))
     (aq (aL (i:=3) cf.nd rfl (V2 rfl) (av uc hr (ae (pv 6) (ae (pv 0) (ae (pv 9) ah)))))
     (bM (aL (i:=0) cf.nd rfl (V2 rfl) (av fk hr (ae (pv 6) (ae (pv 0) (ae (pv 8) ah)))))))))))))))
   (aq (zg hu1 (pv 4) (aD bZ (pv 2) (aJ (ae (bg bA rfl B.len We (ae (pv 1) ah)) ah))) (az K (pv 3) ai) rfl)
   (ax (aJ (ae ao (ae (pv 0) (ae (pv 3) ah))))))),?_⟩
 obtain⟨hb,⟨bs,hI⟩,hpl,hfg,hfd,hok,hdr,K0,hpz,hkz⟩:=hG
 have hlb:(bs.map V.ref).length=ws.length:=by rw [Vr,hI.len]
 have hcw:=EJ n
 have hw9:=hok.len
 have hbn:bnd n=11*cW n+1:=rfl
 refine⟨_,rfl,p,rfl,⟨_,aH.of hI.tup⟩,?_⟩
 refine l5 (xs:=bs.map V.ref) (Sn n p pl fd H h fl ws pi kvs)
  ⟨b,g,h,fl,kvs,⟨_,_,_,_,_,_,_,_,rfl⟩,hb,hfg,K0,eX.of (aM.refl _),hfd,Nat.le_add_right _ _,rfl⟩ ?_ ?_ ?_
 ·rintro i σ H' _ ⟨bi,gi,hh,fi,kv,_,_,_,_,gr,_⟩
  exact aH.of (gr.rB hfd _ _ hI.tup)
 ·rintro i v σ H' T hx ⟨bi,gi,hh,fi,kv,⟨o5,o6,o7,o8,o9,sy,rL,Iz,rfl⟩,hbi,hgi,h6,gr,Ah,Nq,hrun⟩ hT
  obtain⟨a,x,rfl,ex,ha⟩:=hI.get hx
  have Oe:i<11:=by have:=(VC.mp ex).1; omega
  have hic:i*cW n+cW n<=11*cW n:=by have:=Nat.mul_le_mul_right (cW n) Oe; rw [Nat.succ_mul]at this; exact this
  have Nd:=hok.ok (Vy ex)
  have Pg:=hdr.ok (Vy ex)
  rw [nP ex]at hrun
  have hrun:putL (bC n) pi 0 h fl ws=bK (bC n hh fi (pi++[(i:Int)]) x) λh' f'=>putL (bC n) pi (i+1) h' f' (ws.drop (i+1)):=hrun
  have sT:=aj hT (.tup [.int (i:Nat),.ref a])
  refine⟨T,_,rfl,aH.of ag,rfl,_,_,rfl,ak ⟨_,_,rfl,ak ⟨rfl,?_⟩⟩⟩
  dsimp only
  refine⟨_,rfl,_,rfl,dH,λu1 j6=>?_⟩
  have sU:=aj j6 (.tup [.int (i:Nat)])
  refine⟨pl,u1,_,_,rfl,rfl,sU _ _ (sT _ _ (gr.rB hfd _ _ hpl)),ag,by rw [Vr]; exact Vo (show _+1<=1000 by omega) (by decide),λu2 H2 KO hu2=>ak ?_⟩
  rw [Ee]at hu2
  have s2:=sT.trans (sU.trans KO)
  dsimp only
  refine⟨_,rfl,gi,_,4,_,rfl,rfl,aH.of (s2 _ _ hgi),rfl,_,rfl,_,rfl,fd,_,rfl,Be.t (k:=kI (pi++[(i:Int)])) (s2 _ _ Ah) (by rw [MB]; exact hu2) (Vu (show kv.length<=200000 by omega) (by decide)),?_⟩
  have Kk:(putK kv (kI (pi++[(i:Int)])) (.bl fi.l)).length<=kv.length+1:=vC
  revert Kk
  generalize putK kv (kI (pi++[(i:Int)])) (.bl fi.l)=Bm
  intro Kk
  have g4:eX fd H' (upd H2 fd (.dT Bm)):=(eX.of s2).put
  have wc:upd H2 fd (.dT Bm) fd=some (.dT Bm):=ag
  have uR:upd H2 fd (.dT Bm) u2=some (.tup ((pi++[(i:Int)]).map V.int)):=by
   rw [aI (λz=>by have:=s2 _ _ Ah; rw [←z,hu2]at this; cases this)]
   exact hu2
  revert g4 wc uR
  generalize upd H2 fd (.dT Bm)=H4
  intro g4 wc uR
  have DC:aE H' H4:=g4.rB Ah
  have JN:aE H H4:=(gr.rB hfd).trans DC
  refine⟨VJ _,λLe hL=>ak ?_⟩
  have Ll:Le≠fd:=λz=>by rw [z,wc]at hL; cases hL
  dsimp only
  refine⟨_,rfl,ak ?_⟩
  dsimp only
  refine nN (S3 n bi p pl gi fd i a u2 Le H4 x hh fi h fl ws pi kv) (λT2 hT2=>?_) ?_
  ·have sL:=aj hL (.lst [])
   have haL:=ha.keep (JN.trans (aE.of sL))
   obtain⟨xs,hxs⟩:=haL.first
   refine⟨_,rfl,a,_,0,_,rfl,rfl,aH.of hxs,au (j:=0) rfl,cN,λR hR=>⟨R,_,rfl,.inl (a_.of ag),rfl,rfl,.inr ⟨_,rfl,?_⟩⟩⟩
   show rI FU _ (.int 2) (.int (if inV (.str x.nm) Dy=true then 1 else 0)) _ _
   rw [zm]
   have sR:=aj hR (.lst [V.str "both",.str "meet"])
   have s5:=sL.trans sR
   have OJ:gz (upd (upd H4 Le (.lst [])) R (.lst [V.str "both",.str "meet"])) Le [] []:=⟨sR _ _ ag,rfl,λi a r e=>by cases e⟩
   revert s5 OJ
   generalize upd (upd H4 Le (.lst [])) R (.lst [V.str "both",.str "meet"])=H5
   intro s5 OJ
   have hm:∃m:Int,(2:Int)*(if ck x=true then 1 else 0)=m/\0<=m/\m<=2/\(ck x=false->m=0)/\(ck x=true->m=2):=by
    cases ck x
    ·exact⟨0,rfl,by decide,by decide,λ_=>rfl,λz=>by cases z⟩
    ·exact⟨2,rfl,by decide,by decide,λz=>(by cases z),λ_=>rfl⟩
   obtain⟨mm,em,m0,m2,mf,mt⟩:=hm
   refine⟨2,_,rfl,rfl,.inl ⟨by decide,by decide⟩,_,rfl,?_⟩
   rw [em]
   refine⟨(jh m0 (by omega)).1,(jh m0 (by omega)).2,?_⟩
   refine e9 (n:=mm.toNat) (TF n bi p pl gi fd i a u2 Le H4 x hh fi h fl ws pi kv)
    ⟨[],[],gi,fi,Bm,⟨_,_,_,rfl⟩,OJ,rfl,λe he=>(by cases he),s5 _ _ (DC _ _ hgi),aE.of s5,eX.of s5,s5 _ _ wc,λm _=>(by rw [Nat.zero_mul]; exact Kk),λ_=>⟨Kk,rfl,rfl⟩,λm e hb'=>(by subst e; rw [hrun,Hl hb']; rfl)⟩ ?_ ?_
   ·rintro j σ H6 hj ⟨as,es,af,fa,Ba,⟨sy,rL,Iz,rfl⟩,JO,hel,hez,hfa,rX,g6,yx,MD,_,d0⟩
    have hbr:ck x=true:=by
     cases hq:ck x with
     | true=>rfl
     | false=>rw [mf hq]at hj; exact VY hj (Nat.not_lt_zero _)
    have hj2:j<2:=by rw [mt hbr]at hj; exact hj
    obtain⟨m,rfl⟩ :∃m,n=m+1:=by
     cases n with
     | zero=>rw [KH ha]at hbr; cases hbr
     | succ m=>exact⟨m,rfl⟩
    have MD:=MD m rfl
    have hcs:=nH m
    have So:j*bnd m+bnd m<=2*bnd m:=by have:=Nat.mul_le_mul_right (bnd m) hj2; rw [Nat.succ_mul]at this; exact this
    have d0:=d0 m rfl hbr
    obtain⟨vs,c0,c1,p0,q0,hav,hpq,SG,Uc⟩:=Dz ha hbr
    have TC:∃(cj:Addr) (pj:List Wk),jj (vs++[.ref c0,.ref c1]) ((j:Int)-2)=some (.ref cj)/\jC m H cj pj/\(dA x)[j]? = some pj:=by
     rw [hpq]
     match j,hj2 with
     | 0,_=>exact⟨c0,p0,HJ,SG,rfl⟩
     | 1,_ =>
      refine⟨c1,q0,?_,Uc,rfl⟩
      have:=oE (vs++[V.ref c0]) (V.ref c1)
      rw [List.append_assoc]at this
      exact this
    obtain⟨cj,pj,hat,T1,OW⟩:=TC
    rw [nP OW]at d0
    have Qk:aE H H6:=JN.trans rX
    refine ak ?_
    dsimp only
    refine⟨_,rfl,_,rfl,_,rfl,_,_,rfl,rfl,a,_,_,_,rfl,rfl,aH.of (Qk _ _ hav),(by rw [Int.zero_add]; exact hat),_,rfl,_,rfl,dH,λu7 PD=>?_⟩
    have sB:=aj PD (.tup [.int (0+(j:Int))])
    refine⟨u2,u7,_,_,rfl,rfl,sB _ _ (rX _ _ uR),ag,by rw [Vr,Vs]; exact Vo (show _+1+1<=1000 by omega) (by decide),λu8 H8 s8 iD=>?_⟩
    rw [Int.zero_add,Ee]at iD
    have wW:=sB.trans s8
    have Lz:=rX.trans (aE.of wW)
    have Py:=JN.trans Lz
    have g8:eX fd H H8:=(gr.trans g4).trans (g6.trans (eX.of wW))
    refine⟨_,rfl,_,rfl,bi,cj,u8,gi,fd,hh,pj,(pi++[(i:Int)])++[(j:Int)],fi,Ba,rfl,⟨Lz _ _ (DC _ _ hbi),T1.keep Py,iD,Lz _ _ (DC _ _ hgi),wW _ _ yx,(hok.2 x (Vy ex)).2 pj (Vy OW),(hdr x (Vy ex)).2 pj (Vy OW),h6,by rw [Vs,Vs]; show _+1+1+_<=_; omega,by omega⟩,λu9 H9 OT g9 ML hk9 Iq=>ak ?_⟩
    dsimp only
    have Ow:aE H8 H9:=g9.rB (wW _ _ yx)
    cases er:putL (bC m) ((pi++[(i:Int)])++[(j:Int)]) 0 hh fi pj with
    | no a' s' =>
     rw [er]at Iq
     have htot:putL (bC (m+1)) pi 0 h fl ws=.no a' s':=by
      rw [d0]
      show bK (bK (putL (bC m) ((pi++[(i:Int)])++[(j:Int)]) 0 hh fi pj) _) _=_
      rw [er]
      rfl
     obtain⟨aa,hr1,hr2⟩:=Iq
     refine⟨_,rfl,u9,_,0,_,rfl,rfl,aH.of hr1,au (j:=0) rfl,rfl,_,rfl,cp ⟨_,rfl,q u9 H9 OT (g8.trans g9) ML (by omega) ?_⟩⟩
     rw [htot]
     exact⟨aa,hr1,hr2⟩
    | ok h' f' =>
     rw [er]at Iq
     obtain⟨aa,ab,hr1,hr2,QF⟩:=Iq
     refine⟨_,rfl,u9,_,0,_,rfl,rfl,aH.of hr1,au (j:=0) rfl,rfl,_,rfl,?_⟩
     rw [bP,Vp (by decide +kernel)]
     refine bB (aG ?_)
     dsimp only
     have hL9:H9 Le=some (.lst (as.map V.ref)):=g9 _ _ Ll (wW _ _ JO.lst)
     refine⟨_,rfl,.inl ⟨rfl,_,a_.of hL9⟩,_,rfl,u9,_,1,_,rfl,rfl,aH.of hr1,rfl,Le,_,_,rfl,rfl,hL9,by rw [Vr,JO.len,hel]; exact Nat.lt_trans hj2 (by decide),?_⟩
     have kX:aE H9 (upd H9 Le (.lst (as.map V.ref++[.ref aa]))):=aE.refl.vJ hL9
     have Qy:upd H9 Le (.lst (as.map V.ref++[.ref aa])) Le=some (.lst ((as++[aa]).map V.ref)):=by rw [ag,Vt]; rfl
     have P2:upd H9 Le (.lst (as.map V.ref++[.ref aa])) fd=some (.dT OT):=by rw [aI (Ne.symm Ll)]; exact ML
     have gX:eX fd H4 (upd H9 Le (.lst (as.map V.ref++[.ref aa]))):=eX.new hL ((g6.trans (eX.of wW)).trans g9)
     revert kX Qy P2 gX
     generalize upd H9 Le (.lst (as.map V.ref++[.ref aa]))=HX
     intro kX Qy P2 gX
     have NV:aE H6 HX:=((aE.of wW).trans Ow).trans kX
     refine⟨_,rfl,_,rfl,u9,_,2,_,rfl,rfl,aH.of (kX _ _ hr1),rfl,af,ab,rfl,⟨_,aH.of (NV _ _ hfa)⟩,⟨_,aH.of (kX _ _ QF)⟩,λDl hD=>?_⟩
     refine AB (xs:=NL fa) (ys:=NL f') (λi σ zs H'=>(∃o1 o2,σ=[o1,o2])/\zs=((JC fa f').take i).map V.bl/\zs.length=i/\H' Dl=some (.lst zs)/\aM HX H') ⟨⟨none,none,rfl⟩,rfl,rfl,ag,aj hD _⟩ ?_ ?_ rfl uJ ?_ ?_
     ·rintro i σ zs H' _ ⟨_,_,hi,hz,_⟩
      exact⟨hz,V_ hi⟩
     ·rintro i σ zs H' _ ⟨_,_,_,_,sm⟩
      exact⟨aH.of (sm _ _ (NV _ _ hfa)),aH.of (sm _ _ (kX _ _ QF))⟩
     ·rintro i x y σ zs H' T3 SD Ss ⟨⟨o1,o2,rfl⟩,rfl,hi,hz,sm⟩ Lr
      obtain⟨pb,qb,rfl,rfl,eo⟩:=Ny i x y SD Ss
      have tz:=aj Lr (.tup [.bl pb,.bl qb])
      refine⟨T3,_,rfl,aH.of ag,rfl,_,_,rfl,ak ⟨_,_,rfl,ak ⟨rfl,?_⟩⟩⟩
      have MV:∀w:Bool,w=(pb||qb)->upd H' T3 (.tup [.bl pb,.bl qb]) Dl=some (.lst (((JC fa f').take i).map V.bl))/\((JC fa f').take i).map V.bl++[V.bl w]=((JC fa f').take (i+1)).map V.bl/\(((JC fa f').take i).map V.bl++[V.bl w]).length=i+1:=by
       rintro w rfl
       refine⟨tz _ _ hz,?_,by rw [Vs,hi]; rfl⟩
       rw [take_one eo,Vt]; rfl
      refine⟨_,rfl,_,rfl,cJ (λz=>?_) (λz=>?_)⟩
      ·obtain⟨f1,f2,f3⟩:=MV true (by rw [z]; rfl)
       exact⟨f1,⟨_,_,rfl⟩,f2,f3,ag,bt hD (sm.trans tz)⟩
      ·obtain⟨f1,f2,f3⟩:=MV qb (by rw [VG.mpr z]; rfl)
       exact⟨_,rfl,f1,⟨_,_,rfl⟩,f2,f3,ag,bt hD (sm.trans tz)⟩
     ·rintro σ zs H' ⟨_,rfl,_,hz,sm⟩
      refine⟨Dl,_,rfl,.inl ⟨a_.of hz,λUi PK=>ak ?_⟩⟩
      have tU:=aj PK (.tup (((JC fa f').take (NL fa).length).map V.bl))
      have sX:=sm.trans tU
      refine⟨as++[aa],es++[h'],Ui,Hw fa f',OT,⟨_,_,_,rfl⟩,DQ JO (NV.trans (aE.of sX)) (sX _ _ (kX _ _ hr2)) (sX _ _ Qy),by rw [Vs,hel]; rfl,λe he=>?_,ag,(rX.trans NV).trans (aE.of sX),gX.trans (eX.of sX),sX _ _ P2,λm' e=>?_,λz=>(by cases z),λm' e _=>?_⟩
      ·rcases VH.mp he with z | z
       ·exact hez e z
       ·rw [VD.mp z]
        exact sg h6 er
      ·cases e
       rw [Nat.succ_mul]
       omega
      ·cases e
       rw [d0]
       show bK (bK (putL (bC m) ((pi++[(i:Int)])++[(j:Int)]) 0 hh fi pj) _) _=_
       rw [er]
       rfl
   ·rintro σ H6 ⟨as,es,af,fa,Ba,⟨sy,rL,Iz,rfl⟩,JO,hel,hez,hfa,rX,g6,yx,MD,hz0,d0⟩
    refine hT2 _ _ ⟨as,es,af,fa,Ba,⟨_,_,_,rfl⟩,JO,λhb'=>(by rw [hel,mt hb']; rfl),hez,hfa,rX,g6,yx,?_,?_⟩
    ·cases hq:ck x with
     | false=>have:=(hz0 (by rw [mf hq]; rfl)).1; omega
     | true =>
      obtain⟨m,rfl⟩ :∃m,n=m+1:=by
       cases n with
       | zero=>rw [KH ha]at hq; cases hq
       | succ m=>exact⟨m,rfl⟩
      have:=MD m rfl
      rw [mt hq]at this
      rw [nH]
      have e2:(2:Int).toNat=2:=rfl
      rw [e2]at this
      omega
    ·cases hq:ck x with
     | false =>
      obtain⟨_,z1,z2⟩:=hz0 (by rw [mf hq]; rfl)
      rw [hrun,DX hq,z1,z2]
     | true =>
      obtain⟨m,rfl⟩ :∃m,n=m+1:=by
       cases n with
       | zero=>rw [KH ha]at hq; cases hq
       | succ m=>exact⟨m,rfl⟩
      have:=d0 m rfl hq
      rw [mt hq,show(2:Int).toNat=(dA x).length from(ml hq).1.symm,List.drop_length]at this
      exact this
  rintro σ H6 ⟨as,es,af,fa,Ba,⟨sy,rL,Iz,rfl⟩,JO,he2,hez,hfa,rX,g6,yx,MD,d0⟩
  have Qk:aE H H6:=JN.trans rX
  have Ri:dF H6 bi hh:=rX _ _ (DC _ _ hbi)
  have Uv:ud H6 gi fi:=rX _ _ (DC _ _ hgi)
  have hLw:uU n H6 a bi Le x hh as es:=⟨ha.keep Qk,Ri,JO,he2,Nd.sm,GU Pg.1,Pg.2,Pg.1⟩
  have MO:∀e∈es,e.length<=1000:=λe he=>Vo (hez e he) (by decide)
  refine⟨_,rfl,_,rfl,_,rfl,_,rfl,a,bi,gi,Le,x,hh,fi,as,es,rfl,hLw,Uv,Nd.wide,Vo h6 (by decide),MO,λH7 s7=>ak ?_⟩
  have Q8:eX fd H H7:=((gr.trans g4).trans g6).trans (eX.of s7)
  dsimp only
  refine⟨_,rfl,rfl,_,rfl,?_⟩
  rw [bP]
  cases ew:fF x fi (lj x hh es)with
  | some s' =>
   have hfin:mK x hh fi (pi++[(i:Int)]) es fa=.no (pi++[(i:Int)]) s':=by unfold mK; rw [ew]
   have hne:FH (some s')≠"":=by
    unfold fF at ew
    intro z
    have z:s'="":=z
    subst z
    repeat' split at ew
    all_goals first | (cases ew; done) | (have:=VL ew; exact VY this (by decide +kernel))
   rw [Vp hne]
   refine cp ⟨_,rfl,_,rfl,fM,λu hu'=>?_⟩
   have t8:=aj hu' (.tup [.str "no",.ref u2,.str (FH (some s'))])
   refine q u _ Ba (Q8.trans (eX.of t8)) (t8 _ _ (s7 _ _ yx)) (by omega) ?_
   rw [d0,hfin]
   exact⟨u2,ag,t8 _ _ (s7 _ _ (rX _ _ uR))⟩
  | none =>
   obtain⟨hfit,T4⟩:=tS ew
   have hfin:mK x hh fi (pi++[(i:Int)]) es fa=.ok (bw x (lj x hh es)) (jo x hh fa):=by unfold mK; rw [ew]
   rw [Vq (show FH none="" from rfl)]
   refine bB (aG ?_)
   dsimp only
   have LD:ba x (lj x hh es)=true:=by
    unfold fF at ew
    rw [V0 hfit]at ew
    by_cases z:ba x (lj x hh es)=true
    ·exact z
    ·rw [VZ z]at ew; cases ew
   have hkeep:keepIn x hh:=by
    rintro c t rfl
    exact cM hfit (by simp [dg])
   refine⟨_,rfl,_,rfl,_,rfl,a,bi,af,x,hh,fa,rfl,hLw.wk.keep (aE.of s7),s7 _ _ Ri,s7 _ _ hfa,hkeep,λu8 H8 s8 iD=>ak ?_⟩
   dsimp only
   have N8:=s7.trans s8
   refine⟨_,rfl,_,rfl,_,rfl,a,bi,Le,x,hh,as,es,rfl,hLw.same N8,⟨hfit,LD,Vo h6 (by decide),MO⟩,λu9 H9 s9 KY=>ak ?_⟩
   refine⟨u9,u8,bw x (lj x hh es),jo x hh fa,Ba,⟨_,_,_,_,_,_,_,_,rfl⟩,KY,s9 _ _ iD,T4,(Q8.trans (eX.of s8)).trans (eX.of s9),s9 _ _ (N8 _ _ yx),?_,?_⟩
   ·rw [Nat.succ_mul]; omega
   ·rw [d0,hfin]; rfl
 ·rintro σ H' ⟨bi,gi,hh,fi,kv,⟨o5,o6,o7,o8,o9,sy,rL,Iz,rfl⟩,hbi,hgi,h6,gr,Ah,Nq,hrun⟩
  rw [hlb]at Nq hrun
  rw [List.drop_length]at hrun
  have Up:=Nat.mul_le_mul_right (cW n) hw9
  have k0:=gr.rB hfd
  dsimp only
  refine⟨_,rfl,gi,_,4,_,rfl,rfl,aH.of hgi,rfl,_,rfl,_,rfl,_,rfl,p,_,rfl,.inr (aH.of (k0 _ _ hI.tup)),dH,λu1 j6=>?_⟩
  have sU:=aj j6 (.tup [.int ((bs.map V.ref).length:Nat)])
  refine⟨pl,u1,_,_,rfl,rfl,sU _ _ (k0 _ _ hpl),ag,by rw [Vr]; exact Vo (show _+1<=1000 by omega) (by decide),λu2 H2 KO hu2=>?_⟩
  rw [Ee]at hu2
  have s2:=sU.trans KO
  refine⟨fd,_,rfl,Be.t (k:=kI (pi++[((bs.map V.ref).length:Int)])) (s2 _ _ Ah) (by rw [MB]; exact hu2) (Vu (show kv.length<=200000 by omega) (by decide)),?_⟩
  have Kk:(putK kv (kI (pi++[((bs.map V.ref).length:Int)])) (.bl fi.l)).length<=kv.length+1:=vC
  revert Kk
  generalize putK kv (kI (pi++[((bs.map V.ref).length:Int)])) (.bl fi.l)=Bm
  intro Kk
  have kU:aE H' (upd H2 fd (.dT Bm)):=(aE.of s2).Qe (s2 _ _ Ah)
  have wc:upd H2 fd (.dT Bm) fd=some (.dT Bm):=ag
  have gU:eX fd H (upd H2 fd (.dT Bm)):=(gr.trans (eX.of s2)).put
  revert kU wc gU
  generalize upd H2 fd (.dT Bm)=H3
  intro kU wc gU
  refine⟨_,rfl,_,rfl,fM,λu hu'=>?_⟩
  have t:=aj hu' (.tup [.str "head",.ref bi,.ref gi])
  refine q u _ Bm (gU.trans (eX.of t)) (t _ _ wc) (by omega) ?_
  rw [hrun]
  exact⟨bi,gi,ag,t _ _ (kU _ _ hbi),t _ _ (kU _ _ hgi)⟩
structure Ae(n:Nat)(H:Hp)(b p:Addr)(h:Hd)(ws:List Wk):Prop where
 hd:dF H b h
 pp:jC n H p ws
 ok:ra n ws
 dr:qu n ws
 six:h.length<=6
def DE(n:Nat):Sp:=λvs H Q _=>∃(b p:Addr) (h:Hd) (ws:List Wk),vs=[.ref b,.ref p]/\Ae n H b p h ws/\2*n<=100/\bnd n<=200000/\∀(u:Addr) (H':Hp),aM H H'->IL H' u (fK n h ws)->Q (.ref u) H'
abbrev ij:Stmt:=top 77
theorem ow:ay ["_law_head","_law_pipe_here"] ["_law_head","_law_pipe_here"] (ar ij):=fs
theorem Ar{n L:Nat}(F:FA K mg "_law_judged" ij)
  (kZ:bf bc P w K mg base (L+6) "_law_put" ["_law_head","_law_pipe_here","_law_place","_law_flags_here","_law_found"] (tE (n+1))) :
  bf bc P w K mg base (L+7) "_law_judged" ["_law_head","_law_pipe_here"] (DE n):=by
 refine F.ok ow λf cdv A outer s H vs Q E hr h=>?_
 have hu:=iD hr
 have hu1:=jb hr
 obtain⟨b,p,h,ws,rfl,hI,hn2,hbn,q⟩:=h
 refine⟨_,(ax (av kZ hr (ae (pv 0) (ae (pv 1) (ae (aJ ah) (ae (aJ (ae eE (ae eE (ae eE (ae eE (ae eE ah)))))) (ae BM ah))))))),?_⟩
 refine⟨_,rfl,_,rfl,yf,λu1 j6=>?_⟩
 have s1:=aj j6 (.tup [])
 refine⟨uJ,λu2 hu2=>?_⟩
 have s2:=aj hu2 (.tup [.bl false,.bl false,.bl false,.bl false,.bl false])
 have e1:=s2 _ _ (ag (H:=H) (a:=u1) (o:=.tup []))
 have e2:upd (upd H u1 (.tup [])) u2 (.tup [.bl false,.bl false,.bl false,.bl false,.bl false]) u2=_:=ag
 have s12:=s1.trans s2
 revert s12 e1 e2
 generalize upd (upd H u1 (.tup [])) u2 (.tup [.bl false,.bl false,.bl false,.bl false,.bl false])=H2
 intro e1 e2 s12
 refine λD hD=>?_
 have s3:=aj hD (.dT [])
 have qE:=s12.trans s3
 have k13:=aE.of qE
 refine⟨b,p,u1,u2,D,h,ws,[],f0,[],rfl,⟨qE _ _ hI.hd,hI.pp.keep k13,s3 _ _ e1,s3 _ _ e2,ag,hI.ok,hI.dr,hI.six,by simpa using hn2,by simpa using hbn⟩,λu H' Vb g' hf' hk' hR=>?_⟩
 exact q u H' (lg (s12.free hD) qE g') hR
def Dd(n:Nat)(h:Hd)(ws:List Wk):Hd:=match fK n h ws with
 | .ok h' _=>h'
 | .no _ _=>h
def Ib(n:Nat):Sp:=λvs H Q _=>∃(b p:Addr) (h:Hd) (ws:List Wk),vs=[.ref b,.ref p]/\Ae n H b p h ws/\2*n<=100/\bnd n<=200000/\∀(u:Addr) (H':Hp),aM H H'->dF H' u (Dd n h ws)->Q (.ref u) H'
abbrev kl:Stmt:=top 78
theorem nh:ay ["_law_head","_law_pipe_here","_law_tale"] ["_law_head","_law_pipe_here"] (ar kl):=fs
theorem Js{n L:Nat}(F:FA K mg "_law_end" kl)
  (hV:bf bc P w K mg base (L+7) "_law_judged" ["_law_head","_law_pipe_here"] (DE n)) :
  bf bc P w K mg base (L+8) "_law_end" ["_law_head","_law_pipe_here"] (Ib n):=by
 refine F.ok nh λf cdv A outer s H vs Q E hr h=>?_
 obtain⟨b,p,h,ws,rfl,hI,hn2,hbn,q⟩:=h
 refine⟨_,(aq (aL (i:=2) nh.nd rfl (V2 rfl) (av hV hr (ae (pv 0) (ae (pv 1) ah))))
   (ax (gq (aU aP (az K (pv 2) ai) ao) (az K (pv 2) ai) (pv 0)))),?_⟩
 refine⟨_,rfl,_,rfl,b,p,h,ws,rfl,hI,hn2,hbn,λu H' s' hR=>ak ?_⟩
 dsimp only
 unfold Dd at q
 cases er:fK n h ws with
 | ok h' f' =>
  rw [er]at hR q
  obtain⟨a1,a2,h1,h2,h3⟩:=hR
  refine⟨_,rfl,u,_,0,_,rfl,rfl,aH.of h1,au (j:=0) rfl,rfl,_,rfl,?_⟩
  rw [bP,Vq rfl]
  exact cp ⟨_,rfl,u,_,1,_,rfl,rfl,aH.of h1,rfl,q a1 H' s' h2⟩
 | no a1 s1 =>
  rw [er]at hR q
  obtain⟨a1,h1,h2⟩:=hR
  refine⟨_,rfl,u,_,0,_,rfl,rfl,aH.of h1,au (j:=0) rfl,rfl,_,rfl,?_⟩
  rw [bP,Vp (by decide +kernel)]
  exact bB ⟨_,rfl,q b H' s' (s' _ _ hI.hd)⟩
def Qf:Wk->Prop
 | .one x=>ne1 x
 | _=>True
theorem F7{x:Wk}{hs:List Hd}(hx:Qf x)(h:hs.headD []≠[]):bw x hs≠[]:=by
 match x with
 | .one (.cut cs)=>intro z; exact hx (List.map_eq_nil_iff.mp z)
 | .one (.must c ps) =>
  intro z
  have z:((hs.headD []).take (c-1).toNat++(ps.take 1).map (λp=>sW p.2))++(hs.headD []).drop c.toNat=[]:=z
  have z1:=(List.append_eq_nil_iff.mp (List.append_eq_nil_iff.mp z).1).2
  have hp:ps≠[]:=hx.1
  cases ps with
  | nil=>exact hp rfl
  | cons p ps=>cases z1
 | .one (.walk ..)=>intro z; exact VY (List.append_eq_nil_iff.mp z).2 (by simp)
 | .one (.count ..)=>intro z; exact VY (List.append_eq_nil_iff.mp z).2 (by simp)
 | .one (.sum ..)=>intro z; exact VY (List.append_eq_nil_iff.mp z).2 (by simp)
 | .one .number=>intro z; exact VY (List.append_eq_nil_iff.mp z).2 (by simp)
 | .meet ..=>intro z; exact h (List.append_eq_nil_iff.mp (List.append_eq_nil_iff.mp z).1).1
 | .one (.keep ..)=>exact h
 | .one (.same ..)=>exact h
 | .one (.turn ..)=>exact h
 | .one (.sort ..)=>exact h
 | .one .apart=>exact h
 | .one (.first ..)=>exact h
 | .both ..=>exact h
theorem BU{x:Wk}(h:Km x):Qf x:=by
 cases x with
 | one x=>exact AA.ne h
 | both p q=>trivial
 | meet c d p q=>trivial
theorem xr{x:Wk}{h h1:Hd}{f f1:Fl}{pl:List Int}(hx:Qf x){es:List (Hd×Fl)}(hes:(es.map λe=>e.1).headD []≠[])(e:eW x h f pl es=.ok h1 f1):h1≠[]:=by
 unfold eW at e
 split at e
 ·cases e
 ·cases e; exact F7 hx hes
theorem uK{step:Hd->Fl->List Int->Wk->Res}{P:Wk->Prop}(S:∀x h f pl h' f',P x->h≠[]->step h f pl x=.ok h' f'->h'≠[]){pl:List Int}:∀{ws:List Wk} {i:Nat} {h:Hd} {f:Fl} {h':Hd} {f':Fl},(∀x∈ws,P x)->h≠[]->putL step pl i h f ws=.ok h' f'->h'≠[]
 | [],i,h,f,h',f',_,hn,e=>by cases e; exact hn
 | x::ws,i,h,f,h',f',hp,hn,e=>by
  obtain⟨h1,f1,e1,e2⟩:=dQ e
  exact uK S (λy hy=>hp y (Vz _ hy)) (S x _ _ _ _ _ (hp x VU) hn e1) e2
theorem zA{n:Nat}{ws:List Wk}(h:qu n ws):∀x∈ws,qu n [x]:=by
 intro x hx
 cases n <;> exact λy hy=>by rw [VD.mp hy]; exact h x hx
theorem Mi:∀(n:Nat) (x:Wk) (h:Hd) (f:Fl) (pl:List Int) (h':Hd) (f':Fl),qu n [x]->h≠[]->bC n h f pl x=.ok h' f'->h'≠[]
 | 0,x,h,f,pl,h',f',hd,hn,e=>xr (BU (hd x VU).1) (es:=[(h,f)]) hn e
 | n+1,x,h,f,pl,h',f',hd,hn,e=>by
  obtain⟨hx,hb2⟩:=hd x VU
  have hx:=BU hx.1
  cases hb:ck x with
  | false=>rw [iQ hb]at e; exact xr hx (es:=[(h,f)]) hn e
  | true =>
   rw [oo hb]at e
   obtain⟨p,q,hpq⟩:=sO hb
   rw [hpq]at e hb2
   obtain⟨h2,f2,e3,e⟩:=dQ e
   obtain⟨_,_,_,e⟩:=dQ e
   refine xr hx ?_ e
   exact uK (Mi n) (zA (hb2 p VU)) hn e3
theorem LC{n:Nat}{pl:List Int}{ws:List Wk}{i:Nat}{h:Hd}{f:Fl}{h':Hd}{f':Fl}(hd:qu n ws)(hn:h≠[])(e:putL (bC n) pl i h f ws=.ok h' f'):h'≠[]:=uK (Mi n) (zA hd) hn e
def dep:Nat->Wk->Prop
 | _,.one _=>True
 | 0,_=>False
 | n+1,.both p q=>(∀x∈p,dep n x)/\∀x∈q,dep n x
 | n+1,.meet _ _ p q=>(∀x∈p,dep n x)/\∀x∈q,dep n x
theorem fR{α:Type}{At:Hp->Addr->α->Prop}{H:Hp}{p:Addr}{bs:List Addr}{xs:List α}(h:bF At H p bs xs){x:α}(hx:x∈xs):∃a,At H a x:=by
 obtain⟨i,e⟩:=List.mem_iff_getElem?.mp hx
 have hi:i<bs.length:=by rw [h.len]; exact(VC.mp e).1
 exact⟨_,h.at_ i _ x (Vw hi) e⟩
theorem mD:∀{n:Nat} {H:Hp} {a:Addr} {x:Wk},cX n H a x->dep n x
 | 0,H,a,.one x,h=>trivial
 | n+1,H,a,.one x,h=>trivial
 | n+1,H,a,.both p q,h=>by
  obtain⟨b,c,bs,cs,h1,h2,h3⟩:=h
  exact⟨λx hx=>by obtain⟨a,z⟩:=fR h2 hx; exact mD z,λx hx=>by obtain⟨a,z⟩:=fR h3 hx; exact mD z⟩
 | n+1,H,a,.meet c d p q,h=>by
  obtain⟨b,e,bs,es,h1,h2,h3⟩:=h
  exact⟨λx hx=>by obtain⟨a,z⟩:=fR h2 hx; exact mD z,λx hx=>by obtain⟨a,z⟩:=fR h3 hx; exact mD z⟩
theorem oh{n:Nat}{x:Wk}(h:dep (n+1) x){p:List Wk}(hp:p∈dA x):∀y∈p,dep n y:=by
 cases x with
 | one x=>cases hp
 | both a b =>
  simp only [dA,VF,V1,or_false]at hp
  rcases hp with rfl | rfl
  ·exact h.1
  ·exact h.2
 | meet c d a b =>
  simp only [dA,VF,V1,or_false]at hp
  rcases hp with rfl | rfl
  ·exact h.1
  ·exact h.2
theorem wM{x:Wk}(h:dep 0 x):dA x=[]:=by
 cases x with
 | one x=>rfl
 | both a b=>exact V4 h
 | meet c d a b=>exact V4 h
theorem ra.up:∀{n:Nat} {ws:List Wk},(∀x∈ws,dep n x)->ra n ws->ra (n+1) ws
 | 0,ws,hd,h=>⟨h.1,λx hx=>⟨h.2 x hx,λp hp=>by rw [wM (hd x hx)]at hp; cases hp⟩⟩
 | n+1,ws,hd,h=>⟨h.1,λx hx=>⟨(h.2 x hx).1,λp hp=>ra.up (oh (hd x hx) hp) ((h.2 x hx).2 p hp)⟩⟩
theorem qu.up:∀{n:Nat} {ws:List Wk},(∀x∈ws,dep n x)->qu n ws->qu (n+1) ws
 | 0,ws,hd,h=>λx hx=>⟨h x hx,λp hp=>by rw [wM (hd x hx)]at hp; cases hp⟩
 | n+1,ws,hd,h=>λx hx=>⟨(h x hx).1,λp hp=>qu.up (oh (hd x hx) hp) ((h x hx).2 p hp)⟩
structure aY(n:Nat)(H:Hp)(p:Addr)(ws:List Wk):Prop where
 pp:jC n H p ws
 ok:ra n ws
 dr:qu n ws
theorem aY.up{n:Nat}{H:Hp}{p:Addr}{ws:List Wk}(h:aY n H p ws):aY (n+1) H p ws:=by
 obtain⟨⟨bs,hb⟩,h2,h3⟩:=h
 have hd:∀x∈ws,dep n x:=λx hx=>by obtain⟨a,z⟩:=fR hb hx; exact mD z
 exact⟨⟨bs,hb.tup,hb.len,λi a x e1 e2=>(hb.at_ i a x e1 e2).up⟩,h2.up hd,h3.up hd⟩
theorem aY.to{n:Nat}{H:Hp}{p:Addr}{ws:List Wk}(h:aY n H p ws)(m:Nat):aY (n+m) H p ws:=by
 induction m with
 | zero=>exact h
 | succ m ih=>exact ih.up
theorem aY.le{n m:Nat}{H:Hp}{p:Addr}{ws:List Wk}(h:aY n H p ws)(e:n<=m):aY m H p ws:=by
 have:=h.to (m-n)
 rwa [show n+(m-n)=m by omega]at this
theorem aY.keep{n:Nat}{H H':Hp}{p:Addr}{ws:List Wk}(k:aE H H')(h:aY n H p ws):aY n H' p ws:=⟨h.pp.keep k,h.ok,h.dr⟩
structure jq(n:Nat)(H:Hp)(a:Addr)(x:Wk):Prop where
 wk:cX n H a x
 ok:Bw x
 dr:Km x
 pm:Eu x
 br:∀p∈dA x,ra (n-1) p/\qu (n-1) p
theorem aY.snoc{n:Nat}{H:Hp}{p u a:Addr}{bs:List Addr}{ws:List Wk}{x:Wk}(hI:bF (cX n) H p bs ws)(ho:ra n ws)(hd:qu n ws)(hx:jq n H a x)(hl:ws.length<9)(hu:H u=some (.tup ((bs++[a]).map V.ref))):aY n H u (ws++[x]):=by
 refine⟨⟨bs++[a],hu,by rw [Vs,Vs,hI.len]; rfl,λi b y e1 e2=>?_⟩,?_,?_⟩
 ·by_cases hi:i<bs.length
  ·rw [VN hi]at e1
   rw [VN (by rw [←hI.len]; exact hi)]at e2
   exact hI.at_ i b y e1 e2
  ·have hi':i=bs.length:=by
    have:=(VC.mp e1).1
    rw [Vs]at this
    simp at this
    omega
   rw [hi',VM (Vn _),Nat.sub_self]at e1
   rw [hi',hI.len,VM (Vn _),Nat.sub_self]at e2
   cases e1
   cases e2
   exact hx.wk
 ·have hl':(ws++[x]).length<=11:=by rw [Vs]; simp; omega
  cases n with
  | zero =>
   refine⟨hl',λy hy=>?_⟩
   rcases VH.mp hy with z | z
   ·exact ho.2 y z
   ·rw [VD.mp z]; exact hx.ok
  | succ n =>
   refine⟨hl',λy hy=>?_⟩
   rcases VH.mp hy with z | z
   ·exact ho.2 y z
   ·rw [VD.mp z]; exact⟨hx.ok,λp hp=>(hx.br p hp).1⟩
 ·cases n with
  | zero =>
   intro y hy
   rcases VH.mp hy with z | z
   ·exact hd y z
   ·rw [VD.mp z]; exact⟨hx.dr,hx.pm⟩
  | succ n =>
   intro y hy
   rcases VH.mp hy with z | z
   ·exact hd y z
   ·rw [VD.mp z]; exact⟨⟨hx.dr,hx.pm⟩,λp hp=>(hx.br p hp).2⟩
theorem AA.all{n:Nat}{H:Hp}{a:Addr}{x:W1}(h:j9 H a x)(d:AA x):jq n H a (.one x):=by
 refine⟨cb.mpr h,⟨d.sm,d.good,?_,λp hp=>by cases hp⟩,d,trivial,λp hp=>by cases hp⟩
 cases x <;> first | trivial | exact d.ne.1
def lW(K:Wg):Nat->Sp
 | 0=>λ_ _ _ _=>False
 | N+1=>λvs H Q _=>∃(p b:Addr) (h:Hd) (d m:Nat) (si:Bool),vs=[.ref p,.ref b,.int d,.int m,.bl si]/\dy H p/\de K H b h/\d<=N/\m<=9/\∀(u:Addr) (ws:List Wk) (H':Hp),bp p H H'->aY d H' u ws->ws.length<=m->Q (.ref u) H'
def zV(K:Wg)(N:Nat):Sp:=λvs H Q _=>∃(p b:Addr) (h:Hd) (d:Nat) (wd:Str),vs=[.ref p,.ref b,.int d,.str wd]/\dy H p/\de K H b h/\1<=d/\d<=N/\(wd="both"\/wd="meet")/\∀(u:Addr) (x:Wk) (H':Hp),bp p H H'->jq d H' u x->Q (.ref u) H'
def zF(K:Wg)(N:Nat):Sp:=λvs H Q _=>∃(p b:Addr) (h:Hd) (d:Nat) (si:Bool),vs=[.ref p,.ref b,.int d,.bl si]/\dy H p/\de K H b h/\d<=N/\∀(u:Addr) (x:Wk) (H':Hp),bp p H H'->jq d H' u x->Q (.ref u) H'
end My
namespace L2
open PySem PySem.Spec PyProof.Rows
theorem Ct(l:Addr)(items:Array Value)(n:Nat)(dd:Option Addr)(sl:Array (Option Value))(t:Tok)(hi:items.isEmpty=false) :
  Meets (Builtin.«tuple.__mul__» ⟨[.ref l,.int 0 t],[]⟩) (λ_ R s=>s.heap.get? l=some ⟨.type "tuple",dd,.seq items n,sl⟩/\
   R (.ok (.ret (.ref s.heap.objs.size))) {s with heap:=s.heap.push {cls:=.type "tuple",data:=.seq #[]}}) :=
 .of_wp λprog w A R s h=>by
  obtain⟨hp,g,d,tk,os⟩:=s; obtain⟨hl,h⟩:=h
  have c1:¬(decide ((0:Int) < -2 ^ 63)||decide ((0:Int)≥2 ^ 63))=true:=by decide
  have c2:¬(items.isEmpty||(0:Int)==1)=true:=by
   rw [hi,Bool.false_or]; decide
  have c3:(decide ((0:Int)<=0)||items.isEmpty)=true:=by
   rw [hi,Bool.or_false]; decide
  wp_walk
  exact⟨_,rfl,h⟩
theorem Cz(l:Addr)(items:Array Value)(n:Nat)(dd:Option Addr)(sl:Array (Option Value))(t:Tok)(hi:items.isEmpty=false) :
  Meets (Builtin.«tuple.__mul__» ⟨[.ref l,.int 1 t],[]⟩) (λ_ R s=>s.heap.get? l=some ⟨.type "tuple",dd,.seq items n,sl⟩/\
   R (.ok (.ret (.ref l))) s) :=
 .of_wp λprog w A R s h=>by
  obtain⟨hp,g,d,tk,os⟩:=s; obtain⟨hl,h⟩:=h
  have c1:¬(decide ((1:Int) < -2 ^ 63)||decide ((1:Int)≥2 ^ 63))=true:=by decide
  have c2:(items.isEmpty||(1:Int)==1)=true:=by
   rw [hi,Bool.false_or]; decide
  wp_walk
  exact⟨_,rfl,h⟩
section
variable{X:Cx}
def K5(K:Wg):R2:=λx y H Q=>∃l k xs,x=.ref l/\y=.int k/\aH K H l xs/\xs≠[]/\((k=0/\∀p,H p=none->Q (.ref p) (upd H p (.tup [])))\/(k=1/\Q (.ref l) H))
theorem wj:je X (binaryOp .Mult) (K5 X.K):=by
 intro pins s σ H x y v u Q I rx ry h
 obtain⟨l,k,xs,rfl,rfl,hq,hx,h⟩:=h
 cases rx
 obtain⟨t,rfl⟩:=ry
 obtain⟨its,r,⟨o,e,hc,n,hd⟩,_⟩:=I.tuple hq
 obtain⟨c,dd,da,sl⟩:=o
 cases(show c=.type "tuple" from hc)
 cases(show da=.seq its.toArray n from hd)
 have hl:=r.length
 have hi:its.toArray.isEmpty=false:=by
  cases its with
  | nil=>exact VY (List.eq_nil_of_length_eq_zero (by rw [hl]; rfl)) hx
  | cons a r=>rfl
 rcases h with⟨rfl,q⟩ | ⟨rfl,q⟩
 ·refine wpAny_binaryOp_repeat_ref (T:="tuple") (U:="int") (by decide) ⟨_,e,rfl⟩ (λs'=>typeIs_int s' 0 t) gm F.fills_int_mul F.slot_int_rmul ui F.slot_int_index.lookup
   (call_meets F.slot_int_rmul (typeIs_int s 0 t) F.entry_int_rmul (F.args_int_rmul_2 _ _) (iY 0 t l its.toArray n dd sl)
    ⟨e,rfl,⟨_,e,rfl⟩,call_meets F.slot_tuple_mul ⟨_,e,rfl⟩ F.entry_tuple_mul (F.args_tuple_mul_2 _ _) (Ct l its.toArray n dd sl t hi) ⟨e,?_⟩⟩)
  refine⟨.ref s.heap.objs.size,_,I.laid (t':=s.toks) (o:=.tup []) (λb ob q=>Vk _ q) (Vn _) ?_,rfl,q _ (I.hok.fresh (Vn _))⟩
  exact⟨VJ _,[],.nil,ic.new _ _⟩
 ·refine wpAny_binaryOp_repeat_ref (T:="tuple") (U:="int") (by decide) ⟨_,e,rfl⟩ (λs'=>typeIs_int s' 1 t) gm F.fills_int_mul F.slot_int_rmul ui F.slot_int_index.lookup
   (call_meets F.slot_int_rmul (typeIs_int s 1 t) F.entry_int_rmul (F.args_int_rmul_2 _ _) (iY 1 t l its.toArray n dd sl)
    ⟨e,rfl,⟨_,e,rfl⟩,call_meets F.slot_tuple_mul ⟨_,e,rfl⟩ F.entry_tuple_mul (F.args_tuple_mul_2 _ _) (Cz l its.toArray n dd sl t hi) ⟨e,?_⟩⟩)
  exact⟨.ref l,H,I,rfl,q⟩
end
end L2
namespace My
open PySem L2
theorem K3:bnd 2<=200000:=by decide
theorem aY.cons{n:Nat}{H:Hp}{p u a:Addr}{bs:List Addr}{ws:List Wk}{x:Wk}(hI:bF (cX n) H p bs ws)(ho:ra n ws)(hd:qu n ws)(hx:jq n H a x)(hl:ws.length<9)(hu:H u=some (.tup ((a::bs).map V.ref))):aY n H u (x::ws):=by
 refine⟨⟨a::bs,hu,by rw [VV,VV,hI.len],λi b y e1 e2=>?_⟩,?_,?_⟩
 ·cases i with
  | zero=>cases e1; cases e2; exact hx.wk
  | succ i=>exact hI.at_ i b y e1 e2
 ·have hl':(x::ws).length<=11:=by rw [VV]; omega
  cases n with
  | zero =>
   refine⟨hl',λy hy=>?_⟩
   rcases VF.mp hy with rfl | z
   ·exact hx.ok
   ·exact ho.2 y z
  | succ n =>
   refine⟨hl',λy hy=>?_⟩
   rcases VF.mp hy with rfl | z
   ·exact⟨hx.ok,λp hp=>(hx.br p hp).1⟩
   ·exact ho.2 y z
 ·cases n with
  | zero =>
   intro y hy
   rcases VF.mp hy with rfl | z
   ·exact⟨hx.dr,hx.pm⟩
   ·exact hd y z
  | succ n =>
   intro y hy
   rcases VF.mp hy with rfl | z
   ·exact⟨⟨hx.dr,hx.pm⟩,λp hp=>(hx.br p hp).2⟩
   ·exact hd y z
abbrev fY:Stmt:=top 79
theorem dq:ay ["_law_pot_here","_law_head","_law_deep","_law_word_here","_law_many_here","_law_one","_law_other_here"] ["_law_pot_here","_law_head","_law_deep","_law_word_here"] (ar fY):=fs
variable{P:Program}{w:World}{K:Wg}{mg:Str->Option Value}{base:Heap}
theorem oO{N L Le:Nat}(hN:N<=2)(h5:5<=L)(hLe:Le<=L)(B2:iW mg)(F:FA K mg "_law_joining" fY)
  (bz:bf bc P w K mg base 1 "_law_draw" ["_law_pot_here","_law_many_here"] dB)
  (gH:bf bc P w K mg base L "_law_pipe" ["_law_pot_here","_law_head","_law_deep","_law_many_here","_law_simple"] (lW K N))
  (kh:bf bc P w K mg base 2 "_law_column" ["_law_pot_here","_law_head"] (iz K))
  (qA:bf bc P w K mg base Le "_law_end" ["_law_head","_law_pipe_here"] (Ib 2))
  (xi:bf bc P w K mg base 3 "_law_set" ["_law_pot_here","_law_sort"] (DJ K)) :
  bf bc P w K mg base (L+1) "_law_joining" ["_law_pot_here","_law_head","_law_deep","_law_word_here"] (zV K N):=by
 refine F.ok dq λf cdv A outer s H vs Q E hr h=>?_
 have hu:=iD hr
 obtain⟨p,b,h,d,wd,rfl,hP,hH,hd1,Oq,Ir,q⟩:=h
 refine⟨_,(aq (aL (i:=4) dq.nd rfl (V2 rfl) (aQ (ae (av bz hr (ae (pv 0) (ae ai ah))) (ae (av bz hr (ae (pv 0) (ae ai ah))) ah))))
   (aq (aL (i:=5) dq.nd rfl (V2 rfl) (av gH hr (ae (pv 0) (ae (pv 1) (ae (bo K (aQ (ae (aD bO (pv 2) ai) (ae ai ah))) (aW cE rfl B2.int V7 (ae (bT aP (pv 3) ao) ah))) (ae (bo K (pv 4) ai) (ae (pY (bT aP (pv 3) ao) (dc (bT C8 (av bz hr (ae (pv 0) (ae ai ah))) ai))) ah)))))))
   (aq (aL (i:=6) dq.nd rfl (V2 rfl) (av gH hr (ae (pv 0) (ae (pv 1) (ae (bo K (aQ (ae (aD bO (pv 2) ai) (ae ai ah))) (aW cE rfl B2.int V7 (ae (bT aP (pv 3) ao) ah))) (ae (bo K (pv 4) ai) (ae (pY (bT aP (pv 3) ao) (dc (bT C8 (av bz hr (ae (pv 0) (ae ai ah))) ai))) ah)))))))
   (aN (aU aP (pv 3) ao) (aJ (ae ao (ae (av kh hr (ae (pv 0) (ae (av qA hr (ae (pv 1) (ae (pv 5) ah))) ah))) (ae (av kh hr (ae (pv 0) (ae (av qA hr (ae (pv 1) (ae (pv 6) ah))) ah))) (ae (pv 5) (ae (pv 6) ah))))))
   (aq (du (aU gG (av bz hr (ae (pv 0) (ae ai ah))) ai)
    (bM (aL (i:=6) dq.nd rfl (V2 rfl) (aD bZ (aD wj (aJ (ae (aJ (ae ao (ae ai (ae (av xi hr (ae (pv 0) (ae (az K (pv 1) ai) ah))) ah)))) ah)) (av bz hr (ae (pv 0) (ae ai ah)))) (pv 5))))
    b9)
   (ax (aJ (ae ao (ae (pv 5) (ae (pv 6) ah)))))))))),?_⟩
 have h4:∀m:Int,m=4\/m=3\/m=9\/m=2->0<m/\m.natAbs.log2<9000:=by rintro m (rfl | rfl | rfl | rfl) <;> exact⟨by decide,by decide⟩
 refine⟨_,rfl,p,_,rfl,hP,by decide,by decide,λd1 H1 g1 a1 b1=>⟨_,rfl,p,_,rfl,g1.cq,by decide,by decide,λd2 H2 g2 a2 b2=>⟨cN,λM hM=>ak ?_⟩⟩⟩
 have NR:=g1.trans g2
 have nM:=NR.ne hM
 have gM:=NR.new (o:=.lst [.int d1,.int d2]) hM
 have Om:upd H2 M (.lst [.int d1,.int d2]) M=some (.lst [.int d1,.int d2]):=ag
 revert gM Om
 generalize upd H2 M (.lst [.int d1,.int d2])=HM
 intro gM Om
 dsimp only
 obtain⟨N',rfl⟩ :∃N',N=N'+1:=⟨N-1,by omega⟩
 have call:∀(σ:St) (j:Int) (m:Int) (H1:Hp),bp p H H1->σ[0]? = some (some (.ref p))->σ[1]? = some (some (.ref b))->σ[2]? = some (some (.int d))->σ[3]? = some (some (.str wd))->σ[4]? = some (some (.ref M))->H1 M=some (.lst [.int d1,.int d2])->jj [V.int d1,V.int d2] j=some (.int m)->0<=m->m<=3->
   ∀(Qc:VK),(∀(u:Addr) (ws:List Wk) (H':Hp),bp p H1 H'->aY (if wd="meet" then 0 else d-1) H' u ws->ws.length<=3->Qc (.ref u) H')->
   ja (lW K (N'+1)) [] E0 (bq (bD 0) (bq (bD 1) (bq (h_ (yt K) (yo (bq (h_ (A_ λi j=>V.int (i-j)) (bD 2) (tC (.int 1))) (bq (tC (.int 0)) fJ))) (Lh E3 (bq (h_ IM (bD 3) (tC (.str "meet"))) fJ))) (bq (h_ (yt K) (bD 4) (tC (.int j))) (bq (ID (h_ IM (bD 3) (tC (.str "meet"))) (h_ (A_ λi j=>.bl (decide (i<j))) (ja dB [] E0 (bq (bD 0) (bq (tC (.int 9)) fJ))) (tC (.int 8)))) fJ))))) σ H1 Qc:=by
  intro σ j m H1 gg e0 e1 e2 e3 e4 TL hj m0 m3 Qc qc
  refine⟨_,e0,_,e1,_,e2,_,_,rfl,rfl,cN,λR hR=>?_⟩
  have sR:=aj hR (.lst [V.int ((d:Int)-1),.int 0])
  have gR:=gg.trans (bp.same gg.cq sR)
  have hRR:upd H1 R (.lst [V.int ((d:Int)-1),.int 0]) R=some (.lst [V.int ((d:Int)-1),.int 0]):=ag
  have OQ:=sR _ _ TL
  have kR:=bp.same gg.cq sR
  revert gR hRR OQ kR
  generalize upd H1 R (.lst [V.int ((d:Int)-1),.int 0])=HR
  intro gR hRR OQ kR
  refine⟨_,e3,rfl,.inr ⟨_,rfl,R,_,_,.int ((if wd="meet" then 0 else d-1:Nat):Int),rfl,rfl,a_.of hRR,?_,_,e4,M,_,_,_,rfl,rfl,a_.of OQ,hj,_,e3,rfl,_,rfl,?_⟩⟩
  ·rw [bP]
   by_cases z:wd="meet"
   ·rw [Vq z,V0 z]; rfl
   ·rw [Vp z,VZ z]
    show some (V.int ((d:Int)-1))=_
    congr 2
    omega
  rw [bP]
  have hle:(if wd="meet" then 0 else d-1)<=N':=by split <;> omega
  by_cases z:wd="meet"
  ·rw [Vq z]
   refine cp ⟨_,e0,p,_,rfl,gR.cq,by decide,by decide,λd3 H3 g3 a3 b3=>⟨_,_,rfl,rfl,p,b,h,_,m.toNat,decide (d3<8),?_,g3.cq,hH.grow hP (gR.trans g3),hle,by omega,λu ws H' g' hp' hl'=>qc u ws H' ((kR.trans g3).trans g') hp' (by omega)⟩⟩
   rw [show((m.toNat:Nat):Int)=m by omega]
   rfl
  ·rw [Vp z]
   refine bB ⟨p,b,h,_,m.toNat,false,?_,gR.cq,hH.grow hP gR,hle,by omega,λu ws H' g' hp' hl'=>qc u ws H' (kR.trans g') hp' (by omega)⟩
   rw [show((m.toNat:Nat):Int)=m by omega]
   rfl
 refine call _ 0 d1 HM gM rfl rfl rfl rfl rfl Om rfl a1 (by omega) _ λu1 KR H3 g3 hp1 hl1=>ak ?_
 have Lo:=gM.trans g3
 dsimp only
 refine call _ 1 d2 H3 Lo rfl rfl rfl rfl rfl (g3.keep M _ nM Om) rfl a2 (by omega) _ λu2 NO H4 g4 hp2 hl2=>ak ?_
 have BF:=Lo.trans g4
 have hp1:=hp1.keep (aE.grow Lo.cq g4)
 have Lb:=hH.grow hP BF
 dsimp only
 refine⟨_,rfl,rfl,_,rfl,?_⟩
 rw [bP]
 by_cases z:wd="meet"
 ·rw [V0 z]at hp1 hp2
  rw [Vq z]
  have RH:∀{H5:Hp} {u:Addr} {ws:List Wk},de K H5 b h->aY 0 H5 u ws->Ae 2 H5 b u h ws:=λhh hp=>⟨hh.tup,(hp.le (by decide)).pp,(hp.le (m:=2) (by decide)).ok,(hp.le (m:=2) (by decide)).dr,hh.few⟩
  have hend:∀{ws:List Wk},qu 2 ws->(Dd 2 h ws).length<=6/\1<=(Dd 2 h ws).length:=by
   intro ws hd
   unfold Dd
   have hne:h≠[]:=λe=>by have:=hH.pos; rw [e]at this; cases this
   cases er:fK 2 h ws with
   | ok h' f' =>
    refine⟨sg hH.few er,?_⟩
    have:=LC hd hne er
    exact Nat.pos_of_ne_zero λz=>this (List.eq_nil_of_length_eq_zero z)
   | no a s=>exact⟨hH.few,hH.pos⟩
  refine cp ⟨_,rfl,_,rfl,_,rfl,b,u1,h,KR,rfl,RH Lb hp1,by decide,K3,λv1 H5 s5 hv1=>?_⟩
  have g5:=bp.same BF.cq s5
  have k5:=aE.of s5
  obtain⟨z1,z2⟩:=hend (hp1.le (m:=2) (by decide)).dr
  refine⟨p,v1,_,rfl,g5.cq,⟨hv1,z2,z1⟩,λc1 H6 g6 Ux U8=>?_⟩
  have Li:=g5.trans g6
  have rX:=aE.grow BF.cq Li
  have UX:=Lb.grow BF.cq Li
  refine⟨_,rfl,_,rfl,_,rfl,b,u2,h,NO,rfl,RH UX (hp2.keep rX),by decide,K3,λv2 H7 s7 hv2=>?_⟩
  have Q4:=bp.same Li.cq s7
  obtain⟨z3,z4⟩:=hend (hp2.le (m:=2) (by decide)).dr
  refine⟨p,v2,_,rfl,Q4.cq,⟨hv2,z4,z3⟩,λc2 H8 g8 UJ U3=>⟨_,rfl,_,rfl,uJ,λu hu'=>?_⟩⟩
  have Ld:=(Li.trans Q4).trans g8
  have sU:=aj hu' (.tup [.str "meet",.int c1,.int c2,.ref u1,.ref u2])
  have Lz:=(aE.grow BF.cq Ld).trans (aE.of sU)
  have q1:=(hp1.keep Lz).le (m:=d-1) (VJ _)
  have q2:=(hp2.keep Lz).le (m:=d-1) (VJ _)
  obtain⟨d',rfl⟩ :∃d',d=d'+1:=⟨d-1,by omega⟩
  obtain⟨Gz,hb1⟩:=q1.pp
  obtain⟨Uk,hb2⟩:=q2.pp
  refine q u (.meet c1 c2 KR NO) _ ((BF.trans Ld).new hu') ⟨⟨u1,u2,Gz,Uk,ag,hb1,hb2⟩,⟨trivial,trivial,trivial,λp hp=>?_⟩,trivial,⟨Ux,UJ⟩,λp hp=>?_⟩
  ·simp only [dA,VF,V1,or_false]at hp
   rcases hp with rfl | rfl <;> omega
  ·simp only [dA,VF,V1,or_false]at hp
   rcases hp with rfl | rfl
   ·exact⟨q1.ok,q1.dr⟩
   ·exact⟨q2.ok,q2.dr⟩
 ·rw [VZ z]at hp1 hp2
  rw [Vp z]
  refine bB (aG ?_)
  dsimp only
  obtain⟨d',rfl⟩ :∃d',d=d'+1:=⟨d-1,by omega⟩
  have hp1:aY d' H4 u1 KR:=hp1
  have hp2:aY d' H4 u2 NO:=hp2
  have fin:∀(σ:St) (u3:Addr) (Ox:List Wk) (H9:Hp),σ[5]? = some (some (.ref u1))->σ[6]? = some (some (.ref u3))->bp p H4 H9->aY d' H9 u3 Ox->Ox.length<=9->Ab (ER (bq (tC (.str "both")) (bq (bD 5) (bq (bD 6) fJ)))) {nx:=λ_ H'=>Q .non H',rt:=Q} σ H9:=by
   intro σ u3 Ox H9 e5 e6 g9 hp3 hl3
   refine⟨_,e5,_,e6,fM,λu hu'=>?_⟩
   have sU:=aj hu' (.tup [.str "both",.ref u1,.ref u3])
   have q1:=hp1.keep ((aE.grow BF.cq g9).trans (aE.of sU))
   have q3:=hp3.keep (aE.of sU)
   obtain⟨Gz,hb1⟩:=q1.pp
   obtain⟨Th,hb3⟩:=q3.pp
   refine q u (.both KR Ox) _ ((BF.trans g9).new hu') ⟨⟨u1,u3,Gz,Th,ag,hb1,hb3⟩,⟨trivial,trivial,trivial,λp hp=>?_⟩,trivial,trivial,λp hp=>?_⟩
   ·simp only [dA,VF,V1,or_false]at hp
    rcases hp with rfl | rfl <;> omega
   ·simp only [dA,VF,V1,or_false]at hp
    rcases hp with rfl | rfl
    ·exact⟨q1.ok,q1.dr⟩
    ·exact⟨q3.ok,q3.dr⟩
  refine⟨_,rfl,p,_,rfl,BF.cq,by decide,by decide,λe5 H5 g5 a5 b5=>⟨_,_,rfl,rfl,_,rfl,cJ (λy=>?_) (λy=>aG ?_)⟩⟩
  ·have Tc:=Lb.grow BF.cq g5
   obtain⟨s0,r0,hs0⟩ :∃s0 r0,h=s0::r0:=by
    cases h with
    | nil=>have:=hH.pos; cases this
    | cons s0 r0=>exact⟨s0,r0,rfl⟩
   refine⟨_,rfl,_,rfl,b,_,0,.str s0,rfl,rfl,aH.of Tc.tup,by rw [hs0]; exact au (j:=0) rfl,p,s0,rfl,g5.cq,λsa t xs H6 g6 SJ=>⟨fM,λk1 hk1=>⟨dH,λk2 hk2=>?_⟩⟩⟩
   have s1:=aj hk1 (.tup [.str "keep",.int 1,.ref sa])
   have s2:=aj hk2 (.tup [.ref k1])
   have N1:=g5.trans g6
   have gk:=(N1.trans (bp.same N1.cq (s1.trans s2)))
   have ek2:upd (upd H6 k1 (.tup [.str "keep",.int 1,.ref sa])) k2 (.tup [.ref k1]) k2=some (.tup [.ref k1]):=ag
   have ek1:j9 (upd (upd H6 k1 (.tup [.str "keep",.int 1,.ref sa])) k2 (.tup [.ref k1])) k1 (.keep 1 t):=⟨sa,xs,s2 _ _ ag,s2 _ _ (s1 _ _ SJ)⟩
   revert gk ek2 ek1
   generalize upd (upd H6 k1 (.tup [.str "keep",.int 1,.ref sa])) k2 (.tup [.ref k1])=Hk
   intro gk ek2 ek1
   refine⟨_,rfl,p,_,rfl,gk.cq,by decide,by decide,λe7 H7 g7 a7 b7=>?_⟩
   have KW:=gk.trans g7
   have k7:=aE.grow gk.cq g7
   have GL:=hp1.keep (aE.grow BF.cq KW)
   obtain⟨Gz,hb1⟩:=GL.pp
   have hz1:(Gz.map V.ref).length<=3:=by rw [Vr,hb1.len]; exact hl1
   refine⟨k2,e7,_,rfl,rfl,aH.of (k7 _ _ ek2),by simp,?_⟩
   have hc:e7=0\/e7=1:=by omega
   rcases hc with rfl | rfl
   ·refine .inl ⟨rfl,λt0 ht0=>?_⟩
    have s8:=aj ht0 (.tup [])
    refine⟨_,rfl,t0,u1,_,_,rfl,rfl,ag,s8 _ _ hb1.tup,by show 0+_<=_; exact Vo (show 0+(Gz.map V.ref).length<=10 by omega) (by decide),λu3 H9 s9 wR=>ak ?_⟩
    have RV:=s8.trans s9
    have k9:=aE.of RV
    refine fin _ u3 KR H9 rfl rfl (KW.trans (bp.same KW.cq RV)) ⟨⟨Gz,wR,hb1.len,λi a x e1 e2=>(hb1.at_ i a x e1 e2).keep k9⟩,GL.ok,GL.dr⟩ (by omega)
   ·refine .inr ⟨rfl,⟨_,rfl,k2,u1,_,_,rfl,rfl,k7 _ _ ek2,hb1.tup,by show 1+_<=_; exact Vo (show 1+(Gz.map V.ref).length<=10 by omega) (by decide),λu3 H9 s9 wR=>ak ?_⟩⟩
    have k9:=aE.of s9
    have hI9:bF (cX d') H9 u1 Gz KR:=hb1.keep k9 λ_ _ z=>z.keep k9
    have hw:jq d' H9 k1 (.one (.keep 1 t)):=AA.all (ek1.keep (k7.trans k9)) ⟨trivial,trivial,trivial,λc hc=>by rw [VD.mp hc]; exact Int.le_refl _⟩
    refine fin _ u3 (.one (.keep 1 t)::KR) H9 rfl rfl (KW.trans (bp.same KW.cq s9)) (aY.cons hI9 GL.ok GL.dr hw (by omega) wR) (by rw [VV]; omega)
  ·exact fin _ u2 NO H5 rfl rfl g5 (hp2.keep (aE.grow BF.cq g5)) (by omega)
def iy:List Str:=["keep","same","cut","turn","must","walk","sort","apart","count","sum","number","first"]
theorem BP{s:Str}(h:s∈iy):(JE s/\inV (.str s) nF=true)\/(Ea s/\inV (.str s) nF=false/\inV (.str s) Dy=false):=by
 simp only [iy,VF,V1,or_false]at h
 rcases h with rfl | rfl | rfl | rfl | rfl | rfl | rfl | rfl | rfl | rfl | rfl | rfl
 ·exact .inl ⟨.inl rfl,by decide +kernel⟩
 ·exact .inl ⟨.inr (.inl rfl),by decide +kernel⟩
 ·exact .inl ⟨.inr (.inr (.inl rfl)),by decide +kernel⟩
 ·exact .inl ⟨.inr (.inr (.inr (.inl rfl))),by decide +kernel⟩
 ·exact .inl ⟨.inr (.inr (.inr (.inr rfl))),by decide +kernel⟩
 ·exact .inr ⟨.inl rfl,by decide +kernel,by decide +kernel⟩
 ·exact .inr ⟨.inr (.inl rfl),by decide +kernel,by decide +kernel⟩
 ·exact .inr ⟨.inr (.inr (.inl rfl)),by decide +kernel,by decide +kernel⟩
 ·exact .inr ⟨.inr (.inr (.inr (.inl rfl))),by decide +kernel,by decide +kernel⟩
 ·exact .inr ⟨.inr (.inr (.inr (.inr (.inl rfl)))),by decide +kernel,by decide +kernel⟩
 ·exact .inr ⟨.inr (.inr (.inr (.inr (.inr (.inl rfl))))),by decide +kernel,by decide +kernel⟩
 ·exact .inr ⟨.inr (.inr (.inr (.inr (.inr (.inr rfl))))),by decide +kernel,by decide +kernel⟩
theorem Ju{s:Str}(h:s="both"\/s="meet"):inV (.str s) nF=false/\inV (.str s) Dy=true:=by
 rcases h with rfl | rfl <;> exact⟨by decide +kernel,by decide +kernel⟩
theorem de.same{K:Wg}{a:Addr}{H H1:Hp}{hs:List Str}(h:de K H a hs)(s:aM H H1):de K H1 a hs:=⟨s _ _ h.tup,h.pos,h.few⟩
theorem DA{x:V}{xs:List V}{P Q:Prop}(e:inV x xs=true)(h:P):if(if false=true then !inV x xs else inV x xs)=true then P else Q:=by
 rw [VZ VA,e]
 exact h
theorem uP{x:V}{xs:List V}{P Q:Prop}(e:inV x xs=false)(h:Q):if(if false=true then !inV x xs else inV x xs)=true then P else Q:=by
 rw [VZ VA,e]
 exact h
abbrev hZ:Stmt:=top 80
theorem eN:ay ["_law_pot_here","_law_head","_law_deep","_law_simple","_law_words","_law_word_here"] ["_law_pot_here","_law_head","_law_deep","_law_simple"] (ar hZ):=fs
theorem oH{N L:Nat}(h5:5<=L)(B:jH mg)(B2:iW mg)(F:FA K mg "_law_worker" hZ)
  (bz:bf bc P w K mg base 1 "_law_draw" ["_law_pot_here","_law_many_here"] dB)
  (pB:bf bc P w K mg base 5 "_law_one_row" ["_law_pot_here","_law_head","_law_word_here"] (nU K JE))
  (oW:bf bc P w K mg base L "_law_joining" ["_law_pot_here","_law_head","_law_deep","_law_word_here"] (zV K N))
  (uo:bf bc P w K mg base 5 "_law_other" ["_law_pot_here","_law_head","_law_word_here"] (nU K Ea)) :
  bf bc P w K mg base (L+1) "_law_worker" ["_law_pot_here","_law_head","_law_deep","_law_simple"] (zF K N):=by
 refine F.ok eN λf cdv A outer s H vs Q E hr h=>?_
 obtain⟨p,b,h,d,si,rfl,hP,hH,Oq,q⟩:=h
 refine HY (DM (i:=4) eN.nd rfl (V2 rfl) (Kv (cD ⟨ao⟩ (cD ⟨ao⟩ (cD ⟨ao⟩ (cD ⟨ao⟩ (cD ⟨ao⟩ (cD ⟨ao⟩ (cD ⟨ao⟩ (cD ⟨ao⟩ (cD ⟨ao⟩ (cD ⟨ao⟩ (cD ⟨ao⟩ (cD ⟨ao⟩ l7)))))))))))))
  ⟨(aq (aL (i:=4) eN.nd rfl (V2 rfl) (aD o_ (bN (r:=Np K) Gy (pv 4) cC (bS (bo K (aQ (ae ai (ae ai ah))) (aW cE rfl B2.int V7 (ae (pv 3) ah))))) (aD xA (aQ (ae ao (ae ao ah))) (aW cE rfl B2.int V7 (ae (bT gG (pv 2) ai) ah)))))
   (aq (aL (i:=5) eN.nd rfl (V2 rfl) (bo K (pv 4) (av bz hr (ae (pv 0) (ae (bg bA rfl B.len We (ae (pv 4) ah)) ah)))))
   (aN (dk cv (pv 5) (aQ (ae ao (ae ao (ae ao (ae ao (ae ao ah)))))) rfl) (av pB hr (ae (pv 0) (ae (pv 1) (ae (pv 5) ah))))
   (aN (dk cv (pv 5) (aQ (ae ao (ae ao ah))) rfl) (av oW hr (ae (pv 0) (ae (pv 1) (ae (pv 2) (ae (pv 5) ah)))))
   (ax (av uo hr (ae (pv 0) (ae (pv 1) (ae (pv 5) ah)))))))))⟩) ?_
 refine⟨MR,λW hW=>ak ?_⟩
 have g0:=(bp.refl hP).new (o:=.lst [V.str "keep",.str "same",.str "cut",.str "turn",.str "must",.str "walk",.str "sort",.str "apart",.str "count",.str "sum",.str "number",.str "first"]) hW
 have nW:=(bp.refl hP).ne hW
 have hW0:upd H W (.lst [V.str "keep",.str "same",.str "cut",.str "turn",.str "must",.str "walk",.str "sort",.str "apart",.str "count",.str "sum",.str "number",.str "first"]) W=some (.lst [V.str "keep",.str "same",.str "cut",.str "turn",.str "must",.str "walk",.str "sort",.str "apart",.str "count",.str "sum",.str "number",.str "first"]):=ag
 revert g0 hW0
 generalize upd H W (.lst [V.str "keep",.str "same",.str "cut",.str "turn",.str "must",.str "walk",.str "sort",.str "apart",.str "count",.str "sum",.str "number",.str "first"])=H0
 intro g0 hW0
 dsimp only
 have SM:H0 W=some (.lst (iy.map V.str)):=hW0
 clear hW0
 have kk:∃k:Nat,k<=12/\1<=k/\jj [V.int 12,.int 5] (if si then 1 else 0)=some (.int k):=by
  cases si
  ·exact⟨12,by decide,by decide,rfl⟩
  ·exact⟨5,by decide,by decide,rfl⟩
 obtain⟨k,k12,k1,ek⟩:=kk
 refine⟨_,rfl,cN,λR hR=>⟨_,rfl,.inr ⟨_,rfl,R,_,_,_,rfl,rfl,a_.of ag,ek,_,rfl,W,_,rfl,a_.of ((aj hR _) _ _ SM),λS hS=>⟨cN,λB1 N9=>?_⟩⟩⟩⟩
 have Po:fz (iy.map V.str) none (some (k:Int))=(iy.take k).map V.str:=by
  rw [oq (by rw [Vr]; exact k12),List.map_take]
 rw [Po]at N9⊢
 have gR:=g0.new (o:=.lst [V.int 12,.int 5]) hR
 have gS:=gR.new (o:=.lst ((iy.take k).map V.str)) hS
 have Rf:=aj N9 (.lst [V.str "both",.str "meet"])
 have P4:=gS.new (o:=.lst [V.str "both",.str "meet"]) N9
 have eS:=Rf _ _ (ag (H:=upd H0 R (.lst [V.int 12,.int 5])) (a:=S) (o:=.lst ((iy.take k).map V.str)))
 have eB:upd (upd (upd H0 R (.lst [V.int 12,.int 5])) S (.lst ((iy.take k).map V.str))) B1 (.lst [V.str "both",.str "meet"]) B1=some (.lst [V.str "both",.str "meet"]):=ag
 revert P4 eS eB
 generalize upd (upd (upd H0 R (.lst [V.int 12,.int 5])) S (.lst ((iy.take k).map V.str))) B1 (.lst [V.str "both",.str "meet"])=H1
 intro P4 eS eB
 clear gS gR Rf N9 hS hR
 have rr:∃e:Int,(if decide ((0:Int)<(d:Int))=true then(1:Int)else 0)=e/\((e=0/\(List.replicate e.toNat [V.str "both",.str "meet"]).flatten=([]:List Str).map V.str)\/(e=1/\1<=d/\(List.replicate e.toNat [V.str "both",.str "meet"]).flatten=([("both" : Str),"meet"]).map V.str)):=by
  by_cases z:(0:Int)<(d:Int)
  ·rw [Vq z]; exact⟨1,rfl,.inr ⟨rfl,by omega,rfl⟩⟩
  ·rw [Vp z]; exact⟨0,rfl,.inl ⟨rfl,rfl⟩⟩
 obtain⟨e,e1,e2⟩:=rr
 have e3:∃ms:List Str,(List.replicate e.toNat [V.str "both",.str "meet"]).flatten=ms.map V.str/\ms.length<=2/\∀s∈ms,1<=d/\(s="both"\/s="meet"):=by
  rcases e2 with⟨_,h⟩ | ⟨_,h1,h⟩
  ·exact⟨[],h,by decide,λs hs=>by cases hs⟩
  ·exact⟨["both","meet"],h,by decide,λs hs=>⟨h1,by simpa using hs⟩⟩
 obtain⟨ms,em,lm,pm⟩:=e3
 have Va:e=0\/e=1:=by rcases e2 with⟨h,_⟩ | ⟨h,_⟩; exact .inl h; exact .inr h
 refine⟨_,rfl,_,_,rfl,rfl,.inr ⟨_,rfl,B1,_,_,rfl,rfl,eB,?_⟩⟩
 rw [e1]
 have ez:[V.str "both",V.str "meet"].length*e.toNat<=sizeLine:=by
  have:e.toNat<=1:=by omega
  exact Vo (Nat.mul_le_mul_left 2 this) (by decide)
 refine⟨by omega,by omega,ez,λB2 hB2=>?_⟩
 rw [em]
 have Rt:=P4.new (o:=.lst (ms.map V.str)) hB2
 have Tz:=aj hB2 (.lst (ms.map V.str))
 have lk:(iy.take k).length<=12:=by rw [VP]; exact Vo (Nat.min_le_left _ _) k12
 refine⟨S,B2,_,_,rfl,rfl,Tz _ _ eS,ag,?_,λC hC=>ak ?_⟩
 ·rw [Vr,Vr]
  exact Vo (show _<=14 by omega) (by decide)
 rw [←Vt]
 have gC:=Rt.new (o:=.lst ((iy.take k++ms).map V.str)) hC
 have eC:upd (upd H1 B2 (.lst (ms.map V.str))) C (.lst ((iy.take k++ms).map V.str)) C=some (.lst ((iy.take k++ms).map V.str)):=ag
 revert gC eC
 generalize upd (upd H1 B2 (.lst (ms.map V.str))) C (.lst ((iy.take k++ms).map V.str))=H2
 intro gC eC
 dsimp only
 have ln:(iy.take k++ms).length<=14/\1<=(iy.take k++ms).length:=by
  rw [Vs]
  have:1<=(iy.take k).length:=by rw [VP]; exact Nat.le_min.mpr ⟨k1,by decide⟩
  omega
 have cls:∀s∈iy.take k++ms,s∈iy\/(1<=d/\(s="both"\/s="meet")):=by
  intro s hs
  rcases VH.mp hs with z | z
  ·exact .inl (List.mem_of_mem_take z)
  ·exact .inr (pm s z)
 revert eC
 generalize iy.take k++ms=ns at ln cls
 intro eC
 refine⟨_,rfl,_,rfl,_,rfl,C,_,rfl,.inl (a_.of eC),p,_,rfl,gC.cq,?_,?_,λe H3 g3 a3 b3=>?_⟩
 ·rw [Vr]; omega
 ·rw [Vr]; exact sk (by omega) (by omega)
 rw [Vr]at b3
 have Lo:=gC.trans g3
 have nC:=Rt.ne hC
 obtain⟨j,rfl⟩ :∃j:Nat,e=j:=⟨e.toNat,by omega⟩
 have hi:j<ns.length:=by omega
 obtain⟨wd,RG⟩ :∃wd,ns[j]? = some wd:=⟨_,Vw hi⟩
 have hc:=cls wd (Vy RG)
 refine⟨C,_,_,.str wd,rfl,rfl,a_.of (g3.keep C _ nC eC),au (by rw [VO,RG]; rfl),ak ?_⟩
 dsimp only
 have Us:=hH.grow hP Lo
 refine⟨_,rfl,uJ,λD1 hD1=>⟨D1,nF,rfl,.inl (a_.of ag),rfl,rfl,_,rfl,?_⟩⟩
 have g4:=Lo.new (o:=.lst nF) hD1
 have Lb:=Us.same (aj hD1 (.lst nF))
 rcases hc with hc | ⟨hd1,hc⟩
 ·rcases BP hc with⟨c1,c2⟩ | ⟨c1,c2,c3⟩
  ·refine DA c2 ⟨_,rfl,_,rfl,_,rfl,p,b,h,wd,rfl,g4.cq,Lb,c1,λt x H' g' hx hdr _=>q t (.one x) H' (g4.trans g') (AA.all hx hdr)⟩
  ·refine uP c2 (aG ?_)
   dsimp only
   refine⟨_,rfl,cN,λD2 hD2=>⟨D2,Dy,rfl,.inl (a_.of ag),rfl,rfl,_,rfl,uP c3 (aG ⟨_,rfl,_,rfl,_,rfl,p,b,h,wd,rfl,?_,Lb.same (aj hD2 _),c1,λt x H' g' hx hdr _=>q t (.one x) H' ((g4.new hD2).trans g') (AA.all hx hdr)⟩)⟩⟩
   exact(g4.new hD2).cq
 ·obtain⟨c2,c3⟩:=Ju hc
  refine uP c2 (aG ?_)
  dsimp only
  refine⟨_,rfl,cN,λD2 hD2=>⟨D2,Dy,rfl,.inl (a_.of ag),rfl,rfl,_,rfl,DA c3 ⟨_,rfl,_,rfl,_,rfl,_,rfl,p,b,h,d,wd,rfl,?_,Lb.same (aj hD2 _),hd1,Oq,hc,λt x H' g' hx=>q t x H' ((g4.new hD2).trans g') hx⟩⟩⟩
  exact(g4.new hD2).cq
theorem Dk{h:Hd}{ws:List Wk}{h':Hd}{f':Fl}{n:Nat}(h6:h.length<=6)(h1:1<=h.length)(hd:qu n ws)(er:fK n h ws=.ok h' f'):1<=h'.length/\h'.length<=6:=by
 have hne:h≠[]:=λe=>by rw [e]at h1; cases h1
 have:=LC hd hne er
 exact⟨Nat.pos_of_ne_zero λz=>this (List.eq_nil_of_length_eq_zero z),sg h6 er⟩
abbrev gN:Stmt:=top 81
theorem cK:ay ["_law_pot_here","_law_head","_law_deep","_law_many_here","_law_simple","_law_pipe_here","_law_here","_law_k","_law_longer","_law_tale"] ["_law_pot_here","_law_head","_law_deep","_law_many_here","_law_simple"] (ar gN):=fs
theorem oB{N L Lj:Nat}(hN:N<=2)(h5:5<=L)(U2:Lj<=L)(B:jH mg)(B2:iW mg)(F:FA K mg "_law_pipe" gN)
  (qI:bf bc P w K mg base L "_law_worker" ["_law_pot_here","_law_head","_law_deep","_law_simple"] (zF K N))
  (hV:bf bc P w K mg base Lj "_law_judged" ["_law_head","_law_pipe_here"] (DE 2))
  (bz:bf bc P w K mg base 1 "_law_draw" ["_law_pot_here","_law_many_here"] dB) :
  bf bc P w K mg base (L+1) "_law_pipe" ["_law_pot_here","_law_head","_law_deep","_law_many_here","_law_simple"] (lW K (N+1)):=by
 refine F.ok cK λf cdv A outer s H vs Q E hr h=>?_
 obtain⟨p,b,h,d,m,si,rfl,hP,hH,Oq,hm,q⟩:=h
 refine⟨_,(aq (aL (i:=5) cK.nd rfl (V2 rfl) (aJ ah))
   (aq (aL (i:=6) cK.nd rfl (V2 rfl) (pv 1))
   (aq (gp PassesOwn.never rfl (c8 rfl B.range (ae (pv 3) ah)) (bU (i:=7) cK.nd rfl (V2 rfl))
    (aq (aL (i:=8) cK.nd rfl (V2 rfl) (aD bZ (pv 5) (aJ (ae (av qI hr (ae (pv 0) (ae (pv 6) (ae (pv 2) (ae (pv 4) ah))))) ah))))
     (aq (aL (i:=9) cK.nd rfl (V2 rfl) (av hV hr (ae (pv 1) (ae (pv 8) ah))))
     (bM (du (PW.pt (C1 (aU aP (az K (pv 9) ai) ao) (xo (aU aP (av bz hr (ae (pv 0) (ae ai ah))) ai))))
      (aq (aL (i:=5) cK.nd rfl (V2 rfl) (pv 8))
       (bM (aL (i:=6) cK.nd rfl (V2 rfl) (az K (aD bZ (aD wj (bN cz (pv 9) (bS ai) (bS ai)) (aW cE rfl B2.int V7 (ae (bT aP (az K (pv 9) ai) ao) ah))) (aJ (ae (pv 6) ah))) ai))))
      b9)))))
   (ax (pv 5))))),?_⟩
 refine⟨yf,λu0 hu0=>ak ⟨_,rfl,ak ?_⟩⟩
 have s0:=aj hu0 (.tup [])
 have g0:=bp.same hP s0
 have e0:upd H u0 (.tup []) u0=some (.tup []):=ag
 revert s0 g0 e0
 generalize upd H u0 (.tup [])=H0
 intro s0 g0 e0
 dsimp only
 refine⟨_,rfl,m,rfl,by omega,by omega,?_⟩
 have p0:aY d H0 u0 []:=by
  refine⟨⟨[],e0,rfl,λi a x e1 e2=>by cases e1⟩,?_,?_⟩
  ·cases d <;> exact⟨by decide,λx hx=>by cases hx⟩
  ·cases d <;> exact λx hx=>by cases hx
 refine e9 (n:=m) (λi σ H'=>∃(u bh:Addr) (ws:List Wk) (hh:Hd),(∃o7 o8 o9,σ=[some (.ref p),some (.ref b),some (.int d),some (.int m),some (.bl si),some (.ref u),some (.ref bh),o7,o8,o9])/\bp p H H'/\aY d H' u ws/\ws.length<=i/\de K H' bh hh)
  ⟨u0,b,[],h,⟨none,none,none,rfl⟩,g0,p0,Vn _,hH.same s0⟩ ?_ ?_
 ·rintro i σ H' hi ⟨u,bh,ws,hh,⟨o7,o8,o9,rfl⟩,g,hp,hl,Qw⟩
  refine ak ⟨_,rfl,_,rfl,_,rfl,_,rfl,_,rfl,p,bh,hh,d,si,rfl,g.cq,Qw,Oq,λwa x H1 g1 hx=>⟨dH,λt1 ht1=>?_⟩⟩
  have k1:=aE.grow g.cq g1
  have hp1:=hp.keep k1
  obtain⟨bs,hb⟩:=hp1.pp
  have sT:=aj ht1 (.tup [.ref wa])
  refine⟨u,t1,_,_,rfl,rfl,sT _ _ hb.tup,ag,?_,λv H2 s2 hv=>ak ?_⟩
  ·rw [Vr,hb.len]
   exact Vo (show ws.length+1<=20 by omega) (by decide)
  have s12:=sT.trans s2
  have Hx:=(g.trans g1)
  have g2:=Hx.trans (bp.same Hx.cq s12)
  have k2:=aE.of s12
  have hb2:bF (cX d) H2 u bs ws:=hb.keep k2 λ_ _ z=>z.keep k2
  have hx2:jq d H2 wa x:=⟨hx.wk.keep k2,hx.ok,hx.dr,hx.pm,hx.br⟩
  have hp2:aY d H2 v (ws++[x]):=aY.snoc hb2 hp1.ok hp1.dr hx2 (by omega) (by rw [hv,Vt]; rfl)
  have hH2:=hH.grow hP g2
  have Sz:=Qw.grow g.cq (g1.trans (bp.same Hx.cq s12))
  have OD:=s12
  clear hb2 hx2 k2 s12 sT hb hp1 k1
  dsimp only
  have hq2:=hp2.le (m:=2) (by omega)
  refine⟨_,rfl,_,rfl,b,v,h,ws++[x],rfl,⟨hH2.tup,hq2.pp,hq2.ok,hq2.dr,hH2.few⟩,by decide,K3,λt3 H3 s3 hR=>ak ?_⟩
  have g3:=g2.trans (bp.same g2.cq s3)
  have hp3:=hp2.keep (aE.of s3)
  have hh3:=Sz.same s3
  have hl3:(ws++[x]).length<=i+1:=by rw [Vs]; exact Nat.succ_le_succ hl
  dsimp only
  cases er:fK 2 h (ws++[x])with
  | ok h' f' =>
   rw [er]at hR
   obtain⟨a1,a2,r1,r2,r3⟩:=hR
   refine⟨_,rfl,t3,_,0,_,rfl,rfl,aH.of r1,au (j:=0) rfl,rfl,_,rfl,?_⟩
   rw [bP,Vq rfl]
   refine cp (cp ⟨_,rfl,ak ⟨_,rfl,_,rfl,_,rfl,t3,_,rfl,r1,λt4 H4 s4 E_=>⟨_,rfl,t3,_,0,_,rfl,rfl,aH.of (s4 _ _ r1),au (j:=0) rfl,rfl,.inr ⟨_,rfl,t4,1,[.ref a1],rfl,?_⟩⟩⟩⟩)
   refine⟨by rw [bP,Vq rfl]; rfl,aH.of E_,by simp,.inr ⟨rfl,_,rfl,dH,λt5 Ly=>?_⟩⟩
   have s5:=aj Ly (.tup [.ref bh])
   refine⟨t4,t5,_,_,rfl,rfl,s5 _ _ E_,ag,cN,λt6 H6 s6 Dt=>⟨t6,_,0,.ref a1,rfl,rfl,aH.of Dt,rfl,ak ?_⟩⟩
   have KG:=(s4.trans s5).trans s6
   obtain⟨z1,z2⟩:=Dk hH2.few hH2.pos hq2.dr er
   exact⟨v,a1,ws++[x],h',⟨_,_,_,rfl⟩,g3.trans (bp.same g3.cq KG),hp3.keep (aE.of KG),hl3,⟨KG _ _ r2,z1,z2⟩⟩
  | no pl sl =>
   rw [er]at hR
   obtain⟨a1,r1,r2⟩:=hR
   refine⟨_,rfl,t3,_,0,_,rfl,rfl,aH.of r1,au (j:=0) rfl,rfl,_,rfl,?_⟩
   rw [bP,Vp (by decide +kernel)]
   refine bB ⟨_,rfl,p,_,rfl,g3.cq,by decide,by decide,λe4 H4 g4 a4 b4=>⟨rfl,_,rfl,?_⟩⟩
   have Mv:=g3.trans g4
   have k4:=aE.grow g3.cq g4
   have r1:=k4 _ _ r1
   have Tr:=hp3.keep k4
   have Q2:=hh3.grow g3.cq g4
   refine cJ (λ_=>⟨_,rfl,ak ⟨_,rfl,_,rfl,_,rfl,t3,_,rfl,r1,λt4 H4 s4 E_=>⟨_,rfl,t3,_,0,_,rfl,rfl,aH.of (s4 _ _ r1),au (j:=0) rfl,rfl,.inr ⟨_,rfl,t4,0,[.ref a1],rfl,?_⟩⟩⟩⟩) (λ_=>aG ?_)
   ·refine⟨by rw [bP,Vp (by decide +kernel)]; rfl,aH.of E_,by simp,.inl ⟨rfl,λt7 EV=>⟨_,rfl,dH,λt5 Ly=>?_⟩⟩⟩
    have s7:=aj EV (.tup [])
    have s5:=aj Ly (.tup [.ref bh])
    refine⟨t7,t5,_,_,rfl,rfl,s5 _ _ ag,ag,dH,λt6 H6 s6 Dt=>⟨t6,_,0,.ref bh,rfl,rfl,aH.of Dt,rfl,ak ?_⟩⟩
    have KG:=((s4.trans s7).trans s5).trans s6
    exact⟨v,bh,ws++[x],hh,⟨_,_,_,rfl⟩,Mv.trans (bp.same Mv.cq KG),Tr.keep (aE.of KG),hl3,Q2.same KG⟩
   ·exact⟨u,bh,ws,hh,⟨_,_,_,rfl⟩,Mv,(hp.keep (aE.grow g.cq (g1.trans (bp.same Hx.cq (OD.trans s3))))).keep k4,Nat.le_succ_of_le hl,Q2⟩
 ·rintro σ H' ⟨u,bh,ws,hh,⟨o7,o8,o9,rfl⟩,g,hp,hl,Qw⟩
  exact⟨_,rfl,q u ws H' g hp hl⟩
theorem Mo{vs:List V}{b c:V}:jj (vs++[b,c]) (-2)=some b:=by
 unfold jj
 have:wY (vs++[b,c]).length (-2)=some vs.length:=by
  unfold wY
  rw [Vs]
  simp
  omega
 rw [this]
 show(vs++[b,c])[vs.length]? = _
 rw [VM (Vn _),Nat.sub_self]
 rfl
theorem LU{vs:List V}{b c:V}:jj (vs++[b,c]) (-1)=some c:=by
 unfold jj
 have:wY (vs++[b,c]).length (-1)=some (vs.length+1):=by
  unfold wY
  rw [Vs]
  simp
  omega
 rw [this]
 show(vs++[b,c])[vs.length+1]? = _
 rw [VM (Nat.le_succ _),Nat.succ_sub (Vn _),Nat.sub_self]
 rfl
def jW:Nat->Sp
 | 0=>λ_ _ _ _=>False
 | n+1=>λvs H Q _=>∃(p:Addr) (ws:List Wk),vs=[.ref p]/\jC n H p ws/\∀(c:Int) (H':Hp),aM H H'->(ws=[]->c=0)->Q (.int c) H'
abbrev gK:Stmt:=top 82
theorem dP:ay ["_law_pipe_here","_law_many_here","_law_worker_here"] ["_law_pipe_here"] (ar gK):=fs
theorem qm{n L:Nat}(F:FA K mg "_law_many" gK)
  (df:bf bc P w K mg base L "_law_many" ["_law_pipe_here"] (jW n)) :
  bf bc P w K mg base (L+1) "_law_many" ["_law_pipe_here"] (jW (n+1)):=by
 refine F.ok dP λf cdv A outer s H vs Q E hr h=>?_
 obtain⟨p,ws,rfl,hp,q⟩:=h
 refine⟨_,(aq (aL (i:=1) dP.nd rfl (V2 rfl) ai)
   (aq (gp PassesOwn.never rfl (cQ (pv 0)) (bU (i:=2) dP.nd rfl (V2 rfl))
    (aq (aL (i:=1) dP.nd rfl (V2 rfl) (aD cL (pv 1) ai))
     (bM (du (dk cv (az K (pv 2) ai) (aQ (ae ao (ae ao ah))) rfl)
      (bM (aL (i:=1) dP.nd rfl (V2 rfl) (aD cL (aD cL (pv 1) (av df hr (ae (az K (pv 2) (sj mr ai)) ah))) (av df hr (ae (az K (pv 2) (sj mr ai)) ah)))))
      b9))))
   (ax (pv 1)))),?_⟩
 obtain⟨bs,hb⟩:=hp
 refine ak ⟨_,rfl,p,rfl,⟨_,aH.of hb.tup⟩,?_⟩
 refine Fw (xs:=bs.map V.ref) (λi σ H'=>∃c:Int,(∃o2,σ=[some (.ref p),some (.int c),o2])/\aM H H'/\(i=0->c=0)) ?_ ?_ ?_ ?_
 ·exact⟨0,⟨none,rfl⟩,aM.refl _,λ_=>rfl⟩
 ·rintro i σ H' _ ⟨c,_,s,_⟩
  exact aH.of (s _ _ hb.tup)
 ·rintro i v σ H' hv ⟨c,⟨o2,rfl⟩,s,_⟩
  obtain⟨a,x,rfl,ex,hx⟩:=hb.get hv
  refine ak ⟨_,rfl,_,_,rfl,rfl,ak ?_⟩
  dsimp only
  have hx1:=hx.keep (aE.of s)
  obtain⟨xs,hxs⟩:=hx1.first
  refine⟨_,rfl,a,_,0,_,rfl,rfl,aH.of hxs,au (j:=0) rfl,cN,λR hR=>⟨R,Dy,rfl,.inl (a_.of ag),rfl,rfl,_,rfl,?_⟩⟩
  have sR:=s.trans (aj hR (.lst [V.str "both",.str "meet"]))
  revert sR
  generalize upd H' R (.lst [V.str "both",.str "meet"])=H1
  intro sR
  cases hbr:ck x with
  | false=>exact uP (zm.trans hbr) (aG ⟨_,⟨_,rfl⟩,sR,λz=>by cases z⟩)
  | true =>
   refine DA (zm.trans hbr) ?_
   cases n with
   | zero=>rw [KH hx]at hbr; cases hbr
   | succ n =>
    obtain⟨vs,b,e,p1,p2,h1,h2,h3,h4⟩:=Dz hx hbr
    refine⟨_,rfl,_,rfl,_,rfl,a,_,_,_,rfl,rfl,aH.of (sR _ _ h1),Mo,b,p1,rfl,h3.keep (aE.of sR),λc1 H2 s2 _=>⟨_,_,rfl,rfl,?_⟩⟩
    have DF:=sR.trans s2
    refine⟨_,rfl,_,rfl,a,_,_,_,rfl,rfl,aH.of (DF _ _ h1),LU,e,p2,rfl,h4.keep (aE.of DF),λc2 H3 s3 _=>⟨_,_,rfl,rfl,ak ⟨_,⟨_,rfl⟩,DF.trans s3,λz=>by cases z⟩⟩⟩
 ·rintro σ H' ⟨c,⟨o2,rfl⟩,s,hc⟩
  refine⟨_,rfl,q c H' s λz=>hc ?_⟩
  rw [Vr,hb.len,z]
  rfl
theorem Dg{L:Nat}(F:FA K mg "_law_many" gK):bf bc P w K mg base (L+1) "_law_many" ["_law_pipe_here"] (jW 0) :=
 F.ok dP λ_ _ _ _ _ _ _ _ _ _ h=>V4 h
theorem BO{L:Nat}(F:FA K mg "_law_pipe" gN):bf bc P w K mg base (L+1) "_law_pipe" ["_law_pot_here","_law_head","_law_deep","_law_many_here","_law_simple"] (lW K 0) :=
 F.ok cK λ_ _ _ _ _ _ _ _ _ _ h=>V4 h
theorem E1{xs:List V}(h:xs≠[]):fz xs none (some (-1))=xs.dropLast:=by
 have h1:1<=xs.length:=by cases xs with | nil=>exact VY rfl h | cons _ _=>simp
 have e:HT.dO xs.length xs.length (some (-1))=xs.length-1:=by
  show(if(-1:Int)<0 then((-1:Int)+(xs.length:Int)).toNat else min (-1:Int).toNat xs.length)=_
  rw [V0 (by decide)]
  omega
 unfold fz
 rw [e,HT.lQ,Nat.sub_zero,List.drop_zero,←List.dropLast_eq_take]
theorem aY.init{n:Nat}{H:Hp}{p u:Addr}{bs:List Addr}{ws:List Wk}(hI:bF (cX n) H p bs ws)(ho:ra n ws)(hd:qu n ws)(hu:H u=some (.tup (bs.map V.ref).dropLast)):aY n H u ws.dropLast:=by
 refine⟨⟨bs.dropLast,by rw [hu,List.map_dropLast],by rw [List.length_dropLast,List.length_dropLast,hI.len],λi b y e1 e2=>?_⟩,?_,?_⟩
 ·rw [List.getElem?_dropLast]at e1 e2
  split at e1
  ·split at e2
   ·exact hI.at_ i b y e1 e2
   ·cases e2
  ·cases e1
 ·have hl:ws.dropLast.length<=11:=by rw [List.length_dropLast]; have:=ho.len; omega
  cases n with
  | zero=>exact⟨hl,λy hy=>ho.2 y (List.dropLast_subset _ hy)⟩
  | succ n=>exact⟨hl,λy hy=>ho.2 y (List.dropLast_subset _ hy)⟩
 ·cases n with
  | zero=>exact λy hy=>hd y (List.dropLast_subset _ hy)
  | succ n=>exact λy hy=>hd y (List.dropLast_subset _ hy)
def zG(K:Wg):Sp:=λvs H Q _=>∃(p:Addr),vs=[.ref p]/\dy H p/\∀(t b u:Addr) (h:Hd) (ws:List Wk) (H':Hp),bp p H H'->H' t=some (.tup [.ref b,.ref u])->de K H' b h->aY 2 H' u ws->ws.length<=9->Q (.ref t) H'
abbrev iU:Stmt:=top 83
theorem d9:ay ["_law_pot_here","_law_sorts_here","_law_head","_law_pipe_here"] ["_law_pot_here"] (ar iU):=fs
theorem C9{L Lm:Nat}(h5:1<=L)(Rk:Lm<=L)(B:jH mg)(B2:iW mg)(F:FA K mg "_law_drawn" iU)
  (bz:bf bc P w K mg base 1 "_law_draw" ["_law_pot_here","_law_many_here"] dB)
  (gH:bf bc P w K mg base L "_law_pipe" ["_law_pot_here","_law_head","_law_deep","_law_many_here","_law_simple"] (lW K 3))
  (df:bf bc P w K mg base Lm "_law_many" ["_law_pipe_here"] (jW 3)) :
  bf bc P w K mg base (L+1) "_law_drawn" ["_law_pot_here"] (zG K):=by
 refine F.ok d9 λf cdv A outer s H vs Q E hr h=>?_
 obtain⟨p,rfl,hP,q⟩:=h
 refine⟨_,(aq (kM (i:=1) (N':=["_law_k","_law_pot_here"]) (src:=[none,some 0]) d9.nd rfl (V2 rfl) rfl rfl (aZ.jT (by kernel_rfl)) (c8 rfl B.range (ae (aD cL ai (av bz hr (ae (pv 0) (ae ai ah)))) ah)) (λcl C s H fp=>(eI (i:=0))) (λcl C s H fp=>aX) (te:=(h_ (yt K) (yo (bq (tC (.str "n")) (bq (tC (.str "w")) (bq (tC (.str "n")) (bq (tC (.str "w")) (bq (tC (.str "n")) (bq (tC (.str "w")) (bq (tC (.str "t")) fJ)))))))) (ja dB [] E0 (bq (bD 1) (bq (tC (.int 7)) fJ))))) (λcl C s H fp=>(bo K (aQ (ae ao (ae ao (ae ao (ae ao (ae ao (ae ao (ae ao ah)))))))) (av (hg:=yH) bz hr (ae (zw 1) (ae ai ah))))))
   (aq (aL (i:=2) d9.nd rfl (V2 rfl) (aW bH rfl B.tuple V6 (ae (aD o_ (pv 1) (aD xA (aD xA (aQ (ae ao ah)) (aW cE rfl B2.int V7 (ae (bT aP (av bz hr (ae (pv 0) (ae ai ah))) ai) ah))) ai)) ah)))
   (aq (aL (i:=3) d9.nd rfl (V2 rfl) (av gH hr (ae (pv 0) (ae (pv 2) (ae ai (ae (bo K (aQ (ae (av bz hr (ae (pv 0) (ae ai ah))) (ae (av bz hr (ae (pv 0) (ae ai ah))) ah))) (av bz hr (ae (pv 0) (ae ai ah)))) (ae eE ah)))))))
   (aq (Dv PassesOwn.never (aU gG (av df hr (ae (pv 3) ah)) ai)
    (bM (aL (i:=3) d9.nd rfl (V2 rfl) (bN cz (pv 3) cC (bS (sj mr ai))))))
   (ax (aJ (ae (pv 2) (ae (pv 3) ah)))))))),?_⟩
 have g0:=bp.refl hP
 refine⟨_,rfl,p,_,rfl,hP,by decide,by decide,λe1 H1 g1 a1 b1=>⟨_,_,rfl,rfl,?_⟩⟩
 refine⟨_,rfl,(jh (by omega) (by omega)).1,(jh (by omega) (by omega)).2,λDl hD=>?_⟩
 have nD:=g1.ne hD
 refine i9 (n:=(1+e1).toNat) (λi σ ys H'=>(∃o,σ=[o,some (.ref p)])/\(∃ns:List Str,ys=ns.map V.str/\ns.length=i)/\H' Dl=some (.lst ys)/\bp p H H')
  ⟨⟨none,rfl⟩,⟨[],rfl,rfl⟩,ag,g1.new hD⟩ ?_ ?_ ?_ ?_
 ·rintro i σ ys H' _ ⟨_,⟨ns,rfl,rfl⟩,h,_⟩
  exact⟨h,by rw [Vr]; exact Vn _⟩
 ·exact Vo (show(1+e1).toNat<=10 by omega) (by decide)
 ·rintro i σ ys H' hi ⟨⟨o,rfl⟩,⟨ns,rfl,rfl⟩,h,g⟩
  refine⟨O_,λR hR=>?_⟩
  have gr:=g.new (o:=.lst [V.str "n",.str "w",.str "n",.str "w",.str "n",.str "w",.str "t"]) hR
  refine⟨_,rfl,p,_,rfl,gr.cq,by decide,by decide,λe2 H2 g2 a2 b2=>?_⟩
  have hk:=g2.keep R _ (g.ne hR) ag
  have hk2:=g2.keep Dl _ nD ((aj hR _) _ _ h)
  have hz:∃z:Str,jj [V.str "n",.str "w",.str "n",.str "w",.str "n",.str "w",.str "t"] e2=some (.str z):=by
   have:e2=0\/e2=1\/e2=2\/e2=3\/e2=4\/e2=5\/e2=6:=by omega
   rcases this with z | z | z | z | z | z | z <;> subst z <;> exact⟨_,rfl⟩
  obtain⟨z,hz⟩:=hz
  refine⟨R,_,_,_,rfl,rfl,a_.of hk,hz,hk2,⟨_,rfl⟩,⟨ns++[z],by rw [Vt]; rfl,by rw [Vs]; rfl⟩,ag,?_⟩
  exact g1.put hD nD (gr.trans g2)
 ·rintro σ ys H' ⟨_,⟨ns,rfl,hl⟩,h,g⟩
  refine ak ?_
  dsimp only
  refine⟨_,rfl,dH,λR hR=>?_⟩
  have nR:=g.ne hR
  have gR:=g.new (o:=.lst [V.str "w"]) hR
  refine⟨_,rfl,p,_,rfl,gR.cq,by decide,by decide,λe2 H2 g2 a2 b2=>⟨rfl,.inr ⟨_,rfl,?_⟩⟩⟩
  have RS:=gR.trans g2
  have zX:=g2.keep R _ nR (ag (H:=H') (a:=R) (o:=.lst [V.str "w"]))
  have hD2:=g2.keep Dl _ nD ((aj hR (.lst [V.str "w"])) _ _ h)
  have hH2:∃e:Int,(if decide (V.int e2=V.int 8)=true then(1:Int)else 0)=e/\0<=e/\e<=1/\∃ms:List Str,(List.replicate e.toNat [V.str "w"]).flatten=ms.map V.str/\ms.length<=1:=by
   cases decide (V.int e2=V.int 8)
   ·exact⟨0,rfl,by decide,by decide,[],rfl,by decide⟩
   ·exact⟨1,rfl,by decide,by decide,["w"],rfl,by decide⟩
  obtain⟨e,ee,e0,e1',ms,em,lm⟩:=hH2
  rw [ee]
  have ez:[V.str "w"].length*e.toNat<=sizeLine:=by
   have:e.toNat<=1:=by omega
   exact Vo (Nat.mul_le_mul_left 1 this) (by decide)
  refine⟨R,e,_,rfl,rfl,zX,by omega,by omega,ez,λR3 OU=>?_⟩
  rw [em]
  have s3:=aj OU (.lst (ms.map V.str))
  refine⟨R3,2,_,rfl,rfl,ag,by decide,by decide,(by rw [Vr]; exact Vo (Nat.mul_le_mul_right 2 lm) (by decide)),λR4 Si=>?_⟩
  have Ua:(List.replicate (2:Int).toNat (ms.map V.str)).flatten=(ms++ms).map V.str:=by
   rw [Vt]
   show ms.map V.str++(ms.map V.str++[])=_
   rw [V8]
  rw [Ua]
  have s4:=aj Si (.lst ((ms++ms).map V.str))
  refine⟨Dl,R4,_,_,rfl,rfl,s4 _ _ (s3 _ _ hD2),ag,?_,λC hC=>?_⟩
  ·rw [Vr,Vr,Vs]
   exact Vo (show _<=20 by omega) (by decide)
  rw [←Vt]
  have s5:=aj hC (.lst ((ns++(ms++ms)).map V.str))
  refine⟨C,_,rfl,.inl ⟨a_.of ag,λa ha=>ak ?_⟩⟩
  have s6:=aj ha (.tup ((ns++(ms++ms)).map V.str))
  have g6:=RS.trans (bp.same RS.cq (((s3.trans s4).trans s5).trans s6))
  have hlen:(ns++(ms++ms)).length=ns.length+(ms.length+ms.length):=by rw [Vs,Vs]
  have hh:de K (upd (upd (upd (upd H2 R3 (.lst (ms.map V.str))) R4 (.lst ((ms++ms).map V.str))) C (.lst ((ns++(ms++ms)).map V.str))) a (.tup ((ns++(ms++ms)).map V.str))) a (ns++(ms++ms)):=⟨ag,by omega,by omega⟩
  revert g6 hh
  generalize upd (upd (upd (upd H2 R3 (.lst (ms.map V.str))) R4 (.lst ((ms++ms).map V.str))) C (.lst ((ns++(ms++ms)).map V.str))) a (.tup ((ns++(ms++ms)).map V.str))=H6
  generalize ns++(ms++ms)=hd
  intro g6 hh
  dsimp only
  refine⟨_,rfl,_,rfl,?_⟩
  refine⟨_,rfl,p,_,rfl,g6.cq,by decide,by decide,λm1 H7 g7 a7 b7=>?_⟩
  have k7:=g6.trans g7
  refine⟨_,rfl,p,_,rfl,k7.cq,by decide,by decide,λm2 H8 g8 a8 b8=>?_⟩
  have k8:=k7.trans g8
  refine⟨cN,λR9 Iq=>?_⟩
  have k9:=k8.new (o:=.lst [.int m1,.int m2]) Iq
  refine⟨_,rfl,p,_,rfl,k9.cq,by decide,by decide,λm3 Ax HV a10 b10=>?_⟩
  have k10:=k9.trans HV
  have hk:=HV.keep R9 _ (k8.ne Iq) ag
  have hz:∃z:Nat,jj [V.int m1,V.int m2] m3=some (.int z)/\z<=9:=by
   have:m3=0\/m3=1:=by omega
   rcases this with z | z <;> subst z
   ·exact⟨m1.toNat,by rw [show((m1.toNat:Nat):Int)=m1 by omega]; rfl,by omega⟩
   ·exact⟨m2.toNat,by rw [show((m2.toNat:Nat):Int)=m2 by omega]; rfl,by omega⟩
  obtain⟨z,hz,z9⟩:=hz
  refine⟨R9,_,_,_,rfl,rfl,a_.of hk,hz,?_⟩
  have M1:=hh.grow g6.cq ((g7.trans g8).trans ((bp.refl k8.cq).new Iq |>.trans HV))
  refine⟨p,a,hd,2,z,false,rfl,k10.cq,M1,by decide,z9,λu ws Pr NM Qt Pl=>ak ?_⟩
  have k11:=k10.trans NM
  have Pu:=M1.grow k10.cq NM
  dsimp only
  refine⟨λm σ H'=>∃u ws,σ=[some (.ref p),some (.ref Dl),some (.ref a),some (.ref u)]/\ws.length=m/\ws.length<=9/\aY 2 H' u ws/\de K H' a hd/\bp p H H',⟨_,u,ws,rfl,rfl,Vo Pl z9,Qt,Pu,k11⟩,?_⟩
  rintro m σ H' ⟨u,ws,rfl,hm,h9,hp,hh,g⟩
  obtain⟨bs,hb⟩:=hp.pp
  refine⟨_,rfl,u,ws,rfl,⟨bs,hb⟩,λc H7 s7 hc=>?_⟩
  refine⟨_,_,rfl,rfl,_,rfl,?_⟩
  have g7:=g.trans (bp.same g.cq s7)
  have Rq:=hh.same s7
  refine cJ (λcc=>?_) (λcc=>?_)
  ·have Vc:(20:Int)<c:=by simpa using cc
   have hne:ws≠[]:=λz=>by
    have:=hc z
    omega
   have wl:1<=ws.length:=by cases ws with | nil=>exact VY rfl hne | cons _ _=>simp
   have T9:bs.map V.ref≠[]:=λz=>by
    have:=congrArg List.length z
    rw [Vr,hb.len]at this
    exact hne (List.eq_nil_of_length_eq_zero this)
   refine⟨λσ' Kc=>∃m',m'<m/\∃u ws,σ'=[some (.ref p),some (.ref Dl),some (.ref a),some (.ref u)]/\ws.length=m'/\ws.length<=9/\aY 2 Kc u ws/\de K Kc a hd/\bp p H Kc,λσ' Kc z=>z,?_⟩
   refine⟨_,rfl,_,rfl,_,rfl,u,_,rfl,s7 _ _ hb.tup,λv H8 s8 hv=>ak ?_⟩
   rw [E1 T9]at hv
   have N8:=s7.trans s8
   have Rb:=aE.of N8
   exact⟨ws.length-1,by omega,v,ws.dropLast,rfl,by rw [List.length_dropLast],(by rw [List.length_dropLast]; omega),aY.init (hb.keep Rb λ_ _ z=>z.keep Rb) hp.ok hp.dr hv,Rq.same s8,g7.trans (bp.same g7.cq s8)⟩
  ·refine⟨_,rfl,_,rfl,cN,λt ht=>?_⟩
   have sT:=aj ht (.tup [.ref a,.ref u])
   exact q t a u hd ws _ (g7.new ht) ag (Rq.same sT) (hp.keep (aE.of (s7.trans sT))) h9
theorem ik.o1{f g:Fl}(h:ik f g):f.o=true->g.o=true:=h.1
theorem ik.j1{f g:Fl}(h:ik f g):f.j=true->g.j=true:=h.2.1
theorem ik.f1{f g:Fl}(h:ik f g):f.f=true->g.f=true:=h.2.2.1
theorem ik.w1{f g:Fl}(h:ik f g):f.w=true->g.w=true:=h.2.2.2.1
theorem ik.l1{f g:Fl}(h:ik f g):f.l=true->g.l=true:=h.2.2.2.2
theorem ik.bot(f:Fl):ik f0 f:=⟨λh=>(by cases h),λh=>(by cases h),λh=>(by cases h),λh=>(by cases h),λh=>(by cases h)⟩
def F2:List Fl->List Fl->Prop
 | [],[]=>True
 | a::as,b::bs=>ik a b/\F2 as bs
 | _,_=>False
theorem F2.snoc{as bs:List Fl}{a b:Fl}(h:F2 as bs)(k:ik a b):F2 (as++[a]) (bs++[b]):=by
 induction as generalizing bs with
 | nil =>
  cases bs with
  | nil=>exact⟨k,trivial⟩
  | cons _ _=>exact V4 h
 | cons _ as ih =>
  cases bs with
  | nil=>exact V4 h
  | cons _ bs=>exact⟨h.1,ih h.2⟩
theorem ir{p:Fl->Bool}(hp:∀a b,ik a b->p a=true->p b=true):∀{as bs:List Fl},F2 as bs->as.any p=true->bs.any p=true
 | [],[],_,h=>h
 | a::as,b::bs,h1,h=>by
  rw [Wd,Bool.or_eq_true]at h⊢
  rcases h with h | h
  ·exact .inl (hp _ _ h1.1 h)
  ·exact .inr (ir hp h1.2 h)
theorem w6{x:Wk}{f g:Fl}(h:ik f g)(e:jI x g=true):jI x f=true:=by
 cases x with
 | one x =>
  cases x <;> first | exact e | skip
  show(!f.o)=true
  have e:(!g.o)=true:=e
  cases hf:f.o with
  | false=>rfl
  | true=>rw [h.o1 hf]at e; cases e
 | both p q=>exact e
 | meet c d p q=>exact e
theorem Aw{x:Wk}{f g:Fl}{hs:List Hd}(h:ik f g)(e:fF x g hs=none):fF x f hs=none:=by
 unfold fF at e⊢
 by_cases c1:cV x hs=true
 ·rw [V0 c1]at e⊢
  by_cases c2:ba x hs=true
  ·rw [V0 c2]at e⊢
   by_cases c3:(bw x hs).length<=6
   ·rw [V0 c3]at e⊢
    by_cases c4:jI x g=true
    ·rw [V0 c4]at e
     rw [V0 (w6 h c4)]
     by_cases c5:(iK x&&g.l)=true
     ·rw [V0 c5]at e; cases e
     ·refine VZ λz=>c5 ?_
      rw [VW]at z⊢
      exact⟨z.1,h.l1 z.2⟩
    ·rw [VZ c4]at e; cases e
   ·rw [VZ c3]at e; cases e
  ·rw [VZ c2]at e; cases e
 ·rw [VZ c1]at e; cases e
theorem vA{x:Wk}{hd:Hd}{f g:Fl}(h:ik f g)(e:looseW x hd f=true):looseW x hd g=true:=by
 cases x with
 | one x =>
  cases x with
  | first n =>
   have e:(decide (¬n<=0)&&f.j)=true:=e
   rw [VW]at e
   show(decide (¬n<=0)&&g.j)=true
   rw [VW]
   exact⟨e.1,h.j1 e.2⟩
  | _=>exact e
 | both p q=>exact e
 | meet c d p q =>
  have e:(f.w||f.f)=true:=e
  show(g.w||g.f)=true
  rw [Bool.or_eq_true]at e⊢
  rcases e with e | e
  ·exact .inl (h.w1 e)
  ·exact .inr (h.f1 e)
theorem B5{x:Wk}{hd:Hd}{f g:Fl}{fs gs:List Fl}(h:ik f g)(h2:F2 fs gs):ik (Ag x hd f fs) (Ag x hd g gs):=by
 have o:∀{a b c:Bool},(a=true->b=true)->(a||c)=true->(b||c)=true:=by
  intro a b c h z
  rw [Bool.or_eq_true]at z⊢
  rcases z with z | z
  ·exact .inl (h z)
  ·exact .inr z
 refine⟨o (ir (λ_ _ z=>z.o1) h2),o (ir (λ_ _ z=>z.j1) h2),o (ir (λ_ _ z=>z.f1) h2),o (ir (λ_ _ z=>z.w1) h2),λz=>?_⟩
 have z:(looseW x hd f||fs.any λg=>g.l)=true:=z
 show(looseW x hd g||gs.any λg=>g.l)=true
 rw [Bool.or_eq_true]at z⊢
 rcases z with z | z
 ·exact .inl (vA h z)
 ·exact .inr (ir (λ_ _ z=>z.l1) h2 z)
theorem l0{x:Wk}{hd h':Hd}{f g g':Fl}{pl pl':List Int}{es es':List (Hd×Fl)}(h:ik f g)(e1:es.map (λe=>e.1)=es'.map λe=>e.1)(e2:F2 (es.map λe=>e.2) (es'.map λe=>e.2))(e:eW x hd g pl es'=.ok h' g'):∃f',eW x hd f pl' es=.ok h' f'/\ik f' g':=by
 unfold eW at e⊢
 rw [e1]
 cases hw:fF x g (es'.map λe=>e.1)with
 | some s=>rw [hw]at e; cases e
 | none =>
  rw [hw]at e
  rw [Aw h hw]
  cases e
  exact⟨_,rfl,B5 h e2⟩
def ql(step:Hd->Fl->List Int->Wk->Res):Prop:=∀(h:Hd) (f g:Fl) (pl pl':List Int) (x:Wk) (h':Hd) (g':Fl),ik f g->step h g pl x=.ok h' g'->∃f',step h f pl' x=.ok h' f'/\ik f' g'
theorem iq{step:Hd->Fl->List Int->Wk->Res}(S:ql step){pl pl':List Int}:∀{ws:List Wk} {i j:Nat} {h h':Hd} {f g g':Fl},ik f g->putL step pl i h g ws=.ok h' g'->∃f',putL step pl' j h f ws=.ok h' f'/\ik f' g'
 | [],i,j,h,h',f,g,g',hl,e=>by cases e; exact⟨f,rfl,hl⟩
 | x::ws,i,j,h,h',f,g,g',hl,e=>by
  obtain⟨h1,g1,e1,e2⟩:=dQ e
  obtain⟨f1,d1,l1⟩:=S h f g _ (pl'++[(j:Int)]) x h1 g1 hl e1
  obtain⟨f',d2,l2⟩:=iq S (ws:=ws) (j:=j+1) l1 e2
  refine⟨f',?_,l2⟩
  show bK (step h f (pl'++[(j:Int)]) x) _=_
  rw [d1]
  exact d2
theorem mx{step:Hd->Fl->List Int->Wk->Res}(S:ql step){x:Wk}{h h':Hd}{f g g':Fl}{pl pl':List Int}(hl:ik f g):∀{ps:List (List Wk)} {i j:Nat} {es es':List (Hd×Fl)},es.map (λe=>e.1)=es'.map (λe=>e.1)->F2 (es.map λe=>e.2) (es'.map λe=>e.2)->qZ step x h g pl ps i es'=.ok h' g'->∃f',qZ step x h f pl' ps j es=.ok h' f'/\ik f' g'
 | [],i,j,es,es',e1,e2,e=>l0 hl e1 e2 e
 | p::ps,i,j,es,es',e1,e2,e=>by
  obtain⟨h1,g1,d1,d2⟩:=dQ e
  obtain⟨f1,c1,l1⟩:=iq S (pl':=pl'++[(j:Int)]) (j:=0) hl d1
  obtain⟨f',c2,l2⟩:=mx S hl (ps:=ps) (j:=j+1) (es:=es++[(h1,f1)]) (es':=es'++[(h1,g1)]) (by rw [Vt,Vt,e1]; rfl) (by rw [Vt,Vt]; exact e2.snoc l1) d2
  refine⟨f',?_,l2⟩
  show bK (putL step (pl'++[(j:Int)]) 0 h f p) _=_
  rw [c1]
  exact c2
theorem iE:∀n,ql (bC n)
 | 0=>λh f g pl pl' x h' g' hl e=>l0 (es:=[(h,f)]) (es':=[(h,g)]) hl rfl ⟨hl,trivial⟩ e
 | n+1=>λh f g pl pl' x h' g' hl e=>by
  cases x with
  | one x=>exact l0 (es:=[(h,f)]) (es':=[(h,g)]) hl rfl ⟨hl,trivial⟩ e
  | both p q=>exact mx (iE n) hl (es:=[]) rfl trivial e
  | meet c d p q=>exact mx (iE n) hl (es:=[]) rfl trivial e
theorem kq{s1 s2:Hd->Fl->List Int->Wk->Res}{pl:List Int}:∀{ws:List Wk} {i:Nat} {h:Hd} {f:Fl},(∀x∈ws,∀h f pl,s1 h f pl x=s2 h f pl x)->putL s1 pl i h f ws=putL s2 pl i h f ws
 | [],_,_,_,_=>rfl
 | x::ws,i,h,f,e=>by
  show bK (s1 h f (pl++[(i:Int)]) x) _=bK (s2 h f (pl++[(i:Int)]) x) _
  rw [e x VU]
  congr 1
  funext h' f'
  exact kq λy hy=>e y (Vz _ hy)
theorem kr{s1 s2:Hd->Fl->List Int->Wk->Res}{x:Wk}{h:Hd}{f:Fl}{pl:List Int}:∀{ps:List (List Wk)} {j:Nat} {es:List (Hd×Fl)},(∀p∈ps,∀x∈p,∀h f pl,s1 h f pl x=s2 h f pl x)->qZ s1 x h f pl ps j es=qZ s2 x h f pl ps j es
 | [],_,_,_=>rfl
 | p::ps,j,es,e=>by
  show bK (putL s1 (pl++[(j:Int)]) 0 h f p) _=bK (putL s2 (pl++[(j:Int)]) 0 h f p) _
  rw [kq (e p VU)]
  congr 1
  funext h' f'
  exact kr λq hq=>e q (Vz _ hq)
theorem uQ:∀{n:Nat} {x:Wk},dep n x->∀h f pl,bC (n+1) h f pl x=bC n h f pl x
 | 0,.one x,_,h,f,pl=>rfl
 | n+1,.one x,_,h,f,pl=>rfl
 | n+1,.both p q,hd,h,f,pl=>kr (s1:=bC (n+1)) (s2:=bC n) λr hr x hx=>uQ (oh hd hr x hx)
 | n+1,.meet c d p q,hd,h,f,pl=>kr (s1:=bC (n+1)) (s2:=bC n) λr hr x hx=>uQ (oh hd hr x hx)
theorem vd{step:Hd->Fl->List Int->Wk->Res}{pl:List Int}:∀{as bs:List Wk} {i:Nat} {h:Hd} {f:Fl},putL step pl i h f (as++bs)=bK (putL step pl i h f as) λh1 f1=>putL step pl (i+as.length) h1 f1 bs
 | [],bs,i,h,f=>rfl
 | x::as,bs,i,h,f=>by
  show bK (step h f (pl++[(i:Int)]) x) _=bK (bK (step h f (pl++[(i:Int)]) x) _) _
  cases step h f (pl++[(i:Int)]) x with
  | no a s=>rfl
  | ok h1 f1 =>
   show putL step pl (i+1) h1 f1 (as++bs)=bK (putL step pl (i+1) h1 f1 as) _
   rw [vd,VV,show i+1+as.length=i+(as.length+1) by omega]
theorem DI{n:Nat}{h h':Hd}{f':Fl}{ws:List Wk}(e:fK n h ws=.ok h' f')(k:Nat):∃h1 f1 f2,fK n h (ws.take k)=.ok h1 f1/\fK n h1 (ws.drop k)=.ok h' f2:=by
 have e:putL (bC n) [] 0 h f0 ws=.ok h' f':=e
 rw [←List.take_append_drop k ws,vd]at e
 obtain⟨h1,f1,e1,e2⟩:=dQ e
 obtain⟨f2,e3,_⟩:=iq (iE n) (pl':=[]) (j:=0) (ik.bot f1) e2
 exact⟨h1,f1,f2,e1,e3⟩
theorem G_{n:Nat}{h h':Hd}{f':Fl}{ws:List Wk}(hd:∀x∈ws,dep n x)(h6:h.length<=6)(e:fK (n+1) h ws=.ok h' f'):∃f2,fK (n+1) h [.both ws ws]=.ok h' f2:=by
 have e:putL (bC (n+1)) [] 0 h f0 ws=.ok h' f':=e
 have h6':h'.length<=6:=sg h6 e
 rw [kq λx hx=>uQ (hd x hx)]at e
 obtain⟨f1,e1,_⟩:=iq (iE n) (pl':=[(0:Int),0]) (j:=0) (ik.bot f0) e
 obtain⟨f2,e2,_⟩:=iq (iE n) (pl':=[(0:Int),1]) (j:=0) (ik.bot f0) e
 have w:fF (.both ws ws) f0 [h',h']=none:=by
  unfold fF
  rw [V0 (show cV (.both ws ws) [h',h']=true from rfl),V0 (show ba (.both ws ws) [h',h']=true by show decide (h'=h')=true; exact Vq rfl),V0 (show(bw (.both ws ws) [h',h']).length<=6 from h6')]
  rfl
 refine⟨Ag (.both ws ws) h f0 [f1,f2],?_⟩
 show bK (bK (putL (bC n) [(0:Int),0] 0 h f0 ws) λh1 f1=>bK (putL (bC n) [(0:Int),1] 0 h f0 ws) λh2 f2=>eW (.both ws ws) h f0 [(0:Int)] [(h1,f1),(h2,f2)]) _=_
 rw [e1]
 show bK (bK (putL (bC n) [(0:Int),1] 0 h f0 ws) λh2 f2=>eW (.both ws ws) h f0 [(0:Int)] [(h',f1),(h2,f2)]) _=_
 rw [e2]
 show bK (eW (.both ws ws) h f0 [(0:Int)] [(h',f1),(h',f2)]) _=_
 unfold eW
 show bK (match fF (.both ws ws) f0 [h',h']with | some s=>Res.no [(0:Int)] s | none=>_) _=_
 rw [w]
 rfl
theorem Im{step:Hd->Fl->List Int->Wk->Res}(S:∀h f pl x q s,step h f pl x=.no q s->∃r,q=pl++r){pl:List Int}:∀{ws:List Wk} {i:Nat} {h:Hd} {f:Fl} {q:List Int} {s:Str},putL step pl i h f ws=.no q s->∃r,q=pl++r
 | [],_,_,_,_,_,e=>by cases e
 | x::ws,i,h,f,q,s,e=>by
  have e:bK (step h f (pl++[(i:Int)]) x) _=.no q s:=e
  cases er:step h f (pl++[(i:Int)]) x with
  | no a t =>
   rw [er]at e
   cases e
   obtain⟨r,rfl⟩:=S _ _ _ _ _ _ er
   exact⟨[(i:Int)]++r,by rw [List.append_assoc]⟩
  | ok h1 f1=>rw [er]at e; exact Im S e
theorem tH{x:Wk}{h:Hd}{f:Fl}{pl:List Int}{es:List (Hd×Fl)}{q:List Int}{s:Str}(e:eW x h f pl es=.no q s):∃r,q=pl++r:=by
 unfold eW at e
 split at e
 ·cases e; exact⟨[],(V8 _).symm⟩
 ·cases e
theorem Cq{step:Hd->Fl->List Int->Wk->Res}(S:∀h f pl x q s,step h f pl x=.no q s->∃r,q=pl++r){x:Wk}{h:Hd}{f:Fl}{pl:List Int}:∀{ps:List (List Wk)} {j:Nat} {es:List (Hd×Fl)} {q:List Int} {s:Str},qZ step x h f pl ps j es=.no q s->∃r,q=pl++r
 | [],j,es,q,s,e=>tH e
 | p::ps,j,es,q,s,e=>by
  have e:bK (putL step (pl++[(j:Int)]) 0 h f p) _=.no q s:=e
  cases er:putL step (pl++[(j:Int)]) 0 h f p with
  | no a t =>
   rw [er]at e
   cases e
   obtain⟨r,rfl⟩:=Im S er
   exact⟨[(j:Int)]++r,by rw [List.append_assoc]⟩
  | ok h1 f1=>rw [er]at e; exact Cq S e
theorem EW:∀(n:Nat) h f pl x q s,bC n h f pl x=.no q s->∃r,q=pl++r
 | 0,h,f,pl,x,q,s,e=>tH e
 | n+1,h,f,pl,.one x,q,s,e=>tH e
 | n+1,h,f,pl,.both a b,q,s,e=>Cq (EW n) e
 | n+1,h,f,pl,.meet c d a b,q,s,e=>Cq (EW n) e
theorem refused{n:Nat}:∀{ws:List Wk} {i:Nat} {h:Hd} {f:Fl} {q:List Int} {s:Str},putL (bC n) [] i h f ws=.no q s->
  ∃k,k<ws.length/\(∃r,q=((i+k:Nat):Int)::r)/\(∃h1 f1,putL (bC n) [] i h f (ws.take k)=.ok h1 f1)/\∀more,putL (bC n) [] i h f (ws.take (k+1)++more)=.no q s
 | [],_,_,_,_,_,e=>by cases e
 | x::ws,i,h,f,q,s,e=>by
  have e:bK (bC n h f ([]++[(i:Int)]) x) _=.no q s:=e
  cases er:bC n h f ([]++[(i:Int)]) x with
  | no a t =>
   rw [er]at e
   cases e
   obtain⟨r,rfl⟩:=EW _ _ _ _ _ _ _ er
   refine⟨0,Nat.succ_pos _,⟨r,rfl⟩,⟨h,f,rfl⟩,λmore=>?_⟩
   show bK (bC n h f ([]++[(i:Int)]) x) _=_
   rw [er]
   rfl
  | ok h1 f1 =>
   rw [er]at e
   obtain⟨k,hk,⟨r,hr⟩,⟨h2,f2,h3⟩,h4⟩:=refused (ws:=ws) (i:=i+1) e
   refine⟨k+1,Nat.succ_lt_succ hk,⟨r,by rw [hr,show i+1+k=i+(k+1) by omega]⟩,⟨h2,f2,?_⟩,λmore=>?_⟩
   ·show bK (bC n h f ([]++[(i:Int)]) x) _=_
    rw [er]
    exact h3
   ·show bK (bC n h f ([]++[(i:Int)]) x) _=_
    rw [er]
    exact h4 more
theorem Pz:bnd 3<=200000:=by decide
theorem vB{X:Cx}{K:Wg}{o:Expr}{ta:TE}{f:Str}{pos:Pos}(e:X.K=K)(he:PE X o ta)(hb:attributeBase o f X.env (eval o X.env)=eval o X.env):PE X (.Attribute o f pos) (Il K ta f):=by subst e; exact Hy he hb
theorem four{α:Type}{l:List α}(h:l.length=4):∃a b c d,l=[a,b,c,d]:=match l,h with | [a,b,c,d],_=>⟨a,b,c,d,rfl⟩
theorem Kq{v1 v2:V}:(A7 v1 v2).lookup ("place" : Str)=some v1:=by rw [eD,VZ (by decide),eD,V0 rfl]
theorem K2{v1 v2:V}:(A7 v1 v2).lookup ("why" : Str)=some v2:=by rw [eD,V0 rfl]
def rO(H:Hp)(u:Addr):Res->Prop
 | .ok h _=>∃a,H u=some (.tup [.str "head",.ref a])/\dF H a h
 | .no p s=>∃a,H u=some (.tup [.str "no",.ref a,.str s])/\H a=some (.tup (p.map V.int))
def zo:Sp:=λvs H Q _=>∃(b p:Addr) (h:Hd) (ws:List Wk),vs=[.ref b,.ref p]/\Ae 3 H b p h ws/\∀(u:Addr) (H':Hp),aM H H'->rO H' u (fK 3 h ws)->Q (.ref u) H'
abbrev iX:Stmt:=top 84
theorem gV:ay ["_law_head","_law_pipe_here","_law_found","e"] ["_law_head","_law_pipe_here"] (ar iX):=fs
theorem Et{L:Nat}{C fI:Addr}(B:jH mg)(Cf:Ja K mg C fI)(em:PySem.W.exmOne K (.ref C) (.ref C)=some true)(F:FA K mg "_law_asked" iX)
  (rm:bf (AG P w) P w K mg base L "head_behind" ["head","pipe"] (Ng C 3)) :
  bf bc P w K mg base (L+1) "_law_asked" ["_law_head","_law_pipe_here"] zo:=by
 refine F.ok gV λf cdv A outer s H vs Q E hr h=>?_
 have hu:=iD hr
 obtain⟨b,p,h,ws,rfl,hI,q⟩:=h
 refine⟨_,(aq (Jl (E:=(λCv oa H'=>Cv=.ref C/\∃(e dx pl:Addr) (ps:List Int) (sl:Str),oa=some e/\aM H H'/\H' e=some (xO e C (some dx))/\H' dx=some (xD dx (A7 (.ref pl) (.str sl)))/\H' pl=some (.tup (ps.map V.int))/\fK 3 h ws=.no ps sl)) (i:=3) (L:=s.heap.objs.size) ⟨⟨_,_,rfl,rfl⟩,rfl⟩ gV.nd rfl rfl rfl Cf.mf (λpins=>(bM (aL (i:=2) gV.nd rfl (V2 rfl) (vq rm hr rfl zQ (ae (pv 0) (ae (pv 1) ah))))))
    (λe=>(ax (aJ (ae ao (ae (vB (K:=K) rfl (pv 3) rfl) (ae (vB (K:=K) rfl (pv 3) rfl) ah)))))))
   (ax (aJ (ae ao (ae (pv 2) ah))))),?_⟩
 refine⟨?_,?_⟩
 ·refine⟨_,rfl,_,rfl,b,p,h,ws,rfl,⟨hI.hd,hI.six,hI.pp,hI.ok⟩,by decide,Pz,?_,?_⟩
  ·intro ps sl er e dx pl H1 s1 z1 z2 z3
   exact⟨rfl,e,dx,pl,ps,sl,rfl,s1,z1,z2,z3,er⟩
  ·intro h' f' er u H1 s1 hu'
   refine ak ⟨_,rfl,cN,λt ht=>?_⟩
   have st:=aj ht (.tup [.str "head",.ref u])
   refine q t _ (s1.trans st) ?_
   rw [er]
   exact⟨u,ag,st _ _ hu'⟩
 ·rintro σ' C' e od H1 hl he ⟨e1,e',dx,pl,ps,sl,ea,s1,z1,z2,z3,z4⟩
  cases e1
  cases ea
  refine⟨em,?_⟩
  obtain⟨b1,b2,b3,b4,rfl⟩:=four (show σ'.length=4 from hl)
  refine⟨_,rfl,e,C,dx,_,_,rfl,z1,z2,Cf.xc,Cf.np,Kq,_,rfl,e,C,dx,_,_,rfl,z1,z2,Cf.xc,Cf.nr,K2,fM,λt ht=>?_⟩
  have st:=aj ht (.tup [.str "no",.ref pl,.str sl])
  refine q t _ (s1.trans st) ?_
  rw [z4]
  exact⟨pl,ag,st _ _ z3⟩
theorem aY.take{n:Nat}{H:Hp}{p u:Addr}{bs:List Addr}{ws:List Wk}(k:Nat)(hI:bF (cX n) H p bs ws)(ho:ra n ws)(hd:qu n ws)(hu:H u=some (.tup ((bs.take k).map V.ref))):aY n H u (ws.take k):=by
 refine⟨⟨bs.take k,hu,by rw [VP,VP,hI.len],λi b y e1 e2=>?_⟩,?_,?_⟩
 ·rw [List.getElem?_take]at e1 e2
  split at e1
  ·rename_i z
   rw [V0 z]at e2
   exact hI.at_ i b y e1 e2
  ·cases e1
 ·have hl:(ws.take k).length<=11:=by rw [VP]; have:=ho.len; omega
  cases n with
  | zero=>exact⟨hl,λy hy=>ho.2 y (List.mem_of_mem_take hy)⟩
  | succ n=>exact⟨hl,λy hy=>ho.2 y (List.mem_of_mem_take hy)⟩
 ·cases n with
  | zero=>exact λy hy=>hd y (List.mem_of_mem_take hy)
  | succ n=>exact λy hy=>hd y (List.mem_of_mem_take hy)
theorem aY.drop{n:Nat}{H:Hp}{p u:Addr}{bs:List Addr}{ws:List Wk}(k:Nat)(hI:bF (cX n) H p bs ws)(ho:ra n ws)(hd:qu n ws)(hu:H u=some (.tup ((bs.drop k).map V.ref))):aY n H u (ws.drop k):=by
 refine⟨⟨bs.drop k,hu,by rw [List.length_drop,List.length_drop,hI.len],λi b y e1 e2=>?_⟩,?_,?_⟩
 ·rw [List.getElem?_drop]at e1 e2
  exact hI.at_ _ b y e1 e2
 ·have hl:(ws.drop k).length<=11:=by rw [List.length_drop]; have:=ho.len; omega
  cases n with
  | zero=>exact⟨hl,λy hy=>ho.2 y (List.mem_of_mem_drop hy)⟩
  | succ n=>exact⟨hl,λy hy=>ho.2 y (List.mem_of_mem_drop hy)⟩
 ·cases n with
  | zero=>exact λy hy=>hd y (List.mem_of_mem_drop hy)
  | succ n=>exact λy hy=>hd y (List.mem_of_mem_drop hy)
theorem aY.dep{n:Nat}{H:Hp}{p:Addr}{ws:List Wk}(h:aY n H p ws):∀x∈ws,My.dep n x:=by
 obtain⟨bs,hb⟩:=h.pp
 exact λx hx=>by obtain⟨a,z⟩:=fR hb hx; exact mD z
theorem pM{H:Hp}{b p:Addr}{h:Hd}{ws:List Wk}(hh:dF H b h)(h6:h.length<=6)(hp:aY 2 H p ws):Ae 3 H b p h ws:=by
 have k:=hp.le (m:=3) (by decide)
 exact⟨hh,k.pp,k.ok,k.dr,h6⟩
theorem C0{tc:TT}{a b:TS}{D:Ends}{σ:St}{H:Hp}(Pb:Bool->Hp->Prop)(hc:∀T:Bool->Hp->Prop,(∀c H',Pb c H'->T c H')->tc σ H T)(ha:∀H',Pb true H'->a D σ H')(hb:∀H',Pb false H'->b D σ H'):DK tc a b D σ H :=
 hc _ λc H' p=>by
  cases c with
  | true=>exact ha H' p
  | false=>exact hb H' p
theorem zy{tc:TT}{a t2:TS}{D:Ends}{σ:St}{H:Hp}(Pb:Bool->Hp->Prop)(hc:∀T:Bool->Hp->Prop,(∀c H',Pb c H'->T c H')->tc σ H T)(ha:∀H',Pb true H'->a {D with nx:=t2 D} σ H')(hb:∀H',Pb false H'->t2 D σ H'):xB (DK tc a rV) t2 D σ H :=
 C0 (a:=a) (b:=rV) (D:={D with nx:=t2 D}) Pb hc ha hb
def yY(K:Wg):Sp:=λvs H Q _=>∃(a:Addr) (ns:List Int),vs=[.ref a]/\a_ K H a (ns.map V.int)/\ns.length<=63/\∀H',Q (.bl true) H'
theorem A4{p:Addr}{H0 H1 H2:Hp}(hp:H0 p=none)(s:aM H0 H1)(g:bp p H1 H2):aM H0 H2:=λb o e=>g.keep b o (aV e hp) (s _ _ e)
theorem ix{n:Nat}:∀{ds:List D},(∀d∈ds,d.depth<=n)->cA ds<=n
 | [],_=>by rw [cA]; exact VJ _
 | d::ds,h=>by
  rw [cA]
  exact Nat.max_le.mpr ⟨h d VU,ix λe he=>h e (Vz _ he)⟩
def mI:Res->D
 | .ok h _=>.tup [.str "head",.tup (h.map D.str)]
 | .no p s=>.tup [.str "no",.tup (p.map D.int),.str s]
theorem yl(p:List Int):(D.tup (p.map D.int)).depth<=1:=by
 rw [D.depth]
 have:cA (p.map D.int)<=0:=ix λd hd=>by
  obtain⟨v,_,rfl⟩:=VE.mp hd
  simp [D.depth]
 omega
theorem Bl(p:List Str):(D.tup (p.map D.str)).depth<=1:=by
 rw [D.depth]
 have:cA (p.map D.str)<=0:=ix λd hd=>by
  obtain⟨v,_,rfl⟩:=VE.mp hd
  simp [D.depth]
 omega
theorem kE(r:Res):(mI r).depth<=2:=by
 cases r with
 | ok h f =>
  unfold mI
  rw [D.depth]
  have:cA [D.str "head",.tup (h.map D.str)]<=1:=ix λd hd=>by
   simp only [VF,V1,or_false]at hd
   rcases hd with rfl | rfl
   ·simp [D.depth]
   ·exact Bl h
  omega
 | no p s =>
  unfold mI
  rw [D.depth]
  have:cA [D.str "no",.tup (p.map D.int),.str s]<=1:=ix λd hd=>by
   simp only [VF,V1,or_false]at hd
   rcases hd with rfl | rfl | rfl
   ·simp [D.depth]
   ·exact yl p
   ·simp [D.depth]
  omega
theorem we{K:Wg}{H:Hp}:∀(p:List Int),bV K H (p.map D.int) (p.map V.int)
 | []=>bV.nil
 | i::p=>bV.cons (zf i) (we p)
theorem vv{K:Wg}{H:Hp}:∀(p:List Str),bV K H (p.map D.str) (p.map V.str)
 | []=>bV.nil
 | i::p=>bV.cons (gF i) (vv p)
theorem Hs{K:Wg}{H:Hp}{u a:Addr}{h:Hd}{f:Fl}(h1:H u=some (.tup [.str "head",.ref a]))(h2:dF H a h):bj K H (mI (.ok h f)) (.ref u) :=
 iN h1 (.cons (gF _) (.cons (iN h2 (vv h)) .nil))
theorem Mm{K:Wg}{H:Hp}{u a:Addr}{p:List Int}{s:Str}(h1:H u=some (.tup [.str "no",.ref a,.str s]))(h2:H a=some (.tup (p.map V.int))):bj K H (mI (.no p s)) (.ref u) :=
 iN h1 (.cons (gF _) (.cons (iN h2 (we p)) (.cons (gF _) .nil)))
theorem ia{K:Wg}{H:Hp}{u:Addr}{r:Res}(h:rO H u r):bj K H (mI r) (.ref u):=by
 cases r with
 | ok h' f=>obtain⟨a,h1,h2⟩:=h; exact Hs h1 h2
 | no p s=>obtain⟨a,h1,h2⟩:=h; exact Mm h1 h2
structure AX(H:Hp)(b p e:Addr)(h:Hd)(ws:List Wk)(r:Res):Prop where
 hd:dF H b h
 six:h.length<=6
 pp:aY 2 H p ws
 at_:rO H e r
 ok:fK 3 h ws=r
 nine:ws.length<=9
theorem rO.same{H H':Hp}{u:Addr}{r:Res}(s:aM H H')(h:rO H u r):rO H' u r:=by
 cases r with
 | ok h' f=>obtain⟨a,h1,h2⟩:=h; exact⟨a,s _ _ h1,s _ _ h2⟩
 | no p t=>obtain⟨a,h1,h2⟩:=h; exact⟨a,s _ _ h1,s _ _ h2⟩
theorem AX.same{H H':Hp}{b p e:Addr}{h:Hd}{ws:List Wk}{r:Res}(s:aM H H')(i:AX H b p e h ws r):AX H' b p e h ws r:=⟨s _ _ i.hd,i.six,i.pp.keep (aE.of s),i.at_.same s,i.ok,i.nine⟩
def yZ:Sp:=λvs H Q _=>∃(b p e:Addr) (h:Hd) (ws:List Wk) (h':Hd) (f':Fl),vs=[.ref b,.ref p,.ref e]/\AX H b p e h ws (.ok h' f')/\∀H',aM H H'->Q (.bl true) H'
def BZ:Sp:=λvs H Q _=>∃(b p e:Addr) (h:Hd) (ws:List Wk) (pl:List Int) (sl:Str),vs=[.ref b,.ref p,.ref e]/\AX H b p e h ws (.no pl sl)/\∀H',aM H H'->Q (.bl true) H'
theorem Hj{H:Hp}{b p t1 t2:Addr}{h:Hd}{ws:List Wk}(hh:dF H b h)(h6:h.length<=6)(hp:aY 2 H p ws)(e1:H t1=some (.tup [.str "both",.ref p,.ref p]))(e2:H t2=some (.tup [.ref t1])):Ae 3 H b t2 h [.both ws ws]:=by
 obtain⟨bs,hb⟩:=hp.pp
 have hl:=hp.ok.len
 refine⟨hh,⟨[t1],e2,rfl,λi a x z1 z2=>?_⟩,⟨(by show 1<=11; decide),λx hx=>?_⟩,λx hx=>?_,h6⟩
 ·cases i with
  | zero=>cases z1; cases z2; exact⟨p,p,bs,bs,e1,hb,hb⟩
  | succ i=>cases z1
 ·rw [VD.mp hx]
  refine⟨⟨trivial,trivial,trivial,λp hp=>?_⟩,λq hq=>?_⟩
  ·simp only [dA,VF,V1,or_false]at hp
   rcases hp with rfl | rfl <;> omega
  ·simp only [dA,VF,V1,or_false]at hq
   rcases hq with rfl | rfl <;> exact hp.ok
 ·rw [VD.mp hx]
  refine⟨⟨trivial,trivial⟩,λq hq=>?_⟩
  simp only [dA,VF,V1,or_false]at hq
  rcases hq with rfl | rfl <;> exact hp.dr
abbrev dm:Stmt:=top 85
theorem dU:ay ["_law_head","_law_pipe_here","_law_end_here","_law_at","_law_started"] ["_law_head","_law_pipe_here","_law_end_here"] (ar dm):=fs
theorem Dm{L Lm:Nat}(Rk:Lm<=L)(B:jH mg)(F:FA K mg "_law_parts_right" dm)
  (cw:bf bc P w K mg base L "_law_asked" ["_law_head","_law_pipe_here"] zo)
  (df:bf bc P w K mg base Lm "_law_many" ["_law_pipe_here"] (jW 3)) :
  bf bc P w K mg base (L+1) "_law_parts_right" ["_law_head","_law_pipe_here","_law_end_here"] yZ:=by
 refine F.ok dU λf cdv A outer s H vs Q E hr h=>?_
 have hu:=iD hr
 have hu1:=jb hr
 obtain⟨b,p,e,h,ws,h',f',rfl,hI,q⟩:=h
 refine⟨_,(aq (gp PassesOwn.never rfl (c8 rfl B.range (ae (aD cL (bg bA rfl B.len We (ae (pv 1) ah)) ai) ah)) (bU (i:=3) dU.nd rfl (V2 rfl))
    (aq (aL (i:=4) dU.nd rfl (V2 rfl) (av cw hr (ae (pv 0) (ae (bN cz (pv 1) cC (bS (pv 3))) ah))))
     (bM (du (PW.pt (C1 (aU kf (az K (pv 4) ai) ao) (xo (aU jn (av cw hr (ae (az K (pv 4) ai) (ae (bN cz (pv 1) (bS (pv 3)) cC) ah))) (pv 2)))))
      (ax eE)
      b9))))
   (aN (aU gG (aD kN ai (av df hr (ae (pv 1) ah))) ai) eE
   (ax (bT yM (av cw hr (ae (pv 0) (ae (aJ (ae (aJ (ae ao (ae (pv 1) (ae (pv 1) ah)))) ah)) ah))) (pv 2))))),?_⟩
 have xk:∀r:Res,(A.deeper (PyProof.Rows.envOfC "_law_parts_right" (ar dm) s.heap.objs.size f cdv)).units+(mI r).depth<cLine:=λr=>Vu (Nat.add_le_add_left (Vo (kE r) (by decide:2<=8)) _) hu
 obtain⟨bs,hb⟩:=hI.pp.pp
 have hlb:(bs.map V.ref).length=ws.length:=by rw [Vr,hb.len]
 have hl:=hI.pp.ok.len
 refine⟨_,rfl,p,_,rfl,.inr (aH.of hb.tup),_,_,rfl,rfl,_,rfl,(jh (by omega) (by omega)).1,(jh (by omega) (by omega)).2,?_⟩
 refine e9 (λi σ H'=>(∃o3 o4,σ=[some (.ref b),some (.ref p),some (.ref e),o3,o4])/\aM H H') ⟨⟨_,_,rfl⟩,aM.refl _⟩ ?_ ?_
 ·rintro i σ Hi hi ⟨⟨o3,o4,rfl⟩,CZ⟩
  have hil:i<=ws.length:=by omega
  have J:=hI.same CZ
  have hbi:=CZ _ _ hb.tup
  refine ak ?_
  dsimp only
  refine⟨_,rfl,_,rfl,_,rfl,_,rfl,p,_,rfl,hbi,λt1 H1 s1 ht1=>?_⟩
  rw [Int.zero_add,oq (by omega),←List.map_take]at ht1
  have k1:=aE.of (CZ.trans s1)
  have J1:=J.same s1
  have pt:=aY.take i (hb.keep k1 λ_ _ z=>z.keep k1) hI.pp.ok hI.pp.dr ht1
  refine⟨b,t1,h,ws.take i,rfl,pM J1.hd J1.six pt,λu1 H2 s2 hu1=>ak ?_⟩
  obtain⟨h1,f1,f2,e1,e2⟩:=DI hI.ok i
  rw [e1]at hu1
  obtain⟨a1,r1,r2⟩:=hu1
  have DF:=(CZ.trans s1).trans s2
  dsimp only
  refine⟨_,rfl,u1,_,0,_,rfl,rfl,aH.of r1,au (j:=0) rfl,rfl,_,rfl,?_⟩
  rw [bP,Vq rfl]
  refine bB ⟨_,rfl,u1,_,1,_,rfl,rfl,aH.of r1,rfl,_,rfl,_,rfl,_,rfl,p,_,rfl,DF _ _ hb.tup,λt2 H3 s3 vU=>?_⟩
  rw [Int.zero_add,vt (by omega),←List.map_drop]at vU
  have wU:=DF.trans s3
  have k3:=aE.of wU
  have pd:=aY.drop i (hb.keep k3 λ_ _ z=>z.keep k3) hI.pp.ok hI.pp.dr vU
  refine⟨a1,t2,h1,ws.drop i,rfl,pM (s3 _ _ r2) (sg hI.six e1) pd,λu2 H4 s4 hu2=>?_⟩
  rw [e2]at hu2
  refine⟨_,rfl,mI (.ok h' f'),mI (.ok h' f'),ia (r:=.ok h' f2) hu2,ia (hI.at_.same (wU.trans s4)),xk _,_,rfl,?_⟩
  rw [gw]
  exact bB (aG ⟨⟨_,_,rfl⟩,wU.trans s4⟩)
 ·rintro σ Hi ⟨⟨o3,o4,rfl⟩,CZ⟩
  have J:=hI.same CZ
  refine⟨_,rfl,p,ws,rfl,J.pp.pp,λc H1 s1 _=>⟨_,_,rfl,rfl,.inl ⟨by decide,by decide⟩,_,_,rfl,rfl,_,rfl,cJ (λ_=>q _ (CZ.trans s1)) (λ_=>aG ?_)⟩⟩
  have J1:=J.same s1
  refine⟨_,rfl,_,rfl,_,rfl,fM,λt1 ht1=>⟨dH,λt2 vU=>?_⟩⟩
  have s2:=aj ht1 (.tup [.str "both",.ref p,.ref p])
  have s3:=aj vU (.tup [.ref t1])
  have J3:=J1.same (s2.trans s3)
  obtain⟨f2,e2⟩:=G_ hI.pp.dep hI.six hI.ok
  refine⟨b,t2,h,[.both ws ws],rfl,Hj J3.hd J3.six J3.pp (s3 _ _ ag) ag,λu H4 s4 uR=>?_⟩
  rw [e2]at uR
  have M5:=(CZ.trans s1).trans ((s2.trans s3).trans s4)
  refine⟨_,rfl,mI (.ok h' f'),mI (.ok h' f'),ia (r:=.ok h' f2) uR,ia (hI.at_.same M5),xk _,?_⟩
  rw [gw]
  exact q _ M5
theorem aY.app{n:Nat}{H:Hp}{p u:Addr}{bs cs:List Addr}{ws vs:List Wk}(hI:bF (cX n) H p bs ws)(ho:ra n ws)(hd:qu n ws)(hv:cs.length=vs.length)(ha:∀(i:Nat) a x,cs[i]? = some a->vs[i]? = some x->jq n H a x)(hl:ws.length+vs.length<=11)(hu:H u=some (.tup ((bs++cs).map V.ref))):aY n H u (ws++vs):=by
 have hm:∀y∈vs,∃a,jq n H a y:=λy hy=>by
  obtain⟨i,e⟩:=List.mem_iff_getElem?.mp hy
  have hi:i<cs.length:=by rw [hv]; exact(VC.mp e).1
  exact⟨_,ha i _ y (Vw hi) e⟩
 refine⟨⟨bs++cs,hu,by rw [Vs,Vs,hI.len,hv],λi b y e1 e2=>?_⟩,?_,?_⟩
 ·by_cases hi:i<bs.length
  ·rw [VN hi]at e1
   rw [VN (by rw [←hI.len]; exact hi)]at e2
   exact hI.at_ i b y e1 e2
  ·rw [VM (by omega)]at e1
   rw [VM (by rw [←hI.len]; omega),←hI.len]at e2
   exact(ha _ b y e1 e2).wk
 ·have hl':(ws++vs).length<=11:=by rw [Vs]; exact hl
  cases n with
  | zero =>
   refine⟨hl',λy hy=>?_⟩
   rcases VH.mp hy with z | z
   ·exact ho.2 y z
   ·obtain⟨a,k⟩:=hm y z; exact k.ok
  | succ n =>
   refine⟨hl',λy hy=>?_⟩
   rcases VH.mp hy with z | z
   ·exact ho.2 y z
   ·obtain⟨a,k⟩:=hm y z; exact⟨k.ok,λp hp=>(k.br p hp).1⟩
 ·cases n with
  | zero =>
   intro y hy
   rcases VH.mp hy with z | z
   ·exact hd y z
   ·obtain⟨a,k⟩:=hm y z; exact⟨k.dr,k.pm⟩
  | succ n =>
   intro y hy
   rcases VH.mp hy with z | z
   ·exact hd y z
   ·obtain⟨a,k⟩:=hm y z; exact⟨⟨k.dr,k.pm⟩,λp hp=>(k.br p hp).2⟩
theorem Gv(xs:List V)(c:Int):∃j,fz xs none (some c)=xs.take j:=by
 unfold fz
 rw [HT.lQ,List.drop_zero,Nat.sub_zero]
 exact⟨_,rfl⟩
section
variable{X:Cx}{st:Stmt}{rest:List Stmt}{t u:TS}{c e:Expr}{te:TE}{tc:TT}{pos pos2 p2:Pos}{lo hi:Option Expr}
theorem HD(h1:PS X st t)(h2:SO X rest u):SO X (st::rest) (xB t u):=⟨aq h1 h2.h⟩
theorem JU(hc:PT X c tc)(he:PE X e te)(hr:SO X rest u):SO X (.If c [.Return (some e) pos] [] pos2::rest) (xB (DK tc (Ab te) rV) u):=⟨aN hc he hr.h⟩
theorem Nn{r:V->Option Int->Option Int->Hp->VK->Prop}{tl th}(hr:E7 X r)(he:EO X e te)(hl:PO X lo tl)(hu:PO X hi th):EO X (.Subscript e (.Slice lo hi none p2) pos) (RF r te tl th):=⟨bN hr he.h hl hu⟩
end
abbrev cU:Stmt:=top 86
theorem dD:ay ["_law_head","_law_pipe_here","_law_refusal","_law_at","_law_more"] ["_law_head","_law_pipe_here","_law_refusal"] (ar cU):=fs
theorem Fy{L Lm:Nat}(Rk:Lm<=L)(B:jH mg)(F:FA K mg "_law_refused_right" cU)
  (cw:bf bc P w K mg base L "_law_asked" ["_law_head","_law_pipe_here"] zo)
  (df:bf bc P w K mg base Lm "_law_many" ["_law_pipe_here"] (jW 3)) :
  bf bc P w K mg base (L+1) "_law_refused_right" ["_law_head","_law_pipe_here","_law_refusal"] BZ:=by
 refine F.ok dD λf cdv A outer s H vs Q E hr h=>?_
 have hu:=iD hr
 have hu1:=jb hr
 obtain⟨b,p,e,h,ws,pl,sl,rfl,hI,q⟩:=h
 refine HY (HD (aL (i:=3) dD.nd rfl (V2 rfl) (az K (az K (pv 2) ai) ai))
   (JU (PW.pt (C1 (aU kf (az K (av cw hr (ae (pv 0) (ae (bN cz (pv 1) cC (bS (pv 3))) ah))) ai) ao) (xo (aU jn (av cw hr (ae (pv 0) (ae (bN cz (pv 1) cC (bS (aD cL (pv 3) ai))) ah))) (pv 2))))) eE
   (DM (i:=4) dD.nd rfl (V2 rfl) (Nn cz (pe (cD (pe (cD ⟨ao⟩ l7)) (cD (pe (cD ⟨ao⟩ (cD ⟨ai⟩ (cD (pe (cD ⟨ao⟩ (cD (pe l7) l7))) l7)))) l7))) cC (bS (aD bO ai (av df hr (ae (bN cz (pv 1) cC (bS (aD cL (pv 3) ai))) ah)))))
   ⟨(ax (bT yM (av cw hr (ae (pv 0) (ae (aD bZ (bN cz (pv 1) cC (bS (aD cL (pv 3) ai))) (pv 4)) ah))) (pv 2)))⟩))) ?_
 have xk:∀r:Res,(A.deeper (PyProof.Rows.envOfC "_law_refused_right" (ar cU) s.heap.objs.size f cdv)).units+(mI r).depth<cLine:=λr=>Vu (Nat.add_le_add_left (Vo (kE r) (by decide:2<=8)) _) hu
 obtain⟨bs,hb⟩:=hI.pp.pp
 have hlb:(bs.map V.ref).length=ws.length:=by rw [Vr,hb.len]
 have hl:=hI.pp.ok.len
 obtain⟨k,hk,⟨r,rfl⟩,⟨h1,f1,h3⟩,h4⟩:=refused (show putL (bC 3) [] 0 h f0 ws=.no pl sl from hI.ok)
 have h5:fK 3 h (ws.take (k+1))=.no (((0+k:Nat):Int)::r) sl:=by have:=h4 []; rwa [V8]at this
 obtain⟨a0,r1,r2⟩:=hI.at_
 refine⟨_,rfl,e,_,1,_,rfl,rfl,aH.of r1,rfl,a0,_,0,_,rfl,rfl,aH.of r2,au (j:=0) rfl,ak ?_⟩
 dsimp only
 have F4:∀{m:Nat} (c:Int),c=(m:Int)->m<=ws.length->fz (bs.map V.ref) none (some c)=(bs.take m).map V.ref:=by
  rintro m c rfl hm
  rw [oq (by omega),List.map_take]
 have tk:∀{m:Nat} {H1:Hp} {t:Addr},aM H H1->H1 t=some (.tup ((bs.take m).map V.ref))->aY 2 H1 t (ws.take m):=by
  intro m H1 t s1 ht
  have k1:=aE.of s1
  exact aY.take m (hb.keep k1 λ_ _ z=>z.keep k1) hI.pp.ok hI.pp.dr ht
 refine⟨_,rfl,_,rfl,_,rfl,_,rfl,p,_,rfl,hb.tup,λt1 H1 s1 ht1=>?_⟩
 rw [F4 (m:=k) _ (by omega) (by omega)]at ht1
 refine⟨b,t1,h,ws.take k,rfl,pM (s1 _ _ hI.hd) hI.six (tk s1 ht1),λu1 H2 s2 hu1=>?_⟩
 rw [show fK 3 h (ws.take k)=.ok h1 f1 from h3]at hu1
 obtain⟨a1,z1,z2⟩:=hu1
 have DF:=s1.trans s2
 refine⟨u1,_,0,_,rfl,rfl,aH.of z1,au (j:=0) rfl,rfl,_,rfl,?_⟩
 rw [bP,Vq rfl]
 refine bB ⟨_,rfl,_,rfl,_,rfl,_,_,rfl,rfl,_,rfl,p,_,rfl,DF _ _ hb.tup,λt2 H3 s3 vU=>?_⟩
 rw [F4 (m:=k+1) _ (by omega) (by omega)]at vU
 have wU:=DF.trans s3
 refine⟨b,t2,h,ws.take (k+1),rfl,pM (wU _ _ hI.hd) hI.six (tk wU vU),λu2 H4 s4 hu2=>?_⟩
 rw [h5]at hu2
 have M5:=wU.trans s4
 refine⟨_,rfl,_,_,ia hu2,ia (hI.at_.same M5),xk _,_,rfl,?_⟩
 rw [gw]
 refine bB (aG ?_)
 dsimp only
 refine⟨dH,λm1 hm1=>?_⟩
 have q1:=aj hm1 (.tup [.str "apart"])
 have v1:upd H4 m1 (.tup [.str "apart"]) m1=some (.tup [.str "apart"]):=ag
 revert q1 v1
 generalize upd H4 m1 (.tup [.str "apart"])=H5
 intro q1 v1
 refine⟨yf,λm2 hm2=>?_⟩
 have q2:=aj hm2 (.tup [])
 have v2:upd H5 m2 (.tup []) m2=some (.tup []):=ag
 revert q2 v2
 generalize upd H5 m2 (.tup [])=H6
 intro q2 v2
 have v1:=q2 _ _ v1
 refine⟨cN,λm3 Rv=>?_⟩
 have q3:=aj Rv (.tup [.str "n",.ref m2])
 have v3:upd H6 m3 (.tup [.str "n",.ref m2]) m3=some (.tup [.str "n",.ref m2]):=ag
 revert q3 v3
 generalize upd H6 m3 (.tup [.str "n",.ref m2])=H7
 intro q3 v3
 have v1:=q3 _ _ v1
 refine⟨fM,λm4 RO=>?_⟩
 have q4:=aj RO (.tup [.str "keep",.int 12,.ref m3])
 have v4:upd H7 m4 (.tup [.str "keep",.int 12,.ref m3]) m4=some (.tup [.str "keep",.int 12,.ref m3]):=ag
 revert q4 v4
 generalize upd H7 m4 (.tup [.str "keep",.int 12,.ref m3])=H8
 intro q4 v4
 have v1:=q4 _ _ v1
 have v3:=q4 _ _ v3
 refine⟨cN,λm5 RI=>?_⟩
 have q5:=aj RI (.tup [.ref m1,.ref m4])
 have v5:upd H8 m5 (.tup [.ref m1,.ref m4]) m5=some (.tup [.ref m1,.ref m4]):=ag
 revert q5 v5
 generalize upd H8 m5 (.tup [.ref m1,.ref m4])=H9
 intro q5 v5
 have v1:=q5 _ _ v1
 have v3:=q5 _ _ v3
 have v4:=q5 _ _ v4
 have Qq:=M5.trans ((((q1.trans q2).trans q3).trans q4).trans q5)
 clear q1 q2 q3 q4 q5 hm1 hm2 Rv RO RI
 refine⟨_,rfl,_,rfl,_,_,rfl,rfl,_,rfl,p,_,rfl,Qq _ _ hb.tup,λt5 Ha sa Ly=>?_⟩
 rw [F4 (m:=k+1) _ (by omega) (by omega)]at Ly
 have S6:=Qq.trans sa
 refine⟨t5,ws.take (k+1),rfl,(tk S6 Ly).pp,λc Hb sb _=>⟨_,_,rfl,rfl,_,rfl,m5,_,rfl,sb _ _ (sa _ _ v5),λt6 Hc sc Dt=>ak ?_⟩⟩
 obtain⟨j,ej⟩:=Gv [V.ref m1,.ref m4] (20-c)
 rw [ej]at Dt
 have NN:=sa.trans (sb.trans sc)
 have RC:=Qq.trans NN
 have v1:=NN _ _ v1
 have v3:=NN _ _ v3
 have v4:=NN _ _ v4
 dsimp only
 refine⟨_,rfl,_,rfl,_,rfl,_,_,rfl,rfl,_,rfl,p,_,rfl,RC _ _ hb.tup,λt7 Hd sd EV=>?_⟩
 rw [F4 (m:=k+1) _ (by omega) (by omega)]at EV
 have Ue:((bs.take (k+1)).map V.ref).length+([V.ref m1,.ref m4].take j).length<=20:=by
  rw [Vr,VP,VP]
  have:[V.ref m1,V.ref m4].length=2:=rfl
  omega
 refine⟨_,rfl,t7,t6,_,_,rfl,rfl,EV,sd _ _ Dt,Vo Ue (by decide),λt8 He se OG=>?_⟩
 have Ob:=sd.trans se
 have Of:=RC.trans Ob
 have v1:=Ob _ _ v1
 have v3:=Ob _ _ v3
 have v4:=Ob _ _ v4
 have w1:jq 2 He m1 (.one .apart):=AA.all v1 ⟨trivial,trivial,trivial,λc hc=>by cases hc⟩
 have w4:jq 2 He m4 (.one (.keep 12 "n")):=AA.all ⟨m3,_,v4,v3⟩ ⟨trivial,trivial,trivial,λc hc=>by rw [VD.mp hc]; decide⟩
 have ke:=aE.of Of
 have pk:=tk (m:=k+1) Of (se _ _ EV)
 obtain⟨bs',hb'⟩:=pk.pp
 have pf:aY 2 He t8 (ws.take (k+1)++[Wk.one .apart,.one (.keep 12 "n")].take j):=by
  have GW:bF (cX 2) He t7 (bs.take (k+1)) (ws.take (k+1)):=⟨se _ _ EV,by rw [VP,VP,hb.len],λi b y e1 e2=>by
   rw [List.getElem?_take]at e1 e2
   split at e1
   ·rename_i z
    rw [V0 z]at e2
    exact(hb.at_ i b y e1 e2).keep ke
   ·cases e1⟩
  refine aY.app GW pk.ok pk.dr (cs:=[m1,m4].take j) (by rw [VP,VP]; rfl) (λi a x e1 e2=>?_) ?_ ?_
  ·rw [List.getElem?_take]at e1 e2
   split at e1
   ·rename_i z
    rw [V0 z]at e2
    match i,e1,e2 with
    | 0,e1,e2=>cases e1; cases e2; exact w1
    | 1,e1,e2=>cases e1; cases e2; exact w4
   ·cases e1
  ·rw [VP,VP]
   have:[Wk.one .apart,.one (.keep 12 "n")].length=2:=rfl
   have hk9:ws.length<=9:=hI.nine
   omega
  ·rw [OG,Vt,List.map_take (l:=[m1,m4])]
   rfl
 refine⟨b,t8,h,_,rfl,pM (Of _ _ hI.hd) hI.six pf,λu9 Hf sf KY=>?_⟩
 rw [show fK 3 h (ws.take (k+1)++[Wk.one .apart,.one (.keep 12 "n")].take j)=.no (((0+k:Nat):Int)::r) sl from h4 _]at KY
 have Rn:=Of.trans sf
 refine⟨_,rfl,_,_,ia KY,ia (hI.at_.same Rn),xk _,?_⟩
 rw [gw]
 exact q _ Rn
abbrev kg:Stmt:=top 87
theorem oM:ay ["_law_script","_law_k","_law_head","_law_pipe_here","_law_tale"] ["_law_script"] (ar kg):=fs
section
variable{P:Program}{w:World}{K:Wg}{mg:Str->Option Value}{base:Heap}
theorem Kf{f:Addr}{fd:FuncData}{L:Nat}(B:jH mg)(B2:iW mg)(F:BD K "law" "law" kg f fd)
  (yc:bf bc P w K mg base L "_law_pot" ["_law_script","_law_k"] (Iw K))
  (uE:bf bc P w K mg base L "_law_drawn" ["_law_pot_here"] (zG K))
  (cw:bf bc P w K mg base L "_law_asked" ["_law_head","_law_pipe_here"] zo)
  (kB:bf bc P w K mg base L "_law_parts_right" ["_law_head","_law_pipe_here","_law_end_here"] yZ)
  (jt:bf bc P w K mg base L "_law_refused_right" ["_law_head","_law_pipe_here","_law_refusal"] BZ) :
  e_ P w K mg base bc (L+1) f fd ["_law_script"] (yY K):=by
 refine F.ok oM (λvs H Q E h=>?_) (λcdv A outer s H vs Q E hr h=>?_)
 ·obtain⟨a,ns,rfl,_⟩:=h
  rfl
 have hu:=iD hr
 obtain⟨a,ns,rfl,hS,h63,q⟩:=h
 refine⟨_,(aq (gp PassesOwn.never rfl (c8 rfl B.range (ae (aD cL ai (bg (rF rfl) rfl B2.min PyProof.Rows.boot_min (ae ai (ae (bg bA rfl B.len We (ae (pv 0) ah)) ah)))) ah)) (bU (i:=1) oM.nd rfl (V2 rfl))
    (aq (oP (av uE hr (ae (av yc hr (ae (pv 0) (ae (pv 1) ah))) ah)) (cG rfl (aA (bU (i:=2) oM.nd rfl (V2 rfl)) (aA (bU (i:=3) oM.nd rfl (V2 rfl)) bY))))
     (aq (aL (i:=4) oM.nd rfl (V2 rfl) (av cw hr (ae (pv 2) (ae (pv 3) ah))))
     (aN (PW.pt (jR (aU aP (az K (pv 4) ai) ao) (gI (l_ (fH (av kB hr (ae (pv 2) (ae (pv 3) (ae (pv 4) ah))))))))) eE
     (aN (PW.pt (jR (aU aP (az K (pv 4) ai) ao) (gI (l_ (fH (av jt hr (ae (pv 2) (ae (pv 3) (ae (pv 4) ah))))))))) eE
     (bM (du (aU jn (pv 4) (av cw hr (ae (pv 2) (ae (pv 3) ah))))
      (ax eE)
      b9)))))))
   (ax eE)),?_⟩
 have xk:∀r:Res,(A.deeper (PyProof.Rows.envOfC "law" (ar kg) s.heap.objs.size f cdv)).units+(mI r).depth<cLine:=λr=>Vu (Nat.add_le_add_left (Vo (kE r) (by decide:2<=8)) _) hu
 have hl:(ns.map V.int).length=ns.length:=Vr _
 have mb:0<=(3:Int)+(if(((ns.map V.int).length:Nat):Int)<14 then(((ns.map V.int).length:Nat):Int)else 14)/\(3:Int)+(if(((ns.map V.int).length:Nat):Int)<14 then(((ns.map V.int).length:Nat):Int)else 14)<=17:=by split <;> omega
 refine⟨_,rfl,a,_,rfl,.inl hS,_,_,rfl,_,_,rfl,rfl,_,rfl,(jh mb.1 (by omega)).1,(jh mb.1 (by omega)).2,?_⟩
 refine e9 (λi σ H'=>(∃o1 o2 o3 o4,σ=[some (.ref a),o1,o2,o3,o4])/\aM H H') ⟨⟨_,_,_,_,rfl⟩,aM.refl _⟩ ?_ ?_
 ·rintro i σ Hi hi ⟨⟨o1,o2,o3,o4,rfl⟩,CZ⟩
  have Oe:(i:Int)<=20:=by omega
  refine ak ?_
  dsimp only
  refine⟨_,rfl,_,rfl,a,ns,_,rfl,CZ.seq hS,by omega,by omega,λp H1 hp s1 hP=>?_⟩
  refine⟨p,rfl,hP,λt b u h ws H2 g2 ht hH hp2 h9=>?_⟩
  have DF:=CZ.trans (A4 hp s1 g2)
  refine⟨t,_,rfl,aH.of ht,rfl,_,_,rfl,ak ⟨_,_,rfl,ak ⟨rfl,?_⟩⟩⟩
  dsimp only
  refine⟨_,rfl,_,rfl,b,u,h,ws,rfl,pM hH.tup hH.few hp2,λv H3 s3 hR=>ak ?_⟩
  have wU:=DF.trans s3
  have J:AX H3 b u v h ws (fK 3 h ws):=⟨s3 _ _ hH.tup,hH.few,hp2.keep (aE.of s3),hR,rfl,h9⟩
  clear hR
  dsimp only
  have fst:∃(w:Str) (xs:List V),H3 v=some (.tup (.str w::xs))/\((w="head"/\∃h' f',fK 3 h ws=.ok h' f')\/(w="no"/\∃pl sl,fK 3 h ws=.no pl sl)):=by
   have:=J.at_
   cases er:fK 3 h ws with
   | ok h' f'=>rw [er]at this; obtain⟨a1,r1,_⟩:=this; exact⟨_,_,r1,.inl ⟨rfl,h',f',rfl⟩⟩
   | no pl sl=>rw [er]at this; obtain⟨a1,r1,_⟩:=this; exact⟨_,_,r1,.inr ⟨rfl,pl,sl,rfl⟩⟩
  obtain⟨w,xs,hv,hw⟩:=fst
  refine zy (λb H'=>b=false/\aM H3 H') (λT hT=>?_) (λH' z=>VY z.1 (by decide)) (λH4 z4=>?_)
  ·refine⟨_,rfl,v,_,0,_,rfl,rfl,aH.of hv,au (j:=0) rfl,rfl,_,rfl,?_⟩
   rw [bP]
   rcases hw with⟨rfl,h',f',er⟩ | ⟨rfl,_⟩
   ·rw [Vq rfl]
    refine cp ⟨_,rfl,_,rfl,_,rfl,b,u,v,h,ws,h',f',rfl,er▸J,λH' s'=>⟨_,rfl,hT _ _ ⟨rfl,s'⟩⟩⟩
   ·rw [Vp (by decide +kernel)]
    exact bB (hT _ _ ⟨rfl,aM.refl _⟩)
  ·have s4:=z4.2
   have J4:=J.same s4
   have TN:=s4 _ _ hv
   refine zy (λb H'=>b=false/\aM H4 H') (λT hT=>?_) (λH' z=>VY z.1 (by decide)) (λH5 z5=>?_)
   ·refine⟨_,rfl,v,_,0,_,rfl,rfl,aH.of TN,au (j:=0) rfl,rfl,_,rfl,?_⟩
    rw [bP]
    rcases hw with⟨rfl,_⟩ | ⟨rfl,pl,sl,er⟩
    ·rw [Vp (by decide +kernel)]
     exact bB (hT _ _ ⟨rfl,aM.refl _⟩)
    ·rw [Vq rfl]
     refine cp ⟨_,rfl,_,rfl,_,rfl,b,u,v,h,ws,pl,sl,rfl,er▸J4,λH' s'=>⟨_,rfl,hT _ _ ⟨rfl,s'⟩⟩⟩
   ·have RU:=s4.trans z5.2
    have J5:=J.same RU
    refine C0 (λb H'=>b=false/\aM H5 H') (λT hT=>?_) (λH' z=>VY z.1 (by decide)) (λH' z=>⟨⟨_,_,_,_,rfl⟩,(wU.trans RU).trans z.2⟩)
    refine⟨_,rfl,_,rfl,_,rfl,b,u,h,ws,rfl,pM J5.hd J5.six J5.pp,λt1 H6 s6 ht1=>⟨_,_,ia (J5.at_.same s6),ia ht1,xk _,_,rfl,?_⟩⟩
    rw [gw]
    exact hT _ _ ⟨rfl,s6⟩
 ·rintro σ H' _
  exact q H'
end
def EE(K:Wg)(C PE:Addr):Bool:=(match PySem.W.clsIn K C with | some cd=>cd.mro == .ref C :: .ref PE::Ao&&cd.hasDict | none=>false)&&PySem.W.mroIn K C (.type "object")==some true &&
 PySem.W.findIn K (.ref C) "__setattr__"==some (some (.builtin "object.__setattr__"))&&PySem.W.findIn K (.ref C) "__getattribute__"==some (some (.builtin "BaseException.__getattribute__"))&&PySem.W.findIn K (.ref C) "__getattr__"==some none&&PySem.W.mroIn K C (.type "BaseException")==some true&&PySem.W.findIn K (.ref C) "__class__"==some (some (.builtin "object.__class__"))
theorem Hh{K:Wg}{C PE:Addr}(h:EE K C PE=true)(cg:PySem.W.specialIn K (.builtin "object.__class__") "__get__"=some (some (.builtin "getset_descriptor.__get__")))(ct:PySem.W.takesIn K (.builtin "object.__class__")=some true):lF K C:=by
 unfold EE at h
 simp only [VW,beq_iff_eq]at h
 obtain⟨⟨⟨⟨⟨⟨h1,h2⟩,h3⟩,h4⟩,h6⟩,h7⟩,h5⟩:=h
 split at h1
 ·rename_i cd e
  simp only [VW,beq_iff_eq]at h1
  exact⟨⟨cd,PE,e,h1.1,h1.2⟩,h2,h3,h4,h6,h7,h5,cg,ct⟩
 ·cases h1
def lh(K:Wg)(d:Addr)(key:Str)(f:Addr):Bool:=match K.lookup d with
 | some o=>o.cls == .type "dict"&&o.dict==none&&o.slots.isEmpty&&(match o.data with
  | .dict es _=>es.all (λe=>isExactStrKey e.key)&&(match es.findIdx? (λe=>e.key.isStr key)with
   | some i=>(match es[i]? with
    | some e=>(match e.key,e.val with
     | .str k _,.ref g=>k==key&&g==f
     | _,_=>false)
    | none=>false)
   | none=>false)
  | _=>false)
 | none=>false
theorem cS{K:Wg}{d:Addr}{key:Str}{f:Addr}(h:lh K d key f=true):dM K d key f:=by
 unfold lh at h
 split at h
 ·rename_i o e
  obtain⟨c,di,dt,sl⟩:=o
  simp only [VW,beq_iff_eq]at h
  obtain⟨⟨⟨h1,h2⟩,h3⟩,h4⟩:=h
  subst h1 h2
  have h3':sl = #[]:=by simpa using h3
  subst h3'
  split at h4
  ·rename_i es ep
   simp only [VW]at h4
   obtain⟨h5,h6⟩:=h4
   split at h6
   ·rename_i i ei
    split at h6
    ·rename_i en Sw
     obtain⟨x,k,v⟩:=en
     split at h6
     ·rename_i k' t g e1 e2
      have e1':k=.str k' t:=e1
      have e2':v=.ref g:=e2
      subst e1' e2'
      simp only [VW,beq_iff_eq]at h6
      obtain⟨h7,h8⟩:=h6
      subst h7 h8
      exact⟨es,ep,i,x,t,e,h5,ei,Sw⟩
     ·cases h6
    ·cases h6
   ·cases h6
  ·cases h4
 ·cases h
def yq(K:Wg)(d:Addr)(key:Str):Bool:=!(d==sysModules)&&match K.lookup d with
 | some o=>o.cls == .type "dict"&&o.dict==none&&o.slots.isEmpty&&(match o.data with
  | .dict es _=>es.all (λe=>isExactStrKey e.key)&&(es.findIdx? (λe=>e.key.isStr key)).isNone
  | _=>false)
 | none=>false
theorem iH{K:Wg}{d:Addr}{key:Str}(h:yq K d key=true):jl K d key:=by
 unfold yq at h
 simp only [VW,Bool.not_eq_true']at h
 obtain⟨h0,h⟩:=h
 refine⟨h0,?_⟩
 split at h
 ·rename_i o e
  obtain⟨c,di,dt,sl⟩:=o
  simp only [VW,beq_iff_eq]at h
  obtain⟨⟨⟨h1,h2⟩,h3⟩,h4⟩:=h
  subst h1 h2
  have h3':sl = #[]:=by simpa using h3
  subst h3'
  split at h4
  ·rename_i es ep
   simp only [VW]at h4
   exact⟨es,ep,e,h4.1,Option.isNone_iff_eq_none.mp h4.2⟩
  ·cases h4
 ·cases h
theorem Kx{C:Addr}{L:Nat}(F:FA K mg "go_through" fN):bf (AG P w) P w K mg base (L+1) "go_through" ["pipe","begun","prefix","found"] (zE C 0) :=
 F.Ln bX λ_ _ _ _ _ _ _ _ _ _ h=>V4 h
theorem GY{L:Nat}(F:FA K mg "_law_put" i_):bf bc P w K mg base (L+1) "_law_put" ["_law_head","_law_pipe_here","_law_place","_law_flags_here","_law_found"] (tE 0) :=
 F.ok cf λ_ _ _ _ _ _ _ _ _ _ h=>V4 h
theorem dE{K:Wg}{x:Str}{st:Stmt}{f:Addr}{oc:Value}{od an:Option Addr}{osl:Array (Option Value)}{kV doc pm cdv ct:Value}(a:PySem.W.nsIn K mainGlobals x=some (some (.ref f)):=by k_is)
  (l:K.lookup f=some ⟨oc,od,.func (PySem.W.fnOf x x (el st) (cY st) (ar st) .none kV doc pm an cdv ct),osl⟩:=by k_is) (c:PySem.W.codeIn K cdv x=true:=by k_is) (k:PySem.W.keepIn K (.ref f)=true:=by k_is):FK K x st f:=LP a l c k
theorem all_mk{l:PySem.W.OpenLaw}{w:World}{K:Wg}{h:Heap}{mg:Str->Option Value}{fa:Addr}(X:K.In h)(G:h.Ns mainGlobals mg)(hfa:mg "law"=some (.ref fa))
  {CF PE aC aS aT aB aO:Addr} {UH Sf:Option Addr} {tT tW Rp tb2 QW to2 to3 Q0 Ry:Tok} {nB nO:Nat} {R8 Uu:Array (Option Value)}
  {Az:Addr} {NK Mc:Option Addr} {L5:Array (Option Value)} {NH LL Nh Mh IA NI:Value}
  {pR xb vx qG v8 rj wD qK pX ug xP tD uD tG oY uA Bi eO eR kd fm jz kc xf rd nz vj mR m8 oX mQ mO mY mX m7 wL ED jB iB ka eJ jQ jk wg qN rh xU rb By p_ ur CN qF uI lE j3 mj kH oC mn yd ue xu qS xJ pK rq vk vO tZ sV kK jE:Addr}
  (a0:FK K "_law_cell_at" Ei pR:=by exact My.dE)
  (a1:FK K "_law_pot" Je xb:=by exact My.dE)
  (a2:FK K "_law_draw" CG vx:=by exact My.dE)
  (a3:FK K "_law_number" sJ qG:=by exact My.dE)
  (a4:FK K "_law_word" DL v8:=by exact My.dE)
  (a5:FK K "_law_a_sort" yE rj:=by exact My.dE)
  (a6:FK K "_law_cell" xp wD:=by exact My.dE)
  (a7:FK K "_law_column" sH qK:=by exact My.dE)
  (a8:FK K "_law_columns" oF pX:=by exact My.dE)
  (a9:FK K "_law_state" xE ug:=by exact My.dE)
  (a10:FK K "_law_set" K8 xP:=by exact My.dE)
  (a11:FK K "_law_pairs" xm tD:=by exact My.dE)
  (a12:FK K "_law_order" x3 uD:=by exact My.dE)
  (a13:FK K "_law_moves" tJ tG:=by exact My.dE)
  (a14:FK K "_law_one_row" uL oY:=by exact My.dE)
  (a15:FK K "_law_other" yy uA:=by exact My.dE)
  (a16:FK K "sort_of" lZ Bi:=by exact My.dE)
  (a17:FK K "no_columns" iP eO:=by exact My.dE)
  (a18:FK K "one_column" iL eR:=by exact My.dE)
  (a19:FK K "two_columns" gY kd:=by exact My.dE)
  (a20:FK K "listed_columns" fo fm:=by exact My.dE)
  (a21:FK K "sort_columns" fV jz:=by exact My.dE)
  (a22:FK K "sum_columns" ie kc:=by exact My.dE)
  (a23:FK K "is_there" k_ xf:=by exact My.dE)
  (a24:FK K "columns_fit" gP rd:=by exact My.dE)
  (a25:FK K "are_same_sort" fD nz:=by exact My.dE)
  (a26:FK K "cells_fit" jF vj:=by exact My.dE)
  (a27:FK K "keep_fits" jx mR:=by exact My.dE)
  (a28:FK K "same_fits" jK m8:=by exact My.dE)
  (a29:FK K "sum_fits" km oX:=by exact My.dE)
  (a30:FK K "meet_fits" jr mQ:=by exact My.dE)
  (a31:FK K "both_fits" jm mO:=by exact My.dE)
  (a32:FK K "turn_fits" jM mY:=by exact My.dE)
  (a33:FK K "walk_fits" jJ mX:=by exact My.dE)
  (a34:FK K "must_fits" jw m7:=by exact My.dE)
  (a35:FK K "sorts_fit" jv wL:=by exact My.dE)
  (a36:FK K "picked" oZ ED:=by exact My.dE)
  (a37:FK K "head_of_walk" gA jB:=by exact My.dE)
  (a38:FK K "head_of_number" fb iB:=by exact My.dE)
  (a39:FK K "head_of_cut" hX ka:=by exact My.dE)
  (a40:FK K "head_of_tallied" eZ eJ:=by exact My.dE)
  (a41:FK K "head_of_meet" gx jQ:=by exact My.dE)
  (a42:FK K "head_of_must" fZ jk:=by exact My.dE)
  (a43:FK K "head_told" jP wg:=by exact My.dE)
  (a44:FK K "branches_of" gQ qN:=by exact My.dE)
  (a45:FK K "name_passed" g_ rh:=by exact My.dE)
  (a46:FK K "rows_fit" kO xU:=by exact My.dE)
  (a47:FK K "makes_loose" gO rb:=by exact My.dE)
  (a48:FK K "why_not" mF By:=by exact My.dE)
  (a49:FK K "known_behind" gv p_:=by exact My.dE)
  (a50:FK K "go_through" fN ur:=by exact My.dE)
  (a51:FK K "survey" qa CN:=by exact My.dE)
  (a52:FK K "head_behind" ib qF:=by exact My.dE)
  (a53:FK K "_law_sorts" i3 uI:=by exact My.dE)
  (a54:FK K "_law_is_one_row" eL lE:=by exact My.dE)
  (a55:FK K "_law_told_columns" dY j3:=by exact My.dE)
  (a56:FK K "_law_no_column" fj mj:=by exact My.dE)
  (a57:FK K "_law_cells_wrong" cP kH:=by exact My.dE)
  (a58:FK K "_law_no_sort" f9 oC:=by exact My.dE)
  (a59:FK K "_law_head_next" fh mn:=by exact My.dE)
  (a60:FK K "_law_why" lb yd:=by exact My.dE)
  (a61:FK K "_law_flags" i4 ue:=by exact My.dE)
  (a62:FK K "_law_put" i_ xu:=by exact My.dE)
  (a63:FK K "_law_judged" ij qS:=by exact My.dE)
  (a64:FK K "_law_end" kl xJ:=by exact My.dE)
  (PL:FK K "_law_joining" fY pK:=by exact My.dE)
  (O2:FK K "_law_worker" hZ rq:=by exact My.dE)
  (Oy:FK K "_law_pipe" gN vk:=by exact My.dE)
  (N3:FK K "_law_many" gK vO:=by exact My.dE)
  (Tj:FK K "_law_drawn" iU tZ:=by exact My.dE)
  (Tw:FK K "_law_asked" iX sV:=by exact My.dE)
  (Um:FK K "_law_parts_right" dm kK:=by exact My.dE)
  (SN:FK K "_law_refused_right" cU jE:=by exact My.dE)
  (Nm:PySem.W.nsIn K mainGlobals "len"=some none:=by k_is)
  (NB:PySem.W.nsIn K mainGlobals "max"=some none:=by k_is)
  (L4:PySem.W.nsIn K mainGlobals "abs"=some none:=by k_is)
  (CW:PySem.W.nsIn K mainGlobals "divmod"=some none:=by k_is)
  (G9:PySem.W.nsIn K mainGlobals "range"=some none:=by k_is)
  (Hv:PySem.W.nsIn K mainGlobals "tuple"=some none:=by k_is)
  (KD:PySem.W.nsIn K mainGlobals "list"=some none:=by k_is)
  (t_:PySem.W.nsIn K mainGlobals "isinstance"=some none:=by k_is)
  (LI:PySem.W.nsIn K mainGlobals "int"=some none:=by k_is)
  (MZ:PySem.W.nsIn K mainGlobals "min"=some none:=by k_is)
  (MS:PySem.W.nsIn K mainGlobals "all"=some none:=by k_is)
  (Cu:PySem.W.nsIn K mainGlobals "sorted"=some none:=by k_is)
  (Nf:PySem.W.nsIn K mainGlobals "set"=some none:=by k_is)
  (L_:PySem.W.nsIn K mainGlobals "str"=some none:=by k_is)
  (L7:PySem.W.nsIn K mainGlobals "any"=some none:=by k_is)
  (Nt:PySem.W.nsIn K mainGlobals "zip"=some none:=by k_is)
  (mZ:PySem.W.nsIn K mainGlobals "enumerate"=some none:=by k_is)
  {CP:Addr} {Kw CL:Option Addr} {Kp:Array (Option Value)} {Kl EY DO Dj xj D_:Value}
  (LN:PySem.W.nsIn K mainGlobals "law"=some (some (.ref CP)):=by k_is) (M7:K.lookup CP=some ⟨Kl,Kw,.func (PySem.W.fnOf "law" "law" (el kg) (cY kg) (ar kg) .none EY DO Dj CL xj D_),Kp⟩:=by k_is) (NC:PySem.W.codeIn K xj "law"=true:=by k_is) (MQ:PySem.W.keepIn K (.ref CP)=true:=by k_is)
  (Uj:PySem.W.nsIn K mainGlobals "NoPipe"=some (some (.ref CF)):=by k_is)
  (Vd:PySem.W.nsIn K mainGlobals "PipeError"=some (some (.ref PE)):=by k_is)
  (zC:PySem.W.nsIn K mainGlobals "COLUMNS_OF"=some (some (.ref aC)):=by k_is)
  (zS:PySem.W.nsIn K mainGlobals "SORTS_FIT"=some (some (.ref aS)):=by k_is)
  (zT:PySem.W.nsIn K mainGlobals "HEADS_TOLD"=some (some (.ref aT)):=by k_is)
  (zB:PySem.W.nsIn K mainGlobals "BRANCHED"=some (some (.ref aB)):=by k_is)
  (zO:PySem.W.nsIn K mainGlobals "ONE_ROW"=some (some (.ref aO)):=by k_is)
  (Ta:PySem.W.nsIn K mainGlobals "TALLY"=some (some (.str "t" tT)):=by k_is)
  (zW:PySem.W.nsIn K mainGlobals "WIDEST_ROW"=some (some (.int 6 tW)):=by k_is)
  (lB:K.lookup aB=some ⟨.type "tuple",UH,.seq #[.str "both" Rp,.str "meet" tb2] nB,R8⟩:=by k_is)
  (lO:K.lookup aO=some ⟨.type "tuple",Sf,.seq #[.str "keep" QW,.str "same" to2,.str "cut" to3,.str "turn" Q0,.str "must" Ry] nO,Uu⟩:=by k_is)
  (SU:PySem.W.findIn K (.ref CF) "__init__"=some (some (.ref Az)):=by k_is)
  (Pf:K.lookup Az=some ⟨NH,NK,.func (PySem.W.fnOf "__init__" "NoPipe.__init__" (el ma) (cY ma) (ar ma) .none LL Nh Mh Mc IA NI),L5⟩:=by k_is)
  (P8:PySem.W.codeIn K IA "NoPipe.__init__"=true:=by k_is)
  (PC:PySem.W.keepIn K (.ref Az)=true:=by k_is)
  (Te:PySem.W.keepIn K (.ref CF)=true:=by k_is)
  (Uo:PySem.W.isFn K (.ref Az)=true:=by k_is)
  (UE:PySem.W.findIn K (.ref CF) "place"=some none:=by k_is)
  (Tq:PySem.W.findIn K (.ref CF) "why"=some none:=by k_is)
  (cg:PySem.W.specialIn K (.builtin "object.__class__") "__get__"=some (some (.builtin "getset_descriptor.__get__")):=by k_is)
  (ct:PySem.W.takesIn K (.builtin "object.__class__")=some true:=by k_is)
  (x0:EE K CF PE=true:=by kernel_rfl)
  (e0:mq K CF Ao "ValueError.__new__" (some (.ref Az))=true:=by kernel_rfl)
  (em:PySem.W.exmOne K (.ref CF) (.ref CF)=some true:=by kernel_rfl)
  (QZ:PySem.W.kitOne K (.type "int") (.type "str")=some false:=by kernel_rfl)
  (I0:lh K aC "keep" eR=true:=by kernel_rfl)
  (Jp:lh K aC "same" kd=true:=by kernel_rfl)
  (M9:lh K aC "cut" fm=true:=by kernel_rfl)
  (JY:lh K aC "turn" eR=true:=by kernel_rfl)
  (JQ:lh K aC "must" eR=true:=by kernel_rfl)
  (JX:lh K aC "walk" eR=true:=by kernel_rfl)
  (IY:lh K aC "sort" jz=true:=by kernel_rfl)
  (Gh:lh K aC "apart" eO=true:=by kernel_rfl)
  (Hn:lh K aC "count" fm=true:=by kernel_rfl)
  (Nc:lh K aC "sum" kc=true:=by kernel_rfl)
  (El:lh K aC "number" eO=true:=by kernel_rfl)
  (Fp:lh K aC "first" eO=true:=by kernel_rfl)
  (KU:lh K aC "both" eO=true:=by kernel_rfl)
  (IX:lh K aS "keep" mR=true:=by kernel_rfl)
  (s_same:lh K aS "same" m8=true:=by kernel_rfl)
  (KI:lh K aS "turn" mY=true:=by kernel_rfl)
  (Jq:lh K aS "must" m7=true:=by kernel_rfl)
  (JV:lh K aS "walk" mX=true:=by kernel_rfl)
  (M0:lh K aS "sum" oX=true:=by kernel_rfl)
  (J_:lh K aS "both" mO=true:=by kernel_rfl)
  (Kh:lh K aS "meet" mQ=true:=by kernel_rfl)
  (JH:yq K aS "cut"=true:=by kernel_rfl)
  (FD:yq K aS "sort"=true:=by kernel_rfl)
  (BQ:yq K aS "apart"=true:=by kernel_rfl)
  (DW:yq K aS "count"=true:=by kernel_rfl)
  (AQ:yq K aS "number"=true:=by kernel_rfl)
  (De:yq K aS "first"=true:=by kernel_rfl)
  (KQ:lh K aT "cut" ka=true:=by kernel_rfl)
  (Hg:lh K aT "must" jk=true:=by kernel_rfl)
  (HI:lh K aT "walk" jB=true:=by kernel_rfl)
  (EF:lh K aT "count" eJ=true:=by kernel_rfl)
  (JS:lh K aT "sum" eJ=true:=by kernel_rfl)
  (Bc:lh K aT "number" iB=true:=by kernel_rfl)
  (Fz:lh K aT "meet" jQ=true:=by kernel_rfl)
  (Gr:yq K aT "keep"=true:=by kernel_rfl)
  (Ht:yq K aT "same"=true:=by kernel_rfl)
  (HQ:yq K aT "turn"=true:=by kernel_rfl)
  (Fx:yq K aT "sort"=true:=by kernel_rfl)
  (BV:yq K aT "apart"=true:=by kernel_rfl)
  (D4:yq K aT "first"=true:=by kernel_rfl)
  (FV:yq K aT "both"=true:=by kernel_rfl) :
  ∃fd:FuncData,(∀(s:Shared) (v:Value),BindsTo s fd ⟨[v],[]⟩ [("_law_script",v)])/\∀base:Heap,K.In base->base.Ns mainGlobals mg->e_ l.prog w K mg base bc 23 fa fd ["_law_script"] (yY K):=by
 have F:=λ{x:Str} {st:Stmt} {f:Addr} (a:FK K x st f)=>a.fa X G
 have h:=λ{x:Str} {st:Stmt} {f:Addr} (a:FK K x st f)=>a.h X G
 cases hfa.symm.trans (Wf X G LN)
 have Fl:=xq (st:=kg) M7 NC MQ
 have B:jH mg:=⟨V5 X G Nm,V5 X G NB,V5 X G L4,V5 X G CW,V5 X G G9,V5 X G Hv,V5 X G KD,V5 X G t_⟩
 have B2:iW mg:=⟨V5 X G LI,V5 X G MZ,V5 X G MS,V5 X G Cu,V5 X G Nf⟩
 have B3:A2 mg:=⟨V5 X G L_,V5 X G L7,V5 X G Nt,V5 X G mZ⟩
 have mE:=V5 X G mZ
 have mT:=Wf X G Ta
 have mW:=Wf X G zW
 have mC:=Wf X G zC
 have U0:=Wf X G zS
 have mH:=Wf X G zT
 have Cb:Gx K mg "BRANCHED" aB Dy:=⟨Wf X G zB,λH=>.inr ⟨_,_,_,lB,rfl,rfl,cN,.cons ⟨Rp,rfl⟩ (.cons ⟨tb2,rfl⟩ .nil)⟩⟩
 have Co:Gx K mg "ONE_ROW" aO nF:=⟨Wf X G zO,λH=>.inr ⟨_,_,_,lO,rfl,rfl,uJ,.cons ⟨QW,rfl⟩ (.cons ⟨to2,rfl⟩ (.cons ⟨to3,rfl⟩ (.cons ⟨Q0,rfl⟩ (.cons ⟨Ry,rfl⟩ .nil))))⟩⟩
 have Cf:Ja K mg CF Az:=⟨Hh x0 cg ct,UE,Tq,e0,Te,Uo,Wf X G Uj⟩
 have NG:=xq (st:=ma) Pf P8 PC
 have GG:=NG.binds (ps:=["self","place","why"]) (by intro _ _ _ _ _ _; refine L2.Gj ?_; intro _ _ _; rfl)
 refine⟨PySem.W.fnOf "law" "law" (el kg) (cY kg) (ar kg) .none EY DO Dj CL xj D_,λs v=>.of_eq rfl,λbase _ _=>?_⟩
 have g0:=FC (P:=l.prog) (w:=w) (base:=base) B (F a0)
 have g1:=I_ B (F a1) g0.m
 have g2:=FX (P:=l.prog) (w:=w) (base:=base) B (F a2)
 have g3:=A1 (F a3) g2.m
 have g4:=FI B (F a4) g2.m
 have g5:=CD B2 (F a5) g2.m
 have g6:=DG (F a6) g5.m g4.m g3.m
 have g7:=Bd B (F a7) g2.m
 have g8:=xa B (F a8) g7.m
 have g9:=ES (F a9) g2.m g4.m
 have HV:=Kt B B2 (F a10) g5.m g2.m g4.m g3.m
 have NM:=BY B B2 (F a11) g2.m g6.m
 have NR:=CJ B (F a12) g2.m g7.m
 have Tx:=DT B B2 (F a13) g2.m g9.m g6.m
 have OX:=AZ B2 (F a14) g7.m g8.m g2.m HV.m NM.m
 have OV:=DB (F a15) g7.m g9.m Tx.m NR.m g8.m g2.m
 have PR:=Ad (P:=l.prog) (w:=w) (base:=base) B B3 QZ (F a16)
 have Ro:=Af (P:=l.prog) (w:=w) (base:=base) (F a17)
 have TH:=A9 (P:=l.prog) (w:=w) (base:=base) (F a18)
 have Tb:=ym (P:=l.prog) (w:=w) (base:=base) (F a19)
 have SS:=wK (P:=l.prog) (w:=w) (base:=base) (F a20)
 have R6:=vo (P:=l.prog) (w:=w) (base:=base) B (F a21)
 have S7:=yC (P:=l.prog) (w:=w) (base:=base) (F a22)
 have TZ:=B_ (P:=l.prog) (w:=w) (base:=base) B (F a23)
 have Sl:=Bv (aR:=aC) (cS I0) (cS Jp) (cS M9) (cS JY) (cS JQ) (cS JX) (cS IY) (cS Gh) (cS Hn) (cS Nc) (cS El) (cS Fp) (Ro.at (h a17)) (TH.at (h a18)) (Tb.at (h a19)) (SS.at (h a20)) (R6.at (h a21)) (S7.at (h a22))
 have TU:=λ(n:Nat)=>KC (n:=n) Sl (cS KU) (Ro.at (h a17))
 have T_:=λ(n:Nat)=>A0 (n:=n) B B2 mC (TU n) (F a24) TZ.m
 have QV:=CA (P:=l.prog) (w:=w) (base:=base) mT (F a25)
 have Qd:=vL B2 mT (F a26) PR.m
 have S0:=λ(n:Nat)=>vD (n:=n) (P:=l.prog) (w:=w) (base:=base) mT (F a27)
 have TM:=λ(n:Nat)=>vn (n:=n) (F a28) QV.m
 have T7:=λ(n:Nat)=>x_ (n:=n) (P:=l.prog) (w:=w) (base:=base) (F a29)
 have Sg:=λ(n:Nat)=>uX (n:=n) (F a30) QV.m
 have S_:=λ(n:Nat)=>vH (n:=n) (P:=l.prog) (w:=w) (base:=base) (F a31)
 have UI:=λ(n:Nat)=>vT (n:=n) (F a32) Qd.m
 have Sj:=λ(n:Nat)=>wu (n:=n) (F a33) Qd.m
 have Mv:=λ(n:Nat)=>v_ (n:=n) B (F a34) PR.m Qd.m
 have SE:=λ(n:Nat)=>Bs (n:=n) (aS:=aS) (cS IX) (cS s_same) (cS KI) (cS Jq) (cS JV) (cS M0) (cS J_) (cS Kh) (iH JH) (iH FD) (iH BQ) (iH DW) (iH AQ) (iH De) ((S0 n).at (h a27)) ((TM n).at (h a28)) ((UI n).at (h a32)) ((Mv n).at (h a34)) ((Sj n).at (h a33)) ((T7 n).at (h a29)) ((S_ n).at (h a31)) ((Sg n).at (h a30))
 have Ti:=λ(n:Nat)=>wo (n:=n) U0 (SE n) (F a35)
 have RK:=AE (P:=l.prog) (w:=w) (base:=base) B (F a36)
 have Sy:=λ(n:Nat)=>EI (n:=n) (P:=l.prog) (w:=w) (base:=base) (F a37)
 have R7:=λ(n:Nat)=>yv (n:=n) (P:=l.prog) (w:=w) (base:=base) mT (F a38)
 have SK:=λ(n:Nat)=>Gb (n:=n) (F a39) RK.m
 have Sh:=λ(n:Nat)=>Cy (n:=n) mT (F a40) RK.m
 have UQ:=λ(n:Nat)=>CI (n:=n) (P:=l.prog) (w:=w) (base:=base) (F a41)
 have UD:=λ(n:Nat)=>BL (n:=n) B (F a42) PR.m
 have TY:=λ(n:Nat)=>yO (n:=n) (aT:=aT) (cS KQ) (cS Hg) (cS HI) (cS EF) (cS JS) (cS Bc) (cS Fz) (iH Gr) (iH Ht) (iH HQ) (iH Fx) (iH BV) (iH D4) (iH FV) ((SK n).at (h a39)) ((UD n).at (h a42)) ((Sy n).at (h a37)) ((Sh n).at (h a40)) ((R7 n).at (h a38)) ((UQ n).at (h a41))
 have QN:=λ(n:Nat)=>vb (n:=n) mH (TY n) (F a43)
 have Nz:=λ(n:Nat)=>JJ (n:=n) (P:=l.prog) (w:=w) (base:=base) Cb (F a44)
 have LA:=λ(n:Nat)=>Hu (n:=n) (P:=l.prog) (w:=w) (base:=base) (F a45)
 have Li:=λ(n:Nat)=>yJ (n:=n) B2 Co (F a46) (Nz n).m
 have KW:=λ(n:Nat)=>Ey (n:=n) B3 mT (F a47) (LA n).m
 have Ld:=λ(n:Nat)=>As (n:=n) B mW (F a48) (T_ n).m (Ti n).m (QN n).m (Li n).m
 have Ou:=λ(n:Nat)=>AW (n:=n) B B2 B3 (F a49) (QN n).m (LA n).m (KW n).m
 have RX:=C2 (P:=l.prog) (w:=w) (base:=base) B B2 B3 QZ (F a53)
 have QX:=λ(n:Nat)=>BK (n:=n) (P:=l.prog) (w:=w) (base:=base) (F a54)
 have QJ:=λ(n:Nat)=>GN (n:=n) (P:=l.prog) (w:=w) (base:=base) B (F a55)
 have N1:=λ(n:Nat)=>D7 (n:=n) B (F a56) (QJ n).m
 have SH:=λ(n:Nat)=>Ay (n:=n) B (F a57) RX.m
 have Ud:=λ(n:Nat)=>AF (n:=n) B2 (F a58) (QJ n).m (SH n).m
 have N0:=λ(n:Nat)=>v9 (n:=n) B (F a59) RX.m
 have Qo:=λ(n:Nat)=>Gf (n:=n) B B2 (F a60) (N1 n).m (Ud n).m (N0 n).m (QX n).m
 have OB:=λ(n:Nat)=>Cs (n:=n) (F a61) (QX n).m
 have Gi:=Cg (P:=l.prog) (w:=w) (base:=base) (mg:=mg) (C:=CF) NG
 have Sq:=Kx (P:=l.prog) (w:=w) (base:=base) (C:=CF) (L:=4) (F a50)
 have Tf:=uG (C:=CF) (n:=0) (L:=0) B mE Cf (F a50) Gi GG (Nz 0).m Sq.m (Ld 0).m (Ou 0).m
 have go2:=uG (C:=CF) (n:=1) (L:=1) B mE Cf (F a50) Gi GG (Nz 1).m Tf.m (Ld 1).m (Ou 1).m
 have TJ:=uG (C:=CF) (n:=2) (L:=2) B mE Cf (F a50) Gi GG (Nz 2).m go2.m (Ld 2).m (Ou 2).m
 have TX:=uG (C:=CF) (n:=3) (L:=3) B mE Cf (F a50) Gi GG (Nz 3).m TJ.m (Ld 3).m (Ou 3).m
 have sv:=AN (C:=CF) (n:=3) (L:=3) (F a51) TX.m
 have hb:=qJ (C:=CF) (n:=3) (L:=3) (F a52) sv.m
 have P7:=GY (P:=l.prog) (w:=w) (base:=base) (L:=4) (F a62)
 have PF:=uq (n:=0) (L:=0) B B2 B3 mE (F a62) P7.m (Qo 0).m (OB 0).m (N0 0).m
 have put2:=uq (n:=1) (L:=1) B B2 B3 mE (F a62) PF.m (Qo 1).m (OB 1).m (N0 1).m
 have put3:=uq (n:=2) (L:=2) B B2 B3 mE (F a62) put2.m (Qo 2).m (OB 2).m (N0 2).m
 have ju:=Ar (n:=2) (L:=2) (F a63) put3.m
 have en:=Js (n:=2) (L:=2) (F a64) ju.m
 have ND:=BO (P:=l.prog) (w:=w) (base:=base) (L:=11) (F Oy)
 have MK:=oO (N:=0) (L:=12) (Le:=10) (by decide) (by decide) (by decide) B2 (F PL) g2.m ND.m g7.m en.m HV.m
 have Mj:=oH (N:=0) (L:=13) (by decide) B B2 (F O2) g2.m OX.m MK.m OV.m
 have MM:=oB (N:=0) (L:=14) (Lj:=9) (by decide) (by decide) (by decide) B B2 (F Oy) Mj.m ju.m g2.m
 have Mr:=oO (N:=1) (L:=15) (Le:=10) (by decide) (by decide) (by decide) B2 (F PL) g2.m MM.m g7.m en.m HV.m
 have M3:=oH (N:=1) (L:=16) (by decide) B B2 (F O2) g2.m OX.m Mr.m OV.m
 have pipe2:=oB (N:=1) (L:=17) (Lj:=9) (by decide) (by decide) (by decide) B B2 (F Oy) M3.m ju.m g2.m
 have Nu:=oO (N:=2) (L:=18) (Le:=10) (by decide) (by decide) (by decide) B2 (F PL) g2.m pipe2.m g7.m en.m HV.m
 have Mx:=oH (N:=2) (L:=19) (by decide) B B2 (F O2) g2.m OX.m Nu.m OV.m
 have LW:=oB (N:=2) (L:=20) (Lj:=9) (by decide) (by decide) (by decide) B B2 (F Oy) Mx.m ju.m g2.m
 have Mq:=Dg (P:=l.prog) (w:=w) (base:=base) (L:=0) (F N3)
 have many1:=qm (n:=0) (L:=1) (F N3) Mq.m
 have LG:=qm (n:=1) (L:=2) (F N3) many1.m
 have CK:=qm (n:=2) (L:=3) (F N3) LG.m
 have dr:=C9 (L:=21) (Lm:=4) (by decide) (by decide) B B2 (F Tj) g2.m LW.m CK.m
 have asked:=Et (L:=11) (C:=CF) B Cf em (F Tw) hb.m
 have parts:=Dm (L:=12) (Lm:=4) (by decide) B (F Um) asked.m CK.m
 have Ql:=Fy (L:=12) (Lm:=4) (by decide) B (F SN) asked.m CK.m
 exact Kf (L:=22) B B2 Fl g1.m dr.m asked.m parts.m Ql.m
theorem walk{l:PySem.W.OpenLaw}{q:Program}{loose:List Str}{XP:(Str->Option Value)->Heap->Prop}{YP:World->Heap->Prop}{d:DefRec}{K:Params->Wg}(hn:l.most=some 63)(hdf:d.params.defaults=[])
  (hY:∀(w:World) (h:Heap),YP w h->(K w.params).In h)
  (F:∀(w:World) (mg:Str->Option Value) (fa:Addr) (h:Heap),(K w.params).In h->h.Ns mainGlobals mg->mg d.name=some (.ref fa)->
   ∃fd:FuncData,(∀(s:Shared) (u:Value),BindsTo s fd ⟨[u],[]⟩ [("_law_script",u)])/\∀base:Heap,(K w.params).In base->base.Ns mainGlobals mg->e_ l.prog w (K w.params) mg base bc 23 fa fd ["_law_script"] (yY (K w.params))) :
  PySem.W.WalkO q loose XP YP l.row.toRowW d [] (λf vs=>PySem.call f vs) :=
 L2.F8 (n:=63) (k:=23) (x:="_law_script") (CX:=λ_=>bc) (sp:=λw=>yY (K w.params)) hn (by decide) hdf ⟨rfl,by decide,by decide⟩ hY F (λ_ _ a ns hl _ hS=>⟨a,ns,rfl,hS,hl,λ_=>rfl⟩) λ_ _ _ _ _ z=>z
end My
namespace PySem.W.Fast
def tw305968065656067390:=0
def tw4967025044448368906:=0
def tw9309780405058800853:=0
def tw6787748353429207588:=0
def tw18032912075936538703:=0
def tw17537827408204073202:=0
def tw9241432920698478030:=0
def tw8763326345162775912:=0
def tw11715807995922356036:=0
def tw471424474001470210:=0
def tw16853445917351698346:=0
def tw15561504238252933911:=0
def tw2535797846877352484:=0
def tw11306015766020234386:=0
def tw4901841449547462902:=0
def tw10166239121891801033:=0
def tw18308129786063446767:=0
def tw16615142501807827671:=0
def tw293325893296106886:=0
def tw10997964669109828378:=0
def tw14408669995682074271:=0
def tw6185568195141464368:=0
def tw11347626099085500102:=0
def tw12954674005082602027:=0
def tw13104569321890577326:=0
def tw9218585591539597454:=0
def tw100769553916420574:=0
def tw3081835239738971191:=0
def tw12644834324951180833:=0
def tw17923567293255520824:=0
def tw18431412696023934731:=0
def tw17811352279354659254:=0
def tw137810772276982720:=0
def tw11930934019313204314:=0
def tw2567928153534370705:=0
def tw11545044262797241735:=0
def tw15687773353094012962:=0
def tw11205849005109033540:=0
def tw2239086194184495797:=0
def tw2918545154357258704:=0
def tw11987856729061033119:=0
def tw1625279474248971412:=0
def tw6769191165617785599:=0
def tw3548049641693311970:=0
def tw14567027579658281800:=0
def tw7606082874065447308:=0
def tw15198856452361411021:=0
def tw2232295883538220695:=0
def tw3232369263471044365:=0
def tw12936457864199081434:=0
def tw16436161726628441143:=0
def tw17626666189071541313:=0
def tw5008858333406414178:=0
def tw4783554241977483506:=0
def tw13248622776831378254:=0
def tw17314944600045846717:=0
def tw9447772566508940591:=0
def tw9110396445631685633:=0
def tw12294631441281076839:=0
def tw16555844038581238124:=0
def tw17776987086650876592:=0
def tw953801786269700741:=0
def tw7993091960079945587:=0
def tw12135410069877756247:=0
def tw12513538926490544205:=0
def tw7249389422306090560:=0
def tw9094152875775304976:=0
def tw7676678358674132191:=0
def tw6229670265399721640:=0
def tw9588297628391804167:=0
def tw8000332300036287672:=0
def tw10080121692146148267:=0
def tw16506157084385466754:=0
def tw15962739694287796237:=0
def tw7994709993057772773:=0
def tw5964981900445699029:=0
def tw11416828956752881294:=0
def tw9337841715613572782:=0
def tw7410854919075202154:=0
def tw1657054724377255848:=0
def tw4640474595946776030:=0
def tw16883739126898639312:=0
def tw2643480173629081293:=0
def tw12079416268967722487:=0
def tw2103267085940141110:=0
def tw9620572268128237176:=0
def tw5438699013200724432:=0
def tw9802610019228472392:=0
def tw6397225342231346735:=0
def tw2103927939963715918:=0
def tw14674357306477309138:=0
def tw7839592375810153769:=0
def tw11871454357312813418:=0
def tw12277435238995323273:=0
def tw13438183946471076780:=0
def tw4887563755539185196:=0
def tw14569476096105426071:=0
def tw9262024409710166492:=0
def tw5333744072030372664:=0
def tw15389682027060556246:=0
def tw13396425326583485486:=0
def tw3798746002000420405:=0
def tw13997846881420148724:=0
def tw10403573233870007367:=0
def tw13459818662733337001:=0
def tw15363526821897529509:=0
def tw12993896580220465907:=0
def tw8878845697950477197:=0
def tw12167566050001453769:=0
def tw1298379160277652547:=0
def tw4824600708163286551:=0
def tw1797957734325120447:=0
def tw2595774318545717815:=0
def tw15525726539075286089:=0
def tw13403232668401340915:=0
def tw6698922575815872129:=0
def tw17260257685758464227:=0
def tw9437048485717558885:=0
def tw12721689506950475603:=0
def tw4018923370076710192:=0
def tw4718494440509759175:=0
def tw14048814821292230447:=0
def tw13577887809160265185:=0
def tw595639726503492042:=0
def tw11758087283516634890:=0
def tw2982501412380078897:=0
def tw13519142877089833619:=0
def tw1839758345220881211:=0
def tw14233938047147579134:=0
def tw15025901815596228526:=0
def tw18403784485920051114:=0
def tw9828282101666515002:=0
def tw5635133467253909826:=0
def tw3842938575278222567:=0
def tw7736848509434058907:=0
def tw6265006666890243741:=0
def tw17229951000143628449:=0
def tw9305751130886765450:=0
def tw6448501268881169088:=0
def tw12579079266711169015:=0
def tw1269249889519228462:=0
def tw18117144869428524985:=0
def tw13432826601198666266:=0
def tw887164196965529695:=0
def tw211683159384556090:=0
def tw10775645448009608830:=0
def tw8823276745382742515:=0
def tw10859394646700527149:=0
def tw17547524118360269439:=0
def tw435977579948166814:=0
def tw5666774459281713006:=0
def tw7562635777988125003:=0
def tw3514010519105513521:=0
def tw14471540371559276576:=0
def tw12466213996860830144:=0
def tw17405633822208402511:=0
def tw5368401718719270195:=0
def tw1527457515532890413:=0
def tw8125373107366108990:=0
def tw16337741488316907044:=0
def tw8356991629397038765:=0
def tw16708777500423701734:=0
def tw15504429221873587391:=0
def tw7001457002120416185:=0
def tw12088311749257693736:=0
def tw17589329190408437777:=0
def tw4405032746053024868:=0
def tw14306949959234237578:=0
def tw10218096824784914064:=0
def tw11126279445225491543:=0
def tw18295815555266093427:=0
def tw14633093437367153982:=0
def tw9353157974315362483:=0
def tw8687530481258049350:=0
def tw9678377875048592700:=0
def tw7424553801862339532:=0
def tw3305781349893778742:=0
def tw9701677154322719487:=0
def tw2796012028145194268:=0
def tw12885560526133479260:=0
def tw9840626534252632476:=0
def tw4084415015260724718:=0
def tw4011591732286242736:=0
def tw15430770169037518982:=0
def tw8486492576833107158:=0
def tw3909615239065086782:=0
def tw3090574067576772882:=0
def tw5101110792929636170:=0
def tw3586114614263941464:=0
def tw16859706434646888575:=0
def tw6409113436206012078:=0
def tw137855183030208317:=0
def tw5319034372390923597:=0
def tw10177512499310715916:=0
def tw16281205042235392810:=0
def tw4447089638852404303:=0
def tw16012756878508142007:=0
def tw14725204326784565722:=0
def tw16773283507654424701:=0
def tw5105458752430523677:=0
def tw12216943594815145982:=0
def tw14740477469198341690:=0
def tw565715749237963551:=0
def tw1898645615174043409:=0
def tw3628907040147424101:=0
def tw3544596853243225973:=0
def tw12974530367194762513:=0
end PySem.W.Fast
open PySem PySem.W PyProof.Rows
set_option maxRecDepth 100000 in
set_option maxHeartbeats 0 in
theorem PySem.Challenge.cw_rowpipes_k26_whole_heads_of_parts_holds : PySem.Challenge.rw_rowpipes_k26_whole_heads_of_parts.Holds := by
 w_on; o_law; k_head; (case hw=>w_witness2)
 k_fill
 refine My.walk (l:=PySem.Challenge.rw_rowpipes_k26_whole_heads_of_parts) rfl rfl (λw h Y=>PySem.W.kIn_of Y) ?F
 case F =>
  intro w mg fa h KX G hmg
  exact My.all_mk KX G hmg
