import PyProof.Rows.All
import Wide.All
import OpenK.AllK
import Wide.FinOn
import Lean
import PyProof.EqAt
import PyProof.EqKinds
import PyProof.TupleCall
import PyProof.NeKinds
import PyProof.SumAny
import PyProof.SetRoads
import PySem.Challenge.RW_rowpipes_k24_whole_heads
set_option Elab.async false
set_option linter.all false
set_option maxRecDepth 100000
set_option maxHeartbeats 0
abbrev Ut:=@PySem.wpAny_bind
abbrev Uu:=@PySem.wpAny_pure
abbrev Uv:=@PySem.Heap.get?_push_of_some
abbrev Uw:=@PySem.Heap.lt_size
abbrev Ux:=@PySem.Heap.get?_push_size
abbrev Uy:=@Nat.le_refl
abbrev Uz:=@Nat.le_trans
abbrev UA:=@decide_eq_false
abbrev UB:=@decide_eq_true
abbrev UC:=@List.length_map
abbrev UD:=@List.length_append
abbrev UE:=@List.map_append
abbrev UG:=@Nat.lt_of_le_of_lt
abbrev UH:=@Nat.lt_of_lt_of_le
abbrev UI:=@List.getElem?_eq_getElem
abbrev UJ:=@List.mem_append_right
abbrev UK:=@List.mem_of_getElem?
abbrev UL:=@List.mem_cons_of_mem
abbrev UM:=@Bool.false_ne_true
abbrev UN:=@List.size_toArray
namespace L2
open PySem PySem.Spec PyProof.Rows
abbrev Key:=Sum Int Str
def f9:Key->Value->Bool
 | .inl k,v=>Value.isInt k v
 | .inr x,v=>Value.isStrOf x v
def Lk(w:World):Key->Int
 | .inl k=>hashInt k
 | .inr x=>hashStr w x
theorem bC:∀{k:Key} {v:Value},f9 k v=true->(∃i t,k=Sum.inl i/\v=Value.int i t)\/(∃x t,k=Sum.inr x/\v=Value.str x t)
 | .inl i,v,h=>by
  obtain⟨t,e⟩:=Value.isInt_shape (k:=i) (v:=v) h
  exact .inl ⟨i,t,rfl,e⟩
 | .inr x,v,h=>by
  obtain⟨t,e⟩:=Value.isStrOf_shape (x:=x) (v:=v) h
  exact .inr ⟨x,t,rfl,e⟩
theorem lM(i:Int)(t:Tok):f9 (.inl i) (.int i t)=true:=by simp [f9,Value.isInt]
theorem l9(x:Str)(t:Tok):f9 (.inr x) (.str x t)=true:=by simp [f9,Value.isStrOf]
theorem Ic(a b:Int):decide ((Sum.inl a:Key)=Sum.inl b)=(a==b):=by
 by_cases e:a=b
 ·subst e; simp
 ·have h:¬(Sum.inl a:Key)=Sum.inl b:=λq=>e (Sum.inl.inj q)
  rw [UA h]
  exact(beq_eq_false_iff_ne.mpr e).symm
theorem J_(a b:Str):decide ((Sum.inr a:Key)=Sum.inr b)=decide (a=b):=by
 by_cases e:a=b
 ·subst e; simp
 ·have h:¬(Sum.inr a:Key)=Sum.inr b:=λq=>e (Sum.inr.inj q)
  rw [UA h,UA e]
theorem Ig(a:Int)(b:Str):decide ((Sum.inl a:Key)=Sum.inr b)=false:=UA (λq=>nomatch q)
theorem Jm(a:Str)(b:Int):decide ((Sum.inr a:Key)=Sum.inl b)=false:=UA (λq=>nomatch q)
def bD(prog:Program)(w:World):PySem.KeyKind prog w Key where
 is:=f9
 hash:=Lk w
 inj:=λv a b ha hb=>by
  rcases bC ha with⟨i,t,rfl,rfl⟩ | ⟨x,t,rfl,rfl⟩
  ·rcases bC hb with⟨j,u,rfl,e⟩ | ⟨y,u,rfl,e⟩
   ·injection e with e1 _; rw [e1]
   ·exact nomatch e
  ·rcases bC hb with⟨j,u,rfl,e⟩ | ⟨y,u,rfl,e⟩
   ·exact nomatch e
   ·injection e with e1 _; rw [e1]
 byValue:=λk v h=>by
  rcases bC h with⟨i,t,rfl,rfl⟩ | ⟨x,t,rfl,rfl⟩ <;> rfl
 pyHash:=λhv h=>by
  rcases bC hv with⟨i,t,rfl,rfl⟩ | ⟨x,t,rfl,rfl⟩
  ·exact wpAny_pyHash_int h
  ·exact wpAny_pyHash_str h
 eqBool:=λhu hv h=>by
  rcases bC hu with⟨i,t,rfl,rfl⟩ | ⟨x,t,rfl,rfl⟩
  ·rcases bC hv with⟨j,u,rfl,rfl⟩ | ⟨y,u,rfl,rfl⟩
   ·rw [Ic]at h; exact wpAny_eqBool_int h
   ·rw [Ig]at h; exact SeqAt.EqAt.int_str i t y u _ _ _ _ h
  ·rcases bC hv with⟨j,u,rfl,rfl⟩ | ⟨y,u,rfl,rfl⟩
   ·rw [Jm]at h; exact SeqAt.EqAt.str_int x t j u _ _ _ _ h
   ·rw [J_]at h; exact wpAny_eqBool_str h
 «strs»:=λk x t v h=>by
  rcases bC h with⟨i,u,rfl,e⟩ | ⟨y,u,rfl,e⟩
  ·exact nomatch e
  ·injection e with e1 _
   subst e1
   cases v <;> rfl
abbrev dv:=Option Key
def Hu:dv->Value->Bool
 | none,.none=>true
 | none,_=>false
 | some k,v=>f9 k v
theorem vV{prog:Program}{w:World}{A:Around}{E:Value->Shared->Prop}{s:Shared}{Q:Int->Shared->Prop}(h:Q 0xFCA86420 {s with toks:=s.toks+1}):wpAny (model prog w) A (pyHash .none) Q E s:=by
 unfold pyHash
 have hv:[Value.none].any Value.onHeap=false:=rfl
 refine Ut ?_
 rw [cRoomFor,if_neg (by rw [hv]; exact UM)]; refine Uu ?_
 refine Ut (wpAny_specialOf (typeIs_none s) F.slot_NoneType_hash.lookup ?_)
 show wpAny _ _ (if(some (Value.builtin "NoneType.__hash__")==some Value.none)=true then _ else _) Q E s
 rw [if_neg (by rw [beq_builtin_none]; exact UM)]
 refine Ut (wpAny_specialOf (typeIs_none s) F.slot_NoneType_hash.lookup ?_)
 refine Ut (wpAny_callSpecialIfBoundUnlessNone?_slot (typeIs_none s) F.slot_NoneType_hash
  (wpAny_call_entry F.slot_NoneType_hash (typeIs_none s) F.entry_NoneType_hash
   (show wpAny _ _ (do ret (←mkInt 0xFCA86420)) _ _ s from wpAny_ret_mkInt ?_) (F.args_NoneType_hash_1 _)))
 show wpAny _ _ (if(decide (-(2:Int) ^ 63<=0xFCA86420)&&decide ((0xFCA86420:Int)<2 ^ 63))=true then _ else _) Q E _
 rw [if_pos (by decide)]
 exact Uu h
theorem cP:∀{k:dv} {v:Value},Hu k v=true->(k=none/\v=.none)\/∃k',k=some k'/\f9 k' v=true
 | none,.none,_=>.inl ⟨rfl,rfl⟩
 | some k,v,h=>.inr ⟨k,rfl,h⟩
theorem Ck(a b:Key):decide ((some a:dv)=some b)=decide (a=b):=by
 by_cases e:a=b
 ·subst e; simp
 ·rw [UA e,UA (λq=>e (Option.some.inj q))]
theorem IU(a:Key):decide ((some a:dv)=none)=false:=UA (λq=>nomatch q)
theorem Jw(a:Key):decide ((none:dv)=some a)=false:=UA (λq=>nomatch q)
def optKind(prog:Program)(w:World):PySem.KeyKind prog w dv where
 is:=Hu
 hash:=λk=>match k with | none=>0xFCA86420 | some k=>Lk w k
 inj:=λv a b ha hb=>by
  rcases cP ha with⟨rfl,rfl⟩ | ⟨a',rfl,ha'⟩
  ·rcases cP hb with⟨rfl,_⟩ | ⟨b',rfl,hb'⟩
   ·rfl
   ·rcases bC hb' with⟨j,u,_,e⟩ | ⟨y,u,_,e⟩ <;> exact nomatch e
  ·rcases cP hb with⟨rfl,rfl⟩ | ⟨b',rfl,hb'⟩
   ·rcases bC ha' with⟨j,u,_,e⟩ | ⟨y,u,_,e⟩ <;> exact nomatch e
   ·rw [(bD prog w).inj v a' b' ha' hb']
 byValue:=λk v h=>by
  rcases cP h with⟨rfl,rfl⟩ | ⟨k',rfl,h'⟩
  ·rfl
  ·exact(bD prog w).byValue k' v h'
 pyHash:=λhv h=>by
  rcases cP hv with⟨rfl,rfl⟩ | ⟨k',rfl,h'⟩
  ·exact vV h
  ·exact(bD prog w).pyHash h' h
 eqBool:=λ{A E s a b u v Q} hu hv h=>by
  rcases cP hu with⟨rfl,rfl⟩ | ⟨k,rfl,hk⟩
  ·rcases cP hv with⟨rfl,rfl⟩ | ⟨l,rfl,hl⟩
   ·unfold eqBool
    refine wpAny_holding ?_
    rw [UB rfl]at h
    exact wpAny_ite_split (λ_=>Ut (wpAny_rule (Uu h))) (λhn=>absurd rfl hn)
   ·rw [Jw]at h
    rcases bC hl with⟨j,u,rfl,rfl⟩ | ⟨y,u,rfl,rfl⟩
    ·exact SeqAt.EqAt.none_int j u _ _ _ _ h
    ·exact SeqAt.EqAt.none_str y u _ _ _ _ h
  ·rcases cP hv with⟨rfl,rfl⟩ | ⟨l,rfl,hl⟩
   ·rw [IU]at h
    rcases bC hk with⟨j,u,rfl,rfl⟩ | ⟨y,u,rfl,rfl⟩
    ·exact SeqAt.EqAt.int_none j u _ _ _ _ h
    ·exact SeqAt.EqAt.str_none y u _ _ _ _ h
   ·rw [Ck]at h
    exact(bD prog w).eqBool hk hl h
 «strs»:=λk x t v h=>by
  rcases cP h with⟨_,e⟩ | ⟨k',rfl,h'⟩
  ·exact nomatch e
  ·exact(bD prog w).strs k' x t v h'
theorem uZ(prog:Program)(w:World)(i:Int)(t:Tok):(bD prog w).is (.inl i) (.int i t)=true:=lM i t
theorem vX(prog:Program)(w:World)(x:Str)(t:Tok):(bD prog w).is (.inr x) (.str x t)=true:=l9 x t
inductive V where
 | non | bl (b:Bool) | int (i:Int) | str (x:Str) | yz (b:Array UInt8) | flt (b:UInt64) | ref (a:Addr) | ty (n:String)
 deriving DecidableEq
def RelV:V->Value->Prop
 | .non,u=>u=Value.none
 | .bl b,u=>u=Value.bool b
 | .int i,u=>∃t,u=Value.int i t
 | .str x,u=>∃t,u=Value.str x t
 | .yz b,u=>∃t,u=Value.bytes b t
 | .flt b,u=>∃t,u=Value.float b t
 | .ref a,u=>u=Value.ref a
 | .ty n,u=>u=Value.type n
abbrev Vals:List V->List Value->Prop:=Paired RelV
theorem Vals.length{xs:List V}{us:List Value}(r:Vals xs us):xs.length=us.length:=Paired.length r
theorem Vals.get:∀{xs:List V} {us:List Value} {i:Nat} {x:V},Vals xs us->xs[i]? = some x->∃u,us[i]? = some u/\RelV x u
 | _,_,_,_,.nil,e=>by simp at e
 | _,_,0,_,.cons r _,e=>by simp at e; subst e; exact⟨_,rfl,r⟩
 | _,_,i+1,x,.cons _ t,e=>by
  obtain⟨u,h1,h2⟩:=Vals.get (i:=i) (x:=x) t (by simpa using e)
  exact⟨u,by simpa using h1,h2⟩
theorem Vals.set{x:V}{u:Value}(r:RelV x u):∀{xs:List V} {us:List Value} (i:Nat),Vals xs us->Vals (xs.set i x) (us.set i u)
 | _,_,_,.nil=>.nil
 | _,_,0,.cons _ t=>.cons r t
 | _,_,i+1,.cons q t=>.cons q (Vals.set r i t)
theorem Vals.append:∀{xs ys:List V} {us ws:List Value},Vals xs us->Vals ys ws->Vals (xs++ys) (us++ws)
 | _,_,_,_,.nil,s=>s
 | _,_,_,_,.cons r t,s=>.cons r (Vals.append t s)
theorem Vals.take:∀{xs:List V} {us:List Value} (n:Nat),Vals xs us->Vals (xs.take n) (us.take n)
 | _,_,0,_=>.nil
 | _,_,_+1,.nil=>.nil
 | _,_,n+1,.cons r t=>.cons r (Vals.take n t)
theorem Vals.drop:∀{xs:List V} {us:List Value} (n:Nat),Vals xs us->Vals (xs.drop n) (us.drop n)
 | _,_,0,r=>r
 | _,_,_+1,.nil=>.nil
 | _,_,n+1,.cons _ t=>Vals.drop n t
def jE:Option V->Option Value->Prop
 | some v,some u=>RelV v u
 | none,none=>True
 | _,_=>False
def KV{κ:Type}:List (κ×V)->List (κ×Value)->Prop:=Paired λ(p:κ×V) (q:κ×Value)=>p.1=q.1/\RelV p.2 q.2
def kV:Key->V
 | .inl i=>.int i
 | .inr x=>.str x
def oV:dv->V
 | none=>.non
 | some k=>kV k
inductive HO where
 | lst (xs:List V)
 | tup (xs:List V)
 | dK (kvs:List (Key×V)) | dT (kvs:List (List dv×V))
 | set (S:Int->Bool) (n:Nat)
 | ins (C dx:Addr) (fs:List (Str×V))
 | own (x:Addr)
 | xd (fs:List (Str×V))
 | met (f x:Addr)
 | NC (lo hi:Int)
 | yk (o:Obj) (u:HO)
 | GW (ps:Array Value)
 | ext (φ:Heap->Prop)
abbrev Hp:=Addr->Option HO
def upd(H:Hp)(a:Addr)(o:HO):Hp:=λb=>if b=a then some o else H b
theorem ag{H:Hp}{a:Addr}{o:HO}:upd H a o a=some o:=by unfold upd; rw [if_pos rfl]
theorem aI{H:Hp}{a b:Addr}{o:HO}(h:b≠a):upd H a o b=H b:=by unfold upd; rw [if_neg h]
theorem KW{H:Hp}{a b:Addr}{o u:HO}(h:H a=some o)(h':H b=some u)(d:o≠u):a≠b:=by
 intro e; subst e; rw [h]at h'; exact d (Option.some.inj h')
theorem aU{H:Hp}{a b:Addr}{o:HO}(h:H a=some o)(h':H b=none):a≠b:=by
 intro e; subst e; rw [h]at h'; cases h'
def gG(h:Heap)(a:Addr)(items:Array Value):Prop:=∃o,h.get? a=some o/\o.cls=.type "tuple"/\(∃n,o.data=.seq items n)/\o.dict=none
theorem gG.tup{h:Heap}{a:Addr}{items:Array Value}(x:gG h a items):IsTup h a items:=let ⟨o,ho,hc,hd,_⟩:=x; ⟨o,ho,hc,hd⟩
theorem gG.new(h:Heap)(items:Array Value):gG (h.push {cls:=.type "tuple",data:=.seq items}) h.objs.size items:=⟨_,Ux _ rfl,rfl,⟨_,rfl⟩,rfl⟩
section
variable(P:Program)(w:World)
def cu(H:Hp)(h:Heap)(a:Addr):HO->Prop
 | .lst xs=>xs.length<=sizeLine/\∃(its:List Value) (n:Nat),Vals xs its/\h.get? a=some {cls:=.type "list",data:=.seq its.toArray n}
 | .tup xs=>xs.length<=sizeLine/\∃its:List Value,Vals xs its/\gG h a its.toArray
 | .dK kvs=>kvs.length<=sizeLine/\(a==sysModules)=false/\∃vs,KV kvs vs/\h.DictOf (bD P w) a vs
 | .dT kvs=>kvs.length<=sizeLine/\(a==sysModules)=false/\∃xs:List (List dv×Addr×Value),
   Paired (λ(p:List dv×V) (q:List dv×Addr×Value)=>p.1=q.1/\H q.2.1=some (.tup (p.1.map oV))/\RelV p.2 q.2.2) kvs xs/\
   ∃o es ep,h.get? a=some o/\o.ExactDict/\o.data=.dict es ep/\es.toList=xs.map (entryOfKey (tupleKind (optKind P w)))/\(xs.map (·.1)).Nodup
 | .set S n=>h.SetOf (intKind P w) a S n
 | .ins C dx fs=>H dx=some (.own a)/\fs.length<=1000/\dx≠a/\h.get? a=some (PySem.W.instObj C dx)/\
   ∃mA,h.Ns1 dx mA/\(∀f,jE (fs.lookup f) (mA f))/\PySem.Within mA (fs.map (·.1))
 | .own _=>∃o,h.get? a=some o
 | .xd fs=>∃mA,h.Ns1 a mA/\∀f,jE (fs.lookup f) (mA f)
 | .NC lo hi=>∃t u v,h.get? a=some {cls:=.type "range",data:=.fields #[.int lo t,.int hi u,.int 1 v]}
 | .yk o u=>h.get? a=some o/\cu H h a u
 | .GW ps=>h.get? a=some {cls:=.none,data:=.fields ps}
 | .met f x=>h.get? a=some (PySem.W.methodObj (.ref f) (.ref x))
 | .ext φ=>φ h/\(∃o,h.get? a=some o)/\∀h1 h2:Heap,φ h1->(∀o,h1.get? a=some o->h2.get? a=some o)->φ h2
def i_(H:Hp)(h:Heap):Prop:=∀a o,H a=some o->cu P w H h a o
end
section
variable{P:Program}{w:World}{H H':Hp}{h h':Heap}{a:Addr}{o:HO}
theorem cu.lt(x:cu P w H h a o):a<h.objs.size:=by
 cases o with
 | lst xs=>obtain⟨_,_,_,_,e⟩:=x; exact Uw e
 | tup xs=>obtain⟨_,_,_,p⟩:=x; exact p.tup.lt
 | dK kvs=>obtain⟨_,_,_,_,o,_,_,e,_⟩:=x; exact Uw e
 | dT kvs=>obtain⟨_,_,_,_,o,_,_,e,_⟩:=x; exact Uw e
 | set S n=>obtain⟨o,_,_,_,e,_⟩:=x; exact Uw e
 | ins C dx fs=>obtain⟨_,_,_,e,_⟩:=x; exact Uw e
 | own y=>obtain⟨_,e⟩:=x; exact Uw e
 | xd fs=>obtain⟨_,⟨_,_,_,e,_⟩,_⟩:=x; exact Uw e
 | NC lo hi=>obtain⟨_,_,_,e⟩:=x; exact Uw e
 | yk ob u=>obtain⟨e,_⟩:=x; exact Uw e
 | GW ps=>exact Uw (show h.get? a=some _ from x)
 | met f y=>exact Uw (show h.get? a=some _ from x)
 | ext φ=>obtain⟨_,⟨_,e⟩,_⟩:=x; exact Uw e
theorem Paired.Kh{α β:Type}{F G:α->β->Prop}:∀{l₁:List α} {l₂:List β},Paired F l₁ l₂->(∀a b,F a b->G a b)->Paired G l₁ l₂
 | _,_,.nil,_=>.nil
 | _,_,.cons r t,f=>.cons (f _ _ r) (Paired.Kh t f)
theorem cu.stay(x:cu P w H h a o)(k:∀b u,(b=a\/H b=some (.own a))->h.get? b=some u->h'.get? b=some u)
  (ho:∀b,H b=some (.own a)->H' b=some (.own a)) (ht:∀b xs,H b=some (.tup xs)->H' b=some (.tup xs)):cu P w H' h' a o:=by
 induction o with
 | lst xs=>obtain⟨z,its,n,r,e⟩:=x; exact⟨z,its,n,r,k _ _ (.inl rfl) e⟩
 | tup xs=>obtain⟨z,its,r,ob,e,c⟩:=x; exact⟨z,its,r,ob,k _ _ (.inl rfl) e,c⟩
 | dK kvs=>obtain⟨z,y,vs,r,ob,es,ep,e,c⟩:=x; exact⟨z,y,vs,r,ob,es,ep,k _ _ (.inl rfl) e,c⟩
 | dT kvs =>
  obtain⟨z,y,xs,r,ob,es,ep,e,c⟩:=x
  exact⟨z,y,xs,Paired.Kh r λp q z=>⟨z.1,ht _ _ z.2.1,z.2.2⟩,ob,es,ep,k _ _ (.inl rfl) e,c⟩
 | set S n=>obtain⟨ob,es,ep,t,e,c⟩:=x; exact⟨ob,es,ep,t,k _ _ (.inl rfl) e,c⟩
 | ins C dx fs =>
  obtain⟨d,z,ne,e,mA,⟨od,es,ep,e2,c⟩,r⟩:=x
  exact⟨ho _ d,z,ne,k _ _ (.inl rfl) e,mA,⟨od,es,ep,k _ _ (.inr d) e2,c⟩,r⟩
 | own y=>obtain⟨ob,e⟩:=x; exact⟨ob,k _ _ (.inl rfl) e⟩
 | xd fs=>obtain⟨mA,⟨od,es,ep,e,c⟩,r⟩:=x; exact⟨mA,⟨od,es,ep,k _ _ (.inl rfl) e,c⟩,r⟩
 | NC lo hi=>obtain⟨t,u,v,e⟩:=x; exact⟨t,u,v,k _ _ (.inl rfl) e⟩
 | yk ob u ih=>obtain⟨e,q⟩:=x; exact⟨k _ _ (.inl rfl) e,ih q⟩
 | GW ps =>
  have e:h.get? a=some {cls:=.none,data:=.fields ps}:=x
  show h'.get? a=some {cls:=.none,data:=.fields ps}
  exact k a _ (.inl rfl) e
 | met f y =>
  have e:h.get? a=some (PySem.W.methodObj (.ref f) (.ref y)):=x
  show h'.get? a=some (PySem.W.methodObj (.ref f) (.ref y))
  exact k a _ (.inl rfl) e
 | ext φ=>obtain⟨p,⟨o,e⟩,st⟩:=x; exact⟨st _ _ p λo q=>k _ _ (.inl rfl) q,⟨o,k _ _ (.inl rfl) e⟩,st⟩
theorem i_.lt(x:i_ P w H h)(e:H a=some o):a<h.objs.size:=(x a o e).lt
theorem i_.fresh(x:i_ P w H h)(e:h.objs.size<=a):H a=none:=by
 cases q:H a with
 | none=>rfl
 | some u=>exact absurd (UH (x.lt q) e) (Nat.lt_irrefl _)
theorem i_.kept(x:i_ P w H h)(k:∀b u,h.get? b=some u->h'.get? b=some u):i_ P w H h':=λa o e =>
 (x a o e).stay (λb u _ q=>k b u q) (λ_ q=>q) λ_ _ q=>q
theorem i_.laid(x:i_ P w H h)(k:∀b u,h.get? b=some u->h'.get? b=some u)(hp:h.objs.size<=a)(new:cu P w (upd H a o) h' a o):i_ P w (upd H a o) h':=λb u e=>by
 have hn:=x.fresh hp
 by_cases hb:b=a
 ·subst hb; rw [ag]at e; cases e; exact new
 ·rw [aI hb]at e
  exact(x b u e).stay (λc v _ q=>k c v q) (λc q=>by rw [aI (aU q hn)]; exact q) λc xs q=>by rw [aI (aU q hn)]; exact q
end
def Rd(H:Hp)(a:Addr)(u:HO):Prop:=H a=some u\/∃o,H a=some (.yk o u)
theorem Rd.ok{P:Program}{w:World}{H:Hp}{h:Heap}{a:Addr}{u:HO}(r:Rd H a u)(x:i_ P w H h):cu P w H h a u:=by
 rcases r with r | ⟨o,r⟩
 ·exact x a u r
 ·obtain⟨_,q⟩:=x a _ r
  exact q
def LI:Option HO->Prop
 | some (.lst _)=>True
 | some (.dK _)=>True
 | some (.dT _)=>True
 | some (.set _ _)=>True
 | some (.ins _ _ _)=>True
 | some (.ext _)=>True
 | _=>False
section
variable{P:Program}{w:World}{H:Hp}{h h':Heap}{x e:Addr}{o':HO}
theorem i_.write(ok:i_ P w H h)(mu:LI (H x))(he:e=x\/H e=some (.own x))(k:∀b u,b≠e->h.get? b=some u->h'.get? b=some u)(heo:∃u,h'.get? e=some u)
  (new:cu P w (upd H x o') h' x o'):i_ P w (upd H x o') h':=λb u q=>by
 have K_:∀c y,H c=some (.own y)->c≠x:=λc y r z=>by subst z; rw [r]at mu; exact mu
 have Oj:∀c xs,H c=some (.tup xs)->c≠x:=λc xs r z=>by subst z; rw [r]at mu; exact mu
 by_cases hb:b=x
 ·subst hb; rw [ag]at q; cases q; exact new
 ·rw [aI hb]at q
  by_cases hbe:b=e
  ·have q':H b=some (.own x):=by
    rcases he with z | z
    ·exact absurd (hbe.trans z) hb
    ·rw [hbe]; exact z
   rw [q]at q'; cases q'
   obtain⟨v,hv⟩:=heo
   exact⟨v,by rw [hbe]; exact hv⟩
  ·refine(ok b u q).stay (λc v hc r=>k c v ?_ r) (λc r=>by rw [aI (K_ c b r)]; exact r) λc xs r=>by rw [aI (Oj c xs r)]; exact r
   rcases hc with rfl | hc
   ·exact hbe
   ·rintro rfl
    rcases he with z | z
    ·exact K_ c b hc z
    ·rw [hc]at z; cases z; exact hb rfl
end
structure Un(fs ex:List Addr)(H H':Hp)(h h':Heap):Prop where
 keep:∀b o,h.get? b=some o->H b=none->b∉fs->b∉ex->h'.get? b=some o
 slot:∀b o,h.get? b=some o->H b=none->b∈fs->b∉ex->∃sl,h'.get? b=some {o with slots:=sl}
 free:∀b o,h.get? b=some o->H b=none->b∉ex->H' b=none
 there:∀b o,h.get? b=some o->b∉ex->∃o',h'.get? b=some o'
 tups:∀b xs,H b=some (.tup xs)->H' b=some (.tup xs)
 oG:∀b o u,H b=some (.yk o u)->H' b=some (.yk o u)
 qk:∀b ps,H b=some (.GW ps)->∃more,H' b=some (.GW (ps++more))
section
variable{fs fs' ex ex':List Addr}{H H1 H2:Hp}{h h1 h2 h':Heap}{a x e:Addr}{o:HO}
theorem Un.any(u:Un fs ex H H1 h h1){b:Addr}{ob:Obj}(q:h.get? b=some ob)(n:H b=none)(hx:b∉ex):∃sl,h1.get? b=some {ob with slots:=sl}:=by
 by_cases hb:b∈fs
 ·exact u.slot b ob q n hb hx
 ·exact⟨ob.slots,u.keep b ob q n hb hx⟩
theorem Un.kept(k:∀b u,h.get? b=some u->h'.get? b=some u):Un fs ex H H h h' :=
 ⟨λb ob q _ _ _=>k b ob q,λb ob q _ _ _=>⟨ob.slots,k b ob q⟩,λ_ _ _ n _=>n,λb ob q _=>⟨ob,k b ob q⟩,λ_ _ q=>q,λ_ _ _ q=>q,λ_ ps q=>⟨#[],by rw [q]; simp⟩⟩
theorem Un.refl:Un fs ex H H h h:=Un.kept λ_ _ q=>q
theorem Un.laid(k:∀b u,h.get? b=some u->h'.get? b=some u)(hp:h.objs.size<=a)(hn:H a=none):Un fs ex H (upd H a o) h h' where
 keep:=λb u q _ _ _=>k b u q
 slot:=λb u q _ _ _=>⟨u.slots,k b u q⟩
 free:=λb u q n _=>by rw [aI (Nat.ne_of_lt (UH (Uw q) hp))]; exact n
 there:=λb u q _=>⟨u,k b u q⟩
 tups:=λb xs q=>by rw [aI (aU q hn)]; exact q
 oG:=λb u xs q=>by rw [aI (aU q hn)]; exact q
 qk:=λb ps q=>⟨#[],by rw [aI (aU q hn),q]; simp⟩
theorem Un.write(mu:LI (H x))(he:e=x\/H e=some (.own x))(k:∀b u,b≠e->h.get? b=some u->h'.get? b=some u)(heo:∃u,h'.get? e=some u):Un fs ex H (upd H x o) h h':=by
 have hx:∀b,H b=none->b≠x:=λb n z=>by subst z; rw [n]at mu; exact mu
 have hb:∀b,H b=none->b≠e:=λb n z=>by
  subst z
  rcases he with r | r
  ·exact hx b n r
  ·rw [n]at r; cases r
 have hm:∀b u,H b=some u->¬LI (some u)->b≠x:=λb u q nm z=>by subst z; rw [q]at mu; exact nm mu
 refine⟨λb u q n _ _=>k b u (hb b n) q,λb u q n _ _=>⟨u.slots,k b u (hb b n) q⟩,λb u q n _=>by rw [aI (hx b n)]; exact n,λb u q _=>?_,
  λb xs q=>by rw [aI (hm b _ q λz=>z)]; exact q,λb u xs q=>by rw [aI (hm b _ q λz=>z)]; exact q,λb ps q=>⟨#[],by rw [aI (hm b _ q λz=>z),q]; simp⟩⟩
 by_cases hbe:b=e
 ·subst hbe; exact heo
 ·exact⟨u,k b u hbe q⟩
end
def M0(h:Heap)(H:Hp):List Addr:=(List.range h.objs.size).filter λa=>(H a).isSome
def rL(h:Heap)(H:Hp):Heap:=PySem.W.hideAll h (M0 h H)
theorem zY(h:Heap)(H:Hp):(rL h H).objs.size=h.objs.size:=PySem.W.hideAll_size _ _
theorem BN{h:Heap}{H:Hp}{b:Addr}{o:Obj}(e:h.get? b=some o)(n:H b=none):(rL h H).get? b=some o :=
 PySem.W.hideAll_get _ e λhm=>by
  have q:(H b).isSome=true:=(List.mem_filter.mp hm).2
  rw [n]at q; simp at q
theorem Fn{h:Heap}{H:Hp}{b:Addr}{o:Obj}(e:(rL h H).get? b=some o):h.get? b=some o/\H b=none:=by
 have e':h.get? b=some o:=PySem.W.of_hideAll (M0 h H) e
 refine⟨e',?_⟩
 cases q:H b with
 | none=>rfl
 | some x =>
  have hm:b∈M0 h H:=List.mem_filter.mpr ⟨List.mem_range.mpr (Uw e'),by simp [q]⟩
  have z:(rL h H).get? b=none:=PySem.W.hideAll_none (M0 h H) hm
  rw [z]at e; cases e
def Ga(g h:Heap)(L:Addr):List (Addr×Obj):=(List.range h.objs.size).filterMap λa=>if a=L\/(g.get? a).isSome=true then none else(h.get? a).map λo=>(a,o)
def rest(g h:Heap)(L d:Addr):List (Addr×Obj):=(Ga g h L).filter λp=>decide (p.1≠d)
structure Mod(K:PySem.W.Frag)(mg:Str->Option Value)(base:Heap):Prop where
 KC:K.In base
 glob:base.Ns mainGlobals mg
 blt:∃mb,base.Ns builtinsNs mb/\∀x:Str,x≠"__name__"->mb x=bootBuiltins x
 nolimit:base.NoLimit
structure Cx where
 prog:Program
 w:World
 K:PySem.W.Frag
 mg:Str->Option Value
 base:Heap
 A:Around
 N:List Str
 s₀:Shared
 H₀:Hp
 env:Env
 outer:List Env
 stack:List Env
 ex:List Addr
 fn:Str->Bool
 calm:Bool
 pn:List (Addr×Obj)
 xe:Value->Shared->Prop
def frs(l:List Env):List Addr:=l.filterMap (·.frame)
abbrev Cx.fs(X:Cx):List Addr:=frs X.outer
def PJ(sc:Scope)(x:Str):Prop:=sc.names.lookup x=some .local\/sc.names.lookup x=some .cell\/sc.names.lookup x=some .free
def Loc(sc:Scope)(x:Str):Prop:=sc.names.lookup x=some .local\/sc.names.lookup x=some .cell
def Look(env:Env)(h:Heap)(m:Str->Option Value)(x:Str)(u:Value):Prop :=
 (env.kindOf x=some .local/\m x=some u)\/((env.kindOf x=some .cell\/env.kindOf x=some .free)/\∃c,env.cells.lookup x=some c/\h.IsCell c (some u))
structure Cx.Ok(X:Cx):Prop where
 mod:Mod X.K X.mg X.base
 kind:X.env.scope.kind=.function
 glob:X.env.globals=mainGlobals
 blt:X.env.builtins=builtinsNs
 above:X.s₀.heap.objs.size<=X.env.locals
 inj:∀x y c,X.env.cells.lookup x=some c->X.env.cells.lookup y=some c->x=y
 has:∀x,(X.env.kindOf x=some .cell\/X.env.kindOf x=some .free)->∃c,X.env.cells.lookup x=some c
 cab:∀x c,X.fn x=true->X.env.cells.lookup x=some c->X.s₀.heap.objs.size<=c
 hd:X.calm=true->X.A.handled=none
 frames:X.A.frames=some X.stack
 IA:X.stack=X.outer\/(X.stack=X.env::X.outer/\X.env.frame=some X.env.locals)
 AM:∀b∈X.ex,b≠X.env.locals/\∀x c,X.env.cells.lookup x=some c->c≠b
 bs:∀b o,X.base.get? b=some o->X.s₀.heap.get? b=some o/\X.H₀ b=none
 A7:X.base.objs.size<=X.s₀.heap.objs.size
 vv:∀b o,X.base.get? b=some o->b∉X.ex
 pI:∀b∈X.ex,b∉X.fs
 kq:X.s₀.heap.FunFrames X.base X.outer
 Er:∀b∈X.fs,X.H₀ b=none
structure Inv(X:Cx)(pins:List (Addr×Obj))(σ:List (Option V))(H:Hp)(s:Shared):Prop where
 ok:X.Ok
 os:s.os=X.s₀.os
 bare:AllBare s.gens
 base:Un X.fs X.ex X.H₀ H X.s₀.heap s.heap
 loc:∃m,s.heap.Ns X.env.locals m/\∀(i:Nat) (x:Str) (v:V),X.N[i]? = some x->σ[i]? = some (some v)->PJ X.env.scope x->∃u,RelV v u/\Look X.env s.heap m x u
 cell:∀x c,X.env.cells.lookup x=some c->∃v,s.heap.IsCell c v
 free:H X.env.locals=none
 fM:∀x c,X.env.cells.lookup x=some c->H c=none
 pin:∀p∈X.pn++pins,s.heap.get? p.1=some p.2/\H p.1=none/\p.1≠X.env.locals/\p.1∉X.fs/\∀v,p.2.data≠ .cell v
 hok:i_ X.prog X.w H s.heap
 len:σ.length=X.N.length
section
variable{X:Cx}{pins:List (Addr×Obj)}{σ:List (Option V)}{H H':Hp}{s:Shared}{h':Heap}
theorem Cx.Ok.N4(ok:X.Ok){b:Addr}{o:Obj}(e:X.base.get? b=some o):b∉X.fs:=λhb=>by
 have:=(ok.kq.mem hb).1
 rw [e]at this; cases this
theorem Inv.bs(I:Inv X pins σ H s):∀b o,X.base.get? b=some o->s.heap.get? b=some o/\H b=none:=λb o e =>
 ⟨I.base.keep b o (I.ok.bs b o e).1 (I.ok.bs b o e).2 (I.ok.N4 e) (I.ok.vv b o e),I.base.free b o (I.ok.bs b o e).1 (I.ok.bs b o e).2 (I.ok.vv b o e)⟩
theorem Inv.bk(I:Inv X pins σ H s):∀b o,X.base.get? b=some o->s.heap.get? b=some o:=λb o e=>(I.bs b o e).1
theorem Inv.mod(I:Inv X pins σ H s):Mod X.K X.mg X.base:=I.ok.mod
theorem Inv.jK(I:Inv X pins σ H s):X.K.In s.heap:=I.ok.mod.KC.keeps I.bk
theorem Inv.lt(I:Inv X pins σ H s):X.env.locals<s.heap.objs.size:=let ⟨_,hn,_⟩:=I.loc; hn.lt
theorem Inv.sz(I:Inv X pins σ H s):X.s₀.heap.objs.size<=s.heap.objs.size:=Uz I.ok.above (Nat.le_of_lt I.lt)
theorem Inv.NV(I:Inv X pins σ H s){a:Addr}(h:s.heap.objs.size<=a):a∉X.fs:=λhb=>by
 obtain⟨_,o,ho,_⟩:=I.ok.kq.mem hb
 exact absurd (UH (Uw ho) (Uz I.sz h)) (Nat.lt_irrefl _)
theorem Inv.Ff(I:Inv X pins σ H s):∀x c,X.env.cells.lookup x=some c->c≠X.env.locals:=λx c e z=>by
 obtain⟨v,o,ho,hd⟩:=I.cell x c e
 obtain⟨m,⟨o',es,ep,ho',hd',_⟩,_⟩:=I.loc
 rw [z,ho']at ho; cases ho; rw [hd']at hd; cases hd
theorem Inv.kq(I:Inv X pins σ H s):s.heap.FunFrames X.base X.outer:=by
 have all:∀(l:List Env),(∀b∈frs l,b∈X.fs)->X.s₀.heap.FunFrames X.base l->s.heap.FunFrames X.base l:=by
  intro l
  induction l with
  | nil=>intro _ _; trivial
  | cons env r ih =>
   intro hs hl
   obtain⟨hk,⟨L,o,hf,hn,ho,hd⟩,hr⟩:=hl
   have hL:L∈X.fs:=hs L (by unfold frs; rw [List.filterMap_cons,hf]; exact List.mem_cons_self)
   obtain⟨sl,e⟩:=I.base.slot L o ho (I.ok.Er L hL) hL λz=>I.ok.pI L z hL
   exact⟨hk,⟨L,_,hf,hn,e,hd⟩,ih (λb hb=>hs b (by unfold frs; rw [List.filterMap_cons,hf]; exact UL _ hb)) hr⟩
 exact all X.outer (λ_ hb=>hb) I.ok.kq
theorem Inv.stack(I:Inv X pins σ H s):s.heap.FunFrames X.base X.stack:=by
 rcases I.ok.IA with e | ⟨e,hf⟩
 ·rw [e]; exact I.kq
 ·rw [e]
  obtain⟨m,hn,_⟩:=I.loc
  refine .cons (by rw [I.ok.kind]; decide) hf hn ?_ I.kq
  exact Heap.get?_none_of_le (Uz I.ok.A7 I.ok.above)
theorem Inv.xH(I:Inv X pins σ H s):∀b∈frs X.stack,b∈X.env.locals::X.fs:=λb hb=>by
 rcases I.ok.IA with e | ⟨e,hf⟩
 ·rw [e]at hb; exact UL _ hb
 ·rw [e]at hb
  unfold frs at hb
  rw [List.filterMap_cons,hf]at hb
  exact hb
theorem Inv.nE(I:Inv X pins σ H s):∀b∈frs X.stack,H b=none:=λb hb=>by
 rcases List.mem_cons.mp (I.xH b hb)with e | hb
 ·rw [e]; exact I.free
 ·obtain⟨_,o,ho,_⟩:=I.ok.kq.mem hb
  exact I.base.free b o ho (I.ok.Er b hb) λz=>I.ok.pI b z hb
theorem Inv.step{g':Array GenState}{t':Nat}{d':Drawn}{ch:List Addr}(I:Inv X pins σ H s)
  (hch:∀b∈ch,(b∈X.ex\/X.s₀.heap.objs.size<=b)/\b≠X.env.locals/\(∀x c,X.env.cells.lookup x=some c->c≠b)/\∀p∈X.pn++pins,p.1≠b)
  (keep:∀b o,b≠X.env.locals->b∉X.fs->b∉ch->s.heap.get? b=some o->H b=none->h'.get? b=some o)
  (slot:∀b o,b≠X.env.locals->b∈X.fs->b∉ch->s.heap.get? b=some o->H b=none->∃sl,h'.get? b=some {o with slots:=sl}) (free:∀b o,b∉ch->s.heap.get? b=some o->H b=none->H' b=none)
  (there:∀b o,b∉ch->s.heap.get? b=some o->∃o',h'.get? b=some o')
  (tups:∀b xs,H b=some (.tup xs)->H' b=some (.tup xs)) (oG:∀b o u,H b=some (.yk o u)->H' b=some (.yk o u)) (qk:∀b ps,H b=some (.GW ps)->∃more,H' b=some (.GW (ps++more)))
  (ns:∀m,s.heap.Ns X.env.locals m->h'.Ns X.env.locals m) (hok:i_ X.prog X.w H' h') (hg:AllBare g') :
  Inv X pins σ H' {s with heap:=h',gens:=g',drawn:=d',toks:=t'}:=by
 have Jl:∀b o,X.s₀.heap.get? b=some o->b≠X.env.locals:=λb o e=>Nat.ne_of_lt (UH (Uw e) I.ok.above)
 have Kp:∀b o,X.s₀.heap.get? b=some o->b∉X.ex->b∉ch:=λb o e hx hb=>by
  rcases(hch b hb).1 with z | z
  ·exact hx z
  ·exact absurd (UH (Uw e) z) (Nat.lt_irrefl _)
 have cellK:∀x c,X.env.cells.lookup x=some c->∀v,s.heap.IsCell c v->h'.IsCell c v:=λx c e v ⟨o,ho,hd⟩=>by
  have Mj:c∉ch:=λz=>(hch c z).2.2.1 x c e rfl
  by_cases hc:c∈X.fs
  ·obtain⟨sl,q⟩:=slot c o (I.Ff x c e) hc Mj ho (I.fM x c e)
   exact⟨_,q,hd⟩
  ·exact⟨o,keep c o (I.Ff x c e) hc Mj ho (I.fM x c e),hd⟩
 refine⟨I.ok,I.os,hg,⟨λb o e n hb hx=>?_,λb o e n hb hx=>?_,λb o e n hx=>?_,λb o e hx=>?_,λb xs e=>tups b xs (I.base.tups b xs e),λb o xs e=>oG b o xs (I.base.oG b o xs e),λb ps e=>?_⟩,?_,λx c e=>?_,?_,λx c e=>?_,λp hp=>?_,hok,I.len⟩
 ·exact keep b o (Jl b o e) hb (Kp b o e hx) (I.base.keep b o e n hb hx) (I.base.free b o e n hx)
 ·obtain⟨sl,e1⟩:=I.base.slot b o e n hb hx
  obtain⟨sl',e2⟩:=slot b _ (Jl b o e) hb (Kp b o e hx) e1 (I.base.free b o e n hx)
  exact⟨sl',e2⟩
 ·obtain⟨o',e1⟩:=I.base.there b o e hx
  exact free b o' (Kp b o e hx) e1 (I.base.free b o e n hx)
 ·obtain⟨o',e1⟩:=I.base.there b o e hx
  exact there b o' (Kp b o e hx) e1
 ·obtain⟨m1,e1⟩:=I.base.qk b ps e
  obtain⟨m2,e2⟩:=qk b _ e1
  exact⟨m1++m2,by rw [e2,Array.append_assoc]⟩
 ·obtain⟨m,hn,hl⟩:=I.loc
  refine⟨m,ns m hn,λi x v e1 e2 e3=>?_⟩
  obtain⟨u,r,l⟩:=hl i x v e1 e2 e3
  refine⟨u,r,?_⟩
  rcases l with l | ⟨k,c,e,z⟩
  ·exact .inl l
  ·exact .inr ⟨k,c,e,cellK x c e _ z⟩
 ·obtain⟨v,z⟩:=I.cell x c e
  exact⟨v,cellK x c e v z⟩
 ·obtain⟨m,⟨o,_,_,ho,_⟩,_⟩:=I.loc
  exact free _ o (λz=>(hch _ z).2.1 rfl) ho I.free
 ·obtain⟨v,o,ho,hd⟩:=I.cell x c e
  exact free c o (λz=>(hch c z).2.2.1 x c e rfl) ho (I.fM x c e)
 ·obtain⟨e,n,ne,nf,d⟩:=I.pin p hp
  have Mj:p.1∉ch:=λz=>(hch p.1 z).2.2.2 p hp rfl
  exact⟨keep p.1 p.2 ne nf Mj e n,free p.1 p.2 Mj e n,ne,nf,d⟩
theorem Inv.un{t':Nat}(I:Inv X pins σ H s)(u:Un X.fs [] H H' s.heap h')(hok:i_ X.prog X.w H' h'):Inv X pins σ H' {s with heap:=h',toks:=t'}:=by
 obtain⟨m,⟨o,es,ep,ho,r⟩,_⟩:=id I.loc
 obtain⟨sl,hL⟩:=u.any ho I.free (by simp)
 exact I.step (g':=s.gens) (d':=s.drawn) (ch:=[]) (λ_ z=>nomatch z) (λb o _ hb _ e n=>u.keep b o e n hb (by simp)) (λb o _ hb _ e n=>u.slot b o e n hb (by simp)) (λb o _ e n=>u.free b o e n (by simp)) (λb o _ e=>u.there b o e (by simp)) u.tups u.oG u.qk (λm' hm=>by
  obtain⟨o',es',ep',ho',r'⟩:=hm
  rw [ho]at ho'; cases ho'
  exact⟨_,es',ep',hL,r'⟩) hok I.bare
theorem Inv.call{g':Array GenState}{t':Nat}{d':Drawn}{ch:List Addr}(I:Inv X pins σ H s)(u:Un (frs X.stack) ch H H' s.heap h')(hok:i_ X.prog X.w H' h')(hg:AllBare g')
  (hch:∀b∈ch,(b∈X.ex\/X.s₀.heap.objs.size<=b)/\b≠X.env.locals/\(∀x c,X.env.cells.lookup x=some c->c≠b)/\∀p∈X.pn++pins,p.1≠b) :
  Inv X pins σ H' {s with heap:=h',gens:=g',drawn:=d',toks:=t'}:=by
 obtain⟨m,⟨o,es,ep,ho,r⟩,_⟩:=id I.loc
 obtain⟨sl,hL⟩:=u.any ho I.free λz=>(hch _ z).2.1 rfl
 exact I.step (ch:=ch) hch (λb o hL hb hc e n=>u.keep b o e n (λz=>(List.mem_cons.mp (I.xH b z)).elim hL hb) hc) (λb o _ _ hc e n=>u.any e n hc) (λb o hc e n=>u.free b o e n hc) (λb o hc e=>u.there b o e hc) u.tups u.oG u.qk (λm' hm=>by
  obtain⟨o',es',ep',ho',r'⟩:=hm
  rw [ho]at ho'; cases ho'
  exact⟨_,es',ep',hL,r'⟩) hok hg
theorem Inv.turned{t':Nat}{it:Addr}(I:Inv X pins σ H s)(k:∀b o,b≠it->s.heap.get? b=some o->h'.get? b=some o)(hn:H it=none)(hL:it≠X.env.locals)
  (h1:it∈X.ex\/X.s₀.heap.objs.size<=it) (h2:∀x c,X.env.cells.lookup x=some c->c≠it) (h3:∀p∈X.pn++pins,p.1≠it):Inv X pins σ H {s with heap:=h',toks:=t'}:=by
 have Hr:∀b u,H b=some u->b≠it:=λb u e z=>by rw [z,hn]at e; cases e
 refine I.step (g':=s.gens) (d':=s.drawn) (ch:=[it]) (λb hb=>?_) (λb o _ _ hc e _=>k b o (λz=>hc (by simp [z])) e) (λb o _ _ hc e _=>⟨o.slots,k b o (λz=>hc (by simp [z])) e⟩) (λ_ _ _ _ n=>n)
  (λb o hc e=>⟨o,k b o (λz=>hc (by simp [z])) e⟩) (λ_ _ e=>e) (λ_ _ _ e=>e) (λb ps e=>⟨#[],by rw [e]; simp⟩) (λm hm=>?_) (λb u e=>?_) I.bare
 ·have e:b=it:=by simpa using hb
  subst e
  exact⟨h1,hL,h2,h3⟩
 ·obtain⟨o,es,ep,ho,r⟩:=hm
  exact⟨o,es,ep,k _ o (Ne.symm hL) ho,r⟩
 ·refine(I.hok b u e).stay (λc v hc q=>k c v ?_ q) (λ_ q=>q) λ_ _ q=>q
  rcases hc with z | z
  ·rw [z]; exact Hr b u e
  ·exact Hr c _ z
theorem Inv.tok(I:Inv X pins σ H s)(t:Nat):Inv X pins σ H {s with toks:=t}:=I.un (h':=s.heap) (t':=t) Un.refl I.hok
theorem Inv.kept{t':Nat}(I:Inv X pins σ H s)(k:∀b u,s.heap.get? b=some u->h'.get? b=some u):Inv X pins σ H {s with heap:=h',toks:=t'}:=I.un (Un.kept k) (I.hok.kept k)
theorem Inv.laid{a:Addr}{o:HO}{t':Nat}(I:Inv X pins σ H s)(k:∀b u,s.heap.get? b=some u->h'.get? b=some u)(hp:s.heap.objs.size<=a)(new:cu X.prog X.w (upd H a o) h' a o) :
  Inv X pins σ (upd H a o) {s with heap:=h',toks:=t'}:=I.un (Un.laid k hp (I.hok.fresh hp)) (I.hok.laid k hp new)
theorem Inv.write{x e:Addr}{o:HO}{t':Nat}(I:Inv X pins σ H s)(mu:LI (H x))(he:e=x\/H e=some (.own x))(k:∀b u,b≠e->s.heap.get? b=some u->h'.get? b=some u)(heo:∃u,h'.get? e=some u)
  (new:cu X.prog X.w (upd H x o) h' x o):Inv X pins σ (upd H x o) {s with heap:=h',toks:=t'}:=I.un (Un.write mu he k heo) (I.hok.write mu he k heo new)
theorem Inv.iF{pins':List (Addr×Obj)}(I:Inv X pins σ H s)(h:∀p∈pins',s.heap.get? p.1=some p.2/\H p.1=none/\p.1≠X.env.locals/\p.1∉X.fs/\∀v,p.2.data≠ .cell v):Inv X pins' σ H s :=
 ⟨I.ok,I.os,I.bare,I.base,I.loc,I.cell,I.free,I.fM,λp hp=>(List.mem_append.mp hp).elim (λz=>I.pin p (List.mem_append_left _ z)) (h p),I.hok,I.len⟩
theorem n_{N:List Str}(hN:N.Nodup){i j:Nat}{x:Str}(a:N[i]? = some x)(b:N[j]? = some x):i=j:=by
 obtain⟨h1,e1⟩:=List.getElem?_eq_some_iff.mp a
 obtain⟨h2,e2⟩:=List.getElem?_eq_some_iff.mp b
 exact(List.getElem_inj hN).mp (e1.trans e2.symm)
theorem l_{M:Model}{A:Around}{E:Value->Shared->Prop}{i:Nat}{x:Str}{v:V}{u:Value}{Q:Unit->Shared->Prop}(I:Inv X pins σ H s)(hN:X.N.Nodup)(hi:X.N[i]? = some x)(hx:Loc X.env.scope x)(r:RelV v u)
  (h:∀s',Inv X pins (σ.set i (some v)) H s'->(∃a,Heap.SameBut a s.heap s'.heap/\(a=X.env.locals\/X.env.cells.lookup x=some a))->Q () s') (hf:X.fn x=true\/X.env.scope.names.lookup x=some .local:=by first | exact .inl rfl | exact .inr rfl | assumption):wpAny M A (storeName X.env x u) Q E s:=by
 obtain⟨m,hn,hl⟩:=id I.loc
 have hcls:(X.env.scope.kind == .class||(X.env.scope.kind == .module&&X.env.locals != X.env.globals))=false:=by rw [I.ok.kind]; rfl
 have A9:i<σ.length:=by rw [I.len]; exact(List.getElem?_eq_some_iff.mp hi).1
 have Ff:=I.Ff
 have tracked:∀{a:Addr} {h':Heap},(∃o,s.heap.get? a=some o/\H a=none)->Heap.SameBut a s.heap h'->i_ X.prog X.w H h':=λ{a h'} ha hs b ob e=>by
  obtain⟨_,_,hfree⟩:=ha
  refine(I.hok b ob e).stay (λc w' hc q=>(hs.2 c ?_).trans q) (λ_ q=>q) λ_ _ q=>q
  rintro rfl
  rcases hc with rfl | hc
  ·rw [hfree]at e; cases e
  ·rw [hfree]at hc; cases hc
 rcases hx with hk | hk
 ·refine wpAny_storeName_local hk hn (λh' hn' hs=>?_) hcls
  obtain⟨oL,_,_,hoL,_⟩:=id hn
  refine h _ ⟨I.ok,I.os,I.bare,⟨λb o e n hb hx=>?_,λb o e n hb hx=>?_,I.base.free,λb o e hx=>?_,I.base.tups,I.base.oG,I.base.qk⟩,⟨_,hn',λj y v' e1 e2 e3=>?_⟩,λy c e=>?_,I.free,I.fM,λp hp=>?_,tracked ⟨oL,hoL,I.free⟩ hs,by simpa using I.len⟩ ⟨_,hs,.inl rfl⟩
  ·exact(hs.2 b (Nat.ne_of_lt (UH (Uw e) I.ok.above))).trans (I.base.keep b o e n hb hx)
  ·obtain⟨sl,e1⟩:=I.base.slot b o e n hb hx
   exact⟨sl,(hs.2 b (Nat.ne_of_lt (UH (Uw e) I.ok.above))).trans e1⟩
  ·obtain⟨o',e1⟩:=I.base.there b o e hx
   exact⟨o',(hs.2 b (Nat.ne_of_lt (UH (Uw e) I.ok.above))).trans e1⟩
  ·by_cases hj:j=i
   ·subst hj
    rw [hi]at e1; cases e1
    rw [List.getElem?_set_self A9]at e2
    cases e2
    exact⟨u,r,.inl ⟨hk,by simp⟩⟩
   ·rw [List.getElem?_set_ne (Ne.symm hj)]at e2
    obtain⟨u',r',q⟩:=hl j y v' e1 e2 e3
    refine⟨u',r',?_⟩
    rcases q with⟨k,e⟩ | ⟨k,c,e,z⟩
    ·refine .inl ⟨k,?_⟩
     have:y≠x:=λe=>hj (n_ hN e1 (e▸hi))
     simp [this,e]
    ·exact .inr ⟨k,c,e,z.sameBut hs (Ff y c e)⟩
  ·obtain⟨w',z⟩:=I.cell y c e
   exact⟨w',z.sameBut hs (Ff y c e)⟩
  ·obtain⟨e,n,ne,nf,d⟩:=I.pin p hp
   exact⟨(hs.2 p.1 ne).trans e,n,ne,nf,d⟩
 ·have hfn:X.fn x=true:=by
   rcases hf with z | z
   ·exact z
   ·rw [z]at hk; cases hk
  obtain⟨c,hc⟩:=I.ok.has x (.inl hk)
  obtain⟨w',z⟩:=I.cell x c hc
  refine wpAny_storeName_cell I.ok.kind hk hc z (λh' hc' hs=>?_)
  obtain⟨oc,hoc,NM⟩:=id z
  refine h {s with heap:=h'} ⟨I.ok,I.os,I.bare,⟨λb o e n hb hx=>?_,λb o e n hb hx=>?_,I.base.free,λb o e hx=>?_,I.base.tups,I.base.oG,I.base.qk⟩,⟨m,hn.sameBut hs (Ne.symm (Ff x c hc)),λj y v' e1 e2 e3=>?_⟩,λy c' e=>?_,I.free,I.fM,λp hp=>?_,tracked ⟨oc,hoc,I.fM x c hc⟩ hs,by simpa using I.len⟩ ⟨c,hs,.inr hc⟩
  ·exact(hs.2 b (Nat.ne_of_lt (UH (Uw e) (I.ok.cab x c hfn hc)))).trans (I.base.keep b o e n hb hx)
  ·obtain⟨sl,e1⟩:=I.base.slot b o e n hb hx
   exact⟨sl,(hs.2 b (Nat.ne_of_lt (UH (Uw e) (I.ok.cab x c hfn hc)))).trans e1⟩
  ·obtain⟨o',e1⟩:=I.base.there b o e hx
   exact⟨o',(hs.2 b (Nat.ne_of_lt (UH (Uw e) (I.ok.cab x c hfn hc)))).trans e1⟩
  ·by_cases hj:j=i
   ·subst hj
    rw [hi]at e1; cases e1
    rw [List.getElem?_set_self A9]at e2
    cases e2
    exact⟨u,r,.inr ⟨.inl hk,c,hc,hc'⟩⟩
   ·rw [List.getElem?_set_ne (Ne.symm hj)]at e2
    obtain⟨u',r',q⟩:=hl j y v' e1 e2 e3
    refine⟨u',r',?_⟩
    rcases q with q | ⟨k,c',e,z'⟩
    ·exact .inl q
    ·refine .inr ⟨k,c',e,z'.sameBut hs ?_⟩
     rintro rfl
     exact hj (n_ hN e1 (I.ok.inj _ _ _ e hc▸hi))
  ·by_cases hcc:c'=c
   ·subst hcc; exact⟨_,hc'⟩
   ·obtain⟨w2,z2⟩:=I.cell y c' e
    exact⟨w2,z2.sameBut hs hcc⟩
  ·obtain⟨e,n,ne,nf,d⟩:=I.pin p hp
   refine⟨(hs.2 p.1 ?_).trans e,n,ne,nf,d⟩
   intro q
   rw [q,hoc]at e
   have q':oc=p.2:=Option.some.inj e
   exact d w' (by rw [←q']; exact NM)
theorem iq{M:Model}{A:Around}{E:Value->Shared->Prop}{i:Nat}{x:Str}{v:V}{u:Value}{Q:Unit->Shared->Prop}(I:Inv X pins σ H s)(hN:X.N.Nodup)(hi:X.N[i]? = some x)(hx:Loc X.env.scope x)(r:RelV v u)
  (h:∀s',Inv X pins (σ.set i (some v)) H s'->Q () s') (hf:X.fn x=true\/X.env.scope.names.lookup x=some .local:=by first | exact .inl rfl | exact .inr rfl | assumption):wpAny M A (storeName X.env x u) Q E s :=
 l_ I hN hi hx r (λs' I' _=>h s' I') hf
theorem Inv.call'{s':Shared}{ch:List Addr}(I:Inv X pins σ H s)(ho:s'.os=s.os)(u:Un (frs X.stack) ch H H' s.heap s'.heap)(hok:i_ X.prog X.w H' s'.heap)(hg:AllBare s'.gens)
  (hch:∀b∈ch,(b∈X.ex\/X.s₀.heap.objs.size<=b)/\b≠X.env.locals/\(∀x c,X.env.cells.lookup x=some c->c≠b)/\∀p∈X.pn++pins,p.1≠b):Inv X pins σ H' s':=by
 obtain⟨h',g',d',t',o'⟩:=s'
 have e:o'=s.os:=ho
 subst e
 exact I.call (g':=g') (t':=t') (d':=d') u hok hg hch
end
abbrev XK:=Value->Option Addr->Hp->Prop
abbrev St:=List (Option V)
abbrev VK:=V->Hp->Prop
abbrev TE:=St->Hp->VK->Prop
abbrev TT:=St->Hp->(Bool->Hp->Prop)->Prop
abbrev TA:=St->Hp->(List V->Hp->Prop)->Prop
structure Ends where
 nx:St->Hp->Prop
 rt:VK
 bk:St->Hp->Prop:=λ_ _=>False
 ct:St->Hp->Prop:=λ_ _=>False
abbrev TS:=Ends->St->Hp->Prop
def EP(X:Cx)(pins:List (Addr×Obj))(σ:St)(Q:VK)(u:Value)(s':Shared):Prop:=∃v H',Inv X pins σ H' s'/\RelV v u/\Q v H'
def TP(X:Cx)(pins:List (Addr×Obj))(σ:St)(Q:Bool->Hp->Prop)(b:Bool)(s':Shared):Prop:=∃H',Inv X pins σ H' s'/\Q b H'
def AP(X:Cx)(pins:List (Addr×Obj))(σ:St)(Q:List V->Hp->Prop)(us:List Value)(s':Shared):Prop:=∃vs H',Inv X pins σ H' s'/\Vals vs us/\Q vs H'
def SP(X:Cx)(pins:List (Addr×Obj))(D:Ends)(f:Flow)(s':Shared):Prop :=
 match f with
 | .next=>∃σ' H',Inv X pins σ' H' s'/\D.nx σ' H'
 | .brk=>∃σ' H',Inv X pins σ' H' s'/\D.bk σ' H'
 | .cont=>∃σ' H',Inv X pins σ' H' s'/\D.ct σ' H'
 | .ret u=>∃v σ' H',Inv X pins σ' H' s'/\RelV v u/\D.rt v H'
def PE(X:Cx)(e:Expr)(t:TE):Prop :=
 ∀(pins:List (Addr×Obj)) (s:Shared) (σ:St) (H:Hp) (Q:VK),Inv X pins σ H s->t σ H Q->wpAny (model X.prog X.w) X.A (eval e X.env) (EP X pins σ Q) X.xe s
def PT(X:Cx)(e:Expr)(t:TT):Prop :=
 ∀(pins:List (Addr×Obj)) (s:Shared) (σ:St) (H:Hp) (Q:Bool->Hp->Prop),Inv X pins σ H s->t σ H Q->wpAny (model X.prog X.w) X.A (isTrue e X.env (eval e X.env)) (TP X pins σ Q) X.xe s
def PW(X:Cx)(e:Expr)(t:TT):Prop :=
 ∀(whole:Sem Value) (pins:List (Addr×Obj)) (s:Shared) (σ:St) (H:Hp) (Q:Bool->Hp->Prop),Inv X pins σ H s->t σ H Q->wpAny (model X.prog X.w) X.A (isTrue e X.env whole) (TP X pins σ Q) X.xe s
theorem PW.pt{X:Cx}{e:Expr}{t:TT}(h:PW X e t):PT X e t:=h _
def PA(X:Cx)(es:List Expr)(t:TA):Prop :=
 ∀(pos:Pos) (pins:List (Addr×Obj)) (s:Shared) (σ:St) (H:Hp) (Q:List V->Hp->Prop),Inv X pins σ H s->t σ H Q->wpAny (model X.prog X.w) X.A (spliced (backTo pos (starEach es X.env))) (AP X pins σ Q) X.xe s
def PS(X:Cx)(st:Stmt)(t:TS):Prop :=
 ∀(pins:List (Addr×Obj)) (s:Shared) (σ:St) (H:Hp) (D:Ends),Inv X pins σ H s->t D σ H->wpAny (model X.prog X.w) X.A (exec st X.env) (SP X pins D) X.xe s
def nN(X:Cx)(st:List Stmt)(t:TS):Prop :=
 ∀(pins:List (Addr×Obj)) (s:Shared) (σ:St) (H:Hp) (D:Ends),Inv X pins σ H s->t D σ H->wpAny (model X.prog X.w) X.A (execs st X.env) (SP X pins D) X.xe s
theorem b_{α:Type}{t:Sem α}{Q Q':α->Shared->Prop}{M:Model}{A:Around}{E:Value->Shared->Prop}{s:Shared}(h:wpAny M A t Q E s)(hQ:∀a s,Q a s->Q' a s):wpAny M A t Q' E s:=wpAny_mono h hQ λ_ _ x=>x
section
variable{X:Cx}
def bx(i:Nat):TE:=λσ H Q=>∃v,σ[i]? = some (some v)/\Q v H
def tC(v:V):TE:=λ_ H Q=>Q v H
theorem xy{i:Nat}{x:Str}{pos:Pos}(hN:X.N[i]? = some x)(hv:PJ X.env.scope x)(hd:(x==("__debug__" : Str))=false:=by decide)(hcd:(x==("__classdict__" : Str))=false:=by decide):PE X (.Name x pos) (bx i):=by
 intro pins s σ H Q I h
 obtain⟨v,e,h⟩:=h
 obtain⟨m,hn,hl⟩:=I.loc
 obtain⟨u,r,l⟩:=hl i x v hN e hv
 have fin:EP X pins σ Q u s:=⟨v,H,I,r,h⟩
 rcases l with⟨hk,hm⟩ | ⟨hk,c,hc,hcell⟩
 ·exact wpAny_Name (wpAny_loadName_local I.ok.kind hk hn hm fin) hd
 ·rcases hk with hk | hk
  ·exact wpAny_Name (wpAny_loadName_cell I.ok.kind hk hc hcell fin) hd
  ·exact wpAny_Name (wpAny_loadName_free I.ok.kind hk hc hcell fin hcd) hd
theorem ai{i j pos}:PE X (.Constant (.int i) j pos) (tC (.int i)):=λ_ _ _ H _ I h=>wpAny_Constant_int ⟨.int i,H,I.tok _,⟨_,rfl⟩,h⟩
theorem fV{b j pos}:PE X (.Constant (.bool b) j pos) (tC (.bl b)):=λ_ _ _ H _ I h=>Constant_bool ⟨.bl b,H,I,rfl,h⟩
theorem iI{j pos}:PE X (.Constant .none j pos) (tC .non):=λ_ _ _ H _ I h=>Constant_none ⟨.non,H,I,rfl,h⟩
theorem ao{x j pos}:PE X (.Constant (.str x) j pos) (tC (.str x)):=λ_ _ _ H _ I h=>Calls.Constant_str ⟨.str x,H,I.tok _,⟨_,rfl⟩,h⟩
def Gl(X:Cx)(x:Str):Prop:=X.env.kindOf x=some .globalImplicit
theorem nj{E:Value->Shared->Prop}{pins:List (Addr×Obj)}{s:Shared}{σ:St}{H:Hp}{x:Str}{u:Value}{pos:Pos}{Q:Value->Shared->Prop}(I:Inv X pins σ H s)(hg:Gl X x)(hm:X.mg x=some u)(h:Q u s)
  (hd:(x==("__debug__" : Str))=false:=by decide):wpAny (model X.prog X.w) X.A (eval (.Name x pos) X.env) Q E s :=
 Calls.Name_function_global I.ok.kind hg (Calls.loadGlobal_global (by rw [I.ok.glob]; exact I.mod.glob.keeps I.bk) hm h) hd
theorem iG{E:Value->Shared->Prop}{pins:List (Addr×Obj)}{s:Shared}{σ:St}{H:Hp}{x:Str}{u:Value}{pos:Pos}{Q:Value->Shared->Prop}(I:Inv X pins σ H s)(hg:Gl X x)(hm:X.mg x=none)(hv:bootBuiltins x=some u)(h:Q u s)
  (hn:x≠"__name__":=by decide) (hd:(x==("__debug__" : Str))=false:=by decide):wpAny (model X.prog X.w) X.A (eval (.Name x pos) X.env) Q E s:=by
 obtain⟨mb,h1,h2⟩:=I.mod.blt
 exact Calls.Name_function_global I.ok.kind hg (Calls.loadGlobal_builtin (by rw [I.ok.glob]; exact I.mod.glob.keeps I.bk) hm (by rw [I.ok.blt]; exact h1.keeps I.bk) ((h2 x hn).trans hv) h) hd
theorem cQ{x:Str}{v:V}{u:Value}{pos:Pos}(hg:Gl X x)(hm:X.mg x=some u)(r:RelV v u)(hd:(x==("__debug__" : Str))=false:=by decide):PE X (.Name x pos) (tC v) :=
 λ_ _ _ H _ I h=>nj I hg hm ⟨v,H,I,r,h⟩ hd
theorem E5{x:Str}{v:V}{u:Value}{pos:Pos}(hg:Gl X x)(hm:X.mg x=none)(hv:bootBuiltins x=some u)(r:RelV v u)(hn:x≠"__name__":=by decide)(hd:(x==("__debug__" : Str))=false:=by decide):PE X (.Name x pos) (tC v) :=
 λ_ _ _ H _ I h=>iG I hg hm hv ⟨v,H,I,r,h⟩ hn hd
variable{a b:Expr}{ta tb:TE}{pos:Pos}
def tB(t:TE):TT:=λσ H Q=>t σ H λx H1=>∃c,x=.bl c/\Q c H1
theorem fw{e:Expr}{t:TE}(h:PE X e t)(he:∀whole,isTrue e X.env whole=(do let v←whole; standAt e.pos; holding [v] (truthy v)):=by intro _; rfl):PT X e (tB t):=by
 intro pins s σ H Q I hw
 refine isTrue_plain (b_ (h pins s σ H _ I hw) λv s1 ⟨x,H1,I1,r1,q1⟩=>?_) (he _)
 obtain⟨d,rfl,q⟩:=q1
 cases r1
 exact wpAny_truthy_bool ⟨H1,I1,q⟩
variable{tA MU:TT}{rest:List Expr}
def K6(t u:TT):TT:=λσ H Q=>t σ H λc H1=>if c=true then u σ H1 Q else Q false H1
def Rr(t u:TT):TT:=λσ H Q=>t σ H λc H1=>if c=true then Q true H1 else u σ H1 Q
def OQ(t:TT):TT:=λσ H Q=>t σ H λc H1=>Q (!c) H1
theorem iJ(ha:PT X a tA):PW X (.BoolOp .And [a] pos) tA:=by
 intro wh pins s σ H Q I h
 refine isTrue_and (b_ (ha pins s σ H Q I h) λc s1 e=>?_)
 cases c with
 | true=>exact isTrue_and_nil e
 | false=>exact e
theorem CD(ha:PT X a tA):PW X (.BoolOp .Or [a] pos) tA:=by
 intro wh pins s σ H Q I h
 refine isTrue_or (b_ (ha pins s σ H Q I h) λc s1 e=>?_)
 cases c with
 | false=>exact isTrue_or_nil e
 | true=>exact e
theorem kB(ha:PT X a tA)(hb:PW X (.BoolOp .And (b::rest) pos) MU):PW X (.BoolOp .And (a::b::rest) pos) (K6 tA MU):=by
 intro wh pins s σ H Q I h
 refine isTrue_and (b_ (ha pins s σ H _ I h) λc s1 ⟨H1,I1,q1⟩=>?_)
 cases c with
 | true=>exact hb wh pins s1 σ H1 Q I1 q1
 | false=>exact⟨H1,I1,q1⟩
theorem CI(ha:PT X a tA)(hb:PW X (.BoolOp .Or (b::rest) pos) MU):PW X (.BoolOp .Or (a::b::rest) pos) (Rr tA MU):=by
 intro wh pins s σ H Q I h
 refine isTrue_or (b_ (ha pins s σ H _ I h) λc s1 ⟨H1,I1,q1⟩=>?_)
 cases c with
 | true=>exact⟨H1,I1,q1⟩
 | false=>exact hb wh pins s1 σ H1 Q I1 q1
theorem tP(ha:PT X a tA):PT X (.UnaryOp .Not a pos) (OQ tA):=by
 intro pins s σ H Q I h
 exact isTrue_not (ha pins s σ H (λc H1=>Q (!c) H1) I h)
def GZ(ta tb:TE):TE:=λσ H Q=>ta σ H λx H1=>∃c,x=.bl c/\if c=true then tb σ H1 Q else Q (.bl false) H1
def uK(ta tb:TE):TE:=λσ H Q=>ta σ H λx H1=>∃c,x=.bl c/\if c=true then Q (.bl true) H1 else tb σ H1 Q
def Ha(ta:TE):TE:=λσ H Q=>ta σ H λx H1=>∃c,x=.bl c/\Q (.bl (!c)) H1
theorem cY{op}{t:TE}(h:PE X a t):PE X (.BoolOp op [a] pos) t:=λpins s σ H Q I hw=>BoolOp_one (h pins s σ H Q I hw)
theorem pk(ha:PE X a ta)(hb:PE X (.BoolOp .And (b::rest) pos) tb):PE X (.BoolOp .And (a::b::rest) pos) (GZ ta tb):=by
 intro pins s σ H Q I h
 refine BoolOp_and (b_ (ha pins s σ H _ I h) λv s1 ⟨x,H1,I1,r1,q1⟩=>?_)
 obtain⟨c,rfl,q1⟩:=q1
 cases r1
 refine wpAny_truthy_bool ?_
 cases c with
 | true=>exact hb pins s1 σ H1 Q I1 q1
 | false=>exact⟨.bl false,H1,I1,rfl,q1⟩
theorem fY(ha:PE X a ta)(hb:PE X (.BoolOp .Or (b::rest) pos) tb):PE X (.BoolOp .Or (a::b::rest) pos) (uK ta tb):=by
 intro pins s σ H Q I h
 refine BoolOp_or (b_ (ha pins s σ H _ I h) λv s1 ⟨x,H1,I1,r1,q1⟩=>?_)
 obtain⟨c,rfl,q1⟩:=q1
 cases r1
 refine wpAny_truthy_bool ?_
 cases c with
 | false=>exact hb pins s1 σ H1 Q I1 q1
 | true=>exact⟨.bl true,H1,I1,rfl,q1⟩
theorem JR(ha:PE X a ta):PE X (.UnaryOp .Not a pos) (Ha ta):=by
 intro pins s σ H Q I h
 refine UnaryOp_ (b_ (ha pins s σ H _ I h) λv s1 ⟨x,H1,I1,r1,q1⟩=>?_)
 obtain⟨c,rfl,q1⟩:=q1
 cases r1
 exact not_of (wpAny_truthy_bool ⟨.bl (!c),H1,I1,rfl,q1⟩)
def Q5(t:TT)(ta tb:TE):TE:=λσ H Q=>t σ H λc H1=>if c=true then ta σ H1 Q else tb σ H1 Q
theorem eR{c:Expr}(hc:PT X c tA)(ha:PE X a ta)(hb:PE X b tb):PE X (.IfExp c a b pos) (Q5 tA ta tb):=by
 intro pins s σ H Q I h
 refine wpAny_IfExp (b_ (hc pins s σ H _ I h) λd s1 ⟨H1,I1,q1⟩=>?_)
 cases d with
 | true=>exact ha pins s1 σ H1 Q I1 q1
 | false=>exact hb pins s1 σ H1 Q I1 q1
end
def aZ(K:PySem.W.Frag)(H:Hp)(a:Addr)(xs:List V):Prop :=
 Rd H a (.lst xs)\/
  ∃(o:Obj) (its:Array Value) (n:Nat),K.lookup a=some o/\o.cls=.type "list"/\o.dict=none/\o.data=.seq its n/\its.size<=sizeLine/\Vals xs its.toList
def aH(K:PySem.W.Frag)(H:Hp)(a:Addr)(xs:List V):Prop :=
 Rd H a (.tup xs)\/
  ∃(o:Obj) (its:Array Value) (n:Nat),K.lookup a=some o/\o.cls=.type "tuple"/\o.data=.seq its n/\its.size<=sizeLine/\Vals xs its.toList
def Pt:Value->Option V
 | .none=>some .non
 | .bool b=>some (.bl b)
 | .int i _=>some (.int i)
 | .str x _=>some (.str x)
 | .bytes b _=>some (.yz b)
 | .float b _=>some (.flt b)
 | .ref a=>some (.ref a)
 | .type n=>some (.ty n)
 | _=>none
theorem RelV.abs{x:V}{u:Value}(r:RelV x u):Pt u=some x:=by
 cases x with
 | non=>cases r; rfl
 | bl _=>cases r; rfl
 | int _=>obtain⟨t,rfl⟩:=r; rfl
 | str _=>obtain⟨t,rfl⟩:=r; rfl
 | yz _=>obtain⟨t,rfl⟩:=r; rfl
 | flt _=>obtain⟨t,rfl⟩:=r; rfl
 | ref _=>cases r; rfl
 | ty _=>cases r; rfl
theorem RelV.inj{x y:V}{u:Value}(r:RelV x u)(q:RelV y u):x=y:=Option.some.inj (r.abs.symm.trans q.abs)
theorem Vals.inj:∀{xs ys:List V} {us:List Value},Vals xs us->Vals ys us->xs=ys
 | _,_,_,.nil,.nil=>rfl
 | _,_,_,.cons r t,.cons r' t'=>by rw [r.inj r',Vals.inj t t']
section
variable{X:Cx}{pins:List (Addr×Obj)}{σ:St}{H:Hp}{s:Shared}{a:Addr}{xs ys:List V}
theorem aZ.of{K:PySem.W.Frag}(h:H a=some (.lst xs)):aZ K H a xs:=.inl (.inl h)
theorem aH.of{K:PySem.W.Frag}(h:H a=some (.tup xs)):aH K H a xs:=.inl (.inl h)
theorem Inv.list(I:Inv X pins σ H s)(h:aZ X.K H a xs):∃its:List Value,Vals xs its/\PlainL s.heap a its.toArray/\xs.length<=sizeLine:=by
 rcases h with h | ⟨o,its,n,hk,hc,hd,hs,hz,r⟩
 ·obtain⟨z,its,n,r,e⟩:=h.ok I.hok
  exact⟨its,r,⟨_,n,e,rfl,rfl,rfl⟩,z⟩
 ·refine⟨its.toList,r,⟨o,n,I.jK a o hk,hc,hd,by simpa using hs⟩,?_⟩
  have e:=r.length
  simp only [Array.length_toList]at e
  omega
theorem Inv.tuple(I:Inv X pins σ H s)(h:aH X.K H a xs):∃its:List Value,Vals xs its/\IsTup s.heap a its.toArray/\xs.length<=sizeLine:=by
 rcases h with h | ⟨o,its,n,hk,hc,hs,hz,r⟩
 ·obtain⟨z,its,r,p⟩:=h.ok I.hok
  exact⟨its,r,p.tup,z⟩
 ·refine⟨its.toList,r,⟨o,I.jK a o hk,hc,n,by simpa using hs⟩,?_⟩
  have e:=r.length
  simp only [Array.length_toList]at e
  omega
theorem Inv.B6(I:Inv X pins σ H s)(h:aZ X.K H a xs)(h':aZ X.K H a ys):xs=ys:=by
 obtain⟨its,r,⟨o,n,e,_,_,d⟩,_⟩:=I.list h
 obtain⟨its',r',⟨o',n',e',_,_,d'⟩,_⟩:=I.list h'
 rw [e]at e'; cases e'
 rw [d]at d'
 injection d' with d1 _
 have:its=its':=by simpa using congrArg Array.toList d1
 subst this
 exact r.inj r'
theorem Inv.ib(I:Inv X pins σ H s)(h:aH X.K H a xs)(h':aH X.K H a ys):xs=ys:=by
 obtain⟨its,r,⟨o,e,_,n,d⟩,_⟩:=I.tuple h
 obtain⟨its',r',⟨o',e',_,n',d'⟩,_⟩:=I.tuple h'
 rw [e]at e'; cases e'
 rw [d]at d'
 injection d' with d1 _
 have:its=its':=by simpa using congrArg Array.toList d1
 subst this
 exact r.inj r'
end
abbrev Cx.wish(X:Cx)(E:Value->Shared->Prop):Cx:={X with xe:=E}
abbrev Cx.y6(X:Cx):Cx:=X.wish λ_ _=>False
theorem Cx.Ok.wish{X:Cx}(ok:X.Ok)(E:Value->Shared->Prop):(X.wish E).Ok :=
 ⟨ok.mod,ok.kind,ok.glob,ok.blt,ok.above,ok.inj,ok.has,ok.cab,ok.hd,ok.frames,ok.IA,ok.AM,ok.bs,ok.A7,ok.vv,ok.pI,ok.kq,ok.Er⟩
theorem Cx.Ok.c9{X:Cx}{E:Value->Shared->Prop}(ok:(X.wish E).Ok):X.Ok :=
 ⟨ok.mod,ok.kind,ok.glob,ok.blt,ok.above,ok.inj,ok.has,ok.cab,ok.hd,ok.frames,ok.IA,ok.AM,ok.bs,ok.A7,ok.vv,ok.pI,ok.kq,ok.Er⟩
section
variable{X:Cx}{pins:List (Addr×Obj)}{σ:St}{H:Hp}{s:Shared}{E:Value->Shared->Prop}
theorem Inv.wish(I:Inv X pins σ H s)(E:Value->Shared->Prop):Inv (X.wish E) pins σ H s:=⟨I.ok.wish E,I.os,I.bare,I.base,I.loc,I.cell,I.free,I.fM,I.pin,I.hok,I.len⟩
theorem Inv.c9(I:Inv (X.wish E) pins σ H s):Inv X pins σ H s:=⟨I.ok.c9,I.os,I.bare,I.base,I.loc,I.cell,I.free,I.fM,I.pin,I.hok,I.len⟩
theorem SP.c9{D:Ends}{f:Flow}{s':Shared}(h:SP (X.wish E) pins D f s'):SP X pins D f s':=by
 cases f with
 | next=>obtain⟨σ',H',I,q⟩:=h; exact⟨σ',H',I.c9,q⟩
 | brk=>obtain⟨σ',H',I,q⟩:=h; exact⟨σ',H',I.c9,q⟩
 | cont=>obtain⟨σ',H',I,q⟩:=h; exact⟨σ',H',I.c9,q⟩
 | ret u=>obtain⟨v,σ',H',I,r,q⟩:=h; exact⟨v,σ',H',I.c9,r,q⟩
theorem PE.y6{e:Expr}{t:TE}(h:PE X.y6 e t):PE X e t:=λpins s σ H Q I hw =>
 wpAny_mono (h pins s σ H Q (I.wish _) hw) (λ_ _ ⟨v,H',I',r,q⟩=>⟨v,H',I'.c9,r,q⟩) λ_ _ z=>False.elim z
theorem nN.y6{st:List Stmt}{t:TS}(h:nN X.y6 st t):nN X st t:=λpins s σ H D I hw =>
 wpAny_mono (h pins s σ H D (I.wish _) hw) (λ_ _ q=>q.c9) λ_ _ z=>False.elim z
end
section
variable{X:Cx}{st:Stmt}{rest:List Stmt}{t u:TS}{e:Expr}{te:TE}{pos:Pos}
def Ef:TS:=λD σ H=>D.nx σ H
def EG(t u:TS):TS:=λD σ H=>t {D with nx:=u D} σ H
theorem b9:nN X [] Ef:=λ_ _ σ H _ I h=>wpAny_execs_nil ⟨σ,H,I,h⟩
theorem aq(h1:PS X st t)(h2:nN X rest u):nN X (st::rest) (EG t u):=by
 intro pins s σ H D I h
 refine wpAny_execs_cons (b_ (h1 pins s σ H {D with nx:=u D} I h) λf s1 q=>?_)
 cases f with
 | next =>
  obtain⟨σ',H',I',q⟩:=q
  exact h2 pins s1 σ' H' D I' q
 | ret v=>exact q
 | brk=>exact q
 | cont=>exact q
theorem bK(h1:PS X st t):nN X [st] t:=by
 intro pins s σ H D I h
 refine wpAny_execs_cons (b_ (h1 pins s σ H D I h) λf s1 q=>?_)
 cases f with
 | next=>exact wpAny_execs_nil q
 | ret v=>exact q
 | brk=>exact q
 | cont=>exact q
theorem Inv.quiet{pins:List (Addr×Obj)}{σ:St}{H:Hp}{s:Shared}(I:Inv X pins σ H s):interactive X.env=false:=by simp [interactive,I.ok.kind]
def KQ(te:TE):TS:=λD σ H=>te σ H λ_ H1=>D.nx σ H1
theorem fG(he:PE X e te)(hs:swapsWith e none pos.line X.env=pure false:=by rfl):PS X (.Expr e pos) (KQ te):=by
 intro pins s σ H D I h
 exact wpAny_Expr_any (b_ (he pins s σ H _ I h) λv s1 ⟨x,H1,I1,r1,q1⟩=>⟨σ,H1,I1,q1⟩) I.quiet hs
def Bn(te:TE):TS:=λD σ H=>te σ H D.rt
theorem D5(he:PE X e te):PS X (.Return (some e) pos) (Bn te):=by
 intro pins s σ H D I h
 exact wpAny_Return_some (b_ (he pins s σ H _ I h) λv s1 ⟨x,H1,I1,r1,q1⟩=>⟨x,σ,H1,I1,r1,q1⟩)
def HV(c:TT)(t u:TS):TS:=λD σ H=>c σ H λb H1=>if b=true then t D σ H1 else u D σ H1
theorem dy{c:Expr}{a b:List Stmt}{tc:TT}(hc:PT X c tc)(ha:nN X a t)(hb:nN X b u):PS X (.If c a b pos) (HV tc t u):=by
 intro pins s σ H D I h
 refine wpAny_If (b_ (hc pins s σ H _ I h) λd s1 ⟨H1,I1,q1⟩=>?_)
 cases d with
 | true=>exact ha pins s1 σ H1 D I1 q1
 | false=>exact hb pins s1 σ H1 D I1 q1
end
abbrev TG:=V->St->Hp->(St->Hp->Prop)->Prop
abbrev IG:=List V->St->Hp->(St->Hp->Prop)->Prop
def PG(X:Cx)(target:Expr)(t:TG):Prop :=
 ∀(pins:List (Addr×Obj)) (s:Shared) (σ:St) (H:Hp) (v:V) (u:Value) (Q:St->Hp->Prop),Inv X pins σ H s->RelV v u->t v σ H Q->
  wpAny (model X.prog X.w) X.A (assign target X.env u) (λ_ s'=>∃σ' H',Inv X pins σ' H' s'/\Q σ' H') X.xe s
def Np(X:Cx)(ts:List Expr)(t:IG):Prop :=
 ∀(pins:List (Addr×Obj)) (s:Shared) (σ:St) (H:Hp) (vs:List V) (us:List Value) (Q:St->Hp->Prop),Inv X pins σ H s->Vals vs us->t vs σ H Q->
  wpAny (model X.prog X.w) X.A (assignInOrder ((assignEach ts X.env).map (·.2)) us) (λ_ s'=>∃σ' H',Inv X pins σ' H' s'/\Q σ' H') X.xe s
abbrev J4:=V->V->V->Hp->(Hp->Prop)->Prop
def KU(X:Cx)(t:J4):Prop :=
 ∀(pins:List (Addr×Obj)) (s:Shared) (σ:St) (H:Hp) (o i v:V) (ov iv u:Value) (Q:Hp->Prop),Inv X pins σ H s->RelV o ov->RelV i iv->RelV v u->t o i v H Q->
  wpAny (model X.prog X.w) X.A (setItem ov iv u) (λ_ s'=>∃H',Inv X pins σ H' s'/\Q H') X.xe s
section
variable{X:Cx}{pos:Pos}
def bz(i:Nat):TG:=λv σ H Q=>Q (σ.set i (some v)) H
theorem bS{i:Nat}{x:Str}(hN:X.N.Nodup)(hi:X.N[i]? = some x)(hx:Loc X.env.scope x)(hf:X.fn x=true\/X.env.scope.names.lookup x=some .local:=by first | exact .inl rfl | exact .inr rfl | assumption):PG X (.Name x pos) (bz i):=by
 intro pins s σ H v u Q I r h
 exact wpAny_assign_Name (iq I hN hi hx r (λs' I'=>⟨_,H,I',h⟩) hf)
def iU:IG:=λvs σ H Q=>vs=[]/\Q σ H
def bP(t:TG)(u:IG):IG:=λvs σ H Q=>∃v r,vs=v::r/\t v σ H λσ' H'=>u r σ' H' Q
theorem bT:Np X [] iU:=by
 intro pins s σ H vs us Q I r h
 obtain⟨e,h⟩:=h
 subst e
 cases r
 exact assignInOrder_nil ⟨σ,H,I,h⟩
theorem aD{e:Expr}{es:List Expr}{t:TG}{u:IG}(h1:PG X e t)(h2:Np X es u)
  (hs:(assignEach (e::es) X.env).map (·.2)=assign e X.env::(assignEach es X.env).map (·.2):=by rfl):Np X (e::es) (bP t u):=by
 intro pins s σ H vs us Q I r h
 obtain⟨v,vr,e1,h⟩:=h
 subst e1
 cases r with
 | cons r rr =>
  rw [hs]
  refine assignInOrder_cons (b_ (h1 pins s σ H _ _ _ I r h) λ_ s1 ⟨Em,H1,I1,q1⟩=>?_)
  exact h2 pins s1 Em H1 _ _ Q I1 rr q1
def iT(K:PySem.W.Frag)(n:Nat)(t:IG):TG:=λv σ H Q=>∃a xs,v=.ref a/\aH K H a xs/\xs.length=n/\t xs σ H Q
theorem cD{es:List Expr}{k:Nat}{t:IG}{n:Nat}(hc:X.calm=true)(h:Np X es t)
  (hn:(assignEach es X.env).length=n:=by rfl) (hst:(assignEach es X.env).findIdx? (·.1)=none:=by rfl):PG X (.Tuple es k pos) (iT X.K n t):=by
 intro pins s σ H v u Q I r hw
 obtain⟨a,xs,e1,hq,hl,hw⟩:=hw
 subst e1
 cases r
 obtain⟨its,rv,ht,hz⟩:=I.tuple hq
 refine assign_Tuple_tuple (I.ok.hd hc) ht (by simp [hn,←hl,rv.length]) hst λh' hx=>?_
 have I1:Inv X pins σ H {s with heap:=h'}:=I.kept (t':=s.toks) λb o e=>hx b o (Nat.ne_of_lt (Uw e)) e
 exact h pins _ σ H xs _ Q I1 (by simpa using rv) hw
def OU(to ti:TE)(t:J4):TG:=λv σ H Q=>to σ H λo H1=>ti σ H1 λi H2=>t o i v H2 λH3=>Q σ H3
theorem DH{o i:Expr}{to ti:TE}{t:J4}(ho:PE X o to)(hi:PE X i ti)(hs:KU X t)
  (ha:∀v,assign (.Subscript o i pos) X.env v=(do
   let ov←holding [v] (eval o X.env)
   let iv←holding [v,ov] (eval i X.env)
   standAt pos
   holding [v,ov,iv] (setItem ov iv v)
   release [v,ov,iv] []):=by intro _; rfl):PG X (.Subscript o i pos) (OU to ti t):=by
 intro pins s σ H v u Q I r h
 rw [ha]
 refine Ut (wpAny_holding (b_ (ho pins s σ H _ I h) λov s1 ⟨x,H1,I1,r1,q1⟩=>?_))
 refine Ut (wpAny_holding (b_ (hi pins s1 σ H1 _ I1 q1) λiv s2 ⟨y,H2,I2,r2,q2⟩=>?_))
 refine Ut (wpAny_standAt (Ut (wpAny_holding (b_ (hs pins s2 σ H2 x y v ov iv u _ I2 r1 r2 r q2) λ_ s3 ⟨H3,I3,q3⟩=>?_))))
 exact wpAny_release ⟨σ,H3,I3,q3⟩
def Dz(te:TE)(g:TG):TS:=λD σ H=>te σ H λx H1=>g x σ H1 D.nx
theorem oO{tg e:Expr}{te:TE}{g:TG}(he:PE X e te)(hg:PG X tg g)(hs:swapsWithSole [tg] e pos.line X.env=pure false:=by rfl)(hw:swappedStores [tg] e X.env=pure none:=by rfl)
  (h1:(assignEach [tg] X.env).map (·.2)=[assign tg X.env]:=by rfl):PS X (.Assign [tg] e pos) (Dz te g):=by
 intro pins s σ H D I h
 refine wpAny_Assign_stores (b_ (he pins s σ H _ I h) λv s1 ⟨x,H1,I1,r1,q1⟩=>?_) hs hw
 rw [h1]
 exact b_ (hg pins s1 σ H1 x v _ I1 r1 q1) λ_ s2 q=>q
theorem aL{i:Nat}{x:Str}{e:Expr}{te:TE}{pos':Pos}(hN:X.N.Nodup)(hi:X.N[i]? = some x)(hx:Loc X.env.scope x)(he:PE X e te)(hs:swapsWith e (some (.Name x pos')) pos.line X.env=pure false:=by rfl)(hf:X.fn x=true\/X.env.scope.names.lookup x=some .local:=by first | exact .inl rfl | exact .inr rfl | assumption) :
  PS X (.Assign [.Name x pos'] e pos) (Dz te (bz i)):=by
 intro pins s σ H D I h
 refine wpAny_Assign_Name (b_ (he pins s σ H _ I h) λv s1 ⟨y,H1,I1,r1,q1⟩=>?_) hs
 exact iq I1 hN hi hx r1 (λs2 I2=>⟨_,H1,I2,q1⟩) hf
def N9(i j:Nat)(ta:TA):TS:=λD σ H=>ta σ H λvs H1=>∃v w,vs=[v,w]/\D.nx ((σ.set i (some v)).set j (some w)) H1
theorem IM{i j:Nat}{x y:Str}{a b:Expr}{ta:TA}{px py pt:Pos}{kt k2 Oa}(hc:X.calm=true)(hN:X.N.Nodup)(hi:X.N[i]? = some x)(hj:X.N[j]? = some y)(hij:i≠j)
  (hx:X.env.scope.names.lookup x=some .local) (hy:X.env.scope.names.lookup y=some .local) (ha:PA X [a,b] ta)
  (hw:swappedStores [.Tuple [.Name x px,.Name y py] kt pt] (.Tuple [a,b] k2 Oa) X.env=pure (some [x,y]))
  (hs:swapsWithSole [.Tuple [.Name x px,.Name y py] kt pt] (.Tuple [a,b] k2 Oa) pos.line X.env=pure false:=by rfl) :
  PS X (.Assign [.Tuple [.Name x px,.Name y py] kt pt] (.Tuple [a,b] k2 Oa) pos) (N9 i j ta):=by
 intro pins s σ H D I h
 rw [exec_Assign_arm]
 refine Ut (wpAny_standAt ?_)
 rw [hs]
 refine Ut (Uu ?_)
 rw [if_neg (by decide)]
 refine Ut (Tuple_ (b_ (ha _ pins s σ H _ I h) λus s1 ⟨vs,H1,I1,r1,q1⟩=>?_))
 obtain⟨v,w,e1,q1⟩:=q1
 subst e1
 obtain⟨u1,u2,rfl,rv,wK⟩ :∃u1 u2,us=[u1,u2]/\RelV v u1/\RelV w u2:=by
  cases r1 with
  | cons p q =>
   cases q with
   | cons p' q' =>
    cases q'
    exact⟨_,_,rfl,p,p'⟩
 refine wpAny_newObj_type ?_ (by show 2<=sizeLine; decide)
 have I2:Inv X pins σ H1 {s1 with heap:=s1.heap.push {cls:=.type "tuple",data:=.seq [u1,u2].toArray}}:=I1.kept (t':=s1.toks) λb o e=>Uv _ e
 rw [hw]
 refine Ut (Uu ?_)
 show wpAny (model X.prog X.w) X.A (do rule "assign.swapped-stores"; let items←unpackItems (.ref s1.heap.objs.size) 2 none; assignInOrder [λv=>bindName X.env y v,λv=>bindName X.env x v] items.reverse; pure Flow.next) _ _ _
 refine Ut (wpAny_rule (Ut (unpackItems_tuple (items:=#[u1,u2]) (I.ok.hd hc) (IsTup.new s1.heap _) λh' hx'=>?_)))
 have I3:=I2.kept (h':=h') (t':=s1.toks) λb o e=>hx' b o (Nat.ne_of_lt (Uw e)) e
 show wpAny _ _ (assignInOrder [λv=>bindName X.env y v,λv=>bindName X.env x v] [u2,u1] >>= λ_=>pure Flow.next) _ _ _
 refine Ut (assignInOrder_cons (wpAny_bindName (iq I3 hN hj (.inl hy) wK (λs2 I4=>?_) (.inr hy))))
 refine assignInOrder_cons (wpAny_bindName (iq I4 hN hi (.inl hx) rv (λs3 I5=>assignInOrder_nil (Uu ?_)) (.inr hx)))
 rw [List.set_comm _ _ (Ne.symm hij)]at I5
 exact⟨_,H1,I5,q1⟩
end
section
variable{X:Cx}{pos:Pos}
def Kf(c:TT)(tb:TS):TS:=λD σ H=>∃W:Nat->St->Hp->Prop,(∃m,W m σ H)/\∀m σ H,W m σ H->
 c σ H λb H1=>if b=true then∃N:St->Hp->Prop,(∀σ' H',N σ' H'->∃m',m'<m/\W m' σ' H')/\tb {D with nx:=N,ct:=N,bk:=D.nx} σ H1 else D.nx σ H1
theorem BQ{c:Expr}{body:List Stmt}{tc:TT}{tb:TS}(hp:PassesOwn (model X.prog X.w) X.A X.env X.xe)(hc:PT X c tc)(hb:nN X body tb):PS X (.While c body [] pos) (Kf tc tb):=by
 intro pins s σ H D I h
 obtain⟨W,⟨m0,w0⟩,turn⟩:=h
 refine wpAny_While (codeAny_whileLoop (λn s'=>∃σ' H',Inv X pins σ' H' s'/\W n σ' H') ?_ m0 ⟨σ,H,I,w0⟩)
 rintro n s1 ⟨Em,H1,I1,w1⟩
 refine wpAny_passesOwn hp (b_ (hc pins s1 Em H1 _ I1 (turn n Em H1 w1)) λb s2 ⟨H2,I2,q2⟩=>?_)
 cases b with
 | true =>
  obtain⟨N,hN,q2⟩:=q2
  rw [if_pos rfl]
  refine wpAny_passesOwn hp (b_ (hb pins s2 Em H2 _ I2 q2) λf s3 q3=>?_)
  cases f with
  | next =>
   obtain⟨BM,H3,I3,n3⟩:=q3
   obtain⟨m',hm,w3⟩:=hN BM H3 n3
   exact⟨m',hm,BM,H3,I3,w3⟩
  | cont =>
   obtain⟨BM,H3,I3,n3⟩:=q3
   obtain⟨m',hm,w3⟩:=hN BM H3 n3
   exact⟨m',hm,BM,H3,I3,w3⟩
  | brk=>exact q3
  | ret v=>exact q3
 | false =>
  rw [if_neg UM]
  exact wpAny_execs_nil ⟨Em,H2,I2,q2⟩
end
structure It where
 go:Nat->Hp->Prop
 EV:Nat->Hp->V->Hp->Prop
 stop:Nat->Hp->Prop
def dB(X:Cx)(pins:List (Addr×Obj))(H:Hp)(b:Addr):Prop :=
 H b=none/\b≠X.env.locals/\b∉X.fs/\(b∈X.ex\/X.s₀.heap.objs.size<=b)/\(∀x c,X.env.cells.lookup x=some c->c≠b)/\∀p∈X.pn++pins,p.1≠b
theorem Inv.l7{X:Cx}{pins:List (Addr×Obj)}{σ:St}{H H':Hp}{s:Shared}{b:Addr}(I:Inv X pins σ H s)(hb:s.heap.objs.size<=b)(hn:H' b=none):dB X pins H' b:=by
 refine⟨hn,Nat.ne_of_gt (UH I.lt hb),I.NV hb,.inr (Uz I.sz hb),λx c e z=>?_,λp hp z=>?_⟩
 ·obtain⟨v,q⟩:=I.cell x c e
  exact absurd (UH q.lt (by rw [z]; exact hb)) (Nat.lt_irrefl _)
 ·exact absurd (UH (Uw (I.pin p hp).1) (by rw [z]; exact hb)) (Nat.lt_irrefl _)
structure Turn(P:Program)(w:World)(K:PySem.W.Frag)(tg:Expr)(J:It)(fp:List Addr)(it:Addr)(tn:Nat->Heap->Prop):Prop where
 mem:it∈fp
 obj:∀i h,tn i h->∀b∈fp,∃o,h.get? b=some o/\∀v,o.data≠ .cell v
 keep:∀i h h',tn i h->(∀b∈fp,∀o,h.get? b=some o->h'.get? b=some o)->tn i h'
 item:∀(X:Cx),X.prog=P->X.w=w->X.K=K->X.calm=true->∀(i:Nat) (pins:List (Addr×Obj)) (s:Shared) (σ:St) (H:Hp) (E:Value->Shared->Prop),Inv X pins σ H s->(∀b∈fp,dB X pins H b)->tn i s.heap->J.go i H->
  wpAny (model P w) X.A (pyNext (.ref it)) (λr s1=>∃u,r=some u/\
   wpAny (model P w) X.A (letOwnedTupleGo tg (.ref it) u) (λ_ s2=>∃x H',Inv X pins σ H' s2/\RelV x u/\J.EV i H x H'/\tn (i+1) s2.heap/\∀b∈fp,H' b=none) E s1) E s
 done:∀(X:Cx),X.prog=P->X.w=w->X.K=K->X.calm=true->∀(i:Nat) (pins:List (Addr×Obj)) (s:Shared) (σ:St) (H:Hp) (E:Value->Shared->Prop),Inv X pins σ H s->(∀b∈fp,dB X pins H b)->tn i s.heap->J.stop i H->
  wpAny (model P w) X.A (pyNext (.ref it)) (λr s1=>r=none/\Inv X pins σ H s1) E s
 self:∀(A:Around) (i:Nat) (s:Shared) (Q:Value->Shared->Prop) (E:Value->Shared->Prop),tn i s.heap->Q (.ref it) s->wpAny (model P w) A (pyIter (.ref it)) Q E s
abbrev TI:=St->Hp->(It->Hp->Prop)->Prop
def PIE(X:Cx)(pins:List (Addr×Obj))(σ:St)(tg:Expr)(R:It->Hp->Prop)(itv:Value)(s2:Shared):Prop :=
 ∃(it:Addr) (fp:List Addr) (tn:Nat->Heap->Prop) (J:It) (H':Hp),itv=.ref it/\Inv X pins σ H' s2/\Turn X.prog X.w X.K tg J fp it tn/\tn 0 s2.heap/\(∀b∈fp,dB X pins H' b)/\R J H'
def PI(X:Cx)(tg iter:Expr)(wi:TI):Prop :=
 ∀(pins:List (Addr×Obj)) (s:Shared) (σ:St) (H:Hp) (R:It->Hp->Prop),Inv X pins σ H s->wi σ H R->
  wpAny (model X.prog X.w) X.A (eval iter X.env) (λv s1=>wpAny (model X.prog X.w) X.A (pyIter v) (PIE X pins σ tg R) X.xe s1) X.xe s
theorem D4{M:Model}{A:Around}{E:Value->Shared->Prop}{s:Shared}{tg:Expr}{it:Addr}{u:Value}{o:Obj}{n:String}{vs:Array Value}{Q:Unit->Shared->Prop}(ho:s.heap.get? it=some o)(hc:o.cls=.type n)(hd:o.data=.fields vs)
  (hn:["enumerate","zip","dict_itemiterator","dict_reverseitemiterator","odict_iterator","itertools.zip_longest","itertools.pairwise"].contains n=false) (hQ:Q () s):wpAny M A (letOwnedTupleGo tg (.ref it) u) Q E s:=by
 unfold letOwnedTupleGo
 cases tg <;> first
  | exact Uu hQ
  | (cases u <;> first
    | exact Uu hQ
    | (refine Ut (wpAny_load ho ?_)
       rw [hc,hd]
       show wpAny M A (if(["enumerate","zip","dict_itemiterator","dict_reverseitemiterator","odict_iterator","itertools.zip_longest","itertools.pairwise"].contains n&&vs[0]? == some (rawInt _))=true then _ else _) Q E s
       rw [if_neg (by intro h; rw [hn,Bool.false_and]at h; cases h)]
       exact Uu hQ))
def Nt(K:PySem.W.Frag)(a:Addr):It :=
 ⟨λi H=>∃xs x,aZ K H a xs/\xs[i]? = some x,λi H x H'=>H'=H/\∀xs,aZ K H a xs->xs[i]? = some x,λi H=>∃xs,aZ K H a xs/\xs.length<=i⟩
def F0(K:PySem.W.Frag)(a:Addr):It :=
 ⟨λi H=>∃xs x,aH K H a xs/\xs[i]? = some x,λi H x H'=>H'=H/\∀xs,aH K H a xs->xs[i]? = some x,λi H=>∃xs,aH K H a xs/\xs.length<=i⟩
def Js(lo:Int)(n:Nat):It:=⟨λi _=>i<n,λi H x H'=>H'=H/\x=.int (lo+i),λi _=>n<=i⟩
theorem zI{P:Program}{w:World}{K:PySem.W.Frag}{tg:Expr}(a it:Addr):Turn P w K tg (Nt K a) [it] it (λi h=>h.IsListIter it a i) where
 mem:=by simp
 obj:=λi h st b hb=>by
  have e:b=it:=by simpa using hb
  subst e
  obtain⟨o,e,c,d⟩:=st
  exact⟨o,e,λv z=>by rw [d]at z; cases z⟩
 keep:=λi h h' st k=>st.at λo e=>k it (by simp) o e
 item:=by
  intro X hP hw hK hc i pins s σ H E I hf st hg
  subst hP hw hK
  obtain⟨xs,x,hq,hx⟩:=hg
  obtain⟨its,rv,p,hz⟩:=I.list hq
  obtain⟨u,hu,ru⟩:=rv.get hx
  obtain⟨f0,f1,f2,f3,f4,f5⟩:=hf it (by simp)
  refine wpAny_pyNext_list_item st p.isList (x:=u) (by simpa using hu) λh' st' sb=>?_
  have I1:Inv X pins σ H {s with heap:=h'}:=I.turned (t':=s.toks) (λb o hb e=>(sb.2 b hb).trans e) f0 f1 f3 f4 f5
  obtain⟨o,e,c,d⟩:=id st'
  exact⟨u,rfl,D4 (s:={s with heap:=h'}) e c d (by decide) ⟨x,H,I1,ru,⟨rfl,λys hy=>by rw [I.B6 hy hq]; exact hx⟩,st',λb hb=>(hf b hb).1⟩⟩
 done:=by
  intro X hP hw hK hc i pins s σ H E I hf st hg
  subst hP hw hK
  obtain⟨xs,hq,hx⟩:=hg
  obtain⟨its,rv,p,hz⟩:=I.list hq
  obtain⟨f0,f1,f2,f3,f4,f5⟩:=hf it (by simp)
  have hl:=rv.length
  exact wpAny_pyNext_list_end (I.ok.hd hc) st p.isList (by simp; omega) λh' eb=>⟨rfl,I.turned (t':=s.toks) (λb o hb e=>eb b o hb e) f0 f1 f3 f4 f5⟩
 self:=λ_ _ _ _ _ st h=>wpAny_pyIter_listiter st h
theorem xn{P:Program}{w:World}{K:PySem.W.Frag}{tg:Expr}(a it:Addr):Turn P w K tg (F0 K a) [it] it (λi h=>h.IsTupleIter it a i) where
 mem:=by simp
 obj:=λi h st b hb=>by
  have e:b=it:=by simpa using hb
  subst e
  obtain⟨o,e,c,d⟩:=st
  exact⟨o,e,λv z=>by rw [d]at z; cases z⟩
 keep:=λi h h' st k=>st.at λo e=>k it (by simp) o e
 item:=by
  intro X hP hw hK hc i pins s σ H E I hf st hg
  subst hP hw hK
  obtain⟨xs,x,hq,hx⟩:=hg
  obtain⟨its,rv,p,hz⟩:=I.tuple hq
  obtain⟨u,hu,ru⟩:=rv.get hx
  obtain⟨f0,f1,f2,f3,f4,f5⟩:=hf it (by simp)
  refine wpAny_pyNext_tuple_item st (show s.heap.IsTuple a its.toArray from p) (x:=u) (by simpa using hu) λh' st' sb=>?_
  have I1:Inv X pins σ H {s with heap:=h'}:=I.turned (t':=s.toks) (λb o hb e=>(sb.2 b hb).trans e) f0 f1 f3 f4 f5
  obtain⟨o,e,c,d⟩:=id st'
  exact⟨u,rfl,D4 (s:={s with heap:=h'}) e c d (by decide) ⟨x,H,I1,ru,⟨rfl,λys hy=>by rw [I.ib hy hq]; exact hx⟩,st',λb hb=>(hf b hb).1⟩⟩
 done:=by
  intro X hP hw hK hc i pins s σ H E I hf st hg
  subst hP hw hK
  obtain⟨xs,hq,hx⟩:=hg
  obtain⟨its,rv,p,hz⟩:=I.tuple hq
  obtain⟨f0,f1,f2,f3,f4,f5⟩:=hf it (by simp)
  have hl:=rv.length
  exact wpAny_pyNext_tuple_end (I.ok.hd hc) st (show s.heap.IsTuple a its.toArray from p) (by simp; omega) λh' eb=>⟨rfl,I.turned (t':=s.toks) (λb o hb e=>eb b o hb e) f0 f1 f3 f4 f5⟩
 self:=λ_ _ _ _ _ st h=>wpAny_pyIter_tupleiter st h
theorem xJ{P:Program}{w:World}{K:PySem.W.Frag}{tg:Expr}(it:Addr)(lo:Int)(n:Nat):Turn P w K tg (Js lo n) [it] it (λi h=>IsRangeIter h it (lo+(i:Nat)*1) ((n:Int)-(i:Nat)) 1) where
 mem:=by simp
 obj:=λi h st b hb=>by
  have e:b=it:=by simpa using hb
  subst e
  exact⟨_,st,λv z=>by
   have z':Data.fields _=Data.cell v:=z
   cases z'⟩
 keep:=λi h h' st k=>k it (by simp) _ st
 item:=by
  intro X hP hw hK hc i pins s σ H E I hf st hg
  subst hP hw hK
  obtain⟨f0,f1,f2,f3,f4,f5⟩:=hf it (by simp)
  have W:=Walks.range (prog:=X.prog) (w:=X.w) (I.ok.hd hc) it lo 1 n
  refine W.item i s _ _ hg st λv h' tk hv st' kk=>?_
  obtain⟨t,rfl⟩:=hv
  have I1:Inv X pins σ H {s with heap:=h',toks:=tk}:=I.turned (λb o hb e=>kk b o (by simpa using hb) e) f0 f1 f3 f4 f5
  refine⟨_,rfl,D4 (s:={s with heap:=h',toks:=tk}) (n:="range_iterator") st' rfl rfl (by decide) ⟨.int (lo+i),H,I1,⟨t,?_⟩,⟨rfl,rfl⟩,st',λb hb=>(hf b hb).1⟩⟩
  rw [Int.mul_one]
 done:=by
  intro X hP hw hK hc i pins s σ H E I hf st hg
  subst hP hw hK
  obtain⟨f0,f1,f2,f3,f4,f5⟩:=hf it (by simp)
  exact wpAny_pyNext_range_end (I.ok.hd hc) st (by have:n<=i:=hg; omega) λh' eb=>⟨rfl,I.turned (t':=s.toks) (λb o hb e=>eb b o hb e) f0 f1 f3 f4 f5⟩
 self:=λ_ _ _ _ _ st h=>wpAny_pyIter_rangeiter st h
section
variable{X:Cx}{tg:Expr}
def MK(K:PySem.W.Frag)(tl:TE):TI:=λσ H R=>tl σ H λx H1=>∃a,x=.ref a/\(∃xs,aZ K H1 a xs)/\R (Nt K a) H1
def FI(K:PySem.W.Frag)(tl:TE):TI:=λσ H R=>tl σ H λx H1=>∃a,x=.ref a/\(∃xs,aH K H1 a xs)/\R (F0 K a) H1
theorem fj{l:Expr}{tl:TE}(hl:PE X l tl):PI X tg l (MK X.K tl):=by
 intro pins s σ H R I h
 refine b_ (hl pins s σ H _ I h) λv s1 ⟨x,H1,I1,r1,q1⟩=>?_
 obtain⟨a,e,⟨xs,hq⟩,q⟩:=q1
 subst e
 cases r1
 obtain⟨its,rv,p,hz⟩:=I1.list hq
 refine wpAny_pyIter_list p.isList ?_
 refine⟨s1.heap.objs.size,[s1.heap.objs.size],_,_,H1,rfl,I1.kept (t':=s1.toks) λb o e=>Uv _ e,zI a _,⟨_,Ux _ rfl,rfl,rfl⟩,λb hb=>?_,q⟩
 have e:b=s1.heap.objs.size:=by simpa using hb
 subst e
 exact I1.l7 (Uy _) (I1.hok.fresh (Uy _))
theorem cJ{l:Expr}{tl:TE}(hl:PE X l tl):PI X tg l (FI X.K tl):=by
 intro pins s σ H R I h
 refine b_ (hl pins s σ H _ I h) λv s1 ⟨x,H1,I1,r1,q1⟩=>?_
 obtain⟨a,e,⟨xs,hq⟩,q⟩:=q1
 subst e
 cases r1
 obtain⟨its,rv,p,hz⟩:=I1.tuple hq
 refine wpAny_pyIter_tuple (show s1.heap.IsTuple a its.toArray from p) ?_
 refine⟨s1.heap.objs.size,[s1.heap.objs.size],_,_,H1,rfl,I1.kept (t':=s1.toks) λb o e=>Uv _ e,xn a _,⟨_,Ux _ rfl,rfl,rfl⟩,λb hb=>?_,q⟩
 have e:b=s1.heap.objs.size:=by simpa using hb
 subst e
 exact I1.l7 (Uy _) (I1.hok.fresh (Uy _))
theorem DD{pins:List (Addr×Obj)}{σ:St}{H:Hp}{s:Shared}{R:It->Hp->Prop}{E:Value->Shared->Prop}{lo hi:Int}{t u v:Tok}{tk:Nat}(I:Inv X pins σ H s)(h1:-(2 ^ 62)<=lo)(h2:lo<2 ^ 62)(h3:-(2 ^ 62)<=hi)(h4:hi<2 ^ 62)
  (q:R (Js lo (hi-lo).toNat) H):wpAny (model X.prog X.w) X.A (pyIter (.ref s.heap.objs.size)) (PIE X pins σ tg R) E {s with heap:=s.heap.push {cls:=.type "range",data:=.fields #[.int lo t,.int hi u,.int 1 v]},toks:=tk}:=by
 refine wpAny_pyIter_range (IsRange.new ..) (small_one h1 h2 h3 h4) ?_
 have I1:Inv X pins σ H {s with heap:=s.heap.push {cls:=.type "range",data:=.fields #[.int lo t,.int hi u,.int 1 v]},toks:=tk}:=I.kept λb o e=>Uv _ e
 refine⟨(s.heap.push {cls:=.type "range",data:=.fields #[.int lo t,.int hi u,.int 1 v]}).objs.size,[(s.heap.push {cls:=.type "range",data:=.fields #[.int lo t,.int hi u,.int 1 v]}).objs.size],_,_,H,rfl,
  I1.kept (t':=tk) λb o e=>Uv _ e,xJ _ lo (hi-lo).toNat,?_,λb hb=>?_,q⟩
 ·have e1:lo+((0:Nat):Int)*1=lo:=by simp
  have e2:(((hi-lo).toNat:Nat):Int)-((0:Nat):Int)=Builtin.Range.rangeSize lo hi 1:=by rw [rangeSize_one]; split <;> omega
  show IsRangeIter _ _ (lo+((0:Nat):Int)*1) ((((hi-lo).toNat:Nat):Int)-((0:Nat):Int)) 1
  rw [e1,e2]
  exact Ux _ rfl
 ·have e:b=(s.heap.push {cls:=.type "range",data:=.fields #[.int lo t,.int hi u,.int 1 v]}).objs.size:=by simpa using hb
  subst e
  exact I1.l7 (Uy _) (I1.hok.fresh (Uy _))
def LC(ta:TA):TI:=λσ H R=>ta σ H λvs H1=>∃j:Int,vs=[.int j]/\-(2 ^ 62)<=j/\j<2 ^ 62/\R (Js 0 j.toNat) H1
theorem dm{a:Expr}{ta:TA}{p pos:Pos}(hg:Gl X "range")(hm:X.mg "range"=none)(ha:PA X [a] ta)(hs:starEach [a] X.env=[(false,eval a X.env)]:=by rfl):PI X tg (.Call (.Name "range" p) [a] [] pos) (LC ta):=by
 intro pins s σ H R I h
 refine Call_ (iG I hg hm boot_range (PyProof.Rows.callWith_type1 (b_ (ha pos pins s σ H _ I h) λus s1 ⟨vs,H1,I1,r1,q1⟩=>?_) hs rfl))
 obtain⟨j,e,q1,q2,q⟩:=q1
 subst e
 cases r1 with
 | cons r rr =>
  cases rr
  obtain⟨t,rfl⟩:=r
  exact call_range_1 (DD I1 (by omega) (by omega) q1 q2 (by simpa using q))
def Ox(wi:TI)(g:TG)(tb:TS):TS:=λD σ H=>wi σ H λJ H1=>∃W:Nat->Nat->St->Hp->Prop,(∃m,W 0 m σ H1)/\∀i m σ H,W i m σ H->
 (J.stop i H/\D.nx σ H)\/(J.go i H/\∃N:St->Hp->Prop,(∀σ' H',N σ' H'->∃m',m'<m/\W (i+1) m' σ' H')/\∀x H',J.EV i H x H'->g x σ H' λdf H2=>tb {D with nx:=N,ct:=N,bk:=D.nx} df H2)
def jd(fp:List Addr)(h:Heap):List (Addr×Obj):=fp.filterMap λb=>(h.get? b).map λo=>(b,o)
theorem cL{fp:List Addr}{h:Heap}{b:Addr}{o:Obj}(hb:b∈fp)(e:h.get? b=some o):(b,o)∈jd fp h:=List.mem_filterMap.mpr ⟨b,hb,by rw [e]; rfl⟩
theorem Az{fp:List Addr}{h:Heap}{p:Addr×Obj}(hp:p∈jd fp h):p.1∈fp/\h.get? p.1=some p.2:=by
 obtain⟨b,hb,e⟩:=List.mem_filterMap.mp hp
 cases q:h.get? b with
 | none=>rw [q]at e; cases e
 | some o =>
  rw [q]at e
  have e':(b,o)=p:=Option.some.inj e
  subst e'
  exact⟨hb,q⟩
theorem Inv.pinned{pins:List (Addr×Obj)}{σ:St}{H:Hp}{s:Shared}{fp:List Addr}(I:Inv X pins σ H s)(hf:∀b∈fp,dB X pins H b)(ho:∀b∈fp,∃o,s.heap.get? b=some o/\∀v,o.data≠ .cell v):Inv X (pins++jd fp s.heap) σ H s :=
 I.iF λp hp=>(List.mem_append.mp hp).elim (λz=>I.pin p (UJ _ z)) λz=>by
  obtain⟨hb,e⟩:=Az z
  obtain⟨f0,f1,f2,_⟩:=hf p.1 hb
  obtain⟨o,e',d⟩:=ho p.1 hb
  rw [e]at e'; cases e'
  exact⟨e,f0,f1,f2,d⟩
theorem Inv.gp{pins pl:List (Addr×Obj)}{σ:St}{H:Hp}{s:Shared}(I:Inv X (pins++pl) σ H s):Inv X pins σ H s:=I.iF λp hp=>I.pin p (UJ _ (List.mem_append_left _ hp))
theorem hX{iter:Expr}{body:List Stmt}{wi:TI}{g:TG}{tb:TS}{pos:Pos}(hp:PassesOwn (model X.prog X.w) X.A X.env X.xe)(hc:X.calm=true)(hi:PI X tg iter wi)(hg:PG X tg g)(hb:nN X body tb)
  (hs:∀x,foldedSetIterable iter X.env x=pure x:=by intro _; rfl):PS X (.For tg iter body [] pos) (Ox wi g tb):=by
 intro pins s σ H D I h
 refine wpAny_For (b_ (hi pins s σ H _ I h) λv s1 h1=>b_ h1 λitv s2 h2=>?_) hs
 obtain⟨it,fp,tn,J,H2,e,I2,T,st2,f2,W,⟨m0,w0⟩,turn⟩:=h2
 subst e
 have stat:∀{H':Hp},(∀b∈fp,H' b=none)->∀b∈fp,dB X pins H' b:=λhn b hb=>⟨hn b hb,(f2 b hb).2⟩
 refine codeAny_forLoop_any (λn s'=>∃i σ' H',Inv X pins σ' H' s'/\tn i s'.heap/\(∀b∈fp,H' b=none)/\W i n σ' H') ?_ m0 ⟨0,σ,H2,I2,st2,λb hb=>(f2 b hb).1,w0⟩
 rintro n s3 ⟨i,BM,H3,I3,st3,Qq,w3⟩
 rcases turn i n BM H3 w3 with⟨stop,qn⟩ | ⟨go,N,hN,step⟩
 ·refine wpAny_passesOwn hp (b_ (T.done X rfl rfl rfl hc i pins s3 BM H3 X.xe I3 (stat Qq) st3 stop) λr s4 ⟨hr,I4⟩=>?_)
  subst hr
  exact wpAny_execs_nil ⟨BM,H3,I4,qn⟩
 ·refine wpAny_passesOwn hp (b_ (T.item X rfl rfl rfl hc i pins s3 BM H3 X.xe I3 (stat Qq) st3 go) λr s4 ⟨u,hr,h4⟩=>?_)
  subst hr
  refine wpAny_passesOwn hp (b_ h4 λ_ s5 ⟨x,H5,I5,r5,y5,ug,v8⟩=>?_)
  have S9:=I5.pinned (stat v8) (T.obj _ _ ug)
  refine wpAny_passesOwn hp (b_ (hg _ s5 BM H5 x u _ S9 r5 (step x H5 y5)) λ_ s6 ⟨TV,H6,I6,q6⟩=>?_)
  refine wpAny_passesOwn hp (b_ (hb _ s6 TV H6 _ I6 q6) λf s7 q7=>?_)
  have again:∀{Ba:St} {H7:Hp},Inv X (pins++jd fp s5.heap) Ba H7 s7->N Ba H7->∃m,m<n/\∃i σ' H',Inv X pins σ' H' s7/\tn i s7.heap/\(∀b∈fp,H' b=none)/\W i m σ' H':=λ{Ba H7} I7 n7=>by
   obtain⟨m',hm,w7⟩:=hN Ba H7 n7
   refine⟨m',hm,i+1,Ba,H7,I7.gp,T.keep _ _ _ ug λb hb o e=>(I7.pin (b,o) (UJ _ (UJ _ (cL hb e)))).1,λb hb=>?_,w7⟩
   obtain⟨o,e,d⟩:=T.obj _ _ ug b hb
   exact(I7.pin (b,o) (UJ _ (UJ _ (cL hb e)))).2.1
  cases f with
  | next=>obtain⟨Ba,H7,I7,n7⟩:=q7; exact again I7 n7
  | cont=>obtain⟨Ba,H7,I7,n7⟩:=q7; exact again I7 n7
  | brk=>obtain⟨Ba,H7,I7,q7⟩:=q7; exact⟨Ba,H7,I7.gp,q7⟩
  | ret v=>obtain⟨x7,Ba,H7,I7,r7,q7⟩:=q7; exact⟨x7,Ba,H7,I7.gp,r7,q7⟩
end
theorem FC{K:PySem.W.Frag}{a:Addr}{xs:List V}{g:TG}{tb:TS}{D:Ends}{σ:St}{H:Hp}(Pv:Nat->St->Hp->Prop)(h0:Pv 0 σ H)(hl:∀i σ H,i<=xs.length->Pv i σ H->aH K H a xs)
  (hs:∀i x σ H,xs[i]? = some x->Pv i σ H->g x σ H λdf H2=>tb {D with nx:=Pv (i+1),ct:=Pv (i+1),bk:=D.nx} df H2) (hd:∀σ H,Pv xs.length σ H->D.nx σ H) :
  ∃W:Nat->Nat->St->Hp->Prop,(∃m,W 0 m σ H)/\∀i m σ H,W i m σ H->
   ((F0 K a).stop i H/\D.nx σ H)\/((F0 K a).go i H/\∃N:St->Hp->Prop,(∀σ' H',N σ' H'->∃m',m'<m/\W (i+1) m' σ' H')/\∀x H',(F0 K a).EV i H x H'->g x σ H' λdf H2=>tb {D with nx:=N,ct:=N,bk:=D.nx} df H2):=by
 refine⟨λi m σ H=>m=xs.length-i/\i<=xs.length/\Pv i σ H,⟨xs.length,by simp,Nat.zero_le _,h0⟩,?_⟩
 rintro i m σ H ⟨rfl,hi,p⟩
 have q:=hl i σ H hi p
 by_cases hlt:i<xs.length
 ·refine .inr ⟨⟨xs,xs[i],q,by simp [hlt]⟩,Pv (i+1),λσ' H' p'=>⟨xs.length-(i+1),by omega,rfl,hlt,p'⟩,λx H' y=>?_⟩
  obtain⟨e,y⟩:=y
  subst e
  exact hs i x σ _ (y xs q) p
 ·have e:i=xs.length:=by omega
  subst e
  exact .inl ⟨⟨xs,q,Uy _⟩,hd σ H p⟩
theorem fL{lo:Int}{n:Nat}{g:TG}{tb:TS}{D:Ends}{σ:St}{H:Hp}(Pv:Nat->St->Hp->Prop)(h0:Pv 0 σ H)
  (hs:∀i σ H,i<n->Pv i σ H->g (.int (lo+i)) σ H λdf H2=>tb {D with nx:=Pv (i+1),ct:=Pv (i+1),bk:=D.nx} df H2) (hd:∀σ H,Pv n σ H->D.nx σ H) :
  ∃W:Nat->Nat->St->Hp->Prop,(∃m,W 0 m σ H)/\∀i m σ H,W i m σ H->
   ((Js lo n).stop i H/\D.nx σ H)\/((Js lo n).go i H/\∃N:St->Hp->Prop,(∀σ' H',N σ' H'->∃m',m'<m/\W (i+1) m' σ' H')/\∀x H',(Js lo n).EV i H x H'->g x σ H' λdf H2=>tb {D with nx:=N,ct:=N,bk:=D.nx} df H2):=by
 refine⟨λi m σ H=>m=n-i/\i<=n/\Pv i σ H,⟨n,by simp,Nat.zero_le _,h0⟩,?_⟩
 rintro i m σ H ⟨rfl,hi,p⟩
 by_cases hlt:i<n
 ·refine .inr ⟨hlt,Pv (i+1),λσ' H' p'=>⟨n-(i+1),by omega,rfl,hlt,p'⟩,λx H' y=>?_⟩
  obtain⟨e,y⟩:=y
  subst e y
  exact hs i σ _ hlt p
 ·have e:i=n:=by omega
  subst e
  exact .inl ⟨Uy _,hd σ H p⟩
abbrev R2:=V->V->Hp->VK->Prop
def i8(X:Cx)(f:Value->Value->Sem Value)(r:R2):Prop :=
 ∀(pins:List (Addr×Obj)) (s:Shared) (σ:St) (H:Hp) (x y:V) (v u:Value) (Q:VK),Inv X pins σ H s->RelV x v->RelV y u->r x y H Q->
  wpAny (model X.prog X.w) X.A (f v u) (EP X pins σ Q) X.xe s
def Pl(X:Cx)(f:Value->Sem Value)(r:V->Hp->VK->Prop):Prop :=
 ∀(pins:List (Addr×Obj)) (s:Shared) (σ:St) (H:Hp) (x:V) (v:Value) (Q:VK),Inv X pins σ H s->RelV x v->r x H Q->
  wpAny (model X.prog X.w) X.A (f v) (EP X pins σ Q) X.xe s
def fu(X:Cx)(f:Value)(r:List V->Hp->VK->Prop):Prop :=
 ∀(pins:List (Addr×Obj)) (s:Shared) (σ:St) (H:Hp) (xs:List V) (us:List Value) (Q:VK),Inv X pins σ H s->Vals xs us->r xs H Q->
  wpAny (model X.prog X.w) X.A (call f us) (EP X pins σ Q) X.xe s
def N3(X:Cx)(r:V->Hp->(Bool->Hp->Prop)->Prop):Prop :=
 ∀(pins:List (Addr×Obj)) (s:Shared) (σ:St) (H:Hp) (x:V) (v:Value) (Q:Bool->Hp->Prop),Inv X pins σ H s->RelV x v->r x H Q->
  wpAny (model X.prog X.w) X.A (truthy v) (TP X pins σ Q) X.xe s
def gO(r:R2)(ta tb:TE):TE:=λσ H Q=>ta σ H λx H1=>tb σ H1 λy H2=>r x y H2 Q
def Tj(r:V->Hp->VK->Prop)(ta:TE):TE:=λσ H Q=>ta σ H λx H1=>r x H1 Q
def rI(C:Int->Int->Prop)(g:Int->Int->V):R2:=λx y H Q=>∃i j,x=.int i/\y=.int j/\C i j/\Q (g i j) H
def AN(g:Int->Int->V):R2:=λx y H Q=>∃i j,x=.int i/\y=.int j/\Q (g i j) H
def rU(g:Int->V):V->Hp->VK->Prop:=λx H Q=>∃i,x=.int i/\Q (g i) H
section
variable{X:Cx}{a b c:Expr}{ta tb tc:TE}{pos:Pos}
theorem Jr(ha:PE X a ta)(hb:PE X b tb){pins:List (Addr×Obj)}{s:Shared}{σ:St}{H:Hp}{R:V->V->Hp->Prop}(I:Inv X pins σ H s)
  (h:ta σ H λx H1=>tb σ H1 λy H2=>R x y H2) {Q:Value->Shared->Prop} {f:Value->Value->Sem Value}
  (hf:∀v u s2 x y H2,Inv X pins σ H2 s2->RelV x v->RelV y u->R x y H2->wpAny (model X.prog X.w) X.A (f v u) Q X.xe s2) :
  wpAny (model X.prog X.w) X.A (eval a X.env) (λv s₁=>wpAny (model X.prog X.w) X.A (eval b X.env) (λu s₂=>wpAny (model X.prog X.w) X.A (f v u) Q X.xe s₂) X.xe s₁) X.xe s:=by
 refine b_ (ha pins s σ H _ I h) λv s1 ⟨x,H1,I1,r1,q1⟩=>?_
 refine b_ (hb pins s1 σ H1 _ I1 q1) λu s2 ⟨y,H2,I2,r2,q2⟩=>?_
 exact hf v u s2 x y H2 I2 r1 r2 q2
theorem aF{op:Operator}{r:R2}(ho:i8 X (binaryOp op) r)(ha:PE X a ta)(hb:PE X b tb):PE X (.BinOp a op b pos) (gO r ta tb):=by
 intro pins s σ H Q I h
 exact wpAny_BinOp (Jr ha hb I h λv u s2 x y H2 I2 rx ry q=>ho pins s2 σ H2 x y v u Q I2 rx ry q)
theorem rH{op:UnaryOp}{r:V->Hp->VK->Prop}(ho:Pl X (unaryOp op) r)(ha:PE X a ta):PE X (.UnaryOp op a pos) (Tj r ta):=by
 intro pins s σ H Q I h
 exact UnaryOp_ (b_ (ha pins s σ H _ I h) λv s1 ⟨x,H1,I1,r1,q1⟩=>ho pins s1 σ H1 x v Q I1 r1 q1)
theorem Ng{f:Value->Value->Sem Value}{C:Int->Int->Prop}{g:Int->Int->Int}
  (rule:∀(i j:Int) (t u:Tok) (s:Shared) (Q:Value->Shared->Prop) (E:Value->Shared->Prop),C i j->Q (.int (g i j) s.toks) {s with toks:=s.toks+1}->wpAny (model X.prog X.w) X.A (f (.int i t) (.int j u)) Q E s) :
  i8 X f (rI C λi j=>.int (g i j)):=by
 intro pins s σ H x y v u Q I rx ry h
 obtain⟨i,j,rfl,rfl,hc,q⟩:=h
 obtain⟨t,rfl⟩:=rx
 obtain⟨t',rfl⟩:=ry
 exact rule i j t t' s _ _ hc ⟨.int (g i j),H,I.tok _,⟨_,rfl⟩,q⟩
theorem LG{f:Value->Value->Sem Value}{g:Int->Int->Int}
  (rule:∀(i j:Int) (t u:Tok) (s:Shared) (Q:Value->Shared->Prop) (E:Value->Shared->Prop),Q (.int (g i j) s.toks) {s with toks:=s.toks+1}->wpAny (model X.prog X.w) X.A (f (.int i t) (.int j u)) Q E s) :
  i8 X f (AN λi j=>.int (g i j)):=by
 intro pins s σ H x y v u Q I rx ry h
 obtain⟨i,j,rfl,rfl,q⟩:=h
 obtain⟨t,rfl⟩:=rx
 obtain⟨t',rfl⟩:=ry
 exact rule i j t t' s _ _ ⟨.int (g i j),H,I.tok _,⟨_,rfl⟩,q⟩
theorem Ie{f:Value->Value->Sem Value}{g:Int->Int->Bool}
  (rule:∀(i j:Int) (t u:Tok) (s:Shared) (Q:Value->Shared->Prop) (E:Value->Shared->Prop),Q (.bool (g i j)) s->wpAny (model X.prog X.w) X.A (f (.int i t) (.int j u)) Q E s) :
  i8 X f (AN λi j=>.bl (g i j)):=by
 intro pins s σ H x y v u Q I rx ry h
 obtain⟨i,j,rfl,rfl,q⟩:=h
 obtain⟨t,rfl⟩:=rx
 obtain⟨t',rfl⟩:=ry
 exact rule i j t t' s _ _ ⟨.bl (g i j),H,I,rfl,q⟩
def OB(i j:Int):Prop:=0<j/\j<1073741824
def OK(i j:Int):Prop:=0<=j/\j<=1000000/\i.natAbs<2 ^ 64
def Gj(i j:Int):Prop:=(-(2 ^ 64)<i/\i<2 ^ 64)\/(-(2 ^ 64)<j/\j<2 ^ 64)
theorem Gj.ok{i j:Int}(h:Gj i j):IntMulOk i j:=by
 rcases h with⟨h1,h2⟩ | ⟨h1,h2⟩
 ·exact .of_left (intBits_le_64 h1 h2)
 ·exact .of_right (intBits_le_64 h1 h2)
theorem cX:i8 X (binaryOp .Add) (AN λi j=>.int (i+j)):=LG λ_ _ _ _ _ _ _ q=>add_int q
theorem bJ:i8 X (binaryOp .Sub) (AN λi j=>.int (i-j)):=LG λ_ _ _ _ _ _ _ q=>sub_int q
theorem lY:i8 X (binaryOp .Mult) (rI Gj λi j=>.int (i*j)):=Ng λ_ _ _ _ _ _ _ hc q=>mul_int q hc.ok
theorem yw:i8 X (binaryOp .FloorDiv) (rI OB λi j=>.int (i / j)):=Ng λi j _ _ _ _ _ hc q=>by
 have h1:(0:Int)<j:=hc.1
 have h2:j<1073741824:=hc.2
 exact floordiv_int (by omega) (by rw [Int.fdiv_eq_ediv_of_nonneg i (by omega)]; exact q) (.inl (PyProof.noPylong_small (by omega)))
theorem pQ:i8 X (binaryOp .Mod) (rI (λ_ j=>0<j) λi j=>.int (i % j)):=Ng λi j _ _ _ _ _ hc q=>by
 have h1:(0:Int)<j:=hc
 exact mod_int' (by omega) (by rw [Int.fmod_eq_emod_of_nonneg i (by omega)]; exact q)
theorem l5:i8 X (binaryOp .Pow) (rI OK λi j=>.int (i ^ j.toNat)):=Ng λ_ _ _ _ _ _ _ hc q=>pow_int_small hc.1 hc.2.1 hc.2.2 q
theorem SN{f:Value->Sem Value}{g:Int->Int}
  (rule:∀(i:Int) (t:Tok) (s:Shared) (Q:Value->Shared->Prop) (E:Value->Shared->Prop),Q (.int (g i) s.toks) {s with toks:=s.toks+1}->wpAny (model X.prog X.w) X.A (f (.int i t)) Q E s) :
  Pl X f (rU λi=>.int (g i)):=by
 intro pins s σ H x v Q I rx h
 obtain⟨i,rfl,q⟩:=h
 obtain⟨t,rfl⟩:=rx
 exact rule i t s _ _ ⟨.int (g i),H,I.tok _,⟨_,rfl⟩,q⟩
theorem lL:Pl X (unaryOp .USub) (rU λi=>.int (-i)):=SN λ_ _ _ _ _ q=>neg_int q
end
def Lr:V->V->Bool
 | .non,.non=>true | .non,.int _=>true | .int _,.non=>true | .non,.bl _=>true | .bl _,.non=>true | .non,.str _=>true | .str _,.non=>true
 | .int _,.int _=>true | .bl _,.bl _=>true | .str _,.str _=>true | .yz _,.yz _=>true
 | .int _,.str _=>true | .str _,.int _=>true | .bl _,.str _=>true | .str _,.bl _=>true
 | _,_=>false
def GR:R2:=λx y H Q=>Lr x y=true/\Q (.bl (decide (x=y))) H
def S2:R2:=λx y H Q=>Lr x y=true/\Q (.bl (!decide (x=y))) H
theorem yX{i j:Int}:decide (V.int i=V.int j)=(i==j):=by
 rw [Bool.eq_iff_iff]
 simp
theorem Bh{i j:Bool}:decide (V.bl i=V.bl j)=(i==j):=by
 rw [Bool.eq_iff_iff]
 simp
theorem yy{i j:Str}:decide (V.str i=V.str j)=(i==j):=by
 rw [Bool.eq_iff_iff]
 simp
theorem y4{i j:Array UInt8}:decide (V.yz i=V.yz j)=(i.toList==j.toList):=by
 rw [Bool.eq_iff_iff]
 cases i
 cases j
 simp
section
variable{X:Cx}{a b c:Expr}{ta tb tc:TE}{pos:Pos}
theorem bV{pins:List (Addr×Obj)}{σ:St}{H:Hp}{s:Shared}{Q:VK}{k k':Bool}(I:Inv X pins σ H s)(q:Q (.bl k) H)(e:k=k'):EP X pins σ Q (.bool k') s:=by
 subst e
 exact⟨.bl k,H,I,rfl,q⟩
theorem aP:i8 X (compareOp .Eq) GR:=by
 intro pins s σ H x y v u Q I rx ry h
 obtain⟨hs,q⟩:=h
 cases x with
 | non =>
  cases rx
  cases y with
  | non=>cases ry; exact PySem.EqNone.eq_none_none (bV I q (by simp))
  | bl j=>cases ry; exact PySem.EqNone.eq_none_bool (bV I q (by simp))
  | int j=>obtain⟨t',rfl⟩:=ry; exact PySem.EqNone.eq_none_int (bV I q (by simp))
  | str j=>obtain⟨t',rfl⟩:=ry; exact PySem.EqNone.eq_none_str (bV I q (by simp))
  | _=>exact absurd (show false=true from hs) UM
 | bl i =>
  cases rx
  cases y with
  | non=>cases ry; exact PySem.EqNone.eq_bool_none (bV I q (by simp))
  | bl j=>cases ry; exact eq_bool (bV I q Bh)
  | str j=>obtain⟨t',rfl⟩:=ry; exact PySem.EqMixed.eq_bool_str (bV I q (by simp))
  | _=>exact absurd (show false=true from hs) UM
 | int i =>
  obtain⟨t,rfl⟩:=rx
  cases y with
  | non=>cases ry; exact PySem.EqNone.eq_int_none (bV I q (by simp))
  | int j=>obtain⟨t',rfl⟩:=ry; exact eq_int (bV I q yX)
  | str j=>obtain⟨t',rfl⟩:=ry; exact PySem.EqMixed.eq_int_str (bV I q (by simp))
  | _=>exact absurd (show false=true from hs) UM
 | str i =>
  obtain⟨t,rfl⟩:=rx
  cases y with
  | non=>cases ry; exact PySem.EqNone.eq_str_none (bV I q (by simp))
  | bl j=>cases ry; exact PySem.EqMixed.eq_str_bool (bV I q (by simp))
  | int j=>obtain⟨t',rfl⟩:=ry; exact PySem.EqMixed.eq_str_int (bV I q (by simp))
  | str j=>obtain⟨t',rfl⟩:=ry; exact eq_str (bV I q yy)
  | _=>exact absurd (show false=true from hs) UM
 | yz i =>
  obtain⟨t,rfl⟩:=rx
  cases y with
  | yz j=>obtain⟨t',rfl⟩:=ry; exact PySem.W.eq_bytes (bV I q y4)
  | _=>exact absurd (show false=true from hs) UM
 | _=>cases y <;> exact absurd (show false=true from hs) UM
theorem md:i8 X (compareOp .NotEq) S2:=by
 intro pins s σ H x y v u Q I rx ry h
 obtain⟨hs,q⟩:=h
 cases x with
 | non =>
  cases rx
  cases y with
  | non=>cases ry; exact PySem.EqNone.ne_none_none (bV I q (by simp))
  | bl j=>cases ry; exact PySem.EqNone.ne_none_bool (bV I q (by simp))
  | int j=>obtain⟨t',rfl⟩:=ry; exact PySem.EqNone.ne_none_int (bV I q (by simp))
  | str j=>obtain⟨t',rfl⟩:=ry; exact PySem.EqNone.ne_none_str (bV I q (by simp))
  | _=>exact absurd (show false=true from hs) UM
 | bl i =>
  cases rx
  cases y with
  | non=>cases ry; exact PySem.EqNone.ne_bool_none (bV I q (by simp))
  | bl j=>cases ry; exact ne_bool (bV I q (congrArg not Bh))
  | str j=>obtain⟨t',rfl⟩:=ry; exact PySem.EqMixed.ne_bool_str (bV I q (by simp))
  | _=>exact absurd (show false=true from hs) UM
 | int i =>
  obtain⟨t,rfl⟩:=rx
  cases y with
  | non=>cases ry; exact PySem.EqNone.ne_int_none (bV I q (by simp))
  | int j=>obtain⟨t',rfl⟩:=ry; exact ne_int (bV I q (congrArg not yX))
  | str j=>obtain⟨t',rfl⟩:=ry; exact PySem.EqMixed.ne_int_str (bV I q (by simp))
  | _=>exact absurd (show false=true from hs) UM
 | str i =>
  obtain⟨t,rfl⟩:=rx
  cases y with
  | non=>cases ry; exact PySem.EqNone.ne_str_none (bV I q (by simp))
  | bl j=>cases ry; exact PySem.EqMixed.ne_str_bool (bV I q (by simp))
  | int j=>obtain⟨t',rfl⟩:=ry; exact PySem.EqMixed.ne_str_int (bV I q (by simp))
  | str j=>obtain⟨t',rfl⟩:=ry; exact ne_str (bV I q (congrArg not yy))
  | _=>exact absurd (show false=true from hs) UM
 | yz i =>
  obtain⟨t,rfl⟩:=rx
  cases y with
  | yz j=>obtain⟨t',rfl⟩:=ry; exact PySem.W.ne_bytes (bV I q (congrArg not y4))
  | _=>exact absurd (show false=true from hs) UM
 | _=>cases y <;> exact absurd (show false=true from hs) UM
theorem CQ:i8 X (compareOp .Lt) (AN λi j=>.bl (decide (i<j))):=Ie λ_ _ _ _ _ _ _ q=>lt_int q
theorem D7:i8 X (compareOp .LtE) (AN λi j=>.bl (decide (i<=j))):=Ie λ_ _ _ _ _ _ _ q=>le_int q
theorem ik:i8 X (compareOp .Gt) (AN λi j=>.bl (decide (j<i))):=Ie λ_ _ _ _ _ _ _ q=>gt_int q
theorem sQ:i8 X (compareOp .IsNot) (λx y H Q=>y=.non/\Q (.bl (!decide (x=.non))) H):=by
 intro pins s σ H x y v u Q I rx ry h
 obtain⟨rfl,q⟩:=h
 cases ry
 refine isnot_none_gen (bV I q ?_)
 cases x <;> first
  | (cases rx; rfl)
  | (obtain⟨t,rfl⟩:=rx; rfl)
theorem Cz(b:Expr){op:CmpOp}(h:op≠ .In:=by decide)(h2:op≠ .NotIn:=by decide):behindInMarks op b=false:=by
 have e1:(op==CmpOp.In)=false:=by cases op <;> first | rfl | exact absurd rfl h
 have e2:(op==CmpOp.NotIn)=false:=by cases op <;> first | rfl | exact absurd rfl h2
 cases b <;> simp [behindInMarks,e1,e2]
theorem fJ{op:CmpOp}{r:R2}(ho:i8 X (compareOp op) r)(ha:PE X a ta)(hb:PE X b tb)(hm:behindInMarks op b=false):PE X (.Compare a [op] [b] pos) (gO r ta tb):=by
 intro pins s σ H Q I h
 exact wpAny_Compare1 (Jr ha hb I h λv u s2 x y H2 I2 rx ry q=>ho pins s2 σ H2 x y v u Q I2 rx ry q) hm
def rE(t:TE):TT:=λσ H Q=>t σ H λx H'=>∃k,x=.bl k/\Q k H'
theorem de{op:CmpOp}{r:R2}(ho:i8 X (compareOp op) r)(ha:PE X a ta)(hb:PE X b tb)(hm:behindInMarks op b=false):PT X (.Compare a [op] [b] pos) (rE (gO r ta tb)):=by
 intro pins s σ H Q I h
 refine wpAny_isTrue_Compare1 (b_ (ha pins s σ H _ I h) λv s1 ⟨x,H1,I1,r1,q1⟩=>b_ (hb pins s1 σ H1 _ I1 q1) λu s2 ⟨y,H2,I2,r2,q2⟩ =>
  b_ (ho pins s2 σ H2 x y v u _ I2 r1 r2 q2) λc s3 ⟨z,H3,I3,r3,k,e,q3⟩=>?_) hm
 subst e
 cases r3
 exact wpAny_truthy_bool ⟨H3,I3,q3⟩
def IX(r r':R2)(ta tb tc:TE):TE:=λσ H Q=>ta σ H λx H1=>tb σ H1 λy H2=>r x y H2 λz H3=>∃k,z=.bl k/\
 (if k=true then tc σ H3 λw' H4=>r' y w' H4 Q else Q (.bl false) H3)
theorem Ee{op op':CmpOp}{r r':R2}(ho:i8 X (compareOp op) r)(ho':i8 X (compareOp op') r')(ha:PE X a ta)(hb:PE X b tb)(hc:PE X c tc)
  (hm:lastMarks [op,op'] [b,c]=false:=by with_unfolding_all rfl):PE X (.Compare a [op,op'] [b,c] pos) (IX r r' ta tb tc):=by
 intro pins s σ H Q I h
 refine Compare_chain (b_ (ha pins s σ H _ I h) λv s1 ⟨x,H1,I1,r1,q1⟩=>chain_link (b_ (hb pins s1 σ H1 _ I1 q1) λu s2 ⟨y,H2,I2,r2,q2⟩ =>
  b_ (ho pins s2 σ H2 x y v u _ I2 r1 r2 q2) λd s3 ⟨z,H3,I3,r3,k,e,q3⟩=>?_)) hm
 subst e
 cases r3
 refine wpAny_truthy_bool ?_
 cases k with
 | false=>exact ite_ff ⟨.bl false,H3,I3,rfl,q3⟩
 | true=>exact ite_tt (chain_last (b_ (hc pins s3 σ H3 _ I3 q3) λw' s4 ⟨z',H4,I4,r4,q4⟩=>ho' pins s4 σ H4 y z' u w' Q I4 r2 r4 q4))
def MC(K:PySem.W.Frag)(x:V)(H:Hp)(k:Bool):Prop :=
 match x with
 | .non=>k=false
 | .bl b=>k=b
 | .int i=>k=(i != 0)
 | .str y=>y.length<=sizeLine/\k=((y.length:Int) != 0)
 | .yz y=>y.size<=sizeLine/\k=((y.size:Int) != 0)
 | .ref p=>(∃xs,aZ K H p xs/\k = !xs.isEmpty)\/(∃xs,aH K H p xs/\k = !xs.isEmpty)\/∃kvs,H p=some (.dK kvs)/\k = !kvs.isEmpty
 | _=>False
theorem xu{κ:Type}{kvs:List (κ×V)}{vs:List (κ×Value)}(r:KV kvs vs):(!vs.isEmpty) = !kvs.isEmpty:=by
 cases r <;> rfl
theorem oN{xs:List V}{its:List Value}(r:Vals xs its):(!its.toArray.isEmpty) = !xs.isEmpty:=by
 cases r <;> simp
theorem lI:(sizeLine:Nat)<2 ^ 63:=by rw [sizeLine_eq]; decide
theorem HU:N3 X (λx H Q=>∃k,MC X.K x H k/\Q k H):=by
 intro pins s σ H x v Q I rx h
 obtain⟨k,e,q⟩:=h
 have hl:=lI
 have hs:sizeLine=16777216:=sizeLine_eq
 cases x with
 | non =>
  cases rx
  have e':k=false:=e
  subst e'
  exact truthy_none ⟨H,I,q⟩
 | bl b =>
  cases rx
  have e':k=b:=e
  subst e'
  exact wpAny_truthy_bool ⟨H,I,q⟩
 | int i =>
  obtain⟨t,rfl⟩:=rx
  have e':k=(i != 0):=e
  subst e'
  exact PySem.P.truthy_int ⟨H,I,q⟩
 | str y =>
  obtain⟨t,rfl⟩:=rx
  obtain⟨hy,e'⟩ : y.length<=sizeLine/\k=((y.length:Int) != 0):=e
  subst e'
  exact PySem.P.truthy_str (by omega) ⟨H,I.tok _,q⟩
 | yz y =>
  obtain⟨t,rfl⟩:=rx
  obtain⟨hy,e'⟩ : y.size<=sizeLine/\k=((y.size:Int) != 0):=e
  subst e'
  exact PySem.W.truthy_bytes (by omega) ⟨H,I.tok _,q⟩
 | ref p =>
  cases rx
  have e':(∃xs,aZ X.K H p xs/\k = !xs.isEmpty)\/(∃xs,aH X.K H p xs/\k = !xs.isEmpty)\/∃kvs,H p=some (.dK kvs)/\k = !kvs.isEmpty:=e
  rcases e' with⟨xs,hx,e'⟩ | ⟨xs,hx,e'⟩ | ⟨kvs,hx,e'⟩
  ·subst e'
   obtain⟨its,r,pl,hz⟩:=I.list hx
   have hlen:=r.length
   exact wpAny_truthy_list pl.isList (by simp only [UN]; omega) ⟨H,I.tok _,by rw [oN r]; exact q⟩
  ·subst e'
   obtain⟨its,r,pl,hz⟩:=I.tuple hx
   have hlen:=r.length
   exact truthy_tuple pl (by simp only [UN]; omega) ⟨H,I.tok _,by rw [oN r]; exact q⟩
  ·subst e'
   obtain⟨hz,hS,vs,r,m⟩ : kvs.length<=sizeLine/\(p==sysModules)=false/\∃vs,KV kvs vs/\s.heap.DictOf (bD X.prog X.w) p vs:=I.hok p _ hx
   have hlen:kvs.length=vs.length:=Paired.length r
   exact wpAny_truthy_dict hS m (by omega) ⟨H,I.tok _,by rw [xu r]; exact q⟩
 | _=>exact(show False from e).elim
theorem vals1{x:V}{us:List Value}(r:Vals [x] us):∃u,us=[u]/\RelV x u:=by
 cases r with
 | cons r1 r2=>cases r2; exact⟨_,rfl,r1⟩
theorem vals2{x y:V}{us:List Value}(r:Vals [x,y] us):∃u w',us=[u,w']/\RelV x u/\RelV y w':=by
 cases r with
 | cons r1 r2 =>
  cases r2 with
  | cons r3 r4=>cases r4; exact⟨_,_,rfl,r1,r3⟩
theorem Dh:fu X (.builtin "abs") (λxs H Q=>∃i,xs=[.int i]/\Q (.int (if i<0 then -i else i)) H):=by
 intro pins s σ H xs us Q I r h
 obtain⟨i,rfl,q⟩:=h
 obtain⟨u,rfl,t,rfl⟩:=vals1 r
 exact call_abs_int λu tk=>⟨.int (if i<0 then -i else i),H,I.tok _,⟨_,rfl⟩,q⟩
theorem zk(hc:X.calm=true):fu X (.builtin "max") (λxs H Q=>∃i j,xs=[.int i,.int j]/\Q (.int (if j > i then j else i)) H):=by
 intro pins s σ H xs us Q I r h
 obtain⟨i,j,rfl,q⟩:=h
 obtain⟨u,w',rfl,⟨t,rfl⟩,⟨t',rfl⟩⟩:=vals2 r
 refine max_two_ints (I.ok.hd hc) λh' tk k=>⟨_,H,I.kept k,?_,q⟩
 by_cases hj:j > i
 ·rw [if_pos hj,if_pos hj]; exact⟨_,rfl⟩
 ·rw [if_neg hj,if_neg hj]; exact⟨_,rfl⟩
theorem rk(hc:X.calm=true):fu X (.builtin "min") (λxs H Q=>∃i j,xs=[.int i,.int j]/\Q (.int (if j<i then j else i)) H):=by
 intro pins s σ H xs us Q I r h
 obtain⟨i,j,rfl,q⟩:=h
 obtain⟨u,w',rfl,⟨t,rfl⟩,⟨t',rfl⟩⟩:=vals2 r
 refine min_two_ints (I.ok.hd hc) λh' tk k=>⟨_,H,I.kept k,?_,q⟩
 by_cases hj:j<i
 ·rw [if_pos hj,if_pos hj]; exact⟨_,rfl⟩
 ·rw [if_neg hj,if_neg hj]; exact⟨_,rfl⟩
theorem cA:fu X (.type "int") (λxs H Q=>(∃i,xs=[.int i]/\Q (.int i) H)\/∃k,xs=[.bl k]/\Q (.int (if k then 1 else 0)) H):=by
 intro pins s σ H xs us Q I r h
 rcases h with⟨i,rfl,q⟩ | ⟨k,rfl,q⟩
 ·obtain⟨u,rfl,t,rfl⟩:=vals1 r
  exact call_int_int ⟨.int i,H,I,⟨_,rfl⟩,q⟩
 ·obtain⟨u,rfl,r1⟩:=vals1 r
  cases r1
  exact call_int_bool ⟨.int (if k then 1 else 0),H,I.tok _,⟨_,rfl⟩,q⟩
end
structure IF(h:Heap)(x dx C:Addr)(mA:Str->Option Value):Prop where
 obj:h.get? x=some (PySem.W.instObj C dx)
 ns:h.Ns1 dx mA
 ne:dx≠x
theorem lT{h:Heap}{dx:Addr}{mA:Str->Option Value}(n:h.Ns1 dx mA):∃od,h.get? dx=some od/\∀name,PySem.W.lookIn name od=some (mA name):=by
 obtain⟨o,es,ep,ho,hd,hk,_,hm⟩:=n
 refine⟨o,ho,λname=>?_⟩
 have e:=hm name
 unfold nsFind findBy at e
 rw [←Array.find?_toList]at e
 unfold PySem.W.lookIn
 rw [hd]
 dsimp only
 split
 ·rename_i y q
  rw [q]at e
  exact congrArg some e
 ·rename_i q
  rw [q]at e
  have a:es.toList.any (·.refKey)=false:=by
   rw [List.any_eq_false]
   intro y hy
   obtain⟨z,t,hkey⟩:=hk y (Array.mem_toList_iff.mp hy)
   simp [DictEntry.refKey,hkey]
  have a':¬es.toList.any (·.refKey)=true:=by rw [a]; exact UM
  rw [if_neg a']
  exact congrArg some e
theorem IF.look{h:Heap}{x dx C:Addr}{mA:Str->Option Value}(I:IF h x dx C mA):∃od,PySem.W.InstAt h x (PySem.W.instObj C dx) C (some od)/\∀name,PySem.W.lookIn name od=some (mA name) :=
 let ⟨od,ho,hl⟩:=lT I.ns
 ⟨od,⟨I.obj,rfl,rfl,ho⟩,hl⟩
section
variable{prog:Program}{w:World}{A:Around}{E:Value->Shared->Prop}{s:Shared}{K:PySem.W.Frag}{x dx C f:Addr}{mA:Str->Option Value}{name:Str}{v:Value}
end
def mJ(f:Str)(v:V):List (Str×V)->List (Str×V)
 | []=>[(f,v)]
 | (g,x)::r=>if g=f then(g,v)::r else(g,x)::mJ f v r
theorem el(f g:Str)(v:V):∀fs:List (Str×V),(mJ f v fs).lookup g=if g=f then some v else fs.lookup g
 | []=>by
  show List.lookup g [(f,v)]=_
  by_cases h:g=f
  ·have hb:(g==f)=true:=beq_iff_eq.mpr h
   simp only [List.lookup,hb,if_pos h]
  ·have hb:(g==f)=false:=beq_eq_false_iff_ne.mpr h
   simp only [List.lookup,hb,if_neg h]
 | (k,x)::r=>by
  have ih:=el f g v r
  rw [show mJ f v ((k,x)::r)=(if k=f then(k,v)::r else(k,x)::mJ f v r) from rfl]
  by_cases hk:k=f
  ·rw [if_pos hk]
   by_cases h:g=k
   ·have hb:(g==k)=true:=beq_iff_eq.mpr h
    simp only [List.lookup,hb,if_pos (h.trans hk)]
   ·have hb:(g==k)=false:=beq_eq_false_iff_ne.mpr h
    simp only [List.lookup,hb,if_neg (λe:g=f=>h (e.trans hk.symm))]
  ·rw [if_neg hk]
   by_cases h:g=k
   ·have hb:(g==k)=true:=beq_iff_eq.mpr h
    simp only [List.lookup,hb,if_neg (λe:g=f=>hk (h.symm.trans e))]
   ·have hb:(g==k)=false:=beq_eq_false_iff_ne.mpr h
    simp only [List.lookup,hb]
    exact ih
theorem jE.some_of{v:V}{o:Option Value}(r:jE (some v) o):∃u,o=some u/\RelV v u:=by
 cases o with
 | none=>exact(show False from r).elim
 | some u=>exact⟨u,rfl,r⟩
theorem jE.none_of{o:Option Value}(r:jE none o):o=none:=by
 cases o with
 | none=>rfl
 | some u=>exact(show False from r).elim
theorem Ap{v:V}{u:Value}(r:RelV v u):PySem.W.handedIn u=true:=by
 cases v with
 | non=>cases(show u=Value.none from r); rfl
 | bl b=>cases(show u=Value.bool b from r); rfl
 | int i=>obtain⟨t,e⟩:=(show∃t,u=Value.int i t from r); cases e; rfl
 | str x=>obtain⟨t,e⟩:=(show∃t,u=Value.str x t from r); cases e; rfl
 | yz b=>obtain⟨t,e⟩:=(show∃t,u=Value.bytes b t from r); cases e; rfl
 | flt b=>obtain⟨t,e⟩:=(show∃t,u=Value.float b t from r); cases e; rfl
 | ref a=>cases(show u=Value.ref a from r); rfl
 | ty n=>cases(show u=Value.type n from r); rfl
section
variable{P:Program}{w:World}{H H':Hp}{h h':Heap}{a C dx:Addr}{fs fs':List (Str×V)}
theorem F3(hok:i_ P w H h)(e:H a=some (.ins C dx fs)):∃mA,IF h a dx C mA/\(∀f,jE (fs.lookup f) (mA f))/\PySem.Within mA (fs.map (·.1))/\fs.length<=1000/\H dx=some (.own a):=by
 obtain⟨d,z,ne,ob,mA,n,r,q⟩:=(show cu P w H h a (.ins C dx fs) from hok a _ e)
 exact⟨mA,⟨ob,n,ne⟩,r,q,z,d⟩
end
structure N0(K:PySem.W.Frag)(C:Addr):Prop where
 pg:PySem.W.plainGet K C Str.empty=true
 hd:PySem.W.hasDictIn K C=true
 po:PySem.W.plainOver K C=true
 sa:PySem.W.findIn K (.ref C) "__setattr__"=some (some (.builtin "object.__setattr__"))
theorem N0.get{K:PySem.W.Frag}{C:Addr}(c:N0 K C)(f:Str):PySem.W.plainGet K C f=true:=c.pg
def iH(K:PySem.W.Frag)(C:Addr)(f:Str):Prop:=PySem.W.findIn K (.ref C) f=some none
structure Ub(K:PySem.W.Frag)(C:Addr)(f:Str)(v:V)(u:Value):Prop where
 at_:PySem.W.findIn K (.ref C) f=some (some u)
 rel:RelV v u
 get:PySem.W.specialIn K u "__get__"=some none
 cp:PySem.W.copiedNames.contains f=false
structure Meth(K:PySem.W.Frag)(C:Addr)(m:Str)(f:Addr):Prop where
 at_:PySem.W.findIn K (.ref C) m=some (some (.ref f))
 fn:PySem.W.isFn K (.ref f)=true
 kp:PySem.W.keepIn K (.ref f)=true
section
variable{X:Cx}{pins:List (Addr×Obj)}{σ:St}{H:Hp}{s:Shared}{a C dx:Addr}{fs:List (Str×V)}{f:Str}{v:V}{A:Around}{E:Value->Shared->Prop}
theorem EB{prog:Program}{w:World}{env:Env}{e:Expr}{f:Str}{pos:Pos}{s:Shared}{Q:Value->Shared->Prop}(hb:attributeBase e f env (eval e env)=eval e env)
  (h:wpAny (model prog w) A (eval e env) (λo s₁=>wpAny (model prog w) A (getAttr o f true) Q E s₁) E s):wpAny (model prog w) A (eval (.Attribute e f pos) env) Q E s :=
 Attribute_any_ h (by rw [arm_eval_Attribute,hb])
end
section
variable{X:Cx}{o e value:Expr}{f:Str}{pos pos' tpos:Pos}{ta tv:TE}
end
section
variable{X:Cx}{pins:List (Addr×Obj)}{σ:St}{H:Hp}{s:Shared}{A:Around}{E:Value->Shared->Prop}{Q:Value->Shared->Prop}{c:Value}{b:Bool}
inductive kl (K:PySem.W.Frag) (H:Hp):V->Value->Prop where
 | non:kl K H .non (.type "NoneType")
 | bl (x:Bool):kl K H (.bl x) (.type "bool")
 | int (i:Int):kl K H (.int i) (.type "int")
 | str (x:Str):kl K H (.str x) (.type "str")
 | flt (x:UInt64):kl K H (.flt x) (.type "float")
 | lst {a:Addr} {xs:List V} (e:H a=some (.lst xs)):kl K H (.ref a) (.type "list")
 | yk {a:Addr} {o:Obj} {xs:List V} (e:H a=some (.yk o (.lst xs))):kl K H (.ref a) (.type "list")
 | tup {a:Addr} {xs:List V} (e:H a=some (.tup xs)):kl K H (.ref a) (.type "tuple")
 | dK {a:Addr} {kvs:List (Key×V)} (e:H a=some (.dK kvs)):kl K H (.ref a) (.type "dict")
 | dT {a:Addr} {kvs:List (List dv×V)} (e:H a=some (.dT kvs)):kl K H (.ref a) (.type "dict")
 | ins {a C dx:Addr} {fs:List (Str×V)} (e:H a=some (.ins C dx fs)) (cl:N0 K C) (ha:PySem.W.findIn K (.ref C) "__class__"=some (some (.builtin "object.__class__")))
   (hn:PySem.W.specialIn K (.builtin "object.__class__") "__get__"=some (some (.builtin "getset_descriptor.__get__"))) (htk:PySem.W.takesIn K (.builtin "object.__class__")=some true)
   (hm:PySem.W.mroIn K C (.type "object")=some true):kl K H (.ref a) (.ref C)
theorem rD{x:V}{u t:Value}(I:Inv X pins σ H s)(rx:RelV x u)(ty:kl X.K H x t)(e:PySem.W.kitOne X.K t c=some b)(h:∀tk,Q (.bool b) {s with toks:=tk}) :
  wpAny (model X.prog X.w) A (call (.builtin "isinstance") [u,c]) Q E s:=by
 cases ty with
 | non=>cases(show u=Value.none from rx); exact PySem.W.kia_one PySem.W.kitx_none I.jK True.intro e (λz=>nomatch z) h
 | bl y=>cases(show u=Value.bool y from rx); exact PySem.W.kia_one PySem.W.kitx_bool I.jK True.intro e (λz=>nomatch z) h
 | int i=>obtain⟨t,q⟩:=(show∃t,u=Value.int i t from rx); cases q; exact PySem.W.kia_one PySem.W.kitx_int I.jK True.intro e (λz=>nomatch z) h
 | str y=>obtain⟨t,q⟩:=(show∃t,u=Value.str y t from rx); cases q; exact PySem.W.kia_one PySem.W.kitx_str I.jK True.intro e (λz=>nomatch z) h
 | flt y=>obtain⟨t,q⟩:=(show∃t,u=Value.float y t from rx); cases q; exact PySem.W.kia_one PySem.W.kitx_float I.jK True.intro e (λz=>nomatch z) h
 | @lst a xs ea =>
  cases(show u=Value.ref a from rx)
  obtain⟨_,_,n,_,h1⟩:=(show cu X.prog X.w H s.heap a (.lst xs) from I.hok a _ ea)
  exact PySem.W.kia_one PySem.W.kitx_list I.jK ⟨_,h1,rfl⟩ e (λz=>nomatch z) h
 | @yk a ob xs ea =>
  cases(show u=Value.ref a from rx)
  obtain⟨_,_,_,n,_,h1⟩:=(show cu X.prog X.w H s.heap a (.yk ob (.lst xs)) from I.hok a _ ea)
  exact PySem.W.kia_one PySem.W.kitx_list I.jK ⟨_,h1,rfl⟩ e (λz=>nomatch z) h
 | @tup a xs ea =>
  cases(show u=Value.ref a from rx)
  obtain⟨_,_,_,p⟩:=(show cu X.prog X.w H s.heap a (.tup xs) from I.hok a _ ea)
  obtain⟨o,h1,h2,_⟩:=p
  exact PySem.W.kia_one PySem.W.kitx_tuple I.jK ⟨o,h1,h2⟩ e (λz=>nomatch z) h
 | @dK a kvs ea =>
  cases(show u=Value.ref a from rx)
  obtain⟨_,_,vs,_,p⟩:=(show cu X.prog X.w H s.heap a (.dK kvs) from I.hok a _ ea)
  obtain⟨o,es,ep,h1,h2,_⟩:=p
  exact PySem.W.kia_one PySem.W.kitx_dict I.jK ⟨o,h1,h2.1⟩ e (λz=>nomatch z) h
 | @dT a kvs ea =>
  cases(show u=Value.ref a from rx)
  obtain⟨_,_,xs,_,o,es,ep,h1,h2,_⟩:=(show cu X.prog X.w H s.heap a (.dT kvs) from I.hok a _ ea)
  exact PySem.W.kia_one PySem.W.kitx_dict I.jK ⟨o,h1,h2.1⟩ e (λz=>nomatch z) h
 | @ins a C dx fs ea cl ha hn htk hm =>
  cases(show u=Value.ref a from rx)
  obtain⟨mA,O,_⟩:=F3 I.hok ea
  obtain⟨od,J,_⟩:=O.look
  exact PySem.W.kia_one (PySem.W.kitx_own (cl.get _) cl.hd ha hn htk hm) I.jK J e (λz=>nomatch z) h
end
structure eJ(k:Nat)(A:Around):Prop where
 hd:A.handled=none
 dp:A.depth+3*k+5<recursionLimit
 un:A.units+16*k+200<cLine
theorem eJ.mono{j k:Nat}{A:Around}(r:eJ k A)(h:j<=k):eJ j A:=⟨r.hd,by have:=r.dp; omega,by have:=r.un; omega⟩
theorem eJ.deeper{k:Nat}{A:Around}(r:eJ (k+1) A)(env:Env):eJ k (A.deeper env) :=
 ⟨r.hd,by have:=r.dp; show A.depth+1+3*k+5<_; omega,by have:=r.un; show A.units+3+16*k+200<_; omega⟩
theorem x9{A:Around}{C:Addr}{us:List Value}{kw:List (Str×Value)}:(A.under (.builtin "type.__call__" ⟨.ref C::us,kw⟩)).depth=A.depth+1:=by
 first | rfl | simp [Around.under,Code.weight,Code.isCreation,Code.isGuard,Code.isCaller,Code.frames,Code.isFrame,guardIds]
theorem wN{A:Around}{C:Addr}{us:List Value}{kw:List (Str×Value)}:(A.under (.builtin "type.__call__" ⟨.ref C::us,kw⟩)).units=A.units+1:=by
 first | rfl | simp [Around.under,Code.cUnits,Code.frames,Code.isFrame]
theorem eJ.make{k:Nat}{A:Around}(r:eJ (k+1) A)(C:Addr)(us:List Value)(kw:List (Str×Value)):eJ k (A.under (.builtin "type.__call__" ⟨.ref C::us,kw⟩)) :=
 ⟨r.hd,by have:=r.dp; rw [x9]; omega,by have:=r.un; rw [wN]; omega⟩
theorem eJ.depth{k:Nat}{A:Around}(r:eJ k A):A.depth<recursionLimit:=by have:=r.dp; omega
theorem eJ.units{k:Nat}{A:Around}(r:eJ k A):A.units+64<cLine:=by have:=r.un; omega
def fD:TA:=λ_ H Q=>Q [] H
def bp(ta:TE)(tr:TA):TA:=λσ H Q=>ta σ H λx H1=>tr σ H1 λxs H2=>Q (x::xs) H2
section
variable{X:Cx}{e:Expr}{es:List Expr}{te:TE}{t:TA}{pos:Pos}
theorem ah:PA X [] fD:=λ_ _ _ _ H Q I h=>Calls.spliced_nil ⟨[],H,I,.nil,h⟩
theorem ae(ha:PE X e te)(hr:PA X es t)(hs:starEach (e::es) X.env=(false,eval e X.env)::starEach es X.env:=by rfl):PA X (e::es) (bp te t):=by
 intro pos pins s σ H Q I h
 rw [hs]
 show wpAny _ _ (spliced ((false,eval e X.env)::backTo pos (starEach es X.env))) _ _ s
 refine Calls.spliced_cons (b_ (ha pins s σ H _ I h) λu s1 ⟨x,H1,I1,r1,q1⟩=>?_)
 exact b_ (hr pos pins s1 σ H1 _ I1 q1) λus s2 ⟨xs,H2,I2,r2,q2⟩=>⟨x::xs,H2,I2,.cons r1 r2,q2⟩
def FT(t:TA):TE:=λσ H Q=>t σ H λxs H1=>xs.length<=sizeLine/\∀p,H1 p=none->Q (.ref p) (upd H1 p (.tup xs))
def xi(t:TA):TE:=λσ H Q=>t σ H λxs H1=>xs.length<=sizeLine/\∀p,H1 p=none->Q (.ref p) (upd H1 p (.lst xs))
theorem aJ{x1}(h:PA X es t):PE X (.Tuple es x1 pos) (FT t):=by
 intro pins s σ H Q I hq
 refine wpAny_Tuple_spliced (b_ (h pos pins s σ H _ I hq) λus s1 ⟨xs,H1,I1,r,z,q⟩=>⟨by rw [←r.length]; exact z,?_⟩)
 have hf:H1 s1.heap.objs.size=none:=I1.hok.fresh (Uy _)
 refine⟨.ref s1.heap.objs.size,upd H1 s1.heap.objs.size (.tup xs),I1.laid (t':=s1.toks) (λb u e=>Uv _ e) (Uy _) ?_,rfl,q _ hf⟩
 exact⟨z,us,r,⟨_,Ux _ rfl,rfl,⟨_,rfl⟩,rfl⟩⟩
theorem aQ(h:PA X es t):PE X (.List es pos) (xi t):=by
 intro pins s σ H Q I hq
 refine wpAny_List_spliced (b_ (h pos pins s σ H _ I hq) λus s1 ⟨xs,H1,I1,r,z,q⟩=>⟨by rw [←r.length]; exact z,?_⟩)
 have hf:H1 s1.heap.objs.size=none:=I1.hok.fresh (Uy _)
 refine⟨.ref s1.heap.objs.size,upd H1 s1.heap.objs.size (.lst xs),I1.laid (t':=s1.toks) (λb u e=>Uv _ e) (Uy _) ?_,rfl,q _ hf⟩
 exact⟨z,us,0,r,Ux _ rfl⟩
end
abbrev Sp:=List V->Hp->VK->XK->Prop
abbrev nz:=List Env->Hp->Shared->XK->Value->Shared->Prop
structure xR(P:Program)(w:World)(K:PySem.W.Frag)(mg:Str->Option Value)(base:Heap)(A:Around)(outer:List Env)(s:Shared)(H:Hp):Prop where
 frames:A.frames=some outer
 mod:Mod K mg base
 bs:∀b o,base.get? b=some o->s.heap.get? b=some o/\H b=none
 A7:base.objs.size<=s.heap.objs.size
 kq:s.heap.FunFrames base outer
 Er:∀b∈frs outer,H b=none
 hok:i_ P w H s.heap
 bare:AllBare s.gens
def CE(outer:List Env)(P:Program)(w:World)(H:Hp)(s:Shared)(Q:VK)(u:Value)(s':Shared):Prop :=
 ∃v H',s'.os=s.os/\AllBare s'.gens/\Un (frs outer) [] H H' s.heap s'.heap/\i_ P w H' s'.heap/\RelV v u/\Q v H'
def CR(CX:nz)(outer:List Env)(P:Program)(w:World)(H:Hp)(s:Shared)(Q:VK)(E:XK)(r:Result)(s':Shared):Prop :=
 match r with
 | .ok (.ret u)=>CE outer P w H s Q u s'
 | .ok _=>False
 | .error e=>CX outer H s E e s'
structure e9(P:Program)(w:World)(K:PySem.W.Frag)(mg:Str->Option Value)(base:Heap)(CX:nz)(k:Nat)(f:Addr)(fd:FuncData)(ps:List Str)(sp:Sp):Prop where
 len:∀vs H Q E,sp vs H Q E->vs.length=ps.length
 run:∀(A:Around) (outer:List Env) (s:Shared) (H:Hp) (args:Args) (us:List Value) (vs:List V) (Q:VK) (E:XK),eJ k A->xR P w K mg base A outer s H->BindsTo s fd args (ps.zip us)->Vals vs us->sp vs H Q E->
  codeAny (model P w) A (.call (.ref f) args) (CR CX outer P w H s Q E) s
theorem e9.mono{P:Program}{w:World}{K:PySem.W.Frag}{mg:Str->Option Value}{base:Heap}{CX:nz}{j k:Nat}{f:Addr}{fd:FuncData}{ps:List Str}{sp:Sp}(F:e9 P w K mg base CX j f fd ps sp)(h:j<=k) :
  e9 P w K mg base CX k f fd ps sp:=⟨F.len,λA outer s H args us vs Q E hr=>F.run A outer s H args us vs Q E (hr.mono h)⟩
theorem e9.imp{P:Program}{w:World}{K:PySem.W.Frag}{mg:Str->Option Value}{base:Heap}{CX:nz}{k:Nat}{f:Addr}{fd:FuncData}{ps:List Str}{sp PU:Sp}(F:e9 P w K mg base CX k f fd ps sp)
  (h:∀vs H Q E,PU vs H Q E->sp vs H Q E):e9 P w K mg base CX k f fd ps PU :=
 ⟨λvs H Q E q=>F.len vs H Q E (h _ _ _ _ q),λA outer s H args us vs Q E hr he hb hv hs=>F.run A outer s H args us vs Q E hr he hb hv (h _ _ _ _ hs)⟩
theorem xR.make{P:Program}{w:World}{K:PySem.W.Frag}{mg:Str->Option Value}{base:Heap}{A:Around}{outer:List Env}{s:Shared}{H:Hp}(e:xR P w K mg base A outer s H)(C:Addr)(us:List Value)(kw:List (Str×Value)) :
  xR P w K mg base (A.under (.builtin "type.__call__" ⟨.ref C::us,kw⟩)) outer s H:=⟨by first | exact e.frames | (simpa [Around.under,Code.envs,Code.isFrame,pushEnvs] using e.frames),e.mod,e.bs,e.A7,e.kq,e.Er,e.hok,e.bare⟩
section
variable{X:Cx}{pins:List (Addr×Obj)}{σ:St}{H:Hp}{s s':Shared}
theorem Inv.env0(I:Inv X pins σ H s):xR X.prog X.w X.K X.mg X.base X.A X.stack s H :=
 ⟨I.ok.frames,I.ok.mod,I.bs,Uz I.ok.A7 I.sz,I.stack,I.nE,I.hok,I.bare⟩
theorem Inv.after{Q:VK}{u:Value}(I:Inv X pins σ H s)(h:CE X.stack X.prog X.w H s Q u s'):EP X pins σ Q u s':=by
 obtain⟨v,H',os,bare,un,hok,r,q⟩:=h
 obtain⟨hh,g,d,t,os'⟩:=s'
 obtain rfl:os'=s.os:=os
 exact⟨v,H',I.call (h':=hh) (g':=g) (d':=d) (t':=t) (ch:=[]) un hok bare (λb z=>absurd z (by simp)),r,q⟩
end
def i3(sp:Sp)(E6:List V)(E:XK)(t:TA):TE:=λσ H Q=>t σ H λvs H1=>sp (vs++E6) H1 Q E
def Binds(K:PySem.W.Frag)(fd:FuncData)(ps:List Str)(ds:List Value):Prop :=
 ∀(s:Shared) (us:List Value),K.In s.heap->(us++ds).length=ps.length->BindsTo s fd ⟨us,[]⟩ (ps.zip (us++ds))
theorem Binds.all{K:PySem.W.Frag}{fd:FuncData}{ps:List Str}(h:∀us:List Value,us.length=ps.length->bindArgs fd ⟨us,[]⟩=pure (ps.zip us)):Binds K fd ps []:=λs us _ hl=>by
 rw [List.append_nil]at hl⊢
 exact .of_eq (h us hl)
def Passes(CX:nz)(X:Cx)(E:XK):Prop:=∀(pins:List (Addr×Obj)) (σ:St) (H:Hp) (s:Shared) (e:Value) (s':Shared),Inv X pins σ H s->CX X.stack H s E e s'->X.xe e s'
section
variable{X:Cx}{CX:nz}{k:Nat}{f C:Addr}{fd:FuncData}{ps:List Str}{sp:Sp}{E6:List V}{ds:List Value}{E:XK}{x m:Str}{p pos apos:Pos}{e o:Expr}{es:List Expr}{ta:TE}{t:TA}
theorem Bb{pins:List (Addr×Obj)}{σ:St}{H:Hp}{s:Shared}{Q:VK}{us:List Value}{vs:List V}(F:e9 X.prog X.w X.K X.mg X.base CX k f fd ps sp)(hr:eJ k X.A)(hb:Binds X.K fd ps ds)(hd:Vals E6 ds)(hx:Passes CX X E)
  (I:Inv X pins σ H s) (r:Vals vs us) (h:sp (vs++E6) H Q E):wpAny (model X.prog X.w) X.A (call (.ref f) us) (EP X pins σ Q) X.xe s:=by
 have r2:Vals (vs++E6) (us++ds):=r.append hd
 have hl:(us++ds).length=ps.length:=by rw [←r2.length]; exact F.len _ _ _ _ h
 refine wpAny_call (codeAny_mono (F.run X.A X.stack s H ⟨us,[]⟩ (us++ds) (vs++E6) Q E hr I.env0 (hb s us I.jK hl) r2 h) λr s' hq=>?_)
 cases r with
 | error e=>exact hx pins σ H s e s' I hq
 | ok fl =>
  cases fl with
  | ret u=>exact I.after hq
  | next=>exact False.elim hq
  | brk=>exact False.elim hq
  | cont=>exact False.elim hq
theorem Gv(F:e9 X.prog X.w X.K X.mg X.base CX k f fd ps sp)(hr:eJ k X.A)(hg:Gl X x)(hm:X.mg x=some (.ref f))(hk:PySem.W.keepIn X.K (.ref f)=true)(hb:Binds X.K fd ps ds)(hd:Vals E6 ds)(hx:Passes CX X E)
  (ha:PA X (e::es) t) (hdb:(x==("__debug__" : Str))=false:=by decide) (he:starEach (e::es) X.env=(false,eval e X.env)::starEach es X.env:=by rfl) (hpl:(backTo pos (starEach es X.env)).any (·.1)=false:=by rfl) :
  PE X (.Call (.Name x p) (e::es) [] pos) (i3 sp E6 E t):=by
 intro pins s σ H Q I h
 refine wpAny_Call_Name_kw (nj I hg hm ?_ hdb)
 refine PySem.W.callWith_K (h₀:=X.base) I.ok.mod.KC hk (b_ (ha pos pins s σ H _ I h) λus s1 ⟨vs,H1,I1,r,q⟩=>⟨I1.jK,?_⟩) he hpl
 exact Bb F hr hb hd hx I1 r q
structure Mk(K:PySem.W.Frag)(C f:Addr):Prop where
 makes:PySem.W.makesIn K C=true
 init:PySem.W.findIn K (.ref C) "__init__"=some (some (.ref f))
 fn:PySem.W.isFn K (.ref f)=true
 kp:PySem.W.keepIn K (.ref C)=true
end
section
variable{X:Cx}{CX:nz}{k:Nat}{f C:Addr}{fd:FuncData}{ps ks:List Str}{sp:Sp}{E:XK}{x m:Str}{p pos apos PD:Pos}{e o:Expr}{es:List Expr}{kws:List Keyword}{te ta:TE}{t tk:TA}{nm:Option Str}
structure Oc(K:PySem.W.Frag)(fd:FuncData)(ps ks:List Str)(g:List Value->List Value->List Value)(gV:List V->List V->List V):Prop where
 to:∀(s:Shared) (us ws:List Value),K.In s.heap->(g us ws).length=ps.length->BindsTo s fd ⟨us,ks.zip ws⟩ (ps.zip (g us ws))
 rel:∀{vs:List V} {us:List Value} {zs:List V} {ws:List Value},Vals vs us->Vals zs ws->Vals (gV vs zs) (g us ws)
variable{g:List Value->List Value->List Value}{gV:List V->List V->List V}
end
structure az(N P:List Str)(sc:Scope):Prop where
 kind:sc.kind=.function
 co:sc.isCoroutine=false
 gen:sc.isGenerator=false
 nd:N.Nodup
 pre:N.take P.length=P
 par:∀x∈P,sc.names.lookup x=some .local\/sc.names.lookup x=some .cell
 J0:∀y∈sc.names,y.2≠ .free
theorem qT{kindOf:Str->Option NameKind}{x:Str}:∀{binds:List (Str×Value)} {m:Str->Option Value},(∀v,(x,v)∉binds)->bindL kindOf binds m x=m x
 | [],_,_=>rfl
 | (n,v)::r,m,h=>by
  unfold bindL
  rw [qT λw hw=>h w (UL _ hw)]
  split
  ·have:x≠n:=by rintro rfl; exact h v List.mem_cons_self
   simp [this]
  ·rfl
theorem qQ{kindOf:Str->Option NameKind}{x:Str}:∀{binds:List (Str×Value)} {m:Str->Option Value},(∀v,(x,v)∉binds)->bindC kindOf binds m x=m x
 | [],_,_=>rfl
 | (n,v)::r,m,h=>by
  unfold bindC
  rw [qQ λw hw=>h w (UL _ hw)]
  split
  ·rfl
  ·have:x≠n:=by rintro rfl; exact h v List.mem_cons_self
   simp [this]
theorem q_{kindOf:Str->Option NameKind}{x:Str}{v:Value}:∀{P:List Str} {vs:List Value} {i:Nat} {m:Str->Option Value},P.Nodup->P[i]? = some x->vs[i]? = some v->kindOf x=some .local->
  bindL kindOf (P.zip vs) m x=some v
 | [],_,_,_,_,h,_,_=>by simp at h
 | _::_,[],_,_,_,_,h,_=>by simp at h
 | p::P,w::vs,0,m,nd,h1,h2,hk=>by
  simp at h1 h2; subst h1; subst h2
  show bindL kindOf ((p,w)::P.zip vs) m p=_
  unfold bindL
  rw [qT λv hv=>(List.nodup_cons.mp nd).1 (List.of_mem_zip hv).1,if_pos hk]
  simp
 | p::P,w::vs,i+1,m,nd,h1,h2,hk=>by
  show bindL kindOf ((p,w)::P.zip vs) m x=_
  unfold bindL
  exact q_ (i:=i) (List.nodup_cons.mp nd).2 (by simpa using h1) (by simpa using h2) hk
theorem qZ{kindOf:Str->Option NameKind}{x:Str}{v:Value}:∀{P:List Str} {vs:List Value} {i:Nat} {m:Str->Option Value},P.Nodup->P[i]? = some x->vs[i]? = some v->kindOf x≠some .local->
  bindC kindOf (P.zip vs) m x=some v
 | [],_,_,_,_,h,_,_=>by simp at h
 | _::_,[],_,_,_,_,h,_=>by simp at h
 | p::P,w::vs,0,m,nd,h1,h2,hk=>by
  simp at h1 h2; subst h1; subst h2
  show bindC kindOf ((p,w)::P.zip vs) m p=_
  unfold bindC
  rw [qQ λv hv=>(List.nodup_cons.mp nd).1 (List.of_mem_zip hv).1,if_neg hk]
  simp
 | p::P,w::vs,i+1,m,nd,h1,h2,hk=>by
  show bindC kindOf ((p,w)::P.zip vs) m x=_
  unfold bindC
  exact qZ (i:=i) (List.nodup_cons.mp nd).2 (by simpa using h1) (by simpa using h2) hk
def start(N:List Str)(vs:List V):St:=vs.map some++List.replicate (N.length-vs.length) none
def qy(CX:nz)(P:Program)(w:World)(K:PySem.W.Frag)(mg:Str->Option Value)(base:Heap)(N:List Str)(qual:Str)(scope:Scope)(f:Addr)(cd:Value)(A:Around)(outer:List Env)(s:Shared)(H:Hp)(E:XK):Cx where
 prog:=P
 w:=w
 K:=K
 mg:=mg
 base:=base
 A:=A.deeper (envOfC qual scope s.heap.objs.size f cd)
 N:=N
 s₀:=s
 H₀:=H
 env:=envOfC qual scope s.heap.objs.size f cd
 outer:=outer
 stack:=envOfC qual scope s.heap.objs.size f cd::outer
 ex:=[]
 calm:=true
 fn:=λ_=>true
 pn:=[]
 xe:=λe s'=>wpAny (model P w) (A.deeper (envOfC qual scope s.heap.objs.size f cd)) (leaving (envOfC qual scope s.heap.objs.size f cd) e) (λ_ s''=>CX outer H s E e s'') (λe' s''=>CX outer H s E e' s'') s'
theorem uz{sc:Scope}{n:Nat}{x:Str}(h:sc.names.lookup x=some .cell):∃c,(cellsFrom n sc.names []).lookup x=some c:=by
 have q:=PySem.W.cellsFrom_some sc.names n [] (.inl h)
 exact Option.isSome_iff_exists.mp q
theorem As{CX:nz}{P:Program}{w:World}{K:PySem.W.Frag}{mg:Str->Option Value}{base:Heap}{N ps:List Str}{qual:Str}{scope:Scope}{f:Addr}{cd:Value}{A:Around}{outer:List Env}{s s1:Shared}{H:Hp}{E:XK}{us:List Value}{vs:List V}
  (S:az N ps scope) (hd:A.handled=none) (e0:xR P w K mg base A outer s H) (hl:vs.length=ps.length) (r:Vals vs us)
  (x:InCallC s s.heap.objs.size (bindL (envOfC qual scope s.heap.objs.size f cd).kindOf (ps.zip us) λ_=>none) (cellsFrom (s.heap.objs.size+1) scope.names []) (bindC (envOfC qual scope s.heap.objs.size f cd).kindOf (ps.zip us) λ_=>none) s1) :
  Inv (qy CX P w K mg base N qual scope f cd A outer s H E) [] (start N vs) H s1:=by
 have hpl:ps.length<=N.length:=by have:=congrArg List.length S.pre; rw [List.length_take]at this; omega
 obtain⟨h1,tk,rfl,hk⟩:=x.done
 have Ma:∀b:Addr,b∉(qy CX P w K mg base N qual scope f cd A outer s H E).ex:=λb z=>absurd (show b∈([]:List Addr) from z) (by simp)
 refine⟨⟨e0.mod,S.kind,rfl,rfl,Uy _,λy z c h1 h2=>?_,λy hy=>?_,λy c _ h=>?_,λ_=>hd,Around.frames_deeper e0.frames,.inr ⟨rfl,rfl⟩,λb z=>absurd z (Ma b),e0.bs,e0.A7,λb _ _=>Ma b,λb z=>absurd z (Ma b),e0.kq,e0.Er⟩,
  rfl,e0.bare,Un.kept hk,⟨_,x.toInCall.ns,λi y v h1 h2 h3=>?_⟩,λy c h=>⟨_,x.cell y c h⟩,e0.hok.fresh (Uy _),λy c h=>?_,λp hp=>absurd (show p∈([]:List (Addr×Obj)) from hp) (by simp),e0.hok.kept hk,?_⟩
 ·exact name_of_addr x.apart (PySem.mem_of_lookup h1) (PySem.mem_of_lookup h2)
 ·have hy:scope.names.lookup y=some .cell\/scope.names.lookup y=some .free:=hy
  rcases hy with hy | hy
  ·exact uz hy
  ·exact absurd rfl (S.J0 _ (PySem.mem_of_lookup hy))
 ·exact Nat.le_of_lt (x.above y c (PySem.mem_of_lookup h))
 ·have hi:i<vs.length:=by
   unfold start at h2
   by_cases hi:i<vs.length
   ·exact hi
   ·rw [List.getElem?_append_right (by simpa using hi)]at h2
    rw [List.getElem?_replicate]at h2
    split at h2 <;> cases h2
  have ha:vs[i]? = some v:=by
   unfold start at h2
   rw [List.getElem?_append_left (by simpa using hi),List.getElem?_map]at h2
   cases e:vs[i]? with
   | none=>rw [e]at h2; cases h2
   | some a=>rw [e]at h2; cases h2; rfl
  obtain⟨u,hu,rv⟩:=r.get ha
  have hp:ps[i]? = some y:=by
   rw [←S.pre,List.getElem?_take_of_lt (by omega)]; exact h1
  have PY:ps.Nodup:=by rw [←S.pre]; exact S.nd.sublist (List.take_sublist _ _)
  refine⟨u,rv,?_⟩
  rcases S.par y (UK hp)with k | k
  ·exact .inl ⟨k,q_ PY hp hu k⟩
  ·obtain⟨c,e⟩:=uz (n:=s.heap.objs.size+1) k
   refine .inr ⟨.inl k,c,e,?_⟩
   have q:=x.cell y c e
   rw [qZ PY hp hu (by show scope.names.lookup y≠_; rw [k]; decide)]at q
   exact q
 ·exact e0.hok.fresh (Nat.le_of_lt (x.above y c (PySem.mem_of_lookup h)))
 ·unfold start
  show _=N.length
  rw [UD,UC,List.length_replicate]
  omega
theorem HC{CX:nz}{P:Program}{w:World}{K:PySem.W.Frag}{mg:Str->Option Value}{base:Heap}{k:Nat}{f:Addr}{name qual:Str}{params:Arguments}{body:List Stmt}{scope:Scope}{dV kV doc pm cdv ct oc:Value}{an od:Option Addr}
  {osl:Array (Option Value)} {N ps:List Str} {sp:Sp} (lk:K.lookup f=some ⟨oc,od,.func (PySem.W.fnOf name qual params body scope dV kV doc pm an cdv ct),osl⟩) (hcd:PySem.W.codeIn K cdv qual=true) (S:az N ps scope)
  (len:∀vs H Q E,sp vs H Q E->vs.length=ps.length)
  (hbody:∀(A:Around) (outer:List Env) (s:Shared) (H:Hp) (vs:List V) (Q:VK) (E:XK),eJ k (A.deeper (envOfC qual scope s.heap.objs.size f cdv))->sp vs H Q E->
   ∃t,nN (qy CX P w K mg base N qual scope f cdv A outer s H E) body t/\t {nx:=λ_ H'=>Q .non H',rt:=Q} (start N vs) H) :
  e9 P w K mg base CX (k+1) f (PySem.W.fnOf name qual params body scope dV kV doc pm an cdv ct) ps sp:=by
 refine⟨len,λA outer s H args us vs Q E hr e0 hb r hsp=>?_⟩
 have hl:=len _ _ _ _ hsp
 have KX:K.In s.heap:=e0.mod.KC.keeps λb o e=>(e0.bs b o e).1
 have lim:s.heap.NoLimit:=e0.mod.nolimit.keeps λb o e=>(e0.bs b o e).1
 have hkind:∀y∈ps.zip us,scope.names.lookup y.1=some .local\/(scope.names.lookup y.1=some .cell/\((cellsFrom (s.heap.objs.size+1) scope.names []).lookup y.1).isSome=true):=λ⟨n,v⟩ hy=>by
  rcases S.par n (List.of_mem_zip hy).1 with q | q
  ·exact .inl q
  ·exact .inr ⟨q,PySem.W.cellsFrom_some _ _ _ (.inl q)⟩
 refine codeAny_call_function hr.depth (KX _ _ lk) rfl S.co S.gen rfl (PySem.W.codeRec_of KX hcd) (hb _ _ _ _ ?_)
 refine wpAny_newFunctionEnv_cells S.kind hkind λenv he s1 x=>?_
 subst he
 refine⟨lim.keeps x.toInCall.keep,codeAny_func ?_⟩
 obtain⟨t,ht,hq⟩:=hbody A outer s H vs Q E (hr.deeper _) hsp
 have I:Inv (qy CX P w K mg base N qual scope f cdv A outer s H E) [] (start N vs) H s1:=As S hr.hd e0 hl r x
 refine wpAny_mono (ht [] s1 (start N vs) H _ I hq) (λfl s' hs=>?_) λe s' hs=>hs
 have fin:∀{σ':St} {H':Hp} {v:V} {u:Value},Inv (qy CX P w K mg base N qual scope f cdv A outer s H E) [] σ' H' s'->RelV v u->Q v H'->CE outer P w H s Q u s' :=
  λ{σ' H' v u} J rv q=>⟨v,H',J.os,J.bare,J.base,J.hok,rv,q⟩
 cases fl with
 | ret u =>
  obtain⟨v,σ',H',J,rv,q⟩:=hs
  exact fin J rv q
 | next =>
  obtain⟨σ',H',J,q⟩:=hs
  exact fin (v:=V.non) (u:=Value.none) J rfl q
 | brk =>
  obtain⟨_,_,_,q⟩:=hs
  exact False.elim q
 | cont =>
  obtain⟨_,_,_,q⟩:=hs
  exact False.elim q
section
variable{X:Cx}{x:Str}{p pos:Pos}{e:Expr}{es:List Expr}{t:TA}{id T:String}{r:List V->Hp->VK->Prop}
def Ky(r:List V->Hp->VK->Prop)(t:TA):TE:=λσ H Q=>t σ H λvs H1=>r vs H1 Q
theorem a_(hc:fu X (.builtin id) r)(hg:Gl X x)(hm:X.mg x=none)(hv:bootBuiltins x=some (.builtin id))(ha:PA X (e::es) t)(hn:x≠"__name__":=by decide)(hdb:(x==("__debug__" : Str))=false:=by decide)
  (he:starEach (e::es) X.env=(false,eval e X.env)::starEach es X.env:=by rfl) (hpl:(backTo pos (starEach es X.env)).any (·.1)=false:=by rfl):PE X (.Call (.Name x p) (e::es) [] pos) (Ky r t):=by
 intro pins s σ H Q I h
 refine wpAny_Call_Name_kw (iG I hg hm hv ?_ hn hdb)
 exact PyProof.Rows.callWith_builtin1 (b_ (ha pos pins s σ H _ I h) λus s1 ⟨vs,H1,I1,r1,q1⟩=>hc pins s1 σ H1 vs us Q I1 r1 q1) he hpl
theorem aV(hc:fu X (.type T) r)(hg:Gl X x)(hm:X.mg x=none)(hv:bootBuiltins x=some (.type T))(ha:PA X (e::es) t)(hn:x≠"__name__":=by decide)(hdb:(x==("__debug__" : Str))=false:=by decide)
  (he:starEach (e::es) X.env=(false,eval e X.env)::starEach es X.env:=by rfl) (hpl:(backTo pos (starEach es X.env)).any (·.1)=false:=by rfl):PE X (.Call (.Name x p) (e::es) [] pos) (Ky r t):=by
 intro pins s σ H Q I h
 refine wpAny_Call_Name_kw (iG I hg hm hv ?_ hn hdb)
 exact PyProof.Rows.callWith_type1 (b_ (ha pos pins s σ H _ I h) λus s1 ⟨vs,H1,I1,r1,q1⟩=>hc pins s1 σ H1 vs us Q I1 r1 q1) he hpl
end
end L2
namespace HT
open PySem PyProof.Rows
section
open PySem.SeqAt
open PySem.AutoSeq1 (wpAny_loadPart')
open PySem.MeetsSeq PySem.MeetsSeq2 PySem.MeetsSeq3
end
section
variable{prog:Program}{w:World}{A:Around}{E:Value->Shared->Prop}{s:Shared}
theorem Gk{t b:Addr}{vs ws:List Value}{Q:Value->Shared->Prop}(ht:IsTup s.heap t vs.toArray)(hb:IsTup s.heap b ws.toArray)(hv:vs≠[])
  (h1:ws=[]->Q (.ref t) s) (h2:ws≠[]->Q (.ref s.heap.objs.size) {s with heap:=s.heap.push {cls:=.type "tuple",data:=.seq (vs++ws).toArray}})
  (hsz:vs.length+ws.length<=sizeLine):wpAny (model prog w) A (binaryOp .Add (.ref t) (.ref b)) Q E s:=by
 obtain⟨⟨cls,dd,data,sl⟩,ho,hc,n,hd⟩:=id ht
 obtain⟨⟨cls2,dd2,data2,sl2⟩,ho2,hc2,n2,hd2⟩:=id hb
 simp only at hc hd hc2 hd2
 subst hc hd hc2 hd2
 have e:vs.toArray++ws.toArray=(vs++ws).toArray:=by simp
 by_cases hw:ws=[]
 ·exact concat_meets ⟨_,ho,rfl⟩ ⟨_,ho2,rfl⟩ noFill_tuple_add seq_tuple_add PySem.F.slot_tuple_add PySem.F.entry_tuple_add (PySem.F.args_tuple_add_2 _ _)
   (tuple_addW1 t b vs.toArray ws.toArray n n2 dd dd2 sl sl2 (by simpa using hv) (by simp [hw])) ⟨ho,ho2,h1 hw⟩
 ·refine concat_meets ⟨_,ho,rfl⟩ ⟨_,ho2,rfl⟩ noFill_tuple_add seq_tuple_add PySem.F.slot_tuple_add PySem.F.entry_tuple_add (PySem.F.args_tuple_add_2 _ _)
   (tuple_addW2 t b vs.toArray ws.toArray n n2 dd dd2 sl sl2 (by simpa using hv) (by simpa using hw) (by rw [UN,UN]; exact hsz)) ⟨ho,ho2,?_⟩
  rw [e]
  exact h2 hw
def dG(n d:Nat):Option Int->Nat
 | none=>d
 | some v=>if v<0 then(v+(n:Int)).toNat else min v.toNat n
theorem nI(n d:Nat):dG n d none=d:=rfl
theorem yK(n d k:Nat):dG n d (some (k:Int))=min k n:=by
 show(if(k:Int)<0 then((k:Int)+(n:Int)).toNat else min (k:Int).toNat n)=min k n
 rw [if_neg (by omega),Int.toNat_natCast]
theorem J3(n d:Nat)(hd:d<=n)(o:Option Int):dG n d o<=n:=by
 cases o with
 | none=>exact hd
 | some v =>
  show(if v<0 then(v+(n:Int)).toNat else min v.toNat n)<=n
  by_cases hv:v<0
  ·rw [if_pos hv]; omega
  ·rw [if_neg hv]; exact Nat.min_le_right _ _
theorem zc(v:Int)(n d:Nat):(if v<0 then max (v+(n:Int)) 0 else min v (n:Int))=((dG n d (some v):Nat):Int):=by
 show(if v<0 then max (v+(n:Int)) 0 else min v (n:Int))=(((if v<0 then(v+(n:Int)).toNat else min v.toNat n):Nat):Int)
 by_cases hv:v<0
 ·simp only [if_pos hv]; omega
 ·simp only [if_neg hv]; omega
theorem xU(lo hi:Option Int)(n:Nat):Builtin.Slice.sliceAdjust lo hi 1 (n:Int)=(((dG n 0 lo:Nat):Int),((dG n n hi:Nat):Int)):=by
 have h1:¬((1:Int)<0):=by omega
 unfold Builtin.Slice.sliceAdjust
 simp only [h1,if_false]
 refine Prod.ext ?_ ?_
 ·cases lo with
  | none=>rfl
  | some v=>exact zc v n 0
 ·cases hi with
  | none=>rfl
  | some v=>exact zc v n n
theorem yf(i j:Nat):Builtin.Slice.slicePlaces (i:Int) (j:Int) 1=j-i:=by
 unfold Builtin.Slice.slicePlaces
 have h1:(1:Int) > 0:=by omega
 simp only [h1,if_true,Int.ediv_one]
 split <;> omega
theorem oY{v:Value}{o:Option Int}{Q:Option Int->Shared->Prop}(p:IsPart v o)(h:Q o s):wpAny (model prog w) A (Builtin.Slice.slicePartIndex v) Q E s:=by
 cases p with
 | none=>exact slicePart_none h
 | int i t=>exact slicePart_int h
theorem ix{sl:Addr}{vl vu:Value}{lo hi:Option Int}{n:Nat}{Q:Int×Int×Nat->Shared->Prop}(hs:s.heap.IsSliceOf sl vl vu .none)(pl:IsPart vl lo)(pu:IsPart vu hi)
  (h:Q (((dG n 0 lo:Nat):Int),1,dG n n hi-dG n 0 lo) s):wpAny (model prog w) A (Builtin.Slice.sliceApplied (.ref sl) (pure (n:Int))) Q E s:=by
 obtain⟨os,hos,hcs,hds⟩:=id hs
 unfold Builtin.Slice.sliceApplied Builtin.Slice.sliceFields
 refine Ut (Ut (wpAny_field hos hds (x:=vl) rfl (Ut (wpAny_field hos hds (x:=vu) rfl (Ut (wpAny_field hos hds (x:=.none) rfl (Uu ?_)))))))
 refine Ut (slicePart_none ?_)
 show wpAny _ _ (if((1:Int)==0)=true then _ else _) _ _ s
 rw [if_neg (by decide)]
 refine Ut (oY pl (Ut (oY pu (Ut (Uu ?_)))))
 show wpAny _ _ (match Builtin.Slice.sliceAdjust lo hi 1 (n:Int)with | (lo,hi)=>pure (lo,(1:Int),Builtin.Slice.slicePlaces lo hi 1)) _ _ s
 rw [xU lo hi n]
 show wpAny _ _ (pure (((dG n 0 lo:Nat):Int),(1:Int),Builtin.Slice.slicePlaces ((dG n 0 lo:Nat):Int) ((dG n n hi:Nat):Int) 1)) _ _ s
 rw [yf]
 exact Uu h
theorem C2(xs:Array Value)(i k:Nat):((List.range k).filterMap λ(m:Nat)=>xs[((i:Int)+(m:Int)*1).toNat]?).toArray=((xs.toList.drop i).take k).toArray:=by
 have e:(λ(m:Nat)=>xs[((i:Int)+(m:Int)*1).toNat]?) = λm=>xs[i+m]?:=by
  funext m
  have:((i:Int)+(m:Int)*1).toNat=i+m:=by omega
  rw [this]
 rw [e]
 have:=pick_run xs i k
 rw [List.filterMap_map]at this
 have e2:((λx=>xs[x]?)∘ λx=>i+x) = λm=>xs[i+m]?:=rfl
 rw [e2]at this
 rw [this]
theorem lb{t sl:Addr}{items:Array Value}{vl vu:Value}{lo hi:Option Int}{Q:Value->Shared->Prop}(ht:IsTup s.heap t items)(hs:s.heap.IsSliceOf sl vl vu .none)(pl:IsPart vl lo)(pu:IsPart vu hi)
  (hw:¬(dG items.size 0 lo=0/\dG items.size items.size hi=items.size))
  (h:Q (.ref s.heap.objs.size) {s with heap:=s.heap.push {cls:=.type "tuple",data:=.seq ((items.toList.drop (dG items.size 0 lo)).take (dG items.size items.size hi-dG items.size 0 lo)).toArray}})
  (hsz:items.size<=sizeLine):wpAny (model prog w) A (getItem (.ref t) (.ref sl)) Q E s:=by
 have zj:sizeOk (.seq ((items.toList.drop (dG items.size 0 lo)).take (dG items.size items.size hi-dG items.size 0 lo)).toArray):=by
  show((items.toList.drop (dG items.size 0 lo)).take (dG items.size items.size hi-dG items.size 0 lo)).toArray.size<=sizeLine
  rw [UN,List.length_take,List.length_drop,Array.length_toList]
  omega
 have hj:dG items.size items.size hi<=items.size:=J3 _ _ (Uy _) hi
 obtain⟨os,hos,hcs,hds⟩:=id hs
 have hTs:s.TypeIs (.ref sl) "slice":=⟨os,hos,hcs⟩
 unfold getItem
 try with_reducible refine wpAny_holding ?_
 first | refine Ut (Uu ?_) | skip
 refine Ut (wpAny_sequenceKey ht.typeIs (by decide) ?_)
 refine Ut (wpAny_callSpecial?_slot (name:=Str.ofString "__getitem__") ht.typeIs PyProof.Rows.slot_tuple_getitem
  (wpAny_call_entry PyProof.Rows.slot_tuple_getitem ht.typeIs entry_tuple_getitem ?_ (args_tuple_getitem _ _)))
 show wpAny _ _ (Builtin.Tuple.tupleItemsOf (.ref t) >>= _) _ _ s
 refine Ut (tupleItemsOf_ ht ?_)
 refine Ut (wpAny_typeOf hTs ?_)
 rw [if_pos (by decide)]
 refine Ut (ix hs pl pu ?_)
 have hno:¬((((dG items.size 0 lo:Nat):Int)==0&&(1:Int)==1&&(dG items.size items.size hi-dG items.size 0 lo)==items.size)=true):=by
  intro q
  rw [Bool.and_eq_true,Bool.and_eq_true]at q
  have q1:((dG items.size 0 lo:Nat):Int)=0:=eq_of_beq q.1.1
  have q2:dG items.size items.size hi-dG items.size 0 lo=items.size:=eq_of_beq q.2
  exact hw ⟨by omega,by omega⟩
 show wpAny _ _ (if(((dG items.size 0 lo:Nat):Int)==0&&(1:Int)==1&&(dG items.size items.size hi-dG items.size 0 lo)==items.size)=true then _ else _) _ _ s
 rw [if_neg hno,C2]
 first
  | exact Ut (m:=Builtin.Tuple.tupleExact _) (wpAny_newObj_type (Uu ⟨_,rfl,Uu h⟩) zj)
  | exact Ut (m:=Builtin.Tuple.tupleExact _) (wpAny_newObj_type (Ut (Uu (Uu ⟨_,rfl,Uu h⟩))) zj)
  | exact Ut (Ut (m:=Builtin.Tuple.tupleExact _) (wpAny_newObj_type (Uu (Uu ⟨_,rfl,Uu h⟩)) zj))
  | exact Ut (Ut (m:=Builtin.Tuple.tupleExact _) (wpAny_newObj_type (Uu ⟨_,rfl,Uu h⟩) zj))
end
end HT
namespace L2
open PySem PySem.Spec PyProof.Rows
abbrev TO:=St->Hp->(Option Int->Hp->Prop)->Prop
def PO(X:Cx)(e:Option Expr)(t:TO):Prop :=
 ∀(pins:List (Addr×Obj)) (s:Shared) (σ:St) (H:Hp) (Q:Option Int->Hp->Prop),Inv X pins σ H s->t σ H Q->
  wpAny (model X.prog X.w) X.A (evalPart e X.env) (λu s'=>∃o H',Inv X pins σ H' s'/\IsPart u o/\Q o H') X.xe s
def Gp:TO:=λ_ H Q=>Q none H
def MG(t:TE):TO:=λσ H Q=>t σ H λx H1=>∃i,x=.int i/\Q (some i) H1
section
variable{X:Cx}{e:Expr}{te:TE}{lo hi:Option Expr}{tl th:TO}{pos p2:Pos}
theorem dz:PO X none Gp:=by
 intro pins s σ H Q I h
 rw [evalPart_none]
 exact Uu ⟨none,H,I,.none,h⟩
theorem cB(h:PE X e te):PO X (some e) (MG te):=by
 intro pins s σ H Q I hw
 rw [evalPart_some]
 refine b_ (h pins s σ H _ I hw) λu s1 ⟨x,H1,I1,r1,q1⟩=>?_
 obtain⟨i,rfl,q⟩:=q1
 obtain⟨t,rfl⟩:=r1
 exact⟨some i,H1,I1,.int i t,q⟩
def Fz(X:Cx)(r:V->Option Int->Option Int->Hp->VK->Prop):Prop :=
 ∀(pins:List (Addr×Obj)) (s:Shared) (σ:St) (H:Hp) (x:V) (v vl vu:Value) (lo hi:Option Int) (sl:Addr) (Q:VK),Inv X pins σ H s->RelV x v->s.heap.IsSliceOf sl vl vu .none->IsPart vl lo->IsPart vu hi->r x lo hi H Q->
  ∃T id,typeLookup (.type T) "__getitem__"=pure (some (.builtin id))/\s.TypeIs v T/\wpAny (model X.prog X.w) X.A (getItem v (.ref sl)) (EP X pins σ Q) X.xe s
theorem Fz.or{r r':V->Option Int->Option Int->Hp->VK->Prop}(h:Fz X r)(h':Fz X r'):Fz X (λx lo hi H Q=>r x lo hi H Q\/r' x lo hi H Q):=by
 intro pins s σ H x v vl vu lo hi sl Q I rx hs pl pu q
 rcases q with q | q
 ·exact h pins s σ H x v vl vu lo hi sl Q I rx hs pl pu q
 ·exact h' pins s σ H x v vl vu lo hi sl Q I rx hs pl pu q
def Tc(r:V->Option Int->Option Int->Hp->VK->Prop)(te:TE)(tl th:TO):TE:=λσ H Q=>te σ H λx H1=>tl σ H1 λl H2=>th σ H2 λu H3=>r x l u H3 Q
theorem cz{r:V->Option Int->Option Int->Hp->VK->Prop}(hr:Fz X r)(he:PE X e te)(hl:PO X lo tl)(hu:PO X hi th):PE X (.Subscript e (.Slice lo hi none p2) pos) (Tc r te tl th):=by
 intro pins s σ H Q I h
 refine Subscript_ (b_ (he pins s σ H _ I h) λv s1 ⟨x,H1,I1,r1,q1⟩=>?_)
 refine wpAny_Slice (b_ (hl pins s1 σ H1 _ I1 q1) λvl s2 ⟨l,H2,I2,pl,q2⟩=>b_ (hu pins s2 σ H2 _ I2 q2) λvu s3 ⟨u,H3,I3,pu,q3⟩=>?_)
 rw [evalPart_none]
 refine Uu ?_
 have I4:Inv X pins σ H3 {s3 with heap:=s3.heap.push {cls:=.type "slice",data:=.fields #[vl,vu,.none]}}:=I3.kept (t':=s3.toks) λb ob q=>Uv _ q
 obtain⟨T,id,hT,ht,hg⟩:=hr pins {s3 with heap:=s3.heap.push {cls:=.type "slice",data:=.fields #[vl,vu,.none]}} σ H3 x v vl vu l u s3.heap.objs.size Q I4 r1 (Heap.IsSliceOf.new ..) pl pu q3
 show wpAny (model X.prog X.w) X.A (subscriptTail e (.Slice lo hi none p2) v (.ref s3.heap.objs.size)) (EP X pins σ Q) X.xe {s3 with heap:=s3.heap.push {cls:=.type "slice",data:=.fields #[vl,vu,.none]}}
 exact tail_any (ops:=[.ref s3.heap.objs.size,v]) ht hT hg (by with_unfolding_all rfl)
def gj(xs:List V)(lo hi:Option Int):List V:=(xs.drop (HT.dG xs.length 0 lo)).take (HT.dG xs.length xs.length hi-HT.dG xs.length 0 lo)
theorem mq(xs:List V)(lo hi:Option Int):(gj xs lo hi).length<=xs.length:=by
 unfold gj
 rw [List.length_take,List.length_drop]
 omega
def Mh(K:PySem.W.Frag):V->Option Int->Option Int->Hp->VK->Prop:=λx lo hi H Q=>∃a xs,x=.ref a/\aH K H a xs/\
 ¬(HT.dG xs.length 0 lo=0/\HT.dG xs.length xs.length hi=xs.length)/\∀p,H p=none->Q (.ref p) (upd H p (.tup (gj xs lo hi)))
theorem D0:Fz X (Mh X.K):=by
 intro pins s σ H x v vl vu lo hi sl Q I rx hs pl pu h
 obtain⟨a,xs,rfl,hx,hw,q⟩:=h
 cases rx
 obtain⟨its,r,ht,hz⟩:=I.tuple hx
 have hlen:its.toArray.size=xs.length:=by rw [UN]; exact r.length.symm
 refine⟨"tuple",_,PyProof.Rows.slot_tuple_getitem.lookup,ht.typeIs,?_⟩
 refine HT.lb ht hs pl pu (by rw [hlen]; exact hw) ?_ (by rw [hlen]; exact hz)
 rw [hlen]
 refine⟨.ref s.heap.objs.size,_,I.laid (t':=s.toks) (o:=.tup (gj xs lo hi)) (λb ob q=>Uv _ q) (Uy _) ?_,rfl,q _ (I.hok.fresh (Uy _))⟩
 exact⟨Uz (mq xs lo hi) hz,_,(r.drop (HT.dG xs.length 0 lo)).take (HT.dG xs.length xs.length hi-HT.dG xs.length 0 lo),gG.new _ _⟩
def Hf(K:PySem.W.Frag):R2:=λx y H Q=>∃a b xs ys,x=.ref a/\y=.ref b/\aH K H a xs/\aH K H b ys/\xs≠[]/\xs.length+ys.length<=sizeLine/\
 (ys=[]->Q (.ref a) H)/\(ys≠[]->∀p,H p=none->Q (.ref p) (upd H p (.tup (xs++ys))))
theorem Vals.sY{xs:List V}{us:List Value}(r:Vals xs us):us=[]↔xs=[]:=by
 cases r with
 | nil=>simp
 | cons _ _=>simp
theorem rW:i8 X (binaryOp .Add) (Hf X.K):=by
 intro pins s σ H x y v u Q I rx ry h
 obtain⟨a,b,xs,ys,rfl,rfl,ha,hb,hx,hz,q1,q2⟩:=h
 cases rx
 cases ry
 obtain⟨its,r1,p1,_⟩:=I.tuple ha
 obtain⟨its2,r2,p2,_⟩:=I.tuple hb
 refine HT.Gk p1 p2 (λz=>hx (r1.sY.mp z)) (λz=>⟨.ref a,H,I,rfl,q1 (r2.sY.mp z)⟩) (λz=>?_) (by rw [←r1.length,←r2.length]; exact hz)
 refine⟨.ref s.heap.objs.size,_,I.laid (t':=s.toks) (o:=.tup (xs++ys)) (λb ob q=>Uv _ q) (Uy _) ?_,rfl,q2 (λw=>z (r2.sY.mpr w)) _ (I.hok.fresh (Uy _))⟩
 exact⟨by rw [UD]; exact hz,_,r1.append r2,gG.new _ _⟩
end
def v5(n:Nat)(i:Int):Option Nat:=if 0<=i then(if i<n then some i.toNat else none)else if -(n:Int)<=i then some (i+n).toNat else none
def ja{α:Type}(xs:List α)(i:Int):Option α:=(v5 xs.length i).bind λj=>xs[j]?
theorem yV{n:Nat}{i:Int}{j:Nat}(h:v5 n i=some j):seqIndex? i n=some j/\j<n/\-(n:Int)<=i/\i<n:=by
 unfold v5 at h
 by_cases h0:0<=i
 ·rw [if_pos h0]at h
  by_cases h1:i<n
  ·rw [if_pos h1]at h
   have e:i.toNat=j:=Option.some.inj h
   exact⟨by rw [seqIndex_of h0 h1,e],by omega,by omega,h1⟩
  ·rw [if_neg h1]at h; cases h
 ·rw [if_neg h0]at h
  by_cases h1:-(n:Int)<=i
  ·rw [if_pos h1]at h
   have e:(i+n).toNat=j:=Option.some.inj h
   exact⟨by rw [seqIndex_neg (by omega) h1,e],by omega,h1,by omega⟩
  ·rw [if_neg h1]at h; cases h
theorem tH{α:Type}{xs:List α}{i:Int}{v:α}(h:ja xs i=some v):∃j,seqIndex? i xs.length=some j/\xs[j]? = some v/\j<xs.length/\-(xs.length:Int)<=i/\i<xs.length:=by
 unfold ja at h
 cases e:v5 xs.length i with
 | none=>rw [e]at h; cases h
 | some j =>
  rw [e]at h
  obtain⟨h1,h2,h3,h4⟩:=yV e
  exact⟨j,h1,h,h2,h3,h4⟩
theorem av{α:Type}{xs:List α}{j:Nat}{v:α}(h:xs[j]? = some v):ja xs (j:Int)=some v:=by
 have hj:j<xs.length:=(List.getElem?_eq_some_iff.mp h).1
 have e:v5 xs.length (j:Int)=some j:=by
  unfold v5
  rw [if_pos (by omega),if_pos (by omega)]; simp
 unfold ja; rw [e]; exact h
theorem oK{α:Type}(xs:List α)(v:α):ja (xs++[v]) (-1)=some v:=by
 have hl:(xs++[v]).length=xs.length+1:=by simp
 have e:v5 (xs++[v]).length (-1)=some xs.length:=by
  unfold v5
  rw [hl,if_neg (by decide),if_pos (by omega)]
  congr 1
  omega
 unfold ja
 rw [e]
 show(xs++[v])[xs.length]? = some v
 simp
def nq(b:Expr):Prop:=∀o i,subscripted b false o i=operate [o,i] (getItem o i)
def LB(X:Cx)(r:R2):Prop :=
 ∀(value slice:Expr) (pins:List (Addr×Obj)) (s:Shared) (σ:St) (H:Hp) (x y:V) (v u:Value) (Q:VK),Inv X pins σ H s->RelV x v->RelV y u->r x y H Q->
  subscripted slice false v u=operate [v,u] (getItem v u)->wpAny (model X.prog X.w) X.A (subscriptTail value slice v u) (EP X pins σ Q) X.xe s
def Qp(X:Cx)(id:String)(r:V->List V->Hp->VK->Prop):Prop :=
 ∀(pins:List (Addr×Obj)) (s:Shared) (σ:St) (H:Hp) (x:V) (xs:List V) (v:Value) (us:List Value) (Q:VK),Inv X pins σ H s->RelV x v->Vals xs us->r x xs H Q->
  wpAny (model X.prog X.w) X.A (call (.builtin id) (v::us)) (EP X pins σ Q) X.xe s
section
variable{X:Cx}{a b:Expr}{ta tb:TE}{pos:Pos}
theorem gm{r:R2}(hr:LB X r)(ha:PE X a ta)(hb:PE X b tb)(hs:nq b):PE X (.Subscript a b pos) (gO r ta tb):=by
 intro pins s σ H Q I h
 exact Subscript_ (Jr ha hb I h λv u s2 x y H2 I2 rx ry q=>hr a b pins s2 σ H2 x y v u Q I2 rx ry q (hs _ _))
def wb(K:PySem.W.Frag):R2:=λx y H Q=>∃p xs i v,x=.ref p/\y=.int i/\aZ K H p xs/\ja xs i=some v/\Q v H
def tJ(K:PySem.W.Frag):R2:=λx y H Q=>∃p xs i v,x=.ref p/\y=.int i/\aH K H p xs/\ja xs i=some v/\Q v H
def N6:R2:=λx y H Q=>∃z i c,x=.str z/\y=.int i/\z.length<=sizeLine/\ja z.cps.toList i=some c/\Q (.str ⟨#[c]⟩) H
theorem fF:LB X (wb X.K):=by
 intro value slice pins s σ H x y v u Q I rx ry h hs
 obtain⟨p,xs,i,z,rfl,rfl,hq,he,q⟩:=h
 cases rx
 obtain⟨t,rfl⟩:=ry
 obtain⟨its,r,pl,hz⟩:=I.list hq
 obtain⟨j,h1,h2,h3,h4,h5⟩:=tH he
 obtain⟨w,ew,wK⟩:=r.get h2
 have hl:=r.length
 have hn:=lI
 have fin:EP X pins σ Q w s:=⟨z,H,I,wK,q⟩
 by_cases h0:0<=i
 ·have hj:i.toNat=j:=by
   rw [seqIndex_of h0 h5]at h1
   exact Option.some.inj h1
  exact item_listR pl.isList h0 (by omega) (by rw [hj]; simpa using ew) fin hs
 ·have hj:(i+(its.toArray.size:Int)).toNat=j:=by
   rw [seqIndex_neg (by omega) h4]at h1
   rw [UN,←hl]
   exact Option.some.inj h1
  exact subscriptTail_builtinR (x:=w) pl.isList.typeIs slot_list_getitem.lookup
   (wpAny_getItem_list_neg (Q:=λr s'=>r=w/\EP X pins σ Q r s') pl.isList (by omega) (by rw [UN] <;> omega) (by omega) (by rw [hj]; simpa using ew) ⟨rfl,fin⟩) hs
theorem Dm:LB X (tJ X.K):=by
 intro value slice pins s σ H x y v u Q I rx ry h hs
 obtain⟨p,xs,i,z,rfl,rfl,hq,he,q⟩:=h
 cases rx
 obtain⟨t,rfl⟩:=ry
 obtain⟨its,r,pl,hz⟩:=I.tuple hq
 obtain⟨j,h1,h2,h3,h4,h5⟩:=tH he
 obtain⟨w,ew,wK⟩:=r.get h2
 have hl:=r.length
 have hn:=lI
 have fin:EP X pins σ Q w s:=⟨z,H,I,wK,q⟩
 exact subscriptTail_builtinR (x:=w) pl.typeIs slot_tuple_getitem.lookup
  (getItem_tuple (j:=j) (Q:=λr s'=>r=w/\EP X pins σ Q r s') pl (by omega) (by omega) (by rw [UN,←hl]; exact h1) (by simpa using ew) ⟨rfl,fin⟩) hs
theorem J5:LB X N6:=by
 intro value slice pins s σ H x y v u Q I rx ry h hs
 obtain⟨z,i,c,rfl,rfl,hz,he,q⟩:=h
 obtain⟨t,rfl⟩:=rx
 obtain⟨t',rfl⟩:=ry
 obtain⟨j,h1,h2,h3,h4,h5⟩:=tH he
 have hl:z.cps.toList.length=z.length:=by simp [Str.length]
 rw [hl]at h1 h4 h5
 have hn:=lI
 exact tail_any (typeIs_str s z t) slot_str_getitem.lookup (getItem_str (c:=c) (by
  have e1:decide (i < -(2 ^ 63:Int))=false:=UA (by omega)
  have e2:decide (i≥2 ^ 63)=false:=UA (by omega)
  rw [e1,e2,Bool.or_false]) (by rw [h1]; simpa using h2) ⟨.str ⟨#[c]⟩,H,I.tok _,⟨_,rfl⟩,q⟩) hs
theorem xE(its:List Value)(n j:Nat)(u:Value):Obj.mapSeq (·.setIfInBounds j u) {cls:=.type "list",data:=.seq its.toArray n} ={cls:=.type "list",data:=.seq (its.set j u).toArray n}:=by
 simp [Obj.mapSeq]
theorem Inv.lst{pins:List (Addr×Obj)}{σ:St}{H:Hp}{s:Shared}{p:Addr}{xs:List V}(I:Inv X pins σ H s)(h:H p=some (.lst xs)) :
  ∃(its:List Value) (n:Nat),Vals xs its/\s.heap.get? p=some {cls:=.type "list",data:=.seq its.toArray n}/\xs.length<=sizeLine:=by
 obtain⟨z,its,n,r,e⟩:=I.hok p _ h
 exact⟨its,n,r,e,z⟩
theorem Inv.IV{pins:List (Addr×Obj)}{σ:St}{H:Hp}{s:Shared}{p:Addr}{xs ys:List V}{its its':List Value}{n n':Nat}{f:Obj->Obj}(I:Inv X pins σ H s)(h:H p=some (.lst xs))
  (ho:s.heap.get? p=some {cls:=.type "list",data:=.seq its.toArray n}) (hf:f {cls:=.type "list",data:=.seq its.toArray n} ={cls:=.type "list",data:=.seq its'.toArray n'}) (r:Vals ys its') (hz:ys.length<=sizeLine) (t:Nat) :
  Inv X pins σ (upd H p (.lst ys)) {s with heap:=s.heap.update p f,toks:=t}:=by
 have e:(s.heap.update p f).get? p=some {cls:=.type "list",data:=.seq its'.toArray n'}:=by
  rw [Heap.get?_update_self f ho (by rw [hf] <;> rfl),hf]
 refine I.write (x:=p) (e:=p) (by rw [h]; trivial) (.inl rfl) (λb u hb q=>(Heap.get?_update_other _ _ (Ne.symm hb)).trans q) ⟨_,e⟩ ?_
 exact⟨hz,its',n',r,e⟩
def Mm:V->V->V->Hp->(Hp->Prop)->Prop:=λo i v H Q=>∃p xs k j,o=.ref p/\i=.int k/\H p=some (.lst xs)/\v5 xs.length k=some j/\Q (upd H p (.lst (xs.set j v)))
theorem set_list:KU X Mm:=by
 intro pins s σ H o i v ov iv u Q I ro ri rv h
 obtain⟨p,xs,k,j,rfl,rfl,hp,hj,q⟩:=h
 cases ro
 obtain⟨t,rfl⟩:=ri
 obtain⟨its,n,r,ho,hz⟩:=I.lst hp
 obtain⟨h1,h2,h3,h4⟩:=yV hj
 have hl:=r.length
 have hn:=lI
 have I':Inv X pins σ (upd H p (.lst (xs.set j v))) {s with heap:=s.heap.update p (Obj.mapSeq (·.setIfInBounds j u))} :=
  I.IV hp ho (xE its n j u) (r.set rv j) (by rw [List.length_set]; exact hz) s.toks
 by_cases h0:0<=k
 ·have hk:k.toNat=j:=by
   rw [seqIndex_of h0 h4]at h1
   exact Option.some.inj h1
  exact PySem.W.ki_setAt ho h0 (by omega) (by rw [UN,←hl]; exact h4) (by rw [hk]; exact⟨_,I',q⟩)
 ·have hk:(k+(its.toArray.size:Int)).toNat=j:=by
   rw [seqIndex_neg (by omega) h3]at h1
   rw [UN,←hl]
   exact Option.some.inj h1
  exact PySem.W.ki_setBack ho (by omega) (by rw [UN,←hl]; exact h3) (by omega) (by rw [hk]; exact⟨_,I',q⟩)
theorem rS(lo hi:Option Int)(n:Nat):(sliceBounds lo hi none n).1=((HT.dG n 0 lo:Nat):Int)/\(sliceBounds lo hi none n).2.1=((HT.dG n n hi:Nat):Int)/\(sliceBounds lo hi none n).2.2=1:=by
 refine⟨?_,?_,rfl⟩
 ·cases lo with
  | none=>simp [sliceBounds,HT.dG]
  | some i =>
   simp only [sliceBounds,HT.dG,Option.getD_none,show(1:Int) > 0 by decide,if_true]
   by_cases h:i<0
   ·simp only [h,if_true] <;> omega
   ·simp only [h,if_false] <;> omega
 ·cases hi with
  | none=>simp [sliceBounds,HT.dG]
  | some i =>
   simp only [sliceBounds,HT.dG,Option.getD_none,show(1:Int) > 0 by decide,if_true]
   by_cases h:i<0
   ·simp only [h,if_true] <;> omega
   ·simp only [h,if_false] <;> omega
theorem qm(its:List Value)(lo hi:Option Int):slicePick its.toArray lo hi none=((its.drop (HT.dG its.length 0 lo)).take (HT.dG its.length its.length hi-HT.dG its.length 0 lo)).toArray:=by
 obtain⟨h1,h2,h3⟩:=rS lo hi its.toArray.size
 unfold slicePick
 rw [h1,h2,h3]
 simp only [sliceRange_one,pick_run,UN] <;> rfl
def MW(K:PySem.W.Frag):V->Option Int->Option Int->Hp->VK->Prop:=λx lo hi H Q=>∃a xs,x=.ref a/\aZ K H a xs/\∀p,H p=none->Q (.ref p) (upd H p (.lst (gj xs lo hi)))
theorem FU:Fz X (MW X.K):=by
 intro pins s σ H x v vl vu lo hi sl Q I rx hs pl pu h
 obtain⟨a,xs,rfl,hx,q⟩:=h
 cases rx
 obtain⟨its,r,ht,hz⟩:=I.list hx
 have hlen:=r.length
 refine⟨"list",_,slot_list_getitem.lookup,ht.isList.typeIs,?_⟩
 refine wpAny_getItem_list_slice ht.isList hs pl pu .none (by simp) ?_ (by rw [UN] <;> omega)
 rw [qm,←hlen]
 refine⟨.ref s.heap.objs.size,_,I.laid (t':=s.toks) (o:=.lst (gj xs lo hi)) (λb ob q=>Uv _ q) (Uy _) ?_,rfl,q _ (I.hok.fresh (Uy _))⟩
 exact⟨Uz (mq xs lo hi) hz,_,0,(r.drop (HT.dG xs.length 0 lo)).take (HT.dG xs.length xs.length hi-HT.dG xs.length 0 lo),Ux _ rfl⟩
def eW:V->Bool
 | .non=>true
 | .bl _=>true
 | .int _=>true
 | .str _=>true
 | _=>false
def Gs:V->V->Bool
 | .non,.non=>true
 | .bl a,.bl b=>a==b
 | .bl a,.int b=>(if a then 1 else 0)==b
 | .int a,.bl b=>a==(if b then 1 else 0)
 | .int a,.int b=>a==b
 | .str a,.str b=>a==b
 | _,_=>false
theorem JM{A:Around}{s:Shared}{y x:V}{u v:Value}(ry:RelV y u)(rx:RelV x v)(fy:eW y=true)(fx:eW x=true):SeqAt.EqAt A s u v (Gs y x):=by
 cases y with
 | non =>
  cases ry
  cases x with
  | non=>cases rx; exact SeqAt.EqAt.same _
  | bl b=>cases rx; exact SeqAt.EqAt.none_bool b
  | int b=>obtain⟨t,rfl⟩:=rx; exact SeqAt.EqAt.none_int b t
  | str b=>obtain⟨t,rfl⟩:=rx; exact SeqAt.EqAt.none_str b t
  | _=>exact absurd (show false=true from fx) UM
 | bl a =>
  cases ry
  cases x with
  | non=>cases rx; exact SeqAt.EqAt.bool_none a
  | bl b=>cases rx; exact SeqAt.EqAt.bool_bool a b
  | int b=>obtain⟨t,rfl⟩:=rx; exact SeqAt.EqAt.bool_int a b t
  | str b=>obtain⟨t,rfl⟩:=rx; exact SeqAt.EqAt.bool_str a b t
  | _=>exact absurd (show false=true from fx) UM
 | int a =>
  obtain⟨t',rfl⟩:=ry
  cases x with
  | non=>cases rx; exact SeqAt.EqAt.int_none a t'
  | bl b=>cases rx; exact SeqAt.EqAt.int_bool a t' b
  | int b=>obtain⟨t,rfl⟩:=rx; exact SeqAt.EqAt.int_int a t' b t
  | str b=>obtain⟨t,rfl⟩:=rx; exact SeqAt.EqAt.int_str a t' b t
  | _=>exact absurd (show false=true from fx) UM
 | str a =>
  obtain⟨t',rfl⟩:=ry
  cases x with
  | non=>cases rx; exact SeqAt.EqAt.str_none a t'
  | bl b=>cases rx; exact SeqAt.EqAt.str_bool a t' b
  | int b=>obtain⟨t,rfl⟩:=rx; exact SeqAt.EqAt.str_int a t' b t
  | str b=>obtain⟨t,rfl⟩:=rx; exact SeqAt.EqAt.str_str a t' b t
  | _=>exact absurd (show false=true from fx) UM
 | _=>exact absurd (show false=true from fy) UM
def xk(x:V)(u:Value):Bool:=match u with
 | .none=>Gs .non x
 | .bool b=>Gs (.bl b) x
 | .int i _=>Gs (.int i) x
 | .str z _=>Gs (.str z) x
 | _=>false
theorem Ec{x y:V}{u:Value}(r:RelV y u)(f:eW y=true):xk x u=Gs y x:=by
 cases y with
 | non=>cases r; rfl
 | bl b=>cases r; rfl
 | int i=>obtain⟨t,rfl⟩:=r; rfl
 | str z=>obtain⟨t,rfl⟩:=r; rfl
 | _=>exact absurd (show false=true from f) UM
theorem lF{x:V}:∀{xs:List V} {us:List Value},Vals xs us->xs.all eW=true->us.any (xk x)=xs.any λy=>Gs y x
 | _,_,.nil,_=>rfl
 | y::xs,u::us,.cons r t,f=>by
  rw [List.all_cons,Bool.and_eq_true]at f
  rw [List.any_cons,List.any_cons,Ec r f.1,lF t f.2]
theorem jD{A:Around}{s:Shared}{x:V}{v:Value}(rx:RelV x v)(fx:eW x=true):∀{xs:List V} {us:List Value},Vals xs us->xs.all eW=true->∀u∈us,SeqAt.EqAt A s u v (xk x u)
 | _,_,.nil,_=>λu hu=>by cases hu
 | y::xs,u::us,.cons r t,f=>λu' hu=>by
  rw [List.all_cons,Bool.and_eq_true]at f
  rcases List.mem_cons.mp hu with rfl | hu
  ·rw [Ec r f.1]; exact JM r rx f.1 fx
  ·exact jD rx fx t f.2 u' hu
def inV(x:V)(xs:List V):Bool:=xs.any λy=>Gs y x
def Hv(K:PySem.W.Frag)(neg:Bool):R2:=λx y H Q=>∃p xs,y=.ref p/\(aZ K H p xs\/aH K H p xs)/\eW x=true/\xs.all eW=true/\Q (.bl (if neg then !inV x xs else inV x xs)) H
theorem cq:i8 X (compareOp .In) (Hv X.K false):=by
 intro pins s σ H x y v u Q I rx ry h
 obtain⟨p,xs,rfl,hq,fx,fs,q⟩:=h
 cases ry
 rcases hq with hq | hq
 ·obtain⟨its,r,pl,hz⟩:=I.list hq
  refine SeqAt.in_listAt (xk x) pl.isList (λw hw=>jD rx fx r fs w (by simpa using hw)) ⟨.bl _,H,I,rfl,?_⟩
  rw [show its.toArray.any (xk x)=its.any (xk x) by simp,lF r fs]
  exact q
 ·obtain⟨its,r,pl,hz⟩:=I.tuple hq
  refine SeqAt.in_tupleAt (xk x) pl (λw hw=>jD rx fx r fs w (by simpa using hw)) ⟨.bl _,H,I,rfl,?_⟩
  rw [show its.toArray.any (xk x)=its.any (xk x) by simp,lF r fs]
  exact q
theorem iM:i8 X (compareOp .NotIn) (Hv X.K true):=by
 intro pins s σ H x y v u Q I rx ry h
 obtain⟨p,xs,rfl,hq,fx,fs,q⟩:=h
 cases ry
 rcases hq with hq | hq
 ·obtain⟨its,r,pl,hz⟩:=I.list hq
  refine SeqAt.notIn_listAt (xk x) pl.isList (λw hw=>jD rx fx r fs w (by simpa using hw)) ⟨.bl _,H,I,rfl,?_⟩
  rw [show its.toArray.any (xk x)=its.any (xk x) by simp,lF r fs]
  exact q
 ·obtain⟨its,r,pl,hz⟩:=I.tuple hq
  refine SeqAt.notIn_tupleAt (xk x) pl (λw hw=>jD rx fx r fs w (by simpa using hw)) ⟨.bl _,H,I,rfl,?_⟩
  rw [show its.toArray.any (xk x)=its.any (xk x) by simp,lF r fs]
  exact q
theorem bE:fu X (.builtin "len") (λxs H Q=>∃p ys,xs=[.ref p]/\(aZ X.K H p ys\/aH X.K H p ys)/\Q (.int ys.length) H):=by
 intro pins s σ H xs us Q I r h
 obtain⟨p,ys,rfl,hq,q⟩:=h
 obtain⟨u,rfl,rx⟩:=vals1 r
 cases rx
 have hn:=lI
 rcases hq with hq | hq
 ·obtain⟨its,r',pl,hz⟩:=I.list hq
  have hlen:=r'.length
  exact Calls.call_len_list pl.isList (by simp only [UN] <;> omega) ⟨.int ys.length,H,I.tok _,⟨s.toks+1,by rw [UN,hlen]⟩,q⟩
 ·obtain⟨its,r',pl,hz⟩:=I.tuple hq
  have hlen:=r'.length
  exact len_tuple pl (by simp only [UN] <;> omega) ⟨.int ys.length,H,I.tok _,⟨s.toks+1,by rw [UN,hlen]⟩,q⟩
theorem kO:fu X (.type "list") (λxs H Q=>∃p ys,xs=[.ref p]/\(aZ X.K H p ys\/aH X.K H p ys)/\∀l,H l=none->Q (.ref l) (upd H l (.lst ys))):=by
 intro pins s σ H xs us Q I r h
 obtain⟨p,ys,rfl,hq,q⟩:=h
 obtain⟨u,rfl,rx⟩:=vals1 r
 cases rx
 have fin:∀(its:List Value),Vals ys its->ys.length<=sizeLine->∀(h':Heap) (c':Nat),(∀b o',s.heap.get? b=some o'->h'.get? b=some o')->
   h'.get? s.heap.objs.size=some {cls:=.type "list",dict:=none,data:=.seq its.toArray c',slots:=#[]}->EP X pins σ Q (.ref s.heap.objs.size) {s with heap:=h'}:=λits r' hz h' c' kp e =>
  ⟨.ref s.heap.objs.size,_,I.laid (t':=s.toks) kp (Uy _) (show cu X.prog X.w _ h' _ (.lst ys) from⟨hz,its,c',r',e⟩),rfl,q _ (I.hok.fresh (Uy _))⟩
 rcases hq with hq | hq
 ·obtain⟨its,r',pl,hz⟩:=I.list hq
  have hlen:=r'.length
  obtain⟨o,ho,hc,n,hd⟩:=pl.isList
  exact call_list_seq p (.inl rfl) ho hc hd (λh' c' kp e=>fin its r' hz h' c' kp e) (by simp only [UN] <;> omega)
 ·obtain⟨its,r',pl,hz⟩:=I.tuple hq
  have hlen:=r'.length
  obtain⟨o,ho,hc,n,hd⟩:=pl
  exact call_list_seq p (.inr rfl) ho hc hd (λh' c' kp e=>fin its r' hz h' c' kp e) (by simp only [UN] <;> omega)
theorem bB:fu X (.type "tuple") (λxs H Q=>∃p ys,xs=[.ref p]/\((aZ X.K H p ys/\∀l,H l=none->Q (.ref l) (upd H l (.tup ys)))\/(aH X.K H p ys/\Q (.ref p) H))):=by
 intro pins s σ H xs us Q I r h
 obtain⟨p,ys,rfl,h⟩:=h
 obtain⟨u,rfl,rx⟩:=vals1 r
 cases rx
 rcases h with⟨hq,q⟩ | ⟨hq,q⟩
 ·obtain⟨its,r',pl,hz⟩:=I.list hq
  have hlen:=r'.length
  refine call_tuple_list pl.isList (λh' kp=>?_) (by simp only [UN] <;> omega)
  have I1:Inv X pins σ H {s with heap:=h'}:=I.kept (t':=s.toks) kp
  have I2:Inv X pins σ (upd H h'.objs.size (.tup ys)) {s with heap:=h'.push {cls:=.type "tuple",data:=.seq its.toArray}} :=
   I1.laid (t':=s.toks) (λb o e=>Uv _ e) (Uy _) (show cu X.prog X.w _ _ _ (.tup ys) from⟨hz,its,r',gG.new _ _⟩)
  exact⟨.ref h'.objs.size,_,I2,rfl,q _ (I1.hok.fresh (Uy _))⟩
 ·obtain⟨its,r',pl,hz⟩:=I.tuple hq
  exact call_tuple_same pl ⟨.ref p,H,I,rfl,q⟩
def Qd(K:PySem.W.Frag)(T:String)(x:V)(H:Hp):Prop:=match x with
 | .str _=>T="str"
 | .int _=>T="int"
 | .ref p=>(T="list"/\∃xs,aZ K H p xs)\/(T="tuple"/\∃o,K.lookup p=some o/\o.cls=.type "tuple"/\o.dict=none)\/
   (T="dict"/\((∃kvs,H p=some (.dK kvs))\/∃kvs,H p=some (.dT kvs)))\/(T="set"/\∃S n,H p=some (.set S n))
 | _=>False
theorem JY{pins:List (Addr×Obj)}{σ:St}{H:Hp}{s:Shared}{T:String}{x:V}{v:Value}(I:Inv X pins σ H s)(r:RelV x v)(ty:Qd X.K T x H) :
  s.TypeIs v T/\∀a,v=.ref a->∃ob,s.heap.get? a=some ob/\ob.dict=none:=by
 cases x with
 | str z =>
  obtain⟨t,rfl⟩:=r
  cases(show T="str" from ty)
  exact⟨typeIs_str s z t,λ_ e=>nomatch e⟩
 | int i =>
  obtain⟨t,rfl⟩:=r
  cases(show T="int" from ty)
  exact⟨typeIs_int s i t,λ_ e=>nomatch e⟩
 | ref p =>
  cases r
  rcases ty with⟨rfl,xs,hq⟩ | ⟨rfl,o,hk,hc,hd⟩ | ⟨rfl,hk⟩ | ⟨rfl,S,n,hk⟩
  ·obtain⟨its,_,pl,_⟩:=I.list hq
   refine⟨pl.isList.typeIs,λa e=>?_⟩
   cases e
   obtain⟨o,n,e,c,hd,_⟩:=pl
   exact⟨o,e,hd⟩
  ·refine⟨⟨o,I.jK p o hk,hc⟩,λa e=>?_⟩
   cases e
   exact⟨o,I.jK _ o hk,hd⟩
  ·have z:∃o,s.heap.get? p=some o/\o.ExactDict:=by
    rcases hk with⟨kvs,hk⟩ | ⟨kvs,hk⟩
    ·obtain⟨_,_,_,_,o,_,_,e,ex,_⟩:=I.hok p _ hk
     exact⟨o,e,ex⟩
    ·obtain⟨_,_,_,_,o,_,_,e,ex,_⟩:=I.hok p _ hk
     exact⟨o,e,ex⟩
   obtain⟨o,e,ex⟩:=z
   refine⟨⟨o,e,ex.1⟩,λa e2=>?_⟩
   cases e2
   exact⟨o,e,ex.2.1⟩
  ·obtain⟨o,_,_,_,e,ex,_⟩:=I.hok p _ hk
   refine⟨⟨o,e,ex.1⟩,λa e2=>?_⟩
   cases e2
   exact⟨o,e,ex.2.1⟩
 | _=>exact False.elim ty
def RU(K:PySem.W.Frag)(T:String)(r:V->List V->Hp->VK->Prop)(to:TE)(t:TA):TE:=λσ H Q=>to σ H λx H1=>Qd K T x H1/\t σ H1 λxs H2=>r x xs H2 Q
variable{o e:Expr}{es:List Expr}{to:TE}{t:TA}{name:Str}{apos cpos:Pos}{T id:String}{r:V->List V->Hp->VK->Prop}
theorem lC(pa:PlainAttrs T)(slot:Slot T name id)(hty:typeOf (.builtin id)=pure (.type "method_descriptor"))(hm:Qp X id r)(ho:PE X o to)(ha:PA X (e::es) t)
  (hbase:attributeBase o name X.env (eval o X.env)=eval o X.env:=by rfl)
  (hfew:((backTo cpos (starEach (e::es) X.env)).all (λx=>!x.1)&&(backToKw cpos (keywordEach [] X.env)).all (λx=>x.1.isSome)
   && decide ((e::es).length+([]:List Keyword).length+(if([]:List Keyword).isEmpty then 0 else 1)<30))=true:=by rfl)
  (hline:(apos.endLine==cpos.line)=true:=by rfl) (hs:starEach (e::es) X.env=(false,eval e X.env)::starEach es X.env:=by rfl) (hplain:(backTo cpos (starEach es X.env)).any (·.1)=false:=by rfl) :
  PE X (.Call (.Attribute o name apos) (e::es) [] cpos) (RU X.K T r to t):=by
 intro pins s σ H Q I h
 refine wpAny_Call_method_late hbase hfew hline rfl (b_ (ho pins s σ H _ I h) λv s1 ⟨x,H1,I1,r1,ty,q1⟩=>?_)
 obtain⟨h1,h2⟩:=JY I1 r1 ty
 refine⟨T,id,pa,slot,hty,h1,h2,?_⟩
 have hA:=ha cpos pins s1 σ H1 _ I1 q1
 rw [hs]at hA⊢
 refine Calls.callWith_builtin (by show(false||(backTo cpos (starEach es X.env)).any (·.1))=false; rw [hplain] <;> rfl) (Calls.evalArgs_plain ?_)
 exact b_ hA λus s2 ⟨vs,H2,I2,r2,q2⟩=>hm pins s2 σ H2 x vs v us Q I2 r1 r2 q2
end
def Sx(X:Cx)(id:String)(r:V->List V->Hp->VK->Prop):Prop :=
 ∀(pins:List (Addr×Obj)) (s:Shared) (σ:St) (H:Hp) (x:V) (xs:List V) (v:Value) (us:List Value) (Q:VK),Inv X pins σ H s->RelV x v->Vals xs us->r x xs H Q->
  wpAny (model X.prog X.w) X.A (call (.builtin id) (v::us)) (EP X pins σ Q) X.xe s
theorem Vals.one:∀{x:V} {us:List Value},Vals [x] us->∃u,us=[u]/\RelV x u
 | _,_,.cons r .nil=>⟨_,rfl,r⟩
theorem Vals.rep{xs:List V}{us:List Value}(h:Vals xs us):∀k:Nat,Vals (List.replicate k xs).flatten (List.replicate k us).flatten
 | 0=>.nil
 | k+1=>by
  rw [List.replicate_succ,List.replicate_succ,List.flatten_cons,List.flatten_cons]
  exact Vals.append h (Vals.rep h k)
theorem foldl_rep(its:List Value):∀(k:Nat) (acc:List Value),
  List.foldl (λx1 x2=>x1++x2) acc.toArray (List.replicate k its.toArray)=(acc++(List.replicate k its).flatten).toArray
 | 0,acc=>by simp
 | k+1,acc=>by
  have e:acc.toArray++its.toArray=(acc++its).toArray:=by simp
  have e2:(acc++its)++(List.replicate k its).flatten=acc++(List.replicate (k+1) its).flatten:=by
   rw [List.replicate_succ,List.flatten_cons,List.append_assoc]
  rw [←e2,←foldl_rep its k (acc++its),←e,List.replicate_succ,List.foldl_cons]
section
variable{X:Cx}{pins:List (Addr×Obj)}{σ:St}{H:Hp}{s:Shared}{l b:Addr}{xs ys zs:List V}
theorem Inv.OS{its its':List Value}{n:Nat}{f:Array Value->Array Value}{t':Nat}(I:Inv X pins σ H s)(hH:H l=some (.lst xs))
  (e:s.heap.get? l=some {cls:=.type "list",data:=.seq its.toArray n}) (hf:f its.toArray=its'.toArray) (hv:Vals ys its') (hz:ys.length<=sizeLine) :
  Inv X pins σ (upd H l (.lst ys)) {s with heap:=s.heap.update l (Obj.mapSeq f),toks:=t'}:=by
 have q:=PySem.IsL.update e f
 rw [hf]at q
 refine I.write (x:=l) (e:=l) (by rw [hH]; exact trivial) (.inl rfl) (λb' u hb hu=>(Heap.get?_update_other s.heap (Obj.mapSeq f) (Ne.symm hb)).trans hu) ⟨_,q⟩ ?_
 exact⟨hz,its',_,hv,q⟩
theorem Inv.K7{its:List Value}{t':Nat}(I:Inv X pins σ H s)(hv:Vals ys its)(hz:ys.length<=sizeLine) :
  Inv X pins σ (upd H s.heap.objs.size (.lst ys)) {s with heap:=s.heap.push {cls:=.type "list",data:=.seq its.toArray},toks:=t'} :=
 I.laid (λ_ _ q=>Uv _ q) (Uy _) ⟨hz,its,0,hv,Ux _ rfl⟩
theorem Inv.fresh(I:Inv X pins σ H s):H s.heap.objs.size=none:=I.hok.fresh (Uy _)
theorem Inv.FR(I:Inv X pins σ H s)(hH:H l=some (.lst xs)):xs.length<=sizeLine/\∃(its:List Value) (n:Nat),Vals xs its/\xs.length=its.length/\s.heap.get? l=some {cls:=.type "list",data:=.seq its.toArray n}:=by
 obtain⟨z,its,n,r,e⟩:=I.hok l _ hH
 exact⟨z,its,n,r,r.length,e⟩
theorem BZ{n:Nat}(h:n<=sizeLine):Builtin.List.listTooLong n=false:=by
 unfold Builtin.List.listTooLong
 exact UA (by omega)
end
section
variable{X:Cx}
def m5:V->List V->Hp->VK->Prop:=λx vs H Q=>∃l xs y,x=.ref l/\vs=[y]/\H l=some (.lst xs)/\xs.length<sizeLine/\Q .non (upd H l (.lst (xs++[y])))
theorem cV:Sx X "list.append" m5:=by
 intro pins s σ H x vs v us Q I rx rv h
 obtain⟨l,xs,y,rfl,rfl,hH,hz,q⟩:=h
 cases rx
 obtain⟨u,rfl,ru⟩:=rv.one
 obtain⟨z,its,n,r,hl,e⟩:=I.FR hH
 refine call_meets F.slot_list_append ⟨_,e,rfl⟩ F.entry_list_append (F.args_list_append_2 _ _) (PySem.list_append l its.toArray n u (by rw [UN]; omega)) ⟨e,?_⟩
 refine⟨.non,_,I.OS (its':=its++[u]) hH e (by simp) (r.append (.cons ru .nil)) ?_,rfl,q⟩
 rw [UD,List.length_singleton]
 omega
def OV:R2:=λx y H Q=>∃l b xs zs,x=.ref l/\y=.ref b/\H l=some (.lst xs)/\H b=some (.lst zs)/\xs.length+zs.length<=sizeLine/\∀p,H p=none->Q (.ref p) (upd H p (.lst (xs++zs)))
theorem pA:i8 X (binaryOp .Add) OV:=by
 intro pins s σ H x y v u Q I rx ry h
 obtain⟨l,b,xs,zs,rfl,rfl,hH,hB,hz,q⟩:=h
 cases rx
 cases ry
 obtain⟨z,its,n,r,hl,e⟩:=I.FR hH
 obtain⟨z2,its2,n2,r2,hl2,e2⟩:=I.FR hB
 refine PySem.P.add_list e e2 ?_ (by rw [UN,UN]; omega)
 have ea:its.toArray++its2.toArray=(its++its2).toArray:=by simp
 rw [ea]
 exact⟨.ref _,_,I.K7 (t':=s.toks) (r.append r2) (by rw [UD]; omega),rfl,q _ I.fresh⟩
def N1:R2:=λx y H Q=>∃l k xs,x=.ref l/\y=.int k/\H l=some (.lst xs)/\-(2 ^ 63)<=k/\k<2 ^ 63/\xs.length*k.toNat<=sizeLine/\
 ∀p,H p=none->Q (.ref p) (upd H p (.lst (List.replicate k.toNat xs).flatten))
theorem len_rep{α:Type}(xs:List α)(k:Nat):(List.replicate k xs).flatten.length=k*xs.length:=by
 induction k with
 | zero=>simp
 | succ k ih=>rw [List.replicate_succ,List.flatten_cons,UD,ih,Nat.succ_mul,Nat.add_comm]
theorem xA:i8 X (binaryOp .Mult) N1:=by
 intro pins s σ H x y v u Q I rx ry h
 obtain⟨l,k,xs,rfl,rfl,hH,h1,h2,hz,q⟩:=h
 cases rx
 obtain⟨t,rfl⟩:=ry
 obtain⟨z,its,n,r,hl,e⟩:=I.FR hH
 have hlen:its.toArray.size*k.toNat<=sizeLine:=by rw [UN,←hl]; exact hz
 have O_:¬its.toArray.size*k.toNat > (2 ^ 63-1) / 8:=by
  have:(sizeLine:Nat)<=(2 ^ 63-1) / 8:=by decide
  omega
 have hfit:¬(!Builtin.List.listFitsIndex k)=true:=by
  rw [fitsIndex_both h1 h2]
  exact UM
 have Md:¬Builtin.List.listTooLong (its.toArray.size*k.toNat)=true:=by
  rw [BZ hlen]
  exact UM
 have hnew:List.foldl (λx1 x2=>x1++x2) #[] (List.replicate (if its.toArray.isEmpty=true then 0 else k.toNat) its.toArray)=(List.replicate k.toNat its).flatten.toArray:=by
  have f0:∀m:Nat,List.foldl (λx1 x2=>x1++x2) #[] (List.replicate m its.toArray)=(List.replicate m its).flatten.toArray:=λm=>by
   have:=foldl_rep its m []
   rw [List.nil_append]at this
   exact this
  rw [f0]
  cases its with
  | nil=>simp
  | cons a r'=>rw [if_neg (by simp)]
 refine wpAny_binaryOp_repeat_ref (T:="list") (U:="int") (by decide) ⟨_,e,rfl⟩ (λs'=>typeIs_int s' k t) noFill_list_mul F.fills_int_mul F.slot_int_rmul repeat_list F.slot_int_index.lookup
  (call_meets F.slot_int_rmul (typeIs_int s k t) F.entry_int_rmul (F.args_int_rmul_2 _ _) (int___rmul___int_list k t l its.toArray n)
   ⟨e,rfl,⟨_,e,rfl⟩,call_meets F.slot_list_mul ⟨_,e,rfl⟩ F.entry_list_mul (F.args_list_mul_2 _ _) (AutoListH.list___mul___list_int_3 l its.toArray n k t hfit O_ Md) ⟨e,?_⟩⟩)
 rw [hnew]
 exact⟨.ref _,_,I.K7 (t':=s.toks) (r.rep k.toNat) (by rw [len_rep,Nat.mul_comm]; exact hz),rfl,q _ I.fresh⟩
end
section
variable{prog:Program}{w:World}{A:Around}{E:Value->Shared->Prop}{s:Shared}
end
section
variable{X:Cx}
end
end L2
namespace Att
open PySem PySem.W PySem.Calls PyProof.Rows
theorem mY{P:Params}{h:Heap}:∀(ns:List Int) (vs:List Value),WellAll P h vs (ns.map WData.int)->IntsAre vs ns:=by
 intro ns
 induction ns with
 | nil =>
  intro vs w
  rw [List.map_nil]at w
  cases w
  exact .nil
 | cons n ns ih =>
  intro vs w
  rw [List.map_cons]at w
  cases w with
  | cons a b =>
   cases a
   exact .cons _ _ (ih _ b)
theorem zN{l:OpenLaw}{n:Nat}(hn:l.most=some n){P:Params}{h:Heap}{args:List WData}{vals:List Value}
  (hpre:l.row.toRowW.claim.pre args=true) (hwl:WellAll P h vals args) :
  ∃a vs ns,vals=[Value.ref a]/\args=[WData.list (ns.map WData.int)]/\h.get? a=some {cls:=.type "list",data:=.seq vs.toArray}/\IntsAre vs ns/\ns.length<=n:=by
 have hsh:WShape.hasAll [] args [.list .int]=true:=(pre_splitW hpre).1
 have hc:l.pre.holds [] {args:=args}=true:=(pre_splitW hpre).2
 obtain⟨d,r,rfl,h1,h2⟩:=hasAllW_cons hsh
 obtain rfl:=hasAllW_nil h2
 obtain⟨xs,rfl,h3⟩:=hasW_list h1
 obtain⟨ns,rfl⟩:=items_int h3
 have hlen:ns.length<=n:=by
  unfold OpenLaw.pre at hc
  have h4:(WTm.not (.lt (.lit (.int (n:Int))) (.len (.arg 0)))).holds [] {args:=[.list (ns.map .int)]}=true:=by
   have h4:=(holds_andW hc).1
   rw [hn]at h4
   exact h4
  have h5:=condW_of h4 (w_not (w_lt w_lit (w_len_list (w_arg rfl))))
  rw [UC]at h5
  refine Nat.le_of_not_lt λq=>?_
  have q':(n:Int)<((ns.length:Nat):Int):=by omega
  first
   | (rw [UB q']at h5; exact absurd h5 (by decide))
   | (simp at h5; omega)
 cases hwl with
 | cons w1 w2 =>
  cases w2
  cases w1 with
  | list ho hall=>exact⟨_,_,ns,rfl,rfl,ho,mY ns _ hall,hlen⟩
theorem zF(l:OpenLaw)(args:List WData):l.row.toRowW.claim.post args (.bool true) args=true :=
 postW_of (r:=l.row.toRowW) (X:=(true==true))
  (show WShape.has [] (.bool true) .bool=true by first | rfl | decide | simp [WShape.has,WShape.arms,WShape.armsAll])
  (show(WTm.eq .res (.lit (.bool true))).value [] {args:=args,res:=some (.bool true),after:=args}=some (.bool (true==true)) from w_eq_bool (w_res rfl) w_lit) rfl
theorem vp{l:OpenLaw}{n:Nat}{q:Program}{loose:List Str}{XP:(Str->Option Value)->Heap->Prop}{YP:World->Heap->Prop}{d:DefRec}
  (hn:l.most=some n) (hdf:d.params.defaults=[])
  (call:∀(w:World) (s₀ s₁:Shared) (mg mb:Str->Option Value) (fa:Addr) (o:Obj) (pm cd doc:Value) (a:Addr) (vs:List Value) (ns:List Int),
   Ground q loose [] XP w s₀ mg mb s₁.heap->YP w s₁.heap->
   s₁.heap.get? fa=some o->o.data=.func (docDef d.name d.params d.body d.scope pm cd doc)->s₁.heap.CodeRec cd d.name->mg d.name=some (.ref fa)->
   s₁.heap.get? a=some {cls:=.type "list",data:=.seq vs.toArray}->IntsAre vs ns->ns.length<=n->s₁.gens = #[]->
   codeAny (model l.prog w) callerA (.call (.ref fa) ⟨[.ref a],[]⟩) (λr s'=>r=.ok (.ret (.bool true))/\OldK s₁.heap s'.heap/\s'.os=s₁.os/\AllBare s'.gens) s₁) :
  WalkO q loose XP YP l.row.toRowW d [] (λf vs=>PySem.call f vs):=by
 intro w s₀ s₁ mg mb G Y fa o pm cd doc dV kV ho hd hcd hD hmg hg args vals as hpre hlay hrd hwl hlo
 obtain rfl:dV=.none:=Dflts.none hD hdf
 obtain rfl:kV=.none:=Dflts.noKw hD
 obtain⟨a,vs,ns,rfl,rfl,hobj,hints,hlen⟩:=zN hn hpre hwl
 refine enter_call (codeAny_mono (call w s₀ s₁ mg mb fa o pm cd doc a vs ns G Y ho (fd_plain hd) hcd hmg hobj hints hlen hg) λr s' hq=>?_)
 obtain⟨rfl,h2,h3,h4⟩:=hq
 exact⟨.inl ⟨.bool true,.bool true,[],rfl,λ_=>rfl,.bool true,zF l _,λ_=>⟨List.Pairwise.nil,λ_ hm=>(nomatch hm)⟩⟩,h2,h3,h4⟩
section
variable{prog:Program}{w:World}{A:Around}{E:Value->Shared->Prop}{s:Shared}{K:Frag}
end
end Att
namespace L2
open PySem PySem.Spec PyProof.Rows
theorem rG:∀{vs:List Value} {ns:List Int},IntsAre vs ns->Vals (ns.map V.int) vs
 | _,_,.nil=>.nil
 | _,_,.cons n t h=>.cons ⟨t,rfl⟩ (rG h)
def Only(H:Hp):Prop:=∀b,H b=none\/∃o xs,H b=some (.yk o (.lst xs))
theorem Cn{P:Program}{w:World}{K:PySem.W.Frag}{mg mb:Str->Option Value}{CX:nz}{k:Nat}{fa a:Addr}{fd:FuncData}{x:Str}{sp:Sp}{s₁:Shared}{vs:List Value}{ns:List Int}
  (KX:K.In s₁.heap) (hns:s₁.heap.Ns mainGlobals mg) (hb:s₁.heap.Ns builtinsNs mb) (hbb:∀x:Str,x≠"__name__"->mb x=bootBuiltins x) (hlim:s₁.heap.NoLimit) (hg:s₁.gens = #[])
  (ha:s₁.heap.get? a=some {cls:=.type "list",data:=.seq vs.toArray}) (hi:IntsAre vs ns) (hl:ns.length<=sizeLine) (hr:eJ k callerA)
  (F:∀base:Heap,K.In base->base.Ns mainGlobals mg->e9 P w K mg base CX k fa fd [x] sp) (hbind:∀(s:Shared) (u:Value),BindsTo s fd ⟨[u],[]⟩ [(x,u)])
  (hsp:∀H:Hp,Only H->aZ K H a (ns.map V.int)->sp [.ref a] H (λv _=>v=.bl true) λ_ _ _=>False)
  (N5:∀H e s',CX [] H s₁ (λ_ _ _=>False) e s'->False) :
  codeAny (model P w) callerA (.call (.ref fa) ⟨[.ref a],[]⟩) (λr s'=>r=.ok (.ret (.bool true))/\OldK s₁.heap s'.heap/\s'.os=s₁.os/\AllBare s'.gens) s₁:=by
 have rv:=rG hi
 have lenV:=hi.length
 have core:∀H:Hp,Only H->aZ K H a (ns.map V.int)->i_ P w H s₁.heap->(∀b,H b≠none->b=a)->(H a≠none->K.lookup a=none)->
   codeAny (model P w) callerA (.call (.ref fa) ⟨[.ref a],[]⟩) (λr s'=>r=.ok (.ret (.bool true))/\OldK s₁.heap s'.heap/\s'.os=s₁.os/\AllBare s'.gens) s₁:=by
  intro H hO hS hok hA hK
  have yn:∀{b:Addr} {o:Obj},s₁.heap.get? b=some o->H b=none->(rL s₁.heap H).get? b=some o:=λe n=>BN e n
  have Ma:∀{b:Addr} {o:Obj} {es:Array DictEntry} {ep:Nat},s₁.heap.get? b=some o->o.data=.dict es ep->H b=none:=λ{b o es ep} e d=>by
   cases q:H b with
   | none=>rfl
   | some u =>
    have e':b=a:=hA b (by rw [q]; simp)
    subst e'
    rw [ha]at e; cases e
    have d':Data.seq vs.toArray _=Data.dict es ep:=d
    cases d'
  have Ni:∀{b:Addr} {m:Str->Option Value},s₁.heap.Ns b m->(rL s₁.heap H).Ns b m:=λ{b m} ⟨o,es,ep,e,d,r⟩=>⟨o,es,ep,yn e (Ma e d),d,r⟩
  have P2:K.In (rL s₁.heap H):=λb o e=>yn (KX b o e) (by
   cases q:H b with
   | none=>rfl
   | some u =>
    have e':b=a:=hA b (by rw [q]; simp)
    subst e'
    rw [hK (by rw [q]; simp)]at e; cases e)
  have hM:Mod K mg (rL s₁.heap H):=⟨P2,Ni hns,⟨mb,Ni hb,hbb⟩,let ⟨mc,h1,h2⟩:=hlim; ⟨mc,Ni h1,h2⟩⟩
  have e0:xR P w K mg (rL s₁.heap H) callerA [] s₁ H:=⟨rfl,hM,λb o e=>Fn e,Nat.le_of_eq (zY _ _),trivial,λb hb=>absurd (show b∈([]:List Addr) from hb) (by simp),hok,.of_eq hg⟩
  refine codeAny_mono ((F _ P2 (Ni hns)).run callerA [] s₁ H ⟨[.ref a],[]⟩ [.ref a] [.ref a] _ _ hr e0 (hbind s₁ (.ref a)) (.cons rfl .nil) (hsp H hO hS)) λr s' h=>?_
  cases r with
  | error e=>exact(N5 H e s' h).elim
  | ok fl =>
   cases fl with
   | next=>exact False.elim h
   | brk=>exact False.elim h
   | cont=>exact False.elim h
   | ret u =>
    obtain⟨v,H',os,bare,un,hok',r',q⟩:=h
    have q':v=.bl true:=q
    subst q'
    obtain rfl:u=Value.bool true:=r'
    refine⟨rfl,OldK.of_keep λb o e=>?_,os,bare⟩
    cases q:H b with
    | none=>exact un.keep b o e q (by intro z; exact absurd (show b∈([]:List Addr) from z) (by simp)) (by simp)
    | some u =>
     rcases hO b with z | ⟨ob,xs,z⟩
     ·rw [q]at z; cases z
     ·have z2:=un.oG b ob _ z
      obtain⟨e1,_⟩:=hok b _ z
      obtain⟨e2,_⟩:=hok' b _ z2
      rw [e]at e1; cases e1
      exact e2
 cases hk:K.lookup a with
 | some o =>
  have e:=KX a o hk
  rw [ha]at e
  cases e
  refine core (λ_=>none) (λ_=>.inl rfl) (.inr ⟨_,vs.toArray,_,hk,rfl,rfl,rfl,by rw [UN,lenV]; exact hl,by simpa using rv⟩) (λb u z=>by have z':(none:Option HO)=some u:=z; cases z') (λb z=>absurd rfl z) λz=>absurd rfl z
 | none =>
  refine core (λb=>if b=a then some (.yk {cls:=.type "list",data:=.seq vs.toArray} (.lst (ns.map V.int)))else none) (λb=>?_) (.inl (.inr ⟨{cls:=.type "list",data:=.seq vs.toArray},if_pos rfl⟩)) (λb u z=>?_) (λb z=>?_) λ_=>hk
  ·by_cases hb:b=a
   ·exact .inr ⟨_,_,if_pos hb⟩
   ·exact .inl (if_neg hb)
  ·by_cases hb:b=a
   ·have z':=(if_pos hb).symm.trans z
    cases z'
    subst hb
    exact⟨ha,by rw [UC]; exact hl,vs,_,rv,ha⟩
   ·have z':=(if_neg hb).symm.trans z
    cases z'
  ·by_cases hb:b=a
   ·exact hb
   ·exact absurd (if_neg hb) z
theorem Fp{l:PySem.W.OpenLaw}{n k:Nat}{q:Program}{loose:List Str}{XP:(Str->Option Value)->Heap->Prop}{YP:World->Heap->Prop}{d:DefRec}{K:Params->PySem.W.Frag}{CX:World->nz}{sp:World->Sp}{x:Str}
  (hn:l.most=some n) (hn2:n<=sizeLine) (hdf:d.params.defaults=[]) (hr:eJ k callerA)
  (hY:∀(w:World) (h:Heap),YP w h->(K w.params).In h)
  (F:∀(w:World) (mg:Str->Option Value) (fa:Addr) (h:Heap),(K w.params).In h->h.Ns mainGlobals mg->mg d.name=some (.ref fa)->
   ∃fd:FuncData,(∀(s:Shared) (u:Value),BindsTo s fd ⟨[u],[]⟩ [(x,u)])/\
    ∀base:Heap,(K w.params).In base->base.Ns mainGlobals mg->e9 l.prog w (K w.params) mg base (CX w) k fa fd [x] (sp w))
  (hsp:∀(w:World) (H:Hp) (a:Addr) (ns:List Int),ns.length<=n->Only H->aZ (K w.params) H a (ns.map V.int)->sp w [.ref a] H (λv _=>v=.bl true) λ_ _ _=>False)
  (N5:∀(w:World) (H:Hp) (s:Shared) (e:Value) (s':Shared),CX w [] H s (λ_ _ _=>False) e s'->False) :
  PySem.W.WalkO q loose XP YP l.row.toRowW d [] (λf vs=>PySem.call f vs):=by
 refine Att.vp hn hdf λw s₀ s₁ mg mb fa o pm cd doc a vs ns G Y ho hd hcd hmg hobj hints hlen hg=>?_
 have KX:=hY w _ Y
 obtain⟨fd,hb,hF⟩:=F w mg fa _ KX G.T.g hmg
 exact Cn KX G.T.g G.T.b G.T.builtins G.T.nolimit hg hobj hints (Uz hlen hn2) hr hF hb (λH hO hS=>hsp w H a ns hlen hO hS) λH e s'=>N5 w H s₁ e s'
def inClass(s:Stmt)(j:Nat):Stmt:=match s with
 | .ClassDef _ _ _ body _ _ _ _ _ _ _=>body.getD j (.Pass ⟨0,0,0,0⟩)
 | _=>.Pass ⟨0,0,0,0⟩
def d0(s:Stmt):Arguments:=match s with
 | .FunctionDef _ a _ _ _ _ _ _ _ _=>a
 | _=>{posonlyargs:=[],args:=[],vararg:=none,kwonlyargs:=[],kw_defaults:=[],kwarg:=none,defaults:=[]}
def cT(s:Stmt):List Stmt:=match s with
 | .FunctionDef _ _ b _ _ _ _ _ _ _=>b
 | _=>[]
def ar(s:Stmt):Scope:=match s with
 | .FunctionDef _ _ _ _ _ _ sc _ _ _=>sc
 | _=>{kind:=.function,names:=[],isGenerator:=false,isCoroutine:=false}
abbrev bc:nz:=λ_ _ _ _ _ _=>False
abbrev E0:XK:=λ_ _ _=>False
theorem vo{X:Cx}:Passes bc X E0:=λ_ _ _ _ _ _ _ h=>h.elim
structure A2(K:PySem.W.Frag)(x qual:Str)(st:Stmt)(f:Addr)(fd:FuncData):Prop where
 ex:∃(oc:Value) (od:Option Addr) (kV doc pm:Value) (an:Option Addr) (cdv ct:Value) (osl:Array (Option Value)),
  fd=PySem.W.fnOf x qual (d0 st) (cT st) (ar st) .none kV doc pm an cdv ct/\K.lookup f=some ⟨oc,od,.func fd,osl⟩/\PySem.W.codeIn K cdv qual=true
 kp:PySem.W.keepIn K (.ref f)=true
section
variable{P:Program}{w:World}{K:PySem.W.Frag}{mg:Str->Option Value}{base:Heap}
theorem A2.ok{x qual:Str}{st:Stmt}{f:Addr}{fd:FuncData}{N ps:List Str}{k:Nat}{sp:Sp}(F:A2 K x qual st f fd)(S:az N ps (ar st))(len:∀vs H Q E,sp vs H Q E->vs.length=ps.length)
  (hbody:∀(cdv:Value) (A:Around) (outer:List Env) (s:Shared) (H:Hp) (vs:List V) (Q:VK) (E:XK),eJ k (A.deeper (envOfC qual (ar st) s.heap.objs.size f cdv))->sp vs H Q E->
   ∃t,nN (qy bc P w K mg base N qual (ar st) f cdv A outer s H E).y6 (cT st) t/\t {nx:=λ_ H'=>Q .non H',rt:=Q} (start N vs) H):e9 P w K mg base bc (k+1) f fd ps sp:=by
 obtain⟨oc,od,kV,doc,pm,an,cdv,ct,osl,rfl,lk,hcd⟩:=F.ex
 refine HC lk hcd S len λA outer s H vs Q E hr hsp=>?_
 obtain⟨t,h,q⟩:=hbody cdv A outer s H vs Q E hr hsp
 exact⟨t,h.y6,q⟩
theorem A2.binds{x qual:Str}{st:Stmt}{f:Addr}{fd:FuncData}{ps:List Str}(F:A2 K x qual st f fd)
  (h:∀(kV doc pm:Value) (an:Option Addr) (cdv ct:Value) (us:List Value),us.length=ps.length->bindArgs (PySem.W.fnOf x qual (d0 st) (cT st) (ar st) .none kV doc pm an cdv ct) ⟨us,[]⟩=pure (ps.zip us)):Binds K fd ps []:=by
 obtain⟨oc,od,kV,doc,pm,an,cdv,ct,osl,rfl,lk,hcd⟩:=F.ex
 exact .all (h kV doc pm an cdv ct)
theorem yl{x qual:Str}{st:Stmt}{f:Addr}{oc:Value}{od an:Option Addr}{osl:Array (Option Value)}{kV doc pm cdv ct:Value}(l:K.lookup f=some ⟨oc,od,.func (PySem.W.fnOf x qual (d0 st) (cT st) (ar st) .none kV doc pm an cdv ct),osl⟩)
  (c:PySem.W.codeIn K cdv qual=true) (k:PySem.W.keepIn K (.ref f)=true):A2 K x qual st f (PySem.W.fnOf x qual (d0 st) (cT st) (ar st) .none kV doc pm an cdv ct):=⟨⟨oc,od,kV,doc,pm,an,cdv,ct,osl,rfl,l,c⟩,k⟩
end
theorem jY{A:Around}{k:Nat}(hr:eJ k A):A.units+1<cLine:=UG (Nat.add_le_add_left (by decide:1<=64) _) hr.units
section
variable{X:Cx}
theorem pv(i:Nat){x:Str}{pos:Pos}(hN:X.N[i]? = some x:=by rfl)(hv:PJ X.env.scope x:=by first | exact Or.inl rfl | exact Or.inr (Or.inl rfl) | exact Or.inr (Or.inr rfl))(hd:(x==("__debug__" : Str))=false:=by decide)
  (hcd:(x==("__classdict__" : Str))=false:=by decide):PE X (.Name x pos) (bx i):=xy hN hv hd hcd
end
theorem bA{A B:Prop}(h:B):if false=true then A else B:=by
 rw [if_neg UM]
 exact h
theorem bX{A B:Prop}(h:A):if true=true then A else B:=by
 rw [if_pos rfl]
 exact h
theorem cI{c A B:Prop} [Decidable c](h1:c->A)(h2:¬c->B):if c then A else B:=by
 by_cases h:c
 ·rw [if_pos h]
  exact h1 h
 ·rw [if_neg h]
  exact h2 h
def aM(H H':Hp):Prop:=∀b o,H b=some o->H' b=some o
theorem aM.refl(H:Hp):aM H H:=λ_ _ h=>h
theorem aM.trans{H H1 H2:Hp}(a:aM H H1)(b:aM H1 H2):aM H H2:=λc o h=>b c o (a c o h)
theorem aM.free{H H':Hp}(e:aM H H'){l:Addr}(h:H' l=Option.none):H l=Option.none:=by
 cases q:H l with
 | none=>rfl
 | some o =>
  rw [e l o q]at h
  cases h
theorem aM.seq{K:PySem.W.Frag}{H H':Hp}{a:Addr}{xs:List V}(e:aM H H')(h:aZ K H a xs):aZ K H' a xs:=by
 rcases h with(h | ⟨o,h⟩) | h
 ·exact .inl (.inl (e _ _ h))
 ·exact .inl (.inr ⟨o,e _ _ h⟩)
 ·exact .inr h
def bL(cells:List (Str×Addr)):List (Str×NameKind)->List (Str×Addr)->List (Str×Addr)
 | [],acc=>acc
 | (n,k)::r,acc=>bL cells r (if(k==NameKind.free)=true then(n,(cells.lookup n).getD 0)::acc else acc)
theorem qY{cells:List (Str×Addr)}{x:Str}{c:Addr}:∀{ns:List (Str×NameKind)} {acc:List (Str×Addr)},(x,c)∈bL cells ns acc->((x,NameKind.free)∈ns/\c=(cells.lookup x).getD 0)\/(x,c)∈acc
 | [],_,h=>.inr h
 | (n,k)::r,acc,h=>by
  have q:=qY (ns:=r) h
  rcases q with⟨q1,q2⟩ | q
  ·exact .inl ⟨UL _ q1,q2⟩
  ·by_cases hk:(k==NameKind.free)=true
   ·rw [if_pos hk]at q
    have ek:k=NameKind.free:=by simpa using hk
    rcases List.mem_cons.mp q with e | q
    ·cases e
     subst ek
     exact .inl ⟨List.mem_cons_self,rfl⟩
    ·exact .inr q
   ·rw [if_neg hk]at q
    exact .inr q
theorem qU{cells:List (Str×Addr)}{p:Str×Addr}:∀{ns:List (Str×NameKind)} {acc:List (Str×Addr)},p∈acc->p∈bL cells ns acc
 | [],_,h=>h
 | (n,k)::r,acc,h=>by
  refine qU (ns:=r) ?_
  split
  ·exact UL _ h
  ·exact h
theorem rA{cells:List (Str×Addr)}{x:Str}:∀{ns:List (Str×NameKind)} {acc:List (Str×Addr)},(x,NameKind.free)∈ns->(x,(cells.lookup x).getD 0)∈bL cells ns acc
 | (n,k)::r,acc,h=>by
  rcases List.mem_cons.mp h with e | h
  ·cases e
   refine qU (ns:=r) ?_
   rw [if_pos (by rfl)]
   exact List.mem_cons_self
  ·exact rA (ns:=r) h
theorem jZ{x:Str}{c:Addr}:∀{l:List (Str×Addr)},(x,c)∈l->∃c',l.lookup x=some c'
 | (n,d)::r,h=>by
  rw [List.lookup_cons]
  cases e:x==n with
  | true=>exact⟨d,rfl⟩
  | false =>
   rcases List.mem_cons.mp h with q | q
   ·cases q
    simp at e
   ·exact jZ q
theorem qR{env:Env}(f:(Str×NameKind)->List (Str×Addr)->Sem (ForInStep (List (Str×Addr))))(hf1:∀n acc c,env.cells.lookup n=some c->f (n,.free) acc=pure (.yield ((n,c)::acc)))
  (hf2:∀n k acc,(k==NameKind.free)=false->f (n,k) acc=pure (.yield acc)):∀(ns:List (Str×NameKind)) (acc:List (Str×Addr)),(∀y∈ns,y.2=.free->∃c,env.cells.lookup y.1=some c)->forIn ns acc f=pure (bL env.cells ns acc)
 | [],_,_=>rfl
 | (n,k)::r,acc,h=>by
  have ih:=λacc'=>qR f hf1 hf2 r acc' λy hy=>h y (UL _ hy)
  rw [List.forIn_cons]
  cases hk:k==NameKind.free with
  | true =>
   have ek:k=NameKind.free:=by simpa using hk
   subst ek
   obtain⟨c,e⟩:=h (n,.free) List.mem_cons_self rfl
   have e':env.cells.lookup n=some c:=e
   rw [hf1 n acc c e]
   show forIn r ((n,c)::acc) f=_
   rw [ih]
   show _=pure (bL env.cells r (if(NameKind.free==NameKind.free)=true then(n,(env.cells.lookup n).getD 0)::acc else acc))
   rw [if_pos (by rfl),e']
   rfl
  | false =>
   rw [hf2 n k acc hk]
   show forIn r acc f=_
   rw [ih]
   show _=pure (bL env.cells r (if(k==NameKind.free)=true then(n,(env.cells.lookup n).getD 0)::acc else acc))
   rw [if_neg (by rw [hk]; decide)]
theorem cU{scope:Scope}{env:Env}(h:∀y∈scope.names,y.2=.free->∃c,env.cells.lookup y.1=some c):closureFor scope env=pure (bL env.cells scope.names []):=by
 unfold closureFor
 show(forIn scope.names [] _ >>= _)=_
 rw [qR (env:=env) _ ?_ ?_ scope.names [] h]
 ·rfl
 ·intro n acc c e
  show(if(NameKind.free==NameKind.free)=true then _ else _)=_
  rw [if_pos (by rfl)]
  unfold cellOf
  rw [e]
  first | rfl | skip
 ·intro n k acc hk
  show(if(k==NameKind.free)=true then _ else _)=_
  rw [if_neg (by rw [hk]; decide)]
abbrev aK(X:Cx)(N':List Str)(sc:Scope)(cl:List (Str×Addr))(C:Addr)(s:Shared)(H:Hp)(fp:List Addr):Cx :=
 {X with N:=N',s₀:=s,H₀:=H,env:=compEnvC sc cl C X.env,outer:=X.stack,stack:=X.stack,ex:=fp,fn:=λx=>sc.names.lookup x==some NameKind.local,pn:=[],xe:=λ_ _=>False}
structure ba(zb:Scope)(ON N':List Str)(src:List (Option Nat))(sc:Scope):Prop where
 kind:sc.kind=.function
 Ms:zb.kind=.function
 uniq:∀y∈sc.names,sc.names.lookup y.1=some y.2
 og:∀y∈sc.names,y.2≠ .cell
 free:∀y∈sc.names,y.2=.free->zb.names.lookup y.1=some .cell\/zb.names.lookup y.1=some .free
 len:src.length=N'.length
 src:∀(i:Nat) (x:Str) (j:Nat),N'[i]? = some x->src[i]? = some (some j)->ON[j]? = some x/\sc.names.lookup x=some .free
def jT(src:List (Option Nat))(σ:St):St:=src.map λo=>o.bind λj=>(σ[j]?).bind id
theorem Ci{src:List (Option Nat)}{σ:St}{i:Nat}{v:V}(h:(jT src σ)[i]? = some (some v)):∃j,src[i]? = some (some j)/\σ[j]? = some (some v):=by
 unfold jT at h
 rw [List.getElem?_map]at h
 cases e:src[i]? with
 | none=>rw [e]at h; cases h
 | some o =>
  rw [e]at h
  cases o with
  | none=>cases h
  | some j =>
   have h':(σ[j]?).bind id=some v:=Option.some.inj h
   cases e2:σ[j]? with
   | none=>rw [e2]at h'; cases h'
   | some w =>
    rw [e2]at h'
    have h'':w=some v:=h'
    exact⟨j,rfl,by rw [e2,h'']⟩
def i9(X:Cx)(ifs:List Expr)(t:TT):Prop :=
 ∀(pins:List (Addr×Obj)) (s:Shared) (σ:St) (H:Hp) (Q:Bool->Hp->Prop),Inv X pins σ H s->t σ H Q->
  wpAny (model X.prog X.w) X.A (forIn ifs true λc r=>if r=true then do let ok←isTrue c X.env (eval c X.env); pure (ForInStep.yield ok)else pure (ForInStep.yield r)) (TP X pins σ Q) X.xe s
def Lv:TT:=λ_ H Q=>Q true H
theorem aX{X:Cx}:i9 X [] Lv:=λ_ _ _ H _ I h=>wpAny_tests_nil ⟨H,I,h⟩
theorem oA{X:Cx}{c:Expr}{t:TT}(h:PT X c t):i9 X [c] t:=λpins s σ H Q I q=>wpAny_tests_one (h pins s σ H Q I q)
def oB(J:It)(g:TG)(tc:TT)(te:TE)(D:Addr)(Q:VK)(W:Nat->Nat->St->List V->Hp->Prop):Prop :=
 ∀i m σ ys H,W i m σ ys H->H D=some (.lst ys)/\((J.stop i H/\Q (.ref D) H)\/(J.go i H/\ys.length<sizeLine/\∃N:St->List V->Hp->Prop,(∀σ' ys' H',N σ' ys' H'->∃m',m'<m/\W (i+1) m' σ' ys' H')/\
  ∀x H',J.EV i H x H'->g x σ H' λdf H2=>tc df H2 λb H3 =>
   if b=true then te df H3 λv H4=>H4 D=some (.lst ys)/\N df (ys++[v]) (upd H4 D (.lst (ys++[v])))else N df ys H3))
def Cr(src:List (Option Nat))(wi:TI)(g:TG)(tc:TT)(te:TE):TE:=λσ H Q=>wi σ H λJ H1=>∀D,H1 D=none->
 ∃W:Nat->Nat->St->List V->Hp->Prop,(∃m,W 0 m (jT src σ) [] (upd H1 D (.lst [])))/\oB J g tc te D Q W
section
variable{X:Cx}{elt target iter:Expr}{ifs:List Expr}{sc:Scope}{pos:Pos}{wi:TI}{g:TG}{tc:TT}{te:TE}{N':List Str}{src:List (Option Nat)}
theorem zq{it acc:Value}{env:Env}{prog:Program}{w:World}{A:Around}{s:Shared}{R:Result->Shared->Prop}(Iv:Nat->Shared->Prop)
  (turn:∀n s,Iv n s->wpAny (model prog w) A (pyNext it) (λr s₁=>match r with
   | none=>R (.ok .next) s₁
   | some v=>wpAny (model prog w) A (letOwnedTupleGo target it v) (λ_ s₁'=>wpAny (model prog w) A (assign target env v) (λ_ s₂ =>
     wpAny (model prog w) A (forIn ifs true λc r=>if r=true then do let ok←isTrue c env (eval c env); pure (ForInStep.yield ok)else pure (ForInStep.yield r)) (λok s₃ =>
      if ok=true then wpAny (model prog w) A (eval elt env) (λx s₄ =>
       wpAny (model prog w) A (call (.builtin "list.append") [acc,x]) (λ_ s₅=>∃m,m<n/\Iv m s₅) (λ_ _=>False) s₄) (λ_ _=>False) s₃
      else∃m,m<n/\Iv m s₃) (λ_ _=>False) s₂) (λ_ _=>False) s₁') (λ_ _=>False) s₁) (λ_ _=>False) s)
  (n:Nat) (h:Iv n s) :
  codeAny (model prog w) A (.compLoop (.ListComp elt [⟨target,iter,ifs,0⟩] sc pos) 0 it acc env) R s:=by
 refine codeAny_loop rfl Iv (λn s hI=>?_) n h
 show wpAny _ A ((compTurn (.ListComp elt [⟨target,iter,ifs,0⟩] sc pos) 0 it acc env).onRaise (λx=>do noteFrame x env; theTreesLotGoes x)) _ _ s
 refine wpAny_noted ?_
 rw [compTurn_list]
 refine Ut (wpAny_standAt (Ut (wpAny_mono (turn n s hI) (λr s₁ h₁=>?_) λ_ _ h'=>h'.elim)))
 cases r with
 | none=>exact Uu h₁
 | some v =>
  refine Ut (wpAny_mono h₁ (λ_ s₁' h₁'=>Ut (wpAny_mono h₁' (λ_ s₂ h₂=>Ut (wpAny_mono h₂ (λok s₃ h₃=>?_) λ_ _ h'=>h'.elim)) λ_ _ h'=>h'.elim)) λ_ _ h'=>h'.elim)
  cases ok with
  | false=>exact Uu ⟨rfl,h₃⟩
  | true =>
   exact Ut (Ut (wpAny_mono h₃ (λx s₄ h₄=>Ut (wpAny_mono h₄ (λ_ s₅ h₅=>Uu (Uu ⟨rfl,h₅⟩)) λ_ _ h'=>h'.elim)) λ_ _ h'=>h'.elim))
theorem iD{pins:List (Addr×Obj)}{σ:St}{H:Hp}{s:Shared}{h1:Heap}{fp:List Addr}(S:ba X.env.scope X.N N' src sc)(I:Inv X pins σ H s)(f2:∀b∈fp,dB X pins H b)(o2:∀b∈fp,b<s.heap.objs.size)
  (ns:h1.Ns s.heap.objs.size λx=>(([]:List (Str×Value)).reverse.lookup x)) (sb:Heap.SameBut s.heap.objs.size (s.heap.push {cls:=.type "dict",data:=.dict #[]}) h1) {tk:Nat} :
  Inv (aK X N' sc (bL X.env.cells sc.names []) s.heap.objs.size s H fp) [] (jT src σ) H {s with heap:=h1,toks:=tk}:=by
 have old:∀b o,s.heap.get? b=some o->h1.get? b=some o:=λb o e=>(sb.2 b (Nat.ne_of_lt (Uw e))).trans (Uv _ e)
 have clo:∀x c,(bL X.env.cells sc.names []).lookup x=some c->X.env.cells.lookup x=some c/\sc.names.lookup x=some .free:=λx c e=>by
  rcases qY (mem_of_lookup e)with⟨m,q⟩ | z
  ·obtain⟨c',e'⟩:=I.ok.has x (S.free _ m rfl)
   rw [e']at q
   exact⟨by rw [e',q]; rfl,S.uniq _ m⟩
  ·cases z
 have JX:∀x,sc.names.lookup x=some .free->∃c,(bL X.env.cells sc.names []).lookup x=some c:=λx e=>jZ (rA (mem_of_lookup e))
 have kinds:∀(x:Str) (k:NameKind),(relabel sc X.env).names.lookup x=some k->(k=.cell\/k=.free)->sc.names.lookup x=some .free:=λx k e hk=>by
  have gen:∀ns:List (Str×NameKind),(∀y∈ns,y.2≠ .cell)->(ns.map λ(n,k)=>if(k==NameKind.free&&X.env.scope.kind == .function&&X.env.kindOf n==some .cell)then(n,NameKind.cell)else(n,k)).lookup x=some k->ns.lookup x=some .free:=by
   intro ns
   induction ns with
   | nil=>intro _ h; cases h
   | cons y r ih =>
    obtain⟨n,k1⟩:=y
    intro hn h
    rw [List.map_cons]at h
    dsimp only at h
    by_cases hc:(k1==NameKind.free&&X.env.scope.kind == .function&&X.env.kindOf n==some .cell)=true
    ·rw [if_pos hc,List.lookup_cons]at h
     rw [List.lookup_cons]
     cases hx:x==n with
     | true =>
      have:k1=NameKind.free:=by
       cases hk1:k1==NameKind.free with
       | true=>simpa using hk1
       | false=>rw [hk1]at hc; simp at hc
      rw [this]
     | false=>rw [hx]at h; exact ih (λy hy=>hn y (UL _ hy)) h
    ·rw [if_neg hc,List.lookup_cons]at h
     rw [List.lookup_cons]
     cases hx:x==n with
     | true =>
      rw [hx]at h
      have h':k1=k:=Option.some.inj h
      rcases hk with hk | hk
      ·exact absurd (h'.trans hk) (hn (n,k1) List.mem_cons_self)
      ·show some k1=_
       rw [h',hk]
     | false=>rw [hx]at h; exact ih (λy hy=>hn y (UL _ hy)) h
  exact gen sc.names S.og e
 have Ln:∀x,sc.names.lookup x=some .free->(relabel sc X.env).names.lookup x=some .cell\/(relabel sc X.env).names.lookup x=some .free:=λx e=>by
  have gen:∀ns:List (Str×NameKind),ns.lookup x=some .free->(ns.map λ(n,k)=>if(k==NameKind.free&&X.env.scope.kind == .function&&X.env.kindOf n==some .cell)then(n,NameKind.cell)else(n,k)).lookup x=some .cell\/
    (ns.map λ(n,k)=>if(k==NameKind.free&&X.env.scope.kind == .function&&X.env.kindOf n==some .cell)then(n,NameKind.cell)else(n,k)).lookup x=some .free:=by
   intro ns
   induction ns with
   | nil=>intro h; cases h
   | cons y r ih =>
    obtain⟨n,k1⟩:=y
    intro h
    rw [List.map_cons]
    dsimp only
    rw [List.lookup_cons]at h
    by_cases hc:(k1==NameKind.free&&X.env.scope.kind == .function&&X.env.kindOf n==some .cell)=true
    ·rw [if_pos hc,List.lookup_cons]
     cases hx:x==n with
     | true=>exact .inl rfl
     | false=>rw [hx]at h; exact ih h
    ·rw [if_neg hc,List.lookup_cons]
     cases hx:x==n with
     | true =>
      rw [hx]at h
      exact .inr h
     | false=>rw [hx]at h; exact ih h
  exact gen sc.names e
 refine⟨⟨I.mod,?_,I.ok.glob,I.ok.blt,Uy _,λx y c h1 h2=>I.ok.inj x y c (clo x c h1).1 (clo y c h2).1,λx hx=>?_,λx c hf h=>?_,I.ok.hd,I.ok.frames,.inl rfl,λb hb=>⟨?_,λx c h=>?_⟩,I.bs,?_,λb o e hb=>?_,λb hb hs=>?_,I.stack,I.nE⟩,
  rfl,I.bare,Un.kept old,⟨_,ns,λi x v h1 h2 h3=>?_⟩,λx c h=>?_,I.hok.fresh (Uy _),λx c h=>I.fM x c (clo x c h).1,λp hp=>absurd (show p∈([]:List (Addr×Obj)) from hp) (by simp),I.hok.kept old,?_⟩
 ·show(relabel sc X.env).kind=.function
  exact S.kind
 ·obtain hx | hx:=hx
  ·exact JX x (kinds x _ hx (.inl rfl))
  ·exact JX x (kinds x _ hx (.inr rfl))
 ·have e2:=(clo x c h).2
  have hf':(sc.names.lookup x==some NameKind.local)=true:=hf
  rw [e2]at hf'
  cases hf'
 ·exact Nat.ne_of_lt (o2 b hb)
 ·exact(f2 b hb).2.2.2.2.1 x c (clo x c h).1
 ·exact Uz I.ok.A7 I.sz
 ·rcases(f2 b hb).2.2.2.1 with z | z
  ·exact I.ok.vv b o e z
  ·exact absurd (UH (Uw e) (Uz I.ok.A7 z)) (Nat.lt_irrefl _)
 ·rcases List.mem_cons.mp (I.xH b hs)with z | z
  ·exact(f2 b hb).2.1 z
  ·exact(f2 b hb).2.2.1 z
 ·obtain⟨j,e1,e2⟩:=Ci h2
  obtain⟨e3,e4⟩:=S.src i x j h1 e1
  obtain⟨m,hn,hl⟩:=I.loc
  have kx:=S.free _ (mem_of_lookup e4) rfl
  obtain⟨u,ru,l⟩:=hl j x v e3 e2 (.inr kx)
  refine⟨u,ru,.inr ⟨Ln x e4,?_⟩⟩
  obtain⟨c,hc⟩:=JX x e4
  refine⟨c,hc,?_⟩
  have hc':=(clo x c hc).1
  rcases l with⟨lk,_⟩ | ⟨_,c',lc,z⟩
  ·have Q9:X.env.scope.names.lookup x=some .local:=lk
   rcases kx with q | q
   ·have q':X.env.scope.names.lookup x=some .cell:=q
    rw [Q9]at q'; cases q'
   ·have q':X.env.scope.names.lookup x=some .free:=q
    rw [Q9]at q'; cases q'
  ·rw [hc']at lc
   cases lc
   obtain⟨o,ho,hd⟩:=z
   exact⟨o,old _ _ ho,hd⟩
 ·obtain⟨v,o,ho,hd⟩:=I.cell x c (clo x c h).1
  exact⟨v,o,old _ _ ho,hd⟩
 ·show(jT src σ).length=N'.length
  unfold jT
  rw [UC]
  exact S.len
theorem pP{pins:List (Addr×Obj)}{σ:St}{H2:Hp}{s2:Shared}{it:Addr}{fp:List Addr}{tn:Nat->Heap->Prop}{J:It}{Q:VK}{E:Value->Shared->Prop}{RR:Value->Addr->Result->Shared->Prop}
  (hc:X.calm=true) (S:ba X.env.scope X.N N' src sc)
  (hg:∀cl C s H fp,PG (aK X N' sc cl C s H fp) target g) (ht:∀cl C s H fp,i9 (aK X N' sc cl C s H fp) ifs tc) (he:∀cl C s H fp,PE (aK X N' sc cl C s H fp) elt te)
  (I2:Inv X pins σ H2 s2) (T:Turn X.prog X.w X.K target J fp it tn) (st2:tn 0 s2.heap) (f2:∀b∈fp,dB X pins H2 b)
  (hW:∀D,H2 D=none->∃W:Nat->Nat->St->List V->Hp->Prop,(∃m,W 0 m (jT src σ) [] (upd H2 D (.lst [])))/\oB J g tc te D Q W)
  (hRR:∀D C s5 H' m,Inv X pins σ H' s5->s5.heap.Ns C m->dB X pins H' C->Q (.ref D) H'->RR (.ref D) C (.ok .next) s5) :
  wpAny (model X.prog X.w) X.A (newList []) (λacc s₃=>wpAny (model X.prog X.w) X.A (newFunctionEnv sc X.env.globals (bL X.env.cells sc.names []) [] X.env.qual none .none (some X.env)) (λcenv s₄ =>
   codeAny (model X.prog X.w) X.A (.compStart (.ListComp elt [⟨target,iter,ifs,0⟩] sc pos) 0 (.ref it) acc {cenv with scope:=relabel sc X.env}) (RR acc cenv.locals) s₄) E s₃) E s2:=by
 have o2:∀b∈fp,b<s2.heap.objs.size:=λb hb=>by
  obtain⟨o,e,_⟩:=T.obj 0 _ st2 b hb
  exact Uw e
 refine wpAny_newObj_type ?_
 have JZ:H2 s2.heap.objs.size=none:=I2.hok.fresh (Uy _)
 obtain⟨W,⟨m0,w0⟩,turn⟩:=hW s2.heap.objs.size JZ
 have I3:Inv X pins σ (upd H2 s2.heap.objs.size (.lst [])) {s2 with heap:=s2.heap.push {cls:=.type "list",dict:=none,data:=.seq ([]:List Value).toArray}} :=
  I2.laid (t':=s2.toks) (λb u e=>Uv _ e) (Uy _) ⟨Nat.zero_le _,[],0,.nil,Ux _ rfl⟩
 have st3:tn 0 (s2.heap.push {cls:=.type "list",dict:=none,data:=.seq ([]:List Value).toArray}):=T.keep 0 _ _ st2 λb hb o e=>Uv _ e
 generalize hs3:({s2 with heap:=s2.heap.push {cls:=.type "list",dict:=none,data:=.seq ([]:List Value).toArray}}:Shared)=s3 at I3
 have hh3:s3.heap=s2.heap.push {cls:=.type "list",dict:=none,data:=.seq ([]:List Value).toArray}:=by rw [←hs3]
 have El:s2.heap.objs.size<s3.heap.objs.size:=by rw [hh3,Heap.size_push]; exact Nat.lt_succ_self _
 have o3:∀b∈fp,b<s3.heap.objs.size:=λb hb=>Nat.lt_trans (o2 b hb) El
 have f3:∀b∈fp,dB X pins (upd H2 s2.heap.objs.size (.lst [])) b:=λb hb=>⟨by rw [aI (Nat.ne_of_lt (o2 b hb))]; exact(f2 b hb).1,(f2 b hb).2⟩
 rw [←hh3]at st3
 refine wpAny_newFunctionEnv S.og (by intro y hy; simp at hy) (λh1 hns hsb=>?_) S.kind
 have hsb':Heap.SameBut s3.heap.objs.size (s3.heap.push {cls:=.type "dict",data:=.dict #[]}) h1:=hsb
 have I4:Inv (aK X N' sc (bL X.env.cells sc.names []) s3.heap.objs.size s3 (upd H2 s2.heap.objs.size (.lst [])) fp) [] (jT src σ) (upd H2 s2.heap.objs.size (.lst [])) {s3 with heap:=h1,toks:=s3.toks+([]:List (Str×Value)).length} :=
  iD S I3 f3 o3 hns hsb'
 have BJ:tn 0 h1:=T.keep 0 _ _ st3 λb hb o e=>(hsb'.2 b (Nat.ne_of_lt (o3 b hb))).trans (Uv _ e)
 have fC:∀(H':Hp),H' s3.heap.objs.size=none->dB X pins H' s3.heap.objs.size:=λH' hn=>I3.l7 (Uy _) hn
 have loop:codeAny (model X.prog X.w) X.A (.compLoop (.ListComp elt [⟨target,iter,ifs,0⟩] sc pos) 0 (.ref it) (.ref s2.heap.objs.size) (compEnvC sc (bL X.env.cells sc.names []) s3.heap.objs.size X.env))
   (RR (.ref s2.heap.objs.size) s3.heap.objs.size) {s3 with heap:=h1,toks:=s3.toks+([]:List (Str×Value)).length}:=by
  have stat:∀{H':Hp},(∀b∈fp,H' b=none)->∀b∈fp,dB (aK X N' sc (bL X.env.cells sc.names []) s3.heap.objs.size s3 (upd H2 s2.heap.objs.size (.lst [])) fp) [] H' b:=λhn b hb =>
   ⟨hn b hb,(I4.ok.AM b hb).1,I4.ok.pI b hb,.inl hb,(I4.ok.AM b hb).2,λp hp=>absurd (show p∈([]:List (Addr×Obj)) from hp) (by simp)⟩
  refine zq (λn s'=>∃i σ' ys H',Inv (aK X N' sc (bL X.env.cells sc.names []) s3.heap.objs.size s3 (upd H2 s2.heap.objs.size (.lst [])) fp) [] σ' H' s'/\tn i s'.heap/\(∀b∈fp,H' b=none)/\W i n σ' ys H') ?_ m0
   ⟨0,_,[],_,I4,BJ,λb hb=>(f3 b hb).1,w0⟩
  rintro n s5 ⟨i,nu,ys,H5,I5,ug,v8,w5⟩
  obtain⟨hD,alt⟩:=turn i n nu ys H5 w5
  rcases alt with⟨stop,qn⟩ | ⟨go,hsz,N,hN,step⟩
  ·refine b_ (T.done (aK X N' sc (bL X.env.cells sc.names []) s3.heap.objs.size s3 (upd H2 s2.heap.objs.size (.lst [])) fp) rfl rfl rfl hc i [] s5 nu H5 _ I5 (stat v8) ug stop) λr s6 ⟨hr,I6⟩=>?_
   subst hr
   obtain⟨m6,n6,_⟩:=id I6.loc
   refine hRR _ _ s6 H5 m6 (I3.call' I6.os I6.base I6.hok I6.bare λb hb=>⟨(f3 b hb).2.2.2.1,(f3 b hb).2.1,(f3 b hb).2.2.2.2.1,(f3 b hb).2.2.2.2.2⟩) n6 (fC _ I6.free) qn
  ·refine b_ (T.item (aK X N' sc (bL X.env.cells sc.names []) s3.heap.objs.size s3 (upd H2 s2.heap.objs.size (.lst [])) fp) rfl rfl rfl hc i [] s5 nu H5 _ I5 (stat v8) ug go) λr s6 ⟨u,hr,h6⟩=>?_
   subst hr
   refine b_ h6 λ_ s7 ⟨x,H7,I7,r7,y7,sh,ET⟩=>?_
   have F_:=I7.pinned (stat ET) (T.obj _ _ sh)
   refine b_ (hg _ _ _ _ _ _ s7 nu H7 x u _ F_ r7 (step x H7 y7)) λ_ s8 ⟨uh,H8,I8,q8⟩=>?_
   refine b_ (ht _ _ _ _ _ _ s8 uh H8 _ I8 q8) λb s9 ⟨H9,I9,q9⟩=>?_
   have again:∀{σ':St} {H':Hp} {s':Shared} {ys':List V} {m':Nat},Inv (aK X N' sc (bL X.env.cells sc.names []) s3.heap.objs.size s3 (upd H2 s2.heap.objs.size (.lst [])) fp) ([]++jd fp s7.heap) σ' H' s'->m'<n->W (i+1) m' σ' ys' H'->
     ∃m,m<n/\∃i σ' ys H',Inv (aK X N' sc (bL X.env.cells sc.names []) s3.heap.objs.size s3 (upd H2 s2.heap.objs.size (.lst [])) fp) [] σ' H' s'/\tn i s'.heap/\(∀b∈fp,H' b=none)/\W i m σ' ys H':=λ{σ' H' s' ys' m'} I' hm w'=>by
    refine⟨m',hm,i+1,σ',ys',H',I'.gp,T.keep _ _ _ sh λb hb o e=>(I'.pin (b,o) (UJ _ (UJ _ (cL hb e)))).1,λb hb=>?_,w'⟩
    obtain⟨o,e,d⟩:=T.obj _ _ sh b hb
    exact(I'.pin (b,o) (UJ _ (UJ _ (cL hb e)))).2.1
   cases b with
   | false =>
    rw [if_neg UM]at q9⊢
    obtain⟨m',hm,w'⟩:=hN _ _ _ q9
    exact again I9 hm w'
   | true =>
    rw [if_pos rfl]at q9⊢
    refine b_ (he _ _ _ _ _ _ s9 uh H9 _ I9 q9) λxv BL ⟨v,Ak,MS,r10,Bc,w10⟩=>?_
    obtain⟨m',hm,w'⟩:=hN _ _ _ w10
    have LO:m5 (.ref s2.heap.objs.size) [v] Ak λ_ H'=>H'=upd Ak s2.heap.objs.size (.lst (ys++[v])):=⟨_,ys,v,rfl,rfl,Bc,hsz,rfl⟩
    refine b_ (cV _ BL uh Ak _ _ _ _ _ MS (show RelV (.ref s2.heap.objs.size) (.ref s2.heap.objs.size) from rfl) (.cons r10 .nil) LO) λ_ Qs ⟨_,Ph,Hn,_,MX⟩=>?_
    rw [MX]at Hn
    exact again Hn hm w'
 exact codeAny_compStart_list loop (T.self _ 0 _ _ _ BJ loop)
theorem bw(hc:X.calm=true)(S:ba X.env.scope X.N N' src sc)(hi:PI X target iter wi)
  (hg:∀cl C s H fp,PG (aK X N' sc cl C s H fp) target g) (ht:∀cl C s H fp,i9 (aK X N' sc cl C s H fp) ifs tc) (he:∀cl C s H fp,PE (aK X N' sc cl C s H fp) elt te)
  (hs:∀x,foldedSetIterable iter X.env x=pure x:=by intro _; rfl) :
  PE X (.ListComp elt [⟨target,iter,ifs,0⟩] sc pos) (Cr src wi g tc te):=by
 intro pins s σ H Q I h
 rw [eval_ListComp]
 refine wpAny_comprehension_free (use:=none) rfl hs (cU λy hy hk=>I.ok.has y.1 (S.free y hy hk)) S.kind (λy hy hl=>by rw [←hl]; exact S.uniq y hy) ?_
 refine b_ (hi pins s σ H _ I h) λv s1 h1=>b_ h1 λitv s2 h2=>?_
 obtain⟨it,fp,tn,J,H2,e,I2,T,st2,f2,hW⟩:=h2
 subst e
 refine pP (Q:=Q) (RR:=λacc C=>compPost (model X.prog X.w) X.A X.xe none (EP X pins σ Q) acc C) hc S hg ht he I2 T st2 f2 hW ?_
 intro D C s5 H' m I5 n5 fC q
 refine⟨m,n5,λh' sb=>⟨.ref D,H',?_,rfl,q⟩⟩
 exact I5.turned (t':=s5.toks) (λb o hb e=>(sb.2 b hb).trans e) fC.1 fC.2.1 fC.2.2.2.1 fC.2.2.2.2.1 fC.2.2.2.2.2
theorem km{i:Nat}{x:Str}{pos' spos:Pos}(hN:X.N.Nodup)(hi':X.N[i]? = some x)(hx:Loc X.env.scope x)(hsw:swapsWith (.ListComp elt [⟨target,iter,ifs,0⟩] sc pos) (some (.Name x pos')) spos.line X.env=pure true)
  (hc:X.calm=true) (S:ba X.env.scope X.N N' src sc) (hi:PI X target iter wi)
  (hg:∀cl C s H fp,PG (aK X N' sc cl C s H fp) target g) (ht:∀cl C s H fp,i9 (aK X N' sc cl C s H fp) ifs tc) (he:∀cl C s H fp,PE (aK X N' sc cl C s H fp) elt te)
  (hf:X.fn x=true\/X.env.scope.names.lookup x=some .local:=by first | exact .inl rfl | exact .inr rfl | assumption)
  (hs:∀x,foldedSetIterable iter X.env x=pure x:=by intro _; rfl) :
  PS X (.Assign [.Name x pos'] (.ListComp elt [⟨target,iter,ifs,0⟩] sc pos) spos) (Dz (Cr src wi g tc te) (bz i)):=by
 intro pins s σ H D I h
 rw [exec_Assign_Name_used _ _ _ _ hsw]
 refine Ut (wpAny_standAt (Ut ?_))
 show wpAny _ _ (comprehension _ _ _ _ _ _ _ _ >>= _) _ _ s
 refine Ut (wpAny_comprehension_free (use:=some (assign (.Name x pos') X.env)) rfl hs (cU λy hy hk=>I.ok.has y.1 (S.free y hy hk)) S.kind (λy hy hl=>by rw [←hl]; exact S.uniq y hy) ?_)
 refine b_ (hi pins s σ H _ I h) λv s1 h1=>b_ h1 λitv s2 h2=>?_
 obtain⟨it,fp,tn,J,H2,e,I2,T,st2,f2,hW⟩:=h2
 subst e
 refine pP (Q:=λy H'=>D.nx (σ.set i (some y)) H') (RR:=λacc C=>compPost (model X.prog X.w) X.A X.xe (some (assign (.Name x pos') X.env)) _ acc C) hc S hg ht he I2 T st2 f2 hW ?_
 intro D' C s5 H' m I5 n5 fC q
 refine wpAny_assign_Name (l_ I5 hN hi' hx (show RelV (.ref D') (.ref D') from rfl) (λs6 I6 hsb=>?_) hf)
 obtain⟨a,sb,ha⟩:=hsb
 have OH:C≠a:=by
  rcases ha with z | z
  ·rw [z]; exact fC.2.1
  ·exact λe=>fC.2.2.2.2.1 x a z e.symm
 refine⟨m,n5.sameBut sb OH,λh' NT=>?_⟩
 refine Uu (Uu ?_)
 exact⟨_,H',I6.turned (t':=s6.toks) (λb o hb e=>(NT.2 b hb).trans e) fC.1 fC.2.1 fC.2.2.2.1 fC.2.2.2.2.1 fC.2.2.2.2.2,q⟩
end
def yA(zb:Scope)(ON N':List Str)(src:List (Option Nat))(sc:Scope):Bool :=
 sc.kind == .function&&zb.kind == .function&&sc.names.all (λy=>sc.names.lookup y.1==some y.2&&y.2 != .cell&&(y.2 != .free||zb.names.lookup y.1==some .cell||zb.names.lookup y.1==some .free)) &&
 src.length==N'.length&&(N'.zip src).all λy=>match y.2 with | none=>true | some j=>ON[j]? == some y.1&&sc.names.lookup y.1==some .free
theorem ba.jL{zb:Scope}{ON N':List Str}{src:List (Option Nat)}{sc:Scope}(h:yA zb ON N' src sc=true):ba zb ON N' src sc:=by
 unfold yA at h
 simp only [Bool.and_eq_true]at h
 obtain⟨⟨⟨⟨h1,h2⟩,h3⟩,h4⟩,h5⟩:=h
 have h3':=List.all_eq_true.mp h3
 have S5:=List.all_eq_true.mp h5
 refine⟨by simpa using h1,by simpa using h2,λy hy=>?_,λy hy=>?_,λy hy hf=>?_,by simpa using h4,λi x j e1 e2=>?_⟩
 ·have:=h3' y hy
  simp only [Bool.and_eq_true]at this
  simpa using this.1.1
 ·have:=h3' y hy
  simp only [Bool.and_eq_true]at this
  simpa using this.1.2
 ·have:=h3' y hy
  simp only [Bool.and_eq_true,Bool.or_eq_true]at this
  rcases this.2 with(z | z) | z
  ·rw [hf]at z; exact absurd z (by decide)
  ·exact .inl (by simpa using z)
  ·exact .inr (by simpa using z)
 ·have m:(x,some j)∈N'.zip src:=by
   refine UK (i:=i) ?_
   rw [List.getElem?_zip_eq_some]
   exact⟨e1,e2⟩
  have:=S5 _ m
  simp only [Bool.and_eq_true]at this
  exact⟨by simpa using this.1,by simpa using this.2⟩
section
variable{g:TG}{tc:TT}{te:TE}{D:Addr}{Q:VK}{p_:St}{H0:Hp}
theorem iL{lo:Int}{n:Nat}(Pv:Nat->St->List V->Hp->Prop)(h0:Pv 0 p_ [] H0)(hD:∀i σ ys H,i<=n->Pv i σ ys H->H D=some (.lst ys)/\ys.length<=i)(hz:n<=sizeLine)
  (hs:∀i σ ys H,i<n->Pv i σ ys H->g (.int (lo+i)) σ H λdf H2=>tc df H2 λb H3=>if b=true then te df H3 λv H4=>H4 D=some (.lst ys)/\Pv (i+1) df (ys++[v]) (upd H4 D (.lst (ys++[v])))else Pv (i+1) df ys H3)
  (hd:∀σ ys H,Pv n σ ys H->Q (.ref D) H):∃W:Nat->Nat->St->List V->Hp->Prop,(∃m,W 0 m p_ [] H0)/\oB (Js lo n) g tc te D Q W:=by
 refine⟨λi m σ ys H=>m=n-i/\i<=n/\Pv i σ ys H,⟨n,by simp,Nat.zero_le _,h0⟩,?_⟩
 rintro i m σ ys H ⟨rfl,hi,p⟩
 refine⟨(hD i σ ys H hi p).1,?_⟩
 by_cases hlt:i<n
 ·refine .inr ⟨hlt,UG (hD i σ ys H hi p).2 (UH hlt hz),Pv (i+1),λσ' ys' H' p'=>⟨n-(i+1),by omega,rfl,hlt,p'⟩,λx H' y=>?_⟩
  obtain⟨e,y⟩:=y
  subst e y
  exact hs i σ ys _ hlt p
 ·have e:i=n:=by omega
  subst e
  exact .inl ⟨Uy _,hd σ ys H p⟩
theorem dI{K:PySem.W.Frag}{a:Addr}{xs:List V}(Pv:Nat->St->List V->Hp->Prop)(h0:Pv 0 p_ [] H0)(hD:∀i σ ys H,i<=xs.length->Pv i σ ys H->H D=some (.lst ys)/\ys.length<=i)(hl:∀i σ ys H,i<=xs.length->Pv i σ ys H->aZ K H a xs)(hz:xs.length<=sizeLine)
  (hs:∀i x σ ys H,xs[i]? = some x->Pv i σ ys H->g x σ H λdf H2=>tc df H2 λb H3=>if b=true then te df H3 λv H4=>H4 D=some (.lst ys)/\Pv (i+1) df (ys++[v]) (upd H4 D (.lst (ys++[v])))else Pv (i+1) df ys H3)
  (hd:∀σ ys H,Pv xs.length σ ys H->Q (.ref D) H):∃W:Nat->Nat->St->List V->Hp->Prop,(∃m,W 0 m p_ [] H0)/\oB (Nt K a) g tc te D Q W:=by
 refine⟨λi m σ ys H=>m=xs.length-i/\i<=xs.length/\Pv i σ ys H,⟨xs.length,by simp,Nat.zero_le _,h0⟩,?_⟩
 rintro i m σ ys H ⟨rfl,hi,p⟩
 have q:=hl i σ ys H hi p
 refine⟨(hD i σ ys H hi p).1,?_⟩
 by_cases hlt:i<xs.length
 ·refine .inr ⟨⟨xs,xs[i],q,by simp [hlt]⟩,UG (hD i σ ys H hi p).2 (UH hlt hz),Pv (i+1),λσ' ys' H' p'=>⟨xs.length-(i+1),by omega,rfl,hlt,p'⟩,λx H' y=>?_⟩
  obtain⟨e,y⟩:=y
  subst e
  exact hs i x σ ys _ (y xs q) p
 ·have e:i=xs.length:=by omega
  subst e
  exact .inl ⟨⟨xs,q,Uy _⟩,hd σ ys H p⟩
theorem cF{K:PySem.W.Frag}{a:Addr}{xs:List V}(Pv:Nat->St->List V->Hp->Prop)(h0:Pv 0 p_ [] H0)(hD:∀i σ ys H,i<=xs.length->Pv i σ ys H->H D=some (.lst ys)/\ys.length<=i)(hl:∀i σ ys H,i<=xs.length->Pv i σ ys H->aH K H a xs)(hz:xs.length<=sizeLine)
  (hs:∀i x σ ys H,xs[i]? = some x->Pv i σ ys H->g x σ H λdf H2=>tc df H2 λb H3=>if b=true then te df H3 λv H4=>H4 D=some (.lst ys)/\Pv (i+1) df (ys++[v]) (upd H4 D (.lst (ys++[v])))else Pv (i+1) df ys H3)
  (hd:∀σ ys H,Pv xs.length σ ys H->Q (.ref D) H):∃W:Nat->Nat->St->List V->Hp->Prop,(∃m,W 0 m p_ [] H0)/\oB (F0 K a) g tc te D Q W:=by
 refine⟨λi m σ ys H=>m=xs.length-i/\i<=xs.length/\Pv i σ ys H,⟨xs.length,by simp,Nat.zero_le _,h0⟩,?_⟩
 rintro i m σ ys H ⟨rfl,hi,p⟩
 have q:=hl i σ ys H hi p
 refine⟨(hD i σ ys H hi p).1,?_⟩
 by_cases hlt:i<xs.length
 ·refine .inr ⟨⟨xs,xs[i],q,by simp [hlt]⟩,UG (hD i σ ys H hi p).2 (UH hlt hz),Pv (i+1),λσ' ys' H' p'=>⟨xs.length-(i+1),by omega,rfl,hlt,p'⟩,λx H' y=>?_⟩
  obtain⟨e,y⟩:=y
  subst e
  exact hs i x σ ys _ (y xs q) p
 ·have e:i=xs.length:=by omega
  subst e
  exact .inl ⟨⟨xs,q,Uy _⟩,hd σ ys H p⟩
end
section
variable{X:Cx}{N':List Str}{sc:Scope}{cl:List (Str×Addr)}{C:Addr}{s:Shared}{H:Hp}{fp:List Addr}
theorem sF{env:Env}{x:Str}(e:sc.names.lookup x=some .free):(relabel sc env).names.lookup x=some .cell\/(relabel sc env).names.lookup x=some .free:=by
 have gen:∀ns:List (Str×NameKind),ns.lookup x=some .free->(ns.map λ(n,k)=>if(k==NameKind.free&&env.scope.kind == .function&&env.kindOf n==some .cell)then(n,NameKind.cell)else(n,k)).lookup x=some .cell\/
   (ns.map λ(n,k)=>if(k==NameKind.free&&env.scope.kind == .function&&env.kindOf n==some .cell)then(n,NameKind.cell)else(n,k)).lookup x=some .free:=by
  intro ns
  induction ns with
  | nil=>intro h; cases h
  | cons y r ih =>
   obtain⟨n,k1⟩:=y
   intro h
   rw [List.map_cons]
   dsimp only
   rw [List.lookup_cons]at h
   by_cases hc:(k1==NameKind.free&&env.scope.kind == .function&&env.kindOf n==some .cell)=true
   ·rw [if_pos hc,List.lookup_cons]
    cases hx:x==n with
    | true=>exact .inl rfl
    | false=>rw [hx]at h; exact ih h
   ·rw [if_neg hc,List.lookup_cons]
    cases hx:x==n with
    | true =>
     rw [hx]at h
     exact .inr h
    | false=>rw [hx]at h; exact ih h
 exact gen sc.names e
theorem fk{env:Env}{x:Str}{k:NameKind}(hk:(k==NameKind.free)=false)(e:sc.names.lookup x=some k):(relabel sc env).names.lookup x=some k:=by
 have gen:∀ns:List (Str×NameKind),ns.lookup x=some k->(ns.map λ(n,k)=>if(k==NameKind.free&&env.scope.kind == .function&&env.kindOf n==some .cell)then(n,NameKind.cell)else(n,k)).lookup x=some k:=by
  intro ns
  induction ns with
  | nil=>intro h; cases h
  | cons y r ih =>
   obtain⟨n,k1⟩:=y
   intro h
   rw [List.map_cons]
   dsimp only
   rw [List.lookup_cons]at h
   cases hx:x==n with
   | true =>
    rw [hx]at h
    have h':k1=k:=Option.some.inj h
    subst h'
    rw [if_neg (by rw [hk]; simp),List.lookup_cons,hx]
   | false =>
    rw [hx]at h
    split
    ·rw [List.lookup_cons,hx]; exact ih h
    ·rw [List.lookup_cons,hx]; exact ih h
 exact gen sc.names e
theorem yI(i:Nat){x:Str}{pos:Pos}(hN:N'[i]? = some x:=by rfl)(hv:sc.names.lookup x=some .free:=by rfl)(hd:(x==("__debug__" : Str))=false:=by decide)(hcd:(x==("__classdict__" : Str))=false:=by decide) :
  PE (aK X N' sc cl C s H fp) (.Name x pos) (bx i):=xy (X:=aK X N' sc cl C s H fp) hN (.inr (sF hv)) hd hcd
theorem i5(i:Nat){x:Str}{pos:Pos}(hN:N'[i]? = some x:=by rfl)(hv:sc.names.lookup x=some .local:=by rfl)(hd:(x==("__debug__" : Str))=false:=by decide)(hcd:(x==("__classdict__" : Str))=false:=by decide) :
  PE (aK X N' sc cl C s H fp) (.Name x pos) (bx i):=xy (X:=aK X N' sc cl C s H fp) hN (.inl (fk rfl hv)) hd hcd
theorem eA{i:Nat}{x:Str}{pos:Pos}(hn:N'.Nodup:=by decide +kernel)(hN:N'[i]? = some x:=by rfl)(hv:sc.names.lookup x=some .local:=by rfl) :
  PG (aK X N' sc cl C s H fp) (.Name x pos) (bz i):=bS (X:=aK X N' sc cl C s H fp) hn hN (.inl (fk rfl hv)) (.inr (fk rfl hv))
theorem we{x:Str}(hv:sc.names.lookup x=some .globalImplicit:=by rfl):Gl (aK X N' sc cl C s H fp) x:=fk (env:=X.env) rfl hv
end
section
variable{X:Cx}
theorem sg:fu X (.builtin "divmod") (λxs H Q=>∃i j,xs=[.int i,.int j]/\(0<j/\j.natAbs.log2<9000)/\∀p,H p=none->Q (.ref p) (upd H p (.tup [.int (i / j),.int (i % j)]))):=by
 intro pins s σ H xs us Q I r h
 obtain⟨i,j,rfl,⟨h1,h2⟩,q⟩:=h
 obtain⟨u,w',rfl,⟨t,rfl⟩,⟨t',rfl⟩⟩:=vals2 r
 refine divmod_int (by omega) ?_ (.inl (PyProof.noPylong_of_log2 h2))
 rw [Int.fdiv_eq_ediv_of_nonneg i (by omega),Int.fmod_eq_emod_of_nonneg i (by omega)]
 have hn:H s.heap.objs.size=none:=I.hok.fresh (Uy _)
 refine⟨.ref s.heap.objs.size,_,?_,rfl,q _ hn⟩
 refine I.laid (λb o e=>Uv _ e) (Uy _) ⟨by simp only [List.length_cons,List.length_nil]; rw [sizeLine_eq]; decide,[.int (i / j) s.toks,.int (i % j) (s.toks+1)],.cons ⟨_,rfl⟩ (.cons ⟨_,rfl⟩ .nil),?_⟩
 exact⟨_,Ux s.heap rfl,rfl,⟨0,rfl⟩,rfl⟩
theorem xh{ys:List Str}:∀{us:List Value},Vals (ys.map V.str) us->StrsAre us ys:=by
 induction ys with
 | nil=>intro us r; cases r; exact .nil
 | cons y ys ih =>
  intro us r
  cases r with
  | cons h t =>
   obtain⟨tk,rfl⟩:=h
   exact .cons _ _ (ih t)
def rJoin(K:PySem.W.Frag):V->List V->Hp->VK->Prop:=λx vs H Q=>∃sep p ys,x=.str sep/\vs=[.ref p]/\aZ K H p (ys.map V.str)/\(ys.map (·.length)).sum+ys.length*sep.length<=16777216/\Q (.str (Txt.join sep ys)) H
theorem ER:Qp X "str.join" (rJoin X.K):=by
 intro pins s σ H x vs v us Q I rx rv h
 obtain⟨sep,p,ys,rfl,rfl,hS,hz,q⟩:=h
 obtain⟨tk,rfl⟩:=rx
 obtain⟨u,rfl,ru⟩:=vals1 rv
 cases ru
 obtain⟨its,r,pl,_⟩:=I.list hS
 exact join_list pl.isList (xh (by simpa using r)) hz λt' k=>⟨.str (Txt.join sep ys),H,I.tok _,⟨_,rfl⟩,q⟩
end
def dh(H:Hp)(p:Addr):Prop:=∃a b:Int,H p=some (.lst [.int a,.int b])/\0<=a/\0<=b/\b<=2147483647
structure bo(p:Addr)(H H':Hp):Prop where
 keep:∀b o,b≠p->H b=some o->H' b=some o
 cf:dh H' p
theorem bo.refl{p:Addr}{H:Hp}(h:dh H p):bo p H H:=⟨λ_ _ _ e=>e,h⟩
theorem bo.trans{p:Addr}{H H1 H2:Hp}(a:bo p H H1)(b:bo p H1 H2):bo p H H2:=⟨λc o n e=>b.keep c o n (a.keep c o n e),b.cf⟩
theorem bo.same{p:Addr}{H H1:Hp}(h:dh H p)(s:aM H H1):bo p H H1:=⟨λc o _ e=>s c o e,let ⟨a,b,e,r⟩:=h; ⟨a,b,s _ _ e,r⟩⟩
theorem aj{H:Hp}{p:Addr}(h:H p=none)(o:HO):aM H (upd H p o):=λb u q=>by rw [aI (aU q h)]; exact q
theorem bo.new{p q:Addr}{H H1:Hp}{o:HO}(a:bo p H H1)(h:H1 q=none):bo p H (upd H1 q o):=a.trans (.same a.cf (aj h o))
def Bm(K:PySem.W.Frag):Sp:=λvs H Q _=>∃(a:Addr) (ns:List Int) (k:Int),vs=[.ref a,.int k]/\aZ K H a (ns.map V.int)/\0<=k/\∀n,Q (.int n) H
def He(K:PySem.W.Frag):Sp:=λvs H Q _=>∃(a:Addr) (ns:List Int) (k:Int),vs=[.ref a,.int k]/\aZ K H a (ns.map V.int)/\0<=k/\k<=1000/\∀p H',H p=none->aM H H'->dh H' p->Q (.ref p) H'
def dn:Sp:=λvs H Q _=>∃(p:Addr) (m:Int),vs=[.ref p,.int m]/\dh H p/\0<m/\m.natAbs.log2<9000/\∀d H',bo p H H'->0<=d->d<m->Q (.int d) H'
def pH:Sp:=λvs H Q _=>∃(p:Addr),vs=[.ref p]/\dh H p/\∀n H',bo p H H'->-(10 ^ 60)<n->n<10 ^ 60->Q (.int n) H'
def isW(x:Str):Prop:=1<=x.length/\x.length<=8/\∀c∈x.cps.toList,97<=c/\c<=122
def r8:Sp:=λvs H Q _=>∃(p:Addr),vs=[.ref p]/\dh H p/\∀x H',bo p H H'->isW x->Q (.str x) H'
theorem Dk{n:Nat}{i:Int}(h0:0<=i)(h1:i<n):v5 n i=some i.toNat:=by
 unfold v5; rw [if_pos h0,if_pos h1]
theorem CK{xs:List V}{i:Int}(h0:0<=i)(h1:i<xs.length):∃v,ja xs i=some v/\xs[i.toNat]? = some v:=by
 have e:=Dk h0 h1
 have hj:i.toNat<xs.length:=by omega
 refine⟨xs[i.toNat],?_,by simp [hj]⟩
 unfold ja; rw [e]
 show xs[i.toNat]? = _
 simp [hj]
theorem y8{xs:List V}{i:Int}(h0:0<=i)(h1:i<xs.length):∃v,ja xs i=some v/\v∈xs:=by
 obtain⟨v,h,g⟩:=CK h0 h1
 exact⟨v,h,UK g⟩
theorem Gn{z:Str}{i:Int}(h0:0<=i)(h1:i<(z.cps.toList.length:Nat)):∃c,ja z.cps.toList i=some c/\c∈z.cps.toList:=by
 have e:=Dk (n:=z.cps.toList.length) h0 h1
 have hj:i.toNat<z.cps.toList.length:=by omega
 refine⟨z.cps.toList[i.toNat],?_,List.getElem_mem hj⟩
 unfold ja; rw [e]
 show z.cps.toList[i.toNat]? = _
 simp only [hj,UI]
theorem rC(g:Str):∀(ps:List Str) (acc:Array Nat),(ps.foldl (λacc p=>acc++g.cps++p.cps) acc).toList=acc.toList++(ps.map λp=>g.cps.toList++p.cps.toList).flatten
 | [],acc=>by simp
 | p::r,acc=>by
  rw [List.foldl_cons,rC g r]
  simp [List.append_assoc]
theorem wx(g:Str)(ps:List Str):(Txt.join g ps).cps.toList=(ps.headD Str.empty).cps.toList++((ps.drop 1).map λp=>g.cps.toList++p.cps.toList).flatten:=by
 unfold Txt.join Builtin.Str.glued
 exact rC g (ps.drop 1) _
def sgn(c:Nat):Str:=⟨#[c]⟩
theorem MJ:(("" : Str).cps).toList=[]:=by decide +kernel
theorem noStr:(Str.empty.cps).toList=[]:=by decide +kernel
theorem wq(zs:List Nat):(Txt.join "" (zs.map sgn)).cps.toList=zs:=by
 rw [wx,MJ]
 cases zs with
 | nil=>exact noStr
 | cons z r =>
  show [z]++((r.map sgn).map λp=>[]++p.cps.toList).flatten=z::r
  have e:((r.map sgn).map λp=>[]++p.cps.toList).flatten=r:=by
   induction r with
   | nil=>rfl
   | cons y r ih =>
    rw [List.map_cons,List.map_cons,List.flatten_cons,ih]
    rfl
  rw [e]
  rfl
theorem Gd(zs:List Nat):((zs.map sgn).map (·.length)).sum=zs.length:=by
 induction zs with
 | nil=>rfl
 | cons z r ih=>rw [List.map_cons,List.map_cons,List.sum_cons,ih,List.length_cons]; show 1+_=_; omega
theorem HJ{x:Str}{zs:List Nat}(e:x.cps.toList=zs)(h1:1<=zs.length)(h2:zs.length<=8)(h3:∀c∈zs,97<=c/\c<=122):isW x:=by
 have l:x.length=zs.length:=by show x.cps.size=_; rw [←e]; simp
 exact⟨by omega,by omega,by rw [e]; exact h3⟩
theorem bo.put{p D:Addr}{H H3 H4:Hp}{o:HO}(g3:bo p H H3)(hD:H3 D=none)(n:D≠p)(g4:bo p H H4):bo p H (upd H4 D o):=by
 refine⟨λb u nb e=>?_,?_⟩
 ·by_cases hb:b=D
  ·subst hb
   exact absurd (g3.keep b u n e) (by rw [hD]; simp)
  ·rw [aI hb]
   exact g4.keep b u nb e
 ·obtain⟨x,y,e,r⟩:=g4.cf
  exact⟨x,y,by rw [aI (Ne.symm n)]; exact e,r⟩
theorem bo.ne{p D:Addr}{H H3:Hp}(g3:bo p H H3)(hD:H3 D=none):D≠p:=λe=>by subst e; obtain⟨_,_,z,_⟩:=g3.cf; rw [z]at hD; cases hD
section
variable{X:Cx}{x:Str}{pos:Pos}{c:Addr}{n:String}{a b:Expr}{ta tb:TE}
theorem JQ(hg:Gl X x)(hm:X.mg x=some (.ref c))(hd:(x==("__debug__" : Str))=false:=by decide):PE X (.Name x pos) (tC (.ref c)):=cQ hg hm (show RelV (.ref c) (.ref c) from rfl) hd
theorem xP(hg:Gl X x)(hm:X.mg x=none)(hv:bootBuiltins x=some (.type n))(hn:x≠"__name__":=by decide)(hd:(x==("__debug__" : Str))=false:=by decide):PE X (.Name x pos) (tC (.ty n)):=E5 hg hm hv (show RelV (.ty n) (.type n) from rfl) hn hd
theorem HS(ha:PE X a ta)(hb:PE X b tb)(hs:nq b):PE X (.Subscript a b pos) (gO (tJ X.K) ta tb):=gm Dm ha hb hs
end
end L2
namespace PySem
open Sem (wp)
section
variable{prog:Program}{w:World}{A:Around}{E:Value->Shared->Prop}{h:Heap}{g:Array GenState}{d:Drawn}{t:Nat}{os:OsState}
variable{nm q:Str}{C N:Addr}{bs bm bmB:List Value}{hdct:Bool}{sn:List Str}{sub:List Value}{ab:Bool}{col:Option Bool}{dd:Option Addr}{k0 k1 k2 k3 k5:Option Value}{B newId initId:String}
theorem jN(F:ExcBaseFacts B newId initId bmB)(T:OwnTail h bmB bm){mN:Str->Option Value}{rest:List Value}{fI:Addr}{oI:Obj}{Q:Fin->Shared->Prop}
  (hC:h.get? C=some (excClassObj nm q C N bs bm hdct sn sub ab col dd k0 k1 k2 k3 k5 newId)) (hn:h.Ns N mN) (hi:mN "__init__"=some (.ref fI))
  (hfI:h.get? fI=some oI) (hfc:oI.cls=.type "function")
  (hq:∀h' e,Heap.MadeExcOf h h' e (.ref C) rest->
   wpAny (model prog w) A (call (.ref fI) (.ref e::rest)) (λr s'=>r=.none/\Q (.done (.ret (.ref e))) s') E ⟨h',g,d,t,os⟩) (hrest:rest.length<=sizeLine:=by size_fits) :
  wpAny (model prog w) A (Builtin.«type.__call__» ⟨.ref C::rest,[]⟩) Q E ⟨h,g,d,t,os⟩:=by
 repeat (first | with_reducible refine wpAny_loadPart_at hC ?_ | with_reducible refine wpAny_madeBy_exc hC ?_ | wp_step)
 refine codeAny_call_builtin_code (Code.quiet_builtin _ F.quiet) (wpAny_check_new_subT F T hC ?_)
 refine codeAny_exc_new_subT F T hC ?_ hrest
 show wpAny _ _ _ _ _ _
 have hC₁:=Uv {cls:=.ref C,data:=.fields #[.ref h.objs.size,.none,.none,.none,.bool false,.none]}
  (Uv {cls:=.type "tuple",data:=.seq rest.toArray} hC)
 have hfI₁:=Uv {cls:=.ref C,data:=.fields #[.ref h.objs.size,.none,.none,.none,.bool false,.none]}
  (Uv {cls:=.type "tuple",data:=.seq rest.toArray} hfI)
 have hn₁:((h.push {cls:=.type "tuple",data:=.seq rest.toArray}).push {cls:=.ref C,data:=.fields #[.ref h.objs.size,.none,.none,.none,.bool false,.none]}).Ns N mN :=
  let ⟨o,es,ep,e,r⟩:=hn; ⟨o,es,ep,Uv _ (Uv _ e),r⟩
 have hget:((h.push {cls:=.type "tuple",data:=.seq rest.toArray}).push
   {cls:=.ref C,data:=.fields #[.ref h.objs.size,.none,.none,.none,.bool false,.none]}).get? (h.objs.size+1)=some
   {cls:=.ref C,data:=.fields #[.ref h.objs.size,.none,.none,.none,.bool false,.none]}:=by heap_get
 have hcC:(Value.ref C::bm).contains (.ref C)=true:=by simp
 have T₁:=T.keeps (h':=(h.push {cls:=.type "tuple",data:=.seq rest.toArray}).push {cls:=.ref C,data:=.fields #[.ref h.objs.size,.none,.none,.none,.bool false,.none]})
  λb o e=>Uv _ (Uv _ e)
 unfold isInstance
 repeat (first | with_reducible refine wpAny_loadPart_at hget ?_ | (with_reducible refine wpAny_isSubtype_exc hC₁ ?_; rw [hcC]) | wp_step)
 show wpAny _ _ (typeLookup (.ref C) _) _ _ _
 refine wpAny_typeLookup_tail hC₁ hn₁ T₁ F.mroIs F.init.lookup ?_
 rw [hi]
 refine wpAny_holding (Ut ?_)
 unfold bindSpecial
 refine Ut (wpAny_typeOf (T:="function") ⟨_,hfI₁,hfc⟩ ?_)
 rw [if_pos (by decide)]
 refine Uu (Ut (wpAny_mono (hq _ (h.objs.size+1) ⟨λb o hb=>Uv _ (Uv _ hb),Heap.get?_none_of_le (Nat.le_succ _),h.objs.size,hget,Heap.get?_none_of_le (Uy _),?_⟩) (λr s' hr=>?_) λ_ _ x=>x))
 ·exact Uv _ (Heap.get?_push_at rfl rfl)
 ·obtain⟨rfl,hQ⟩:=hr
  wp_walk
  exact hQ
theorem ou(F:ExcBaseFacts B newId initId bmB)(T:OwnTail h bmB bm){mN:Str->Option Value}{rest:List Value}{fI:Addr}{oI:Obj}{Q:Value->Shared->Prop}
  (hC:h.get? C=some (excClassObj nm q C N bs bm hdct sn sub ab col dd k0 k1 k2 k3 k5 newId)) (hn:h.Ns N mN) (hi:mN "__init__"=some (.ref fI))
  (hfI:h.get? fI=some oI) (hfc:oI.cls=.type "function")
  (hq:∀h' e,Heap.MadeExcOf h h' e (.ref C) rest->
   wpAny (model prog w) (A.under (.builtin "type.__call__" ⟨.ref C::rest,[]⟩)) (call (.ref fI) (.ref e::rest)) (λr s'=>r=.none/\Q (.ref e) s') E ⟨h',g,d,t,os⟩) (hrest:rest.length<=sizeLine:=by size_fits) :
  wpAny (model prog w) A (call (.ref C) rest) Q E ⟨h,g,d,t,os⟩:=by
 have f1:=tc_lookup
 have f2:=tc_bind (.ref C)
 have hT:(⟨h,g,d,t,os⟩ : Shared).TypeIs (.ref C) "type":=⟨_,hC,rfl⟩
 refine wpAny_call (codeAny_of_tree ?_)
 show wpAny _ _ (callAny (.ref C) _) _ _ _
 repeat (any_goals (first | assumption | with_reducible refine wpAny_loadPart_at hC ?_ | wp_step))
 refine⟨rfl,?_⟩
 refine codeAny_call_builtin_at (Code.quiet_builtin _ (by decide +kernel)) entry_typeCall (wpAny_check_type_call_sub hC (jN (hrest:=hrest) F T hC hn hi hfI hfc λh' e hm=>?_))
 exact hq h' e hm
end
end PySem
namespace L2
open PySem PySem.Spec PyProof.Rows
abbrev AJ:List Value:=[.type "ValueError",.type "Exception",.type "BaseException",.type "object"]
abbrev xO(a C:Addr)(od:Option Addr):HO:=.ext λh=>∃fl sl,h.get? a=some {cls:=.ref C,dict:=od,data:=.fields fl,slots:=sl}
abbrev xD(d:Addr)(fs:List (Str×V)):HO:=.ext λh=>∃mA,h.Ns1 d mA/\∀f,jE (fs.lookup f) (mA f)
section
variable{P:Program}{w:World}{H:Hp}{h h':Heap}{a C d:Addr}{od:Option Addr}{fs:List (Str×V)}{o:HO}
theorem HD{fl:Array Value}{sl:Array (Option Value)}(e:h.get? a=some {cls:=.ref C,dict:=od,data:=.fields fl,slots:=sl}):cu P w H h a (xO a C od) :=
 ⟨⟨fl,sl,e⟩,⟨_,e⟩,λ_ _ ⟨fl,sl,e⟩ k=>⟨fl,sl,k _ e⟩⟩
theorem DB{mA:Str->Option Value}(n:h.Ns1 d mA)(r:∀f,jE (fs.lookup f) (mA f)):cu P w H h d (xD d fs) :=
 ⟨⟨mA,n,r⟩,(let ⟨o,_,_,e,_⟩:=n; ⟨o,e⟩),λ_ _ ⟨mA,⟨o,es,ep,e,rest⟩,r⟩ k=>⟨mA,⟨o,es,ep,k _ e,rest⟩,r⟩⟩
theorem cu.there(x:cu P w H h a o):∃u,h.get? a=some u:=by
 cases o with
 | lst xs=>obtain⟨_,_,_,_,e⟩:=x; exact⟨_,e⟩
 | tup xs=>obtain⟨_,_,_,p⟩:=x; obtain⟨o,e,_⟩:=p; exact⟨_,e⟩
 | dK kvs=>obtain⟨_,_,_,_,o,_,_,e,_⟩:=x; exact⟨_,e⟩
 | dT kvs=>obtain⟨_,_,_,_,o,_,_,e,_⟩:=x; exact⟨_,e⟩
 | set S n=>obtain⟨o,_,_,_,e,_⟩:=x; exact⟨_,e⟩
 | ins C dx fs=>obtain⟨_,_,_,e,_⟩:=x; exact⟨_,e⟩
 | own y=>obtain⟨_,e⟩:=x; exact⟨_,e⟩
 | xd fs=>obtain⟨_,⟨_,_,_,e,_⟩,_⟩:=x; exact⟨_,e⟩
 | NC lo hi=>obtain⟨_,_,_,e⟩:=x; exact⟨_,e⟩
 | yk ob u=>obtain⟨e,_⟩:=x; exact⟨_,e⟩
 | GW ps=>exact⟨_,(show h.get? a=some _ from x)⟩
 | met f y=>exact⟨_,(show h.get? a=some _ from x)⟩
 | ext φ=>obtain⟨_,⟨_,e⟩,_⟩:=x; exact⟨_,e⟩
theorem i_.none_of(x:i_ P w H h)(e:h.get? a=none):H a=none:=by
 cases q:H a with
 | none=>rfl
 | some u =>
  obtain⟨v,z⟩:=(x a u q).there
  rw [e]at z; cases z
theorem i_.laidN(x:i_ P w H h)(k:∀b u,h.get? b=some u->h'.get? b=some u)(hp:h.get? a=none)(new:cu P w (upd H a o) h' a o):i_ P w (upd H a o) h':=λb u e=>by
 have hn:=x.none_of hp
 by_cases hb:b=a
 ·subst hb; rw [ag]at e; cases e; exact new
 ·rw [aI hb]at e
  exact(x b u e).stay (λc v _ q=>k c v q) (λc q=>by rw [aI (aU q hn)]; exact q) λc xs q=>by rw [aI (aU q hn)]; exact q
theorem Un.laidN{fs ex:List Addr}(k:∀b u,h.get? b=some u->h'.get? b=some u)(hp:h.get? a=none)(hn:H a=none):Un fs ex H (upd H a o) h h' where
 keep:=λb u q _ _ _=>k b u q
 slot:=λb u q _ _ _=>⟨u.slots,k b u q⟩
 free:=λb u q n _=>by rw [aI (λe=>by rw [e,hp]at q; cases q)]; exact n
 there:=λb u q _=>⟨u,k b u q⟩
 tups:=λb xs q=>by rw [aI (aU q hn)]; exact q
 oG:=λb u xs q=>by rw [aI (aU q hn)]; exact q
 qk:=λb ps q=>⟨#[],by rw [aI (aU q hn),q]; simp⟩
end
structure jt(K:PySem.W.Frag)(C:Addr):Prop where
 cls:∃cd PE,PySem.W.clsIn K C=some cd/\cd.mro=.ref C :: .ref PE::AJ/\cd.hasDict=true
 mo:PySem.W.mroIn K C (.type "object")=some true
 sa:PySem.W.findIn K (.ref C) "__setattr__"=some (some (.builtin "object.__setattr__"))
 ga:PySem.W.findIn K (.ref C) "__getattribute__"=some (some (.builtin "BaseException.__getattribute__"))
 gh:PySem.W.findIn K (.ref C) "__getattr__"=some none
 mb:PySem.W.mroIn K C (.type "BaseException")=some true
 ca:PySem.W.findIn K (.ref C) "__class__"=some (some (.builtin "object.__class__"))
 cg:PySem.W.specialIn K (.builtin "object.__class__") "__get__"=some (some (.builtin "getset_descriptor.__get__"))
 ct:PySem.W.takesIn K (.builtin "object.__class__")=some true
theorem jt.hd{K:PySem.W.Frag}{C:Addr}(c:jt K C):PySem.W.hasDictIn K C=true:=by
 obtain⟨cd,PE,e,_,h⟩:=c.cls
 unfold PySem.W.hasDictIn
 rw [e]
 exact h
section
variable{prog:Program}{w:World}{A:Around}{E:Value->Shared->Prop}{R:Result->Shared->Prop}{s:Shared}{K:PySem.W.Frag}{x C:Addr}{ox:Obj}{od:Option Obj}{name:Str}{tk:Tok}{v:Value}
theorem rh(c:jt K C)(X:K.In s.heap)(I:PySem.W.InstAt s.heap x ox C od)(ht:PySem.W.findIn K (.ref C) name=some none)
  (h:∀b,wpAny (model prog w) A.in1 (Builtin.ObjectAttr.storeInOwnDict (.ref x) (.ref C) (.str name tk) name v b)
   (λfin s'=>match fin with | .done f=>R (.ok f) s' | .again c'=>c'.quiet=true/\codeAny (model prog w) A c' R s') (λe s'=>R (.error e) s') s) :
  codeAny (model prog w) A (.call (.builtin "object.__setattr__") ⟨[.ref x,.str name tk,v],[]⟩) R s:=by
 have SF:=PySem.F.store_object
 obtain⟨cd,PE,hc,hmro,_⟩:=c.cls
 have sub:PySem.W.Looks (model prog w) s.heap (isInstance (.ref x) (.type "object")) true:=I.type.andThen (PySem.W.looks_mroIn X c.mo)
 refine codeAny_call_builtin SF.slot.plain SF.entry (@PySem.W.check_slot (model prog w) _ _ s "object.__setattr__" "object" "__setattr__" (.ref x) [.str name tk,v] [] _ SF.kind SF.split sub (SF.args (.ref x) (.str name tk) v) ?_)
 have hm:PySem.W.Looks (model prog w) s.heap (mroOf (.ref C)) cd.mro:=(PySem.W.looks_clsIn X hc).andThen .now
 have L3:PySem.W.Looks (model prog w) s.heap (Builtin.ObjectAttr.storeTaker? none) none:=.now
 rw [PySem.W.osa_eq,refuse_eq]
 refine Ut (Ut (I.type.here (Ut (hm.here ?_))))
 rw [hmro,refuseLoop_ref,refuseLoop_ref,PySem.F.store_ValueError.passes]
 refine Uu (Ut (I.type.here (Ut ((PySem.W.looks_findIn X ht).here (Ut (L3.here ?_))))))
 exact h _
theorem zP{Q:Fin->Shared->Prop}{r:Builtin.ObjectAttr.Found}(X:K.In s.heap)(I:PySem.W.InstAt s.heap x ox C od)(hf:PySem.W.findObj K C od name=some r)
  (h:wpAny (model prog w) A (match r with | .value v=>ret v | .bind g a=>Builtin.ObjectAttr.bindTo g a (.ref x) (.ref C) | .missing=>Builtin.ObjectAttr.noSuchAttribute (.ref x) name) Q E s) :
  wpAny (model prog w) A (Builtin.«object.__getattribute__» ⟨[.ref x,.str name tk],[]⟩) Q E s:=by
 obtain⟨hh',g,d,t,os⟩:=s
 have L0:=I.type (M:=model prog w)
 have L1:=PySem.W.looks_find (M:=model prog w) X I hf
 unfold Builtin.«object.__getattribute__»
 refine Ut (Uu ?_)
 refine Ut (Uu (Ut (L0.at (Ut (L1.at ?_)))))
 cases r with
 | value v=>exact h
 | bind g a=>exact h
 | missing=>exact h
theorem Cp{fill expr:Bool}{Q:Value->Shared->Prop}{r:Builtin.ObjectAttr.Found}(c:jt K C)(X:K.In s.heap)(I:PySem.W.InstAt s.heap x ox C od)(hf:PySem.W.findObj K C od name=some r)
  (h:codeAny (model prog w) A (.call (.builtin "BaseException.__getattribute__") ⟨[.ref x,.str name tk],[]⟩) (λr s'=>match r with | .ok (.ret v)=>wpAny (model prog w) A (handedOut v) Q E s' | _=>False) s) :
  wpAny (model prog w) A (getAttrBy (.ref x) (.str name tk) fill expr) Q E s:=by
 obtain⟨hh',g,d,t,os⟩:=s
 have L0:=I.type (M:=model prog w)
 have L1:=PySem.W.looks_findIn (M:=model prog w) X c.ga
 have LH:=PySem.W.looks_hook (M:=model prog w) (mc:=.ref C) (r:=none) X (by show PySem.W.findIn K (.ref C) "__getattr__"=_; exact c.gh)
 have hx2:(Value.builtin "BaseException.__getattribute__"==Value.builtin "object.__getattribute__")=false:=by decide +kernel
 have hx1:(onTheHeap (Value.ref C)&&Value.builtin "BaseException.__getattribute__"==Value.builtin "object.__getattribute__")=false:=by rw [hx2]; rfl
 have hx0:(expr&&onTheHeap (Value.builtin "BaseException.__getattribute__"))=false:=by cases expr <;> rfl
 unfold getAttrBy
 refine wpAny_holding (Ut (L0.at (Ut (L1.at ?_))))
 show wpAny _ _ (if(onTheHeap (Value.ref C)&&Value.builtin "BaseException.__getattribute__"==Value.builtin "object.__getattribute__")=true then _ else _) _ _ _
 rw [if_neg (by rw [hx1]; exact UM)]
 unfold getAttrByItsOwn
 refine Ut (LH.at (Ut (wpAny_attempt (wpAny_holding ?_))))
 unfold callGetattribute
 rw [if_neg (by rw [hx0]; exact UM)]
 unfold boundAndCalled
 rw [PySem.F.excAttr_ValueError.ga.bind]
 refine Ut (Uu (wpAny_call (codeAny_mono h λr s' z=>?_)))
 rcases r with e | (v | _ | _ | _) <;> first | exact z | exact z.elim
theorem uU{r:Builtin.ObjectAttr.Found}(c:jt K C)(X:K.In s.heap)(I:PySem.W.InstAt s.heap x ox C od)(hf:PySem.W.findObj K C od name=some r)
  (h:wpAny (model prog w) A.in1 (match r with | .value v=>ret v | .bind g a=>Builtin.ObjectAttr.bindTo g a (.ref x) (.ref C) | .missing=>Builtin.ObjectAttr.noSuchAttribute (.ref x) name)
   (λfin s'=>match fin with | .done f=>R (.ok f) s' | .again c'=>c'.quiet=true/\codeAny (model prog w) A c' R s') (λe s'=>R (.error e) s') s) :
  codeAny (model prog w) A (.call (.builtin "BaseException.__getattribute__") ⟨[.ref x,.str name tk],[]⟩) R s:=by
 have sub:PySem.W.Looks (model prog w) s.heap (isInstance (.ref x) (.type "BaseException")) true:=I.type.andThen (PySem.W.looks_mroIn X c.mb)
 exact codeAny_call_builtin PySem.F.excAttr_ValueError.ga.plain PySem.F.entry_bexc_ga (@PySem.W.check_slot (model prog w) _ _ s "BaseException.__getattribute__" "BaseException" "__getattribute__" (.ref x) [.str name tk] [] _ (by decide +kernel) (by decide +kernel) sub (PySem.F.args_bexc_ga _ _) (zP X I hf h))
theorem wo{expr:Bool}{Q:Value->Shared->Prop}(c:jt K C)(X:K.In s.heap)(I:PySem.W.InstAt s.heap x ox C od)(hf:PySem.W.findObj K C od name=some (.value v))(hh:PySem.W.handedIn v=true)(h:Q v {s with toks:=s.toks+1}) :
  wpAny (model prog w) A (getAttr (.ref x) name expr) Q E s:=by
 unfold getAttr
 refine Ut (wpAny_mkText (Cp (s:={s with toks:=s.toks+1}) c X I hf (uU (s:={s with toks:=s.toks+1}) c X I hf (Uu ?_))))
 show wpAny _ _ (handedOut v) _ _ _
 rw [PySem.W.handedOut_of hh]
 exact Uu h
theorem xM{Q:Option Value->Shared->Prop}(c:jt K C)(X:K.In s.heap)(I:PySem.W.InstAt s.heap x ox C od)(hf:PySem.W.findObj K C od "__class__"=some (.bind (.builtin "getset_descriptor.__get__") (.builtin "object.__class__")))
  (h:Q (some (.ref C)) {s with toks:=s.toks+1}):wpAny (model prog w) A (getAttr? (.ref x) "__class__") Q E s:=by
 unfold getAttr? getAttrBy?
 refine Ut (wpAny_mkText (Ut (wpAny_attempt (Cp (s:={s with toks:=s.toks+1}) c X I hf (uU (s:={s with toks:=s.toks+1}) c X I hf ?_)))))
 show wpAny _ _ (holding [Value.builtin "object.__class__"] (call (.builtin "getset_descriptor.__get__") [.builtin "object.__class__",.ref x,.ref C]) >>= ret) _ _ _
 refine Ut (wpAny_holding (wpAny_call (PySem.W.class_get (s:={s with toks:=s.toks+1}) (ox:=ox) (od:=od) X I c.mo (Uu ?_))))
 show wpAny _ _ (handedOut (.ref C)) _ _ _
 rw [PySem.W.handedOut_of rfl]
 exact Uu (Uu h)
end
section
variable{X:Cx}{pins:List (Addr×Obj)}{σ:St}{H:Hp}{s:Shared}{a C dx:Addr}{fs:List (Str×V)}{f:Str}{v y:V}{u:Value}{A:Around}{E:Value->Shared->Prop}
theorem Fd{b:Bool}{Q:Value->Shared->Prop}(I:Inv X pins σ H s)(e:H a=some (xO a C (some dx)))(ed:H dx=some (xD dx fs))(c:jt X.K C)(n:iH X.K C f)(l:fs.lookup f=some v)
  (h:∀u s',Inv X pins σ H s'->RelV v u->Q u s'):wpAny (model X.prog X.w) A (getAttr (.ref a) f b) Q E s:=by
 obtain⟨⟨fl,sl,ha⟩,_⟩:=I.hok a _ e
 obtain⟨⟨mA,ns,r⟩,_⟩:=I.hok dx _ ed
 obtain⟨od,ho,hl⟩:=lT ns
 have J:PySem.W.InstAt s.heap a {cls:=.ref C,dict:=some dx,data:=.fields fl,slots:=sl} C (some od):=⟨ha,rfl,rfl,ho⟩
 have rf:=r f
 rw [l]at rf
 obtain⟨u,eu,ru⟩:=jE.some_of rf
 exact wo c I.jK J (PySem.W.findObj_own c.hd n rfl (by rw [hl,eu])) (Ap ru) (h _ _ (I.tok _) ru)
theorem rB{mA:Str->Option Value}(r:∀f,jE (fs.lookup f) (mA f)):PySem.Within mA (fs.map (·.1)):=by
 intro g hg
 have rg:=r g
 cases e:fs.lookup g with
 | none=>rw [e]at rg; exact absurd (jE.none_of rg) hg
 | some z =>
  clear rg r hg
  induction fs with
  | nil=>cases e
  | cons p t ih =>
   obtain⟨k,w⟩:=p
   rw [List.lookup_cons]at e
   cases hk:g==k with
   | true =>
    have:g=k:=by simpa using hk
    subst this
    exact List.mem_cons_self
   | false=>rw [hk]at e; exact UL _ (ih e)
end
def lV(K:PySem.W.Frag)(C:Addr)(bmB:List Value)(newId:String)(ini:Option Value):Bool:=match K.lookup C with
 | some ⟨.type "type",_,.cls cd,sl⟩=>(match cd.mro,sl.toList with
  | .ref C'::bm,[_,_,_,_,some (.builtin n),_]=>C'==C&&n==newId && !cd.hasDel&&PySem.W.tailIn K bmB bm&&PySem.W.nsOkIn K cd.ns&&PySem.W.nsIn K cd.ns "__init__"==some ini
  | _,_=>false)
 | _=>false
theorem MB{K:PySem.W.Frag}{h:Heap}{N:Addr}{mg:Str->Option Value}{n:Str}{r:Option Value}(X:K.In h)(G:h.Ns N mg)(e:PySem.W.nsIn K N n=some r):mg n=r:=by
 cases r with
 | none=>exact PySem.W.ns_none_of X G e
 | some v =>
  obtain⟨o,es,ep,ho,hd,_,hf⟩:=G
  unfold PySem.W.nsIn at e
  split at e
  ·rename_i c d es' n' sl q
   have:=X _ _ q
   rw [ho]at this
   cases this
   cases hd
   split at e
   ·rename_i en he
    cases e
    rw [←hf]
    unfold nsFind findBy
    rw [←Array.find?_toList,he]
    rfl
   ·split at e <;> cases e
  ·cases e
theorem rl{K:PySem.W.Frag}{h:Heap}{C:Addr}{bmB:List Value}{newId:String}{ini:Option Value}(X:K.In h)(q:lV K C bmB newId ini=true) :
  ∃bm N nm q bs hdct sn sub ab col dd k0 k1 k2 k3 k5 mN,h.get? C=some (excClassObj nm q C N bs bm hdct sn sub ab col dd k0 k1 k2 k3 k5 newId)/\h.Ns N mN/\mN "__init__"=ini/\OwnTail h bmB bm:=by
 unfold lV at q
 split at q
 ·rename_i dd cd sl ho
  split at q
  ·rename_i C' bm k0 k1 k2 k3 n k5 hm hs
   simp only [Bool.and_eq_true,beq_iff_eq,Bool.not_eq_true']at q
   obtain⟨⟨⟨⟨⟨rfl,rfl⟩,hdel⟩,ht⟩,hok⟩,hni⟩:=q
   obtain⟨nm,bs,mro,ns,qn,hd,sn,sub,ab,col,del⟩:=cd
   dsimp only at hm hdel hok hni
   subst hm hdel
   have hsl:sl = #[k0,k1,k2,k3,some (.builtin n),k5]:=by
    obtain⟨l⟩:=sl
    simp only at hs
    rw [hs]
   subst hsl
   exact⟨bm,ns,nm,qn,bs,hd,sn,sub,ab,col,dd,k0,k1,k2,k3,k5,_,X _ _ ho,.of_isNs (PySem.W.isNs_of_in X hok),MB X (.of_isNs (PySem.W.isNs_of_in X hok)) hni,PySem.W.tail_of_in X ht⟩
  ·cases q
 ·cases q
section
variable{X:Cx}{CX:nz}{k:Nat}{f C:Addr}{fd:FuncData}{ps:List Str}{sp:Sp}{E:XK}{x:Str}{p pos:Pos}{e:Expr}{es:List Expr}{t:TA}
end
section
variable{X:Cx}{o value:Expr}{ta tv:TE}{f:Str}{pos pos':Pos}
def Hs(K:PySem.W.Frag)(ta:TE)(f:Str):TE:=λσ H Q=>ta σ H λx H1=>∃a C dx fs v,x=.ref a/\H1 a=some (xO a C (some dx))/\H1 dx=some (xD dx fs)/\jt K C/\iH K C f/\fs.lookup f=some v/\Q v H1
theorem E9(he:PE X o ta)(hb:attributeBase o f X.env (eval o X.env)=eval o X.env):PE X (.Attribute o f pos) (Hs X.K ta f):=by
 intro pins s σ H Q I h
 refine EB hb (b_ (he pins s σ H _ I h) λu s1 ⟨x,H1,I1,rx,a,C,dx,fs,v,ex,ea,ed,c,n,l,q⟩=>?_)
 subst ex
 obtain rfl:u=Value.ref a:=rx
 exact Fd I1 ea ed c n l λu' s2 I2 ru=>⟨v,H1,I2,ru,q⟩
end
def Py(K:PySem.W.Frag)(H:Hp)(a C:Addr):Prop:=jt K C/\(H a=some (xO a C none)\/∃dx fs,H a=some (xO a C (some dx))/\H dx=some (xD dx fs))
theorem Eb{K:PySem.W.Frag}{x D:Addr}(c:jt K D):PySem.W.KitX K (.ref x) (.ref D) (λh=>∃ox od,PySem.W.InstAt h x ox D od) where
 ty:=λ_ _ _ ⟨ox,od,I⟩=>I.type
 it:=λ_ _ X _=>by
  obtain⟨cdD,hcD,_⟩:=PySem.W.any_some c.hd
  unfold PySem.W.clsIn at hcD
  split at hcD
  ·rename_i c' d' cd' sl' ho
   intro A' Q' E' s' k q
   unfold isType loadHead
   exact Ut (wpAny_loadPart (k _ _ (X _ _ ho)) (Uu q))
  ·cases hcD
 ne:=λh tp dd its n sl X htp=>by
  obtain⟨cdD,hcD,_⟩:=PySem.W.any_some c.hd
  refine Bool.eq_false_iff.mpr λq=>?_
  have e:D=tp:=Value.ref.inj (beq_iff_eq.mp q)
  subst e
  unfold PySem.W.clsIn at hcD
  split at hcD
  ·rename_i c' d' cd' sl' ho
   have z:=(X _ _ ho).symm.trans htp
   cases z
  ·cases hcD
 ca:=λ{prog w A E Q s} X I h=>by
  obtain⟨ox,od,I⟩:=I
  have hf:PySem.W.findObj K D od "__class__"=some (.bind (.builtin "getset_descriptor.__get__") (.builtin "object.__class__")):=by
   obtain⟨cd,PE,hc,_⟩:=c.cls
   unfold PySem.W.findObj
   rw [hc,Option.bind_some,c.ca,Option.bind_some]
   simp [c.cg,c.ct]
  exact xM c X I hf h
section
variable{X:Cx}
def QD:V->Value->Prop
 | .ref a,u=>u=.ref a
 | .ty n,u=>u=.type n
 | _,_=>False
theorem vE:fu X (.builtin "isinstance") (λxs H Q=>∃x cv t c b,xs=[x,cv]/\QD cv c/\(kl X.K H x t\/∃a C,x=.ref a/\t=.ref C/\Py X.K H a C)/\PySem.W.kitOne X.K t c=some b/\Q (.bl b) H):=by
 intro pins s σ H xs us Q I r h
 obtain⟨x,cv,t,c,b,rfl,hc,ty,e,q⟩:=h
 obtain⟨u,w',rfl,r1,r2⟩:=vals2 r
 have e2:w'=c:=by
  cases cv with
  | ref a=>cases(show c=_ from hc); exact r2
  | ty n=>cases(show c=_ from hc); exact r2
  | _=>exact hc.elim
 subst e2
 rcases ty with ty | ⟨a,C,rfl,rfl,cx,hx⟩
 ·exact rD I r1 ty e λtk=>⟨.bl b,H,I.tok _,rfl,q⟩
 ·cases(show u=Value.ref a from r1)
  have J:∃ox od,PySem.W.InstAt s.heap a ox C od:=by
   rcases hx with ea | ⟨dx,fs,ea,ed⟩
   ·obtain⟨⟨fl,sl,ha⟩,_⟩:=I.hok a _ ea
    exact⟨_,none,ha,rfl,rfl,True.intro⟩
   ·obtain⟨⟨fl,sl,ha⟩,_⟩:=I.hok a _ ea
    obtain⟨⟨mA,⟨od,_,_,ho,_⟩,_⟩,_⟩:=I.hok dx _ ed
    exact⟨_,some od,ha,rfl,rfl,ho⟩
  exact PySem.W.kia_one (Eb cx) I.jK J e (λz=>nomatch z) λtk=>⟨.bl b,H,I.tok _,rfl,q⟩
end
theorem Df{H:Hp}{a:Addr}{o:HO}(h:H a=some o):upd H a o=H:=by
 funext b
 unfold upd
 by_cases e:b=a
 ·rw [if_pos e,e,h]
 ·rw [if_neg e]
structure Top(X:Cx)(L:Addr):Prop where
 ex:∃e0 r,X.stack=e0::r/\e0.frame=some L
 fr:X.env.frame=some L
structure Ij(X:Cx)(H:Hp)(h:Heap)(T:Addr):Prop where
 free:H T=none
 new:X.s₀.heap.objs.size<=T
 pn:∀p∈X.pn,p.1≠T
 obj:∃oT ts,h.get? T=some oT/\oT.data=.fields ts/\3<ts.size
structure Oo(X:Cx)(H:Hp)(h:Heap)(e C:Addr)(od:Option Addr):Prop where
 at_:H e=some (xO e C od)
 obj:∃vs sl,h.get? e=some {cls:=.ref C,dict:=od,data:=.fields vs,slots:=sl}/\(vs[1]? = some .none\/∃T,vs[1]? = some (.ref T)/\Ij X H h T)
structure pM(X:Cx)(H:Hp)(h:Heap)(e C:Addr)(od:Option Addr)(T:Addr):Prop where
 at_:H e=some (xO e C od)
 obj:∃vs sl,h.get? e=some {cls:=.ref C,dict:=od,data:=.fields vs,slots:=sl}/\vs[1]? = some (.ref T)
 tb:Ij X H h T
section
variable{X:Cx}{pins:List (Addr×Obj)}{σ:St}{H:Hp}{s:Shared}{e C T L:Addr}{od:Option Addr}
theorem pM.Qx{h:Heap}(f:pM X H h e C od T):Oo X H h e C od:=⟨f.at_,let ⟨vs,sl,h1,h2⟩:=f.obj; ⟨vs,sl,h1,.inr ⟨T,h2,f.tb⟩⟩⟩
theorem Inv.Ot(I:Inv X [] σ H s)(t:Ij X H s.heap T):T≠X.env.locals/\(∀x c,X.env.cells.lookup x=some c->c≠T)/\∀p∈X.pn++[],p.1≠T:=by
 obtain⟨oT,ts,h1,h2,_⟩:=t.obj
 refine⟨λz=>?_,λx c hc z=>?_,λp hp=>t.pn p (by simpa using hp)⟩
 ·obtain⟨m,⟨o',es,ep,ho',hd',_⟩,_⟩:=I.loc
  rw [←z,h1]at ho'
  cases ho'
  rw [hd']at h2
  cases h2
 ·obtain⟨v,o,ho,hd⟩:=I.cell x c hc
  rw [z,h1]at ho
  cases ho
  rw [hd]at h2
  cases h2
theorem Inv.mark(I:Inv X [] σ H s)(f:pM X H s.heap e C od T)(x:Value) :
  Inv X [] σ H {s with heap:=s.heap.update T (Obj.mapFields (·.setIfInBounds 3 x))}/\pM X H (s.heap.update T (Obj.mapFields (·.setIfInBounds 3 x))) e C od T:=by
 obtain⟨n1,n2,n3⟩:=I.Ot f.tb
 obtain⟨oT,ts,h1,h2,h3⟩:=f.tb.obj
 have keep:∀b o,b≠T->s.heap.get? b=some o->(s.heap.update T (Obj.mapFields (·.setIfInBounds 3 x))).get? b=some o:=λb o hb q=>(Heap.get?_update_other _ _ (Ne.symm hb)).trans q
 have neT:e≠T:=λz=>by have:=f.at_; rw [z,f.tb.free]at this; cases this
 obtain⟨vs,sl,g1,g2⟩:=f.obj
 have hd':=Obj.data_mapFields h2 (·.setIfInBounds 3 x)
 refine⟨I.turned (t':=s.toks) (it:=T) keep f.tb.free n1 (.inr f.tb.new) n2 n3,f.at_,⟨vs,sl,keep _ _ neT g1,g2⟩,f.tb.free,f.tb.new,f.tb.pn,_,_,Heap.get?_update_self _ h1 (Obj.isFreed_of_fields hd'),hd',by simpa using h3⟩
theorem iy{M:Model}{A:Around}{E:Value->Shared->Prop}{Q:Unit->Shared->Prop}(I:Inv X [] σ H s)(f:pM X H s.heap e C od T)(fr:Option Addr)
  (q:∀s',Inv X [] σ H s'->pM X H s'.heap e C od T->Q () s'):wpAny M A (setFlight (.ref e) fr) Q E s:=by
 obtain⟨vs,sl,g1,g2⟩:=f.obj
 obtain⟨oT,ts,h1,h2,h3⟩:=f.tb.obj
 unfold setFlight
 refine Ut (wpAny_field g1 rfl g2 ?_)
 have ne:(Value.ref T != Value.none)=true:=by simp
 rw [if_pos ne]
 have z:=I.mark f (fr.elim .none λf=>rawInt f)
 exact wpAny_setField h1 h2 h3 (q _ z.1 z.2)
theorem B7{M:Model}{A:Around}{E:Value->Shared->Prop}{Q:Value->Shared->Prop}{env':Env}(hA:A.frames=some X.stack)(tp:Top X L)(hf:env'.frame=some L)(I:Inv X [] σ H s)
  (q:∀h',Inv X [] σ H {s with heap:=h'}->Heap.SlotsOnly (frs X.stack) s.heap h'->Q (.ref L) {s with heap:=h'}):wpAny M A (PySem.frameOf env') Q E s:=by
 obtain⟨e0,r,hst,h0⟩:=tp.ex
 have hl:=I.stack
 rw [hst]at hA hl
 have dw:((e0::r).dropWhile λx=>x.frame != env'.frame)=e0::r:=by rw [hf]; simp [List.dropWhile,h0]
 unfold PySem.frameOf
 refine Ut (wpAny_frameEnvs hA ?_)
 rw [dw]
 unfold frameObject
 refine Ut (Ut (wpAny_readyFrames_fun hl λh1 hs1=>Uu ?_))
 rw [h0]
 have e1:(e0::r).filterMap (·.frame)=frs X.stack:=by rw [hst]; rfl
 rw [e1]at hs1
 refine Uu (q h1 ?_ hs1)
 refine I.call (g':=s.gens) (t':=s.toks) (d':=s.drawn) (ch:=[]) ⟨λb o hb _ hf _=>(hs1.2.1 b hf).trans hb,λb o hb _ _ _=>hs1.2.2 b o hb,λ_ _ _ n _=>n,λb o hb _=>let ⟨sl,z⟩:=hs1.2.2 b o hb; ⟨_,z⟩,λ_ _ z=>z,λ_ _ _ z=>z,λb ps z=>⟨#[],by rw [z]; simp⟩⟩ (λb u hb=>?_) I.bare λb hb=>absurd hb (by simp)
 have nf:∀c v,H c=some v->c∉frs X.stack:=λc v hc hm=>by rw [I.nE c hm]at hc; cases hc
 refine(I.hok b u hb).stay (λc v hc z=>(hs1.2.1 c ?_).trans z) (λ_ z=>z) λ_ _ z=>z
 rcases hc with rfl | hc
 ·exact nf c u hb
 ·exact nf c _ hc
theorem uD{M:Model}{A:Around}{E:Value->Shared->Prop}{Q:Unit->Shared->Prop}{env':Env}{head:Value}{hadNext:Bool}{vs:Array Value}{sl:Array (Option Value)}(hA:A.frames=some X.stack)(tp:Top X L)(hf:env'.frame=some L)(I:Inv X [] σ H s)
  (at_:H e=some (xO e C od)) (ho:s.heap.get? e=some {cls:=.ref C,dict:=od,data:=.fields vs,slots:=sl}) (h1:1<vs.size)
  (q:∀s' T,Inv X [] σ H s'->pM X H s'.heap e C od T->Q () s') :
  wpAny M A (do let a←PySem.frameOf env'; let pl←entryPlaceOf L hadNext; let b←EntryCells.newEntry head a .none (rawInt L) .none pl; setField (.ref e) 1 b) Q E s:=by
 refine Ut (B7 hA tp hf I λh2 I2 hs2=>?_)
 refine Ut (wpAny_entryPlaceOf λpl hpl=>?_)
 unfold EntryCells.newEntry newFields
 refine Ut (wpAny_newObj_type ?_ (hpl.sizeOk5 _ _ _ _ _))
 have ne:e∉frs X.stack:=λhm=>by rw [I.nE e hm]at at_; cases at_
 have ho2:h2.get? e=some {cls:=.ref C,dict:=od,data:=.fields vs,slots:=sl}:=(hs2.2.1 e ne).trans ho
 generalize hTb:({cls:=.type "traceback",data:=.fields ([head,.ref L,.none,rawInt L,.none]++(if pl.isEmpty then List.replicate 6 Value.none else pl)).toArray}:Obj)=tb
 have hTd:tb.data=.fields ([head,.ref L,.none,rawInt L,.none]++(if pl.isEmpty then List.replicate 6 Value.none else pl)).toArray:=by rw [←hTb]
 have hnf:tb.isFreed=false:=by rw [←hTb]; rfl
 have I3:Inv X [] σ H {s with heap:=h2.push tb}:=I2.kept (t':=s.toks) λb o z=>Uv _ z
 have QI:(h2.push tb).get? e=some {cls:=.ref C,dict:=od,data:=.fields vs,slots:=sl}:=Uv _ ho2
 have Kt:(h2.push tb).get? h2.objs.size=some tb:=Ux _ hnf
 have OM:H h2.objs.size=none:=I2.hok.fresh (Uy _)
 have neT:h2.objs.size≠e:=λz=>by rw [z]at OM; rw [OM]at at_; cases at_
 have RC:∀p∈X.pn,p.1≠h2.objs.size:=λp hp z=>by
  have:=(I2.pin p (List.mem_append_left _ hp)).1
  exact absurd (Uw this) (by rw [z]; exact Nat.lt_irrefl _)
 refine wpAny_setField QI rfl h1 ?_
 have QU:(Obj.mapFields (·.setIfInBounds 1 (Value.ref h2.objs.size)) {cls:=.ref C,dict:=od,data:=.fields vs,slots:=sl}) ={cls:=.ref C,dict:=od,data:=.fields (vs.setIfInBounds 1 (Value.ref h2.objs.size)),slots:=sl}:=rfl
 have Kl:=Heap.get?_update_self (Obj.mapFields (·.setIfInBounds 1 (Value.ref h2.objs.size))) QI (by rw [QU]; rfl)
 rw [QU]at Kl
 have GJ:∀b o,b≠e->(h2.push tb).get? b=some o->((h2.push tb).update e (Obj.mapFields (·.setIfInBounds 1 (Value.ref h2.objs.size)))).get? b=some o:=λb o hb z=>(Heap.get?_update_other _ _ (Ne.symm hb)).trans z
 have I4:=I3.write (h':=(h2.push tb).update e (Obj.mapFields (·.setIfInBounds 1 (Value.ref h2.objs.size)))) (t':=s.toks) (x:=e) (e:=e) (o:=xO e C od) (by rw [at_]; trivial) (.inl rfl) GJ ⟨_,Kl⟩ (HD Kl)
 rw [Df at_]at I4
 refine q _ h2.objs.size I4 ⟨at_,⟨_,sl,Kl,by simp [h1]⟩,OM,Uz I2.sz (Uy _),RC,tb,_,GJ _ _ neT Kt,hTd,?_⟩
 simp only [UN,UD,List.length_cons,List.length_nil]
 omega
theorem nA{M:Model}{A:Around}{E:Value->Shared->Prop}{Q:Unit->Shared->Prop}{env':Env}(hA:A.frames=some X.stack)(tp:Top X L)(hf:env'.frame=some L)(I:Inv X [] σ H s)(f:Oo X H s.heap e C od)
  (q:∀s' T,Inv X [] σ H s'->pM X H s'.heap e C od T->Q () s'):wpAny M A (noteFrame (.ref e) env') Q E s:=by
 obtain⟨vs,sl,ho,alt⟩:=f.obj
 unfold noteFrame
 simp only [hf]
 rcases alt with h1 | ⟨T,h1,tb⟩
 ·refine Ut (wpAny_field ho rfl h1 ?_)
  rw [if_neg (by decide)]
  exact uD hA tp hf I f.at_ ho (Array.getElem?_eq_some_iff.mp h1).1 q
 ·have fT:pM X H s.heap e C od T:=⟨f.at_,⟨vs,sl,ho,h1⟩,tb⟩
  obtain⟨oT,ts,hT,hdT,h3⟩:=tb.obj
  refine Ut (wpAny_field ho rfl h1 ?_)
  have ne:(Value.ref T != Value.none)=true:=by simp
  rw [if_pos ne]
  refine Ut (wpAny_field hT hdT (Array.getElem?_eq_getElem h3) ?_)
  by_cases hm:(ts[3]==rawInt L)=true
  ·rw [if_pos hm]
   exact Uu (q s T I fT)
  ·rw [if_neg hm]
   have z:=I.mark fT .none
   refine Ut (wpAny_setField hT hdT h3 ?_)
   obtain⟨vs',sl',ho',h1'⟩:=z.2.obj
   exact uD hA tp hf z.1 f.at_ ho' (Array.getElem?_eq_some_iff.mp h1').1 q
end
def XE(X:Cx)(E:XK):Value->Shared->Prop:=λev s'=>∃e C od σ' H',ev=.ref e/\Inv X [] σ' H' s'/\Oo X H' s'.heap e C od/\E (.ref C) (some e) H'
abbrev Cx.xs(X:Cx)(E:XK):Cx:=X.wish (XE X E)
def A1(P:Program)(w:World):nz:=λouter H s E ev s'=>∃e C od H',ev=.ref e/\s'.os=s.os/\AllBare s'.gens/\Un (frs outer) [] H H' s.heap s'.heap/\i_ P w H' s'.heap/\E (.ref C) (some e) H'/\H' e=some (xO e C od)/\
 ∃vs sl T oT ts,s'.heap.get? e=some {cls:=.ref C,dict:=od,data:=.fields vs,slots:=sl}/\vs[1]? = some (.ref T)/\H' T=none/\s.heap.objs.size<=T/\s'.heap.get? T=some oT/\oT.data=.fields ts/\3<ts.size
theorem yZ{X:Cx}{E:XK}:Passes (A1 X.prog X.w) (X.xs E) E:=by
 intro pins σ H s ev s' I h
 obtain⟨e,C,od,H',rfl,os,bare,un,hok,hE,at_,vs,sl,T,oT,ts,ho,h1,hT,hn,hoT,hd,h3⟩:=h
 have I':Inv (X.xs E) pins σ H' s':=I.call' (ch:=[]) os un hok bare λb z=>absurd z (by simp)
 have I2:Inv X [] σ H' s':=(I'.iF (pins':=[]) λp hp=>absurd hp (by simp)).c9
 refine⟨e,C,od,σ,H',rfl,I2,⟨at_,vs,sl,ho,.inr ⟨T,h1,hT,Uz I.sz hn,λp hp z=>?_,oT,ts,hoT,hd,h3⟩⟩,hE⟩
 have:=(I.pin p (List.mem_append_left _ hp)).1
 exact absurd (UH (Uw this) hn) (by rw [z]; exact Nat.lt_irrefl _)
theorem BD{X:Cx}{E:XK}{L:Addr}(tp:Top X L):PassesOwn (model X.prog X.w) X.A X.env (XE X E):=by
 intro ev s' h
 obtain⟨e,C,od,σ,H,rfl,I,f,hE⟩:=h
 refine nA I.ok.frames tp tp.fr I f λs2 T I2 f2=>?_
 obtain⟨vs,sl,g1,g2⟩:=f2.obj
 show wpAny _ _ (field (.ref e) 1 >>= _) _ _ s2
 refine Ut (wpAny_field g1 rfl g2 ?_)
 have ne:¬((Value.ref T==Value.none)=true):=by simp
 rw [if_neg ne]
 have fin:=iy (M:=model X.prog X.w) (A:=X.A) (E:=XE X E) (Q:=λ_ s3=>XE X E (.ref e) s3) I2 f2 X.env.frame λs3 I3 f3=>⟨e,C,od,σ,H,rfl,I3,f3.Qx,hE⟩
 first
  | exact fin
  | exact Ut (Uu fin)
theorem Du{X:Cx}{E:XK}{L:Addr}{ev:Value}{s':Shared}{Q:Unit->Shared->Prop}{E2:Value->Shared->Prop}(tp:Top X L)(h:XE X E ev s')(q:∀e C od σ H s2 T,ev=.ref e->Inv X [] σ H s2->pM X H s2.heap e C od T->E (.ref C) (some e) H->Q () s2) :
  wpAny (model X.prog X.w) X.A (leaving X.env ev) Q E2 s':=by
 obtain⟨e,C,od,σ,H,rfl,I,f,hE⟩:=h
 unfold leaving
 exact Ut (nA I.ok.frames tp tp.fr I f λs2 T I2 f2=>iy I2 f2 none λs3 I3 f3=>q e C od σ H s3 T rfl I3 f3 hE)
section
variable{P:Program}{w:World}{K:PySem.W.Frag}{mg:Str->Option Value}{base:Heap}
theorem sx{CX:nz}{N:List Str}{qual:Str}{sc:Scope}{f:Addr}{cd:Value}{A:Around}{outer:List Env}{s:Shared}{H:Hp}{E:XK}:Top (qy CX P w K mg base N qual sc f cd A outer s H E) s.heap.objs.size:=⟨⟨_,_,rfl,rfl⟩,rfl⟩
theorem A2.Kr{x qual:Str}{st:Stmt}{f:Addr}{fd:FuncData}{N ps:List Str}{k:Nat}{sp:Sp}(F:A2 K x qual st f fd)(S:az N ps (ar st))(len:∀vs H Q E,sp vs H Q E->vs.length=ps.length)
  (hbody:∀(cdv:Value) (A:Around) (outer:List Env) (s:Shared) (H:Hp) (vs:List V) (Q:VK) (E:XK),eJ k (A.deeper (envOfC qual (ar st) s.heap.objs.size f cdv))->sp vs H Q E->
   ∃t,nN ((qy (A1 P w) P w K mg base N qual (ar st) f cdv A outer s H E).xs E) (cT st) t/\t {nx:=λ_ H'=>Q .non H',rt:=Q} (start N vs) H):e9 P w K mg base (A1 P w) (k+1) f fd ps sp:=by
 obtain⟨oc,od,kV,doc,pm,an,cdv,ct,osl,rfl,lk,hcd⟩:=F.ex
 refine HC lk hcd S len λA outer s H vs Q E hr hsp=>?_
 obtain⟨t,h,q⟩:=hbody cdv A outer s H vs Q E hr hsp
 refine⟨t,λpins s1 σ H1 D I hw=>?_,q⟩
 refine wpAny_mono (h pins s1 σ H1 D (I.wish _) hw) (λ_ _ z=>z.c9) λev s2 hx=>?_
 refine Du sx hx λe C od df H2 s3 T ee I3 f3 hE=>?_
 subst ee
 obtain⟨Sw,Tg,g1,g2⟩:=f3.obj
 obtain⟨oT,ts,t1,t2,t3⟩:=f3.tb.obj
 exact⟨e,C,od,H2,rfl,I3.os,I3.bare,I3.base,I3.hok,hE,f3.at_,Sw,Tg,T,oT,ts,g1,g2,f3.tb.free,f3.tb.new,t1,t2,t3⟩
end
end L2
namespace L2
open PySem PyProof.Rows
theorem fs{N P:List Str}{sc:Scope}(h1:sc.kind=.function:=by rfl)(h2:sc.isCoroutine=false:=by rfl)(h3:sc.isGenerator=false:=by rfl)(h4:N.Nodup:=by decide +kernel)(h5:N.take P.length=P:=by rfl)
  (h6:∀x∈P,sc.names.lookup x=some .local\/sc.names.lookup x=some .cell:=by decide +kernel) (h7:∀y∈sc.names,y.2≠ .free:=by decide +kernel):az N P sc:=⟨h1,h2,h3,h4,h5,h6,h7⟩
structure FA(K:PySem.W.Frag)(mg:Str->Option Value)(x:Str)(st:Stmt):Prop where
 ex:∃f fd,A2 K x x st f fd/\mg x=some (.ref f)
structure bf(CX:nz)(P:Program)(w:World)(K:PySem.W.Frag)(mg:Str->Option Value)(base:Heap)(k:Nat)(x:Str)(ps:List Str)(sp:Sp):Prop where
 ex:∃f fd,e9 P w K mg base CX k f fd ps sp/\Binds K fd ps []/\PySem.W.keepIn K (.ref f)=true/\mg x=some (.ref f)
def FnAt(P:Program)(w:World)(K:PySem.W.Frag)(mg:Str->Option Value)(base:Heap)(k:Nat)(f:Addr)(ps:List Str)(sp:Sp):Prop :=
 ∃fd,e9 P w K mg base bc k f fd ps sp/\Binds K fd ps []/\PySem.W.keepIn K (.ref f)=true
section
variable{CX:nz}{P:Program}{w:World}{K:PySem.W.Frag}{mg:Str->Option Value}{base:Heap}{x:Str}{st:Stmt}{ps N:List Str}{sp:Sp}{j k:Nat}
theorem bf.m(G:bf CX P w K mg base j x ps sp)(h:j<=k:=by decide):bf CX P w K mg base k x ps sp:=by
 obtain⟨f,fd,h1,h2⟩:=G.ex
 exact⟨f,fd,h1.mono h,h2⟩
theorem bf.at{f:Addr}(G:bf bc P w K mg base k x ps sp)(h:mg x=some (.ref f)):FnAt P w K mg base k f ps sp:=by
 obtain⟨g,fd,h1,h2,h3,h4⟩:=G.ex
 cases h4.symm.trans h
 exact⟨fd,h1,h2,h3⟩
theorem FA.cal(F:FA K mg x st)(ok:∀f fd,A2 K x x st f fd->e9 P w K mg base CX k f fd ps sp)
  (hb:∀(kV doc pm:Value) (an:Option Addr) (cdv ct:Value) (us:List Value),us.length=ps.length->bindArgs (PySem.W.fnOf x x (d0 st) (cT st) (ar st) .none kV doc pm an cdv ct) ⟨us,[]⟩=pure (ps.zip us):=by first
   | exact λ_ _ _ _ _ _ us hl=>match us,hl with | [_],_=>rfl
   | exact λ_ _ _ _ _ _ us hl=>match us,hl with | [_,_],_=>rfl
   | exact λ_ _ _ _ _ _ us hl=>match us,hl with | [_,_,_],_=>rfl
   | exact λ_ _ _ _ _ _ us hl=>match us,hl with | [_,_,_,_],_=>rfl
   | exact λ_ _ _ _ _ _ us hl=>match us,hl with | [_,_,_,_,_],_=>rfl):bf CX P w K mg base k x ps sp:=by
 obtain⟨f,fd,h1,h2⟩:=F.ex
 exact⟨f,fd,ok f fd h1,h1.binds hb,h1.kp,h2⟩
theorem FA.ok(F:FA K mg x st)(S:az N ps (ar st))
  (hbody:∀(f:Addr) (cdv:Value) (A:Around) (outer:List Env) (s:Shared) (H:Hp) (vs:List V) (Q:VK) (E:XK),eJ k (A.deeper (envOfC x (ar st) s.heap.objs.size f cdv))->sp vs H Q E->
   ∃t,nN (qy bc P w K mg base N x (ar st) f cdv A outer s H E).y6 (cT st) t/\t {nx:=λ_ H'=>Q .non H',rt:=Q} (start N vs) H)
  (len:∀vs H Q E,sp vs H Q E->vs.length=ps.length:=by
   intro vs H Q E h
   first
   | exact False.elim h
   | (obtain⟨_,rfl,_⟩:=h; rfl)
   | (obtain⟨_,_,rfl,_⟩:=h; rfl)
   | (obtain⟨_,_,_,rfl,_⟩:=h; rfl)
   | (obtain⟨_,_,_,_,rfl,_⟩:=h; rfl)
   | (obtain⟨_,_,_,_,_,rfl,_⟩:=h; rfl)
   | (obtain⟨_,_,_,_,_,_,rfl,_⟩:=h; rfl)
   | (obtain⟨_,_,_,_,_,_,_,rfl,_⟩:=h; rfl)
   | (obtain⟨_,_,_,_,_,_,_,_,rfl,_⟩:=h; rfl)
   | (obtain⟨_,_,_,_,_,_,_,_,_,rfl,_⟩:=h; rfl)
   | (obtain⟨_,_,_,_,_,_,_,_,_,_,rfl,_⟩:=h; rfl)
   | (obtain⟨_,_,_,_,_,_,_,_,_,_,_,rfl,_⟩:=h; rfl))
  (hb:∀(kV doc pm:Value) (an:Option Addr) (cdv ct:Value) (us:List Value),us.length=ps.length->bindArgs (PySem.W.fnOf x x (d0 st) (cT st) (ar st) .none kV doc pm an cdv ct) ⟨us,[]⟩=pure (ps.zip us):=by first
   | exact λ_ _ _ _ _ _ us hl=>match us,hl with | [_],_=>rfl
   | exact λ_ _ _ _ _ _ us hl=>match us,hl with | [_,_],_=>rfl
   | exact λ_ _ _ _ _ _ us hl=>match us,hl with | [_,_,_],_=>rfl
   | exact λ_ _ _ _ _ _ us hl=>match us,hl with | [_,_,_,_],_=>rfl
   | exact λ_ _ _ _ _ _ us hl=>match us,hl with | [_,_,_,_,_],_=>rfl):bf bc P w K mg base (k+1) x ps sp :=
 F.cal (λf fd h1=>h1.ok S len λcdv A outer s H vs Q E=>hbody f cdv A outer s H vs Q E) hb
theorem FA.Kr(F:FA K mg x st)(S:az N ps (ar st))
  (hbody:∀(f:Addr) (cdv:Value) (A:Around) (outer:List Env) (s:Shared) (H:Hp) (vs:List V) (Q:VK) (E:XK),eJ k (A.deeper (envOfC x (ar st) s.heap.objs.size f cdv))->sp vs H Q E->
   ∃t,nN ((qy (A1 P w) P w K mg base N x (ar st) f cdv A outer s H E).xs E) (cT st) t/\t {nx:=λ_ H'=>Q .non H',rt:=Q} (start N vs) H)
  (len:∀vs H Q E,sp vs H Q E->vs.length=ps.length:=by
   intro vs H Q E h
   first
   | exact False.elim h
   | (obtain⟨_,rfl,_⟩:=h; rfl)
   | (obtain⟨_,_,rfl,_⟩:=h; rfl)
   | (obtain⟨_,_,_,rfl,_⟩:=h; rfl)
   | (obtain⟨_,_,_,_,rfl,_⟩:=h; rfl)
   | (obtain⟨_,_,_,_,_,rfl,_⟩:=h; rfl)
   | (obtain⟨_,_,_,_,_,_,rfl,_⟩:=h; rfl)
   | (obtain⟨_,_,_,_,_,_,_,rfl,_⟩:=h; rfl)
   | (obtain⟨_,_,_,_,_,_,_,_,rfl,_⟩:=h; rfl)
   | (obtain⟨_,_,_,_,_,_,_,_,_,rfl,_⟩:=h; rfl)
   | (obtain⟨_,_,_,_,_,_,_,_,_,_,rfl,_⟩:=h; rfl)
   | (obtain⟨_,_,_,_,_,_,_,_,_,_,_,rfl,_⟩:=h; rfl))
  (hb:∀(kV doc pm:Value) (an:Option Addr) (cdv ct:Value) (us:List Value),us.length=ps.length->bindArgs (PySem.W.fnOf x x (d0 st) (cT st) (ar st) .none kV doc pm an cdv ct) ⟨us,[]⟩=pure (ps.zip us):=by first
   | exact λ_ _ _ _ _ _ us hl=>match us,hl with | [_],_=>rfl
   | exact λ_ _ _ _ _ _ us hl=>match us,hl with | [_,_],_=>rfl
   | exact λ_ _ _ _ _ _ us hl=>match us,hl with | [_,_,_],_=>rfl
   | exact λ_ _ _ _ _ _ us hl=>match us,hl with | [_,_,_,_],_=>rfl):bf (A1 P w) P w K mg base (k+1) x ps sp :=
 F.cal (λf fd h1=>h1.Kr S len λcdv A outer s H vs Q E=>hbody f cdv A outer s H vs Q E) hb
end
section
variable{X:Cx}{CX:nz}{x:Str}{ps:List Str}{sp:Sp}{j k:Nat}{E:XK}{e:Expr}{es:List Expr}{t:TA}{p pos:Pos}
theorem uG(G:bf CX X.prog X.w X.K X.mg X.base j x ps sp)(hr:eJ k X.A)(hg:Gl X x)(hx:Passes CX X E)(ha:PA X (e::es) t)(hl:j<=k:=by omega)
  (hdb:(x==("__debug__" : Str))=false:=by decide) (he:starEach (e::es) X.env=(false,eval e X.env)::starEach es X.env:=by rfl) (hpl:(backTo pos (starEach es X.env)).any (·.1)=false:=by rfl) :
  PE X (.Call (.Name x p) (e::es) [] pos) (i3 sp [] E t):=by
 obtain⟨f,fd,h1,h2,h3,h4⟩:=G.ex
 exact Gv (h1.mono hl) hr hg h4 h3 h2 .nil hx ha hdb he hpl
end
section
variable{X:Cx}{a b e:Expr}{ta tb te:TE}{pos p pos2:Pos}{es:List Expr}{t:TA}
theorem aA(K:PySem.W.Frag)(ha:PE X a ta)(hb:PE X b tb)(e:X.K=K:=by rfl)(hs:nq b:=by exact λ_ _=>rfl):PE X (.Subscript a b pos) (gO (tJ K) ta tb):=by subst e; exact gm Dm ha hb hs
theorem bj(K:PySem.W.Frag)(ha:PE X a ta)(hb:PE X b tb)(e:X.K=K:=by rfl)(hs:nq b:=by exact λ_ _=>rfl):PE X (.Subscript a b pos) (gO (wb K) ta tb):=by subst e; exact gm fF ha hb hs
theorem aW{op:CmpOp}{r:R2}(ho:i8 X (compareOp op) r)(ha:PE X a ta)(hb:PE X b tb)(hm:behindInMarks op b=false:=by exact Cz _):PT X (.Compare a [op] [b] pos) (rE (gO r ta tb)):=de ho ha hb hm
theorem bU{op:CmpOp}{r:R2}(ho:i8 X (compareOp op) r)(ha:PE X a ta)(hb:PE X b tb)(hm:behindInMarks op b=false:=by exact Cz _):PE X (.Compare a [op] [b] pos) (gO r ta tb):=fJ ho ha hb hm
theorem ay{x:Str}{ps:List Str}{sp:Sp}{j k:Nat}(G:bf bc X.prog X.w X.K X.mg X.base j x ps sp)(hr:eJ k X.A)(ha:PA X (e::es) t)(hg:Gl X x:=by rfl)(hl:j<=k:=by omega)
  (hdb:(x==("__debug__" : Str))=false:=by decide) (he:starEach (e::es) X.env=(false,eval e X.env)::starEach es X.env:=by rfl) (hpl:(backTo pos (starEach es X.env)).any (·.1)=false:=by rfl) :
  PE X (.Call (.Name x p) (e::es) [] pos) (i3 sp [] E0 t):=uG G hr hg vo ha hl hdb he hpl
theorem ax(he:PE X e te):nN X [.Return (some e) pos] (Bn te):=bK (D5 he)
theorem aN{c:Expr}{tc:TT}{u:TS}{rest:List Stmt}(hc:PT X c tc)(he:PE X e te)(hr:nN X rest u):nN X (.If c [.Return (some e) pos] [] pos2::rest) (EG (HV tc (Bn te) Ef) u):=aq (dy hc (ax he) b9) hr
end
theorem iN{A:Around}{k:Nat}(hr:eJ k A):A.units+8<cLine:=by have:=hr.un; omega
theorem xg:0<=sizeLine:=by decide
theorem dQ:1<=sizeLine:=by decide
theorem cM:2<=sizeLine:=by decide
theorem gw:3<=sizeLine:=by decide
theorem Lw:4<=sizeLine:=by decide
theorem tN:5<=sizeLine:=by decide
theorem MV:6<=sizeLine:=by decide
theorem Pk:7<=sizeLine:=by decide
theorem Ll:12<=sizeLine:=by decide
def FK(K:PySem.W.Frag)(x:Str)(st:Stmt)(f:Addr):Prop:=PySem.W.nsIn K mainGlobals x=some (some (.ref f))/\∃fd,A2 K x x st f fd
theorem FK.fa{K:PySem.W.Frag}{h:Heap}{mg:Str->Option Value}{x:Str}{st:Stmt}{f:Addr}(F:FK K x st f)(X:K.In h)(G:h.Ns mainGlobals mg):FA K mg x st:=by
 obtain⟨h1,fd,h2⟩:=F
 exact⟨f,fd,h2,PySem.W.mg_of X G h1⟩
theorem FK.h{K:PySem.W.Frag}{h:Heap}{mg:Str->Option Value}{x:Str}{st:Stmt}{f:Addr}(F:FK K x st f)(X:K.In h)(G:h.Ns mainGlobals mg):mg x=some (.ref f):=PySem.W.mg_of X G F.1
theorem Lp{K:PySem.W.Frag}{x:Str}{st:Stmt}{f:Addr}{oc:Value}{od an:Option Addr}{osl:Array (Option Value)}{kV doc pm cdv ct:Value}(a:PySem.W.nsIn K mainGlobals x=some (some (.ref f)))
  (l:K.lookup f=some ⟨oc,od,.func (PySem.W.fnOf x x (d0 st) (cT st) (ar st) .none kV doc pm an cdv ct),osl⟩) (c:PySem.W.codeIn K cdv x=true) (k:PySem.W.keepIn K (.ref f)=true):FK K x st f :=
 ⟨a,_,yl l c k⟩
end L2
namespace My
open PySem L2
def top(i:Nat):Stmt:=PySem.Challenge.pw_rowpipes_k24_whole_heads.main.body.getD i (.Pass ⟨0,0,0,0⟩)
abbrev Cg:Stmt:=top 51
abbrev JV:Stmt:=top 52
abbrev Bw:Stmt:=top 53
abbrev ub:Stmt:=top 54
abbrev Bp:Stmt:=top 55
abbrev K0:List Str:=["_law_script","_law_k"]
abbrev O9:List Str:=["_law_script","_law_k","_law_cell_here"]
abbrev LU:List Str:=["_law_pot_here","_law_many_here","_law_digit"]
abbrev FJ:List Str:=["_law_pot_here","_law_near","_law_far"]
abbrev LN:List Str:=["_law_pot_here","_law_letters","_law_some"]
theorem HW:az K0 ["_law_script","_law_k"] (ar Cg):=fs
theorem GU:az O9 ["_law_script","_law_k"] (ar JV):=fs
theorem DC:az LU ["_law_pot_here","_law_many_here"] (ar Bw):=fs
theorem oy:az FJ ["_law_pot_here"] (ar ub):=fs
theorem wm:az LN ["_law_pot_here"] (ar Bp):=fs
structure jV(mg:Str->Option Value):Prop where
 len:mg "len"=none
 max:mg "max"=none
 abs:mg "abs"=none
 divmod:mg "divmod"=none
 range:mg "range"=none
 tuple:mg "tuple"=none
 list:mg "list"=none
 isinstance:mg "isinstance"=none
variable{P:Program}{w:World}{K:PySem.W.Frag}{mg:Str->Option Value}{base:Heap}
theorem EK(B:jV mg)(F:FA K mg "_law_cell_at" Cg) :
  bf bc P w K mg base 1 "_law_cell_at" ["_law_script","_law_k"] (Bm K):=by
 refine F.ok HW λf cdv A outer s H vs Q E hr h=>?_
 obtain⟨a,ns,k,rfl,hS,h0,q⟩:=h
 refine⟨_,aq (dy (aW CQ (pv 1) (a_ bE rfl B.len PySem.boot_len (ae (pv 0) ah))) (ax (gm fF (pv 0) (pv 1) (λ_ _=>rfl))) b9)
  (ax ai),?_⟩
 refine⟨_,rfl,_,rfl,a,_,rfl,.inl hS,_,_,rfl,rfl,_,rfl,?_⟩
 refine cI (λc=>?_) (λc=>?_)
 ·have c':k<(((ns.map V.int).length:Nat):Int):=of_decide_eq_true c
  obtain⟨v,hv,hg⟩:=CK h0 c'
  rw [List.getElem?_map]at hg
  cases e:ns[k.toNat]? with
  | none=>rw [e]at hg; cases hg
  | some n =>
   rw [e]at hg
   have hg':V.int n=v:=Option.some.inj hg
   subst hg'
   exact⟨_,rfl,_,rfl,a,_,_,_,rfl,rfl,hS,hv,q n⟩
 ·exact q 0
theorem Ib(B:jV mg)(F:FA K mg "_law_pot" JV)(G:bf bc P w K mg base 1 "_law_cell_at" ["_law_script","_law_k"] (Bm K)) :
  bf bc P w K mg base 2 "_law_pot" ["_law_script","_law_k"] (He K):=by
 refine F.ok GU λf cdv A outer s H vs Q E hr h=>?_
 obtain⟨a,ns,k,rfl,hS,h0,h1,q⟩:=h
 refine⟨_,aq (aL (i:=2) GU.nd rfl (Or.inl rfl) (ay G hr (ae (pv 0) (ae (pv 1) ah))))
  (ax (aQ (ae (a_ (zk rfl) rfl B.max PyProof.Rows.boot_max (ae ai (ae (aF bJ (pv 2) (aF l5 ai ai)) ah)))
   (ae (aF cX (aF pQ (aF cX (aF cX (a_ Dh rfl B.abs PyProof.Rows.boot_abs (ae (pv 2) ah)) (aF lY ai (pv 1))) ai) ai) ai) ah)))),?_⟩
 refine⟨_,rfl,_,rfl,a,ns,k,rfl,hS,h0,λn=>?_⟩
 refine⟨_,rfl,_,_,rfl,rfl,⟨by decide,by decide,by decide⟩,_,_,rfl,rfl,_,_,rfl,?_⟩
 refine⟨_,rfl,_,rfl,_,rfl,_,_,rfl,rfl,.inl ⟨by decide,by decide⟩,_,_,rfl,rfl,_,_,rfl,rfl,_,_,rfl,rfl,(by show(0:Int)<2147483629; decide),_,_,rfl,rfl,cM,λp hp=>?_⟩
 refine q p _ hp (aj hp _) ⟨_,_,ag,?_,?_,?_⟩
 ·split <;> omega
 ·have:=Int.emod_nonneg ((if n<0 then -n else n)+7919*k+3) (show(2147483629:Int)≠0 by decide)
  omega
 ·have:=Int.emod_lt_of_pos ((if n<0 then -n else n)+7919*k+3) (show(0:Int)<2147483629 by decide)
  omega
theorem ES(B:jV mg)(F:FA K mg "_law_draw" Bw) :
  bf bc P w K mg base 1 "_law_draw" ["_law_pot_here","_law_many_here"] dn:=by
 refine F.ok DC λf cdv A outer s H vs Q E hr h=>?_
 obtain⟨p,m,rfl,⟨a,b,hp,ha,hb,hb'⟩,hm,hm',q⟩:=h
 refine⟨_,aq (dy (aW ik (gm fF (pv 0) ai (λ_ _=>rfl)) ai)
   (aq (oO (a_ sg rfl B.divmod PyProof.Rows.boot_divmod (ae (gm fF (pv 0) ai (λ_ _=>rfl)) (ae (pv 1) ah)))
    (cD rfl (aD (DH (pv 0) ai set_list) (aD (bS (i:=2) DC.nd rfl (Or.inl rfl)) bT))))
   (ax (pv 2))) b9)
  (aq (oO (aF pQ (aF cX (aF lY (gm fF (pv 0) ai (λ_ _=>rfl)) ai) ai) ai) (DH (pv 0) ai set_list))
  (ax (aF pQ (aF yw (aF pQ (aF lY (gm fF (pv 0) ai (λ_ _=>rfl)) (gm fF (pv 0) ai (λ_ _=>rfl))) ai) ai) (pv 1)))),?_⟩
 refine⟨_,rfl,p,_,_,_,rfl,rfl,aZ.of hp,rfl,_,_,rfl,rfl,_,rfl,?_⟩
 refine cI (λc=>?_) (λc=>?_)
 ·refine⟨_,rfl,p,_,_,_,rfl,rfl,aZ.of hp,rfl,_,rfl,_,_,rfl,⟨hm,hm'⟩,λt ht=>?_⟩
  have np:p≠t:=aU hp ht
  refine⟨t,_,rfl,aH.of ag,rfl,_,_,rfl,_,rfl,p,_,_,0,rfl,rfl,(by rw [aI np]; exact hp),rfl,_,_,rfl,rfl,?_⟩
  refine⟨_,rfl,q _ _ ⟨λc o nc e=>?_,_,_,ag,Int.ediv_nonneg ha (by omega),hb,hb'⟩ (Int.emod_nonneg _ (by omega)) (Int.emod_lt_of_pos _ hm)⟩
  rw [aI nc,aI (aU e ht)]
  exact e
 ·have h1:=Int.emod_nonneg (b*48271+11) (show(2147483647:Int)≠0 by decide)
  have h2:=Int.emod_lt_of_pos (b*48271+11) (show(0:Int)<2147483647 by decide)
  refine⟨_,rfl,p,_,_,_,rfl,rfl,aZ.of hp,rfl,_,_,rfl,rfl,.inr ⟨by decide,by decide⟩,_,_,rfl,rfl,_,_,rfl,rfl,(by show(0:Int)<2147483647; decide),_,rfl,p,_,_,1,rfl,rfl,hp,rfl,?_⟩
  refine⟨_,rfl,p,_,_,_,rfl,rfl,aZ.of ag,rfl,_,rfl,p,_,_,_,rfl,rfl,aZ.of ag,rfl,_,_,rfl,rfl,.inl ⟨?_,?_⟩,_,_,rfl,rfl,(by show(0:Int)<2147483629; decide),_,_,rfl,rfl,⟨by decide,by decide⟩,_,rfl,_,_,rfl,rfl,hm,?_⟩
  ·have e:((2:Int) ^ 64)=18446744073709551616:=by decide
   rw [e]; omega
  ·have e:((2:Int) ^ 64)=18446744073709551616:=by decide
   rw [e]; omega
  ·exact q _ _ ⟨λc o nc e=>by rw [aI nc]; exact e,_,_,ag,ha,h1,by omega⟩ (Int.emod_nonneg _ (by omega)) (Int.emod_lt_of_pos _ hm)
theorem zZ(F:FA K mg "_law_number" ub)(G:bf bc P w K mg base 1 "_law_draw" ["_law_pot_here","_law_many_here"] dn) :
  bf bc P w K mg base 2 "_law_number" ["_law_pot_here"] pH:=by
 refine F.ok oy λf cdv A outer s H vs Q E hr h=>?_
 obtain⟨p,rfl,hP,q⟩:=h
 refine⟨_,aq (aL (i:=1) oy.nd rfl (Or.inl rfl) (aF bJ (ay G hr (ae (pv 0) (ae ai ah))) ai))
  (aN (aW ik (ay G hr (ae (pv 0) (ae ai ah))) ai) (pv 1)
  (aq (aL (i:=2) oy.nd rfl (Or.inl rfl) (aQ (ae (aF cX (aF bJ (ay G hr (ae (pv 0) (ae (aF bJ (aF lY ai (aF l5 ai ai)) ai) ah))) (aF l5 ai ai)) ai)
   (ae (aF bJ (aF l5 ai ai) ai) (ae (aF bJ ai (aF l5 ai ai)) ah)))))
  (ax (gm fF (pv 2) (aF cX (aF yw (ay G hr (ae (pv 0) (ae ai ah))) ai) (aF pQ (pv 1) ai)) (λ_ _=>rfl))))),?_⟩
 refine⟨_,rfl,p,_,rfl,hP,by decide,by decide,λd1 H1 g1 a1 b1=>⟨_,_,rfl,rfl,?_⟩⟩
 refine⟨_,rfl,p,_,rfl,g1.cf,by decide,by decide,λd2 H2 g2 a2 b2=>⟨_,_,rfl,rfl,_,rfl,?_⟩⟩
 have G9:((10:Int) ^ (60:Nat))=1000000000000000000000000000000000000000000000000000000000000:=by decide
 refine cI (λc=>?_) (λc=>?_)
 ·exact⟨_,rfl,q _ _ (g1.trans g2) (by rw [G9]; omega) (by rw [G9]; omega)⟩
 ·refine⟨_,rfl,_,_,rfl,rfl,⟨by decide,by decide,by decide⟩,_,_,rfl,rfl,.inl ⟨by decide,by decide⟩,_,_,rfl,rfl,p,_,rfl,g2.cf,by decide +kernel,by decide +kernel,λd3 H3 g3 a3 b3=>?_⟩
  have Uk:d3<1999999999999999999999999999999999999999999999999999999999999:=b3
  refine⟨_,_,rfl,rfl,⟨by decide,by decide,by decide⟩,_,_,rfl,rfl,_,_,rfl,rfl,_,_,rfl,rfl,⟨by decide,by decide,by decide⟩,_,_,rfl,rfl,_,_,rfl,rfl,⟨by decide,by decide,by decide⟩,_,_,rfl,rfl,gw,λl hl=>?_⟩
  have Iy:=(g1.trans g2).trans g3
  have n1:l≠p:=λe=>by subst e; obtain⟨_,_,z,_⟩:=Iy.cf; rw [z]at hl; cases hl
  refine⟨_,rfl,_,rfl,p,_,rfl,(Iy.new hl).cf,by decide,by decide,λd4 H4 g4 a4 b4=>?_⟩
  have S0:=g4.keep l _ n1 ag
  refine⟨_,_,rfl,rfl,⟨by decide,by decide⟩,_,rfl,_,_,rfl,rfl,(by show(0:Int)<2; decide),_,_,rfl,rfl,?_⟩
  have i0:0<=d4 / 2+(d1-15) % 2:=by omega
  have i1:d4 / 2+(d1-15) % 2<(3:Nat):=by omega
  obtain⟨v,hv,hm⟩:=y8 (xs:=[V.int (d3-10 ^ (60:Int).toNat+1),V.int (10 ^ (60:Int).toNat-1),V.int (1-10 ^ (60:Int).toNat)]) i0 i1
  have good:∃n:Int,v=.int n/\-(10 ^ 60)<n/\n<10 ^ 60:=by
   have AX:((10:Int) ^ ((60:Int).toNat))=1000000000000000000000000000000000000000000000000000000000000:=by decide
   simp only [List.mem_cons,List.not_mem_nil,or_false]at hm
   rcases hm with rfl | rfl | rfl
   ·exact⟨_,rfl,by rw [G9,AX]; omega,by rw [G9,AX]; omega⟩
   ·exact⟨_,rfl,by rw [G9,AX]; omega,by rw [G9,AX]; omega⟩
   ·exact⟨_,rfl,by rw [G9,AX]; omega,by rw [G9,AX]; omega⟩
  obtain⟨n,rfl,q1,q2⟩:=good
  exact⟨l,_,_,_,rfl,rfl,aZ.of S0,hv,q n _ ((Iy.new hl).trans g4) q1 q2⟩
def letters:Str:="abcdefghijklmnopqrstuvwxyz"
theorem wc:∀c∈letters.cps.toList,97<=c/\c<=122:=by decide +kernel
theorem vt:letters.cps.toList.length=26:=by decide +kernel
theorem EF(B:jV mg)(F:FA K mg "_law_word" Bp)(G:bf bc P w K mg base 1 "_law_draw" ["_law_pot_here","_law_many_here"] dn) :
  bf bc P w K mg base 2 "_law_word" ["_law_pot_here"] r8:=by
 refine F.ok wm λf cdv A outer s H vs Q E hr h=>?_
 obtain⟨p,rfl,hP,q⟩:=h
 refine⟨_,aq (aL (i:=1) wm.nd rfl (Or.inr rfl) ao)
  (aq (aL (i:=2) wm.nd rfl (Or.inr rfl) (gm fF (aQ (ae ai (ae ai ah))) (ay G hr (ae (pv 0) (ae ai ah))) (λ_ _=>rfl)))
  (ax (lC PySem.F.plainAttrs_str PySem.F.slot_str_join PySem.F.type_str_join ER ao
   (ae (bw (N':=["_law_k","_law_pot_here","_law_letters","_law_some"]) (src:=[none,some 0,some 1,some 2]) rfl (ba.jL (by kernel_rfl))
    (dm rfl B.range (ae (aF cX ai (aF lY (ay G hr (ae (pv 0) (ae ai ah))) (ay G hr (ae (pv 0) (ae ai ah))))) ah))
    (λcl C s H fp=>eA (i:=0))
    (λcl C s H fp=>aX)
    (λcl C s H fp=>gm J5 (yI 2) (ay (hg:=we) G hr (ae (yI 1) (ae (yI 3) ah))) (λ_ _=>rfl))) ah)))),?_⟩
 refine⟨cM,λl hl=>?_⟩
 have n1:l≠p:=λe=>by subst e; obtain⟨_,_,z,_⟩:=hP; rw [z]at hl; cases hl
 refine⟨_,rfl,p,_,rfl,((bo.refl hP).new hl).cf,by decide,by decide,λd1 H1 g1 a1 b1=>?_⟩
 have EL:=((bo.refl hP).new hl).trans g1
 obtain⟨v,hv,hm⟩:=y8 (xs:=[V.int 3,V.int 26]) a1 b1
 have good:∃n:Int,v=.int n/\0<n/\n<=26:=by
  simp only [List.mem_cons,List.not_mem_nil,or_false]at hm
  rcases hm with rfl | rfl
  ·exact⟨3,rfl,by decide,by decide⟩
  ·exact⟨26,rfl,by decide,by decide⟩
 obtain⟨n,rfl,n0,n26⟩:=good
 refine⟨l,_,_,_,rfl,rfl,aZ.of (g1.keep l _ n1 ag),hv,rfl,?_⟩
 refine⟨_,rfl,p,_,rfl,EL.cf,by decide,by decide,λd2 H2 g2 a2 b2=>?_⟩
 refine⟨_,rfl,p,_,rfl,g2.cf,by decide,by decide,λd3 H3 g3 a3 b3=>?_⟩
 have Iy:=(EL.trans g2).trans g3
 have Uo:0<=d2*d3/\d2*d3<=7:=by
  have e:d2=0\/d2=1:=by omega
  rcases e with rfl | rfl <;> omega
 refine⟨_,_,rfl,rfl,.inl ⟨?_,?_⟩,_,_,rfl,rfl,_,rfl,?_,?_,λD hD=>?_⟩
 ·have e:((2:Int) ^ 64)=18446744073709551616:=by decide
  rw [e]; omega
 ·have e:((2:Int) ^ 64)=18446744073709551616:=by decide
  rw [e]; omega
 ·have e:((2:Int) ^ 62)=4611686018427387904:=by decide
  rw [e]; omega
 ·have e:((2:Int) ^ 62)=4611686018427387904:=by decide
  rw [e]; omega
 have n2:D≠p:=λe=>by subst e; obtain⟨_,_,z,_⟩:=Iy.cf; rw [z]at hD; cases hD
 have log:n.natAbs.log2<9000:=UG (Nat.log2_le_self _) (by omega)
 refine iL (λi σ ys H'=>∃(o:Option V) (zs:List Nat),σ=[o,some (.ref p),some (.str letters),some (.int n)]/\ys=zs.map (λc=>V.str (sgn c))/\zs.length=i/\(∀c∈zs,97<=c/\c<=122)/\H' D=some (.lst ys)/\bo p H H')
  ⟨none,[],rfl,rfl,rfl,(λ_ z=>nomatch z),ag,Iy.new hD⟩ ?_ ?_ ?_ ?_
 ·rintro i σ ys H' _ ⟨o,zs,_,rfl,rfl,_,h,_⟩
  exact⟨h,by rw [UC]; exact Uy _⟩
 ·exact Uz (show(1+d2*d3).toNat<=8 by omega) (by decide)
 ·rintro i σ ys H' hi ⟨o,zs,rfl,rfl,rfl,hz,hD',g'⟩
  refine⟨_,rfl,_,rfl,_,rfl,p,n,rfl,g'.cf,n0,log,λd H4 g4 a4 b4=>?_⟩
  obtain⟨c,hc,cm⟩:=Gn (z:=letters) a4 (by rw [vt]; omega)
  refine⟨letters,_,c,rfl,rfl,?_,hc,g4.keep D _ n2 hD',some (.int (0+(zs.length:Nat))),zs++[c],rfl,?_,?_,?_,ag,?_⟩
  ·exact Uz (show letters.length<=26 by decide +kernel) (by decide)
  ·rw [UE]; rfl
  ·rw [UD]; rfl
  ·intro y hy
   rcases List.mem_append.mp hy with z | z
   ·exact hz y z
   ·have:y=c:=by simpa using z
    subst this
    exact wc y cm
  ·exact Iy.put hD n2 (g'.trans g4)
 ·rintro σ ys H' ⟨o,zs,_,rfl,hl',hz,hD',g'⟩
  refine⟨"",D,zs.map sgn,rfl,rfl,?_,?_,?_⟩
  ·rw [List.map_map]; exact aZ.of hD'
  ·rw [Gd,UC]
   have:zs.length<=8:=by omega
   have e:("" : Str).length=0:=by decide +kernel
   rw [e]; omega
  ·exact q _ _ g' (HJ (wq zs) (by omega) (by omega) hz)
end My
namespace L2
open PySem PySem.Spec PyProof.Rows
inductive Kv (K:PySem.W.Frag) (H:Hp):Nat->V->V->Prop where
 | flat {n:Nat} {v:V} (f:eW v=true):Kv K H n v v
 | same {n:Nat} {a:Addr}:Kv K H n (.ref a) (.ref a)
 | lst {n:Nat} {a b:Addr} {xs ys:List V} (ha:aZ K H a xs) (hb:aZ K H b ys) (hl:xs.length=ys.length) (h:∀(i:Nat) x y,xs[i]? = some x->ys[i]? = some y->Kv K H n x y):Kv K H (n+1) (.ref a) (.ref b)
 | tup {n:Nat} {a b:Addr} {xs ys:List V} (ha:aH K H a xs) (hb:aH K H b ys) (hl:xs.length=ys.length) (h:∀(i:Nat) x y,xs[i]? = some x->ys[i]? = some y->Kv K H n x y):Kv K H (n+1) (.ref a) (.ref b)
section
variable{X:Cx}{pins:List (Addr×Obj)}{σ:St}{H:Hp}{s:Shared}
theorem ni{xs:List V}{its:List Value}(r:Vals xs its){j:Nat}(h:j<its.toArray.size):∃x,xs[j]? = some x/\RelV x its.toArray[j]:=by
 have hj:j<its.length:=by simpa using h
 have hx:j<xs.length:=by rw [r.length]; exact hj
 refine⟨xs[j],by simp [hx],?_⟩
 obtain⟨u,e,ru⟩:=r.get (i:=j) (x:=xs[j]) (by simp [hx])
 have e':its[j]=u:=by rw [UI hj]at e; exact Option.some.inj e
 show RelV xs[j] its[j]
 rw [e']; exact ru
end
end L2
namespace TX
open PySem PySem.Builtin PySem.Builtin.Str PySem.StrLaws
end TX
namespace L2
open PySem PySem.Spec PyProof.Rows
section
variable{X:Cx}
theorem vA{bs:List Bool}{its:List Value}(r:Vals (bs.map V.bl) its){i:Nat}{v:Value}(h:its.toArray[i]? = some v):∃b,bs[i]? = some b/\v=.bool b:=by
 have h':its[i]? = some v:=by simpa using h
 have hi:=(List.getElem?_eq_some_iff.mp h').1
 have hb:i<bs.length:=by
  have:=r.length
  rw [UC]at this
  omega
 obtain⟨u,e,ru⟩:=r.get (i:=i) (x:=.bl bs[i]) (by rw [List.getElem?_map,UI hb]; rfl)
 rw [h']at e
 cases e
 exact⟨bs[i],UI hb,ru⟩
theorem range_all(bs:List Bool):(List.range bs.length).all (λi=>bs.getD i true)=bs.all id:=by
 induction bs with
 | nil=>rfl
 | cons b r ih =>
  rw [List.length_cons,List.range_succ_eq_map,List.all_cons,List.all_map,List.all_cons]
  show(b&&_)=(b&&_)
  rw [←ih]
  rfl
theorem range_any(bs:List Bool):(List.range bs.length).any (λi=>bs.getD i true)=bs.any id:=by
 induction bs with
 | nil=>rfl
 | cons b r ih =>
  rw [List.length_cons,List.range_succ_eq_map,List.any_cons,List.any_map,List.any_cons]
  show(b||_)=(b||_)
  rw [←ih]
  rfl
theorem ir(hc:X.calm=true):fu X (.builtin "all") (λxs H Q=>∃(p:Addr) (bs:List Bool),xs=[.ref p]/\aZ X.K H p (bs.map V.bl)/\Q (.bl (bs.all id)) H):=by
 intro pins s σ H xs us Q I r h
 obtain⟨p,bs,rfl,hS,q⟩:=h
 obtain⟨u,rfl,ru⟩:=vals1 r
 cases ru
 obtain⟨its,rv,pl,hz⟩:=I.list hS
 have hp:p<s.heap.objs.size:=by obtain⟨o,e,_⟩:=pl.isList; exact Uw e
 have hl:its.toArray.size=bs.length:=by have:=rv.length; rw [UC]at this; simp [this]
 refine call_all_walk (wpAny_pyIter_list pl.isList ?_)
 refine⟨s.heap.objs.size,_,_,_,_,_,λi=>bs.getD i true,rfl,Walks.list (A:=X.A.in1) (I.ok.hd hc) _ p (Nat.ne_of_lt hp) its.toArray,⟨⟨_,Ux _ rfl,rfl,rfl⟩,?_⟩,?_,λh' tk hk=>?_⟩
 ·obtain⟨o,e,z⟩:=pl.isList
  exact⟨o,Uv _ e,z⟩
 ·intro i v s' Q' E' hv hq
  obtain⟨b,e,rfl⟩:=vA rv hv
  refine wpAny_truthy_bool ?_
  have:bs.getD i true=b:=by rw [List.getD_eq_getElem?_getD,e]; rfl
  rw [←this]
  exact hq
 ·rw [hl,range_all]
  have I1:Inv X pins σ H {s with heap:=s.heap.push {cls:=.type "list_iterator",data:=.fields #[.ref p,.int 0 0]}}:=I.kept (t':=s.toks) λb o e=>Uv _ e
  have f:=I.l7 (b:=s.heap.objs.size) (H':=H) (Uy _) (I.hok.fresh (Uy _))
  exact⟨.bl _,H,I1.turned (λb o hb e=>hk b o (by simpa using hb) e) f.1 f.2.1 f.2.2.2.1 f.2.2.2.2.1 f.2.2.2.2.2,rfl,q⟩
theorem lJ(hc:X.calm=true):fu X (.builtin "any") (λxs H Q=>∃(p:Addr) (bs:List Bool),xs=[.ref p]/\aZ X.K H p (bs.map V.bl)/\Q (.bl (bs.any id)) H):=by
 intro pins s σ H xs us Q I r h
 obtain⟨p,bs,rfl,hS,q⟩:=h
 obtain⟨u,rfl,ru⟩:=vals1 r
 cases ru
 obtain⟨its,rv,pl,hz⟩:=I.list hS
 have hp:p<s.heap.objs.size:=by obtain⟨o,e,_⟩:=pl.isList; exact Uw e
 have hl:its.toArray.size=bs.length:=by have:=rv.length; rw [UC]at this; simp [this]
 refine call_any_walk (wpAny_pyIter_list pl.isList ?_)
 refine⟨s.heap.objs.size,_,_,_,_,_,λi=>bs.getD i true,rfl,Walks.list (A:=X.A.in1) (I.ok.hd hc) _ p (Nat.ne_of_lt hp) its.toArray,⟨⟨_,Ux _ rfl,rfl,rfl⟩,?_⟩,?_,λh' tk hk=>?_⟩
 ·obtain⟨o,e,z⟩:=pl.isList
  exact⟨o,Uv _ e,z⟩
 ·intro i v s' Q' E' hv hq
  obtain⟨b,e,rfl⟩:=vA rv hv
  refine wpAny_truthy_bool ?_
  have:bs.getD i true=b:=by rw [List.getD_eq_getElem?_getD,e]; rfl
  rw [←this]
  exact hq
 ·rw [hl,range_any]
  have I1:Inv X pins σ H {s with heap:=s.heap.push {cls:=.type "list_iterator",data:=.fields #[.ref p,.int 0 0]}}:=I.kept (t':=s.toks) λb o e=>Uv _ e
  have f:=I.l7 (b:=s.heap.objs.size) (H':=H) (Uy _) (I.hok.fresh (Uy _))
  exact⟨.bl _,H,I1.turned (λb o hb e=>hk b o (by simpa using hb) e) f.1 f.2.1 f.2.2.2.1 f.2.2.2.2.1 f.2.2.2.2.2,rfl,q⟩
end
section
variable{X:Cx}{tg:Expr}
end
section
variable{g:TG}{tc:TT}{te:TE}{D:Addr}{Q:VK}{p_:St}{H0:Hp}
end
end L2
namespace CT
open PySem L2
inductive Cell where
 | num (n:Int) | Ke (x:Str)
end CT
namespace L2
open PySem PySem.Spec PyProof.Rows
section
variable{elt t1 i1 t2 i2:Expr}{f1 f2:List Expr}{sc:Scope}{pos:Pos}
abbrev qN(elt t1 i1:Expr)(f1:List Expr)(t2 i2:Expr)(f2:List Expr)(sc:Scope)(pos:Pos):Expr:=.ListComp elt [⟨t1,i1,f1,0⟩,⟨t2,i2,f2,0⟩] sc pos
theorem pL(it acc:Value)(env:Env) :
  compTurn (qN elt t1 i1 f1 t2 i2 f2 sc pos) 0 it acc env=(do
   standAt i1.pos
   match←pyNext it with
   | none=>pure (.done .next)
   | some v =>
    letOwnedTupleGo t1 it v
    assign t1 env v
    let mut ok:=true
    for c in f1 do
     if ok then ok←isTrue c env (eval c env)
    if ok then
     let x←eval i2 env
     standAt i2.pos
     let x←foldedSetIterable i2 env x
     let _←runOwn (.compStart (qN elt t1 i1 f1 t2 i2 f2 sc pos) 1 (←holding [x] (pyIter x)) acc env) env
    again (.compLoop (qN elt t1 i1 f1 t2 i2 f2 sc pos) 0 it acc env)):=by rfl
theorem p8(it acc:Value)(env:Env) :
  compTurn (qN elt t1 i1 f1 t2 i2 f2 sc pos) 1 it acc env=(do
   standAt i2.pos
   match←pyNext it with
   | none=>pure (.done .next)
   | some v =>
    letOwnedTupleGo t2 it v
    assign t2 env v
    let mut ok:=true
    for c in f2 do
     if ok then ok←isTrue c env (eval c env)
    if ok then
     (do let _←call (.builtin "list.append") [acc,←eval elt env])
    again (.compLoop (qN elt t1 i1 f1 t2 i2 f2 sc pos) 1 it acc env)):=by rfl
section
variable{it acc:Value}{env:Env}{prog:Program}{w:World}{A:Around}{s:Shared}{R:Result->Shared->Prop}
theorem sE(Iv:Nat->Shared->Prop)
  (turn:∀n s,Iv n s->wpAny (model prog w) A (pyNext it) (λr s₁=>match r with
   | none=>R (.ok .next) s₁
   | some v=>wpAny (model prog w) A (letOwnedTupleGo t2 it v) (λ_ s₁'=>wpAny (model prog w) A (assign t2 env v) (λ_ s₂ =>
     wpAny (model prog w) A (forIn f2 true λc r=>if r=true then do let ok←isTrue c env (eval c env); pure (ForInStep.yield ok)else pure (ForInStep.yield r)) (λok s₃ =>
      if ok=true then wpAny (model prog w) A (eval elt env) (λx s₄ =>
       wpAny (model prog w) A (call (.builtin "list.append") [acc,x]) (λ_ s₅=>∃m,m<n/\Iv m s₅) (λ_ _=>False) s₄) (λ_ _=>False) s₃
      else∃m,m<n/\Iv m s₃) (λ_ _=>False) s₂) (λ_ _=>False) s₁') (λ_ _=>False) s₁) (λ_ _=>False) s)
  (n:Nat) (h:Iv n s) :
  codeAny (model prog w) A (.compLoop (qN elt t1 i1 f1 t2 i2 f2 sc pos) 1 it acc env) R s:=by
 refine codeAny_loop rfl Iv (λn s hI=>?_) n h
 show wpAny _ A ((compTurn (qN elt t1 i1 f1 t2 i2 f2 sc pos) 1 it acc env).onRaise (λx=>do noteFrame x env; theTreesLotGoes x)) _ _ s
 refine wpAny_noted ?_
 rw [p8]
 refine Ut (wpAny_standAt (Ut (wpAny_mono (turn n s hI) (λr s₁ h₁=>?_) λ_ _ h'=>h'.elim)))
 cases r with
 | none=>exact Uu h₁
 | some v =>
  refine Ut (wpAny_mono h₁ (λ_ s₁' h₁'=>Ut (wpAny_mono h₁' (λ_ s₂ h₂=>Ut (wpAny_mono h₂ (λok s₃ h₃=>?_) λ_ _ h'=>h'.elim)) λ_ _ h'=>h'.elim)) λ_ _ h'=>h'.elim)
  cases ok with
  | false=>exact Uu ⟨rfl,h₃⟩
  | true =>
   exact Ut (Ut (wpAny_mono h₃ (λx s₄ h₄=>Ut (wpAny_mono h₄ (λ_ s₅ h₅=>Uu (Uu ⟨rfl,h₅⟩)) λ_ _ h'=>h'.elim)) λ_ _ h'=>h'.elim))
theorem qt(hs:∀x,foldedSetIterable i2 env x=pure x)(Iv:Nat->Shared->Prop)
  (turn:∀n s,Iv n s->wpAny (model prog w) A (pyNext it) (λr s₁=>match r with
   | none=>R (.ok .next) s₁
   | some v=>wpAny (model prog w) A (letOwnedTupleGo t1 it v) (λ_ s₁'=>wpAny (model prog w) A (assign t1 env v) (λ_ s₂ =>
     wpAny (model prog w) A (forIn f1 true λc r=>if r=true then do let ok←isTrue c env (eval c env); pure (ForInStep.yield ok)else pure (ForInStep.yield r)) (λok s₃ =>
      if ok=true then wpAny (model prog w) A (eval i2 env) (λx s₄=>wpAny (model prog w) A (pyIter x) (λQM s₅ =>
       codeAny (model prog w) A (.compStart (qN elt t1 i1 f1 t2 i2 f2 sc pos) 1 QM acc env) (λr s'=>match r with | .ok _=>∃m,m<n/\Iv m s' | .error _=>False) s₅) (λ_ _=>False) s₄) (λ_ _=>False) s₃
      else∃m,m<n/\Iv m s₃) (λ_ _=>False) s₂) (λ_ _=>False) s₁') (λ_ _=>False) s₁) (λ_ _=>False) s)
  (n:Nat) (h:Iv n s) :
  codeAny (model prog w) A (.compLoop (qN elt t1 i1 f1 t2 i2 f2 sc pos) 0 it acc env) R s:=by
 refine codeAny_loop rfl Iv (λn s hI=>?_) n h
 show wpAny _ A ((compTurn (qN elt t1 i1 f1 t2 i2 f2 sc pos) 0 it acc env).onRaise (λx=>do noteFrame x env; theTreesLotGoes x)) _ _ s
 refine wpAny_noted ?_
 rw [pL]
 refine Ut (wpAny_standAt (Ut (wpAny_mono (turn n s hI) (λr s₁ h₁=>?_) λ_ _ h'=>h'.elim)))
 cases r with
 | none=>exact Uu h₁
 | some v =>
  refine Ut (wpAny_mono h₁ (λ_ s₁' h₁'=>Ut (wpAny_mono h₁' (λ_ s₂ h₂=>Ut (wpAny_mono h₂ (λok s₃ h₃=>?_) λ_ _ h'=>h'.elim)) λ_ _ h'=>h'.elim)) λ_ _ h'=>h'.elim)
  cases ok with
  | false=>exact Uu ⟨rfl,h₃⟩
  | true =>
   refine Ut (wpAny_mono h₃ (λx s₄ h₄=>?_) λ_ _ h'=>h'.elim)
   refine Ut (wpAny_standAt (Ut (wpAny_of_eq (hs x) ?_)))
   refine Ut (wpAny_holding (wpAny_mono h₄ (λQM s₅ h₅=>?_) λ_ _ h'=>h'.elim))
   refine Ut (wpAny_runOwn (codeAny_mono h₅ λr s' hr=>?_))
   cases r with
   | ok f=>exact Uu ⟨rfl,hr⟩
   | error x=>exact hr.elim
theorem jx
  (h0:codeAny (model prog w) A (.compLoop (qN elt t1 i1 f1 t2 i2 f2 sc pos) 1 it acc env) R s)
  (h:wpAny (model prog w) A (pyIter it) (λit' s'=>codeAny (model prog w) A (.compLoop (qN elt t1 i1 f1 t2 i2 f2 sc pos) 1 it' acc env) R s')
   (notedBy (model prog w) A env λx s'=>R (.error x) s') s) :
  codeAny (model prog w) A (.compStart (qN elt t1 i1 f1 t2 i2 f2 sc pos) 1 it acc env) R s:=by
 refine codeAny_of_tree ?_
 show wpAny _ _ ((compStart (qN elt t1 i1 f1 t2 i2 f2 sc pos) 1 it acc env).onRaise (λx=>do noteFrame x env; standAt theWindowsPlace)) _ _ s
 refine wpAny_notedAt ?_
 unfold compStart
 show wpAny _ _ (ask >>= _) _ _ s
 refine Ut (wpAny_askSetting (wpAny_ite ?_))
 split
 ·first
   | exact Ut (Uu (Uu (And.intro rfl h0)))
   | exact Uu (And.intro rfl h0)
 ·first
   | exact Ut (wpAny_rule (Ut (wpAny_standAt (Ut (wpAny_mono h (λit' s' h'=>Uu (And.intro rfl h')) λ_ _ x=>x)))))
   | (refine Ut (wpAny_rule ?_); show wpAny _ _ (standAt i2.pos >>= _) _ _ s; exact Ut (wpAny_standAt (Ut (wpAny_mono h (λit' s' h'=>Uu (And.intro rfl h')) λ_ _ x=>x))))
end
end
def nY(J:It)(g:TG)(tc:TT)(te:TE)(D:Addr)(N:St->List V->Hp->Prop)(W:Nat->Nat->St->List V->Hp->Prop):Prop :=
 ∀i m σ ys H,W i m σ ys H->H D=some (.lst ys)/\((J.stop i H/\N σ ys H)\/(J.go i H/\ys.length<sizeLine/\∃N2:St->List V->Hp->Prop,(∀σ' ys' H',N2 σ' ys' H'->∃m',m'<m/\W (i+1) m' σ' ys' H')/\
  ∀x H',J.EV i H x H'->g x σ H' λdf H2=>tc df H2 λb H3 =>
   if b=true then te df H3 λv H4=>H4 D=some (.lst ys)/\N2 df (ys++[v]) (upd H4 D (.lst (ys++[v])))else N2 df ys H3))
def tS(J:It)(g:TG)(tc:TT)(wi2:TI)(g2:TG)(rJ:TT)(te:TE)(D:Addr)(Q:VK)(W:Nat->Nat->St->List V->Hp->Prop):Prop :=
 ∀i m σ ys H,W i m σ ys H->H D=some (.lst ys)/\((J.stop i H/\Q (.ref D) H)\/(J.go i H/\∃N:St->List V->Hp->Prop,(∀σ' ys' H',N σ' ys' H'->∃m',m'<m/\W (i+1) m' σ' ys' H')/\
  ∀x H',J.EV i H x H'->g x σ H' λdf H2=>tc df H2 λb H3 =>
   if b=true then wi2 df H3 λJ2 H4=>∃W2:Nat->Nat->St->List V->Hp->Prop,(∃m,W2 0 m df ys H4)/\nY J2 g2 rJ te D N W2 else N df ys H3))
def Dd(src:List (Option Nat))(wi:TI)(g:TG)(tc:TT)(wi2:TI)(g2:TG)(rJ:TT)(te:TE):TE:=λσ H Q=>wi σ H λJ H1=>∀D,H1 D=none->
 ∃W:Nat->Nat->St->List V->Hp->Prop,(∃m,W 0 m (jT src σ) [] (upd H1 D (.lst [])))/\tS J g tc wi2 g2 rJ te D Q W
section
variable{X:Cx}{elt t1 i1 t2 i2:Expr}{f1 f2:List Expr}{sc:Scope}{pos:Pos}{wi wi2:TI}{g g2:TG}{tc rJ:TT}{te:TE}{N':List Str}{src:List (Option Nat)}
theorem w8{Y:Cx}(hc:Y.calm=true)(Nl:Y.xe = λ_ _=>False)(hg:PG Y t2 g2)(ht:i9 Y f2 rJ)(he:PE Y elt te)
  {pins:List (Addr×Obj)} {σ:St} {H:Hp} {s:Shared} {ys:List V} {it D:Addr} {fp:List Addr} {tn:Nat->Heap->Prop} {J:It} {N:St->List V->Hp->Prop} {R:Result->Shared->Prop}
  (I:Inv Y pins σ H s) (T:Turn Y.prog Y.w Y.K t2 J fp it tn) (st:tn 0 s.heap) (ff:∀b∈fp,dB Y pins H b) {W:Nat->Nat->St->List V->Hp->Prop} {m:Nat} (w0:W 0 m σ ys H) (hW:nY J g2 rJ te D N W)
  (hR:∀σ' ys' H' s',Inv Y pins σ' H' s'->N σ' ys' H'->R (.ok .next) s') :
  codeAny (model Y.prog Y.w) Y.A (.compStart (qN elt t1 i1 f1 t2 i2 f2 sc pos) 1 (.ref it) (.ref D) Y.env) R s:=by
 have stat:∀{H':Hp},(∀b∈fp,H' b=none)->∀b∈fp,dB Y pins H' b:=λhn b hb=>⟨hn b hb,(ff b hb).2⟩
 have loop:codeAny (model Y.prog Y.w) Y.A (.compLoop (qN elt t1 i1 f1 t2 i2 f2 sc pos) 1 (.ref it) (.ref D) Y.env) R s:=by
  refine sE (λn s'=>∃i σ' ys H',Inv Y pins σ' H' s'/\tn i s'.heap/\(∀b∈fp,H' b=none)/\W i n σ' ys H') ?_ m ⟨0,_,_,_,I,st,λb hb=>(ff b hb).1,w0⟩
  rintro n s5 ⟨i,nu,ys,H5,I5,ug,v8,w5⟩
  obtain⟨hD,alt⟩:=hW i n nu ys H5 w5
  rcases alt with⟨stop,qn⟩ | ⟨go,hsz,N2,hN,step⟩
  ·refine b_ (T.done Y rfl rfl rfl hc i pins s5 nu H5 _ I5 (stat v8) ug stop) λr s6 ⟨hr,I6⟩=>?_
   subst hr
   exact hR _ _ _ _ I6 qn
  ·refine b_ (T.item Y rfl rfl rfl hc i pins s5 nu H5 _ I5 (stat v8) ug go) λr s6 ⟨u,hr,h6⟩=>?_
   subst hr
   refine b_ h6 λ_ s7 ⟨x,H7,I7,r7,y7,sh,ET⟩=>?_
   have F_:=I7.pinned (stat ET) (T.obj _ _ sh)
   have hg':=hg _ s7 nu H7 x u _ F_ r7 (step x H7 y7)
   rw [Nl]at hg'
   refine b_ hg' λ_ s8 ⟨uh,H8,I8,q8⟩=>?_
   have ht':=ht _ s8 uh H8 _ I8 q8
   rw [Nl]at ht'
   refine b_ ht' λb s9 ⟨H9,I9,q9⟩=>?_
   have again:∀{σ':St} {H':Hp} {s':Shared} {ys':List V} {m':Nat},Inv Y (pins++jd fp s7.heap) σ' H' s'->m'<n->W (i+1) m' σ' ys' H'->
     ∃m,m<n/\∃i σ' ys H',Inv Y pins σ' H' s'/\tn i s'.heap/\(∀b∈fp,H' b=none)/\W i m σ' ys H':=λ{σ' H' s' ys' m'} I' hm w'=>by
    refine⟨m',hm,i+1,σ',ys',H',I'.gp,T.keep _ _ _ sh λb hb o e=>(I'.pin (b,o) (UJ _ (UJ _ (cL hb e)))).1,λb hb=>?_,w'⟩
    obtain⟨o,e,d⟩:=T.obj _ _ sh b hb
    exact(I'.pin (b,o) (UJ _ (UJ _ (cL hb e)))).2.1
   cases b with
   | false =>
    rw [if_neg UM]at q9⊢
    obtain⟨m',hm,w'⟩:=hN _ _ _ q9
    exact again I9 hm w'
   | true =>
    rw [if_pos rfl]at q9⊢
    have he':=he _ s9 uh H9 _ I9 q9
    rw [Nl]at he'
    refine b_ he' λxv BL ⟨v,Ak,MS,r10,Bc,w10⟩=>?_
    obtain⟨m',hm,w'⟩:=hN _ _ _ w10
    have LO:m5 (.ref D) [v] Ak λ_ H'=>H'=upd Ak D (.lst (ys++[v])):=⟨_,ys,v,rfl,rfl,Bc,hsz,rfl⟩
    have ha':=cV _ BL uh Ak _ _ _ _ _ MS (show RelV (.ref D) (.ref D) from rfl) (.cons r10 .nil) LO
    rw [Nl]at ha'
    refine b_ ha' λ_ Qs ⟨_,Ph,Hn,_,MX⟩=>?_
    rw [MX]at Hn
    exact again Hn hm w'
 exact jx loop (T.self _ 0 _ _ _ st loop)
theorem mF{pins:List (Addr×Obj)}{σ:St}{H2:Hp}{s2:Shared}{it:Addr}{fp:List Addr}{tn:Nat->Heap->Prop}{J:It}{Q:VK}{E:Value->Shared->Prop}{RR:Value->Addr->Result->Shared->Prop}
  (hc:X.calm=true) (S:ba X.env.scope X.N N' src sc)
  (hg:∀cl C s H fp,PG (aK X N' sc cl C s H fp) t1 g) (ht:∀cl C s H fp,i9 (aK X N' sc cl C s H fp) f1 tc)
  (hi2:∀cl C s H fp,PI (aK X N' sc cl C s H fp) t2 i2 wi2) (hg2:∀cl C s H fp,PG (aK X N' sc cl C s H fp) t2 g2) (Bi:∀cl C s H fp,i9 (aK X N' sc cl C s H fp) f2 rJ)
  (he:∀cl C s H fp,PE (aK X N' sc cl C s H fp) elt te) (hs2:∀(env:Env) x,foldedSetIterable i2 env x=pure x)
  (I2:Inv X pins σ H2 s2) (T:Turn X.prog X.w X.K t1 J fp it tn) (st2:tn 0 s2.heap) (KH:∀b∈fp,dB X pins H2 b)
  (hW:∀D,H2 D=none->∃W:Nat->Nat->St->List V->Hp->Prop,(∃m,W 0 m (jT src σ) [] (upd H2 D (.lst [])))/\tS J g tc wi2 g2 rJ te D Q W)
  (hRR:∀D C s5 H' m,Inv X pins σ H' s5->s5.heap.Ns C m->dB X pins H' C->Q (.ref D) H'->RR (.ref D) C (.ok .next) s5) :
  wpAny (model X.prog X.w) X.A (newList []) (λacc s₃=>wpAny (model X.prog X.w) X.A (newFunctionEnv sc X.env.globals (bL X.env.cells sc.names []) [] X.env.qual none .none (some X.env)) (λcenv s₄ =>
   codeAny (model X.prog X.w) X.A (.compStart (qN elt t1 i1 f1 t2 i2 f2 sc pos) 0 (.ref it) acc {cenv with scope:=relabel sc X.env}) (RR acc cenv.locals) s₄) E s₃) E s2:=by
 have o2:∀b∈fp,b<s2.heap.objs.size:=λb hb=>by
  obtain⟨o,e,_⟩:=T.obj 0 _ st2 b hb
  exact Uw e
 refine wpAny_newObj_type ?_
 have JZ:H2 s2.heap.objs.size=none:=I2.hok.fresh (Uy _)
 obtain⟨W,⟨m0,w0⟩,turn⟩:=hW s2.heap.objs.size JZ
 have I3:Inv X pins σ (upd H2 s2.heap.objs.size (.lst [])) {s2 with heap:=s2.heap.push {cls:=.type "list",dict:=none,data:=.seq ([]:List Value).toArray}} :=
  I2.laid (t':=s2.toks) (λb u e=>Uv _ e) (Uy _) ⟨Nat.zero_le _,[],0,.nil,Ux _ rfl⟩
 have st3:tn 0 (s2.heap.push {cls:=.type "list",dict:=none,data:=.seq ([]:List Value).toArray}):=T.keep 0 _ _ st2 λb hb o e=>Uv _ e
 generalize hs3:({s2 with heap:=s2.heap.push {cls:=.type "list",dict:=none,data:=.seq ([]:List Value).toArray}}:Shared)=s3 at I3
 have hh3:s3.heap=s2.heap.push {cls:=.type "list",dict:=none,data:=.seq ([]:List Value).toArray}:=by rw [←hs3]
 have El:s2.heap.objs.size<s3.heap.objs.size:=by rw [hh3,Heap.size_push]; exact Nat.lt_succ_self _
 have o3:∀b∈fp,b<s3.heap.objs.size:=λb hb=>Nat.lt_trans (o2 b hb) El
 have f3:∀b∈fp,dB X pins (upd H2 s2.heap.objs.size (.lst [])) b:=λb hb=>⟨by rw [aI (Nat.ne_of_lt (o2 b hb))]; exact(KH b hb).1,(KH b hb).2⟩
 rw [←hh3]at st3
 refine wpAny_newFunctionEnv S.og (by intro y hy; simp at hy) (λh1 hns hsb=>?_) S.kind
 have hsb':Heap.SameBut s3.heap.objs.size (s3.heap.push {cls:=.type "dict",data:=.dict #[]}) h1:=hsb
 have I4:Inv (aK X N' sc (bL X.env.cells sc.names []) s3.heap.objs.size s3 (upd H2 s2.heap.objs.size (.lst [])) fp) [] (jT src σ) (upd H2 s2.heap.objs.size (.lst [])) {s3 with heap:=h1,toks:=s3.toks+([]:List (Str×Value)).length} :=
  iD S I3 f3 o3 hns hsb'
 have BJ:tn 0 h1:=T.keep 0 _ _ st3 λb hb o e=>(hsb'.2 b (Nat.ne_of_lt (o3 b hb))).trans (Uv _ e)
 have fC:∀(H':Hp),H' s3.heap.objs.size=none->dB X pins H' s3.heap.objs.size:=λH' hn=>I3.l7 (Uy _) hn
 have loop:codeAny (model X.prog X.w) X.A (.compLoop (qN elt t1 i1 f1 t2 i2 f2 sc pos) 0 (.ref it) (.ref s2.heap.objs.size) (compEnvC sc (bL X.env.cells sc.names []) s3.heap.objs.size X.env))
   (RR (.ref s2.heap.objs.size) s3.heap.objs.size) {s3 with heap:=h1,toks:=s3.toks+([]:List (Str×Value)).length}:=by
  have stat:∀{H':Hp},(∀b∈fp,H' b=none)->∀b∈fp,dB (aK X N' sc (bL X.env.cells sc.names []) s3.heap.objs.size s3 (upd H2 s2.heap.objs.size (.lst [])) fp) [] H' b:=λhn b hb =>
   ⟨hn b hb,(I4.ok.AM b hb).1,I4.ok.pI b hb,.inl hb,(I4.ok.AM b hb).2,λp hp=>absurd (show p∈([]:List (Addr×Obj)) from hp) (by simp)⟩
  refine qt (hs2 _) (λn s'=>∃i σ' ys H',Inv (aK X N' sc (bL X.env.cells sc.names []) s3.heap.objs.size s3 (upd H2 s2.heap.objs.size (.lst [])) fp) [] σ' H' s'/\tn i s'.heap/\(∀b∈fp,H' b=none)/\W i n σ' ys H') ?_ m0
   ⟨0,_,[],_,I4,BJ,λb hb=>(f3 b hb).1,w0⟩
  rintro n s5 ⟨i,nu,ys,H5,I5,ug,v8,w5⟩
  obtain⟨hD,alt⟩:=turn i n nu ys H5 w5
  rcases alt with⟨stop,qn⟩ | ⟨go,N,hN,step⟩
  ·refine b_ (T.done (aK X N' sc (bL X.env.cells sc.names []) s3.heap.objs.size s3 (upd H2 s2.heap.objs.size (.lst [])) fp) rfl rfl rfl hc i [] s5 nu H5 _ I5 (stat v8) ug stop) λr s6 ⟨hr,I6⟩=>?_
   subst hr
   obtain⟨m6,n6,_⟩:=id I6.loc
   refine hRR _ _ s6 H5 m6 (I3.call' I6.os I6.base I6.hok I6.bare λb hb=>⟨(f3 b hb).2.2.2.1,(f3 b hb).2.1,(f3 b hb).2.2.2.2.1,(f3 b hb).2.2.2.2.2⟩) n6 (fC _ I6.free) qn
  ·refine b_ (T.item (aK X N' sc (bL X.env.cells sc.names []) s3.heap.objs.size s3 (upd H2 s2.heap.objs.size (.lst [])) fp) rfl rfl rfl hc i [] s5 nu H5 _ I5 (stat v8) ug go) λr s6 ⟨u,hr,h6⟩=>?_
   subst hr
   refine b_ h6 λ_ s7 ⟨x,H7,I7,r7,y7,sh,ET⟩=>?_
   have F_:=I7.pinned (stat ET) (T.obj _ _ sh)
   refine b_ (hg _ _ _ _ _ _ s7 nu H7 x u _ F_ r7 (step x H7 y7)) λ_ s8 ⟨uh,H8,I8,q8⟩=>?_
   refine b_ (ht _ _ _ _ _ _ s8 uh H8 _ I8 q8) λb s9 ⟨H9,I9,q9⟩=>?_
   have again:∀{σ':St} {H':Hp} {s':Shared} {ys':List V} {m':Nat},Inv (aK X N' sc (bL X.env.cells sc.names []) s3.heap.objs.size s3 (upd H2 s2.heap.objs.size (.lst [])) fp) ([]++jd fp s7.heap) σ' H' s'->m'<n->W (i+1) m' σ' ys' H'->
     ∃m,m<n/\∃i σ' ys H',Inv (aK X N' sc (bL X.env.cells sc.names []) s3.heap.objs.size s3 (upd H2 s2.heap.objs.size (.lst [])) fp) [] σ' H' s'/\tn i s'.heap/\(∀b∈fp,H' b=none)/\W i m σ' ys H':=λ{σ' H' s' ys' m'} I' hm w'=>by
    refine⟨m',hm,i+1,σ',ys',H',I'.gp,T.keep _ _ _ sh λb hb o e=>(I'.pin (b,o) (UJ _ (UJ _ (cL hb e)))).1,λb hb=>?_,w'⟩
    obtain⟨o,e,d⟩:=T.obj _ _ sh b hb
    exact(I'.pin (b,o) (UJ _ (UJ _ (cL hb e)))).2.1
   cases b with
   | false =>
    rw [if_neg UM]at q9⊢
    obtain⟨m',hm,w'⟩:=hN _ _ _ q9
    exact again I9 hm w'
   | true =>
    rw [if_pos rfl]at q9⊢
    refine b_ (hi2 _ _ _ _ _ _ s9 uh H9 _ I9 q9) λv sA hA=>b_ hA λitv sB hB=>?_
    obtain⟨Ue,Ui,Uj,JB,HB,eB,IB,TB,TY,fB,WB,⟨mB,wB⟩,SJ⟩:=hB
    subst eB
    refine w8 (Y:=aK X N' sc (bL X.env.cells sc.names []) s3.heap.objs.size s3 (upd H2 s2.heap.objs.size (.lst [])) fp) hc rfl (hg2 _ _ _ _ _) (Bi _ _ _ _ _) (he _ _ _ _ _) IB TB TY fB wB SJ ?_
    intro σ' ys' H' s' I' hn
    obtain⟨m',hm,w'⟩:=hN _ _ _ hn
    exact again I' hm w'
 exact codeAny_compStart_list loop (T.self _ 0 _ _ _ BJ loop)
theorem rd(hc:X.calm=true)(S:ba X.env.scope X.N N' src sc)(hi:PI X t1 i1 wi)
  (hg:∀cl C s H fp,PG (aK X N' sc cl C s H fp) t1 g) (ht:∀cl C s H fp,i9 (aK X N' sc cl C s H fp) f1 tc)
  (hi2:∀cl C s H fp,PI (aK X N' sc cl C s H fp) t2 i2 wi2) (hg2:∀cl C s H fp,PG (aK X N' sc cl C s H fp) t2 g2) (Bi:∀cl C s H fp,i9 (aK X N' sc cl C s H fp) f2 rJ)
  (he:∀cl C s H fp,PE (aK X N' sc cl C s H fp) elt te) (hs:∀x,foldedSetIterable i1 X.env x=pure x:=by intro _; rfl) (hs2:∀(env:Env) x,foldedSetIterable i2 env x=pure x:=by intro _ _; rfl) :
  PE X (qN elt t1 i1 f1 t2 i2 f2 sc pos) (Dd src wi g tc wi2 g2 rJ te):=by
 intro pins s σ H Q I h
 rw [eval_ListComp]
 refine wpAny_comprehension_free (use:=none) rfl hs (cU λy hy hk=>I.ok.has y.1 (S.free y hy hk)) S.kind (λy hy hl=>by rw [←hl]; exact S.uniq y hy) ?_
 refine b_ (hi pins s σ H _ I h) λv s1 h1=>b_ h1 λitv s2 h2=>?_
 obtain⟨it,fp,tn,J,H2,e,I2,T,st2,KH,hW⟩:=h2
 subst e
 refine mF (Q:=Q) (RR:=λacc C=>compPost (model X.prog X.w) X.A X.xe none (EP X pins σ Q) acc C) hc S hg ht hi2 hg2 Bi he hs2 I2 T st2 KH hW ?_
 intro D C s5 H' m I5 n5 fC q
 refine⟨m,n5,λh' sb=>⟨.ref D,H',?_,rfl,q⟩⟩
 exact I5.turned (t':=s5.toks) (λb o hb e=>(sb.2 b hb).trans e) fC.1 fC.2.1 fC.2.2.2.1 fC.2.2.2.2.1 fC.2.2.2.2.2
end
end L2
namespace HT
open PySem PyProof.Rows
open PySem.AutoSeq1 (wpAny_loadPart')
theorem tuple_addW0(l b:Addr)(items items2:Array Value)(n n2:Nat)(dd dd2:Option Addr)(sl sl2:Array (Option Value))(hc0:items.isEmpty=true) :
  Meets (Builtin.«tuple.__add__» ⟨[.ref l,.ref b],[]⟩) (λ_ R s=>s.heap.get? l=some {cls:=.type "tuple",dict:=dd,data:=.seq items n,slots:=sl}/\s.heap.get? b=some {cls:=.type "tuple",dict:=dd2,data:=.seq items2 n2,slots:=sl2}/\R (.ok (.ret (Value.ref b))) {s with heap:=s.heap,toks:=s.toks}) :=
 .of_wp λprog w A R s h=>by
  obtain⟨hp,g,d,tk,os⟩:=s; obtain⟨hl,hb,h⟩:=h
  have f1:=AutoSeq1.idx_int; have f2:=AutoSeq1.sub_tuple_tuple; have f3:=AutoSeq1.sub_list_list; have f4:=AutoSeq1.sub_tuple_list; have f5:=AutoSeq1.sub_list_tuple
  wp_walk using wpAny_loadPart' hl,wpAny_loadPart' hb
  exact⟨_,rfl,h⟩
section
variable{prog:Program}{w:World}{A:Around}{E:Value->Shared->Prop}{s:Shared}
theorem Dr{t b:Addr}{ws:List Value}{Q:Value->Shared->Prop}(ht:IsTup s.heap t #[])(hb:IsTup s.heap b ws.toArray)(h1:Q (.ref b) s):wpAny (model prog w) A (binaryOp .Add (.ref t) (.ref b)) Q E s:=by
 obtain⟨⟨cls,dd,data,sl⟩,ho,hc,n,hd⟩:=id ht
 obtain⟨⟨cls2,dd2,data2,sl2⟩,ho2,hc2,n2,hd2⟩:=id hb
 simp only at hc hd hc2 hd2
 subst hc hd hc2 hd2
 exact concat_meets ⟨_,ho,rfl⟩ ⟨_,ho2,rfl⟩ noFill_tuple_add seq_tuple_add PySem.F.slot_tuple_add PySem.F.entry_tuple_add (PySem.F.args_tuple_add_2 _ _)
   (tuple_addW0 t b #[] ws.toArray n n2 dd dd2 sl sl2 rfl) ⟨ho,ho2,h1⟩
theorem jR{t sl:Addr}{items:Array Value}{vl vu:Value}{lo hi:Option Int}{Q:Value->Shared->Prop}(ht:IsTup s.heap t items)(hs:s.heap.IsSliceOf sl vl vu .none)(pl:IsPart vl lo)(pu:IsPart vu hi)
  (hw:dG items.size 0 lo=0/\dG items.size items.size hi=items.size)
  (h:Q (.ref t) s):wpAny (model prog w) A (getItem (.ref t) (.ref sl)) Q E s:=by
 obtain⟨os,hos,hcs,hds⟩:=id hs
 have hTs:s.TypeIs (.ref sl) "slice":=⟨os,hos,hcs⟩
 unfold getItem
 try with_reducible refine wpAny_holding ?_
 first | refine Ut (Uu ?_) | skip
 refine Ut (wpAny_sequenceKey ht.typeIs (by decide) ?_)
 refine Ut (wpAny_callSpecial?_slot (name:=Str.ofString "__getitem__") ht.typeIs PyProof.Rows.slot_tuple_getitem
  (wpAny_call_entry PyProof.Rows.slot_tuple_getitem ht.typeIs entry_tuple_getitem ?_ (args_tuple_getitem _ _)))
 show wpAny _ _ (Builtin.Tuple.tupleItemsOf (.ref t) >>= _) _ _ s
 refine Ut (tupleItemsOf_ ht ?_)
 refine Ut (wpAny_typeOf hTs ?_)
 rw [if_pos (by decide)]
 refine Ut (ix hs pl pu ?_)
 have hno:(((dG items.size 0 lo:Nat):Int)==0&&(1:Int)==1&&(dG items.size items.size hi-dG items.size 0 lo)==items.size)=true:=by
  rw [hw.1,hw.2]
  simp
 show wpAny _ _ (if(((dG items.size 0 lo:Nat):Int)==0&&(1:Int)==1&&(dG items.size items.size hi-dG items.size 0 lo)==items.size)=true then _ else _) _ _ s
 rw [if_pos hno]
 refine Ut (m:=Builtin.Tuple.tupleIsExact _) ?_
 unfold Builtin.Tuple.tupleIsExact
 refine Ut (wpAny_typeOf ht.typeIs (Uu ?_))
 show wpAny _ _ (if((Value.type "tuple")==(Value.type "tuple"))=true then _ else _) _ _ s
 rw [if_pos (by decide)]
 exact Ut (wpAny_rule (Uu ⟨_,rfl,Uu h⟩))
end
end HT
namespace L2
open PySem PySem.Spec PyProof.Rows
section
variable{X:Cx}
theorem C4(hu:X.A.units<cLine):i8 X (compareOp .NotEq) (λx y H Q=>∃a b xs ys,x=.ref a/\y=.ref b/\aZ X.K H a xs/\aZ X.K H b ys/\xs.length≠ys.length/\Q (.bl true) H):=by
 intro pins s σ H x y v u Q I rx ry h
 obtain⟨a,b,xs,ys,rfl,rfl,ha,hb,hl,q⟩:=h
 cases rx; cases ry
 obtain⟨its,r1,p1,_⟩:=I.list ha
 obtain⟨its',r2,p2,_⟩:=I.list hb
 exact SeqAt.RcNeAt.lists_lengths p1.isList p2.isList (by simp [←r1.length,←r2.length,hl]) hu _ _ _ _ ⟨.bl true,H,I,rfl,q⟩
theorem CJ:i8 X (binaryOp .Add) (λx y H Q=>∃a b ys,x=.ref a/\y=.ref b/\aH X.K H a []/\aH X.K H b ys/\Q (.ref b) H):=by
 intro pins s σ H x y v u Q I rx ry h
 obtain⟨a,b,ys,rfl,rfl,ha,hb,q⟩:=h
 cases rx
 cases ry
 obtain⟨its,r1,p1,_⟩:=I.tuple ha
 obtain⟨its2,r2,p2,_⟩:=I.tuple hb
 cases r1
 exact HT.Dr p1 p2 ⟨.ref b,H,I,rfl,q⟩
def GX(K:PySem.W.Frag):V->Option Int->Option Int->Hp->VK->Prop:=λx lo hi H Q=>∃a xs,x=.ref a/\aH K H a xs/\
 (HT.dG xs.length 0 lo=0/\HT.dG xs.length xs.length hi=xs.length)/\Q (.ref a) H
theorem Ex:Fz X (GX X.K):=by
 intro pins s σ H x v vl vu lo hi sl Q I rx hs pl pu h
 obtain⟨a,xs,rfl,hx,hw,q⟩:=h
 cases rx
 obtain⟨its,r,ht,hz⟩:=I.tuple hx
 have hlen:its.toArray.size=xs.length:=by rw [UN]; exact r.length.symm
 refine⟨"tuple",_,PyProof.Rows.slot_tuple_getitem.lookup,ht.typeIs,?_⟩
 exact HT.jR ht hs pl pu (by rw [hlen]; exact hw) ⟨.ref a,H,I,rfl,q⟩
theorem Gy{x:V}{lo hi:Option Int}{H:Hp}{Q:VK}{a:Addr}{xs:List V}{K:PySem.W.Frag}(e:x=.ref a)(h:aH K H a xs)(q1:gj xs lo hi=xs->Q (.ref a) H)(q2:∀p,H p=none->Q (.ref p) (upd H p (.tup (gj xs lo hi)))):Mh K x lo hi H Q\/GX K x lo hi H Q:=by
 by_cases hw:HT.dG xs.length 0 lo=0/\HT.dG xs.length xs.length hi=xs.length
 ·refine .inr ⟨a,xs,e,h,hw,q1 ?_⟩
  unfold gj
  rw [hw.1,hw.2]
  simp
 ·exact .inl ⟨a,xs,e,h,hw,q2⟩
end
inductive D where
 | int (i:Int) | str (x:Str) | non | bl (b:Bool) | tup (ds:List D) | lst (ds:List D)
deriving Inhabited
mutual
def aY(K:PySem.W.Frag)(H:Hp):D->V->Prop
 | .int i,v=>v=.int i
 | .str x,v=>v=.str x
 | .non,v=>v=.non
 | .bl b,v=>v=.bl b
 | .tup ds,v=>∃a vs,v=.ref a/\aH K H a vs/\bF K H ds vs
 | .lst ds,v=>∃a vs,v=.ref a/\H a=some (.lst vs)/\bF K H ds vs
def bF(K:PySem.W.Frag)(H:Hp):List D->List V->Prop
 | [],vs=>vs=[]
 | d::ds,vs=>∃v r,vs=v::r/\aY K H d v/\bF K H ds r
end
mutual
def D.depth:D->Nat
 | .tup ds=>1+cw ds
 | .lst ds=>1+cw ds
 | _=>0
def cw:List D->Nat
 | []=>0
 | d::ds=>max d.depth (cw ds)
end
def bI(b:Bool):Int:=if b then 1 else 0
mutual
def cN:D->D->Bool
 | .int i,.int j=>i==j
 | .int i,.bl b=>i==bI b
 | .bl b,.int j=>bI b==j
 | .bl b,.bl c=>b==c
 | .str x,.str y=>x==y
 | .non,.non=>true
 | .tup ds,.tup es=>il ds es
 | .lst ds,.lst es=>il ds es
 | _,_=>false
def il:List D->List D->Bool
 | [],[]=>true
 | d::ds,e::es=>cN d e&&il ds es
 | _,_=>false
end
mutual
theorem ji:∀d:D,cN d d=true
 | .int i=>by simp [cN]
 | .str x=>by simp [cN]
 | .non=>by simp [cN]
 | .bl b=>by simp [cN]
 | .tup ds=>by rw [cN]; exact h_ ds
 | .lst ds=>by rw [cN]; exact h_ ds
theorem h_:∀ds:List D,il ds ds=true
 | []=>by simp [il]
 | d::ds=>by rw [il,ji d,h_ ds]; rfl
end
section
variable{K:PySem.W.Frag}{H:Hp}
theorem bF.length:∀{ds:List D} {vs:List V},bF K H ds vs->ds.length=vs.length
 | [],vs,h=>by rw [bF]at h; rw [h]; rfl
 | d::ds,vs,h=>by
  rw [bF]at h
  obtain⟨v,r,rfl,_,h⟩:=h
  rw [List.length_cons,List.length_cons,bF.length h]
theorem bF.get:∀{ds:List D} {vs:List V} {i:Nat} {v:V},bF K H ds vs->vs[i]? = some v->∃d,ds[i]? = some d/\aY K H d v
 | [],vs,i,v,h,e=>by rw [bF]at h; rw [h]at e; cases e
 | d::ds,vs,i,v,h,e=>by
  rw [bF]at h
  obtain⟨u,r,rfl,h1,h2⟩:=h
  cases i with
  | zero=>cases e; exact⟨d,rfl,h1⟩
  | succ i=>obtain⟨d',e1,e2⟩:=bF.get (i:=i) h2 e; exact⟨d',e1,e2⟩
theorem bF.cons{d:D}{v:V}{ds:List D}{vs:List V}(h1:aY K H d v)(h2:bF K H ds vs):bF K H (d::ds) (v::vs):=by rw [bF]; exact⟨v,vs,rfl,h1,h2⟩
theorem bF.nil:bF K H [] []:=by rw [bF]
mutual
theorem aY.mono{H':Hp}(s:∀a xs,aH K H a xs->aH K H' a xs)(t:∀a xs,H a=some (.lst xs)->H' a=some (.lst xs)):∀{d:D} {v:V},aY K H d v->aY K H' d v
 | .int _,v,h=>by rw [aY]at h⊢; exact h
 | .str _,v,h=>by rw [aY]at h⊢; exact h
 | .non,v,h=>by rw [aY]at h⊢; exact h
 | .bl _,v,h=>by rw [aY]at h⊢; exact h
 | .tup ds,v,h=>by
  rw [aY]at h⊢
  obtain⟨a,vs,e,q,h⟩:=h
  exact⟨a,vs,e,s a vs q,bF.mono s t h⟩
 | .lst ds,v,h=>by
  rw [aY]at h⊢
  obtain⟨a,vs,e,q,h⟩:=h
  exact⟨a,vs,e,t a vs q,bF.mono s t h⟩
theorem bF.mono{H':Hp}(s:∀a xs,aH K H a xs->aH K H' a xs)(t:∀a xs,H a=some (.lst xs)->H' a=some (.lst xs)):∀{ds:List D} {vs:List V},bF K H ds vs->bF K H' ds vs
 | [],vs,h=>by rw [bF]at h⊢; exact h
 | d::ds,vs,h=>by
  rw [bF]at h⊢
  obtain⟨u,r,e,h1,h2⟩:=h
  exact⟨u,r,e,aY.mono s t h1,bF.mono s t h2⟩
end
end
theorem pR:∀{ds es:List D},ds.length≠es.length->il ds es=false
 | [],[],h=>absurd rfl h
 | [],_::_,_=>by rw [il]; all_goals simp
 | _::_,[],_=>by rw [il]; all_goals simp
 | d::ds,e::es,h=>by rw [il,pR (by simpa using h),Bool.and_false]
theorem p6:∀{ds es:List D},ds.length=es.length->(List.range ds.length).all (λj=>cN (ds.getD j .non) (es.getD j .non))=il ds es
 | [],[],_=>by rw [il]; rfl
 | d::ds,e::es,h=>by
  rw [il,List.length_cons,List.range_succ_eq_map,List.all_cons,List.all_map,←p6 (by simpa using h)]
  rfl
 | [],_::_,h=>by cases h
 | _::_,[],h=>by cases h
theorem DQ{ds es:List D}:((List.range (min ds.length es.length)).all (λj=>cN (ds.getD j .non) (es.getD j .non))&&ds.length==es.length)=il ds es:=by
 by_cases h:ds.length=es.length
 ·rw [←p6 h,h,Nat.min_self]; simp
 ·rw [pR h,beq_eq_false_iff_ne.mpr h,Bool.and_false]
theorem ka:∀{ds:List D} {i:Nat} {d:D},ds[i]? = some d->d.depth<=cw ds
 | [],i,d,e=>by cases e
 | d'::ds,0,d,e=>by cases e; rw [cw]; exact Nat.le_max_left _ _
 | d'::ds,i+1,d,e=>by rw [cw]; exact Uz (ka (i:=i) (by simpa using e)) (Nat.le_max_right _ _)
section
variable{X:Cx}{pins:List (Addr×Obj)}{σ:St}{H:Hp}{s:Shared}
theorem lG{ds:List D}{j:Nat}{d:D}(h:ds[j]? = some d):ds.getD j .non=d:=by rw [List.getD_eq_getElem?_getD,h]; rfl
def both(A:Around)(s:Shared)(u v:Value)(b:Bool):Prop:=SeqAt.EqAt A s u v b/\SeqAt.RcAt A s u v b/\SeqAt.RcNeAt A s u v (!b)
def seqs:D->D->Bool
 | .tup _,.tup _=>true
 | .lst _,.lst _=>true
 | _,_=>false
theorem oJ(I:Inv X pins σ H s){A:Around}(hu:A.units<cLine):∀{d e:D} {x y:V} {u v:Value},seqs d e=false->aY X.K H d x->aY X.K H e y->RelV x u->RelV y v->both A s u v (cN d e)
 | .int i,.int j,x,y,u,v,hs,h1,h2,r1,r2=>by
  rw [aY]at h1; subst h1; obtain⟨t,rfl⟩:=r1
  rw [aY]at h2; subst h2; obtain⟨w,rfl⟩:=r2
  rw [cN]
  exact⟨.int_int i t j w,.int_int i t j w,.int_int i t j w⟩
 | .int i,.str j,x,y,u,v,hs,h1,h2,r1,r2=>by
  rw [aY]at h1; subst h1; obtain⟨t,rfl⟩:=r1
  rw [aY]at h2; subst h2; obtain⟨w,rfl⟩:=r2
  rw [show cN (.int i) (.str j)=false by simp [cN]]
  exact⟨.int_str i t j w,.int_str i t j w,.int_str i t j w⟩
 | .int i,.non,x,y,u,v,hs,h1,h2,r1,r2=>by
  rw [aY]at h1; subst h1; obtain⟨t,rfl⟩:=r1
  rw [aY]at h2; subst h2; cases r2
  rw [show cN (.int i) (.non)=false by simp [cN]]
  exact⟨.int_none i t,.int_none i t,.int_none i t⟩
 | .int i,.bl j,x,y,u,v,hs,h1,h2,r1,r2=>by
  rw [aY]at h1; subst h1; obtain⟨t,rfl⟩:=r1
  rw [aY]at h2; subst h2; cases r2
  rw [cN]
  exact⟨.int_bool i t j,.int_bool i t j,.int_bool i t j⟩
 | .int i,.tup j,x,y,u,v,hs,h1,h2,r1,r2=>by
  rw [aY]at h1; subst h1; obtain⟨t,rfl⟩:=r1
  rw [aY]at h2; obtain⟨aw,Fb,rfl,q2,_⟩:=h2; cases r2; obtain⟨sj,FF,pw,_⟩:=I.tuple q2
  rw [show cN (.int i) (.tup j)=false by simp [cN]]
  exact⟨.int_tuple i t pw hu,.int_tuple i t pw hu,.int_tuple i t pw hu⟩
 | .int i,.lst j,x,y,u,v,hs,h1,h2,r1,r2=>by
  rw [aY]at h1; subst h1; obtain⟨t,rfl⟩:=r1
  rw [aY]at h2; obtain⟨aw,Fb,rfl,q2,_⟩:=h2; cases r2; obtain⟨sj,FF,Eu,_⟩:=I.list (aZ.of q2); have pw:=Eu.isList
  rw [show cN (.int i) (.lst j)=false by simp [cN]]
  exact⟨.int_list i t pw hu,.int_list i t pw hu,.int_list i t pw hu⟩
 | .str i,.int j,x,y,u,v,hs,h1,h2,r1,r2=>by
  rw [aY]at h1; subst h1; obtain⟨t,rfl⟩:=r1
  rw [aY]at h2; subst h2; obtain⟨w,rfl⟩:=r2
  rw [show cN (.str i) (.int j)=false by simp [cN]]
  exact⟨.str_int i t j w,.str_int i t j w,.str_int i t j w⟩
 | .str i,.str j,x,y,u,v,hs,h1,h2,r1,r2=>by
  rw [aY]at h1; subst h1; obtain⟨t,rfl⟩:=r1
  rw [aY]at h2; subst h2; obtain⟨w,rfl⟩:=r2
  rw [cN]
  exact⟨.str_str i t j w,.str_str i t j w,.str_str i t j w⟩
 | .str i,.non,x,y,u,v,hs,h1,h2,r1,r2=>by
  rw [aY]at h1; subst h1; obtain⟨t,rfl⟩:=r1
  rw [aY]at h2; subst h2; cases r2
  rw [show cN (.str i) (.non)=false by simp [cN]]
  exact⟨.str_none i t,.str_none i t,.str_none i t⟩
 | .str i,.bl j,x,y,u,v,hs,h1,h2,r1,r2=>by
  rw [aY]at h1; subst h1; obtain⟨t,rfl⟩:=r1
  rw [aY]at h2; subst h2; cases r2
  rw [show cN (.str i) (.bl j)=false by simp [cN]]
  exact⟨.str_bool i t j,.str_bool i t j,.str_bool i t j⟩
 | .str i,.tup j,x,y,u,v,hs,h1,h2,r1,r2=>by
  rw [aY]at h1; subst h1; obtain⟨t,rfl⟩:=r1
  rw [aY]at h2; obtain⟨aw,Fb,rfl,q2,_⟩:=h2; cases r2; obtain⟨sj,FF,pw,_⟩:=I.tuple q2
  rw [show cN (.str i) (.tup j)=false by simp [cN]]
  exact⟨.str_tuple i t pw hu,.str_tuple i t pw hu,.str_tuple i t pw hu⟩
 | .str i,.lst j,x,y,u,v,hs,h1,h2,r1,r2=>by
  rw [aY]at h1; subst h1; obtain⟨t,rfl⟩:=r1
  rw [aY]at h2; obtain⟨aw,Fb,rfl,q2,_⟩:=h2; cases r2; obtain⟨sj,FF,Eu,_⟩:=I.list (aZ.of q2); have pw:=Eu.isList
  rw [show cN (.str i) (.lst j)=false by simp [cN]]
  exact⟨.str_list i t pw hu,.str_list i t pw hu,.str_list i t pw hu⟩
 | .non,.int j,x,y,u,v,hs,h1,h2,r1,r2=>by
  rw [aY]at h1; subst h1; cases r1
  rw [aY]at h2; subst h2; obtain⟨w,rfl⟩:=r2
  rw [show cN (.non) (.int j)=false by simp [cN]]
  exact⟨.none_int j w,.none_int j w,.none_int j w⟩
 | .non,.str j,x,y,u,v,hs,h1,h2,r1,r2=>by
  rw [aY]at h1; subst h1; cases r1
  rw [aY]at h2; subst h2; obtain⟨w,rfl⟩:=r2
  rw [show cN (.non) (.str j)=false by simp [cN]]
  exact⟨.none_str j w,.none_str j w,.none_str j w⟩
 | .non,.non,x,y,u,v,hs,h1,h2,r1,r2=>by
  rw [aY]at h1; subst h1; cases r1
  rw [aY]at h2; subst h2; cases r2
  rw [cN]
  exact⟨.same _,.none_none,.none_none⟩
 | .non,.bl j,x,y,u,v,hs,h1,h2,r1,r2=>by
  rw [aY]at h1; subst h1; cases r1
  rw [aY]at h2; subst h2; cases r2
  rw [show cN (.non) (.bl j)=false by simp [cN]]
  exact⟨.none_bool j,.none_bool j,.none_bool j⟩
 | .non,.tup j,x,y,u,v,hs,h1,h2,r1,r2=>by
  rw [aY]at h1; subst h1; cases r1
  rw [aY]at h2; obtain⟨aw,Fb,rfl,q2,_⟩:=h2; cases r2; obtain⟨sj,FF,pw,_⟩:=I.tuple q2
  rw [show cN (.non) (.tup j)=false by simp [cN]]
  exact⟨.none_tuple pw hu,.none_tuple pw hu,.none_tuple pw hu⟩
 | .non,.lst j,x,y,u,v,hs,h1,h2,r1,r2=>by
  rw [aY]at h1; subst h1; cases r1
  rw [aY]at h2; obtain⟨aw,Fb,rfl,q2,_⟩:=h2; cases r2; obtain⟨sj,FF,Eu,_⟩:=I.list (aZ.of q2); have pw:=Eu.isList
  rw [show cN (.non) (.lst j)=false by simp [cN]]
  exact⟨.none_list pw hu,.none_list pw hu,.none_list pw hu⟩
 | .bl i,.int j,x,y,u,v,hs,h1,h2,r1,r2=>by
  rw [aY]at h1; subst h1; cases r1
  rw [aY]at h2; subst h2; obtain⟨w,rfl⟩:=r2
  rw [cN]
  exact⟨.bool_int i j w,.bool_int i j w,.bool_int i j w⟩
 | .bl i,.str j,x,y,u,v,hs,h1,h2,r1,r2=>by
  rw [aY]at h1; subst h1; cases r1
  rw [aY]at h2; subst h2; obtain⟨w,rfl⟩:=r2
  rw [show cN (.bl i) (.str j)=false by simp [cN]]
  exact⟨.bool_str i j w,.bool_str i j w,.bool_str i j w⟩
 | .bl i,.non,x,y,u,v,hs,h1,h2,r1,r2=>by
  rw [aY]at h1; subst h1; cases r1
  rw [aY]at h2; subst h2; cases r2
  rw [show cN (.bl i) (.non)=false by simp [cN]]
  exact⟨.bool_none i,.bool_none i,.bool_none i⟩
 | .bl i,.bl j,x,y,u,v,hs,h1,h2,r1,r2=>by
  rw [aY]at h1; subst h1; cases r1
  rw [aY]at h2; subst h2; cases r2
  rw [cN]
  exact⟨.bool_bool i j,.bool_bool i j,.bool_bool i j⟩
 | .bl i,.tup j,x,y,u,v,hs,h1,h2,r1,r2=>by
  rw [aY]at h1; subst h1; cases r1
  rw [aY]at h2; obtain⟨aw,Fb,rfl,q2,_⟩:=h2; cases r2; obtain⟨sj,FF,pw,_⟩:=I.tuple q2
  rw [show cN (.bl i) (.tup j)=false by simp [cN]]
  exact⟨.bool_tuple i pw hu,.bool_tuple i pw hu,.bool_tuple i pw hu⟩
 | .bl i,.lst j,x,y,u,v,hs,h1,h2,r1,r2=>by
  rw [aY]at h1; subst h1; cases r1
  rw [aY]at h2; obtain⟨aw,Fb,rfl,q2,_⟩:=h2; cases r2; obtain⟨sj,FF,Eu,_⟩:=I.list (aZ.of q2); have pw:=Eu.isList
  rw [show cN (.bl i) (.lst j)=false by simp [cN]]
  exact⟨.bool_list i pw hu,.bool_list i pw hu,.bool_list i pw hu⟩
 | .tup i,.int j,x,y,u,v,hs,h1,h2,r1,r2=>by
  rw [aY]at h1; obtain⟨EM,Ft,rfl,q1,_⟩:=h1; cases r1; obtain⟨s_,FY,pt,_⟩:=I.tuple q1
  rw [aY]at h2; subst h2; obtain⟨w,rfl⟩:=r2
  rw [show cN (.tup i) (.int j)=false by simp [cN]]
  exact⟨.tuple_int j w pt hu,.tuple_int j w pt hu,.tuple_int j w pt hu⟩
 | .tup i,.str j,x,y,u,v,hs,h1,h2,r1,r2=>by
  rw [aY]at h1; obtain⟨EM,Ft,rfl,q1,_⟩:=h1; cases r1; obtain⟨s_,FY,pt,_⟩:=I.tuple q1
  rw [aY]at h2; subst h2; obtain⟨w,rfl⟩:=r2
  rw [show cN (.tup i) (.str j)=false by simp [cN]]
  exact⟨.tuple_str j w pt hu,.tuple_str j w pt hu,.tuple_str j w pt hu⟩
 | .tup i,.non,x,y,u,v,hs,h1,h2,r1,r2=>by
  rw [aY]at h1; obtain⟨EM,Ft,rfl,q1,_⟩:=h1; cases r1; obtain⟨s_,FY,pt,_⟩:=I.tuple q1
  rw [aY]at h2; subst h2; cases r2
  rw [show cN (.tup i) (.non)=false by simp [cN]]
  exact⟨.tuple_none pt hu,.tuple_none pt hu,.tuple_none pt hu⟩
 | .tup i,.bl j,x,y,u,v,hs,h1,h2,r1,r2=>by
  rw [aY]at h1; obtain⟨EM,Ft,rfl,q1,_⟩:=h1; cases r1; obtain⟨s_,FY,pt,_⟩:=I.tuple q1
  rw [aY]at h2; subst h2; cases r2
  rw [show cN (.tup i) (.bl j)=false by simp [cN]]
  exact⟨.tuple_bool j pt hu,.tuple_bool j pt hu,.tuple_bool j pt hu⟩
 | .tup ds,.tup es,x,y,u,v,hs,h1,h2,r1,r2=>by cases hs
 | .tup i,.lst j,x,y,u,v,hs,h1,h2,r1,r2=>by
  rw [aY]at h1; obtain⟨EM,Ft,rfl,q1,_⟩:=h1; cases r1; obtain⟨s_,FY,pt,_⟩:=I.tuple q1
  rw [aY]at h2; obtain⟨aw,Fb,rfl,q2,_⟩:=h2; cases r2; obtain⟨sj,FF,Eu,_⟩:=I.list (aZ.of q2); have pw:=Eu.isList
  rw [show cN (.tup i) (.lst j)=false by simp [cN]]
  exact⟨.tuple_list pt pw hu,.tuple_list pt pw hu,.tuple_list pt pw hu⟩
 | .lst i,.int j,x,y,u,v,hs,h1,h2,r1,r2=>by
  rw [aY]at h1; obtain⟨EM,Ft,rfl,q1,_⟩:=h1; cases r1; obtain⟨s_,FY,GB,_⟩:=I.list (aZ.of q1); have pt:=GB.isList
  rw [aY]at h2; subst h2; obtain⟨w,rfl⟩:=r2
  rw [show cN (.lst i) (.int j)=false by simp [cN]]
  exact⟨.list_int j w pt hu,.list_int j w pt hu,.list_int j w pt hu⟩
 | .lst i,.str j,x,y,u,v,hs,h1,h2,r1,r2=>by
  rw [aY]at h1; obtain⟨EM,Ft,rfl,q1,_⟩:=h1; cases r1; obtain⟨s_,FY,GB,_⟩:=I.list (aZ.of q1); have pt:=GB.isList
  rw [aY]at h2; subst h2; obtain⟨w,rfl⟩:=r2
  rw [show cN (.lst i) (.str j)=false by simp [cN]]
  exact⟨.list_str j w pt hu,.list_str j w pt hu,.list_str j w pt hu⟩
 | .lst i,.non,x,y,u,v,hs,h1,h2,r1,r2=>by
  rw [aY]at h1; obtain⟨EM,Ft,rfl,q1,_⟩:=h1; cases r1; obtain⟨s_,FY,GB,_⟩:=I.list (aZ.of q1); have pt:=GB.isList
  rw [aY]at h2; subst h2; cases r2
  rw [show cN (.lst i) (.non)=false by simp [cN]]
  exact⟨.list_none pt hu,.list_none pt hu,.list_none pt hu⟩
 | .lst i,.bl j,x,y,u,v,hs,h1,h2,r1,r2=>by
  rw [aY]at h1; obtain⟨EM,Ft,rfl,q1,_⟩:=h1; cases r1; obtain⟨s_,FY,GB,_⟩:=I.list (aZ.of q1); have pt:=GB.isList
  rw [aY]at h2; subst h2; cases r2
  rw [show cN (.lst i) (.bl j)=false by simp [cN]]
  exact⟨.list_bool j pt hu,.list_bool j pt hu,.list_bool j pt hu⟩
 | .lst i,.tup j,x,y,u,v,hs,h1,h2,r1,r2=>by
  rw [aY]at h1; obtain⟨EM,Ft,rfl,q1,_⟩:=h1; cases r1; obtain⟨s_,FY,GB,_⟩:=I.list (aZ.of q1); have pt:=GB.isList
  rw [aY]at h2; obtain⟨aw,Fb,rfl,q2,_⟩:=h2; cases r2; obtain⟨sj,FF,pw,_⟩:=I.tuple q2
  rw [show cN (.lst i) (.tup j)=false by simp [cN]]
  exact⟨.list_tuple pt pw hu,.list_tuple pt pw hu,.list_tuple pt pw hu⟩
 | .lst ds,.lst es,x,y,u,v,hs,h1,h2,r1,r2=>by cases hs
theorem mx(I:Inv X pins σ H s){a:Addr}{xs ys:List V}(h:aZ X.K H a xs)(h':aH X.K H a ys):False:=by
 obtain⟨_,_,p,_⟩:=I.list h
 obtain⟨_,_,p',_⟩:=I.tuple h'
 exact SeqAt.ne_of_list_tuple p.isList p' rfl
mutual
theorem aY.inj(I:Inv X pins σ H s):∀{d e:D} {v:V},aY X.K H d v->aY X.K H e v->d=e
 | .int i,.int j,v,h1,h2=>by
  rw [aY]at h1; rw [aY]at h2
  subst h1
  injection h2 with h2
  rw [h2]
 | .int i,.str j,v,h1,h2=>by
  rw [aY]at h1; rw [aY]at h2
  subst h1
  cases h2
 | .int i,.non,v,h1,h2=>by
  rw [aY]at h1; rw [aY]at h2
  subst h1
  cases h2
 | .int i,.bl j,v,h1,h2=>by
  rw [aY]at h1; rw [aY]at h2
  subst h1
  cases h2
 | .int i,.tup j,v,h1,h2=>by
  rw [aY]at h1; rw [aY]at h2
  obtain⟨a,vs,rfl,q,g⟩:=h2
  cases h1
 | .int i,.lst j,v,h1,h2=>by
  rw [aY]at h1; rw [aY]at h2
  obtain⟨a,vs,rfl,q,g⟩:=h2
  cases h1
 | .str i,.int j,v,h1,h2=>by
  rw [aY]at h1; rw [aY]at h2
  subst h1
  cases h2
 | .str i,.str j,v,h1,h2=>by
  rw [aY]at h1; rw [aY]at h2
  subst h1
  injection h2 with h2
  rw [h2]
 | .str i,.non,v,h1,h2=>by
  rw [aY]at h1; rw [aY]at h2
  subst h1
  cases h2
 | .str i,.bl j,v,h1,h2=>by
  rw [aY]at h1; rw [aY]at h2
  subst h1
  cases h2
 | .str i,.tup j,v,h1,h2=>by
  rw [aY]at h1; rw [aY]at h2
  obtain⟨a,vs,rfl,q,g⟩:=h2
  cases h1
 | .str i,.lst j,v,h1,h2=>by
  rw [aY]at h1; rw [aY]at h2
  obtain⟨a,vs,rfl,q,g⟩:=h2
  cases h1
 | .non,.int j,v,h1,h2=>by
  rw [aY]at h1; rw [aY]at h2
  subst h1
  cases h2
 | .non,.str j,v,h1,h2=>by
  rw [aY]at h1; rw [aY]at h2
  subst h1
  cases h2
 | .non,.non,v,h1,h2=>rfl
 | .non,.bl j,v,h1,h2=>by
  rw [aY]at h1; rw [aY]at h2
  subst h1
  cases h2
 | .non,.tup j,v,h1,h2=>by
  rw [aY]at h1; rw [aY]at h2
  obtain⟨a,vs,rfl,q,g⟩:=h2
  cases h1
 | .non,.lst j,v,h1,h2=>by
  rw [aY]at h1; rw [aY]at h2
  obtain⟨a,vs,rfl,q,g⟩:=h2
  cases h1
 | .bl i,.int j,v,h1,h2=>by
  rw [aY]at h1; rw [aY]at h2
  subst h1
  cases h2
 | .bl i,.str j,v,h1,h2=>by
  rw [aY]at h1; rw [aY]at h2
  subst h1
  cases h2
 | .bl i,.non,v,h1,h2=>by
  rw [aY]at h1; rw [aY]at h2
  subst h1
  cases h2
 | .bl i,.bl j,v,h1,h2=>by
  rw [aY]at h1; rw [aY]at h2
  subst h1
  injection h2 with h2
  rw [h2]
 | .bl i,.tup j,v,h1,h2=>by
  rw [aY]at h1; rw [aY]at h2
  obtain⟨a,vs,rfl,q,g⟩:=h2
  cases h1
 | .bl i,.lst j,v,h1,h2=>by
  rw [aY]at h1; rw [aY]at h2
  obtain⟨a,vs,rfl,q,g⟩:=h2
  cases h1
 | .tup i,.int j,v,h1,h2=>by
  rw [aY]at h1; rw [aY]at h2
  obtain⟨a,vs,rfl,q,g⟩:=h1
  cases h2
 | .tup i,.str j,v,h1,h2=>by
  rw [aY]at h1; rw [aY]at h2
  obtain⟨a,vs,rfl,q,g⟩:=h1
  cases h2
 | .tup i,.non,v,h1,h2=>by
  rw [aY]at h1; rw [aY]at h2
  obtain⟨a,vs,rfl,q,g⟩:=h1
  cases h2
 | .tup i,.bl j,v,h1,h2=>by
  rw [aY]at h1; rw [aY]at h2
  obtain⟨a,vs,rfl,q,g⟩:=h1
  cases h2
 | .tup i,.tup j,v,h1,h2=>by
  rw [aY]at h1; rw [aY]at h2
  obtain⟨a,vs,rfl,q,g⟩:=h1
  obtain⟨b,ws,e,q',g'⟩:=h2
  cases e
  rw [I.ib q' q]at g'
  rw [bF.inj I g g']
 | .tup i,.lst j,v,h1,h2=>by
  rw [aY]at h1; rw [aY]at h2
  obtain⟨a,vs,rfl,q,g⟩:=h1
  obtain⟨b,ws,e,q',g'⟩:=h2
  cases e
  exact(mx I (aZ.of q') q).elim
 | .lst i,.int j,v,h1,h2=>by
  rw [aY]at h1; rw [aY]at h2
  obtain⟨a,vs,rfl,q,g⟩:=h1
  cases h2
 | .lst i,.str j,v,h1,h2=>by
  rw [aY]at h1; rw [aY]at h2
  obtain⟨a,vs,rfl,q,g⟩:=h1
  cases h2
 | .lst i,.non,v,h1,h2=>by
  rw [aY]at h1; rw [aY]at h2
  obtain⟨a,vs,rfl,q,g⟩:=h1
  cases h2
 | .lst i,.bl j,v,h1,h2=>by
  rw [aY]at h1; rw [aY]at h2
  obtain⟨a,vs,rfl,q,g⟩:=h1
  cases h2
 | .lst i,.tup j,v,h1,h2=>by
  rw [aY]at h1; rw [aY]at h2
  obtain⟨a,vs,rfl,q,g⟩:=h1
  obtain⟨b,ws,e,q',g'⟩:=h2
  cases e
  exact(mx I (aZ.of q) q').elim
 | .lst i,.lst j,v,h1,h2=>by
  rw [aY]at h1; rw [aY]at h2
  obtain⟨a,vs,rfl,q,g⟩:=h1
  obtain⟨b,ws,e,q',g'⟩:=h2
  cases e
  rw [q]at q'
  cases q'
  rw [bF.inj I g g']
theorem bF.inj(I:Inv X pins σ H s):∀{ds es:List D} {vs:List V},bF X.K H ds vs->bF X.K H es vs->ds=es
 | [],[],vs,h1,h2=>rfl
 | [],e::es,vs,h1,h2=>by
  rw [bF]at h1; rw [bF]at h2
  obtain⟨v,r,rfl,_⟩:=h2
  cases h1
 | d::ds,[],vs,h1,h2=>by
  rw [bF]at h1; rw [bF]at h2
  obtain⟨v,r,rfl,_⟩:=h1
  cases h2
 | d::ds,e::es,vs,h1,h2=>by
  rw [bF]at h1; rw [bF]at h2
  obtain⟨v,r,rfl,a1,a2⟩:=h1
  obtain⟨v',r',z,b1,b2⟩:=h2
  injection z with z1 z2
  rw [←z1]at b1
  rw [←z2]at b2
  rw [aY.inj I a1 b1,bF.inj I a2 b2]
end
theorem wH(I:Inv X pins σ H s):∀(n:Nat) {A:Around} {d e:D} {x y:V} {u v:Value},d.depth<=n->A.units+n<cLine->aY X.K H d x->aY X.K H e y->RelV x u->RelV y v->both A s u v (cN d e):=by
 intro n
 induction n with
 | zero =>
  intro A d e x y u v hd hu h1 h2 r1 r2
  refine oJ I (by omega) ?_ h1 h2 r1 r2
  cases d <;> cases e <;> first | rfl | (rw [D.depth]at hd; omega)
 | succ n ih =>
  intro A d e x y u v hd hu h1 h2 r1 r2
  cases hs:seqs d e with
  | false=>exact oJ I (by omega) hs h1 h2 r1 r2
  | true =>
   have items:∀{ds es:List D} {vs ws:List V} {its its':List Value},1+cw ds<=n+1->bF X.K H ds vs->bF X.K H es ws->Vals vs its->Vals ws its'->∀j (h1:j<its.toArray.size) (h2:j<its'.toArray.size),SeqAt.EqAt A.in1 s its.toArray[j] its'.toArray[j] (cN (ds.getD j .non) (es.getD j .non)):=by
    intro ds es vs ws its its' hdd g g' rv wK j j1 j2
    obtain⟨x,e1,rx⟩:=ni rv j1
    obtain⟨y,e2,ry⟩:=ni wK j2
    obtain⟨d,ed,gd⟩:=g.get e1
    obtain⟨e,ee,ge⟩:=g'.get e2
    rw [lG ed,lG ee]
    have:=ka ed
    exact(ih (by omega) (by show A.units+1+n<cLine; omega) gd ge rx ry).1
   cases d <;> cases e <;> first | cases hs | skip
   ·rename_i ds es
    rw [D.depth]at hd
    have g1:=h1
    have g2:=h2
    rw [aY]at h1; rw [aY]at h2
    obtain⟨a,vs,rfl,q,g⟩:=h1
    obtain⟨b,ws,rfl,q',g'⟩:=h2
    cases r1; cases r2
    obtain⟨its,rv,p,_⟩:=I.tuple q
    obtain⟨its',wK,p',_⟩:=I.tuple q'
    have l1:its.toArray.size=ds.length:=by simp [←rv.length,g.length]
    have l2:its'.toArray.size=es.length:=by simp [←wK.length,g'.length]
    have z1:=SeqAt.RcAt.tuples p p' (by omega) (items hd g g' rv wK)
    have z2:=SeqAt.RcNeAt.tuples p p' (by omega) (items hd g g' rv wK)
    rw [l1,l2,DQ]at z1 z2
    rw [cN]
    refine⟨?_,z1,z2⟩
    by_cases hab:a=b
    ·subst hab
     have e:=aY.inj I g1 g2
     injection e with e
     rw [e,h_]
     exact .same _
    ·exact .of_refs hab z1
   ·rename_i ds es
    rw [D.depth]at hd
    have g1:=h1
    have g2:=h2
    rw [aY]at h1; rw [aY]at h2
    obtain⟨a,vs,rfl,q,g⟩:=h1
    obtain⟨b,ws,rfl,q',g'⟩:=h2
    cases r1; cases r2
    obtain⟨its,rv,p,_⟩:=I.list (aZ.of q)
    obtain⟨its',wK,p',_⟩:=I.list (aZ.of q')
    have l1:its.toArray.size=ds.length:=by simp [←rv.length,g.length]
    have l2:its'.toArray.size=es.length:=by simp [←wK.length,g'.length]
    have zz:SeqAt.RcAt A s (.ref a) (.ref b) (il ds es)/\SeqAt.RcNeAt A s (.ref a) (.ref b) (!il ds es):=by
     by_cases hl:ds.length=es.length
     ·have z1:=SeqAt.RcAt.lists p.isList p'.isList (by rw [l1,l2,hl]) (by omega) (items hd g g' rv wK)
      have z2:=SeqAt.RcNeAt.lists p.isList p'.isList (by rw [l1,l2,hl]) (by omega) (items hd g g' rv wK)
      rw [l1,p6 hl]at z1 z2
      exact⟨z1,z2⟩
     ·rw [pR hl]
      exact⟨SeqAt.RcAt.lists_lengths p.isList p'.isList (by rw [l1,l2]; simpa using hl) (by omega),SeqAt.RcNeAt.lists_lengths p.isList p'.isList (by rw [l1,l2]; simpa using hl) (by omega)⟩
    rw [cN]
    refine⟨?_,zz.1,zz.2⟩
    by_cases hab:a=b
    ·subst hab
     have e:=aY.inj I g1 g2
     injection e with e
     rw [e,h_]
     exact .same _
    ·exact .of_refs hab zz.1
def O3(K:PySem.W.Frag)(A:Around):R2:=λx y H Q=>∃d e,aY K H d x/\aY K H e y/\A.units+d.depth<cLine/\Q (.bl (cN d e)) H
def OO(K:PySem.W.Frag)(A:Around):R2:=λx y H Q=>∃d e,aY K H d x/\aY K H e y/\A.units+d.depth<cLine/\Q (.bl (!cN d e)) H
theorem Kj:i8 X (compareOp .Eq) (O3 X.K X.A):=by
 intro pins s σ H x y v u Q I rx ry h
 obtain⟨d,e,h1,h2,hu,q⟩:=h
 exact(wH I d.depth (Uy _) hu h1 h2 rx ry).2.1 _ _ _ _ ⟨.bl _,H,I,rfl,q⟩
theorem je:i8 X (compareOp .NotEq) (OO X.K X.A):=by
 intro pins s σ H x y v u Q I rx ry h
 obtain⟨d,e,h1,h2,hu,q⟩:=h
 exact(wH I d.depth (Uy _) hu h1 h2 rx ry).2.2 _ _ _ _ ⟨.bl _,H,I,rfl,q⟩
def FX(d:D)(es:List D):Bool:=es.any λe=>cN e d
def Oe(K:PySem.W.Frag)(A:Around)(neg:Bool):R2:=λx y H Q=>∃d es p xs,y=.ref p/\(aZ K H p xs\/aH K H p xs)/\aY K H d x/\bF K H es xs/\A.units+1+cw es<cLine/\Q (.bl (if neg then !FX d es else FX d es)) H
theorem xj{α:Type}{f:α->Bool}:∀{l:List α},l.any f=(List.range l.length).any λj=>(l[j]?.map f).getD false
 | []=>rfl
 | a::l=>by
  rw [List.any_cons,List.length_cons,List.range_succ_eq_map,List.any_cons,List.any_map,@xj _ f l]
  rfl
open Classical in
noncomputable def zG (its:List Value) (es:List D) (d:D) (y:Value):Bool:=decide (∃j,its[j]? = some y/\cN (es.getD j .non) d=true)
theorem CP(I:Inv X pins σ H s){its:List Value}{es:List D}{xs:List V}{d:D}(g:bF X.K H es xs)(r:Vals xs its){j:Nat}{y:Value}(h:its[j]? = some y):zG its es d y=cN (es.getD j .non) d:=by
 have at':∀{j:Nat},its[j]? = some y->∃e v,es.getD j .non=e/\RelV v y/\aY X.K H e v:=λ{j} h=>by
  have hj:j<its.toArray.size:=by
   have:=(List.getElem?_eq_some_iff.mp h).1
   simpa using this
  obtain⟨v,e1,rv⟩:=ni r hj
  obtain⟨e,ee,ge⟩:=g.get e1
  have:its.toArray[j]=y:=by
   have:=(List.getElem?_eq_some_iff.mp h).2
   simpa using this
  rw [this]at rv
  exact⟨e,v,lG ee,rv,ge⟩
 obtain⟨e,v,q1,q2,q3⟩:=at' h
 unfold zG
 cases q:cN (es.getD j .non) d with
 | true=>exact @UB _ (Classical.propDecidable _) ⟨j,h,q⟩
 | false =>
  refine @UA _ (Classical.propDecidable _) ?_
  rintro⟨j',h',z⟩
  obtain⟨e',v',p1,p2,p3⟩:=at' h'
  have:=RelV.inj p2 q2
  subst this
  have:=aY.inj I p3 q3
  rw [p1,this,←q1,q]at z
  cases z
theorem yN(I:Inv X pins σ H s){its:List Value}{es:List D}{xs:List V}{d:D}(g:bF X.K H es xs)(r:Vals xs its):its.any (zG its es d)=FX d es:=by
 have hl:its.length=es.length:=by rw [←r.length,g.length]
 unfold FX
 rw [@xj _ (zG its es d),@xj _ (λe=>cN e d),hl]
 have key:∀j∈List.range es.length,((its[j]?.map (zG its es d)).getD false)=((es[j]?.map λe=>cN e d).getD false):=λj hj=>by
  have hj':=List.mem_range.mp hj
  have e1:its[j]? = some its[j]:=UI (by omega)
  have e2:es[j]? = some es[j]:=UI hj'
  rw [e1,e2]
  show zG its es d its[j]=cN es[j] d
  rw [CP I g r e1,lG e2]
 generalize List.range es.length=l at key
 induction l with
 | nil=>rfl
 | cons a l ih=>rw [List.any_cons,List.any_cons,key a (List.mem_cons_self ..),ih λj hj=>key j (UL _ hj)]
theorem vY(I:Inv X pins σ H s){A:Around}{its:List Value}{es:List D}{xs:List V}{d:D}{x:V}{u:Value}(g:bF X.K H es xs)(r:Vals xs its)(h:aY X.K H d x)(rx:RelV x u)(hu:A.units+1+cw es<cLine):∀y∈its.toArray,SeqAt.EqAt A.in1 s y u (zG its es d y):=λy hy=>by
 have hy':y∈its:=by simpa using hy
 obtain⟨j,hj,e⟩:=List.getElem_of_mem hy'
 have e1:its[j]? = some y:=by rw [UI hj,e]
 rw [CP I g r e1]
 obtain⟨v,e2,rv⟩:=ni r (j:=j) (by simpa using hj)
 obtain⟨e',e3,ge⟩:=g.get e2
 have:its.toArray[j]'(by simpa using hj)=y:=by simpa using e
 rw [this]at rv
 rw [lG e3]
 have:=ka e3
 exact(wH I e'.depth (Uy _) (by show A.units+1+e'.depth<cLine; omega) ge h rv rx).1
theorem q5:i8 X (compareOp .NotIn) (Oe X.K X.A true):=by
 intro pins s σ H x y v u Q I rx ry h
 obtain⟨d,es,p,xs,rfl,hq,h1,g,hu,q⟩:=h
 cases ry
 rcases hq with hq | hq
 ·obtain⟨its,r,pl,hz⟩:=I.list hq
  refine SeqAt.notIn_listAt (zG its es d) pl.isList (vY I g r h1 rx hu) ⟨.bl _,H,I,rfl,?_⟩
  rw [show its.toArray.any (zG its es d)=its.any (zG its es d) by simp,yN I g r]
  exact q
 ·obtain⟨its,r,pl,hz⟩:=I.tuple hq
  refine SeqAt.notIn_tupleAt (zG its es d) pl (vY I g r h1 rx hu) ⟨.bl _,H,I,rfl,?_⟩
  rw [show its.toArray.any (zG its es d)=its.any (zG its es d) by simp,yN I g r]
  exact q
end
section
variable{K:PySem.W.Frag}{H H':Hp}{a:Addr}
theorem aM.PK{xs:List V}(e:aM H H')(h:aH K H a xs):aH K H' a xs:=by
 rcases h with h | h
 ·rcases h with h | ⟨o,h⟩
  ·exact .inl (.inl (e _ _ h))
  ·exact .inl (.inr ⟨o,e _ _ h⟩)
 ·exact .inr h
theorem aY.same(s:aM H H'){d:D}{v:V}(h:aY K H d v):aY K H' d v:=h.mono (λ_ _ q=>s.PK q) (λ_ _ q=>s _ _ q)
theorem Gf:aY K H .non .non:=by rw [aY]
theorem y0(x:Int):aY K H (.int x) (.int x):=by rw [aY]
theorem gB(x:Str):aY K H (.str x) (.str x):=by rw [aY]
theorem Kd(x:Bool):aY K H (.bl x) (.bl x):=by rw [aY]
theorem iO{vs:List V}{ds:List D}(h:H a=some (.tup vs))(g:bF K H ds vs):aY K H (.tup ds) (.ref a):=by rw [aY]; exact⟨a,vs,rfl,aH.of h,g⟩
theorem lr{vs:List V}{ds:List D}(h:H a=some (.lst vs))(g:bF K H ds vs):aY K H (.lst ds) (.ref a):=by rw [aY]; exact⟨a,vs,rfl,h,g⟩
end
section
variable{X:Cx}
end
section
variable{X:Cx}
end
section
variable{X:Cx}
end
section
variable{X:Cx}{a b:Expr}{rest:List Expr}{ta tb:TE}{pos:Pos}
end
def Ea(xs:Array Nat):Prop:=xs.toList.Pairwise (· < ·)
theorem Ea.lt{xs:Array Nat}(h:Ea xs){i j a b:Nat}(hij:i<j)(ha:xs[i]? = some a)(hb:xs[j]? = some b):a<b:=by
 rw [←Array.getElem?_toList]at ha hb
 obtain⟨h1,e1⟩:=List.getElem?_eq_some_iff.mp ha
 obtain⟨h2,e2⟩:=List.getElem?_eq_some_iff.mp hb
 rw [←e1,←e2]
 exact List.pairwise_iff_getElem.mp h i j h1 h2 hij
theorem pD{xs:Array Nat}(h:Ea xs)(j:Nat):∀(fuel lo hi:Nat),hi<=xs.size->lo<=hi->hi-lo<=fuel->(∀i a,i<lo->xs[i]? = some a->a<j)->(∀i a,hi<=i->xs[i]? = some a->j<=a)->
  SetTable.below.go xs j fuel lo hi<=xs.size/\(∀i a,i<SetTable.below.go xs j fuel lo hi->xs[i]? = some a->a<j)/\∀i a,SetTable.below.go xs j fuel lo hi<=i->xs[i]? = some a->j<=a
 | 0,lo,hi,h1,h2,h3,h4,h5=>by
  have e:lo=hi:=by omega
  subst e
  exact⟨h1,h4,h5⟩
 | fuel+1,lo,hi,h1,h2,h3,h4,h5=>by
  unfold SetTable.below.go
  by_cases hlt:lo<hi
  ·rw [if_pos hlt]
   have hm:(lo+hi) / 2<xs.size:=by omega
   have eg:xs[(lo+hi) / 2]? = some xs[(lo+hi) / 2]:=Array.getElem?_eq_getElem hm
   have ed:xs.getD ((lo+hi) / 2) j=xs[(lo+hi) / 2]:=by simp [Array.getD,hm]
   dsimp only
   rw [ed]
   by_cases hc:xs[(lo+hi) / 2]<j
   ·rw [if_pos hc]
    refine pD h j fuel _ hi h1 (by omega) (by omega) (λi a hi' e=>?_) h5
    by_cases q:i=(lo+hi) / 2
    ·subst q
     rw [eg]at e
     cases e
     exact hc
    ·exact Nat.lt_trans (h.lt (by omega) e eg) hc
   ·rw [if_neg hc]
    refine pD h j fuel lo _ (by omega) (by omega) (by omega) h4 λi a hi' e=>?_
    by_cases q:i=(lo+hi) / 2
    ·subst q
     rw [eg]at e
     cases e
     omega
    ·have:=h.lt (show(lo+hi) / 2<i by omega) eg e
     omega
  ·rw [if_neg hlt]
   have e:lo=hi:=by omega
   subst e
   exact⟨h1,h4,h5⟩
theorem kJ{xs:Array Nat}(h:Ea xs)(j:Nat):SetTable.below xs j<=xs.size/\(∀i a,i<SetTable.below xs j->xs[i]? = some a->a<j)/\∀i a,SetTable.below xs j<=i->xs[i]? = some a->j<=a :=
 pD h j xs.size 0 xs.size (Uy _) (Nat.zero_le _) (by omega) (λi a hi=>absurd hi (by omega)) λi a hi e=>by
  rw [Array.getElem?_eq_none hi]at e
  cases e
theorem yb{xs:Array Nat}(h:Ea xs){j:Nat}(hn:xs[SetTable.below xs j]?≠some j):Ea (SetTable.insertAt xs (SetTable.below xs j) j):=by
 obtain⟨h1,h2,h3⟩:=kJ h j
 unfold Ea
 rw [SetTable.toList_insertAt]
 have hl:∀a∈xs.toList.take (SetTable.below xs j),a<j:=λa ha=>by
  obtain⟨i,hi⟩:=List.mem_iff_getElem?.mp ha
  rw [List.getElem?_take]at hi
  split at hi
  ·rename_i hlt
   exact h2 i a hlt (by rw [←Array.getElem?_toList]; exact hi)
  ·cases hi
 have hr:∀a∈xs.toList.drop (SetTable.below xs j),j<a:=λa ha=>by
  obtain⟨i,hi⟩:=List.mem_iff_getElem?.mp ha
  rw [List.getElem?_drop,Array.getElem?_toList]at hi
  have q:=h3 _ a (Nat.le_add_right _ i) hi
  rcases Nat.lt_or_eq_of_le q with q | q
  ·exact q
  ·exfalso
   subst q
   cases i with
   | zero=>exact hn hi
   | succ i =>
    have hb:SetTable.below xs j<xs.size:=by
     have:=(Array.getElem?_eq_some_iff.mp hi).1
     omega
    have e0:xs[SetTable.below xs j]? = some xs[SetTable.below xs j]:=Array.getElem?_eq_getElem hb
    have l1:=h3 _ _ (Uy _) e0
    have l2:=h.lt (show SetTable.below xs j<SetTable.below xs j+(i+1) by omega) e0 hi
    omega
 have hp:(xs.toList.take (SetTable.below xs j)++xs.toList.drop (SetTable.below xs j)).Pairwise (· < ·):=by rw [List.take_append_drop]; exact h
 rw [List.pairwise_append]at hp
 first
 | (rw [List.pairwise_append]
    refine⟨hp.1,?_,λa ha b hb=>?_⟩
    ·exact List.pairwise_cons.mpr ⟨hr,hp.2.1⟩
    ·rcases List.mem_cons.mp hb with e | hb
     ·subst e; exact hl a ha
     ·exact hp.2.2 a ha b hb)
 | skip
structure TabOk(t:SetTable)(b:Bool):Prop where
 N8:Ea t.place
 NN:t.dummies = #[]
 led:t.led=b
theorem yO(j:Nat):SetTable.has #[] j=false:=by simp [SetTable.has]
theorem mj{t:SetTable}(hd:t.dummies = #[]){f:Nat->Int}{h:Int}(hf:∀i,(f i==h)=false):∀(fuel:Nat) (p:SetTable.Probe) (j:Nat) (d:Option Nat),p.dummy=none->SetTable.probe.go t f h fuel p=some (.empty j d)->
  d=none/\t.slot j=.empty
 | 0,p,j,d,_,e=>by
  unfold SetTable.probe.go at e
  cases e
 | fuel+1,p,j,d,hp,e=>by
  have RP:∀p:SetTable.Probe,p.dummy=none->(t.advance p).dummy=none:=λp hp=>by
   unfold SetTable.advance
   split
   ·exact hp
   ·exact hp
  unfold SetTable.probe.go at e
  split at e
  ·rename_i hs
   cases e
   exact⟨hp,hs⟩
  ·rename_i hs
   unfold SetTable.slot at hs
   dsimp only at hs
   rw [hd,yO]at hs
   split at hs <;> cases hs
  ·rename_i i hs
   rw [hf i]at e
   exact mj hd hf fuel _ j d (RP p hp) e
theorem xp{t:SetTable}{j:Nat}(h:t.slot j=.empty):t.place[SetTable.below t.place j]?≠some j:=λe=>by
 unfold SetTable.slot at h
 dsimp only at h
 rw [e]at h
 rw [if_pos (by simp)]at h
 cases h
theorem zD(n:Nat):Ea (Array.range n):=by
 unfold Ea
 rw [Array.toList_range]
 exact List.pairwise_lt_range
theorem iP{t:SetTable}{b:Bool}(h:TabOk t b)(n:Nat):TabOk (t.standIn n) b:=⟨zD n,rfl,h.led⟩
theorem zR{t:SetTable}{b:Bool}(ok:TabOk t b)(es:Array (Int×Value))(h:Int)(x:Value):TabOk (layNew t es h x).2.1 b:=by
 unfold layNew
 split
 ·rename_i slot wd e
  have hs:t.slot slot=.empty:=by
   unfold SetTable.freeSlot at e
   split at e
   ·rename_i j d e2
    unfold SetTable.probe at e2
    obtain⟨q1,q2⟩:=mj ok.NN (λ_=>by simp; omega) _ _ _ _ rfl e2
    subst q1
    cases e
    exact q2
   ·cases e
  have o2:TabOk (t.put slot).1 b:=by
   unfold SetTable.put
   refine⟨yb ok.N8 (xp hs),?_,ok.led⟩
   show(if SetTable.has t.dummies slot=true then _ else t.dummies) = #[]
   rw [ok.NN,yO]
   rfl
  dsimp only
  unfold SetTable.orStandIn
  split
  ·exact o2
  ·exact iP o2 _
 ·exact iP ok _
theorem qr{α:Type}(f:Nat->Option α)(n:Nat):(((List.range n).filterMap λj=>(f j).map (j,·)).map (·.1)).Pairwise (· < ·):=by
 have e:(((List.range n).filterMap λj=>(f j).map (j,·)).map (·.1))=(List.range n).filter λj=>(f j).isSome:=by
  rw [List.map_filterMap,←List.filterMap_eq_filter]
  congr 1
  funext j
  cases hf:f j <;> simp [Option.guard,hf]
 rw [e]
 exact List.Pairwise.filter _ List.pairwise_lt_range
theorem uR{t:SetTable}{b:Bool}(ok:TabOk t b)(es:Array (Int×Value))(n:Nat):TabOk (relayAll t es n).2.1 b:=by
 unfold relayAll
 split
 ·rename_i t' order e
  have o2:TabOk t' b:=by
   unfold SetTable.relaid SetTable.laid at e
   simp only [bind,Option.bind_eq_some_iff]at e
   obtain⟨owner,_,e⟩:=e
   cases e
   exact⟨qr _ _,rfl,ok.led⟩
  dsimp only
  split
  ·exact o2
  ·exact iP ok _
 ·exact iP ok _
section
variable{prog:Program}{w:World}{A:Around}{E:Value->Shared->Prop}{s:Shared}
def ck(w:World):Bool:=w.params.followText "set-order"
def A6:Value->Key
 | .int i _=>.inl i
 | .str x _=>.inr x
 | _=>.inl 0
theorem wQ{k:Key}{v:Value}(h:f9 k v=true):A6 v=k:=by
 rcases bC h with⟨i,t,rfl,rfl⟩ | ⟨x,t,rfl,rfl⟩ <;> rfl
structure ft(prog:Program)(w:World)(h:Heap)(a:Addr)(ks:List Key)(es:Array (Int×Value))(ep:Nat)(t:SetTable):Prop where
 obj:h.get? a=some {cls:=.type "set",dict:=none,data:=.set es ep t,slots:=#[]}
 els:ElemsOf (bD prog w) es.toList
 few:es.size<scanBound
 fits:t.fits es.size=true
 tab:TabOk t (!ck w)
 M6:ks.Nodup
 keys:(es.toList.map λe=>A6 e.2).Perm ks
theorem ft.keep{h h':Heap}{a:Addr}{ks:List Key}{es:Array (Int×Value)}{ep:Nat}{t:SetTable}(r:ft prog w h a ks es ep t)(k:∀o,h.get? a=some o->h'.get? a=some o):ft prog w h' a ks es ep t :=
 ⟨k _ r.obj,r.els,r.few,r.fits,r.tab,r.M6,r.keys⟩
theorem ft.mem{h:Heap}{a:Addr}{ks:List Key}{es:Array (Int×Value)}{ep:Nat}{t:SetTable}(r:ft prog w h a ks es ep t){k:Key}:(∃e∈es.toList,(bD prog w).is k e.2=true)↔k∈ks:=by
 constructor
 ·rintro⟨e,he,hk⟩
  refine r.keys.mem_iff.mp (List.mem_map.mpr ⟨e,he,wQ hk⟩)
 ·intro hk
  obtain⟨e,he,q⟩:=List.mem_map.mp (r.keys.mem_iff.mpr hk)
  obtain⟨⟨k',hk',_⟩,_⟩:=r.els e he
  refine⟨e,he,?_⟩
  have:A6 e.2=k':=wQ hk'
  rw [←q,this]
  exact hk'
open Classical in
noncomputable def la (ks:List Key) (k:Key):List Key:=if k∈ks then ks else ks++[k]
theorem yt{h:Heap}{a:Addr}{es:Array (Int×Value)}{ep:Nat}{t:SetTable}(ho:h.get? a=some {cls:=.type "set",dict:=none,data:=.set es ep t,slots:=#[]})(es':Array (Int×Value))(t':SetTable) :
  (h.update a (Obj.putSet es' t')).get? a=some {cls:=.type "set",dict:=none,data:=.set es' (ep+1) t',slots:=#[]}:=by
 have:=Heap.get?_update_self (Obj.putSet es' t') ho (by rw [putSet_of es' t' rfl]; rfl)
 rw [putSet_of es' t' rfl]at this
 exact this
theorem uq{g:Bool->Sem Unit}(hg:∀(b:Bool) (s₁:Shared) (Q':Unit->Shared->Prop),Q' () s₁->wpAny (model prog w) A (g b) Q' E s₁)
  {a:Addr} {es:Array (Int×Value)} {ep:Nat} {t:SetTable} (ho:s.heap.get? a=some {cls:=.type "set",dict:=none,data:=.set es ep t,slots:=#[]})
  {es1:Array (Int×Value)} {t2:SetTable} {ks:List Key} (he:ElemsOf (bD prog w) es1.toList) (hb:es1.size<scanBound) (hf:t2.fits es1.size=true) (ht:TabOk t2 (!ck w)) (hn:ks.Nodup) (hk:(es1.toList.map λe=>A6 e.2).Perm ks)
  {wasDummy:Bool} {R:Option Bool->Shared->Prop}
  (h:∀h' es' ep' t',Heap.SameBut a s.heap h'->ft prog w h' a ks es' ep' t'->R (some true) {s with heap:=h'}) :
  wpAny (model prog w) A (do
    storeSet a es1 t2
    if(!wasDummy&&t2.tooFull)=true then do
      g (relayAll t2 es1 (SetTable.grown es1.size)).2.2
      storeSet a (relayAll t2 es1 (SetTable.grown es1.size)).1 (relayAll t2 es1 (SetTable.grown es1.size)).2.1
      pure (some true)
     else pure (some true)) R E s:=by
 refine Ut (wpAny_storeSet_of ho rfl ?_ (fits_of_scanBound hb))
 have ho1:=yt ho es1 t2
 have Ql:=Heap.SameBut.update s.heap a (Obj.putSet es1 t2)
 split
 ·have hp:=relayAll_perm t2 es1 (SetTable.grown es1.size)
  have hfr:=relayAll_fits t2 es1 (SetTable.grown es1.size)
  have hto:=uR ht es1 (SetTable.grown es1.size)
  generalize hRl:relayAll t2 es1 (SetTable.grown es1.size)=Rl at hp hfr hto⊢
  obtain⟨es2,t3,gave2⟩:=Rl
  dsimp only at hp hfr hto⊢
  have hsz:es2.size=es1.size:=by rw [←Array.length_toList,hp.length_eq,Array.length_toList]
  have hb2:es2.size<scanBound:=by rw [hsz]; exact hb
  refine Ut (hg _ _ _ ?_)
  refine Ut (wpAny_storeSet_of ho1 rfl ?_ (fits_of_scanBound hb2))
  exact Uu (h _ es2 _ t3 (Ql.trans (Heap.SameBut.update _ a _)) ⟨yt ho1 es2 t3,he.perm hp,hb2,hfr,hto,hn,(hp.map _).trans hk⟩)
 ·exact Uu (h _ es1 _ t2 Ql ⟨ho1,he,hb,hf,ht,hn,hk⟩)
theorem xN{a:Addr}{ks:List Key}{es:Array (Int×Value)}{ep:Nat}{t:SetTable}{k:Key}{x:Value}{Q:Bool->Shared->Prop}(hkey:f9 k x=true)(hsc:x.scannable=true)(hS:ft prog w s.heap a ks es ep t)
  (hroom:ks.length+1<scanBound)
  (h:∀b h' es' ep' t',Heap.SameBut a s.heap h'->ft prog w h' a (la ks k) es' ep' t'->Q b {s with heap:=h'}) :
  wpAny (model prog w) A (setAddHashed a x ((bD prog w).hash k)) Q E s:=by
 have Ly:es.size=ks.length:=by rw [←hS.keys.length_eq,UC,Array.length_toList]
 have hkey':(bD prog w).is k x=true:=hkey
 have hel:=hS.els
 unfold setAddHashed setAddHashedIn
 refine wpAny_holding (Ut (wpAny_setState_of hS.obj rfl hS.fits ?_))
 dsimp only
 rw [byScan_of hsc hS.few hel]
 simp only [↓reduceIte]
 unfold setAddByScan
 refine Ut ?_
 refine Ut (wpAny_rule ?_)
 refine Ut (wpAny_setScan_of hkey' hS.obj rfl hS.fits hel ?_)
 cases hr:List.findIdx? (λe=>(bD prog w).is k e.2) es.toList with
 | some j =>
  dsimp only
  obtain⟨hj,hpj,_⟩:=List.findIdx?_eq_some_iff_getElem.mp hr
  have hin:k∈ks:=hS.mem.mp ⟨es.toList[j],List.getElem_mem hj,hpj⟩
  refine Uu (Uu ?_)
  have e:s ={s with heap:=s.heap}:=by cases s; rfl
  have:=h false s.heap es ep t (Heap.SameBut.refl a s.heap) (by unfold la; rw [if_pos hin]; exact hS)
  rw [e]
  exact this
 | none =>
  dsimp only
  have hout:k∉ks:=λhin=>by
   obtain⟨e,he,hp⟩:=hS.mem.mpr hin
   have:=List.findIdx?_eq_none_iff.mp hr e he
   rw [hp]at this
   exact Bool.noConfusion this
  have hgw:∀(b:Bool) {s₁:Shared} {Q':Unit->Shared->Prop},Q' () s₁->wpAny (model prog w) A (match b with | true=>rule "set.scan.the-table-gave-way" | false=>pure ()) Q' E s₁ :=
   λb s₁ Q' hq=>by cases b <;> first | exact Uu hq | exact wpAny_rule hq
  have hperm:=layNew_perm t es ((bD prog w).hash k) x
  have hfits:=layNew_fits t es ((bD prog w).hash k) x
  have htab:=zR hS.tab es ((bD prog w).hash k) x
  generalize hL:layNew t es ((bD prog w).hash k) x=L at hperm hfits htab⊢
  obtain⟨es1,t1,wasDummy,gave⟩:=L
  dsimp only at hperm hfits htab⊢
  rw [Array.toList_push]at hperm
  have hel1:ElemsOf (bD prog w) es1.toList:=(hel.push hkey' hsc).perm hperm
  have hb1':es1.size<scanBound:=by
   rw [←Array.length_toList,hperm.length_eq,UD,Array.length_toList,Ly]
   simpa using hroom
  have P5:la ks k=ks++[k]:=by unfold la; rw [if_neg hout]
  have A0:(la ks k).Nodup:=by
   rw [P5,List.nodup_append]
   exact⟨hS.M6,by simp,λx hx y hy e=>by simp at hy; subst hy; subst e; exact hout hx⟩
  have hkeys:(es1.toList.map λe=>A6 e.2).Perm (la ks k):=by
   rw [P5]
   refine(hperm.map _).trans ?_
   rw [UE]
   refine hS.keys.append ?_
   show [A6 x].Perm [k]
   rw [wQ hkey]
  refine Ut (hgw _ ?_)
  split
  ·refine Ut ?_
   rw [hashByValue_scannable 8 hsc]
   refine Uu ?_
   refine uq (ks:=la ks k) ?_ hS.obj hel1 hb1' ?_ ?_ A0 hkeys ?_
   ·intro b s₁ Q' hq; cases b <;> first | exact Uu hq | exact wpAny_rule hq
   ·split
    ·exact hfits
    ·exact SetTable.fits_plain_off hfits
   ·split
    ·exact htab
    ·exact⟨htab.N8,htab.NN,htab.led⟩
   ·intro h' es' ep' t' hsb hS'; dsimp only; exact Uu (h true h' es' ep' t' hsb hS')
  ·refine Ut (Uu ?_)
   simp only [↓reduceIte]
   refine uq (ks:=la ks k) ?_ hS.obj hel1 hb1' hfits htab A0 hkeys ?_
   ·intro b s₁ Q' hq; cases b <;> first | exact Uu hq | exact wpAny_rule hq
   ·intro h' es' ep' t' hsb hS'; dsimp only; exact Uu (h true h' es' ep' t' hsb hS')
noncomputable def j8 (key:Nat->Key):Nat->List Key
 | 0=>[]
 | i+1=>la (j8 key i) (key i)
theorem Bu(ks:List Key)(k:Key):(la ks k).length<=ks.length+1:=by
 unfold la
 split
 ·omega
 ·simp
theorem oX(key:Nat->Key):∀i,(j8 key i).length<=i
 | 0=>Uy _
 | i+1=>Uz (Bu _ _) (Nat.succ_le_succ (oX key i))
theorem CO{ks:List Key}{k x:Key}:x∈la ks k↔x∈ks\/x=k:=by
 unfold la
 split
 ·rename_i h
  exact⟨.inl,λq=>q.elim id λe=>e▸h⟩
 ·simp
theorem vQ{key:Nat->Key}{x:Key}:∀{i:Nat},x∈j8 key i↔∃j,j<i/\key j=x
 | 0=>by simp [j8]
 | i+1=>by
  show x∈la (j8 key i) (key i)↔_
  rw [CO,vQ]
  constructor
  ·rintro(⟨j,hj,e⟩ | e)
   ·exact⟨j,Nat.lt_succ_of_lt hj,e⟩
   ·exact⟨i,Nat.lt_succ_self _,e.symm⟩
  ·rintro⟨j,hj,e⟩
   rcases Nat.lt_succ_iff_lt_or_eq.mp hj with q | q
   ·exact .inl ⟨j,q,e⟩
   ·exact .inr (by rw [←e,q])
end
section
variable{prog:Program}{w:World}{A:Around}{R:Result->Shared->Prop}{I:Addr}{fp wr:List Addr}{G:Array GenState->Array GenState->Prop}{n:Nat}{P:Nat->Value->Prop}{St:Nat->Shared->Prop}
theorem CN(W:WalksS prog w A.in1 I fp wr G n P St)(S:Addr)(hSf:S∉fp)(key:Nat->Key)(hval:∀i v,P i v->f9 (key i) v=true/\v.scannable=true)(hb:n+1<scanBound) :
  ∀(k i:Nat) (s:Shared) (es:Array (Int×Value)) (ep:Nat) (t:SetTable),n-i=k->i<=n->St i s->ft prog w s.heap S (j8 key i) es ep t->
   (∀s' es' ep' t',Moved (S::wr) G s s'->ft prog w s'.heap S (j8 key n) es' ep' t'->R (.ok (.ret .none)) s')->
   codeAny (model prog w) A (.builtin "set.update.loop" ⟨[.ref S,.ref I],[]⟩) R s:=by
 have hSw:S∉wr:=λh=>hSf (W.sub _ h)
 have hsub:∀b∈wr,b∈S::wr:=λb hb=>UL _ hb
 intro k
 induction k with
 | zero =>
  intro i s es ep t hk hi hst hS hR
  have hin:i=n:=by omega
  subst hin
  refine codeAny_builtin F.entry_set_update_loop ?_
  rw [Around.under_plainId F.plain_set_update_loop _]
  show wpAny _ A.in1 (pyNext (.ref I) >>= _) _ _ s
  refine Ut (W.done s _ _ hst λs' hm=>?_)
  show wpAny _ A.in1 (ret Value.none) _ _ s'
  exact Uu (hR s' es ep t (hm.mono hsub) (hS.keep λo e=>hm.heap S o hSw e))
 | succ k ih =>
  intro i s es ep t hk hi hst hS hR
  have hlt:i<n:=by omega
  refine codeAny_builtin F.entry_set_update_loop ?_
  rw [Around.under_plainId F.plain_set_update_loop _]
  show wpAny _ A.in1 (pyNext (.ref I) >>= _) _ _ s
  refine Ut (W.item i s _ _ hlt hst λv s' hP hst' hm=>?_)
  obtain⟨hv1,hv2⟩:=hval i v hP
  have hS':=hS.keep (h':=s'.heap) λo e=>hm.heap S o hSw e
  show wpAny _ A.in1 (holding [v] (setAdd S v) >>= _) _ _ s'
  refine Ut (wpAny_holding ?_)
  unfold setAdd
  refine wpAny_holding ?_
  refine Ut ((bD prog w).pyHash (k:=key i) hv1 ?_)
  have hroom:(j8 key i).length+1<scanBound:=by have:=oX key i; omega
  refine xN (s:={s' with toks:=s'.toks+1}) hv1 hv2 hS' hroom λb h' es' ep' t' hsb hS2=>?_
  refine Uu ⟨plainId_quiet F.plain_set_update_loop _,ih (i+1) _ es' ep' t' (by omega) hlt (W.frame _ s' _ _ hst' (Nat.le_succ _) λb hb o e=>?_) hS2 λs'' es2 SK t2 hm'' hS''=>?_⟩
  ·rw [hsb.2 b (λh:b=S=>hSf (by rw [←h]; exact hb))]; exact e
  ·refine hR s'' es2 SK t2 (Moved.trans W.gtrans ((hm.mono hsub).then_heap (Nat.le_succ _) λb o hb e=>?_) hm'') hS''
   rw [hsb.2 b (λh:b=S=>hb (by rw [h]; exact List.mem_cons_self))]; exact e
end
section
variable{prog:Program}{w:World}{A:Around}{E:Value->Shared->Prop}{s:Shared}
theorem vK(a:Value){Q₁:Value->Shared->Prop}
  (h:Q₁ (.ref s.heap.objs.size) {s with heap:=s.heap.push {cls:=.type "set",dict:=none,data:=.set #[] 0 (.fresh 0 0 (!ck w))}}) :
  codeAny (model prog w) A (.call (.builtin "set.__new__") ⟨[.type "set",a],[]⟩) (wants Q₁ E) s:=by
 refine codeAny_of_tree ?_
 show wpAny _ A.in1 (do checkBuiltinCall "set.__new__" ⟨[.type "set",a],[]⟩; again (.builtin "set.__new__" ⟨[.type "set",a],[]⟩)) _ _ s
 refine Ut (wpAny_of_eq (F.newCall_set_1 a) (Uu ⟨plainId_quiet F.plain_set_new _,codeAny_builtin F.entry_set_new ?_⟩))
 rw [Around.under_plainId F.plain_set_new _]
 unfold Builtin.«set.__new__» Builtin.Frozenset.newClass
 have hsub:=sub_set_self
 obtain⟨hp,g,d,tk,os⟩:=s
 dsimp only
 wp_walk
 refine wpAny_askSetting (Uu ?_)
 dsimp only
 simp only [newObj]
 refine Ut (wpAny_alloc (Uu ?_))
 exact Uu h
end
theorem sub_tuple_set:isSubtype (.type "tuple") (.type "set")=pure false:=by rw [isSubtype_type]; kernel_rfl
theorem sub_tuple_frozenset:isSubtype (.type "tuple") (.type "frozenset")=pure false:=by rw [isSubtype_type]; kernel_rfl
structure rP(prog:Program)(w:World)(T:String)(l:Addr)(items:Array Value):Prop where
 Jc:isSubtype (.type T) (.type "set")=pure false
 Kb:isSubtype (.type T) (.type "frozenset")=pure false
 nd:(Value.type T==Value.type "dict")=false
 it:∀(A:Around) (s:Shared) (o:Obj),A.handled=none->s.heap.get? l=some o->o.cls=.type T->(∃n,o.data=.seq items n)->∃(oI:Obj) (St:Nat->Heap->Prop),
  (∀(E:Value->Shared->Prop) (Q:Value->Shared->Prop),Q (.ref s.heap.objs.size) {s with heap:=s.heap.push oI}->wpAny (model prog w) A (pyIter (.ref l)) Q E s)/\
  Walks prog w A s.heap.objs.size [s.heap.objs.size,l] [s.heap.objs.size] items.size (λi v=>items[i]? = some v) St/\St 0 (s.heap.push oI)
theorem src_list{prog:Program}{w:World}{l:Addr}{items:Array Value}:rP prog w "list" l items where
 Jc:=F.sub_list_set
 Kb:=F.sub_list_frozenset
 nd:=by decide
 it:=λA s o hh ho hc hd=>by
  have hl:s.heap.IsList l items:=⟨o,ho,hc,hd⟩
  refine⟨_,_,λE Q q=>wpAny_pyIter_list hl q,Walks.list hh _ l (Nat.ne_of_lt (Uw ho)) items,⟨_,Ux _ rfl,rfl,rfl⟩,hl.push _⟩
theorem E_{prog:Program}{w:World}{l:Addr}{items:Array Value}:rP prog w "tuple" l items where
 Jc:=sub_tuple_set
 Kb:=sub_tuple_frozenset
 nd:=by decide
 it:=λA s o hh ho hc hd=>by
  have hl:s.heap.IsTuple l items:=⟨o,ho,hc,hd⟩
  refine⟨_,_,λE Q q=>wpAny_pyIter_tuple hl q,Walks.tuple hh _ l (Nat.ne_of_lt (Uw ho)) items,⟨_,Ux _ rfl,rfl,rfl⟩,hl.push _⟩
section
variable{prog:Program}{w:World}{A:Around}{E:Value->Shared->Prop}{s:Shared}
theorem vB{T:String}{l:Addr}{items:Array Value}{o:Obj}{key:Nat->Key}{Q:Value->Shared->Prop}(src:rP prog w T l items)
  (hh:A.handled=none) (ho:s.heap.get? l=some o) (hc:o.cls=.type T) (hdt:∃n,o.data=.seq items n) (hi:∀i v,items[i]? = some v->f9 (key i) v=true/\v.scannable=true) (hb:items.size+1<scanBound)
  (h:∀(h':Heap) (tk:Nat) es ep t,ft prog w h' s.heap.objs.size (j8 key items.size) es ep t->(∀b o,s.heap.get? b=some o->h'.get? b=some o)->Q (.ref s.heap.objs.size) {s with heap:=h',toks:=tk}) :
  wpAny (model prog w) A (call (.type "set") [.ref l]) Q E s:=by
 obtain⟨c,tl,hmro⟩:=F.called_set.mro
 have hmade:=F.called_set.made
 have hsub:=F.called_set.sub
 refine wpAny_call (codeAny_of_tree ?_)
 show wpAny _ _ (callAny (.type "set") _) _ _ _
 refine Uu ⟨Code.quiet_builtin _ (by decide +kernel),codeAny_builtin F.entry_type_call ?_⟩
 rw [Around.under_plain (weight_type_call_type "set" [.ref l] []) rfl]
 have h1:=F.called_set.notType
 have h2:=F.called_set.canCreate
 have hct:=F.typeCall_set_1 (.ref l)
 repeat (any_goals (first | assumption | wp_step))
 refine codeAny_mono (vK (.ref l) (E:=E) (Q₁:=λobj s₁=>obj=.ref s.heap.objs.size/\s₁ ={s with heap:=s.heap.push {cls:=.type "set",dict:=none,data:=.set #[] 0 (.fresh 0 0 (!ck w))}}) ⟨rfl,rfl⟩) λr s₁ hr=>?_
 cases r with
 | error e=>exact hr
 | ok fl =>
  cases fl with
  | ret obj =>
   obtain⟨rfl,rfl⟩:=hr
   have hS:(s.heap.push {cls:=.type "set",dict:=none,data:=.set #[] 0 (.fresh 0 0 (!ck w))}).get? s.heap.objs.size=some {cls:=.type "set",dict:=none,data:=.set #[] 0 (.fresh 0 0 (!ck w))}:=Ux _ rfl
   have hT:Shared.TypeIs {s with heap:=s.heap.push {cls:=.type "set",dict:=none,data:=.set #[] 0 (.fresh 0 0 (!ck w))}} (.ref s.heap.objs.size) "set":=⟨_,hS,rfl⟩
   have hli:=F.called_set.init.lookup
   have hbi:=F.called_set.init.bind (.ref s.heap.objs.size)
   repeat (any_goals (first | assumption | wp_step))
   refine codeAny_mono (codeAny_call_builtin (R:=wants (λr s₂=>r=.none/\∃h' tk es ep t,s₂ ={s with heap:=h',toks:=tk}/\
     ft prog w h' s.heap.objs.size (j8 key items.size) es ep t/\(∀b o,s.heap.get? b=some o->h'.get? b=some o)) E) F.called_set.init.plain F.entry_set_init (check_set_init_1 hT ?_)) λr₂ s₂ hr₂=>?_
   ·have ho':(s.heap.push {cls:=.type "set",dict:=none,data:=.set #[] 0 (.fresh 0 0 (!ck w))}).get? l=some o:=Uv _ ho
    have Ug:Shared.TypeIs {s with heap:=s.heap.push {cls:=.type "set",dict:=none,data:=.set #[] 0 (.fresh 0 0 (!ck w))}} (.ref l) T:=⟨_,ho',hc⟩
    have hsls:=src.Jc
    have hslf:=src.Kb
    have hne:=src.nd
    obtain⟨oI,St,hit,W,st⟩:=src.it A.in1.in1.in1 {s with heap:=s.heap.push {cls:=.type "set",dict:=none,data:=.set #[] 0 (.fresh 0 0 (!ck w))}} o (by simpa using hh) ho' hc hdt
    unfold Builtin.«set.__init__» noKeywords Builtin.Frozenset.updateFrom
    generalize hPI:pyIter=PI
    wp_walk
    subst hPI
    refine wpAny_of_in1 (hit _ _ ?_)
    refine Ut (wpAny_runValue ?_)
    have hlS:l<s.heap.objs.size:=Uw ho
    have hsz:(s.heap.push {cls:=.type "set",dict:=none,data:=.set #[] 0 (.fresh 0 0 (!ck w))}).objs.size=s.heap.objs.size+1:=Heap.size_push _ _
    have hSf:s.heap.objs.size∉[(s.heap.push {cls:=.type "set",dict:=none,data:=.set #[] 0 (.fresh 0 0 (!ck w))}).objs.size,l]:=by
     rw [hsz]; simp only [List.mem_cons,List.not_mem_nil,or_false,not_or]
     exact⟨Nat.ne_of_lt (Nat.lt_succ_self _),Nat.ne_of_gt hlS⟩
    refine CN W.toS s.heap.objs.size hSf key (λi v hv=>hi i v hv) hb (items.size-0) 0 _ #[] 0 (SetTable.fresh 0 0 (!ck w)) (by omega) (Nat.zero_le _) st ?hS0 ?hR
    case hS0 =>
     have hget:=Uv oI hS
     exact⟨hget,λe he=>absurd he (by simp),by unfold scanBound; decide,by simp [SetTable.fits,SetTable.fresh,SetTable.fill],⟨List.Pairwise.nil,rfl,rfl⟩,List.nodup_nil,by simp [j8]⟩
    case hR =>
     intro s' es' ep' t' hm hS'
     obtain⟨h',g',d',tk',os'⟩:=s'
     have eg:g'=s.gens:=hm.gens
     have ed:d'=s.drawn:=hm.drawn
     have eo:os'=s.os:=hm.os
     subst eg; subst ed; subst eo
     show wpAny _ _ _ _ _ _
     refine Uu ?_
     show wpAny _ _ (ret Value.none) _ _ _
     refine Uu ⟨rfl,h',tk',es',ep',t',rfl,hS',λb o e=>?_⟩
     have hb1:b≠s.heap.objs.size:=Nat.ne_of_lt (Uw e)
     have hb2:b≠(s.heap.push {cls:=.type "set",dict:=none,data:=.set #[] 0 (.fresh 0 0 (!ck w))}).objs.size:=by
      rw [hsz]; exact Nat.ne_of_lt (Nat.lt_succ_of_lt (Uw e))
     exact hm.heap b o (by simp only [List.mem_cons,List.not_mem_nil,or_false,not_or]; exact⟨hb1,hb2⟩) (Uv _ (Uv _ e))
   ·cases r₂ with
    | error e=>exact hr₂
    | ok fl₂ =>
     cases fl₂ with
     | ret r =>
      obtain⟨rfl,h',tk,es,ep,t,rfl,hS',hk'⟩:=hr₂
      repeat (any_goals (first | assumption | wp_step))
      exact h _ _ es ep t hS' hk'
     | _=>exact hr₂.elim
  | _=>exact hr.elim
end
theorem mX:entryFor table "set.__iter__"=some Builtin.«frozenset.__iter__» :=
 entryFor_alias (id':="frozenset.__iter__") (by kernel_rfl) rfl (by decide +kernel) (by kernel_rfl)
theorem eP:Slot "set_iterator" "__next__" "set_iterator.__next__" :=
 .of (owner:="set_iterator") (n:="__next__") (by rw [typeLookup_type,builtinLookup_eq_fast]; kernel_rfl) (by decide +kernel) (by decide +kernel) (by decide +kernel)
  (by first | exact .inl (by decide +kernel) | exact .inr (by decide +kernel)) (by rw [isSubtype_type]; kernel_rfl)
theorem qA:entryFor table "set_iterator.__next__"=some Builtin.«set_iterator.__next__»:=entryFor_of_fast (by kernel_rfl)
theorem tM(a:Value):argsOk "set_iterator.__next__" ⟨[a],[]⟩:=by unfold argsOk; kernel_rfl
section
variable{prog:Program}{w:World}{A:Around}{E:Value->Shared->Prop}{s:Shared}
theorem AH{src:Source}{n:Nat}{Q:Nat->Shared->Prop}(hn:n≠0)(h:∀k d,k<n->Q k {s with drawn:=d}):wpAny (model prog w) A (choose src n) Q E s:=λ_ _ _ =>
 ⟨hn,h _ _ (Nat.mod_lt _ (Nat.pos_of_ne_zero hn))⟩
theorem gF{α:Type}:∀{xs:List α} {i:Nat} {x:α},xs[i]? = some x->(x::xs.eraseIdx i).Perm xs
 | [],i,x,h=>by simp at h
 | y::ys,0,x,h=>by
  have e:y=x:=by simpa using h
  subst e
  exact List.Perm.refl _
 | y::ys,i+1,x,h=>by
  have h':ys[i]? = some x:=by simpa using h
  exact(List.Perm.swap _ _ _).trans ((gF h').cons y)
theorem kN{α:Type}:∀(n:Nat) (xs:List α) (s:Shared) {Q:List α->Shared->Prop},xs.length=n->(∀ys d,ys.Perm xs->Q ys {s with drawn:=d})->wpAny (model prog w) A (drawOrder n xs) Q E s
 | 0,xs,s,Q,e,h=>by
  have:xs=[]:=List.length_eq_zero_iff.mp e
  subst this
  unfold drawOrder
  exact Uu (h [] s.drawn (List.Perm.refl _))
 | n+1,[],s,Q,e,h=>by cases e
 | n+1,x::xs,s,Q,e,h=>by
  unfold drawOrder
  refine Ut (AH (by simp) λk d hk=>?_)
  have hk':(x::xs)[k]? = some (x::xs)[k]:=UI hk
  rw [hk']
  dsimp only
  refine Ut (kN n _ _ (by rw [List.length_eraseIdx_of_lt hk,e]; rfl) λys d' hp=>?_)
  exact Uu (h _ d' ((hp.cons _).trans (gF hk')))
abbrev eX(first:Value)(i:Nat)(S:Addr)(n ep:Nat):Obj:={cls:=.type "set_iterator",data:=.fields #[first,.int i 0,.ref S,.int n 0,.int ep 0]}
def l8(es:Array (Int×Value))(t:SetTable):Bool:=!t.plain&&decide (es.size > 1)
theorem DE{S:Addr}{ks:List Key}{es:Array (Int×Value)}{ep:Nat}{t:SetTable}{Q:Value->Shared->Prop}(hS:ft prog w s.heap S ks es ep t)
  (h1:(!ck w&&l8 es t)=false->Q (.ref s.heap.objs.size) {s with heap:=s.heap.push (eX (.int 0 0) 0 S es.size ep)})
  (h2:(!ck w&&l8 es t)=true->∀(d:Drawn) (ps:List Nat),ps.Perm (List.range es.size)->Q (.ref (s.heap.objs.size+1)) {s with heap:=(s.heap.push {cls:=.type "tuple",data:=.seq (ps.map λ(i:Nat)=>Value.int i 0).toArray}).push (eX (.ref s.heap.objs.size) 0 S es.size ep),drawn:=d}) :
  wpAny (model prog w) A (pyIter (.ref S)) Q E s:=by
 have hT:s.TypeIs (.ref S) "set":=⟨_,hS.obj,rfl⟩
 have hz:es.size<=sizeLine:=fits_of_scanBound hS.few
 refine wpAny_pyIter_slot hT F.slot_set_iter (wpAny_call_entry F.slot_set_iter hT mX ?_ (F.args_set_iter_1 _))
 unfold Builtin.«frozenset.__iter__» Builtin.Frozenset.slot0 slotArgs
 simp only [List.isEmpty_nil,Bool.not_true,Bool.false_eq_true,↓reduceIte,bind_assoc,List.length_nil,bne_self_eq_false]
 unfold Builtin.Frozenset.addrOf Builtin.Frozenset.sizeOf
 refine Ut (Uu ?_)
 try dsimp only
 refine Ut (Uu ?_)
 refine Ut (Ut (wpAny_setEntries_of hS.obj rfl hS.fits (Uu ?_)))
 unfold setDrawn setsByText
 refine Ut (Ut (wpAny_setState_of hS.obj rfl hS.fits (Ut (Ut (wpAny_askSetting (Uu (Uu ?_)))))))
 show wpAny _ _ (if(!ck w&&l8 es t)=true then _ else _) _ _ _
 cases hb:(!ck w&&l8 es t)
 ·rw [if_neg (by simp)]
  refine Ut (Uu ?_)
  refine Ut (wpAny_setEpoch_of hS.obj rfl hS.fits ?_)
  refine Ut (wpAny_newObj_type (Uu ⟨_,rfl,"set_iterator",_,⟨_,Ux _ rfl,rfl⟩,eP.lookup,?_⟩))
  exact h1 hb
 ·rw [if_pos rfl]
  refine Ut (kN es.size (List.range es.size) s (by simp) λps d hp=>?_)
  have hl:ps.length=es.size:=by rw [hp.length_eq]; simp
  refine Ut (wpAny_newTuple ?_ (by rw [UC,hl]; exact hz))
  have hS2:=hS.keep (h':=s.heap.push {cls:=.type "tuple",data:=.seq (ps.map λ(i:Nat)=>rawInt i).toArray}) λo e=>Uv _ e
  refine Ut (wpAny_setEpoch_of hS2.obj rfl hS2.fits ?_)
  refine Ut (wpAny_newObj_type (Uu ⟨_,rfl,"set_iterator",_,⟨_,Ux _ rfl,rfl⟩,eP.lookup,?_⟩))
  have:=h2 hb d ps hp
  rw [size_push']
  exact this
theorem lA{I S:Addr}{first:Value}{i n ep:Nat}{Q:Option Value->Shared->Prop}(hI:s.heap.get? I=some (eX first i S n ep))
  (h:wpAny (model prog w) A.in1 (Builtin.«set_iterator.__next__» ⟨[.ref I],[]⟩) (λfin s'=>∃r,fin=.done (.ret r)/\Q (some r) s') (λe s'=>wpAny (model prog w) A (do if←isInstance e (.type "StopIteration")then pure none else throw e) Q E s') s) :
  wpAny (model prog w) A (pyNext (.ref I)) Q E s:=by
 have hT:s.TypeIs (.ref I) "set_iterator":=⟨_,hI,rfl⟩
 unfold pyNext
 refine Ut (wpAny_attempt (wpAny_callSpecial?_slot (name:=Str.ofString "__next__") hT eP (wpAny_call_entry eP hT qA ?_ (tM _))))
 refine wpAny_mono h (λfin s' q=>?_) λe s' q=>?_
 ·obtain⟨r,rfl,q⟩:=q
  exact⟨_,rfl,Uu q⟩
 ·exact q
theorem lu{I S:Addr}{first:Value}{i n ep:Nat}(hI:s.heap.get? I=some (eX first i S n ep)){first':Value}{i':Nat}{fs:Array Value}(k:Nat)(v:Value)(hk:k<5)(e:(#[first,.int i 0,.ref S,.int n 0,.int ep 0]:Array Value).setIfInBounds k v=fs) :
  (s.heap.update I (Obj.mapFields (·.setIfInBounds k v))).get? I=some {cls:=.type "set_iterator",data:=.fields fs}:=by
 have:=Heap.get?_update_self (Obj.mapFields (·.setIfInBounds k v)) hI (Obj.isFreed_of_fields (Obj.data_mapFields (o:=eX first i S n ep) rfl _))
 rw [this,←e]
 rfl
end
section
variable{prog:Program}{w:World}{A:Around}{E:Value->Shared->Prop}{s:Shared}
theorem vz{Q:Option Value->Shared->Prop}{h0:Heap}{I:Addr}(hh:A.handled=none)(hQ:∀h',Heap.ExtBut I h0 h'->Q none {s with heap:=h'})(hs:Heap.ExtBut I h0 s.heap) :
  wpAny (model prog w) A.in1 (newExc (.type "StopIteration") [] >>= λe=>(raiseNew e:Sem Fin)) (λfin s'=>∃r,fin=.done (.ret r)/\Q (some r) s') (λe s'=>wpAny (model prog w) A (do if←isInstance e (.type "StopIteration")then pure none else throw e) Q E s') s:=by
 refine Ut ?_
 simp only [newExc,newTuple]
 refine Ut (wpAny_newObj_type ?_ (by size_fits))
 refine Ut (m:=firstArgMember _ _) (wpAny_of_eq (a:=Value.none) (by first | rfl | (simp only [firstArgMember]; rfl)) ?_)
 refine wpAny_newObj_type ?_ (by size_fits)
 simp only [raiseNew]
 refine Ut (wpAny_handled ?_)
 rw [show A.in1.handled=none from hh]
 refine Ut (Uu (wpAny_throw ?_))
 refine Ut (wpAny_isInstance (T:="StopIteration") (b:=true) ⟨_,Ux _ rfl,rfl⟩ isSubtype_stop ?_)
 exact Uu (hQ _ ((hs.push _).push _))
theorem ny{I S:Addr}{ks:List Key}{es:Array (Int×Value)}{i ep:Nat}{t:SetTable}{first:Value}{R:Fin->Shared->Prop}{F:Value->Shared->Prop}(hI:s.heap.get? I=some (eX first i S es.size ep))(hS:ft prog w s.heap S ks es ep t)
  (h:wpAny (model prog w) A (if let .int slot _:=first then do
    match←setNext S slot.toNat i ep with
    | some (x,next) =>
     setField (.ref I) 0 (rawInt next)
     setField (.ref I) 1 (rawInt (i+1))
     ret x
    | none=>setField (.ref I) 2 .none; raiseNew (←newExc (.type "StopIteration") [])
   else do
    let some places←seqItems? first | unsupported "internal:set_iterator"
    match places[i]? with
    | some (.int place _) =>
     let x←setNextDrawn S place.toNat ep
     setField (.ref I) 1 (rawInt (i+1))
     ret x
    | some _=>unsupported "internal:set_iterator"
    | none=>setField (.ref I) 0 (rawInt 0); setField (.ref I) 2 .none; raiseNew (←newExc (.type "StopIteration") [])) R F s) :
  wpAny (model prog w) A (Builtin.«set_iterator.__next__» ⟨[.ref I],[]⟩) R F s:=by
 unfold Builtin.«set_iterator.__next__» slotArgs
 simp only [List.isEmpty_nil,Bool.not_true,Bool.false_eq_true,↓reduceIte,bind_assoc,List.length_nil,bne_self_eq_false]
 refine Ut (Uu ?_)
 try dsimp only
 refine Ut (wpAny_fieldsOf hI rfl ?_)
 dsimp only
 refine Ut (wpAny_setEntries_of hS.obj rfl hS.fits ?_)
 rw [if_neg (by simp)]
 exact h
theorem Ey{I S:Addr}{ks:List Key}{es:Array (Int×Value)}{i ep slot next:Nat}{t:SetTable}{v:Value}{Q:Option Value->Shared->Prop}(hI:s.heap.get? I=some (eX (.int slot 0) i S es.size ep))(hS:ft prog w s.heap S ks es ep t)
  (hn:∀(Q:Option (Value×Nat)->Shared->Prop) (E:Value->Shared->Prop),Q (some (v,next)) s->wpAny (model prog w) A.in1 (setNext S slot i ep) Q E s)
  (hQ:∀h',h'.get? I=some (eX (.int next 0) (i+1) S es.size ep)->(∀b,b≠I->h'.get? b=s.heap.get? b)->Q (some v) {s with heap:=h'}):wpAny (model prog w) A (pyNext (.ref I)) Q E s:=by
 refine lA hI (ny hI hS ?_)
 dsimp only
 refine Ut (hn _ _ ?_)
 dsimp only
 refine Ut (wpAny_setField hI rfl (by simp) ?_)
 have h1:=lu (s:=s) hI (first':=.none) (i':=0) (fs:=#[.int next 0,.int i 0,.ref S,.int es.size 0,.int ep 0]) 0 (rawInt next) (by decide) (by simp [rawInt])
 refine Ut (wpAny_setField h1 rfl (by simp) ?_)
 have h2:=lu (s:={s with heap:=s.heap.update I (Obj.mapFields (·.setIfInBounds 0 (rawInt next)))}) (first:=.int next 0) (i:=i) (S:=S) (n:=es.size) (ep:=ep) h1 (first':=.none) (i':=0) (fs:=#[.int next 0,.int ((i+1:Nat):Int) 0,.ref S,.int es.size 0,.int ep 0]) 1 (rawInt ((i:Int)+1)) (by decide) (by simp [rawInt])
 refine Uu ⟨_,rfl,hQ _ h2 λb hb=>?_⟩
 exact((Heap.SameBut.update _ I _).2 b hb).trans ((Heap.SameBut.update _ I _).2 b hb)
theorem Ia{I S:Addr}{ks:List Key}{es:Array (Int×Value)}{i ep slot:Nat}{t:SetTable}{Q:Option Value->Shared->Prop}(hh:A.handled=none)(hI:s.heap.get? I=some (eX (.int slot 0) i S es.size ep))(hS:ft prog w s.heap S ks es ep t)
  (hn:∀(Q:Option (Value×Nat)->Shared->Prop) (E:Value->Shared->Prop),Q none s->wpAny (model prog w) A.in1 (setNext S slot i ep) Q E s)
  (hQ:∀h',Heap.ExtBut I s.heap h'->Q none {s with heap:=h'}):wpAny (model prog w) A (pyNext (.ref I)) Q E s:=by
 refine lA hI (ny hI hS ?_)
 dsimp only
 refine Ut (hn _ _ ?_)
 dsimp only
 refine Ut (wpAny_setField hI rfl (by simp) ?_)
 exact vz (s:={s with heap:=s.heap.update I (Obj.mapFields (·.setIfInBounds 2 .none))}) (I:=I) (h0:=s.heap) hh hQ (Heap.SameBut.update ..).extBut
theorem FD{I S T:Addr}{ks:List Key}{es:Array (Int×Value)}{i ep p:Nat}{t:SetTable}{ps:Array Value}{hv:Int}{v:Value}{Q:Option Value->Shared->Prop}(hI:s.heap.get? I=some (eX (.ref T) i S es.size ep))(hS:ft prog w s.heap S ks es ep t)
  (hT:s.heap.get? T=some {cls:=.type "tuple",data:=.seq ps}) (hp:ps[i]? = some (.int p 0)) (he:es[p]? = some (hv,v))
  (hQ:∀h',h'.get? I=some (eX (.ref T) (i+1) S es.size ep)->(∀b,b≠I->h'.get? b=s.heap.get? b)->Q (some v) {s with heap:=h'}):wpAny (model prog w) A (pyNext (.ref I)) Q E s:=by
 refine lA hI (ny hI hS ?_)
 dsimp only
 unfold seqItems?
 refine Ut (Ut (wpAny_load hT (Uu ?_)))
 dsimp only
 rw [hp]
 dsimp only
 unfold setNextDrawn
 refine Ut (Ut (wpAny_setState_of hS.obj rfl hS.fits ?_))
 dsimp only
 rw [if_neg (by simp)]
 rw [show es[(p:Int).toNat]? = some (hv,v) from he]
 refine Uu ?_
 refine Ut (wpAny_setField hI rfl (by simp) ?_)
 have h2:=lu (s:=s) hI (first':=.none) (i':=0) (fs:=#[.ref T,.int ((i+1:Nat):Int) 0,.ref S,.int es.size 0,.int ep 0]) 1 (rawInt ((i:Int)+1)) (by decide) (by simp [rawInt])
 exact Uu ⟨_,rfl,hQ _ h2 λb hb=>(Heap.SameBut.update _ I _).2 b hb⟩
theorem Jp{I S T:Addr}{ks:List Key}{es:Array (Int×Value)}{i ep:Nat}{t:SetTable}{ps:Array Value}{Q:Option Value->Shared->Prop}(hh:A.handled=none)(hI:s.heap.get? I=some (eX (.ref T) i S es.size ep))(hS:ft prog w s.heap S ks es ep t)
  (hT:s.heap.get? T=some {cls:=.type "tuple",data:=.seq ps}) (hp:ps[i]? = none)
  (hQ:∀h',Heap.ExtBut I s.heap h'->Q none {s with heap:=h'}):wpAny (model prog w) A (pyNext (.ref I)) Q E s:=by
 refine lA hI (ny hI hS ?_)
 dsimp only
 unfold seqItems?
 refine Ut (Ut (wpAny_load hT (Uu ?_)))
 dsimp only
 rw [hp]
 dsimp only
 refine Ut (wpAny_setField hI rfl (by simp) ?_)
 have h1:=lu (s:=s) hI (first':=.none) (i':=0) (fs:=#[.int 0 0,.int i 0,.ref S,.int es.size 0,.int ep 0]) 0 (rawInt 0) (by decide) (by simp [rawInt])
 refine Ut (wpAny_setField h1 rfl (by simp) ?_)
 refine vz (s:={s with heap:=(s.heap.update I (Obj.mapFields (·.setIfInBounds 0 (rawInt 0)))).update I (Obj.mapFields (·.setIfInBounds 2 .none))}) (I:=I) (h0:=s.heap) hh hQ ?_
 exact((Heap.SameBut.update s.heap I _).trans (Heap.SameBut.update _ I _)).extBut
end
theorem yu{α:Type}(next:Nat->Nat):∀(fuel k:Nat) (left:List α) (out:Array α),left.length=fuel->(pickOrder.go next fuel k left out).toList.Perm (out.toList++left)
 | 0,k,left,out,e=>by
  have:left=[]:=List.length_eq_zero_iff.mp e
  subst this
  unfold pickOrder.go
  simp
 | fuel+1,k,left,out,e=>by
  unfold pickOrder.go
  have hlt:next k % left.length<left.length:=Nat.mod_lt _ (by omega)
  have hg:left[next k % left.length]? = some left[next k % left.length]:=UI hlt
  rw [hg]
  dsimp only
  refine(yu next fuel (k+1) _ _ (by rw [List.length_eraseIdx_of_lt hlt,e]; rfl)).trans ?_
  rw [Array.toList_push,List.append_assoc]
  refine List.Perm.append_left _ ?_
  exact gF hg
theorem rb{α:Type}(next:Nat->Nat)(xs:Array α):(pickOrder next xs).toList.Perm xs.toList:=by
 unfold pickOrder
 have:=yu next xs.size 0 xs.toList #[] (by simp)
 simpa using this
def F9(place:Array Nat):Nat->Nat
 | 0=>0
 | i+1=>(place[i]?.getD 0)+1
theorem xt{place:Array Nat}(h:Ea place):∀{i:Nat},i<=place.size->SetTable.below place (F9 place i)=i
 | 0,_=>by
  obtain⟨h1,h2,h3⟩:=kJ h 0
  show SetTable.below place 0=0
  rcases Nat.eq_zero_or_pos (SetTable.below place 0)with q | q
  ·exact q
  ·have hz:0<place.size:=by omega
   have:=h2 0 _ q (Array.getElem?_eq_getElem hz)
   omega
 | i+1,hi=>by
  have hlt:i<place.size:=hi
  have eg:place[i]? = some place[i]:=Array.getElem?_eq_getElem hlt
  have es:F9 place (i+1)=place[i]+1:=by show(place[i]?.getD 0)+1=_; rw [eg]; rfl
  rw [es]
  obtain⟨h1,h2,h3⟩:=kJ h (place[i]+1)
  rcases Nat.lt_trichotomy (SetTable.below place (place[i]+1)) (i+1)with q | q | q
  ·have:=h3 i _ (by omega) eg
   omega
  ·exact q
  ·have hlt2:i+1<place.size:=by omega
   have e2:place[i+1]? = some place[i+1]:=Array.getElem?_eq_getElem hlt2
   have a:=h2 (i+1) _ q e2
   have b:=h.lt (Nat.lt_succ_self i) eg e2
   omega
section
variable{prog:Program}{w:World}
def Nx(prog:Program)(w:World)(S:Addr)(ks:List Key)(es:Array (Int×Value))(ep:Nat)(t:SetTable)(sl:Nat->Nat)(vs:List Value):Prop :=
 ∀(i:Nat) (s:Shared) (A:Around) (E:Value->Shared->Prop) (Q:Option (Value×Nat)->Shared->Prop),ft prog w s.heap S ks es ep t->i<=es.size->Q ((vs[i]?).map λv=>(v,sl (i+1))) s->wpAny (model prog w) A (setNext S (sl i) i ep) Q E s
theorem Fm{S:Addr}{ks:List Key}{es:Array (Int×Value)}{ep:Nat}{t:SetTable}(hb:ck w=true):Nx prog w S ks es ep t (λ_=>0) ((pickOrder (w.params.setOrder S ep) es).toList.map (·.2)):=by
 intro i s A E Q hS hi q
 unfold setNext setsByText
 refine Ut (wpAny_setState_of hS.obj rfl hS.fits ?_)
 dsimp only
 refine Ut (Ut (wpAny_askSetting (Uu ?_)))
 rw [if_pos (show(model prog w).w.params.followText "set-order"=true from hb),if_neg (by simp)]
 unfold setWalk setsByText
 refine Ut (Ut (wpAny_setState_of hS.obj rfl hS.fits ?_))
 dsimp only
 refine Ut (Ut (wpAny_askSetting (Uu ?_)))
 rw [if_pos (show(model prog w).w.params.followText "set-order"=true from hb)]
 refine Ut (wpAny_askSetting (Uu (Uu ?_)))
 rw [List.getElem?_map,Option.map_map,Array.getElem?_toList]at q
 exact q
theorem Eh{S:Addr}{ks:List Key}{es:Array (Int×Value)}{ep:Nat}{t:SetTable}(hb:ck w=false)(hd:l8 es t=false):Nx prog w S ks es ep t (F9 t.place) (es.toList.map (·.2)):=by
 intro i s A E Q hS hi q
 have hps:t.place.size=es.size:=by have:=hS.fits; simp [SetTable.fits]at this; exact this.1
 unfold setNext setsByText
 refine Ut (wpAny_setState_of hS.obj rfl hS.fits ?_)
 dsimp only
 refine Ut (Ut (wpAny_askSetting (Uu ?_)))
 rw [if_neg (show¬(model prog w).w.params.followText "set-order"=true by show¬ck w=true; rw [hb]; decide)]
 have OX:t.led=true:=by rw [hS.tab.led,hb]; rfl
 show wpAny _ _ (if l8 es t=true then _ else _) _ _ _
 rw [if_neg (by rw [hd]; decide)]
 show wpAny _ _ ((if(!t.led && !es.isEmpty)=true then unsupported _ else pure ()) >>= _) _ _ _
 rw [if_neg (by rw [OX]; simp)]
 refine Ut (Uu (Uu ?_))
 rw [xt hS.tab.N8 (by rw [hps]; exact hi)]
 rw [List.getElem?_map,Option.map_map,Array.getElem?_toList]at q
 by_cases hlt:i<es.size
 ·rw [Array.getElem?_eq_getElem hlt]at q⊢
  have hp2:i<t.place.size:=by rw [hps]; exact hlt
  have e2:F9 t.place (i+1)=t.place[i]+1:=by show(t.place[i]?.getD 0)+1=_; rw [Array.getElem?_eq_getElem hp2]; rfl
  rw [Array.getElem?_eq_getElem hp2]
  dsimp only [Option.map_some,Function.comp]at q⊢
  rw [e2]at q
  exact q
 ·rw [Array.getElem?_eq_none (by omega)]at q⊢
  exact q
theorem kP:Slot "set_iterator" "__iter__" "set_iterator.__iter__" :=
 .of (owner:="set_iterator") (n:="__iter__") (by rw [typeLookup_type,builtinLookup_eq_fast]; kernel_rfl) (by decide +kernel) (by decide +kernel) (by decide +kernel)
  (by first | exact .inl (by decide +kernel) | exact .inr (by decide +kernel)) (by rw [isSubtype_type]; kernel_rfl)
theorem qF:entryFor table "set_iterator.__iter__"=some Builtin.«dict_keyiterator.__iter__» :=
 entryFor_alias (id':="dict_keyiterator.__iter__") (by kernel_rfl) rfl (by decide +kernel) (by kernel_rfl)
theorem sM(a:Value):argsOk "set_iterator.__iter__" ⟨[a],[]⟩:=by unfold argsOk; kernel_rfl
theorem yW{A:Around}{E:Value->Shared->Prop}{s:Shared}{I S:Addr}{first:Value}{i n ep:Nat}{Q:Value->Shared->Prop}(hI:s.heap.get? I=some (eX first i S n ep))(h:Q (.ref I) s):wpAny (model prog w) A (pyIter (.ref I)) Q E s:=by
 have hT:s.TypeIs (.ref I) "set_iterator":=⟨_,hI,rfl⟩
 refine wpAny_pyIter_slot hT kP (wpAny_call_entry kP hT qF ?_ (sM _))
 show wpAny _ _ (ret (.ref I)) _ _ s
 exact Uu ⟨_,rfl,"set_iterator",_,hT,eP.lookup,h⟩
theorem DU{A:Around}(hh:A.handled=none){I S:Addr}(hne:S≠I){ks:List Key}{es:Array (Int×Value)}{ep:Nat}{t:SetTable}{sl:Nat->Nat}{vs:List Value}(hv:vs.length=es.size)(hn:Nx prog w S ks es ep t sl vs) :
  Walks prog w A I [I,S] [I] es.size (λi v=>vs[i]? = some v) (λi h=>h.get? I=some (eX (.int (sl i) 0) i S es.size ep)/\ft prog w h S ks es ep t) where
 sub:=λb hb=>by simp at hb; simp [hb]
 frame:=λ_ _ _ st hk=>⟨hk I (by simp) _ st.1,st.2.keep λo e=>hk S (by simp) o e⟩
 item:=λi s Q E hi st hQ=>by
  have e:vs[i]? = some (vs[i]'(by omega)):=UI (by omega)
  refine Ey (v:=vs[i]'(by omega)) (next:=sl (i+1)) st.1 st.2 (λQ E q=>hn i s _ E Q st.2 (Nat.le_of_lt hi) (by rw [e]; exact q)) λh' h1 h2=>?_
  exact hQ _ h' s.toks e ⟨h1,st.2.keep λo q=>(h2 S hne).trans q⟩ λb o hb q=>(h2 b (by simpa using hb)).trans q
 done:=λs Q E st hQ=>Ia hh st.1 st.2 (λQ E q=>hn es.size s _ E Q st.2 (Uy _) (by rw [List.getElem?_eq_none (by omega)]; exact q)) λh' he=>hQ h' s.toks λb o hb e=>he b o (λh=>hb (by simp [h])) e
 self:=λi s Q E st hQ=>yW st.1 hQ
theorem xK{A:Around}(hh:A.handled=none){I S T:Addr}(hne:S≠I)(hnt:T≠I){ks:List Key}{es:Array (Int×Value)}{ep:Nat}{t:SetTable}{ps:List Nat}(hp:ps.Perm (List.range es.size)) :
  Walks prog w A I [I,S,T] [I] es.size (λi v=>(ps.filterMap λj=>(es[j]?).map (·.2))[i]? = some v) (λi h=>h.get? I=some (eX (.ref T) i S es.size ep)/\ft prog w h S ks es ep t/\h.get? T=some {cls:=.type "tuple",data:=.seq (ps.map λ(i:Nat)=>Value.int i 0).toArray}) where
 sub:=λb hb=>by simp at hb; simp [hb]
 frame:=λ_ _ _ st hk=>⟨hk I (by simp) _ st.1,st.2.1.keep λo e=>hk S (by simp) o e,hk T (by simp) _ st.2.2⟩
 item:=λi s Q E hi st hQ=>by
  have hl:ps.length=es.size:=by rw [hp.length_eq]; simp
  have hlt:i<ps.length:=by omega
  have hpi:ps[i]<es.size:=List.mem_range.mp (hp.mem_iff.mp (List.getElem_mem hlt))
  have em:(ps.filterMap λj=>(es[j]?).map (·.2))=ps.map λj=>(es.getD j (0,.none)).2:=by
   have gen:∀l:List Nat,(∀j∈l,j<es.size)->(l.filterMap λj=>(es[j]?).map (·.2))=l.map λj=>(es.getD j (0,.none)).2:=by
    intro l
    induction l with
    | nil=>intro _; rfl
    | cons a l ih =>
     intro hl
     have ha:=hl a List.mem_cons_self
     rw [List.filterMap_cons,ih λj hj=>hl j (UL _ hj)]
     simp [Array.getD,ha]
   exact gen ps λj hj=>List.mem_range.mp (hp.mem_iff.mp hj)
  refine FD (p:=ps[i]) (hv:=es[ps[i]].1) (v:=es[ps[i]].2) st.1 st.2.1 st.2.2 (by simp [hlt]) (by rw [Array.getElem?_eq_getElem hpi]) λh' h1 h2=>?_
  refine hQ _ h' s.toks ?_ ⟨h1,st.2.1.keep λo q=>(h2 S hne).trans q,(h2 T hnt).trans st.2.2⟩ λb o hb q=>(h2 b (by simpa using hb)).trans q
  rw [em,List.getElem?_map,UI hlt]
  simp [Array.getD,hpi]
 done:=λs Q E st hQ=>by
  have hl:ps.length=es.size:=by rw [hp.length_eq]; simp
  exact Jp hh st.1 st.2.1 st.2.2 (by simp [hl]) λh' he=>hQ h' s.toks λb o hb e=>he b o (λh=>hb (by simp [h])) e
 self:=λi s Q E st hQ=>yW st.1 hQ
end
section
variable{prog:Program}{w:World}{A:Around}{E:Value->Shared->Prop}{s:Shared}
theorem BU(hh:A.handled=none){S:Addr}{ks:List Key}{es:Array (Int×Value)}{ep:Nat}{t:SetTable}{Q:Value->Shared->Prop}(hS:ft prog w s.heap S ks es ep t)
  (h:∀(I:Addr) (h1:Heap) (d:Drawn) (fp:List Addr) (vs:List Value) (St:Nat->Heap->Prop),(∀b o,s.heap.get? b=some o->h1.get? b=some o)->s.heap.objs.size<=I->(∀b∈fp,b=S\/s.heap.objs.size<=b)->
   Walks prog w A I fp [I] es.size (λi v=>vs[i]? = some v) St->St 0 h1->vs.length=es.size->vs.Perm (es.toList.map (·.2))->Q (.ref I) {s with heap:=h1,drawn:=d}) :
  wpAny (model prog w) A (pyIter (.ref S)) Q E s:=by
 have hlt:S<s.heap.objs.size:=Uw hS.obj
 refine DE hS (λhb=>?_) λhb d ps hp=>?_
 ·have key:∀sl vs,sl 0=0->vs.length=es.size->vs.Perm (es.toList.map (·.2))->Nx prog w S ks es ep t sl vs->Q (.ref s.heap.objs.size) {s with heap:=s.heap.push (eX (.int 0 0) 0 S es.size ep)}:=λsl vs h0 hl hpm hn=>by
   have W:=DU (A:=A) hh (I:=s.heap.objs.size) (S:=S) (Nat.ne_of_lt hlt) hl hn
   have:=h s.heap.objs.size (s.heap.push (eX (.int 0 0) 0 S es.size ep)) s.drawn _ vs _ (λb o e=>Uv _ e) (Uy _) (λb hb=>?_) W ⟨?_,hS.keep λo e=>Uv _ e⟩ hl hpm
   ·exact this
   ·simp only [List.mem_cons,List.not_mem_nil,or_false]at hb
    rcases hb with rfl | rfl
    ·exact .inr (Uy _)
    ·exact .inl rfl
   ·rw [h0]
    exact Ux _ rfl
  cases hbt:ck w with
  | true=>exact key _ _ rfl (by rw [UC,(rb _ _).length_eq,Array.length_toList]) ((rb _ _).map _) (Fm hbt)
  | false =>
   rw [hbt]at hb
   exact key _ _ rfl (by rw [UC,Array.length_toList]) (List.Perm.refl _) (Eh hbt (by simpa using hb))
 ·have hl:ps.length=es.size:=by rw [hp.length_eq]; simp
  have W:=xK (prog:=prog) (w:=w) (A:=A) hh (I:=s.heap.objs.size+1) (S:=S) (T:=s.heap.objs.size) (Nat.ne_of_lt (Nat.lt_succ_of_lt hlt)) (Nat.ne_of_lt (Nat.lt_succ_self _)) (ks:=ks) (es:=es) (ep:=ep) (t:=t) hp
  have pm:(ps.filterMap λj=>(es[j]?).map (·.2)).Perm (es.toList.map (·.2)):=by
   refine(hp.filterMap _).trans ?_
   rw [←List.map_filterMap]
   rw [filterMap_getElem?_range]
  refine h (s.heap.objs.size+1) _ d _ _ _ (λb o e=>Uv _ (Uv _ e)) (Nat.le_succ _) (λb hb=>?_) W ⟨?_,hS.keep λo e=>Uv _ (Uv _ e),Uv _ (Ux _ rfl)⟩ (by rw [pm.length_eq,UC,Array.length_toList]) pm
  ·simp only [List.mem_cons,List.not_mem_nil,or_false]at hb
   rcases hb with rfl | rfl | rfl
   ·exact .inr (Nat.le_succ _)
   ·exact .inl rfl
   ·exact .inr (Uy _)
  ·have:=Ux (s.heap.push {cls:=.type "tuple",data:=.seq (ps.map λ(i:Nat)=>Value.int i 0).toArray}) (o:=eX (.ref s.heap.objs.size) 0 S es.size ep) rfl
   rw [size_push']at this
   exact this
theorem Bf{r:Addr}{Q:Bool->Shared->Prop}(hT:s.TypeIs (.ref r) "set")(h:Q false s):wpAny (model prog w) A (Builtin.List.listLengthHint (.ref r)) Q E s:=by
 unfold Builtin.List.listLengthHint
 refine Ut (wpAny_specialOf hT PySem.F.slot_set_len.lookup ?_)
 generalize hid:("set.__len__" : String)=id0
 wp_delta
 rw [show splitId id0=some ("set","__len__") from by subst hid; decide +kernel]
 subst hid
 refine Ut (wpAny_isInstance (T:="set") (b:=true) hT (by rw [isSubtype_type]; kernel_rfl) ?_)
 refine wpAny_ite_split (λhab=>absurd hab (by decide)) (λ_=>?_)
 refine wpAny_ite_split (λ_=>?_) (λhab=>absurd (by decide +kernel) hab)
 refine Ut (wpAny_typeOf hT ?_)
 exact Uu h
theorem w_{S L:Addr}{ks:List Key}{es:Array (Int×Value)}{ep:Nat}{t:SetTable}{R:Result->Shared->Prop}(hh:A.handled=none)(hS:ft prog w s.heap S ks es ep t)(Q0:L≠S)(res:Value)(c₀:Nat)(hL:s.heap.get? L=some {cls:=.type "list",data:=.seq #[] c₀})
  (hR:∀h' tk d acc' c',(∀b o,b≠L->s.heap.get? b=some o->h'.get? b=some o)->h'.get? L=some {cls:=.type "list",dict:=none,data:=.seq acc' c',slots:=#[]}->acc'.toList.Perm (es.toList.map (·.2))->R (.ok (.ret res)) {s with heap:=h',toks:=tk,drawn:=d}) :
  wpAny (model prog w) A.in1 (Builtin.List.listExtendWith (.ref L) (.ref S) res)
   (λfin s'=>match fin with | .done f=>R (.ok f) s' | .again c'=>c'.quiet=true/\codeAny (model prog w) A c' R s') (λe s'=>R (.error e) s') s:=by
 have hT:s.TypeIs (.ref S) "set":=⟨_,hS.obj,rfl⟩
 have hz:es.size<=sizeLine:=fits_of_scanBound hS.few
 unfold Builtin.List.listExtendWith
 refine Ut (wpAny_typeOf hT ?_)
 have h1:Builtin.List.listSameRef (.ref L) (.ref S)=false:=by simp [Builtin.List.listSameRef,Q0]
 have h2:(Value.type "set"==Value.type "list")=false:=by decide
 have h3:(Value.type "set"==Value.type "tuple")=false:=by decide
 simp only [h1,h2,h3,Bool.or_false,Bool.false_eq_true,if_false]
 refine Ut (BU (A:=A.in1) hh hS λI h1 d fp vs St hk hI hfp W st hvl hpm=>?_)
 have hLlt:L<s.heap.objs.size:=Uw hL
 have hLI:L≠I:=Nat.ne_of_lt (UH hLlt hI)
 have hLf:L∉fp:=λhb=>by
  rcases hfp L hb with e | e
  ·exact Q0 e
  ·exact absurd hLlt (Nat.not_lt.mpr e)
 have key:∀(h:Heap) (c₁ tk:Nat),St 0 h->(∀b o,b≠L->s.heap.get? b=some o->h.get? b=some o)->
   h.get? L=some {cls:=.type "list",data:=.seq #[] c₁}->codeAny (model prog w) A (.builtin "list.extend.loop" ⟨[.ref L,.ref I,res],[]⟩) R {s with heap:=h,toks:=tk,drawn:=d}:=by
  intro h c₁ tk hst hkk hS₁
  refine codeAny_extend_loopS W.toS hz L hLf res es.size 0 _ #[] c₁ rfl (Nat.zero_le _) hst hS₁ (ItemsOf.nil _) λs' acc' c' hm hS' hacc=>?_
  rw [Moved.eq_with hm]
  refine hR s'.heap s'.toks d acc' c' (λb o hb e=>hm.heap b o (λhmem=>?_) (hkk b o hb e)) hS' ?_
  ·rcases List.mem_cons.mp hmem with e' | hmem
   ·exact hb e'
   ·have:=List.mem_singleton.mp hmem
    subst this
    exact absurd (Uw e) (Nat.not_lt.mpr hI)
  ·have ev:acc'.toList=vs:=by
    refine List.ext_getElem? λi=>?_
    rw [Array.getElem?_toList]
    by_cases hlt:i<es.size
    ·have:i<acc'.size:=by rw [hacc.1]; exact hlt
     rw [Array.getElem?_eq_getElem this]
     exact(hacc.2 i _ (Array.getElem?_eq_getElem this)).symm
    ·rw [Array.getElem?_eq_none (by rw [hacc.1]; omega),List.getElem?_eq_none (by omega)]
   rw [ev]
   exact hpm
 have hS₁:h1.get? L=some {cls:=.type "list",data:=.seq #[] c₀}:=hk _ _ hL
 refine Ut (wpAny_holding (Bf (s:={s with heap:=h1,drawn:=d}) ⟨_,hk _ _ hS.obj,rfl⟩ ?_))
 refine wpAny_ite_split (λ_=>?_) (λ_=>Uu ⟨plainId_quiet PySem.F.plain_extend_loop _,key _ c₀ _ st (λb o _ e=>hk b o e) hS₁⟩)
 refine Ut (wpAny_rule ?_)
 refine Ut ?_
 show wpAny _ _ (updateSeq L (·.push .none) >>= λ_=>updateSeq L (·.pop)) _ _ _
 refine Ut (wpAny_updateSeq hS₁ rfl ?_)
 have hS₂:=Heap.get?_update_self (Obj.mapSeq (·.push Value.none)) hS₁ rfl
 refine wpAny_updateSeq (hz:=by seq_fits) hS₂ rfl ?_
 have hS₃:=Heap.get?_update_self (Obj.mapSeq (·.pop)) hS₂ rfl
 refine Uu ⟨plainId_quiet PySem.F.plain_extend_loop _,key _ _ _ ?_ (λb o hb e=>?_) hS₃⟩
 ·refine W.frame 0 _ _ st λb hb o e=>?_
  have hbS:b≠L:=λh=>hLf (h▸hb)
  exact(Heap.get?_update_other _ _ (Ne.symm hbS)).trans ((Heap.get?_update_other _ _ (Ne.symm hbS)).trans e)
 ·exact(Heap.get?_update_other _ _ (Ne.symm hb)).trans ((Heap.get?_update_other _ _ (Ne.symm hb)).trans (hk _ _ e))
theorem vx{S:Addr}{ks:List Key}{es:Array (Int×Value)}{ep:Nat}{t:SetTable}{R:List Value->Shared->Prop}(hh:A.handled=none)(hS:ft prog w s.heap S ks es ep t)
  (h:∀(h':Heap) (tk:Nat) (d:Drawn) (vs:List Value),s.heap.objs.size<=h'.objs.size->(∀b o,s.heap.get? b=some o->h'.get? b=some o)->vs.Perm (es.toList.map (·.2))->R vs {s with heap:=h',toks:=tk,drawn:=d}) :
  wpAny (model prog w) A (collect (.ref S)) R E s:=by
 have hlt:S<s.heap.objs.size:=Uw hS.obj
 unfold collect
 refine Ut (wpAny_runValue (codeAny_builtin entry_proto_collect' ?_))
 rw [Around.under_plainId PySem.F.plain_proto_collect _]
 show wpAny _ A.in1 (newList [] >>= λl=>again (.builtin "list.__iadd__" ⟨[l,.ref S],[]⟩)) _ _ s
 refine Ut (wpAny_newObj_type ?_)
 refine Uu ⟨plainId_quiet PySem.F.plain_list_iadd _,codeAny_builtin entry_list_iadd' ?_⟩
 rw [Around.under_plainId PySem.F.plain_list_iadd _]
 have hL:(s.heap.push {cls:=.type "list",data:=.seq ([]:List Value).toArray}).get? s.heap.objs.size=some {cls:=.type "list",data:=.seq #[]}:=Ux _ rfl
 show wpAny _ A.in1 (Builtin.List.listExtendWith (.ref s.heap.objs.size) (.ref S) (.ref s.heap.objs.size)) _ _ _
 have key:=w_ (A:=A) (s:={s with heap:=s.heap.push {cls:=.type "list",data:=.seq ([]:List Value).toArray}})
  (R:=λ(q:Result) (s':Shared)=>∃(h':Heap) (tk:Nat) (d:Drawn) (acc':Array Value) (c':Nat),q=.ok (.ret (.ref s.heap.objs.size))/\s' ={s with heap:=h',toks:=tk,drawn:=d}/\
   (∀b o,s.heap.get? b=some o->h'.get? b=some o)/\h'.get? s.heap.objs.size=some {cls:=.type "list",dict:=none,data:=.seq acc' c',slots:=#[]}/\acc'.toList.Perm (es.toList.map (·.2)))
  hh (hS.keep λo e=>Uv _ e) (Nat.ne_of_gt hlt) (.ref s.heap.objs.size) 0 hL
  (λh' tk d acc' c' hk hS' hacc=>⟨h',tk,d,acc',c',rfl,rfl,λb o e=>hk b o (Nat.ne_of_lt (Uw e)) (Uv _ e),hS',hacc⟩)
 refine wpAny_mono key (λfin s' x=>?_) λe s' x=>?_
 ·cases fin with
  | done f =>
   obtain⟨h',tk,d,acc',c',e,rfl,hk,hS',hacc⟩:=x
   cases e
   show wpAny _ A (load s.heap.objs.size >>= _) _ _ _
   refine Ut (wpAny_load hS' ?_)
   exact Uu (h h' tk d acc'.toList (Nat.le_of_lt (Uw hS')) hk hacc)
  | again c₁ =>
   refine⟨x.1,codeAny_mono x.2 λq s₂ y=>?_⟩
   obtain⟨h',tk,d,acc',c',rfl,rfl,hk,hS',hacc⟩:=y
   show wpAny _ A (load s.heap.objs.size >>= _) _ _ _
   refine Ut (wpAny_load hS' ?_)
   exact Uu (h h' tk d acc'.toList (Nat.le_of_lt (Uw hS')) hk hacc)
 ·obtain⟨_,_,_,_,_,e',_⟩:=x
  cases e'
theorem yi{S:Addr}{ks:List Key}{es:Array (Int×Value)}{ep:Nat}{t:SetTable}{Q:Value->Shared->Prop}(hh:A.handled=none)(hS:ft prog w s.heap S ks es ep t)
  (h:∀(h':Heap) (tk:Nat) (d:Drawn) (vs:List Value),s.heap.objs.size<=h'.objs.size->(∀b o,s.heap.get? b=some o->h'.get? b=some o)->vs.Perm (es.toList.map (·.2))->
   wpAny (model prog w) A.in1 (call (.builtin "list.sort") [.ref h'.objs.size]) (λ_ s'=>Q (.ref h'.objs.size) s') E {s with heap:=h'.push (seqObj "list" vs.toArray 0),toks:=tk,drawn:=d}) :
  wpAny (model prog w) A (call (.builtin "sorted") [.ref S]) Q E s:=by
 refine Calls.call_function_entry kind_sorted plain_sorted entry_sorted (args_sorted1 _) ?_
 unfold Builtin.«sorted»
 refine Ut (m:=checkCount "sorted" 1 1 _) (Uu ?_)
 refine Ut (vx (A:=A.in1) hh hS λh' tk d vs hz hk hp=>?_)
 have hl:vs.length<=sizeLine:=by rw [hp.length_eq,UC,Array.length_toList]; exact fits_of_scanBound hS.few
 refine Ut (wpAny_newList ?_ hl)
 refine Ut (wpAny_holding (wpAny_mono (h h' tk d vs hz hk hp) (λ_ s' x=>?_) λ_ _ e=>e))
 exact Uu ⟨_,rfl,x⟩
end
def v3(x y:Str):Prop:=x.cps.toList<y.cps.toList
theorem Ah:bootBuiltins "set"=some (.type "set"):=by kernel_rfl
theorem I0{x y:Str}(h:¬y.cps.toList<x.cps.toList)(n:x≠y):v3 x y:=by
 unfold v3
 have hle:x.cps.toList<=y.cps.toList:=List.not_lt.mp h
 refine Decidable.byContradiction λh2=>n ?_
 have OA:y.cps.toList<=x.cps.toList:=List.not_lt.mp h2
 have e:=List.le_antisymm hle OA
 cases x; cases y
 simp at e
 subst e
 rfl
theorem Fc{vs:List Value}{ss:List Str}(hS:StrsAre vs ss){xs:Array Keyed}(hp:xs.Perm (pairsOf vs))(hs:SortedToK strKind xs (pairsOf vs).size) :
  ∃ss',StrsAre (xs.map (·.2)).toList ss'/\ss'.Perm ss/\ss'.Pairwise λa b=>¬b.cps.toList<a.cps.toList:=by
 have hl:xs.toList.Perm (vs.zip vs):=by rw [←pairsOf_toList]; exact Array.perm_iff_toList_perm.mp hp
 have hmem:∀p,p∈xs.toList->p.1=p.2/\p.1∈vs:=λp hp'=>mem_zip_self (hl.mem_iff.mp hp')
 refine⟨xs.toList.map (λp=>strOf p.1),?_,?_,?_⟩
 ·have e:(xs.map (·.2)).toList=xs.toList.map (·.1):=by
   rw [Array.toList_map]; exact List.map_congr_left λp hp'=>(hmem p hp').1.symm
  rw [e]
  have h1:=strsAre_map (xs.toList.map (·.1)) (by
   intro v hv
   obtain⟨p,hp',rfl⟩:=List.mem_map.mp hv
   exact hS.all _ (hmem p hp').2)
  rwa [List.map_map]at h1
 ·have h1:=hl.map (λp=>strOf p.1)
  have e2:(vs.zip vs).map (λp=>strOf p.1)=ss:=by
   have:(vs.zip vs).map (λp=>strOf p.1)=((vs.zip vs).map Prod.fst).map strOf:=by rw [List.map_map]; rfl
   rw [this,List.map_fst_zip (Uy _),hS.strs]
  rwa [e2]at h1
 ·rw [List.pairwise_iff_getElem]
  intro i j hi hj hij
  have hi':i<xs.size:=by simpa using hi
  have hj':j<xs.size:=by simpa using hj
  have h1:=hs i j (Nat.le_of_lt hij) (by rw [←hp.size_eq]; exact hj')
  obtain⟨x,t,ex⟩:=hS.all _ (hmem xs[i] (by simp)).2
  obtain⟨y,u,ey⟩:=hS.all _ (hmem xs[j] (by simp)).2
  rw [KK_str hi' (x:=x) (t:=t) (q:=xs[i].2) (Prod.ext ex rfl),KK_str hj' (x:=y) (t:=u) (q:=xs[j].2) (Prod.ext ey rfl)]at h1
  change decide (y.cps.toList<x.cps.toList)=false at h1
  simp only [List.getElem_map,Array.getElem_toList]
  rw [show strOf xs[i].1=x by rw [ex]; rfl,show strOf xs[j].1=y by rw [ey]; rfl]
  exact of_decide_eq_false h1
section
variable{prog:Program}{w:World}{A:Around}{E:Value->Shared->Prop}{s:Shared}
theorem zy{a:Addr}{vs:List Value}{ns:List Int}{Q:Value->Shared->Prop}(ho:s.heap.get? a=some (seqObj "list" vs.toArray 0))(hI:IntsAre vs ns)(h64:vs.length<64)
  (h:∀(out:Array Value) (ns':List Int),IntsAre out.toList ns'->ns'.Perm ns->ns'.Pairwise (·<=·)->Q .none {s with heap:=sortedHeap s.heap a vs out}):wpAny (model prog w) A (call (.builtin "list.sort") [.ref a]) Q E s :=
 wpAny_call_entry slot_list_sort ⟨_,ho,rfl⟩ entry_list_sort (list_sort_tree ho hI h64 λout ns' a1 a2 a3=>⟨_,rfl,h out ns' a1 a2 a3⟩) (args_list_sort _)
theorem zr{a:Addr}{vs:List Value}{ss:List Str}{Q:Value->Shared->Prop}(ho:s.heap.get? a=some (seqObj "list" vs.toArray 0))(hS:StrsAre vs ss)(h64:vs.length<64)
  (h:∀(out:Array Value) (ss':List Str),StrsAre out.toList ss'->ss'.Perm ss->(ss'.Pairwise λa b=>¬b.cps.toList<a.cps.toList)->Q .none {s with heap:=sortedHeap s.heap a vs out}):wpAny (model prog w) A (call (.builtin "list.sort") [.ref a]) Q E s :=
 wpAny_call_entry slot_list_sort ⟨_,ho,rfl⟩ entry_list_sort (list_sort_treeK strKind_oneLt ho hS.keysOf (λv₁ v₂ rest e=>keyKind_strs (by rw [←e]; exact hS)) h64 λst' hp hs=>⟨_,rfl,by
  obtain⟨ss',h1,h2,h3⟩:=Fc hS hp hs
  exact h _ ss' h1 h2 h3⟩) (args_list_sort _)
end
def kZ(xs ys:List V):Prop :=
 (∃ns ms:List Int,xs=ns.map V.int/\ys=ms.map V.int/\ms.Pairwise (· < ·)/\∀n,n∈ms↔n∈ns)\/∃ns ms:List Str,xs=ns.map V.str/\ys=ms.map V.str/\ms.Pairwise v3/\∀n,n∈ms↔n∈ns
def Cq(K:PySem.W.Frag)(te:TE):TE:=λσ H Q=>te σ H λx H1=>∃a xs,x=.ref a/\(aZ K H1 a xs\/aH K H1 a xs)/\xs.length<64/\((∃ns:List Int,xs=ns.map V.int)\/∃ss:List Str,xs=ss.map V.str)/\
 ∀p ys,H1 p=none->kZ xs ys->Q (.ref p) (upd H1 p (.lst ys))
theorem IC{ms ms':List Int}(h:ms.Pairwise (·<=·))(n:ms.Nodup):ms.Pairwise (· < ·):=by
 rw [List.pairwise_iff_getElem]at h⊢
 intro i j hi hj hij
 have h1:=h i j hi hj hij
 have h2:=List.pairwise_iff_getElem.mp n i j hi hj hij
 omega
theorem yc{ns:List Int}:∀{us:List Value},IntsAre us ns->Vals (ns.map V.int) us:=by
 induction ns with
 | nil=>intro us r; cases r; exact .nil
 | cons y ys ih=>intro us r; cases r with | cons _ t r=>exact .cons ⟨t,rfl⟩ (ih r)
theorem wX{ns:List Str}:∀{us:List Value},StrsAre us ns->Vals (ns.map V.str) us:=by
 induction ns with
 | nil=>intro us r; cases r; exact .nil
 | cons y ys ih=>intro us r; cases r with | cons _ t r=>exact .cons ⟨t,rfl⟩ (ih r)
def keyV:V->Key
 | .int n=>.inl n
 | .str x=>.inr x
 | _=>.inl 0
def jh(xs:List V)(i:Nat):Key:=((xs[i]?).map keyV).getD (.inl 0)
theorem jJ{xs:List V}{k:Key}:k∈j8 (jh xs) xs.length↔∃x∈xs,keyV x=k:=by
 rw [vQ]
 constructor
 ·rintro⟨j,hj,e⟩
  refine⟨xs[j],List.getElem_mem hj,?_⟩
  unfold jh at e
  rw [UI hj]at e
  exact e
 ·rintro⟨x,hx,e⟩
  obtain⟨j,hj,rfl⟩:=List.mem_iff_getElem.mp hx
  refine⟨j,hj,?_⟩
  unfold jh
  rw [UI hj]
  exact e
theorem C1{xs:List V}{its:List Value}(r:Vals xs its)(hx:∀x∈xs,(∃n,x=.int n)\/∃y,x=.str y)(i:Nat)(v:Value)(e:its.toArray[i]? = some v):f9 (jh xs i) v=true/\v.scannable=true:=by
 have e':its[i]? = some v:=by simpa using e
 have hl:=r.length
 have hi:i<xs.length:=by rw [hl]; exact(List.getElem?_eq_some_iff.mp e').1
 obtain⟨u,hu,ru⟩:=r.get (UI hi)
 rw [e']at hu
 cases hu
 have ek:jh xs i=keyV xs[i]:=by unfold jh; rw [UI hi]; rfl
 rw [ek]
 rcases hx xs[i] (List.getElem_mem hi)with⟨n,q⟩ | ⟨y,q⟩
 ·rw [q]at ru⊢
  obtain⟨t,rfl⟩:=ru
  exact⟨lM n t,rfl⟩
 ·rw [q]at ru⊢
  obtain⟨t,rfl⟩:=ru
  exact⟨l9 y t,rfl⟩
section
variable{X:Cx}{e:Expr}{te:TE}{p1 p2 pos pos2:Pos}
theorem uF{pins:List (Addr×Obj)}{σ:St}{H:Hp}{s:Shared}{Q:VK}{S:Addr}{xs:List V}{es:Array (Int×Value)}{ep:Nat}{t:SetTable}(hc:X.calm=true)(I:Inv X pins σ H s)(hS:ft X.prog X.w s.heap S (j8 (jh xs) xs.length) es ep t)(h64:xs.length<64)
  (hx:(∃ns:List Int,xs=ns.map V.int)\/∃ss:List Str,xs=ss.map V.str) (q:∀p ys,H p=none->kZ xs ys->Q (.ref p) (upd H p (.lst ys))) :
  wpAny (model X.prog X.w) X.A (call (.builtin "sorted") [.ref S]) (EP X pins σ Q) X.xe s:=by
 refine yi (I.ok.hd hc) hS λh' tk d vs hz hk hp=>?_
 have hn:H h'.objs.size=none:=I.hok.fresh hz
 have hperm:(vs.map A6).Perm (j8 (jh xs) xs.length):=by
  refine(hp.map A6).trans ?_
  rw [List.map_map]
  exact hS.keys
 have hlen:vs.length<64:=by
  have h1:=hperm.length_eq
  have h2:=oX (jh xs) xs.length
  rw [UC]at h1
  omega
 have hel:∀v∈vs,∃k,f9 k v=true/\k∈j8 (jh xs) xs.length:=λv hv=>by
  obtain⟨e,he,rfl⟩:=List.mem_map.mp (hp.mem_iff.mp hv)
  obtain⟨⟨k,hk',_⟩,_⟩:=hS.els e he
  exact⟨k,hk',hS.mem.mp ⟨e,he,hk'⟩⟩
 have hob:(h'.push (seqObj "list" vs.toArray 0)).get? h'.objs.size=some (seqObj "list" vs.toArray 0):=Ux _ rfl
 have fin:∀(ys:List V) (out:Array Value),Vals ys out.toList->ys.length<64->kZ xs ys->EP X pins σ Q (.ref h'.objs.size) {s with heap:=sortedHeap (h'.push (seqObj "list" vs.toArray 0)) h'.objs.size vs out,toks:=tk,drawn:=d}:=λys out r hl so=>by
  have keep:∀b o,s.heap.get? b=some o->(sortedHeap (h'.push (seqObj "list" vs.toArray 0)) h'.objs.size vs out).get? b=some o:=λb o e=>by
   have hb:=hk b o e
   have hlt:=Uw hb
   rw [sortedHeap_old (Nat.ne_of_lt hlt) (by rw [size_push']; exact Nat.lt_succ_of_lt hlt)]
   exact Uv _ hb
  obtain⟨c,hat⟩ :∃c,(sortedHeap (h'.push (seqObj "list" vs.toArray 0)) h'.objs.size vs out).get? h'.objs.size=some (seqObj "list" out c):=sortedHeap_at hob
  have hobj:cu X.prog X.w (upd H h'.objs.size (.lst ys)) (sortedHeap (h'.push (seqObj "list" vs.toArray 0)) h'.objs.size vs out) h'.objs.size (.lst ys):=⟨by rw [sizeLine_eq]; omega,out.toList,c,r,by rw [hat]⟩
  refine⟨.ref h'.objs.size,upd H h'.objs.size (.lst ys),?_,rfl,q _ _ hn so⟩
  exact I.call' (s':={s with heap:=sortedHeap (h'.push (seqObj "list" vs.toArray 0)) h'.objs.size vs out,toks:=tk,drawn:=d}) (ch:=[]) rfl (Un.laid keep hz hn) (I.hok.laid keep hz hobj) I.bare λb hb=>absurd hb (by simp)
 rcases hx with⟨ns,rfl⟩ | ⟨ss,rfl⟩
 ·have hint:∀v∈vs,∃n t,v=Value.int n t:=λv hv=>by
   obtain⟨k,hk1,hk2⟩:=hel v hv
   obtain⟨x,hx,e⟩:=jJ.mp hk2
   obtain⟨n,hn',rfl⟩:=List.mem_map.mp hx
   subst e
   rcases bC hk1 with⟨i,t,e1,e2⟩ | ⟨y,t,e1,e2⟩
   ·exact⟨i,t,e2⟩
   ·cases e1
  have hI:=intsAre_map vs hint
  refine zy hob hI hlen λout ns' a1 a2 a3=>?_
  have ek:vs.map A6=(vs.map numOf).map Sum.inl:=by
   rw [List.map_map]
   refine List.map_congr_left λv hv=>?_
   obtain⟨n,t,rfl⟩:=hint v hv
   rfl
  have A0:ns'.Nodup:=by
   refine a2.nodup_iff.mpr ?_
   have h1:=hperm.nodup_iff.mpr hS.M6
   rw [ek]at h1
   exact(List.pairwise_map.mp h1).imp λhne e=>hne (congrArg _ e)
  refine fin (ns'.map V.int) out (yc a1) (by rw [UC,a2.length_eq,UC]; exact hlen) (.inl ⟨ns,ns',rfl,rfl,IC (ms':=[]) a3 A0,λn=>?_⟩)
  rw [a2.mem_iff]
  have:n∈vs.map numOf↔(Sum.inl n:Key)∈vs.map A6:=by
   rw [ek]
   constructor
   ·exact λh=>List.mem_map.mpr ⟨n,h,rfl⟩
   ·intro h
    obtain⟨m,hm,e⟩:=List.mem_map.mp h
    cases e
    exact hm
  rw [this,hperm.mem_iff,jJ]
  constructor
  ·rintro⟨x,hx,e⟩
   obtain⟨m,hm,rfl⟩:=List.mem_map.mp hx
   cases e
   exact hm
  ·exact λh=>⟨.int n,List.mem_map.mpr ⟨n,h,rfl⟩,rfl⟩
 ·have hstr:∀v∈vs,∃n t,v=Value.str n t:=λv hv=>by
   obtain⟨k,hk1,hk2⟩:=hel v hv
   obtain⟨x,hx,e⟩:=jJ.mp hk2
   obtain⟨n,hn',rfl⟩:=List.mem_map.mp hx
   subst e
   rcases bC hk1 with⟨i,t,e1,e2⟩ | ⟨y,t,e1,e2⟩
   ·cases e1
   ·exact⟨y,t,e2⟩
  have hI:=strsAre_map vs hstr
  refine zr hob hI hlen λout ns' a1 a2 a3=>?_
  have ek:vs.map A6=(vs.map strOf).map Sum.inr:=by
   rw [List.map_map]
   refine List.map_congr_left λv hv=>?_
   obtain⟨n,t,rfl⟩:=hstr v hv
   rfl
  have A0:ns'.Nodup:=by
   refine a2.nodup_iff.mpr ?_
   have h1:=hperm.nodup_iff.mpr hS.M6
   rw [ek]at h1
   exact(List.pairwise_map.mp h1).imp λhne e=>hne (congrArg _ e)
  refine fin (ns'.map V.str) out (wX a1) (by rw [UC,a2.length_eq,UC]; exact hlen) (.inr ⟨ss,ns',rfl,rfl,?_,λn=>?_⟩)
  ·rw [List.pairwise_iff_getElem]at a3⊢
   intro i j hi hj hij
   exact I0 (a3 i j hi hj hij) (List.pairwise_iff_getElem.mp A0 i j hi hj hij)
  rw [a2.mem_iff]
  have:n∈vs.map strOf↔(Sum.inr n:Key)∈vs.map A6:=by
   rw [ek]
   constructor
   ·exact λh=>List.mem_map.mpr ⟨n,h,rfl⟩
   ·intro h
    obtain⟨m,hm,e⟩:=List.mem_map.mp h
    cases e
    exact hm
  rw [this,hperm.mem_iff,jJ]
  constructor
  ·rintro⟨x,hx,e⟩
   obtain⟨m,hm,rfl⟩:=List.mem_map.mp hx
   cases e
   exact hm
  ·exact λh=>⟨.str n,List.mem_map.mpr ⟨n,h,rfl⟩,rfl⟩
theorem kH(hc:X.calm=true)(hg1:Gl X "sorted")(hm1:X.mg "sorted"=none)(hg2:Gl X "set")(hm2:X.mg "set"=none)(he:PE X e te)(hs1:starEach [e] X.env=[(false,eval e X.env)]:=by rfl)
  (hs2:starEach [Expr.Call (.Name "set" p2) [e] [] pos2] X.env=[(false,eval (.Call (.Name "set" p2) [e] [] pos2) X.env)]:=by rfl) :
  PE X (.Call (.Name "sorted" p1) [.Call (.Name "set" p2) [e] [] pos2] [] pos) (Cq X.K te):=by
 intro pins s σ H Q I h
 refine wpAny_Call_Name_kw (iG I hg1 hm1 boot_sorted ?_ (by decide) (by decide))
 refine PyProof.Rows.callWith_builtin1 ?_ hs2 rfl
 rw [hs2]
 refine Calls.spliced_cons ?_
 refine wpAny_Call_Name_kw (iG I hg2 hm2 Ah ?_ (by decide) (by decide))
 refine PyProof.Rows.callWith_type1 ?_ hs1 rfl
 rw [hs1]
 refine Calls.spliced_cons (b_ (he pins s σ H _ I h) λu s1 ⟨x,H1,I1,r1,a,xs,ex,Li,h64,hx,q⟩=>?_)
 refine Calls.spliced_nil ?_
 subst ex
 cases r1
 have hx':∀x∈xs,(∃n,x=.int n)\/∃y,x=.str y:=λx QT=>by
  rcases hx with⟨ns,rfl⟩ | ⟨ss,rfl⟩
  ·obtain⟨n,_,rfl⟩:=List.mem_map.mp QT; exact .inl ⟨n,rfl⟩
  ·obtain⟨n,_,rfl⟩:=List.mem_map.mp QT; exact .inr ⟨n,rfl⟩
 have go:∀{T:String} {its:List Value} {o:Obj},rP X.prog X.w T a its.toArray->Vals xs its->s1.heap.get? a=some o->o.cls=.type T->(∃n,o.data=.seq its.toArray n)->
   wpAny (model X.prog X.w) X.A (call (.type "set") [.ref a]) (λv s2=>wpAny (model X.prog X.w) X.A (spliced []) (λvs s3=>wpAny (model X.prog X.w) X.A (call (.builtin "sorted") (v::vs)) (EP X pins σ Q) X.xe s3) X.xe s2) X.xe s1:=λ{T its o} src r ho hcl hd=>by
  have hl:=r.length
  refine vB (key:=jh xs) src (I1.ok.hd hc) ho hcl hd (C1 r hx') (by simp [scanBound]; omega) λh' tk es ep t hS hk=>?_
  refine Calls.spliced_nil ?_
  have RI:its.toArray.size=xs.length:=by rw [UN,hl]
  rw [RI]at hS
  exact uF hc (I1.kept (t':=tk) hk) hS h64 hx q
 rcases Li with Li | Li
 ·obtain⟨its,r,pl,_⟩:=I1.list Li
  obtain⟨o,ho,hcl,hd⟩:=pl.isList
  exact go src_list r ho hcl hd
 ·obtain⟨its,r,pl,_⟩:=I1.tuple Li
  obtain⟨o,ho,hcl,hd⟩:=pl
  exact go E_ r ho hcl hd
end
end L2
namespace CS
open PySem L2
abbrev BX:=Option Int×Option Int
def eV:Option Int->V
 | none=>.non
 | some n=>.int n
inductive A_ where
 | num (uj:List BX)
 | Ke (b:Bool) (ws:List Str)
structure Nk(H:Hp)(t:Addr)(as:List Addr)(uj:List BX):Prop where
 tup:H t=some (.tup (as.map V.ref))
 len:as.length=uj.length
 at_:∀(i:Nat) a s,as[i]? = some a->uj[i]? = some s->H a=some (.tup [eV s.1,eV s.2])
def OD(s:BX)(n:Int):Bool:=s.1.all (λl=>decide (l<=n))&&s.2.all (λh=>decide (n<=h))
def IE:A_->V->Bool
 | .num uj,.int n=>uj.any λs=>OD s n
 | .num _,_=>false
 | .Ke b ws,.str x=>decide (x∈ws)==b
 | .Ke _ _,_=>false
def LW(s s':BX):Prop:=∃h l,s.2=some h/\s'.1=some l/\h+1<l
def OG(s:BX):Prop:=(∀l h,s.1=some l->s.2=some h->l<=h)/\∀n,s.1=some n\/s.2=some n->-(10 ^ 60)<n/\n<10 ^ 60
def Jj:BX->List Int
 | (none,none)=>[0,1]
 | (none,some h)=>[h,h-1]
 | (some l,hh)=>if hh=some l then [l]else [l,l+1]
def QE:Nat->Nat->List Nat->List Nat
 | 0,_,w=>w
 | f+1,l,w=>if l=0 then w else QE f ((l-1) / 26) ((97+(l-1) % 26)::w)
def Rg(n:Nat):Str:=⟨(QE (n+1) (n+1) []).toArray⟩
def besides(ws:List Str):List Str:=((List.range (ws.length+2)).map Rg).filter λx=>!decide (x∈ws)
def ur:A_->List V
 | .num uj=>(uj.flatMap Jj).map V.int
 | .Ke true ws=>ws.map V.str
 | .Ke false ws=>(besides ws).map V.str
def C5:Int->List BX->Int
 | acc,[]=>acc
 | acc,(some l,some h)::r=>C5 (acc+if h-l+1<3 then h-l+1 else 3) r
 | _,_::_=>3
def CL:A_->Int
 | .num uj=>C5 0 uj
 | .Ke b ws=>if b=true then ws.length else 3
def DN:A_->V->Prop
 | .num _,v=>∃n,v=.int n
 | .Ke _ _,v=>∃x,v=.str x/\isW x
theorem x4{x:Str}(h:v3 x x):False:=List.lt_irrefl _ h
theorem D6{ws:List Str}(h:ws.Pairwise v3):ws.Nodup:=h.imp λhl e=>by subst e; exact x4 hl
structure Q7(S:A_):Prop where
 mem:∀x∈ur S,IE S x=true/\DN S x
 tri:(CL S=0/\ur S=[]/\∀v,IE S v=false)\/(CL S=1/\∃c,ur S=[c]/\∀v,IE S v=true->v=c)\/(2<=CL S/\∃x∈ur S,∃y∈ur S,x≠y)
end CS
namespace L2
open PySem
end L2
namespace My
open PySem L2 CT CS
abbrev wF:Stmt:=top 56
abbrev xm:Stmt:=top 57
abbrev IP:Stmt:=top 58
abbrev r_:Stmt:=top 59
abbrev pK:Stmt:=top 60
abbrev xV:Stmt:=top 61
abbrev wG:Stmt:=top 62
abbrev sN:Stmt:=top 63
abbrev yd:Stmt:=top 64
abbrev sG:Stmt:=top 65
abbrev wY:Stmt:=top 66
theorem FO:az ["_law_pot_here","_law_sort"] ["_law_pot_here","_law_sort"] (ar wF):=fs
theorem Gb:az ["_law_pot_here","_law_sort"] ["_law_pot_here","_law_sort"] (ar xm):=fs
theorem Cs:az ["_law_pot_here","_law_sort","_law_low","_law_some"] ["_law_pot_here","_law_sort"] (ar IP):=fs
theorem DK:az ["_law_pot_here","_law_head"] ["_law_pot_here","_law_head"] (ar r_):=fs
theorem Aa:az ["_law_pot_here","_law_head","_law_many_here"] ["_law_pot_here","_law_head","_law_many_here"] (ar pK):=fs
theorem Fg:az ["_law_pot_here"] ["_law_pot_here"] (ar wG):=fs
structure iK(mg:Str->Option Value):Prop where
 int:mg "int"=none
 min:mg "min"=none
 all:mg "all"=none
 sorted:mg "sorted"=none
 set:mg "set"=none
def dP(v:V):Prop:=(∃n,v=.int n)\/∃x,v=.str x
structure cZ(K:PySem.W.Frag)(H:Hp)(a:Addr)(hs:List Str):Prop where
 tup:H a=some (.tup (hs.map V.str))
 pos:1<=hs.length
 few:hs.length<=6
theorem cZ.grow{K:PySem.W.Frag}{p a:Addr}{H H1:Hp}{hs:List Str}(hP:dh H p)(g:bo p H H1)(h:cZ K H a hs):cZ K H1 a hs :=
 ⟨g.keep _ _ (λz=>by obtain⟨x,y,e,_⟩:=hP; have:=h.tup; rw [z,e]at this; cases this) h.tup,h.pos,h.few⟩
def sd:Sp:=λvs H Q _=>∃(p:Addr) (s:Str),vs=[.ref p,.str s]/\dh H p/\∀x H',bo p H H'->Q (.str x) H'
def sC:Sp:=λvs H Q _=>∃(p:Addr) (s:Str),vs=[.ref p,.str s]/\dh H p/\∀v H',bo p H H'->dP v->Q v H'
def ic(K:PySem.W.Frag):Sp:=λvs H Q _=>∃(p a:Addr) (hs:List Str),vs=[.ref p,.ref a]/\dh H p/\cZ K H a hs/\∀(n:Int) H',bo p H H'->1<=n->n<=12->Q (.int n) H'
def lK(K:PySem.W.Frag):Sp:=λvs H Q _=>∃(p a:Addr) (hs:List Str) (m:Int),vs=[.ref p,.ref a,.int m]/\dh H p/\cZ K H a hs/\0<=m/\m<=10/\∀t (ns:List Int) H',bo p H H'->H' t=some (.tup (ns.map V.int))->ns.length=m.toNat->(∀n∈ns,1<=n)->Q (.ref t) H'
def rO:Sp:=λvs H Q _=>∃(p:Addr),vs=[.ref p]/\dh H p/\∀x H',bo p H H'->Q (.str x) H'
theorem qV{m:Int}(h0:0<m)(h1:m<=1000):m.natAbs.log2<9000:=UG (Nat.log2_le_self _) (by omega)
theorem jO{j:Int}(h:0<=j)(h1:j<=1000):-(2 ^ 62)<=j/\j<2 ^ 62:=by
 have e:((2:Int) ^ 62)=4611686018427387904:=by decide
 rw [e]; omega
variable{P:Program}{w:World}{K:PySem.W.Frag}{mg:Str->Option Value}{base:Heap}
theorem CG(B2:iK mg)(F:FA K mg "_law_a_sort" wF)(G:bf bc P w K mg base 1 "_law_draw" ["_law_pot_here","_law_many_here"] dn) :
  bf bc P w K mg base 2 "_law_a_sort" ["_law_pot_here","_law_sort"] sd:=by
 refine F.ok FO λf cdv A outer s H vs Q E hr h=>?_
 obtain⟨p,x,rfl,hP,q⟩:=h
 refine⟨_,aq (dy (aW aP (ay G hr (ae (pv 0) (ae ai ah))) ai) (ax (bj K (aQ (ae ao (ae ao ah))) (ay G hr (ae (pv 0) (ae ai ah))))) b9)
  (ax (bj K (aQ (ae ao (ae (pv 1) ah))) (aV cA rfl B2.int PyProof.Rows.boot_int (ae (bU md (pv 1) ao) ah)))),?_⟩
 refine⟨_,rfl,p,_,rfl,hP,by decide,by decide,λe1 H1 g1 a1 b1=>⟨rfl,_,rfl,?_⟩⟩
 refine cI (λ_=>?_) (λ_=>?_)
 ·refine⟨cM,λD hD=>?_⟩
  have g2:=g1.new (o:=.lst [.str "n",.str "w"]) hD
  refine⟨_,rfl,p,_,rfl,g2.cf,by decide,by decide,λe2 H2 g3 a2 b2=>?_⟩
  have hd:e2=0\/e2=1:=by omega
  have hk:=g3.keep D _ (g1.ne hD) ag
  rcases hd with z | z <;> subst z
  ·exact⟨D,_,_,_,rfl,rfl,aZ.of hk,rfl,q _ _ (g2.trans g3)⟩
  ·exact⟨D,_,_,_,rfl,rfl,aZ.of hk,rfl,q _ _ (g2.trans g3)⟩
 ·refine⟨_,rfl,cM,λD hD=>?_⟩
  have g2:=g1.new (o:=.lst [.str "n",.str x]) hD
  refine⟨_,rfl,rfl,.inr ⟨_,rfl,?_⟩⟩
  have pC:∃z:Str,ja [V.str "n",V.str x] (if(!decide (V.str x=V.str "t"))=true then 1 else 0)=some (.str z):=by
   cases(!decide (V.str x=V.str "t"))
   ·exact⟨_,rfl⟩
   ·exact⟨_,rfl⟩
  obtain⟨z,hz⟩:=pC
  exact⟨D,_,_,_,rfl,rfl,aZ.of ag,hz,q z _ g2⟩
theorem Dt(F:FA K mg "_law_cell" xm)(G:bf bc P w K mg base 2 "_law_a_sort" ["_law_pot_here","_law_sort"] sd)(G3:bf bc P w K mg base 2 "_law_word" ["_law_pot_here"] r8)(G2:bf bc P w K mg base 2 "_law_number" ["_law_pot_here"] pH) :
  bf bc P w K mg base 3 "_law_cell" ["_law_pot_here","_law_sort"] sC:=by
 refine F.ok Gb λf cdv A outer s H vs Q E hr h=>?_
 obtain⟨p,x,rfl,hP,q⟩:=h
 refine⟨_,aq (dy (aW aP (ay G hr (ae (pv 0) (ae (pv 1) ah))) ao) (ax (ay G3 hr (ae (pv 0) ah))) b9)
  (ax (ay G2 hr (ae (pv 0) ah))),?_⟩
 refine⟨_,rfl,_,rfl,p,x,rfl,hP,λy H1 g1=>⟨rfl,_,rfl,?_⟩⟩
 refine cI (λ_=>?_) (λ_=>?_)
 ·exact⟨_,rfl,p,rfl,g1.cf,λz H2 g2 n1=>q _ _ (g1.trans g2) (.inr ⟨z,rfl⟩)⟩
 ·exact⟨_,rfl,p,rfl,g1.cf,λn H2 g2 n1 n2=>q _ _ (g1.trans g2) (.inl ⟨n,rfl⟩)⟩
theorem zH(B:jV mg)(F:FA K mg "_law_column" r_)(G:bf bc P w K mg base 1 "_law_draw" ["_law_pot_here","_law_many_here"] dn) :
  bf bc P w K mg base 2 "_law_column" ["_law_pot_here","_law_head"] (ic K):=by
 refine F.ok DK λf cdv A outer s H vs Q E hr h=>?_
 obtain⟨p,a,hs,rfl,hP,hh,q⟩:=h
 refine⟨_,aq (dy (aW aP (ay G hr (ae (pv 0) (ae ai ah))) ai) (ax (aF cX ai (ay G hr (ae (pv 0) (ae ai ah))))) b9)
  (ax (aF cX ai (ay G hr (ae (pv 0) (ae (a_ bE rfl B.len PySem.boot_len (ae (pv 1) ah)) ah))))),?_⟩
 refine⟨_,rfl,p,_,rfl,hP,by decide,by decide,λe1 H1 g1 a1 b1=>⟨rfl,_,rfl,?_⟩⟩
 refine cI (λ_=>?_) (λ_=>?_)
 ·exact⟨_,rfl,p,_,rfl,g1.cf,by decide,by decide,λe2 H2 g2 a2 b2=>⟨_,_,rfl,rfl,q _ _ (g1.trans g2) (by omega) (by omega)⟩⟩
 ·have h1:=hh.grow hP g1
  have hl:(hs.map V.str).length=hs.length:=UC _
  have:=hh.pos
  have:=hh.few
  exact⟨_,rfl,_,rfl,a,_,rfl,.inr (aH.of h1.tup),p,_,rfl,g1.cf,by omega,qV (by omega) (by omega),λe2 H2 g2 a2 b2=>⟨_,_,rfl,rfl,q _ _ (g1.trans g2) (by omega) (by omega)⟩⟩
theorem xG(B:jV mg)(F:FA K mg "_law_columns" pK)(G:bf bc P w K mg base 2 "_law_column" ["_law_pot_here","_law_head"] (ic K)) :
  bf bc P w K mg base 3 "_law_columns" ["_law_pot_here","_law_head","_law_many_here"] (lK K):=by
 refine F.ok Aa λf cdv A outer s H vs Q E hr h=>?_
 obtain⟨p,a,hs,m,rfl,hP,hh,m0,m1,q⟩:=h
 refine⟨_,bK (D5 (aV bB rfl B.tuple PyProof.Rows.boot_tuple (ae (bw (N':=["_law_k","_law_pot_here","_law_head"]) (src:=[none,some 0,some 1]) rfl (ba.jL (by kernel_rfl)) (dm rfl B.range (ae (pv 2) ah)) (λcl C s H fp=>eA (i:=0)) (λcl C s H fp=>aX)
   (λcl C s H fp=>ay (hg:=we) G hr (ae (yI 1) (ae (yI 2) ah)))) ah))),?_⟩
 have g0:=bo.refl hP
 refine⟨_,rfl,m,rfl,(jO m0 (by omega)).1,(jO m0 (by omega)).2,λD hD=>?_⟩
 have nD:=g0.ne hD
 refine iL (n:=m.toNat) (λi σ ys H'=>(∃o,σ=[o,some (.ref p),some (.ref a)])/\(∃ns:List Int,ys=ns.map V.int/\ns.length=i/\∀n∈ns,1<=n)/\H' D=some (.lst ys)/\bo p H H')
  ⟨⟨none,rfl⟩,⟨[],rfl,rfl,by simp⟩,ag,g0.new hD⟩ ?_ ?_ ?_ ?_
 ·rintro i σ ys H' _ ⟨_,⟨ns,rfl,rfl,_⟩,h,_⟩
  exact⟨h,by rw [UC]; exact Uy _⟩
 ·exact Uz (show m.toNat<=10 by omega) (by decide)
 ·rintro i σ ys H' hi ⟨⟨o,rfl⟩,⟨ns,rfl,rfl,hp⟩,h,g⟩
  exact⟨_,rfl,_,rfl,p,a,hs,rfl,g.cf,hh.grow hP g,λn H2 g2 n1 n2=>⟨g2.keep D _ nD h,⟨_,rfl⟩,⟨ns++[n],by rw [UE]; rfl,by rw [UD]; rfl,λk hk=>by rcases List.mem_append.mp hk with z | z; exact hp k z; rw [List.mem_singleton.mp z]; exact n1⟩,ag,g0.put hD nD (g.trans g2)⟩⟩
 ·rintro σ ys H' ⟨_,⟨ns,rfl,hn,hp⟩,h,g⟩
  exact⟨D,_,rfl,.inl ⟨aZ.of h,λt ht=>q t ns _ (g.new ht) ag hn hp⟩⟩
theorem DJ(F:FA K mg "_law_state" wG)(G:bf bc P w K mg base 2 "_law_draw" ["_law_pot_here","_law_many_here"] dn)(G3:bf bc P w K mg base 2 "_law_word" ["_law_pot_here"] r8) :
  bf bc P w K mg base 3 "_law_state" ["_law_pot_here"] rO:=by
 refine F.ok Fg λf cdv A outer s H vs Q E hr h=>?_
 obtain⟨p,rfl,hP,q⟩:=h
 refine⟨_,aq (dy (aW aP (ay G hr (ae (pv 0) (ae ai ah))) ai) (ax (ay G3 hr (ae (pv 0) ah))) b9)
  (ax (bj K (aQ (ae ao (ae ao (ae ao ah)))) (ay G hr (ae (pv 0) (ae ai ah))))),?_⟩
 refine⟨_,rfl,p,_,rfl,hP,by decide,by decide,λe1 H1 g1 a1 b1=>⟨rfl,_,rfl,?_⟩⟩
 refine cI (λ_=>?_) (λ_=>?_)
 ·exact⟨_,rfl,p,rfl,g1.cf,λz H2 g2 n1=>q _ _ (g1.trans g2)⟩
 ·refine⟨gw,λD hD=>?_⟩
  have g2:=g1.new (o:=.lst [.str "s",.str "t",.str "u"]) hD
  refine⟨_,rfl,p,_,rfl,g2.cf,by decide,by decide,λe2 H2 g3 a2 b2=>?_⟩
  have hd:e2=0\/e2=1\/e2=2:=by omega
  have hk:=g3.keep D _ (g1.ne hD) ag
  rcases hd with z | z | z <;> subst z
  ·exact⟨D,_,_,_,rfl,rfl,aZ.of hk,rfl,q _ _ (g2.trans g3)⟩
  ·exact⟨D,_,_,_,rfl,rfl,aZ.of hk,rfl,q _ _ (g2.trans g3)⟩
  ·exact⟨D,_,_,_,rfl,rfl,aZ.of hk,rfl,q _ _ (g2.trans g3)⟩
end My
namespace My
open PySem L2
theorem ia{p a:Addr}{H H':Hp}{xs:List V}(hP:dh H p)(g:bo p H H')(e:H a=some (.tup xs)):H' a=some (.tup xs):=g.keep _ _ (λz=>by obtain⟨x,y,e2,_⟩:=hP; rw [z,e2]at e; cases e) e
def aE(H H':Hp):Prop:=∀a xs,H a=some (.tup xs)->H' a=some (.tup xs)
theorem aE.of{H H':Hp}(s:aM H H'):aE H H':=λ_ _ e=>s _ _ e
theorem aE.grow{p:Addr}{H H':Hp}(hP:dh H p)(g:bo p H H'):aE H H':=λa xs e=>ia hP g e
abbrev Hd:=List Str
theorem bq{H H':Hp}{D:Addr}{o:HO}(hD:H D=none)(s:aM H H'):aM H (upd H' D o):=λb u e=>by
 rw [aI (aU e hD)]; exact s _ _ e
theorem take_one{α:Type}{ws:List α}{i:Nat}{w:α}(h:ws[i]? = some w):ws.take (i+1)=ws.take i++[w]:=by
 rw [List.take_add_one,h]; rfl
theorem aG{D:Ends}{σ:St}{H:Hp}(h:D.nx σ H):Ef D σ H:=h
def sW:V->Str
 | .str _=>"w"
 | _=>"n"
def bt(hd:Hd)(c:Int):Str:=hd.getD (c-1).toNat ""
inductive W1 where
 | keep (c:Int) (t:Str)
 | same (c d:Int)
 | cut (cs:List Int)
 | turn (c:Int) (ps:List (V×V))
 | must (c:Int) (ps:List (V×V))
 | walk (c:Int) (mv:List V)
 | sort (cs:List Int)
 | apart
 | count (cs:List Int)
 | sum (cs:List Int) (c:Int)
 | number
 | first (n:Int)
inductive Wk where
 | one (x:W1)
 | both (p q:List Wk)
 | meet (c d:Int) (p q:List Wk)
def W1.nm:W1->Str
 | .keep ..=>"keep"
 | .same ..=>"same"
 | .cut ..=>"cut"
 | .turn ..=>"turn"
 | .must ..=>"must"
 | .walk ..=>"walk"
 | .sort ..=>"sort"
 | .apart=>"apart"
 | .count ..=>"count"
 | .sum ..=>"sum"
 | .number=>"number"
 | .first ..=>"first"
def Wk.nm:Wk->Str
 | .one x=>x.nm
 | .both ..=>"both"
 | .meet ..=>"meet"
structure bO{α:Type}(At:Hp->Addr->α->Prop)(H:Hp)(p:Addr)(bs:List Addr)(xs:List α):Prop where
 tup:H p=some (.tup (bs.map V.ref))
 len:bs.length=xs.length
 at_:∀(i:Nat) a x,bs[i]? = some a->xs[i]? = some x->At H a x
theorem bO.keep{α:Type}{At:Hp->Addr->α->Prop}{H H':Hp}{p:Addr}{bs:List Addr}{xs:List α}(k:aE H H')(kA:∀a x,At H a x->At H' a x)(h:bO At H p bs xs):bO At H' p bs xs:=⟨k _ _ h.tup,h.len,λi a x e1 e2=>kA _ _ (h.at_ i a x e1 e2)⟩
theorem bO.get{α:Type}{At:Hp->Addr->α->Prop}{H:Hp}{p:Addr}{bs:List Addr}{xs:List α}(h:bO At H p bs xs){i:Nat}{x:V}(hx:(bs.map V.ref)[i]? = some x):∃(a:Addr) (y:α),x=.ref a/\xs[i]? = some y/\At H a y:=by
 rw [List.getElem?_map]at hx
 cases e:bs[i]? with
 | none=>rw [e]at hx; cases hx
 | some b =>
  rw [e]at hx
  have hx':V.ref b=x:=Option.some.inj hx
  subst hx'
  have hi:i<xs.length:=by rw [←h.len]; exact(List.getElem?_eq_some_iff.mp e).1
  have er:xs[i]? = some xs[i]:=UI hi
  exact⟨b,xs[i],rfl,er,h.at_ i b _ e er⟩
abbrev ku(H:Hp)(a:Addr)(p:V×V):Prop:=H a=some (.tup [p.1,p.2])
def AQ(H:Hp)(a:Addr)(v:V):Prop:=∃s t,H a=some (.tup [.str s,v,.str t])
def Ao(H:Hp)(a:Addr)(c:Int):Prop:=∃b,H a=some (.tup [.int c,.bl b])
def jS(H:Hp)(a:Addr):W1->Prop
 | .keep c t=>∃s xs,H a=some (.tup [.str "keep",.int c,.ref s])/\H s=some (.tup (.str t::xs))
 | .same c d=>H a=some (.tup [.str "same",.int c,.int d])
 | .cut cs=>∃t,H a=some (.tup [.str "cut",.ref t])/\H t=some (.tup (cs.map V.int))
 | .turn c ps=>∃t bs,H a=some (.tup [.str "turn",.int c,.ref t])/\bO ku H t bs ps
 | .must c ps=>∃t bs,H a=some (.tup [.str "must",.int c,.ref t])/\bO ku H t bs ps
 | .walk c mv=>∃s t bs,H a=some (.tup [.str "walk",.int c,.str s,.ref t])/\bO AQ H t bs mv
 | .sort cs=>∃t bs,H a=some (.tup [.str "sort",.ref t])/\bO Ao H t bs cs
 | .apart=>H a=some (.tup [.str "apart"])
 | .count cs=>∃t,H a=some (.tup [.str "count",.ref t])/\H t=some (.tup (cs.map V.int))
 | .sum cs c=>∃t,H a=some (.tup [.str "sum",.ref t,.int c])/\H t=some (.tup (cs.map V.int))
 | .number=>H a=some (.tup [.str "number"])
 | .first n=>H a=some (.tup [.str "first",.int n])
theorem AQ.keep{H H':Hp}(k:aE H H'){a:Addr}{v:V}(h:AQ H a v):AQ H' a v:=by
 obtain⟨s,t,h⟩:=h; exact⟨s,t,k _ _ h⟩
theorem Ao.keep{H H':Hp}(k:aE H H'){a:Addr}{c:Int}(h:Ao H a c):Ao H' a c:=by
 obtain⟨b,h⟩:=h; exact⟨b,k _ _ h⟩
theorem jS.keep{H H':Hp}{a:Addr}{x:W1}(k:aE H H')(h:jS H a x):jS H' a x:=by
 cases x with
 | keep c t=>obtain⟨s,xs,h1,h2⟩:=h; exact⟨s,xs,k _ _ h1,k _ _ h2⟩
 | same c d=>exact k _ _ h
 | cut cs=>obtain⟨t,h1,h2⟩:=h; exact⟨t,k _ _ h1,k _ _ h2⟩
 | turn c ps=>obtain⟨t,bs,h1,h2⟩:=h; exact⟨t,bs,k _ _ h1,h2.keep k λ_ _ z=>k _ _ z⟩
 | must c ps=>obtain⟨t,bs,h1,h2⟩:=h; exact⟨t,bs,k _ _ h1,h2.keep k λ_ _ z=>k _ _ z⟩
 | walk c mv=>obtain⟨s,t,bs,h1,h2⟩:=h; exact⟨s,t,bs,k _ _ h1,h2.keep k λ_ _ z=>z.keep k⟩
 | sort cs=>obtain⟨t,bs,h1,h2⟩:=h; exact⟨t,bs,k _ _ h1,h2.keep k λ_ _ z=>z.keep k⟩
 | apart=>exact k _ _ h
 | count cs=>obtain⟨t,h1,h2⟩:=h; exact⟨t,k _ _ h1,k _ _ h2⟩
 | sum cs c=>obtain⟨t,h1,h2⟩:=h; exact⟨t,k _ _ h1,k _ _ h2⟩
 | number=>exact k _ _ h
 | first n=>exact k _ _ h
theorem jS.first{H:Hp}{a:Addr}{x:W1}(h:jS H a x):∃xs,H a=some (.tup (.str x.nm::xs)):=by
 cases x with
 | keep c t=>obtain⟨s,xs,h1,h2⟩:=h; exact⟨_,h1⟩
 | same c d=>exact⟨_,h⟩
 | cut cs=>obtain⟨t,h1,h2⟩:=h; exact⟨_,h1⟩
 | turn c ps=>obtain⟨t,bs,h1,h2⟩:=h; exact⟨_,h1⟩
 | must c ps=>obtain⟨t,bs,h1,h2⟩:=h; exact⟨_,h1⟩
 | walk c mv=>obtain⟨s,t,bs,h1,h2⟩:=h; exact⟨_,h1⟩
 | sort cs=>obtain⟨t,bs,h1,h2⟩:=h; exact⟨_,h1⟩
 | apart=>exact⟨_,h⟩
 | count cs=>obtain⟨t,h1,h2⟩:=h; exact⟨_,h1⟩
 | sum cs c=>obtain⟨t,h1,h2⟩:=h; exact⟨_,h1⟩
 | number=>exact⟨_,h⟩
 | first n=>exact⟨_,h⟩
def dk:Nat->Hp->Addr->Wk->Prop
 | _,H,a,.one x=>jS H a x
 | 0,_,_,_=>False
 | n+1,H,a,.both p q=>∃b c bs cs,H a=some (.tup [.str "both",.ref b,.ref c])/\bO (dk n) H b bs p/\bO (dk n) H c cs q
 | n+1,H,a,.meet c d p q=>∃b e bs es,H a=some (.tup [.str "meet",.int c,.int d,.ref b,.ref e])/\bO (dk n) H b bs p/\bO (dk n) H e es q
abbrev jA(n:Nat)(H:Hp)(p:Addr)(ws:List Wk):Prop:=∃bs,bO (dk n) H p bs ws
theorem dk.keep{H H':Hp}(k:aE H H'):∀{n:Nat} {a:Addr} {x:Wk},dk n H a x->dk n H' a x
 | 0,a,.one x,h=>jS.keep k h
 | n+1,a,.one x,h=>jS.keep k h
 | n+1,a,.both p q,h=>by
  obtain⟨b,c,bs,cs,h1,h2,h3⟩:=h
  exact⟨b,c,bs,cs,k _ _ h1,h2.keep k λ_ _ z=>z.keep k,h3.keep k λ_ _ z=>z.keep k⟩
 | n+1,a,.meet c d p q,h=>by
  obtain⟨b,e,bs,es,h1,h2,h3⟩:=h
  exact⟨b,e,bs,es,k _ _ h1,h2.keep k λ_ _ z=>z.keep k,h3.keep k λ_ _ z=>z.keep k⟩
theorem dk.first{H:Hp}:∀{n:Nat} {a:Addr} {x:Wk},dk n H a x->∃xs,H a=some (.tup (.str x.nm::xs))
 | 0,a,.one x,h=>jS.first h
 | n+1,a,.one x,h=>jS.first h
 | n+1,a,.both p q,h=>by obtain⟨b,c,bs,cs,h1,_⟩:=h; exact⟨_,h1⟩
 | n+1,a,.meet c d p q,h=>by obtain⟨b,e,bs,es,h1,_⟩:=h; exact⟨_,h1⟩
theorem jA.keep{n:Nat}{H H':Hp}{p:Addr}{ws:List Wk}(k:aE H H')(h:jA n H p ws):jA n H' p ws:=by
 obtain⟨bs,h⟩:=h
 exact⟨bs,h.keep k λ_ _ z=>z.keep k⟩
abbrev dW(H:Hp)(a:Addr)(h:Hd):Prop:=H a=some (.tup (h.map V.str))
structure fQ(H:Hp)(l:Addr)(as:List Addr)(hs:List Hd):Prop where
 lst:H l=some (.lst (as.map V.ref))
 len:as.length=hs.length
 at_:∀(i:Nat) a h,as[i]? = some a->hs[i]? = some h->dW H a h
theorem fQ.same{H H':Hp}{l:Addr}{as:List Addr}{hs:List Hd}(s:aM H H')(h:fQ H l as hs):fQ H' l as hs:=⟨s _ _ h.lst,h.len,λi a r e1 e2=>s _ _ (h.at_ i a r e1 e2)⟩
theorem fQ.nth{H:Hp}{l:Addr}{as:List Addr}{hs:List Hd}{i:Nat}{h:Hd}(x:fQ H l as hs)(e:hs[i]? = some h):∃a,(as.map V.ref)[i]? = some (.ref a)/\dW H a h:=by
 have hi:i<as.length:=by rw [x.len]; exact(List.getElem?_eq_some_iff.mp e).1
 exact⟨as[i],by rw [List.getElem?_map,UI hi]; rfl,x.at_ i _ _ (UI hi) e⟩
theorem dE{hd:List Str}{c:Int}(h:1<=c/\c<=hd.length):ja (hd.map V.str) (c-1)=some (.str (bt hd c)):=by
 have hi:(c-1).toNat<hd.length:=by omega
 have e:(((c-1).toNat:Nat):Int)=c-1:=by omega
 have:=av (xs:=hd.map V.str) (j:=(c-1).toNat) (v:=.str (bt hd c)) (by
  rw [List.getElem?_map,UI hi]
  unfold bt
  rw [List.getD_eq_getElem?_getD,UI hi]
  rfl)
 rw [e]at this
 exact this
def c7:W1->List Int
 | .keep c _=>[c]
 | .same c d=>[c,d]
 | .cut cs=>cs
 | .turn c _=>[c]
 | .must c _=>[c]
 | .walk c _=>[c]
 | .sort cs=>cs
 | .count cs=>cs
 | .sum cs c=>cs++[c]
 | _=>[]
def p9:W1->Prop
 | .cut cs=>cs.length<=1000
 | .sort cs=>cs.length<=1000
 | .count cs=>cs.length<=1000
 | .sum cs _=>cs.length<=1000
 | .turn _ ps=>ps.length<=1000
 | .must _ ps=>ps.length<=1000
 | .walk _ mv=>mv.length<=1000
 | _=>True
def GG:W1->Prop
 | .turn _ ps=>∀p∈ps,dP p.1/\dP p.2
 | .must _ ps=>∀p∈ps,dP p.1/\dP p.2
 | .walk _ mv=>∀v∈mv,v=.non\/dP v
 | _=>True
def ne1:W1->Prop
 | .turn _ ps=>ps≠[]/\ps.length<=50
 | .must _ ps=>ps≠[]/\ps.length<=50
 | .walk _ mv=>mv.length<=50
 | .cut cs=>cs≠[]
 | _=>True
structure D_(x:W1):Prop where
 sm:p9 x
 good:GG x
 ne:ne1 x
 pos:∀c∈c7 x,1<=c
end My
namespace CS
open PySem L2
structure Us(H:Hp)(l:Addr)(as:List Addr)(uj:List BX):Prop where
 lst:H l=some (.lst (as.map V.ref))
 len:as.length=uj.length
 at_:∀(i:Nat) a s,as[i]? = some a->uj[i]? = some s->H a=some (.tup [eV s.1,eV s.2])
def Bd(ms:List Int)(s:BX):Prop:=∃l h,s=(some l,some h)/\l<=h/\(-(10 ^ 60)<l/\h<10 ^ 60)/\∀m∈ms,h<m
structure P7(ms:List Int)(uj:List BX):Prop where
 pw:uj.Pairwise LW
 bd:∀s∈uj,Bd ms s
structure Ul(uj:List BX):Prop where
 pw:uj.Pairwise LW
 ok:∀s∈uj,OG s
theorem vh{α:Type} [DecidableEq α]:∀{ms ns:List α},ms.Nodup->(∀m∈ms,m∈ns)->ms.length<=ns.length
 | [],_,_,_=>Nat.zero_le _
 | m::ms,ns,nd,h=>by
  have Q_:=List.nodup_cons.mp nd
  have hm:=h m List.mem_cons_self
  have ih:=vh (ms:=ms) (ns:=ns.erase m) Q_.2 λx hx=>(List.mem_erase_of_ne (λe=>Q_.1 (by rw [←e]; exact hx))).mpr (h x (UL _ hx))
  rw [List.length_erase_of_mem hm]at ih
  have:0<ns.length:=List.length_pos_of_mem hm
  rw [List.length_cons]
  omega
theorem sorted_strs{ns:List Str}{ys:List V}(h:kZ (ns.map V.str) ys):∃ms:List Str,ys=ms.map V.str/\ms.Pairwise v3/\(∀n∈ms,n∈ns)/\ms.length<=ns.length:=by
 rcases h with⟨ss,ms,e1,e2,h1,h2⟩ | ⟨ns',ms,e1,e2,h1,h2⟩
 ·cases ns with
  | nil =>
   cases ss with
   | nil =>
    cases ms with
    | nil=>exact⟨[],e2,.nil,by simp,Uy _⟩
    | cons m ms=>exact absurd ((h2 m).mp List.mem_cons_self) (by simp)
   | cons s ss=>cases e1
  | cons n ns =>
   cases ss with
   | nil=>cases e1
   | cons s ss=>simp at e1
 ·have:ns=ns':=by
   have:=congrArg (List.map λv=>match v with | V.str n=>n | _=>"") e1
   simpa [List.map_map,Function.comp_def] using this
  subst this
  exact⟨ms,e2,h1,λn hn=>(h2 n).mp hn,vh (D6 h1) λn hn=>(h2 n).mp hn⟩
end CS
namespace My
open PySem L2 CT CS
theorem ak{i:Nat}{v:V}{σ:St}{H:Hp}{k:St->Hp->Prop}(h:k (σ.set i (some v)) H):bz i v σ H k:=h
def C3(K:PySem.W.Frag):Sp:=λvs H Q _=>∃(p:Addr) (s:Str),vs=[.ref p,.str s]/\dh H p/\∀(a:Addr) (t:Str) (xs:List V) H',bo p H H'->H' a=some (.tup (.str t::xs))->Q (.ref a) H'
theorem lU{K:PySem.W.Frag}{H:Hp}:∀ws:List Str,bF K H (ws.map D.str) (ws.map V.str)
 | []=>bF.nil
 | w::ws=>bF.cons (gB w) (lU ws)
variable{P:Program}{w:World}{K:PySem.W.Frag}{mg:Str->Option Value}{base:Heap}
theorem IT(B:jV mg)(B2:iK mg)(F:FA K mg "_law_set" IP)(GA:bf bc P w K mg base 2 "_law_a_sort" ["_law_pot_here","_law_sort"] sd)(G:bf bc P w K mg base 2 "_law_draw" ["_law_pot_here","_law_many_here"] dn)(G3:bf bc P w K mg base 2 "_law_word" ["_law_pot_here"] r8)(G2:bf bc P w K mg base 2 "_law_number" ["_law_pot_here"] pH) :
  bf bc P w K mg base 3 "_law_set" ["_law_pot_here","_law_sort"] (C3 K):=by
 refine F.ok Cs λf cdv A outer s H vs Q E hr h=>?_
 obtain⟨p,x,rfl,hP,q⟩:=h
 refine⟨_,aq (dy (aW aP (ay GA hr (ae (pv 0) (ae (pv 1) ah))) ao)
   (ax (aJ (ae ao (ae (bU aP (ay G hr (ae (pv 0) (ae ai ah))) ai) (ae (aV bB rfl B.tuple PyProof.Rows.boot_tuple (ae (kH rfl rfl B2.sorted rfl B2.set
    (bw (N':=["_law_k","_law_pot_here"]) (src:=[none,some 0]) rfl (ba.jL (by kernel_rfl)) (dm rfl B.range (ae (ay G hr (ae (pv 0) (ae ai ah))) ah)) (λcl C s H fp=>eA (i:=0)) (λcl C s H fp=>aX)
     (λcl C s H fp=>ay (hg:=we) G3 hr (ae (yI 1) ah)))) ah)) ah))))) b9)
  (aq (aL (i:=2) Cs.nd rfl (Or.inl rfl) (a_ (rk rfl) rfl B2.min PyProof.Rows.boot_min (ae (ay G2 hr (ae (pv 0) ah)) (ae (aF bJ (aF l5 ai ai) ai) ah))))
  (aq (aL (i:=3) Cs.nd rfl (Or.inl rfl) (aQ (ae (aJ ah) (ae (aJ (ae (aJ (ae iI (ae iI ah))) ah)) (ae (aJ (ae (aJ (ae (pv 2) (ae (aF cX (pv 2) (ay G hr (ae (pv 0) (ae ai ah)))) ah))) ah))
    (ae (aJ (ae (aJ (ae iI (ae (pv 2) ah))) ah)) (ae (aJ (ae (aJ (ae (pv 2) (ae iI ah))) ah)) ah)))))))
  (ax (aJ (ae ao (ae (bj K (aF pA (pv 3) (aQ (ae (aJ (ae (aJ (ae (pv 2) (ae (pv 2) ah))) (ae (aJ (ae (aF cX (pv 2) ai) (ae (aF cX (pv 2) ai) ah))) ah))) ah))) (ay G hr (ae (pv 0) (ae ai ah)))) ah)))))),?_⟩
 refine⟨_,rfl,_,rfl,p,x,rfl,hP,λy H1 g1=>⟨rfl,_,rfl,?_⟩⟩
 refine cI (λ_=>?_) (λ_=>?_)
 ·refine⟨_,rfl,p,_,rfl,g1.cf,by decide,by decide,λe2 H2 g2 a2 b2=>⟨rfl,_,rfl,p,_,rfl,g2.cf,by decide,by decide,λj H3 g3 j0 j1=>?_⟩⟩
  have gg:=(g1.trans g2).trans g3
  refine⟨j,rfl,(jO j0 (by omega)).1,(jO j0 (by omega)).2,λDw hD=>?_⟩
  have nD:Dw≠p:=gg.ne hD
  refine iL (n:=j.toNat) (λi σ ys H'=>∃(o:Option V) (ns:List Str),σ=[o,some (.ref p)]/\ys=ns.map V.str/\ns.length=i/\H' Dw=some (.lst ys)/\bo p H H')
   ⟨none,[],rfl,rfl,rfl,ag,gg.new hD⟩ ?_ ?_ ?_ ?_
  ·rintro i σ ys H' _ ⟨o,ns,_,rfl,rfl,h,_⟩
   exact⟨h,by rw [UC]; exact Uy _⟩
  ·exact Uz (show j.toNat<=40 by omega) (by decide)
  ·rintro i σ ys H' hi ⟨o,ns,rfl,rfl,rfl,h,g'⟩
   exact⟨_,rfl,p,rfl,g'.cf,λn H4 g4 n1=>⟨g4.keep Dw _ nD h,some (.int (0+(ns.length:Nat))),ns++[n],rfl,by rw [UE]; rfl,by rw [UD]; rfl,ag,gg.put hD nD (g'.trans g4)⟩⟩
  rintro p_ Nj H4 ⟨o0,ns,_,rfl,hns,Sn,g4⟩
  refine⟨Dw,_,rfl,.inl (aZ.of Sn),by rw [UC]; omega,.inr ⟨ns,rfl⟩,λSA ys Rc hso=>?_⟩
  obtain⟨ms,rfl,hms,hsub,Q4⟩:=sorted_strs hso
  refine⟨SA,_,rfl,.inl ⟨aZ.of ag,λt ht=>⟨gw,λa ha=>?_⟩⟩⟩
  have gf:=((g4.new (o:=.lst (ms.map V.str)) Rc).new (o:=.tup (ms.map V.str)) ht).new (o:=.tup [.str "w",.bl (decide (V.int e2=V.int 0)),.ref t]) ha
  exact q a "w" _ _ gf ag
 ·refine⟨_,rfl,p,rfl,g1.cf,λn H2 g2 n1 n2=>⟨_,_,rfl,rfl,⟨by decide,by decide,by decide⟩,_,_,rfl,rfl,_,_,rfl,?_⟩⟩
  have gg:=g1.trans g2
  generalize (if _<n then _ else n:Int)=low
  refine⟨Nat.zero_le _,λt0 h0=>⟨cM,λt1 h1=>⟨dQ,λt2 h2=>?_⟩⟩⟩
  have k0:=gg.new (o:=.tup []) h0
  have k1:=k0.new (o:=.tup [.non,.non]) h1
  have k2:=k1.new (o:=.tup [.ref t1]) h2
  refine⟨_,rfl,_,rfl,_,rfl,p,_,rfl,k2.cf,by decide,by decide,λe3 H3 g3 a3 b3=>?_⟩
  have k3:=k2.trans g3
  refine⟨_,_,rfl,rfl,cM,λt3 h3=>⟨dQ,λt4 h4=>?_⟩⟩
  refine⟨_,rfl,cM,λt5 h5=>⟨dQ,λt6 h6=>?_⟩⟩
  refine⟨_,rfl,cM,λt7 h7=>⟨dQ,λt8 h8=>?_⟩⟩
  refine⟨tN,λL hL=>?_⟩
  have k5:=k3.new (o:=.tup [.int low,.int (low+e3)]) h3
  have k6:=k5.new (o:=.tup [.ref t3]) h4
  have k7:=k6.new (o:=.tup [.non,.int low]) h5
  have k8:=k7.new (o:=.tup [.ref t5]) h6
  have k9:=k8.new (o:=.tup [.int low,.non]) h7
  have k10:=k9.new (o:=.tup [.ref t7]) h8
  have k11:=k10.new (o:=.lst [.ref t0,.ref t2,.ref t4,.ref t6,.ref t8]) hL
  have nL:=k10.ne hL
  refine ak ?_
  dsimp only
  refine⟨_,rfl,_,rfl,_,rfl,cM,λt9 h9=>?_⟩
  refine⟨_,rfl,_,_,rfl,rfl,_,rfl,_,_,rfl,rfl,cM,λPR h10=>⟨cM,λMZ h11=>⟨dQ,λL2 hL2=>?_⟩⟩⟩
  have k12:=k11.new (o:=.tup [.int low,.int low]) h9
  have k13:=k12.new (o:=.tup [.int (low+2),.int (low+5)]) h10
  have k14:=k13.new (o:=.tup [.ref t9,.ref PR]) h11
  have QX:=k14.new (o:=.lst [.ref MZ]) hL2
  have s12:=(aj h9 (.tup [.int low,.int low])).trans ((aj h10 (.tup [.int (low+2),.int (low+5)])).trans ((aj h11 (.tup [.ref t9,.ref PR])).trans (aj hL2 (.lst [.ref MZ]))))
  refine⟨L,L2,_,_,rfl,rfl,s12 _ _ ag,ag,MV,λL3 Kz=>?_⟩
  have QR:=QX.new (o:=.lst ([.ref t0,.ref t2,.ref t4,.ref t6,.ref t8]++[.ref MZ])) Kz
  have R5:=QX.ne Kz
  refine⟨_,rfl,p,_,rfl,QR.cf,by decide,by decide,λe4 H4 g4 a4 b4=>?_⟩
  have S_:=g4.keep L3 _ R5 ag
  have pC:∃v,ja ([V.ref t0,.ref t2,.ref t4,.ref t6,.ref t8]++[.ref MZ]) e4=some v:=by
   have hd:e4=0\/e4=1\/e4=2\/e4=3\/e4=4\/e4=5:=by omega
   rcases hd with z | z | z | z | z | z <;> rw [z] <;> exact⟨_,rfl⟩
  obtain⟨v,hv⟩:=pC
  refine⟨L3,_,_,v,rfl,rfl,aZ.of S_,hv,cM,λa ha=>?_⟩
  exact q a "n" _ _ ((QR.trans g4).new ha) ag
theorem ng:az ["_law_pot_here","_law_here","_law_there","_law_pairs_here","_law_k","_law_pair"] ["_law_pot_here","_law_here","_law_there"] (ar xV):=fs
theorem nv:az ["_law_pot_here","_law_head","_law_order_here","_law_k","_law_column_here"] ["_law_pot_here","_law_head"] (ar yd):=fs
def yp:Sp:=λvs H Q _=>∃(p:Addr) (s1 s2:Str),vs=[.ref p,.str s1,.str s2]/\dh H p/\∀t bs (ps:List (V×V)) H',bo p H H'->bO ku H' t bs ps->ps≠[]->ps.length<=8->(∀q∈ps,dP q.1/\dP q.2)->Q (.ref t) H'
def yB(K:PySem.W.Frag):Sp:=λvs H Q _=>∃(p a:Addr) (hs:List Str),vs=[.ref p,.ref a]/\cZ K H a hs/\dh H p/\∀t bs (cs:List Int) H',bo p H H'->bO Ao H' t bs cs->cs.length<=8->(∀c∈cs,1<=c)->Q (.ref t) H'
structure ej{α:Type}(At:Hp->Addr->α->Prop)(H:Hp)(bs:List Addr)(xs:List α):Prop where
 len:bs.length=xs.length
 at_:∀(i:Nat) a x,bs[i]? = some a->xs[i]? = some x->At H a x
theorem ej.nil{α:Type}{At:Hp->Addr->α->Prop}{H:Hp}:ej At H [] []:=⟨rfl,λi a x e=>by cases e⟩
theorem ej.keep{α:Type}{At:Hp->Addr->α->Prop}{H H':Hp}{bs:List Addr}{xs:List α}(k:∀a x,At H a x->At H' a x)(h:ej At H bs xs):ej At H' bs xs:=⟨h.len,λi a x e1 e2=>k _ _ (h.at_ i a x e1 e2)⟩
theorem ej.snoc{α:Type}{At:Hp->Addr->α->Prop}{H:Hp}{bs:List Addr}{xs:List α}{b:Addr}{x:α}(h:ej At H bs xs)(hx:At H b x):ej At H (bs++[b]) (xs++[x]):=by
 refine⟨by rw [UD,UD,h.len]; rfl,λi a y e1 e2=>?_⟩
 by_cases hi:i<bs.length
 ·rw [List.getElem?_append_left hi]at e1
  rw [List.getElem?_append_left (by rw [←h.len]; exact hi)]at e2
  exact h.at_ i a y e1 e2
 ·have hi':i=bs.length:=by
   have:=(List.getElem?_eq_some_iff.mp e1).1
   rw [UD]at this
   simp at this
   omega
  rw [hi',List.getElem?_append_right (Uy _),Nat.sub_self]at e1
  rw [hi',h.len,List.getElem?_append_right (Uy _),Nat.sub_self]at e2
  cases e1
  cases e2
  exact hx
theorem ej.get{α:Type}{At:Hp->Addr->α->Prop}{H:Hp}{bs:List Addr}{xs:List α}(h:ej At H bs xs){i:Nat}{v:V}(hx:(bs.map V.ref)[i]? = some v):∃(a:Addr) (y:α),v=.ref a/\xs[i]? = some y/\At H a y:=by
 rw [List.getElem?_map]at hx
 cases e:bs[i]? with
 | none=>rw [e]at hx; cases hx
 | some b =>
  rw [e]at hx
  have hx':V.ref b=v:=Option.some.inj hx
  subst hx'
  have hi:i<xs.length:=by rw [←h.len]; exact(List.getElem?_eq_some_iff.mp e).1
  have er:xs[i]? = some xs[i]:=UI hi
  exact⟨b,xs[i],rfl,er,h.at_ i b _ e er⟩
theorem sq{v:V}(h:dP v):eW v=true:=by rcases h with⟨n,rfl⟩ | ⟨x,rfl⟩ <;> rfl
theorem C0(B:jV mg)(B2:iK mg)(F:FA K mg "_law_pairs" xV)(G:bf bc P w K mg base 3 "_law_draw" ["_law_pot_here","_law_many_here"] dn)(G2:bf bc P w K mg base 3 "_law_cell" ["_law_pot_here","_law_sort"] sC) :
  bf bc P w K mg base 4 "_law_pairs" ["_law_pot_here","_law_here","_law_there"] yp:=by
 refine F.ok ng λf cdv A outer s H vs Q E hr h=>?_
 obtain⟨p,s1,s2,rfl,hP,q⟩:=h
 refine⟨_,aq (aL (i:=3) ng.nd rfl (Or.inl rfl) (aQ ah))
  (aq (hX PassesOwn.never rfl (dm rfl B.range (ae (bj K (aQ (ae (aF cX ai (ay G hr (ae (pv 0) (ae ai ah)))) (ae ai ah))) (aV cA rfl B2.int PyProof.Rows.boot_int (ae (bU aP (ay G hr (ae (pv 0) (ae ai ah))) ai) ah))) ah)) (bS (i:=4) ng.nd rfl (Or.inl rfl))
   (aq (aL (i:=5) ng.nd rfl (Or.inl rfl) (aJ (ae (ay G2 hr (ae (pv 0) (ae (pv 1) ah))) (ae (ay G2 hr (ae (pv 0) (ae (pv 2) ah))) ah))))
   (bK (dy (de iM (HS (pv 5) ai (λ_ _=>rfl)) (bw (N':=["_law_a","_law_b"]) (src:=[none,none]) rfl (ba.jL (by kernel_rfl)) (fj (pv 3))
     (g:=iT K 2 (bP (bz 0) (bP (bz 1) iU))) (λcl C s H fp=>cD rfl (aD (eA (i:=0)) (aD (eA (i:=1)) bT))) (λcl C s H fp=>aX) (λcl C s H fp=>i5 0)) rfl)
    (bK (fG (lC PySem.F.plainAttrs_list PySem.F.slot_list_append PySem.F.type_list_append cV (pv 3) (ae (pv 5) ah)))) b9))))
  (ax (aV bB rfl B.tuple PyProof.Rows.boot_tuple (ae (pv 3) ah)))),?_⟩
 have g0:=bo.refl hP
 refine⟨Nat.zero_le _,λL hL=>?_⟩
 have nL:=g0.ne hL
 have gL:=g0.new (o:=.lst []) hL
 refine⟨_,rfl,p,_,rfl,gL.cf,by decide,by decide,λe1 H1 g1 a1 b1=>⟨_,_,rfl,rfl,cM,λR hR=>?_⟩⟩
 have k1:=gL.trans g1
 have k2:=k1.new (o:=.lst [.int (1+e1),.int 8]) hR
 refine⟨_,rfl,p,_,rfl,k2.cf,by decide,by decide,λe2 H2 g2 a2 b2=>⟨rfl,.inr ⟨_,rfl,?_⟩⟩⟩
 have k3:=k2.trans g2
 have pC:∃m:Int,ja [V.int (1+e1),V.int 8] (if decide (V.int e2=V.int 8)=true then 1 else 0)=some (.int m)/\1<=m/\m<=8:=by
  cases decide (V.int e2=V.int 8)
  ·exact⟨_,rfl,by omega,by omega⟩
  ·exact⟨_,rfl,by decide,by decide⟩
 obtain⟨m,hm,m0,m1⟩:=pC
 refine⟨R,_,_,_,rfl,rfl,aZ.of (g2.keep R _ (k1.ne hR) ag),hm,m,rfl,(jO (by omega) (by omega)).1,(jO (by omega) (by omega)).2,?_⟩
 have Kz:=g2.keep L _ nL ((aj hR (.lst [.int (1+e1),.int 8])) _ _ (g1.keep L _ nL ag))
 refine fL (n:=m.toNat) (λi σ H'=>(∃o4 o5,σ=[some (.ref p),some (.str s1),some (.str s2),some (.ref L),o4,o5])/\(∃(bs:List Addr) (ps:List (V×V)),H' L=some (.lst (bs.map V.ref))/\ps.length<=i/\ej ku H' bs ps/\(∀q∈ps,dP q.1/\dP q.2)/\(1<=i->ps≠[]))/\bo p H H')
  ⟨⟨none,none,rfl⟩,⟨[],[],Kz,Uy _,ej.nil,by simp,λz=>absurd z (by decide)⟩,k3⟩ ?_ ?_
 ·rintro i σ H' hi ⟨⟨o4,o5,rfl⟩,⟨bs,ps,hv,hl,hp,hcl,hne⟩,g⟩
  refine⟨_,rfl,_,rfl,p,s1,rfl,g.cf,λx H4 g4 cx=>?_⟩
  refine⟨_,rfl,_,rfl,p,s2,rfl,g4.cf,λy H5 g5 cy=>⟨cM,λT hT=>?_⟩⟩
  have sT:=aj hT (.tup [x,y])
  have KG:=g4.trans g5
  have gT:=(g.trans KG).new (o:=.tup [x,y]) hT
  have A4:=sT _ _ (KG.keep L _ nL hv)
  have JT:ej ku (upd H5 T (.tup [x,y])) bs ps:=hp.keep λ_ _ e=>sT _ _ (ia g.cf KG e)
  have hlb:(bs.map V.ref).length=ps.length:=by rw [UC,hp.len]
  refine⟨_,rfl,T,_,_,_,rfl,rfl,aH.of ag,rfl,?_⟩
  refine⟨_,rfl,L,rfl,⟨_,aZ.of A4⟩,λDc E4=>?_⟩
  refine dI (xs:=bs.map V.ref) (λi σ ys H'=>(∃o o',σ=[o,o'])/\ys.length=i/\ys.all eW=true/\H' Dc=some (.lst ys)/\aM (upd H5 T (.tup [x,y])) H')
   ⟨⟨none,none,rfl⟩,rfl,rfl,ag,aj E4 _⟩ ?_ ?_ ?_ ?_ ?_
  ·rintro i σ ys H' _ ⟨_,hl,_,h,_⟩
   exact⟨h,Nat.le_of_eq hl⟩
  ·rintro i σ ys H' _ ⟨_,_,_,_,sm⟩
   exact aZ.of (sm _ _ A4)
  ·rw [hlb]; exact Uz (show ps.length<=1000 by omega) (by decide)
  ·rintro i v σ ys H' hv ⟨⟨o,o',rfl⟩,hl,hf,h,sm⟩
   obtain⟨t,q',rfl,eq',ht⟩:=JT.get hv
   have fx:=sq (hcl q' (UK eq')).1
   refine⟨t,_,rfl,aH.of (sm _ _ ht),rfl,_,_,rfl,_,_,rfl,rfl,_,rfl,h,⟨_,_,rfl⟩,by rw [UD,hl]; rfl,?_,ag,λb u eb=>?_⟩
   ·rw [List.all_append,hf]; simp [fx]
   ·by_cases hb:b=Dc
    ·subst hb; exact absurd eb (by rw [E4]; simp)
    ·rw [aI hb]; exact sm _ _ eb
  ·rintro σ ys H6 ⟨_,hyl,hf,h,sm⟩
   refine⟨Dc,_,rfl,.inl (aZ.of h),sq cx,hf,_,rfl,?_⟩
   have gS:=gT.trans (bo.same gT.cf sm)
   refine cI (λ_=>?_) (λc=>?_)
   ·refine⟨_,rfl,.inl ⟨rfl,_,aZ.of (sm _ _ A4)⟩,_,rfl,L,_,_,rfl,rfl,sm _ _ A4,by rw [hlb]; exact UG (show ps.length<=1000 by omega) (by decide),?_⟩
    have kk:∀a xs,upd H5 T (.tup [x,y]) a=some (.tup xs)->upd H6 L (.lst (bs.map V.ref++[.ref T])) a=some (.tup xs):=λa xs e=>by
     rw [aI (λz=>by rw [z,A4]at e; cases e)]; exact sm _ _ e
    refine⟨⟨_,_,rfl⟩,⟨bs++[T],ps++[(x,y)],by rw [ag,UE]; rfl,by rw [UD]; exact Nat.add_le_add_right hl 1,(JT.keep λ_ _ e=>kk _ _ e).snoc (kk _ _ ag),λq' hq'=>?_,λ_=>by simp⟩,g0.put hL nL gS⟩
    rcases List.mem_append.mp hq' with z | z
    ·exact hcl q' z
    ·rw [List.mem_singleton.mp z]; exact⟨cx,cy⟩
   ·refine⟨⟨_,_,rfl⟩,⟨bs,ps,sm _ _ A4,Nat.le_succ_of_le hl,JT.keep λ_ _ e=>sm _ _ e,hcl,λ_=>?_⟩,gS⟩
    rintro rfl
    have:ys=[]:=List.eq_nil_of_length_eq_zero (by rw [hyl,hlb]; rfl)
    subst this
    exact c rfl
 ·rintro σ H' ⟨⟨o4,o5,rfl⟩,⟨bs,ps,hv,hl,hp,hcl,hne⟩,g⟩
  refine⟨_,rfl,L,_,rfl,.inl ⟨aZ.of hv,λt ht=>?_⟩⟩
  have st:=aj ht (.tup (bs.map V.ref))
  exact q t bs ps _ (g.new ht) ⟨ag,hp.len,λi a x e1 e2=>st _ _ (hp.at_ i a x e1 e2)⟩ (hne (by omega)) (by omega) hcl
theorem ej.cons{α:Type}{At:Hp->Addr->α->Prop}{H:Hp}{bs:List Addr}{xs:List α}{b:Addr}{x:α}(hx:At H b x)(h:ej At H bs xs):ej At H (b::bs) (x::xs) :=
 ⟨by rw [List.length_cons,List.length_cons,h.len],λi a y e1 e2=>by
  cases i with
  | zero=>cases e1; cases e2; exact hx
  | succ i=>exact h.at_ i a y e1 e2⟩
def Km(H:Hp)(v:V):Prop:=∃t n b,v=.ref t/\H t=some (.tup [.int n,.bl b])/\1<=n
theorem Km.keep{H H':Hp}{v:V}(k:∀a xs,H a=some (.tup xs)->H' a=some (.tup xs))(h:Km H v):Km H' v:=by
 obtain⟨t,x,y,e,h1,h2⟩:=h
 exact⟨t,x,y,e,k _ _ h1,h2⟩
theorem rq{H:Hp}:∀{vs:List V},(∀v∈vs,Km H v)->∃(bs:List Addr) (cs:List Int),vs=bs.map V.ref/\ej Ao H bs cs/\∀c∈cs,1<=c
 | [],_=>⟨[],[],rfl,ej.nil,by simp⟩
 | v::vs,h=>by
  obtain⟨bs,cs,rfl,h1,h2⟩:=rq (vs:=vs) λw hw=>h w (UL _ hw)
  obtain⟨t,n,b,rfl,ht,hn⟩:=h v (List.mem_cons_self ..)
  refine⟨t::bs,n::cs,rfl,h1.cons ⟨b,ht⟩,λc hc=>?_⟩
  rcases List.mem_cons.mp hc with rfl | z
  ·exact hn
  ·exact h2 c z
theorem DO(B:jV mg)(F:FA K mg "_law_order" yd)(G:bf bc P w K mg base 2 "_law_draw" ["_law_pot_here","_law_many_here"] dn)(G2:bf bc P w K mg base 2 "_law_column" ["_law_pot_here","_law_head"] (ic K)) :
  bf bc P w K mg base 3 "_law_order" ["_law_pot_here","_law_head"] (yB K):=by
 refine F.ok nv λf cdv A outer s H vs Q E hr h=>?_
 obtain⟨p,a,hs,rfl,hh,hP,q⟩:=h
 refine⟨_,aq (aL (i:=2) nv.nd rfl (Or.inl rfl) (aQ ah))
  (aq (hX PassesOwn.never rfl (dm rfl B.range (ae (aF cX ai (ay G hr (ae (pv 0) (ae ai ah)))) ah)) (bS (i:=3) nv.nd rfl (Or.inl rfl))
   (aq (aL (i:=4) nv.nd rfl (Or.inl rfl) (ay G2 hr (ae (pv 0) (ae (pv 1) ah))))
   (bK (dy (de iM (pv 4) (bw (N':=["_law_other_here","_law_is_falling"]) (src:=[none,none]) rfl (ba.jL (by kernel_rfl)) (fj (pv 2))
     (g:=iT K 2 (bP (bz 0) (bP (bz 1) iU))) (λcl C s H fp=>cD rfl (aD (eA (i:=0)) (aD (eA (i:=1)) bT))) (λcl C s H fp=>aX) (λcl C s H fp=>i5 0)) rfl)
    (bK (fG (lC PySem.F.plainAttrs_list PySem.F.slot_list_append PySem.F.type_list_append cV (pv 2) (ae (aJ (ae (pv 4) (ae (bU aP (ay G hr (ae (pv 0) (ae ai ah))) ai) ah))) ah)))) b9))))
  (ax (aV bB rfl B.tuple PyProof.Rows.boot_tuple (ae (pv 2) ah)))),?_⟩
 have g0:=bo.refl hP
 refine⟨Nat.zero_le _,λL hL=>?_⟩
 have nL:=g0.ne hL
 have gL:=g0.new (o:=.lst []) hL
 refine⟨_,rfl,p,_,rfl,gL.cf,by decide,by decide,λe1 H1 g1 a1 b1=>⟨_,_,rfl,rfl,1+e1,rfl,(jO (by omega) (by omega)).1,(jO (by omega) (by omega)).2,?_⟩⟩
 have k1:=gL.trans g1
 have hL1:=g1.keep L _ nL ag
 refine fL (n:=(1+e1).toNat) (λi σ H'=>(∃o4 o5,σ=[some (.ref p),some (.ref a),some (.ref L),o4,o5])/\(∃vs,H' L=some (.lst vs)/\vs.length<=i/\∀v∈vs,Km H' v)/\bo p H H')
  ⟨⟨none,none,rfl⟩,⟨[],hL1,Uy _,by simp⟩,k1⟩ ?_ ?_
 ·rintro i σ H' hi ⟨⟨o4,o5,rfl⟩,⟨vs,hv,hl,hp⟩,g⟩
  refine⟨_,rfl,_,rfl,p,a,hs,rfl,g.cf,hh.grow hP g,λn H5 g5 n1 n2=>?_⟩
  refine ak ?_
  dsimp only
  have A4:=g5.keep L _ nL hv
  have JT:∀v∈vs,Km H5 v:=λv h=>(hp v h).keep λa xs e=>ia g.cf g5 e
  refine⟨_,rfl,_,rfl,L,rfl,⟨_,aZ.of A4⟩,λDc E4=>?_⟩
  refine dI (xs:=vs) (λi σ ys H'=>(∃o o',σ=[o,o'])/\ys.length<=i/\ys.all eW=true/\H' Dc=some (.lst ys)/\aM H5 H')
   ⟨⟨none,none,rfl⟩,Uy _,rfl,ag,aj E4 _⟩ ?_ ?_ ?_ ?_ ?_
  ·rintro i σ ys H' _ ⟨_,hl,_,h,_⟩
   exact⟨h,hl⟩
  ·rintro i σ ys H' _ ⟨_,_,_,_,sm⟩
   exact aZ.of (sm _ _ A4)
  ·exact Uz (show vs.length<=1000 by omega) (by decide)
  ·rintro i v σ ys H' hv ⟨⟨o,o',rfl⟩,hl,hf,h,sm⟩
   obtain⟨t,x',y',rfl,ht,_⟩:=JT v (UK hv)
   refine⟨t,_,rfl,aH.of (sm _ _ ht),rfl,_,_,rfl,_,_,rfl,rfl,_,rfl,h,⟨_,_,rfl⟩,by rw [UD]; exact Nat.add_le_add_right hl 1,?_,ag,λb u eb=>?_⟩
   ·rw [List.all_append,hf]; rfl
   ·by_cases hb:b=Dc
    ·subst hb; exact absurd eb (by rw [E4]; simp)
    ·rw [aI hb]; exact sm _ _ eb
  ·rintro σ ys H6 ⟨_,_,hf,h,sm⟩
   refine⟨Dc,_,rfl,.inl (aZ.of h),rfl,hf,_,rfl,?_⟩
   have Q2:=g.trans g5
   have gS:=Q2.trans (bo.same Q2.cf sm)
   refine cI (λ_=>?_) (λ_=>?_)
   ·refine⟨_,rfl,.inl ⟨rfl,_,aZ.of (sm _ _ A4)⟩,_,rfl,_,rfl,p,_,rfl,gS.cf,by decide,by decide,λe7 H7 g7 a7 b7=>⟨rfl,cM,λT hT=>?_⟩⟩
    have sT:=aj hT (.tup [.int n,.bl (decide (V.int e7=V.int 0))])
    have Gm:=sT _ _ (g7.keep L _ nL (sm _ _ A4))
    refine⟨L,_,_,rfl,rfl,Gm,UG (show vs.length<=1000 by omega) (by decide),?_⟩
    refine⟨⟨_,_,rfl⟩,⟨vs++[.ref T],ag,by rw [UD]; exact Nat.add_le_add_right hl 1,λv hv=>?_⟩,g0.put hL nL ((gS.trans g7).new hT)⟩
    have kk:∀a xs,upd H7 T (.tup [.int n,.bl (decide (V.int e7=V.int 0))]) a=some (.tup xs)->upd (upd H7 T (.tup [.int n,.bl (decide (V.int e7=V.int 0))])) L (.lst (vs++[.ref T])) a=some (.tup xs):=λa xs e=>by
     rw [aI (λz=>by rw [z,Gm]at e; cases e)]; exact e
    rcases List.mem_append.mp hv with z | z
    ·exact(JT v z).keep λa xs e=>kk _ _ (sT _ _ (ia gS.cf g7 (sm _ _ e)))
    ·rw [List.mem_singleton.mp z]; exact⟨T,n,_,rfl,kk _ _ ag,n1⟩
   ·exact⟨⟨_,_,rfl⟩,⟨vs,sm _ _ A4,Nat.le_succ_of_le hl,λv hv=>(JT v hv).keep λa xs e=>sm _ _ e⟩,gS⟩
 ·rintro σ H' ⟨⟨o4,o5,rfl⟩,⟨vs,hv,hl,hp⟩,g⟩
  refine⟨_,rfl,L,_,rfl,.inl ⟨aZ.of hv,λt ht=>?_⟩⟩
  have st:=aj ht (.tup vs)
  obtain⟨bs,cs,rfl,h1,h2⟩:=rq hp
  exact q t bs cs _ (g.new ht) ⟨ag,h1.len,λi a x e1 e2=>by obtain⟨b,hb⟩:=h1.at_ i a x e1 e2; exact⟨b,st _ _ hb⟩⟩ (by rw [←h1.len]; rw [UC]at hl; omega) h2
theorem nh:az ["_law_pot_here","_law_sort","_law_moves_here","_law_k","_law_move"] ["_law_pot_here","_law_sort"] (ar sN):=fs
def zh:Sp:=λvs H Q _=>∃(p:Addr) (s1:Str),vs=[.ref p,.str s1]/\dh H p/\∀t bs (mv:List V) H',bo p H H'->bO AQ H' t bs mv->mv.length<=16->(∀v∈mv,v=.non\/dP v)->Q (.ref t) H'
def vT(H:Hp)(v:V):Prop:=∃t x y,v=.ref t/\H t=some (.tup [x,y])/\eW x=true/\eW y=true
theorem vT.keep{H H':Hp}{v:V}(k:∀a xs,H a=some (.tup xs)->H' a=some (.tup xs))(h:vT H v):vT H' v:=by
 obtain⟨t,x,y,e,h1,h2,h3⟩:=h
 exact⟨t,x,y,e,k _ _ h1,h2,h3⟩
def KI:V->D
 | .int i=>.int i
 | .str x=>.str x
 | .bl b=>.bl b
 | _=>.non
theorem oi{K:PySem.W.Frag}{H:Hp}{v:V}(h:eW v=true):aY K H (KI v) v:=by
 cases v <;> first | (first | exact y0 _ | exact gB _ | exact Kd _ | exact Gf) | (simp [eW]at h)
def oP(H:Hp)(v:V):Prop:=∃t x y z,v=.ref t/\H t=some (.tup [.str x,y,.str z])/\(y=.non\/dP y)
theorem oP.keep{H H':Hp}{v:V}(k:∀a xs,H a=some (.tup xs)->H' a=some (.tup xs))(h:oP H v):oP H' v:=by
 obtain⟨t,x,y,z,e,h1,h2⟩:=h
 exact⟨t,x,y,z,e,k _ _ h1,h2⟩
theorem me{H:Hp}:∀{vs:List V},(∀v∈vs,oP H v)->∃(bs:List Addr) (mv:List V),vs=bs.map V.ref/\ej AQ H bs mv/\∀c∈mv,c=.non\/dP c
 | [],_=>⟨[],[],rfl,ej.nil,by simp⟩
 | v::vs,h=>by
  obtain⟨bs,cs,rfl,h1,h2⟩:=me (vs:=vs) λw hw=>h w (UL _ hw)
  obtain⟨t,x,y,z,rfl,ht,hn⟩:=h v (List.mem_cons_self ..)
  refine⟨t::bs,y::cs,rfl,h1.cons ⟨x,z,ht⟩,λc hc=>?_⟩
  rcases List.mem_cons.mp hc with rfl | z
  ·exact hn
  ·exact h2 c z
theorem um{y:V}(h:y=.non\/dP y):eW y=true:=by
 rcases h with rfl | h
 ·rfl
 ·exact sq h
theorem zo(v:V):(KI v).depth=0:=by cases v <;> simp [KI,D.depth]
theorem pN{K:PySem.W.Frag}{H:Hp}:∀{vs:List V},(∀v∈vs,vT H v)->∃ds,bF K H ds vs/\cw ds<=1
 | [],_=>⟨[],bF.nil,by simp [cw]⟩
 | v::vs,h=>by
  obtain⟨ds,h1,h2⟩:=pN (K:=K) (vs:=vs) λw hw=>h w (UL _ hw)
  obtain⟨t,x,y,rfl,ht,fx,fy⟩:=h v (List.mem_cons_self ..)
  refine⟨.tup [KI x,KI y]::ds,bF.cons (iO ht (bF.cons (oi fx) (bF.cons (oi fy) bF.nil))) h1,?_⟩
  simp only [cw,D.depth,zo]; omega
theorem Cm(B:jV mg)(B2:iK mg)(F:FA K mg "_law_moves" sN)(G:bf bc P w K mg base 3 "_law_draw" ["_law_pot_here","_law_many_here"] dn)(G3:bf bc P w K mg base 3 "_law_state" ["_law_pot_here"] rO)(G2:bf bc P w K mg base 3 "_law_cell" ["_law_pot_here","_law_sort"] sC) :
  bf bc P w K mg base 4 "_law_moves" ["_law_pot_here","_law_sort"] zh:=by
 refine F.ok nh λf cdv A outer s H vs Q E hr h=>?_
 obtain⟨p,s1,rfl,hP,q⟩:=h
 have hu:(A.deeper (PyProof.Rows.envOfC "_law_moves" (ar sN) s.heap.objs.size f cdv)).units+1+1<cLine:=by have:=hr.units; omega
 refine⟨_,aq (aL (i:=2) nh.nd rfl (Or.inl rfl) (aQ ah))
  (aq (hX PassesOwn.never rfl (dm rfl B.range (ae (bj K (aQ (ae (ay G hr (ae (pv 0) (ae ai ah))) (ae ai ah))) (aV cA rfl B2.int PyProof.Rows.boot_int (ae (bU aP (ay G hr (ae (pv 0) (ae ai ah))) ai) ah))) ah)) (bS (i:=3) nh.nd rfl (Or.inl rfl))
   (aq (aL (i:=4) nh.nd rfl (Or.inl rfl) (aJ (ae (ay G3 hr (ae (pv 0) ah)) (ae (bj K (aQ (ae (ay G2 hr (ae (pv 0) (ae (pv 1) ah))) (ae iI ah))) (aV cA rfl B2.int PyProof.Rows.boot_int (ae (bU aP (ay G hr (ae (pv 0) (ae ai ah))) ai) ah))) (ae (ay G3 hr (ae (pv 0) ah)) ah)))))
   (bK (dy (de q5 (cz D0 (pv 4) dz (cB ai)) (bw (N':=["_law_state_here","_law_cell_here","_law_after"]) (src:=[none,none,none]) rfl (ba.jL (by kernel_rfl)) (fj (pv 2))
     (g:=iT K 3 (bP (bz 0) (bP (bz 1) (bP (bz 2) iU)))) (λcl C s H fp=>cD rfl (aD (eA (i:=0)) (aD (eA (i:=1)) (aD (eA (i:=2)) bT)))) (λcl C s H fp=>aX) (λcl C s H fp=>aJ (ae (i5 0) (ae (i5 1) ah)))) rfl)
    (bK (fG (lC PySem.F.plainAttrs_list PySem.F.slot_list_append PySem.F.type_list_append cV (pv 2) (ae (pv 4) ah)))) b9))))
  (ax (aV bB rfl B.tuple PyProof.Rows.boot_tuple (ae (pv 2) ah)))),?_⟩
 have g0:=bo.refl hP
 refine⟨Nat.zero_le _,λL hL=>?_⟩
 have nL:=g0.ne hL
 have gL:=g0.new (o:=.lst []) hL
 refine⟨_,rfl,p,_,rfl,gL.cf,by decide,by decide,λe1 H1 g1 a1 b1=>⟨cM,λR hR=>?_⟩⟩
 have k1:=gL.trans g1
 have k2:=k1.new (o:=.lst [.int e1,.int 16]) hR
 refine⟨_,rfl,p,_,rfl,k2.cf,by decide,by decide,λe2 H2 g2 a2 b2=>⟨rfl,.inr ⟨_,rfl,?_⟩⟩⟩
 have k3:=k2.trans g2
 have pC:∃m:Int,ja [V.int e1,V.int 16] (if decide (V.int e2=V.int 8)=true then 1 else 0)=some (.int m)/\0<=m/\m<=16:=by
  cases decide (V.int e2=V.int 8)
  ·exact⟨_,rfl,by omega,by omega⟩
  ·exact⟨_,rfl,by decide,by decide⟩
 obtain⟨m,hm,m0,m1⟩:=pC
 refine⟨R,_,_,_,rfl,rfl,aZ.of (g2.keep R _ (k1.ne hR) ag),hm,m,rfl,(jO m0 (by omega)).1,(jO m0 (by omega)).2,?_⟩
 have Kz:=g2.keep L _ nL ((aj hR (.lst [.int e1,.int 16])) _ _ (g1.keep L _ nL ag))
 refine fL (n:=m.toNat) (λi σ H'=>(∃o4 o5,σ=[some (.ref p),some (.str s1),some (.ref L),o4,o5])/\(∃vs,H' L=some (.lst vs)/\vs.length<=i/\∀v∈vs,oP H' v)/\bo p H H')
  ⟨⟨none,none,rfl⟩,⟨[],Kz,Uy _,by simp⟩,k3⟩ ?_ ?_
 ·rintro i σ H' hi ⟨⟨o4,o5,rfl⟩,⟨vs,hv,hl,hp⟩,g⟩
  refine⟨_,rfl,p,rfl,g.cf,λx H3 g3=>?_⟩
  refine⟨_,rfl,_,rfl,p,s1,rfl,g3.cf,λy H4 g4 cy=>⟨cM,λR2 yP=>?_⟩⟩
  have l1:=(g3.trans g4).new (o:=.lst [y,.non]) yP
  refine⟨_,rfl,p,_,rfl,l1.cf,by decide,by decide,λe5 H5 g5 a5 b5=>⟨rfl,.inr ⟨_,rfl,?_⟩⟩⟩
  have CC:∃y2:V,ja [y,V.non] (if decide (V.int e5=V.int 0)=true then 1 else 0)=some y2/\(y2=.non\/dP y2):=by
   cases decide (V.int e5=V.int 0)
   ·exact⟨_,rfl,.inr cy⟩
   ·exact⟨_,rfl,.inl rfl⟩
  obtain⟨y2,hy2,QC⟩:=CC
  have Sd:=um QC
  refine⟨R2,_,_,_,rfl,rfl,aZ.of (g5.keep R2 _ ((g3.trans g4).ne yP) ag),hy2,?_⟩
  have l2:=l1.trans g5
  refine⟨_,rfl,p,rfl,l2.cf,λz H6 g6=>⟨gw,λT hT=>?_⟩⟩
  have l3:=l2.trans g6
  have sT:=aj hT (.tup [.str x,y2,.str z])
  have Rf:=sT _ _ (l3.keep L _ nL hv)
  have SH:∀v∈vs,oP (upd H6 T (.tup [.str x,y2,.str z])) v:=λv h=>(hp v h).keep λa xs e=>sT _ _ (ia g.cf l3 e)
  have gT:=(g.trans l3).new (o:=.tup [.str x,y2,.str z]) hT
  refine ak ?_
  dsimp only
  refine⟨_,rfl,_,rfl,T,_,rfl,aH.of ag,(by show¬(HT.dG 3 0 none=0/\HT.dG 3 3 (some 2)=3); decide),λr hr=>?_⟩
  have sr:=aj hr (.tup [.str x,y2])
  have Gm:=sr _ _ Rf
  have Gw:∀v∈vs,oP (upd (upd H6 T (.tup [.str x,y2,.str z])) r (.tup [.str x,y2])) v:=λv h=>(SH v h).keep λa xs e=>sr _ _ e
  have Rp:=sr _ _ (ag (H:=H6) (a:=T) (o:=.tup [.str x,y2,.str z]))
  have SG:=ag (H:=upd H6 T (.tup [.str x,y2,.str z])) (a:=r) (o:=.tup [.str x,y2])
  have gr:=gT.trans (bo.same gT.cf sr)
  refine⟨_,rfl,L,rfl,⟨_,aZ.of Gm⟩,λDc E4=>?_⟩
  rw [show gj [V.str x,y2,V.str z] none (some 2)=[V.str x,y2] from rfl]at E4⊢
  generalize upd (upd H6 T (.tup [.str x,y2,.str z])) r (.tup [.str x,y2])=H7 at *
  refine dI (xs:=vs) (λi σ ys H'=>(∃o o' P1,σ=[o,o',P1])/\ys.length<=i/\(∀v∈ys,vT H' v)/\H' Dc=some (.lst ys)/\aM H7 H')
   ⟨⟨none,none,none,rfl⟩,Uy _,by simp,ag,aj E4 _⟩ ?_ ?_ ?_ ?_ ?_
  ·rintro i σ ys H' _ ⟨_,hl,_,h,_⟩
   exact⟨h,hl⟩
  ·rintro i σ ys H' _ ⟨_,_,_,_,sm⟩
   exact aZ.of (sm _ _ Gm)
  ·exact Uz (show vs.length<=1000 by omega) (by decide)
  ·rintro i v σ ys H' hv ⟨⟨o,o',P1,rfl⟩,hl,hf,h,sm⟩
   obtain⟨t,x',y',z',rfl,ht,TJ⟩:=Gw v (UK hv)
   refine⟨t,_,rfl,aH.of (sm _ _ ht),rfl,_,_,rfl,_,_,rfl,_,_,rfl,rfl,_,rfl,_,rfl,cM,λU hU=>?_⟩
   have sU:=aj hU (.tup [.str x',y'])
   have Qb:=sU _ _ h
   refine⟨Qb,⟨_,_,_,rfl⟩,by rw [UD]; exact Nat.add_le_add_right hl 1,λv hv=>?_,ag,λb u eb=>?_⟩
   ·have kk:∀a xs,upd H' U (.tup [.str x',y']) a=some (.tup xs)->upd (upd H' U (.tup [.str x',y'])) Dc (.lst (ys++[.ref U])) a=some (.tup xs):=λa xs e=>by
     rw [aI (λz=>by rw [z,Qb]at e; cases e)]; exact e
    rcases List.mem_append.mp hv with z | z
    ·exact(hf v z).keep λa xs e=>kk _ _ (sU _ _ e)
    ·rw [List.mem_singleton.mp z]; exact⟨U,.str x',y',rfl,kk _ _ ag,rfl,um TJ⟩
   ·by_cases hb:b=Dc
    ·subst hb; exact absurd eb (by rw [E4]; simp)
    ·rw [aI hb]; exact sU _ _ (sm _ _ eb)
  ·rintro σ ys H8 ⟨_,_,hf,h,sm⟩
   obtain⟨es,h1,h2⟩:=pN (K:=K) hf
   refine⟨.tup [.str x,KI y2],es,Dc,ys,rfl,.inl (aZ.of h),iO (sm _ _ SG) (bF.cons (gB _) (bF.cons (oi Sd) bF.nil)),h1,?_,_,rfl,?_⟩
   ·exact UG (Nat.add_le_add_left h2 _) hu
   have gS:=gr.trans (bo.same gr.cf sm)
   refine cI (λ_=>?_) (λ_=>?_)
   ·refine⟨_,rfl,.inl ⟨rfl,_,aZ.of (sm _ _ Gm)⟩,_,rfl,L,_,_,rfl,rfl,sm _ _ Gm,UG (show vs.length<=1000 by omega) (by decide),?_⟩
    refine⟨⟨_,_,rfl⟩,⟨vs++[.ref T],ag,by rw [UD]; exact Nat.add_le_add_right hl 1,λv hv=>?_⟩,g0.put hL nL gS⟩
    have kk:∀a xs,H7 a=some (.tup xs)->upd H8 L (.lst (vs++[.ref T])) a=some (.tup xs):=λa xs e=>by
     rw [aI (λz=>by rw [z,Gm]at e; cases e)]; exact sm _ _ e
    rcases List.mem_append.mp hv with z | z
    ·exact(Gw v z).keep kk
    ·rw [List.mem_singleton.mp z]; exact⟨T,_,_,_,rfl,kk _ _ Rp,QC⟩
   ·exact⟨⟨_,_,rfl⟩,⟨vs,sm _ _ Gm,Nat.le_succ_of_le hl,λv hv=>(Gw v hv).keep λa xs e=>sm _ _ e⟩,gS⟩
 ·rintro σ H' ⟨⟨o4,o5,rfl⟩,⟨vs,hv,hl,hp⟩,g⟩
  refine⟨_,rfl,L,_,rfl,.inl ⟨aZ.of hv,λt ht=>?_⟩⟩
  have st:=aj ht (.tup vs)
  obtain⟨bs,mv,rfl,h1,h2⟩:=me hp
  exact q t bs mv _ (g.new ht) ⟨ag,h1.len,λi a x e1 e2=>by obtain⟨b,c,hb⟩:=h1.at_ i a x e1 e2; exact⟨b,c,st _ _ hb⟩⟩ (by rw [←h1.len]; rw [UC]at hl; omega) h2
end My
namespace L2
open PySem PySem.Spec PyProof.Rows
theorem fU:fillsNumberSlot (.type "tuple") "mul"=pure false:=PySem.fillsNumberSlot_seq (id:="tuple.__mul__") (r:=some (.builtin "tuple.__rmul__")) F.slot_tuple_mul.lookup (by decide +kernel) F.slot_tuple_rmul.lookup (by decide +kernel)
theorem tX:seqRepeat? (.type "tuple")=pure (some (.builtin "tuple.__mul__")):=by
 unfold seqRepeat?
 rw [PySem.seqSlot_of (T:="tuple") (name:="__mul__") F.slot_tuple_mul.lookup (by decide +kernel),PySem.seqSlot_of (T:="tuple") (name:="__rmul__") F.slot_tuple_rmul.lookup (by decide +kernel)]
 rfl
theorem iB(a:Int)(t:Tok)(l:Addr)(items:Array Value)(n:Nat)(dd:Option Addr)(sl:Array (Option Value)):Meets (Builtin.«int.__rmul__» ⟨[.int a t,.ref l],[]⟩) (λ_ R s=>s.heap.get? l=some ⟨.type "tuple",dd,.seq items n,sl⟩/\R (.ok (.ret Value.notImplemented)) s) :=
 .of_wp λprog w A R s h=>by
  obtain⟨hp,g,d,tk,os⟩:=s; obtain⟨hl,h⟩:=h
  wp_walk
  exact⟨_,rfl,h⟩
theorem Gq(l:Addr)(items:Array Value)(n:Nat)(dd:Option Addr)(sl:Array (Option Value))(k:Int)(t:Tok)(h1:2<=k)(h2:k<1000)(hi:items.isEmpty=false)(hz:items.size*k.toNat<=10000) :
  Meets (Builtin.«tuple.__mul__» ⟨[.ref l,.int k t],[]⟩) (λ_ R s=>s.heap.get? l=some ⟨.type "tuple",dd,.seq items n,sl⟩/\
   R (.ok (.ret (.ref s.heap.objs.size))) {s with heap:=s.heap.push {cls:=.type "tuple",data:=.seq ((List.replicate k.toNat items).foldl (· ++ ·) #[])}}) :=
 .of_wp λprog w A R s h=>by
  obtain⟨hp,g,d,tk,os⟩:=s; obtain⟨hl,h⟩:=h
  have Q6:(2:Int) ^ 63=9223372036854775808:=by decide
  have hsk:(items.size:Int)*k<=10000:=by
   have:((items.size*k.toNat:Nat):Int)<=10000:=by exact_mod_cast hz
   rw [Int.natCast_mul,Int.toNat_of_nonneg (by omega)]at this
   exact this
  have c1:¬(decide (k < -2 ^ 63)||decide (k≥2 ^ 63))=true:=by
   rw [Q6]; simp; omega
  have c2:¬(items.isEmpty||k==1)=true:=by
   rw [hi,Bool.false_or]; simp; omega
  have c3:¬(decide (k<=0)||items.isEmpty)=true:=by
   rw [hi,Bool.or_false]; simp; omega
  have c4:¬(items.size:Int)*k > (2 ^ 63-1) / 8:=by
   rw [Q6]; omega
  have c5:¬Builtin.Tuple.tupleTooMany ((items.size:Int)*k)=true:=by
   unfold Builtin.Tuple.tupleTooMany
   have:((sizeLine:Nat):Int)≥10000:=by decide
   simp; omega
  have c6:¬(List.foldl (λx1 x2=>x1++x2) #[] (List.replicate k.toNat items)).size > sizeLine:=by
   have e:List.foldl (λx1 x2=>x1++x2) #[] (List.replicate k.toNat items)=(List.replicate k.toNat items.toList).flatten.toArray:=by
    have:=foldl_rep items.toList k.toNat []
    rw [List.nil_append]at this
    exact this
   rw [e,UN,len_rep,Array.length_toList,Nat.mul_comm]
   have:10000<=sizeLine:=by decide
   omega
  wp_walk
  rw [if_neg c1]
  wp_walk
  rw [if_neg c2]
  wp_walk
  rw [if_neg c3]
  wp_walk
  rw [if_neg c4]
  wp_walk
  exact⟨_,rfl,h⟩
section
variable{X:Cx}
def G_(K:PySem.W.Frag):R2:=λx y H Q=>∃l k xs,x=.ref l/\y=.int k/\aH K H l xs/\xs≠[]/\2<=k/\k<1000/\xs.length*k.toNat<=10000/\
 ∀p,H p=none->Q (.ref p) (upd H p (.tup (List.replicate k.toNat xs).flatten))
theorem yT:i8 X (binaryOp .Mult) (G_ X.K):=by
 intro pins s σ H x y v u Q I rx ry h
 obtain⟨l,k,xs,rfl,rfl,hq,hx,h1,h2,hz,q⟩:=h
 cases rx
 obtain⟨t,rfl⟩:=ry
 obtain⟨its,r,⟨o,e,hc,n,hd⟩,_⟩:=I.tuple hq
 obtain⟨c,dd,da,sl⟩:=o
 cases(show c=.type "tuple" from hc)
 cases(show da=.seq its.toArray n from hd)
 have hl:=r.length
 have hi:its.toArray.isEmpty=false:=by
  cases its with
  | nil=>exact absurd (List.eq_nil_of_length_eq_zero (by rw [hl]; rfl)) hx
  | cons a r=>rfl
 have hnew:List.foldl (λx1 x2=>x1++x2) #[] (List.replicate k.toNat its.toArray)=(List.replicate k.toNat its).flatten.toArray:=by
  have:=foldl_rep its k.toNat []
  rw [List.nil_append]at this
  exact this
 refine wpAny_binaryOp_repeat_ref (T:="tuple") (U:="int") (by decide) ⟨_,e,rfl⟩ (λs'=>typeIs_int s' k t) fU F.fills_int_mul F.slot_int_rmul tX F.slot_int_index.lookup
  (call_meets F.slot_int_rmul (typeIs_int s k t) F.entry_int_rmul (F.args_int_rmul_2 _ _) (iB k t l its.toArray n dd sl)
   ⟨e,rfl,⟨_,e,rfl⟩,call_meets F.slot_tuple_mul ⟨_,e,rfl⟩ F.entry_tuple_mul (F.args_tuple_mul_2 _ _) (Gq l its.toArray n dd sl k t h1 h2 hi (by rw [UN,←hl]; exact hz)) ⟨e,?_⟩⟩)
 rw [hnew]
 refine⟨.ref s.heap.objs.size,_,I.laid (t':=s.toks) (o:=.tup (List.replicate k.toNat xs).flatten) (λb ob q=>Uv _ q) (Uy _) ?_,rfl,q _ (I.hok.fresh (Uy _))⟩
 exact⟨by rw [len_rep,Nat.mul_comm]; exact Uz hz (by decide),_,r.rep k.toNat,gG.new _ _⟩
end
end L2
namespace My
open PySem L2 CT CS
theorem oo:az ["_law_pot_here","_law_head","_law_word_here","_law_column_here","_law_sort"] ["_law_pot_here","_law_head","_law_word_here"] (ar sG):=fs
theorem yo:az ["_law_pot_here","_law_head","_law_word_here","_law_column_here"] ["_law_pot_here","_law_head","_law_word_here"] (ar wY):=fs
def m_(K:PySem.W.Frag)(ok:Str->Prop):Sp:=λvs H Q _=>∃(p a:Addr) (hs:List Str) (wd:Str),vs=[.ref p,.ref a,.str wd]/\dh H p/\cZ K H a hs/\ok wd/\∀t (x:W1) H',bo p H H'->jS H' t x->D_ x->x.nm=wd->Q (.ref t) H'
def Ik(s:Str):Prop:=s="keep"\/s="same"\/s="cut"\/s="turn"\/s="must"
def Dg(s:Str):Prop:=s="walk"\/s="sort"\/s="apart"\/s="count"\/s="sum"\/s="number"\/s="first"
theorem yr{K:PySem.W.Frag}{H:Hp}{p a:Addr}{hs:List Str}{σ:St}{Q:VK}{c:Int}{i j:Nat}(hP:dh H p)(hh:cZ K H a hs)(e1:σ[i]? = some (some (.ref a)))(e2:σ[j]? = some (some (.int c)))(c1:1<=c)(c2:c<=12)(q:∀x H',bo p H H'->Q (.str x) H') :
  gO (tJ K) (gO (Hf K) (bx i) (gO (G_ K) (FT (bp (tC (.str "n")) fD)) (tC (.int 12)))) (gO (AN λi j=>.int (i-j)) (bx j) (tC (.int 1))) σ H Q:=by
 refine⟨_,e1,dQ,λt ht=>⟨t,12,_,rfl,rfl,aH.of ag,by simp,by decide,by decide,by decide,λu hu=>?_⟩⟩
 have g0:=bo.refl hP
 have g1:=g0.new (o:=.tup [.str "n"]) ht
 have g2:=g1.new (o:=.tup (List.replicate (12:Int).toNat [V.str "n"]).flatten) hu
 have h2:=hh.grow hP g2
 have hp1:=hh.pos
 have hf:=hh.few
 refine⟨a,u,_,_,rfl,rfl,aH.of h2.tup,aH.of ag,?_,?_,λz=>absurd z (by decide),λ_ w hw=>?_⟩
 ·intro z
  rw [List.map_eq_nil_iff.mp z]at hp1
  exact absurd hp1 (by decide)
 ·rw [UC]
  exact Uz (show hs.length+12<=18 by omega) (by decide)
 have hl:(hs.map V.str++(List.replicate (12:Int).toNat [V.str "n"]).flatten).length=hs.length+12:=by rw [UD,UC]; rfl
 have hi:(c-1).toNat<(hs.map V.str++(List.replicate (12:Int).toNat [V.str "n"]).flatten).length:=by rw [hl]; omega
 have hv:ja (hs.map V.str++(List.replicate (12:Int).toNat [V.str "n"]).flatten) (c-1)=some ((hs.map V.str++(List.replicate (12:Int).toNat [V.str "n"]).flatten)[(c-1).toNat]):=by
  have:=av (j:=(c-1).toNat) (UI hi)
  rw [show(((c-1).toNat:Nat):Int)=c-1 by omega]at this
  exact this
 have hm:=List.getElem_mem hi
 have hx:∃x:Str,(hs.map V.str++(List.replicate (12:Int).toNat [V.str "n"]).flatten)[(c-1).toNat]=.str x:=by
  rcases List.mem_append.mp hm with z | z
  ·obtain⟨x,_,e⟩:=List.mem_map.mp z
   exact⟨x,e.symm⟩
  ·obtain⟨l,hl,hz⟩:=List.mem_flatten.mp z
   rw [List.eq_of_mem_replicate hl]at hz
   exact⟨"n",List.mem_singleton.mp hz⟩
 obtain⟨x,ex⟩:=hx
 rw [ex]at hv
 exact⟨_,e2,_,_,rfl,rfl,w,_,_,_,rfl,rfl,aH.of ag,hv,q x _ (g2.new hw)⟩
variable{P:Program}{w:World}{K:PySem.W.Frag}{mg:Str->Option Value}{base:Heap}
theorem AU(B2:iK mg)(F:FA K mg "_law_one_row" sG)(GC:bf bc P w K mg base 4 "_law_column" ["_law_pot_here","_law_head"] (ic K))(M4:bf bc P w K mg base 4 "_law_columns" ["_law_pot_here","_law_head","_law_many_here"] (lK K))(GD:bf bc P w K mg base 4 "_law_draw" ["_law_pot_here","_law_many_here"] dn)(GS:bf bc P w K mg base 4 "_law_set" ["_law_pot_here","_law_sort"] (C3 K))(GP:bf bc P w K mg base 4 "_law_pairs" ["_law_pot_here","_law_here","_law_there"] yp) :
  bf bc P w K mg base 5 "_law_one_row" ["_law_pot_here","_law_head","_law_word_here"] (m_ K Ik):=by
 refine F.ok oo λf cdv A outer s H vs Q E hr h=>?_
 obtain⟨p,a,hs,wd,rfl,hP,hh,Hw,q⟩:=h
 refine⟨_,aq (dy (aW aP (pv 2) ao) (ax (aJ (ae ao (ae (ay GC hr (ae (pv 0) (ae (pv 1) ah))) (ae (ay GC hr (ae (pv 0) (ae (pv 1) ah))) ah))))) b9)
  (aN (aW aP (pv 2) ao) (aJ (ae ao (ae (ay M4 hr (ae (pv 0) (ae (pv 1) (ae (aF cX ai (ay GD hr (ae (pv 0) (ae ai ah)))) ah)))) ah)))
  (aq (aL (i:=3) oo.nd rfl (Or.inl rfl) (ay GC hr (ae (pv 0) (ae (pv 1) ah))))
  (aq (aL (i:=4) oo.nd rfl (Or.inl rfl) (aA K (aF rW (pv 1) (aF yT (aJ (ae ao ah)) ai)) (aF bJ (pv 3) ai)))
  (aN (aW aP (pv 2) ao) (aJ (ae ao (ae (pv 3) (ae (ay GS hr (ae (pv 0) (ae (pv 4) ah))) ah))))
  (ax (aJ (ae (pv 2) (ae (pv 3) (ae (ay GP hr (ae (pv 0) (ae (pv 4) (ae (bj K (aQ (ae (pv 4) (ae (bj K (aQ (ae ao (ae ao ah))) (ay GD hr (ae (pv 0) (ae ai ah)))) ah))) (aV cA rfl B2.int PyProof.Rows.boot_int (ae (bU aP (pv 2) ao) ah))) ah)))) ah))))))))),?_⟩
 refine⟨_,rfl,rfl,_,rfl,?_⟩
 refine cI (λc=>?_) (λns=>?_)
 ·have e:wd="same":=by have:=of_decide_eq_true c; injection this
  subst e
  refine⟨_,rfl,_,rfl,p,a,hs,rfl,hP,hh,λn H1 g1 n1 _=>?_⟩
  refine⟨_,rfl,_,rfl,p,a,hs,rfl,g1.cf,hh.grow hP g1,λm H2 g2 m1 _=>⟨gw,λt ht=>?_⟩⟩
  exact q t (.same n m) _ ((g1.trans g2).new ht) ag ⟨trivial,trivial,trivial,λc hc=>by rcases List.mem_cons.mp hc with rfl | z; exact n1; rw [List.mem_singleton.mp z]; exact m1⟩ rfl
 refine⟨_,rfl,rfl,_,rfl,?_⟩
 refine cI (λc=>?_) (λnc=>?_)
 ·have e:wd="cut":=by have:=of_decide_eq_true c; injection this
  subst e
  refine⟨_,rfl,_,rfl,_,rfl,p,_,rfl,hP,by decide,by decide,λd H1 g1 a1 b1=>⟨_,_,rfl,rfl,?_⟩⟩
  refine⟨p,a,hs,_,rfl,g1.cf,hh.grow hP g1,by omega,by omega,λt2 ns H2 g2 h2 hn hp=>⟨cM,λt ht=>?_⟩⟩
  exact q t (.cut ns) _ ((g1.trans g2).new ht) ⟨t2,ag,aj ht _ _ _ h2⟩ ⟨by show ns.length<=1000; omega,trivial,by rintro rfl; rw [List.length_nil]at hn; omega,hp⟩ rfl
 refine⟨_,rfl,_,rfl,p,a,hs,rfl,hP,hh,λn H1 g1 n1 n2=>?_⟩
 refine ak ?_
 dsimp only
 have hh1:=hh.grow hP g1
 refine yr g1.cf hh1 rfl rfl n1 n2 λx H2 g2=>?_
 have gg:=g1.trans g2
 refine ak ?_
 dsimp only
 refine⟨_,rfl,rfl,_,rfl,?_⟩
 refine cI (λc=>?_) (λnk=>?_)
 ·have e:wd="keep":=by have:=of_decide_eq_true c; injection this
  subst e
  refine⟨_,rfl,_,rfl,_,rfl,p,x,rfl,gg.cf,λv d xs H3 g3 hd=>⟨gw,λt ht=>?_⟩⟩
  have st:=aj ht (.tup [.str "keep",.int n,.ref v])
  exact q t (.keep n d) _ ((gg.trans g3).new ht) ⟨v,xs,ag,st _ _ hd⟩ ⟨trivial,trivial,trivial,λc hc=>by rw [List.mem_singleton.mp hc]; exact n1⟩ rfl
 refine⟨_,rfl,_,rfl,_,rfl,_,rfl,_,rfl,cM,λR hR=>?_⟩
 have k1:=gg.new (o:=.lst [.str "n",.str "w"]) hR
 refine⟨_,rfl,p,_,rfl,k1.cf,by decide,by decide,λd H3 g3 a3 b3=>?_⟩
 have hk:=g3.keep R _ (gg.ne hR) ag
 have CW:∃y:Str,ja [V.str "n",V.str "w"] d=some (.str y):=by
  have hd:d=0\/d=1:=by omega
  rcases hd with z | z <;> rw [z]
  ·exact⟨_,rfl⟩
  ·exact⟨_,rfl⟩
 obtain⟨y,hy⟩:=CW
 refine⟨R,_,_,_,rfl,rfl,aZ.of hk,hy,cM,λR2 yP=>?_⟩
 have k2:=(k1.trans g3).new (o:=.lst [.str x,.str y]) yP
 refine⟨_,rfl,rfl,.inr ⟨_,rfl,?_⟩⟩
 have CC:∃z:Str,ja [V.str x,V.str y] (if decide (V.str wd=V.str "must")=true then 1 else 0)=some (.str z):=by
  cases decide (V.str wd=V.str "must")
  ·exact⟨_,rfl⟩
  ·exact⟨_,rfl⟩
 obtain⟨z,hz⟩:=CC
 refine⟨R2,_,_,_,rfl,rfl,aZ.of ag,hz,?_⟩
 refine⟨p,x,z,rfl,k2.cf,λt2 bs ps H4 g4 hI hne hz8 hcl=>⟨gw,λt ht=>?_⟩⟩
 have st:=aj ht (.tup [.str wd,.int n,.ref t2])
 have hI':bO ku (upd H4 t (.tup [.str wd,.int n,.ref t2])) t2 bs ps:=hI.keep (aE.of st) λ_ _ e=>st _ _ e
 have hpos:∀c∈[n],1<=c:=λc hc=>by rw [List.mem_singleton.mp hc]; exact n1
 rcases Hw with e | e | e | e | e
 ·exact absurd (by rw [e]; rfl) nk
 ·exact absurd (by rw [e]; rfl) ns
 ·exact absurd (by rw [e]; rfl) nc
 ·subst e
  exact q t (.turn n ps) _ ((k2.trans g4).new ht) ⟨t2,bs,ag,hI'⟩ ⟨by show ps.length<=1000; omega,hcl,⟨hne,by omega⟩,hpos⟩ rfl
 ·subst e
  exact q t (.must n ps) _ ((k2.trans g4).new ht) ⟨t2,bs,ag,hI'⟩ ⟨by show ps.length<=1000; omega,hcl,⟨hne,by omega⟩,hpos⟩ rfl
theorem Di(F:FA K mg "_law_other" wY)(GC:bf bc P w K mg base 4 "_law_column" ["_law_pot_here","_law_head"] (ic K))(GT:bf bc P w K mg base 4 "_law_state" ["_law_pot_here"] rO)(GM:bf bc P w K mg base 4 "_law_moves" ["_law_pot_here","_law_sort"] zh)(GO:bf bc P w K mg base 4 "_law_order" ["_law_pot_here","_law_head"] (yB K))(M4:bf bc P w K mg base 4 "_law_columns" ["_law_pot_here","_law_head","_law_many_here"] (lK K))(GD:bf bc P w K mg base 4 "_law_draw" ["_law_pot_here","_law_many_here"] dn) :
  bf bc P w K mg base 5 "_law_other" ["_law_pot_here","_law_head","_law_word_here"] (m_ K Dg):=by
 refine F.ok yo λf cdv A outer s H vs Q E hr h=>?_
 obtain⟨p,a,hs,wd,rfl,hP,hh,Hw,q⟩:=h
 refine⟨_,aq (dy (aW aP (pv 2) ao) (aq (aL (i:=3) yo.nd rfl (Or.inl rfl) (ay GC hr (ae (pv 0) (ae (pv 1) ah))))
   (ax (aJ (ae ao (ae (pv 3) (ae (ay GT hr (ae (pv 0) ah)) (ae (ay GM hr (ae (pv 0) (ae (aA K (aF rW (pv 1) (aF yT (aJ (ae ao ah)) ai)) (aF bJ (pv 3) ai)) ah))) ah))))))) b9)
  (aN (aW aP (pv 2) ao) (aJ (ae ao (ae (ay GO hr (ae (pv 0) (ae (pv 1) ah))) ah)))
  (aN (aW aP (pv 2) ao) (aJ (ae ao (ae (ay M4 hr (ae (pv 0) (ae (pv 1) (ae (ay GD hr (ae (pv 0) (ae ai ah))) ah)))) ah)))
  (aN (aW aP (pv 2) ao) (aJ (ae ao (ae (ay M4 hr (ae (pv 0) (ae (pv 1) (ae (ay GD hr (ae (pv 0) (ae ai ah))) ah)))) (ae (ay GC hr (ae (pv 0) (ae (pv 1) ah))) ah))))
  (aN (aW aP (pv 2) ao) (aJ (ae ao (ae (bj K (aQ (ae (ay GD hr (ae (pv 0) (ae ai ah))) (ae (ay GD hr (ae (pv 0) (ae ai ah))) ah))) (ay GD hr (ae (pv 0) (ae ai ah)))) ah)))
  (ax (aJ (ae (pv 2) ah))))))),?_⟩
 refine⟨_,rfl,rfl,_,rfl,?_⟩
 refine cI (λc=>?_) (λn1=>?_)
 ·have e:wd="walk":=by have:=of_decide_eq_true c; injection this
  subst e
  refine⟨_,rfl,_,rfl,p,a,hs,rfl,hP,hh,λn H1 g1 n1 n2=>?_⟩
  refine ak ?_
  dsimp only
  refine⟨_,rfl,_,rfl,p,rfl,g1.cf,λst H2 g2=>?_⟩
  have gg:=g1.trans g2
  refine⟨_,rfl,yr gg.cf (hh.grow hP gg) rfl rfl n1 n2 λx H3 g3=>?_⟩
  have g5:=gg.trans g3
  refine⟨p,x,rfl,g5.cf,λt2 bs mv H4 g4 hI Sm hcl=>⟨Lw,λt ht=>?_⟩⟩
  have sn:=aj ht (.tup [.str "walk",.int n,.str st,.ref t2])
  exact q t (.walk n mv) _ ((g5.trans g4).new ht) ⟨st,t2,bs,ag,hI.keep (aE.of sn) λ_ _ e=>e.keep (aE.of sn)⟩ ⟨by show mv.length<=1000; omega,hcl,by show mv.length<=50; omega,λc hc=>by rw [List.mem_singleton.mp hc]; exact n1⟩ rfl
 refine⟨_,rfl,rfl,_,rfl,?_⟩
 refine cI (λc=>?_) (λn2=>?_)
 ·have e:wd="sort":=by have:=of_decide_eq_true c; injection this
  subst e
  refine⟨_,rfl,_,rfl,p,a,hs,rfl,hh,hP,λt2 bs cs H4 g4 hI Pz hcp=>⟨cM,λt ht=>?_⟩⟩
  have sn:=aj ht (.tup [.str "sort",.ref t2])
  exact q t (.sort cs) _ (g4.new ht) ⟨t2,bs,ag,hI.keep (aE.of sn) λ_ _ e=>e.keep (aE.of sn)⟩ ⟨by show cs.length<=1000; omega,trivial,trivial,hcp⟩ rfl
 refine⟨_,rfl,rfl,_,rfl,?_⟩
 refine cI (λc=>?_) (λn3=>?_)
 ·have e:wd="count":=by have:=of_decide_eq_true c; injection this
  subst e
  refine⟨_,rfl,_,rfl,_,rfl,p,_,rfl,hP,by decide,by decide,λd H1 g1 a1 b1=>?_⟩
  refine⟨p,a,hs,_,rfl,g1.cf,hh.grow hP g1,by omega,by omega,λt2 ns H2 g2 h2 hn hp=>⟨cM,λt ht=>?_⟩⟩
  exact q t (.count ns) _ ((g1.trans g2).new ht) ⟨t2,ag,aj ht _ _ _ h2⟩ ⟨by show ns.length<=1000; omega,trivial,trivial,hp⟩ rfl
 refine⟨_,rfl,rfl,_,rfl,?_⟩
 refine cI (λc=>?_) (λn4=>?_)
 ·have e:wd="sum":=by have:=of_decide_eq_true c; injection this
  subst e
  refine⟨_,rfl,_,rfl,_,rfl,p,_,rfl,hP,by decide,by decide,λd H1 g1 a1 b1=>?_⟩
  refine⟨p,a,hs,_,rfl,g1.cf,hh.grow hP g1,by omega,by omega,λt2 ns H2 g2 h2 hn hp=>?_⟩
  have gg:=g1.trans g2
  refine⟨_,rfl,_,rfl,p,a,hs,rfl,gg.cf,hh.grow hP gg,λn H3 g3 n1 n2=>⟨gw,λt ht=>?_⟩⟩
  have h3:=ia gg.cf g3 h2
  exact q t (.sum ns n) _ ((gg.trans g3).new ht) ⟨t2,ag,aj ht _ _ _ h3⟩ ⟨by show ns.length<=1000; omega,trivial,trivial,λc hc=>by rcases List.mem_append.mp hc with z | z; exact hp c z; rw [List.mem_singleton.mp z]; exact n1⟩ rfl
 refine⟨_,rfl,rfl,_,rfl,?_⟩
 refine cI (λc=>?_) (λn5=>?_)
 ·have e:wd="first":=by have:=of_decide_eq_true c; injection this
  subst e
  refine⟨_,rfl,p,_,rfl,hP,by decide,by decide,λd H1 g1 a1 b1=>?_⟩
  refine⟨_,rfl,p,_,rfl,g1.cf,by decide,by decide,λd2 H2 g2 a2 b2=>⟨cM,λR hR=>?_⟩⟩
  have gg:=(g1.trans g2).new (o:=.lst [.int d,.int d2]) hR
  refine⟨_,rfl,p,_,rfl,gg.cf,by decide,by decide,λd3 H3 g3 a3 b3=>?_⟩
  have hk:=g3.keep R _ ((g1.trans g2).ne hR) ag
  have CW:∃y:Int,ja [V.int d,V.int d2] d3=some (.int y):=by
   have hd:d3=0\/d3=1:=by omega
   rcases hd with z | z <;> rw [z]
   ·exact⟨_,rfl⟩
   ·exact⟨_,rfl⟩
  obtain⟨y,hy⟩:=CW
  refine⟨R,_,_,_,rfl,rfl,aZ.of hk,hy,cM,λt ht=>?_⟩
  exact q t (.first y) _ ((gg.trans g3).new ht) ag ⟨trivial,trivial,trivial,λc hc=>by cases hc⟩ rfl
 refine⟨_,rfl,dQ,λt ht=>?_⟩
 have g9:=(bo.refl hP).new (o:=.tup [.str wd]) ht
 rcases Hw with e | e | e | e | e | e | e
 ·exact absurd (by rw [e]; rfl) n1
 ·exact absurd (by rw [e]; rfl) n2
 ·subst e
  exact q t .apart _ g9 ag ⟨trivial,trivial,trivial,λc hc=>by cases hc⟩ rfl
 ·exact absurd (by rw [e]; rfl) n3
 ·exact absurd (by rw [e]; rfl) n4
 ·subst e
  exact q t .number _ g9 ag ⟨trivial,trivial,trivial,λc hc=>by cases hc⟩ rfl
 ·exact absurd (by rw [e]; rfl) n5
end My
namespace L2
open PySem PySem.Spec PyProof.Rows
section
variable{X:Cx}
end
end L2
namespace L2
open PySem
def LR(K:PySem.W.Frag):List V->Hp->VK->Prop:=λxs H Q=>∃p ys,xs=[.ref p]/\(aZ K H p ys\/aH K H p ys)/\Q (.int ys.length) H
variable{X:Cx}
theorem Ac:fu X (.builtin "len") (LR X.K):=bE
end L2
namespace L2
open PySem PySem.Spec PyProof.Rows
variable{X:Cx}
def Mv(K:PySem.W.Frag)(n:String):List V->Hp->VK->Prop:=λxs H Q=>∃x t b,xs=[x,.ty n]/\kl K H x t/\PySem.W.kitOne K t (.type n)=some b/\Q (.bl b) H
theorem vN{n:String}:fu X (.builtin "isinstance") (Mv X.K n):=by
 intro pins s σ H xs us Q I r h
 obtain⟨x,t,b,rfl,ty,e,q⟩:=h
 obtain⟨u,w',rfl,r1,r2⟩:=vals2 r
 cases(show w'=Value.type n from r2)
 exact rD I r1 ty e λtk=>⟨.bl b,H,I.tok _,rfl,q⟩
def Oi(K:PySem.W.Frag)(ta tb:TE):TE:=λσ H Q=>ta σ H λx H1=>∃k,MC K x H1 k/\if k=true then Q x H1 else tb σ H1 Q
theorem Jx{a b:Expr}{ta tb:TE}{pos:Pos}(ha:PE X a ta)(hb:PE X b tb):PE X (.BoolOp .Or [a,b] pos) (Oi X.K ta tb):=by
 intro pins s σ H Q I h
 refine BoolOp_or (b_ (ha pins s σ H _ I h) λv s1 ⟨x,H1,I1,r1,k,hk,q1⟩=>?_)
 refine b_ (HU pins s1 σ H1 x v (λb H2=>b=k/\H2=H1) I1 r1 ⟨k,hk,rfl,rfl⟩) λb s2 ⟨H2,I2,e1,e2⟩=>?_
 subst e1 e2
 cases b with
 | false=>exact cY hb pins s2 σ _ Q I2 q1
 | true=>exact⟨x,_,I2,r1,q1⟩
structure Nr(zb:Scope)(ON N':List Str)(src:List (Option Nat))(sc:Scope):Prop where
 kind:sc.kind=.function
 Ms:zb.kind=.function
 uniq:∀y∈sc.names,sc.names.lookup y.1=some y.2
 free:∀y∈sc.names,y.2=.free->zb.names.lookup y.1=some .cell\/zb.names.lookup y.1=some .free
 len:src.length=N'.length
 src:∀(i:Nat) (x:Str) (j:Nat),N'[i]? = some x->src[i]? = some (some j)->ON[j]? = some x/\sc.names.lookup x=some .free
section
variable{X:Cx}{elt target iter:Expr}{ifs:List Expr}{sc:Scope}{pos:Pos}{wi:TI}{g:TG}{tc:TT}{te:TE}{N':List Str}{src:List (Option Nat)}
end
section
variable{X:Cx}{N':List Str}{sc:Scope}{cl:List (Str×Addr)}{C:Addr}{s:Shared}{H:Hp}{fp:List Addr}
end
end L2
namespace L2
open PySem
def GK:R2:=λx y H Q=>∃a b xs ys,x=.ref a/\y=.ref b/\H a=some (.tup xs)/\H b=some (.tup ys)/\xs.length+ys.length<=sizeLine/\∀t H',aM H H'->H' t=some (.tup (xs++ys))->Q (.ref t) H'
theorem cb{X:Cx}:i8 X (binaryOp .Add) GK:=by
 intro pins s σ H x y v u Q I rx ry h
 obtain⟨a,b,xs,ys,rfl,rfl,ha,hb,hz,q⟩:=h
 by_cases hx:xs=[]
 ·subst hx
  exact CJ pins s σ H _ _ v u Q I rx ry ⟨a,b,ys,rfl,rfl,aH.of ha,aH.of hb,q b H (aM.refl _) hb⟩
 ·exact rW pins s σ H _ _ v u Q I rx ry ⟨a,b,xs,ys,rfl,rfl,aH.of ha,aH.of hb,hx,hz,λz=>q a H (aM.refl _) (by rw [z,List.append_nil]; exact ha),λ_ p hp=>q p _ (λb' u' e=>by rw [aI (aU e hp)]; exact e) ag⟩
def Oy:V->Option Int->Option Int->Hp->VK->Prop:=λx lo hi H Q=>∃a xs,x=.ref a/\H a=some (.tup xs)/\∀t H',aM H H'->H' t=some (.tup (gj xs lo hi))->Q (.ref t) H'
theorem c_{X:Cx}:Fz X Oy:=by
 intro pins s σ H x v vl vu lo hi sl Q I rx hs pl pu h
 obtain⟨a,xs,rfl,hx,q⟩:=h
 exact(D0.or Ex) pins s σ H _ v vl vu lo hi sl Q I rx hs pl pu (Gy rfl (aH.of hx) (λz=>q a H (aM.refl _) (by rw [z]; exact hx)) λp hp=>q p _ (λb' u' e=>by rw [aI (aU e hp)]; exact e) ag)
theorem wA{xs:List V}{n:Nat}(h:n<=xs.length):gj xs none (some (n:Int))=xs.take n:=by
 unfold gj
 rw [HT.yK,HT.nI]
 simp [Nat.min_eq_left h]
theorem DS{xs:List V}{n:Nat}(h:n<=xs.length):gj xs (some (n:Int)) none=xs.drop n:=by
 unfold gj
 rw [HT.yK,HT.nI,Nat.min_eq_left h]
 exact List.take_of_length_le (by rw [List.length_drop]; exact Uy _)
structure EO(X:Cx)(e:Expr)(t:TE):Prop where
 h:PE X e t
structure AO(X:Cx)(es:List Expr)(t:TA):Prop where
 h:PA X es t
structure SO(X:Cx)(sts:List Stmt)(t:TS):Prop where
 h:nN X sts t
section
variable{X:Cx}{a b e:Expr}{es:List Expr}{ta tb te:TE}{t:TA}{pos pos':Pos}
theorem Io:AO X [] fD:=⟨ah⟩
theorem dZ(ha:EO X e te)(hr:AO X es t)(hs:starEach (e::es) X.env=(false,eval e X.env)::starEach es X.env:=by rfl):AO X (e::es) (bp te t):=⟨ae ha.h hr.h hs⟩
theorem Jn(h:AO X es t):EO X (.List es pos) (xi t):=⟨aQ h.h⟩
theorem Iu{i:Nat}{x:Str}{rest:List Stmt}{u:TS}(hN:X.N.Nodup)(hi:X.N[i]? = some x)(hx:Loc X.env.scope x)(he:EO X e te)(h2:SO X rest u)(hs:swapsWith e (some (.Name x pos')) pos.line X.env=pure false:=by rfl)(hf:X.fn x=true\/X.env.scope.names.lookup x=some .local:=by first | exact .inl rfl | exact .inr rfl | assumption) :
  SO X (.Assign [.Name x pos'] e pos::rest) (EG (Dz te (bz i)) u):=⟨aq (aL hN hi hx he.h hs hf) h2.h⟩
end
theorem MN{X:Cx}{sts:List Stmt}{t:TS}{R:TS->Prop}(h:SO X sts t)(r:R t):∃t,nN X sts t/\R t:=⟨t,h.h,r⟩
end L2
namespace L2
open PySem PySem.Spec PyProof.Rows
def dC(K:PySem.W.Frag)(d:Addr)(key:Str)(f:Addr):Prop :=
 ∃(es:Array DictEntry) (ep:Nat) (i:Nat) (x:Int) (t:Tok),K.lookup d=some ⟨.type "dict",none,.dict es ep,#[]⟩/\es.all (λe=>isExactStrKey e.key)=true/\es.findIdx? (λe=>e.key.isStr key)=some i/\es[i]? = some ⟨x,.str key t,.ref f⟩
def EH(K:PySem.W.Frag):R2:=λx y H Q=>∃d k f,x=.ref d/\y=.str k/\dC K d k f/\Q (.ref f) H
section
variable{X:Cx}
theorem pZ:LB X (EH X.K):=by
 intro value slice pins s σ H x y v u Q I rx ry h hs
 obtain⟨d,k,f,rfl,rfl,⟨es,ep,i,hx,te,lk,ha,hi,he⟩,q⟩:=h
 cases rx
 obtain⟨t,rfl⟩:=ry
 have ho:s.heap.get? d=some ⟨.type "dict",none,.dict es ep,#[]⟩:=I.jK _ _ lk
 have hT:s.TypeIs (.ref d) "dict":=⟨_,ho,rfl⟩
 have fin:EP X pins σ Q (.ref f) {s with toks:=s.toks+1}:=⟨.ref f,H,I.kept (h':=s.heap) (t':=s.toks+1) λ_ _ e=>e,rfl,q⟩
 refine subscriptTail_builtinR (x:=.ref f) hT slot_dict_getitem.lookup ?_ hs
 unfold getItem
 try with_reducible refine wpAny_holding ?_
 refine Ut (wpAny_sequenceKey hT (by decide) ?_)
 refine Ut (wpAny_callSpecial?_slot (name:=Str.ofString "__getitem__") hT slot_dict_getitem
  (wpAny_call_entry slot_dict_getitem hT entry_dict_getitem ?_ (args_dict_getitem _ _)))
 show wpAny _ _ (dictGet d (.str k t) >>= _) _ _ s
 refine Ut ?_
 unfold dictGet
 try with_reducible refine wpAny_holding ?_
 refine Ut (wpAny_pyHash_str ?_)
 unfold dictFind
 refine Ut ?_
 try with_reducible refine wpAny_holding ?_
 refine Ut (wpAny_dictEntries (s:={s with toks:=s.toks+1}) ho rfl ?_)
 dsimp only
 rw [if_pos ha]
 unfold foundByValue
 rw [hi]
 dsimp only
 rw [he]
 dsimp only
 refine Ut (wpAny_dictEpoch (s:={s with toks:=s.toks+1}) ho rfl ?_)
 refine Ut (wpAny_eqBool_str ?_)
 refine Ut (wpAny_dictEpoch (s:={s with toks:=s.toks+1}) ho rfl ?_)
 rw [if_neg (by simp),UB rfl]
 refine Ut (wpAny_rule (Uu ?_))
 refine Ut (wpAny_dictEntries (s:={s with toks:=s.toks+1}) ho rfl (Uu ?_))
 rw [he]
 refine Uu ⟨.ref f,rfl,Uu ⟨rfl,fin⟩⟩
def IL(X:Cx)(CX:nz)(k:Nat)(E:XK)(te:TE)(t:TA):TE:=λσ H Q=>te σ H λv H1=>∃f fd ps sp,v=.ref f/\e9 X.prog X.w X.K X.mg X.base CX k f fd ps sp/\PySem.W.keepIn X.K (.ref f)=true/\Binds X.K fd ps []/\t σ H1 λvs H2=>sp vs H2 Q E
variable{CX:nz}{k:Nat}{E:XK}{x:Str}{p pos:Pos}{e:Expr}{es:List Expr}{te:TE}{t:TA}
theorem o_(hn:PE X (.Name x p) te)(hr:eJ k X.A)(hx:Passes CX X E)(ha:PA X (e::es) t)
  (he:starEach (e::es) X.env=(false,eval e X.env)::starEach es X.env:=by rfl) (hpl:(backTo pos (starEach es X.env)).any (·.1)=false:=by rfl) :
  PE X (.Call (.Name x p) (e::es) [] pos) (IL X CX k E te t):=by
 intro pins s σ H Q I h
 refine wpAny_Call_Name_kw (b_ (hn pins s σ H _ I h) λu s1 ⟨v,H1,I1,rv,f,fd,ps,sp,ev,F,hk,hb,q⟩=>?_)
 subst ev
 cases rv
 refine PySem.W.callWith_K (h₀:=X.base) I1.ok.mod.KC hk (b_ (ha pos pins s1 σ H1 _ I1 q) λus s2 ⟨vs,H2,I2,r,q2⟩=>⟨I2.jK,?_⟩) he hpl
 exact Bb F hr hb .nil hx I2 r (by rw [List.append_nil]; exact q2)
end
end L2
namespace My
open PySem L2
structure Am(mg:Str->Option Value):Prop where
 str:mg "str"=none
 any:mg "any"=none
 zip:mg "zip"=none
 enumerate:mg "enumerate"=none
theorem ve{K:PySem.W.Frag}{t:Value}(h:(t==t)=true):PySem.W.kitOne K t t=some true:=by
 unfold PySem.W.kitOne
 exact if_pos h
def gn:Sp:=λvs H Q _=>∃v,vs=[v]/\dP v/\Q (.str (sW v)) H
abbrev lX:Stmt:=top 8
theorem w6:az ["cell"] ["cell"] (ar lX):=fs
variable{P:Program}{w:World}{K:PySem.W.Frag}{mg:Str->Option Value}{base:Heap}
theorem zQ(B:jV mg)(B3:Am mg)(Ki:PySem.W.kitOne K (.type "int") (.type "str")=some false)(F:FA K mg "sort_of" lX) :
  bf bc P w K mg base 1 "sort_of" ["cell"] gn:=by
 refine F.ok w6 λf cdv A outer s H vs Q E hr h=>?_
 obtain⟨v,rfl,hv,q⟩:=h
 refine⟨_,(ax (eR (fw (a_ (vN (n:="str")) rfl B.isinstance PyProof.Rows.boot_isinstance (ae (pv 0) (ae (xP (n:="str") rfl B3.str (by decide +kernel)) ah)))) ao ao)),?_⟩
 rcases hv with⟨n,rfl⟩ | ⟨x,rfl⟩
 ·exact⟨_,rfl,_,_,false,rfl,.int n,Ki,_,rfl,bA q⟩
 ·exact⟨_,rfl,_,_,true,rfl,.str x,ve (by decide),_,rfl,bX q⟩
def eD(ok:W1->Prop):Sp:=λvs H Q _=>∃(a:Addr) (x:W1),vs=[.ref a]/\jS H a x/\ok x/\p9 x/\∀(u:Addr) (H':Hp),aM H H'->H' u=some (.tup ((c7 x).map V.int))->Q (.ref u) H'
def PL(x:W1):Prop:=x=.apart\/x=.number\/∃n,x=.first n
def yM:Sp:=λvs H Q _=>∃v,vs=[v]/\∀(u:Addr) (H':Hp),aM H H'->H' u=some (.tup [])->Q (.ref u) H'
abbrev iE:Stmt:=top 12
theorem qg:az ["worker"] ["worker"] (ar iE):=fs
theorem zp(F:FA K mg "no_columns" iE) :
  bf bc P w K mg base 1 "no_columns" ["worker"] yM:=by
 refine F.ok qg λf cdv A outer s H vs Q E hr h=>?_
 have hu:=iN hr
 obtain⟨v,rfl,q⟩:=h
 refine⟨_,(ax (aJ ah)),?_⟩
 exact⟨Nat.zero_le _,λu hu=>q u _ (aj hu _) ag⟩
theorem CA:∀vs H Q E,eD PL vs H Q E->yM vs H Q E:=by
 rintro vs H Q E ⟨a,x,rfl,_,ho,_,q⟩
 refine⟨_,rfl,λu H' s hu=>q u H' s ?_⟩
 rw [hu]
 rcases ho with rfl | rfl | ⟨n,rfl⟩ <;> rfl
def vn(x:W1):Prop:=∃c,(∃t,x=.keep c t)\/(∃ps,x=.turn c ps)\/(∃ps,x=.must c ps)\/∃mv,x=.walk c mv
theorem vn.at_{x:W1}{H:Hp}{a:Addr}(h:vn x)(ha:jS H a x):∃c y ys,H a=some (.tup (y :: .int c::ys))/\c7 x=[c]:=by
 obtain⟨c,⟨t,rfl⟩ | ⟨ps,rfl⟩ | ⟨ps,rfl⟩ | ⟨mv,rfl⟩⟩:=h
 ·obtain⟨s,xs,h1,h2⟩:=ha; exact⟨c,_,_,h1,rfl⟩
 ·obtain⟨t,bs,h1,h2⟩:=ha; exact⟨c,_,_,h1,rfl⟩
 ·obtain⟨t,bs,h1,h2⟩:=ha; exact⟨c,_,_,h1,rfl⟩
 ·obtain⟨s,t,bs,h1,h2⟩:=ha; exact⟨c,_,_,h1,rfl⟩
abbrev iY:Stmt:=top 13
theorem qv:az ["worker"] ["worker"] (ar iY):=fs
theorem AE(F:FA K mg "one_column" iY) :
  bf bc P w K mg base 1 "one_column" ["worker"] (eD vn):=by
 refine F.ok qv λf cdv A outer s H vs Q E hr h=>?_
 have hu:=iN hr
 obtain⟨a,x,rfl,ha,ho,hs,q⟩:=h
 refine⟨_,(ax (aJ (ae (aA K (pv 0) ai) ah))),?_⟩
 obtain⟨c,y,ys,h1,hc⟩:=ho.at_ ha
 refine⟨_,rfl,a,_,1,_,rfl,rfl,aH.of h1,av (j:=1) rfl,dQ,λu hu=>q u _ (aj hu _) ?_⟩
 rw [ag,hc]
 rfl
def Hz(x:W1):Prop:=∃c d,x=.same c d
abbrev gY:Stmt:=top 14
theorem nP:az ["worker"] ["worker"] (ar gY):=fs
theorem xw(F:FA K mg "two_columns" gY) :
  bf bc P w K mg base 1 "two_columns" ["worker"] (eD Hz):=by
 refine F.ok nP λf cdv A outer s H vs Q E hr h=>?_
 obtain⟨a,x,rfl,ha,ho,hs,q⟩:=h
 refine⟨_,(ax (cz c_ (pv 0) (cB ai) (cB ai))),?_⟩
 obtain⟨c,d,rfl⟩:=ho
 have h1:H a=some (.tup [.str "same",.int c,.int d]):=ha
 exact⟨_,rfl,_,rfl,_,rfl,a,_,rfl,h1,λt H' s' ht=>q t H' s' (by rw [ht]; rfl)⟩
def wD(x:W1):Prop:=∃cs,x=.cut cs\/x=.count cs
abbrev eY:Stmt:=top 15
theorem lq:az ["worker"] ["worker"] (ar eY):=fs
theorem uC(F:FA K mg "listed_columns" eY) :
  bf bc P w K mg base 1 "listed_columns" ["worker"] (eD wD):=by
 refine F.ok lq λf cdv A outer s H vs Q E hr h=>?_
 obtain⟨a,x,rfl,ha,ho,hs,q⟩:=h
 refine⟨_,(ax (aA K (pv 0) ai)),?_⟩
 obtain⟨cs,rfl | rfl⟩:=ho
 ·obtain⟨t,h1,h2⟩:=ha
  exact⟨_,rfl,a,_,1,_,rfl,rfl,aH.of h1,rfl,q t H (aM.refl _) h2⟩
 ·obtain⟨t,h1,h2⟩:=ha
  exact⟨_,rfl,a,_,1,_,rfl,rfl,aH.of h1,rfl,q t H (aM.refl _) h2⟩
def D9(x:W1):Prop:=∃cs,x=.sort cs
abbrev fW:Stmt:=top 16
theorem mM:az ["worker"] ["worker"] (ar fW):=fs
theorem uy(B:jV mg)(F:FA K mg "sort_columns" fW) :
  bf bc P w K mg base 1 "sort_columns" ["worker"] (eD D9):=by
 refine F.ok mM λf cdv A outer s H vs Q E hr h=>?_
 have hu:=iN hr
 obtain⟨a,x,rfl,ha,ho,hs,q⟩:=h
 refine⟨_,(ax (aV bB rfl B.tuple PyProof.Rows.boot_tuple (ae (bw (N':=["column","greatest_first"]) (src:=[none,none]) rfl (ba.jL (by kernel_rfl)) (cJ (aA K (pv 0) ai)) (g:=(iT K 2 (bP (bz 0) (bP (bz 1) iU)))) (λcl C s H fp=>(cD rfl (aD (eA (i:=0)) (aD (eA (i:=1)) bT)))) (λcl C s H fp=>aX) (te:=(bx 0)) (λcl C s H fp=>(i5 0))) ah))),?_⟩
 obtain⟨cs,rfl⟩:=ho
 obtain⟨t,bs,h1,hI⟩:=ha
 have hs:cs.length<=1000:=hs
 have hl:(bs.map V.ref).length=cs.length:=by rw [UC,hI.len]
 refine⟨_,rfl,a,_,1,_,rfl,rfl,aH.of h1,rfl,t,rfl,⟨_,aH.of hI.tup⟩,λD hD=>?_⟩
 refine cF (xs:=bs.map V.ref) (λi σ ys H'=>(∃o1 o2,σ=[o1,o2])/\ys=(cs.take i).map V.int/\ys.length=i/\H' D=some (.lst ys)/\aM H H') ⟨⟨none,none,rfl⟩,rfl,rfl,ag,aj hD _⟩ ?_ ?_ ?_ ?_ ?_
 ·rintro i σ ys H' _ ⟨_,_,hi,h,_⟩
  exact⟨h,Nat.le_of_eq hi⟩
 ·rintro i σ ys H' _ ⟨_,_,_,_,sm⟩
  exact aH.of (sm _ _ hI.tup)
 ·rw [hl]; exact Uz hs (by decide)
 ·rintro i x σ ys H' hx ⟨⟨o1,o2,rfl⟩,rfl,hi,h,sm⟩
  obtain⟨b,c,rfl,ec,bb,hb⟩:=hI.get hx
  refine⟨b,_,rfl,aH.of (sm _ _ hb),rfl,_,_,rfl,ak ⟨_,_,rfl,ak ⟨rfl,?_⟩⟩⟩
  refine⟨_,rfl,h,⟨_,_,rfl⟩,?_,?_,ag,bq hD sm⟩
  ·rw [List.take_add_one,ec,UE]; rfl
  ·rw [UD,hi]; rfl
 ·rintro σ ys H' ⟨_,rfl,_,h,sm⟩
  rw [hl,List.take_length]at h
  exact⟨D,_,rfl,.inl ⟨aZ.of h,λu hu=>q u _ (sm.trans (aj hu _)) ag⟩⟩
def Hm(x:W1):Prop:=∃cs c,x=.sum cs c
abbrev gH:Stmt:=top 17
theorem oQ:az ["worker"] ["worker"] (ar gH):=fs
theorem xo(F:FA K mg "sum_columns" gH) :
  bf bc P w K mg base 1 "sum_columns" ["worker"] (eD Hm):=by
 refine F.ok oQ λf cdv A outer s H vs Q E hr h=>?_
 have hu:=iN hr
 obtain⟨a,x,rfl,ha,ho,hs,q⟩:=h
 refine⟨_,(ax (aF cb (aA K (pv 0) ai) (aJ (ae (aA K (pv 0) ai) ah)))),?_⟩
 obtain⟨cs,c,rfl⟩:=ho
 obtain⟨t,h1,h2⟩:=ha
 have hs:cs.length<=1000:=hs
 refine⟨_,rfl,a,_,1,_,rfl,rfl,aH.of h1,rfl,_,rfl,a,_,2,_,rfl,rfl,aH.of h1,rfl,dQ,λu hu=>?_⟩
 have su:=aj hu (.tup [.int c])
 refine⟨t,u,_,_,rfl,rfl,su _ _ h2,ag,?_,λt' H' s' ht'=>q t' H' (su.trans s') ?_⟩
 ·rw [UC]
  exact Uz (show cs.length+1<=1001 by omega) (by decide)
 ·rw [ht']
  show _=some (HO.tup ((cs++[c]).map V.int))
  rw [UE]
  rfl
def there(c:Int)(h:Hd):Bool:=decide (1<=c)&&decide (c<=(h.length:Nat))
def sV:Sp:=λvs H Q _=>∃(c:Int) (a:Addr) (h:Hd),vs=[.int c,.ref a]/\dW H a h/\Q (.bl (there c h)) H
abbrev kj:Stmt:=top 19
theorem vi:az ["column","head"] ["column","head"] (ar kj):=fs
theorem Dy(B:jV mg)(F:FA K mg "is_there" kj) :
  bf bc P w K mg base 1 "is_there" ["column","head"] sV:=by
 refine F.ok vi λf cdv A outer s H vs Q E hr h=>?_
 obtain⟨c,a,h,rfl,ha,q⟩:=h
 refine⟨_,(ax (Ee D7 D7 ai (pv 0) (a_ bE rfl B.len PySem.boot_len (ae (pv 1) ah)))),?_⟩
 refine⟨_,rfl,_,_,rfl,rfl,_,rfl,?_⟩
 unfold there at q
 refine cI (λk=>?_) (λk=>?_)
 ·rw [k]at q
  refine⟨_,rfl,a,_,rfl,.inr (aH.of ha),_,_,rfl,rfl,?_⟩
  rw [UC]
  rw [Bool.true_and]at q
  exact q
 ·rw [Bool.eq_false_iff.mpr k]at q
  exact q
def dc:Wk->List Hd->Bool
 | .one x,hs=>(c7 x).all λc=>there c (hs.headD [])
 | .both ..,_=>true
 | .meet c d _ _,hs=>there c (hs.headD [])&&there d (hs.getD 1 [])
def C7:Wk->Nat
 | .one _=>1
 | _=>2
def kh:Wk->Prop
 | .one x=>p9 x
 | _=>True
def dD(n:Nat)(F:Wk->List Hd->Bool)(ok:Wk->List Hd->Prop):Sp:=λvs H Q _=>∃(a l:Addr) (x:Wk) (as:List Addr) (hs:List Hd),vs=[.ref a,.ref l]/\dk n H a x/\fQ H l as hs/\hs.length=C7 x/\kh x/\ok x hs/\∀H',aM H H'->Q (.bl (F x hs)) H'
def HG(P:Program)(w:World)(K:PySem.W.Frag)(mg:Str->Option Value)(base:Heap)(aR:Addr)(L:Nat)(x:W1):Prop :=
 ∃(f:Addr) (fd:FuncData),dC K aR x.nm f/\e9 P w K mg base bc L f fd ["worker"] (eD λy=>y=x)/\PySem.W.keepIn K (.ref f)=true/\Binds K fd ["worker"] []
theorem cE{ok ok':W1->Prop}(h:∀x,ok' x->ok x):∀vs H Q E,eD ok' vs H Q E->eD ok vs H Q E:=by
 rintro vs H Q E ⟨a,x,h1,h2,h3,h4⟩
 exact⟨a,x,h1,h2,h x h3,h4⟩
theorem zE{aR:Addr}{f1 f2 f3 f4 f5 f6:Addr}
  (tk:dC K aR "keep" f2) (ts:dC K aR "same" f3) (tc:dC K aR "cut" f4) (tt:dC K aR "turn" f2) (tm:dC K aR "must" f2) (tw:dC K aR "walk" f2) (to:dC K aR "sort" f5) (ta:dC K aR "apart" f1) (tn:dC K aR "count" f4) (tu:dC K aR "sum" f6) (tb:dC K aR "number" f1) (tf:dC K aR "first" f1)
  (G0:FnAt P w K mg base 1 f1 ["worker"] yM) (G2:FnAt P w K mg base 1 f2 ["worker"] (eD vn)) (G3:FnAt P w K mg base 1 f3 ["worker"] (eD Hz)) (G4:FnAt P w K mg base 1 f4 ["worker"] (eD wD)) (G5:FnAt P w K mg base 1 f5 ["worker"] (eD D9)) (G6:FnAt P w K mg base 1 f6 ["worker"] (eD Hm)):∀x,HG P w K mg base aR 1 x:=by
 obtain⟨d1,G0,b1,k1⟩:=G0
 obtain⟨d2,G2,b2,k2⟩:=G2
 obtain⟨d3,G3,b3,k3⟩:=G3
 obtain⟨d4,G4,b4,k4⟩:=G4
 obtain⟨d5,G5,b5,k5⟩:=G5
 obtain⟨d6,G6,b6,k6⟩:=G6
 have G1:=G0.imp CA
 intro x
 cases x with
 | keep c t=>exact⟨f2,d2,tk,G2.imp (cE λ_ e=>⟨c,.inl ⟨t,e⟩⟩),k2,b2⟩
 | same c d=>exact⟨f3,d3,ts,G3.imp (cE λ_ e=>⟨c,d,e⟩),k3,b3⟩
 | cut cs=>exact⟨f4,d4,tc,G4.imp (cE λ_ e=>⟨cs,.inl e⟩),k4,b4⟩
 | turn c ps=>exact⟨f2,d2,tt,G2.imp (cE λ_ e=>⟨c,.inr (.inl ⟨ps,e⟩)⟩),k2,b2⟩
 | must c ps=>exact⟨f2,d2,tm,G2.imp (cE λ_ e=>⟨c,.inr (.inr (.inl ⟨ps,e⟩))⟩),k2,b2⟩
 | walk c mv=>exact⟨f2,d2,tw,G2.imp (cE λ_ e=>⟨c,.inr (.inr (.inr ⟨mv,e⟩))⟩),k2,b2⟩
 | sort cs=>exact⟨f5,d5,to,G5.imp (cE λ_ e=>⟨cs,e⟩),k5,b5⟩
 | apart=>exact⟨f1,d1,ta,G1.imp (cE λ_ e=>.inl e),k1,b1⟩
 | count cs=>exact⟨f4,d4,tn,G4.imp (cE λ_ e=>⟨cs,.inr e⟩),k4,b4⟩
 | sum cs c=>exact⟨f6,d6,tu,G6.imp (cE λ_ e=>⟨cs,c,e⟩),k6,b6⟩
 | number=>exact⟨f1,d1,tb,G1.imp (cE λ_ e=>.inr (.inl e)),k1,b1⟩
 | first n=>exact⟨f1,d1,tf,G1.imp (cE λ_ e=>.inr (.inr ⟨n,e⟩)),k1,b1⟩
theorem dg{x:W1}{hs:List Hd}(h:hs.length=C7 (.one x)):∃hd,hs=[hd]:=by
 cases hs with
 | nil=>cases h
 | cons hd r =>
  cases r with
  | nil=>exact⟨hd,rfl⟩
  | cons _ _=>cases h
theorem dF{hs:List Hd}(h:hs.length=2):∃h1 h2,hs=[h1,h2]:=by
 match hs,h with
 | [h1,h2],_=>exact⟨h1,h2,rfl⟩
theorem AG{x:W1}(h:p9 x):(c7 x).length<=1001:=by
 cases x <;> simp only [c7,UD,List.length_cons,List.length_nil] <;> first | omega | (simp only [p9]at h; omega)
theorem K8{x:W1}:x.nm≠"meet"/\x.nm≠"both":=by cases x <;> (simp only [W1.nm]; decide +kernel)
def gD:Wk->List Int
 | .one x=>c7 x
 | _=>[]
def yC(n:Nat)(x:Wk):Sp:=λvs H Q _=>∃(a:Addr),vs=[.ref a]/\dk n H a x/\kh x/\∀(u:Addr) (H':Hp),aM H H'->H' u=some (.tup ((gD x).map V.int))->Q (.ref u) H'
def BV(P:Program)(w:World)(K:PySem.W.Frag)(mg:Str->Option Value)(base:Heap)(aR:Addr)(n:Nat)(x:Wk):Prop :=
 ∃(f:Addr) (fd:FuncData),dC K aR x.nm f/\e9 P w K mg base bc 1 f fd ["worker"] (yC n x)/\PySem.W.keepIn K (.ref f)=true/\Binds K fd ["worker"] []
theorem bW{n:Nat}{H:Hp}{a:Addr}{x:W1}:dk n H a (.one x)↔jS H a x:=by cases n <;> exact Iff.rfl
theorem Jo{P:Program}{w:World}{K:PySem.W.Frag}{mg:Str->Option Value}{base:Heap}{aR f:Addr}{n:Nat}(h:∀x,HG P w K mg base aR 1 x)(tb:dC K aR "both" f)(G:FnAt P w K mg base 1 f ["worker"] yM) :
  ∀x:Wk,x.nm≠"meet"->BV P w K mg base aR n x:=by
 obtain⟨fd,G,b,k⟩:=G
 intro x hx
 cases x with
 | one x =>
  obtain⟨g,gd,h1,h2,h3⟩:=h x
  refine⟨g,gd,h1,h2.imp ?_,h3⟩
  rintro vs H Q E ⟨a,rfl,ha,hs,q⟩
  exact⟨a,x,rfl,bW.mp ha,rfl,hs,q⟩
 | both p q =>
  refine⟨f,fd,tb,G.imp ?_,k,b⟩
  rintro vs H Q E ⟨a,rfl,ha,hs,q⟩
  exact⟨_,rfl,q⟩
 | meet c d p q=>exact absurd rfl hx
theorem rj{x:Wk}(h:kh x):(gD x).length<=1001:=by
 cases x with
 | one x=>exact AG h
 | both p q=>exact Nat.zero_le _
 | meet c d p q=>exact Nat.zero_le _
abbrev gE:Stmt:=top 20
theorem jG:az ["worker","heads","columns_of"] ["worker","heads"] (ar gE):=fs
theorem zK{n:Nat}{aC:Addr}(B:jV mg)(B2:iK mg)(mC:mg "COLUMNS_OF"=some (.ref aC))(GC:∀x:Wk,x.nm≠"meet"->BV P w K mg base aC n x)(F:FA K mg "columns_fit" gE)
  (kD:bf bc P w K mg base 1 "is_there" ["column","head"] sV) :
  bf bc P w K mg base 2 "columns_fit" ["worker","heads"] (dD n dc (λ_ _=>True)):=by
 refine F.ok jG λf cdv A outer s H vs Q E hr h=>?_
 have hu:=iN hr
 have hu1:=jY hr
 obtain⟨a,l,x,as,hs,rfl,ha,hL,hn,hsm,Ur,q⟩:=h
 refine⟨_,(aN (aW aP (aA K (pv 0) ai) ao) (pk (ay kD hr (ae (aA K (pv 0) ai) (ae (bj K (pv 1) ai) ah))) (cY (ay kD hr (ae (aA K (pv 0) ai) (ae (bj K (pv 1) ai) ah)))))
   (aq (aL (i:=2) jG.nd rfl (Or.inl rfl) (gm (r:=EH K) pZ (cQ rfl mC (show RelV (.ref aC) (.ref aC) from rfl)) (aA K (pv 0) ai) (λ_ _=>rfl)))
   (ax (a_ (ir rfl) rfl B2.all PyProof.Rows.boot_all (ae (bw (N':=["column","heads"]) (src:=[none,some 1]) rfl (ba.jL (by kernel_rfl)) (cJ (o_ (k:=1) (pv 2) hr vo (ae (pv 0) ah))) (λcl C s H fp=>(eA (i:=0))) (λcl C s H fp=>aX) (te:=(i3 sV [] E0 (bp (bx 0) (bp (gO (wb K) (bx 1) (tC (.int 0))) fD)))) (λcl C s H fp=>(ay (hg:=we) kD hr (ae (i5 0) (ae (bj K (yI 1) ai) ah))))) ah))))),?_⟩
 obtain⟨xs,h1⟩:=ha.first
 refine⟨_,rfl,a,_,0,_,rfl,rfl,aH.of h1,av (j:=0) rfl,rfl,_,rfl,cI (λk=>?_) (λk=>aG ?_)⟩
 ·have k:V.str x.nm=V.str "meet":=of_decide_eq_true k
  injection k with k
  cases x with
  | one x=>exact absurd k K8.1
  | both p q=>exact absurd k (by show("both" : Str)≠"meet"; decide +kernel)
  | meet c d p q' =>
  obtain⟨h0,h2,rfl⟩:=dF hn
  obtain⟨a0,e0,gq⟩:=hL.nth (i:=0) rfl
  obtain⟨a1,e1,uH⟩:=hL.nth (i:=1) rfl
  cases n with
  | zero=>exact False.elim ha
  | succ n =>
  obtain⟨b,e,bs,es,h1,_⟩:=ha
  refine⟨_,rfl,a,_,1,_,rfl,rfl,aH.of h1,rfl,_,rfl,l,_,0,_,rfl,rfl,aZ.of hL.lst,av (j:=0) e0,c,a0,h0,rfl,gq,_,rfl,?_⟩
  have q:=q H (aM.refl _)
  have q:Q (.bl (there c h0&&there d h2)) H:=q
  refine cI (λk=>?_) (λk=>?_)
  ·rw [k,Bool.true_and]at q
   exact⟨_,rfl,a,_,2,_,rfl,rfl,aH.of h1,rfl,_,rfl,l,_,1,_,rfl,rfl,aZ.of hL.lst,av (j:=1) e1,d,a1,h2,rfl,uH,q⟩
  ·rw [Bool.eq_false_iff.mpr k]at q
   exact q
 ·have hx:x.nm≠"meet":=λe=>k (UB (by rw [e]))
  obtain⟨g,gd,Iz,FG,kG,bG⟩:=GC x hx
  refine⟨_,rfl,a,_,0,_,rfl,rfl,aH.of h1,av (j:=0) rfl,aC,x.nm,g,rfl,rfl,Iz,ak ?_⟩
  dsimp only
  refine⟨_,rfl,g,gd,_,yC n x,rfl,FG,kG,bG,_,rfl,a,rfl,ha,hsm,λu H1 s1 hu1=>⟨u,rfl,⟨_,aH.of hu1⟩,λD hD=>?_⟩⟩
  have hh:∃h0,hs[0]? = some h0/\hs.headD []=h0:=by
   cases hs with
   | nil=>cases x <;> cases hn
   | cons h0 r=>exact⟨h0,rfl,rfl⟩
  obtain⟨h0,Ti,eh⟩:=hh
  obtain⟨a0,e0,gq⟩:=hL.nth Ti
  refine cF (xs:=(gD x).map V.int) (λi σ ys H'=>(∃o,σ=[o,some (.ref l)])/\ys=(((gD x).take i).map λc=>there c h0).map V.bl/\ys.length=i/\H' D=some (.lst ys)/\aM H1 H') ⟨⟨none,rfl⟩,rfl,rfl,ag,aj hD _⟩ ?_ ?_ ?_ ?_ ?_
  ·rintro i σ ys H' _ ⟨_,_,hi,h,_⟩
   exact⟨h,Nat.le_of_eq hi⟩
  ·rintro i σ ys H' _ ⟨_,_,_,_,sm⟩
   exact aH.of (sm _ _ hu1)
  ·rw [UC]; exact Uz (rj hsm) (by decide)
  ·rintro i v σ ys H' hv ⟨⟨o,rfl⟩,rfl,hi,h,sm⟩
   rw [List.getElem?_map]at hv
   cases ec:(gD x)[i]? with
   | none=>rw [ec]at hv; cases hv
   | some c =>
    rw [ec]at hv
    have hv:V.int c=v:=Option.some.inj hv
    subst hv
    have s2:=s1.trans sm
    refine⟨_,rfl,_,rfl,l,_,0,_,rfl,rfl,aZ.of (s2 _ _ hL.lst),av (j:=0) e0,c,a0,h0,rfl,s2 _ _ gq,h,⟨_,rfl⟩,?_,?_,ag,bq hD sm⟩
    ·rw [take_one ec,UE,UE]; rfl
    ·rw [UD,hi]; rfl
  ·rintro σ ys H' ⟨_,rfl,_,h,sm⟩
   rw [UC,List.take_length]at h
   refine⟨D,_,rfl,aZ.of h,?_⟩
   have e:dc x hs=((gD x).map λc=>there c h0).all id:=by
    cases x with
    | one x =>
     show(c7 x).all (λc=>there c (hs.headD []))=_
     rw [eh,List.all_map]
     rfl
    | both p q=>rfl
    | meet c d p q=>exact absurd rfl hx
   rw [←e]
   exact q H' (s1.trans sm)
end My
namespace L2
open PySem
section
variable{g g2:TG}{tc rJ:TT}{te:TE}{wi2:TI}{D:Addr}{Q:VK}{N:St->List V->Hp->Prop}{p_:St}{H0:Hp}{Nj:List V}{K:PySem.W.Frag}{a:Addr}{xs:List V}
theorem xI(Pv:Nat->St->List V->Hp->Prop)(h0:Pv 0 p_ [] H0)(hD:∀i σ ys H,i<=xs.length->Pv i σ ys H->H D=some (.lst ys))(hl:∀i σ ys H,i<=xs.length->Pv i σ ys H->aZ K H a xs)
  (hs:∀i x σ ys H,xs[i]? = some x->Pv i σ ys H->g x σ H λdf H2=>tc df H2 λb H3=>if b=true then wi2 df H3 λJ2 H4=>∃W2:Nat->Nat->St->List V->Hp->Prop,(∃m,W2 0 m df ys H4)/\nY J2 g2 rJ te D (Pv (i+1)) W2 else Pv (i+1) df ys H3)
  (hd:∀σ ys H,Pv xs.length σ ys H->Q (.ref D) H):∃W:Nat->Nat->St->List V->Hp->Prop,(∃m,W 0 m p_ [] H0)/\tS (Nt K a) g tc wi2 g2 rJ te D Q W:=by
 refine⟨λi m σ ys H=>m=xs.length-i/\i<=xs.length/\Pv i σ ys H,⟨xs.length,by simp,Nat.zero_le _,h0⟩,?_⟩
 rintro i m σ ys H ⟨rfl,hi,p⟩
 have q:=hl i σ ys H hi p
 refine⟨hD i σ ys H hi p,?_⟩
 by_cases hlt:i<xs.length
 ·refine .inr ⟨⟨xs,xs[i],q,by simp [hlt]⟩,Pv (i+1),λσ' ys' H' p'=>⟨xs.length-(i+1),by omega,rfl,hlt,p'⟩,λx H' y=>?_⟩
  obtain⟨e,y⟩:=y
  subst e
  exact hs i x σ ys _ (y xs q) p
 ·have e:i=xs.length:=by omega
  subst e
  exact .inl ⟨⟨xs,q,Uy _⟩,hd σ ys H p⟩
end
end L2
namespace My
open PySem L2
def alike(s t:Str):Bool:=decide (s=t) && !decide (s="t")
def tF:Sp:=λvs H Q _=>∃s t:Str,vs=[.str s,.str t]/\Q (.bl (alike s t)) H
theorem bM(s t:Str):decide (V.str s=V.str t)=decide (s=t):=by
 by_cases e:s=t
 ·rw [e]; simp
 ·rw [UA e,UA (λz=>e (V.str.inj z))]
abbrev fA:Stmt:=top 21
theorem lS:az ["one","other"] ["one","other"] (ar fA):=fs
variable{P:Program}{w:World}{K:PySem.W.Frag}{mg:Str->Option Value}{base:Heap}
theorem Ed{tk:Tok}(mT:mg "TALLY"=some (.str "t" tk))(F:FA K mg "are_same_sort" fA) :
  bf bc P w K mg base 1 "are_same_sort" ["one","other"] tF:=by
 refine F.ok lS λf cdv A outer s H vs Q E hr h=>?_
 obtain⟨s1,t1,rfl,q⟩:=h
 refine⟨_,(ax (pk (bU aP (pv 0) (pv 1)) (cY (bU md (pv 0) (cQ (v:=.str "t") rfl mT ⟨_,rfl⟩))))),?_⟩
 unfold alike at q
 refine⟨_,rfl,_,rfl,rfl,_,rfl,?_⟩
 rw [bM]
 refine cI (λk=>?_) (λk=>?_)
 ·rw [k,Bool.true_and,←bM]at q
  exact⟨_,rfl,rfl,q⟩
 ·rw [Bool.eq_false_iff.mpr k]at q
  exact q
def cR(vs:List V)(t:Str):Bool:=!decide (t="t")&&vs.all λv=>decide (sW v=t)
def iX:Sp:=λvs H Q _=>∃(l:Addr) (us:List V) (t:Str),vs=[.ref l,.str t]/\H l=some (.lst us)/\us.length<=100000/\(∀v∈us,dP v)/\∀H',aM H H'->Q (.bl (cR us t)) H'
abbrev jy:Stmt:=top 22
theorem rR:az ["cells","column_sort"] ["cells","column_sort"] (ar jy):=fs
theorem uA{tk:Tok}(B2:iK mg)(mT:mg "TALLY"=some (.str "t" tk))(F:FA K mg "cells_fit" jy)
  (ij:bf bc P w K mg base 1 "sort_of" ["cell"] gn) :
  bf bc P w K mg base 2 "cells_fit" ["cells","column_sort"] iX:=by
 refine F.ok rR λf cdv A outer s H vs Q E hr h=>?_
 obtain⟨l,us,t,rfl,hl,hz,hc,q⟩:=h
 refine⟨_,(ax (pk (bU md (pv 1) (cQ (v:=.str "t") rfl mT ⟨_,rfl⟩)) (cY (a_ (ir rfl) rfl B2.all PyProof.Rows.boot_all (ae (bw (N':=["cell","column_sort"]) (src:=[none,some 1]) rfl (ba.jL (by kernel_rfl)) (fj (pv 0)) (λcl C s H fp=>(eA (i:=0))) (λcl C s H fp=>aX) (te:=(gO GR (i3 gn [] E0 (bp (bx 0) fD)) (bx 1))) (λcl C s H fp=>(bU aP (ay (hg:=we) ij hr (ae (i5 0) ah)) (yI 1)))) ah))))),?_⟩
 unfold cR at q
 refine⟨_,rfl,rfl,_,rfl,?_⟩
 rw [bM]
 refine cI (λk=>?_) (λk=>?_)
 ·rw [k,Bool.true_and]at q
  refine⟨_,rfl,l,rfl,⟨_,aZ.of hl⟩,λD hD=>?_⟩
  refine dI (xs:=us) (λi σ ys H'=>(∃o,σ=[o,some (.str t)])/\ys=((us.take i).map λv=>decide (sW v=t)).map V.bl/\ys.length=i/\H' D=some (.lst ys)/\aM H H') ⟨⟨none,rfl⟩,rfl,rfl,ag,aj hD _⟩ ?_ ?_ ?_ ?_ ?_
  ·rintro i σ ys H' _ ⟨_,_,hi,h,_⟩
   exact⟨h,Nat.le_of_eq hi⟩
  ·rintro i σ ys H' _ ⟨_,_,_,_,sm⟩
   exact aZ.of (sm _ _ hl)
  ·exact Uz hz (by decide)
  ·rintro i v σ ys H' hv ⟨⟨o,rfl⟩,rfl,hi,h,sm⟩
   refine⟨_,rfl,v,rfl,hc v (UK hv),_,rfl,rfl,h,⟨_,rfl⟩,?_,?_,ag,bq hD sm⟩
   ·rw [take_one hv,UE,UE,bM]; rfl
   ·rw [UD,hi]; rfl
  ·rintro σ ys H' ⟨_,rfl,_,h,sm⟩
   rw [List.take_length]at h
   refine⟨D,_,rfl,aZ.of h,?_⟩
   have e:(us.all λv=>decide (sW v=t))=(us.map λv=>decide (sW v=t)).all id:=by rw [List.all_map]; rfl
   rw [←e]
   exact q H' sm
 ·rw [Bool.eq_false_iff.mpr k]at q
  exact q H (aM.refl _)
def goodW:Wk->Prop
 | .one x=>GG x
 | _=>True
def cS(ss:List Str):Bool:=ss.all λs=>decide (s=ss.headD "")
def f_(t:Str):Str:=if t="t" then "n" else t
def bg:Wk->List Hd->Bool
 | .one (.keep c t),hs=>decide (t=f_ (bt (hs.headD []) c))
 | .one (.same c d),hs=>alike (bt (hs.headD []) c) (bt (hs.headD []) d)
 | .one (.turn c ps),hs=>cR (ps.flatMap λp=>[p.1,p.2]) (bt (hs.headD []) c)
 | .one (.must c ps),hs=>cS (ps.map λp=>sW p.2)&&cR (ps.map λp=>p.1) (bt (hs.headD []) c)
 | .one (.walk c mv),hs=>cR (mv.filter λv=>!decide (v=.non)) (bt (hs.headD []) c)
 | .one (.sum _ c),hs=>!decide (bt (hs.headD []) c="w")
 | .both ..,hs=>decide (hs.headD []=hs.getD 1 [])
 | .meet c d _ _,hs=>alike (bt (hs.headD []) c) (bt (hs.getD 1 []) d)
 | _,_=>true
def qL(k:Wk->Prop)(x:Wk)(hs:List Hd):Prop:=k x/\dc x hs=true/\goodW x
theorem e_{c:Int}{h:Hd}(e:there c h=true):1<=c/\c<=h.length:=by
 unfold there at e
 simp only [Bool.and_eq_true,decide_eq_true_eq]at e
 exact e
theorem cG{x:W1}{h:Hd}{c:Int}(e:dc (.one x) [h]=true)(hc:c∈c7 x):1<=c/\c<=h.length:=e_ (List.all_eq_true.mp e c hc)
abbrev jq:Stmt:=top 23
theorem lD:az ["worker","heads","column_sort"] ["worker","heads"] (ar jq):=fs
theorem vL{n:Nat}{tk:Tok}(mT:mg "TALLY"=some (.str "t" tk))(F:FA K mg "keep_fits" jq) :
  bf bc P w K mg base 1 "keep_fits" ["worker","heads"] (dD n bg (qL λx=>∃c t,x=.one (.keep c t))):=by
 refine F.ok lD λf cdv A outer s H vs Q E hr h=>?_
 obtain⟨a,l,x,as,hs,rfl,ha,hL,hn,hsm,ho,q⟩:=h
 refine⟨_,(aq (aL (i:=2) lD.nd rfl (Or.inl rfl) (aA K (bj K (pv 1) ai) (aF bJ (aA K (pv 0) ai) ai)))
   (ax (bU aP (aA K (aA K (pv 0) ai) ai) (eR (aW aP (pv 2) (cQ (v:=.str "t") rfl mT ⟨_,rfl⟩)) ao (pv 2))))),?_⟩
 obtain⟨⟨c,t,rfl⟩,hf,hg⟩:=ho
 obtain⟨hd,rfl⟩:=dg hn
 obtain⟨a0,e0,gq⟩:=hL.nth (i:=0) rfl
 obtain⟨st,xs,h1,h2⟩:=bW.mp ha
 have hc:=cG hf (c:=c) (by simp [c7])
 refine⟨_,rfl,l,_,0,_,rfl,rfl,aZ.of hL.lst,av (j:=0) e0,_,rfl,a,_,1,_,rfl,rfl,aH.of h1,rfl,_,_,rfl,rfl,a0,_,_,_,rfl,rfl,aH.of gq,dE hc,ak ?_⟩
 dsimp only
 refine⟨_,rfl,a,_,2,_,rfl,rfl,aH.of h1,rfl,st,_,0,_,rfl,rfl,aH.of h2,av (j:=0) rfl,_,rfl,rfl,_,rfl,?_⟩
 have q:=q H (aM.refl _)
 have q:Q (.bl (decide (t=f_ (bt hd c)))) H:=q
 unfold f_ at q
 rw [bM]
 refine cI (λk=>?_) (λk=>?_)
 ·rw [if_pos (of_decide_eq_true k),←bM]at q
  exact⟨rfl,q⟩
 ·rw [if_neg (λe=>k (UB e)),←bM]at q
  exact⟨_,rfl,rfl,q⟩
abbrev jr:Stmt:=top 24
theorem tY:az ["worker","heads"] ["worker","heads"] (ar jr):=fs
theorem uW{n:Nat}(F:FA K mg "same_fits" jr)
  (fE:bf bc P w K mg base 1 "are_same_sort" ["one","other"] tF) :
  bf bc P w K mg base 2 "same_fits" ["worker","heads"] (dD n bg (qL λx=>∃c d,x=.one (.same c d))):=by
 refine F.ok tY λf cdv A outer s H vs Q E hr h=>?_
 obtain⟨a,l,x,as,hs,rfl,ha,hL,hn,hsm,ho,q⟩:=h
 refine⟨_,(ax (ay fE hr (ae (aA K (bj K (pv 1) ai) (aF bJ (aA K (pv 0) ai) ai)) (ae (aA K (bj K (pv 1) ai) (aF bJ (aA K (pv 0) ai) ai)) ah)))),?_⟩
 obtain⟨⟨c,d,rfl⟩,hf,hg⟩:=ho
 obtain⟨hd,rfl⟩:=dg hn
 obtain⟨a0,e0,gq⟩:=hL.nth (i:=0) rfl
 have h1:H a=some (.tup [.str "same",.int c,.int d]):=bW.mp ha
 have hc:=cG hf (c:=c) (by simp [c7])
 have hc2:=cG hf (c:=d) (by simp [c7])
 refine⟨_,rfl,l,_,0,_,rfl,rfl,aZ.of hL.lst,av (j:=0) e0,_,rfl,a,_,1,_,rfl,rfl,aH.of h1,rfl,_,_,rfl,rfl,a0,_,_,_,rfl,rfl,aH.of gq,dE hc,?_⟩
 exact⟨_,rfl,l,_,0,_,rfl,rfl,aZ.of hL.lst,av (j:=0) e0,_,rfl,a,_,2,_,rfl,rfl,aH.of h1,rfl,_,_,rfl,rfl,a0,_,_,_,rfl,rfl,aH.of gq,dE hc2,_,_,rfl,q H (aM.refl _)⟩
abbrev kc:Stmt:=top 28
theorem vG:az ["worker","heads"] ["worker","heads"] (ar kc):=fs
theorem xB{n:Nat}(F:FA K mg "sum_fits" kc) :
  bf bc P w K mg base 1 "sum_fits" ["worker","heads"] (dD n bg (qL λx=>∃cs c,x=.one (.sum cs c))):=by
 refine F.ok vG λf cdv A outer s H vs Q E hr h=>?_
 obtain⟨a,l,x,as,hs,rfl,ha,hL,hn,hsm,ho,q⟩:=h
 refine⟨_,(ax (bU md (aA K (bj K (pv 1) ai) (aF bJ (aA K (pv 0) ai) ai)) ao)),?_⟩
 obtain⟨⟨cs,c,rfl⟩,hf,hg⟩:=ho
 obtain⟨hd,rfl⟩:=dg hn
 obtain⟨a0,e0,gq⟩:=hL.nth (i:=0) rfl
 obtain⟨t,h1,h2⟩:=bW.mp ha
 have hc:=cG hf (c:=c) (by simp [c7])
 have q:=q H (aM.refl _)
 have q:Q (.bl (!decide (bt hd c="w"))) H:=q
 rw [←bM]at q
 exact⟨_,rfl,l,_,0,_,rfl,rfl,aZ.of hL.lst,av (j:=0) e0,_,rfl,a,_,2,_,rfl,rfl,aH.of h1,rfl,_,_,rfl,rfl,a0,_,_,_,rfl,rfl,aH.of gq,dE hc,rfl,q⟩
abbrev jf:Stmt:=top 30
theorem tj:az ["worker","heads"] ["worker","heads"] (ar jf):=fs
theorem vW{n:Nat}(F:FA K mg "meet_fits" jf)
  (fE:bf bc P w K mg base 1 "are_same_sort" ["one","other"] tF) :
  bf bc P w K mg base 2 "meet_fits" ["worker","heads"] (dD n bg (qL λx=>∃c d p q,x=.meet c d p q)):=by
 refine F.ok tj λf cdv A outer s H vs Q E hr h=>?_
 obtain⟨a,l,x,as,hs,rfl,ha,hL,hn,hsm,ho,q⟩:=h
 refine⟨_,(ax (ay fE hr (ae (aA K (bj K (pv 1) ai) (aF bJ (aA K (pv 0) ai) ai)) (ae (aA K (bj K (pv 1) ai) (aF bJ (aA K (pv 0) ai) ai)) ah)))),?_⟩
 obtain⟨⟨c,d,p1,p2,rfl⟩,hf,hg⟩:=ho
 obtain⟨h0,h2,rfl⟩:=dF hn
 obtain⟨a0,e0,gq⟩:=hL.nth (i:=0) rfl
 obtain⟨a1,e1,uH⟩:=hL.nth (i:=1) rfl
 cases n with
 | zero=>exact False.elim ha
 | succ n =>
 obtain⟨b,e,bs,es,h1,_⟩:=ha
 have hf:(there c h0&&there d h2)=true:=hf
 rw [Bool.and_eq_true]at hf
 refine⟨_,rfl,l,_,0,_,rfl,rfl,aZ.of hL.lst,av (j:=0) e0,_,rfl,a,_,1,_,rfl,rfl,aH.of h1,rfl,_,_,rfl,rfl,a0,_,_,_,rfl,rfl,aH.of gq,dE (e_ hf.1),?_⟩
 exact⟨_,rfl,l,_,1,_,rfl,rfl,aZ.of hL.lst,av (j:=1) e1,_,rfl,a,_,2,_,rfl,rfl,aH.of h1,rfl,_,_,rfl,rfl,a1,_,_,_,rfl,rfl,aH.of uH,dE (e_ hf.2),_,_,rfl,q H (aM.refl _)⟩
theorem nG(s t:List Str):cN (.tup (s.map D.str)) (.tup (t.map D.str))=decide (s=t):=by
 have gen:∀s t:List Str,il (s.map D.str) (t.map D.str)=decide (s=t):=by
  intro s
  induction s with
  | nil=>intro t; cases t <;> simp [il]
  | cons x s ih =>
   intro t
   cases t with
   | nil=>simp [il]
   | cons y t =>
    rw [List.map_cons,List.map_cons,il,ih t]
    by_cases e1:x=y <;> by_cases e2:s=t <;> simp [cN,e1,e2]
 rw [cN,gen]
theorem y3{K:PySem.W.Frag}{H:Hp}{a:Addr}{h:Hd}(e:dW H a h):aY K H (.tup (h.map D.str)) (.ref a):=iO e (lU h)
theorem kd(h:List Str):(D.tup (h.map D.str)).depth<=1:=by
 rw [D.depth]
 have:cw (h.map D.str)<=0:=by
  induction h with
  | nil=>rw [List.map_nil,cw]; exact Uy _
  | cons x h ih=>rw [List.map_cons,cw]; exact Nat.max_le.mpr ⟨by simp [D.depth],ih⟩
 omega
abbrev jB:Stmt:=top 29
theorem ud:az ["worker","heads"] ["worker","heads"] (ar jB):=fs
theorem vU{n:Nat}(F:FA K mg "both_fits" jB) :
  bf bc P w K mg base 1 "both_fits" ["worker","heads"] (dD n bg (qL λx=>∃p q,x=.both p q)):=by
 refine F.ok ud λf cdv A outer s H vs Q E hr h=>?_
 have hu:=iN hr
 obtain⟨a,l,x,as,hs,rfl,ha,hL,hn,hsm,ho,q⟩:=h
 refine⟨_,(ax (bU Kj (bj K (pv 1) ai) (bj K (pv 1) ai))),?_⟩
 obtain⟨⟨p1,p2,rfl⟩,hf,hg⟩:=ho
 obtain⟨h0,h2,rfl⟩:=dF hn
 obtain⟨a0,e0,gq⟩:=hL.nth (i:=0) rfl
 obtain⟨a1,e1,uH⟩:=hL.nth (i:=1) rfl
 refine⟨_,rfl,l,_,0,_,rfl,rfl,aZ.of hL.lst,av (j:=0) e0,_,rfl,l,_,1,_,rfl,rfl,aZ.of hL.lst,av (j:=1) e1,_,_,y3 gq,y3 uH,?_,?_⟩
 ·exact UG (Nat.add_le_add_left (Uz (kd h0) (by decide:1<=8)) _) hu
 ·rw [nG]
  exact q H (aM.refl _)
end My
namespace L2
open PySem
section
variable{g g2:TG}{tc rJ:TT}{te:TE}{wi2:TI}{D:Addr}{Q:VK}{N:St->List V->Hp->Prop}{p_:St}{H0:Hp}{Nj:List V}{K:PySem.W.Frag}{a:Addr}{xs:List V}
theorem qS(Pv:Nat->St->List V->Hp->Prop)(h0:Pv 0 p_ [] H0)(hD:∀i σ ys H,i<=xs.length->Pv i σ ys H->H D=some (.lst ys))(hl:∀i σ ys H,i<=xs.length->Pv i σ ys H->aH K H a xs)
  (hs:∀i x σ ys H,xs[i]? = some x->Pv i σ ys H->g x σ H λdf H2=>tc df H2 λb H3=>if b=true then wi2 df H3 λJ2 H4=>∃W2:Nat->Nat->St->List V->Hp->Prop,(∃m,W2 0 m df ys H4)/\nY J2 g2 rJ te D (Pv (i+1)) W2 else Pv (i+1) df ys H3)
  (hd:∀σ ys H,Pv xs.length σ ys H->Q (.ref D) H):∃W:Nat->Nat->St->List V->Hp->Prop,(∃m,W 0 m p_ [] H0)/\tS (F0 K a) g tc wi2 g2 rJ te D Q W:=by
 refine⟨λi m σ ys H=>m=xs.length-i/\i<=xs.length/\Pv i σ ys H,⟨xs.length,by simp,Nat.zero_le _,h0⟩,?_⟩
 rintro i m σ ys H ⟨rfl,hi,p⟩
 have q:=hl i σ ys H hi p
 refine⟨hD i σ ys H hi p,?_⟩
 by_cases hlt:i<xs.length
 ·refine .inr ⟨⟨xs,xs[i],q,by simp [hlt]⟩,Pv (i+1),λσ' ys' H' p'=>⟨xs.length-(i+1),by omega,rfl,hlt,p'⟩,λx H' y=>?_⟩
  obtain⟨e,y⟩:=y
  subst e
  exact hs i x σ ys _ (y xs q) p
 ·have e:i=xs.length:=by omega
  subst e
  exact .inl ⟨⟨xs,q,Uy _⟩,hd σ ys H p⟩
theorem l4(Pv:Nat->St->List V->Hp->Prop)(h0:Pv 0 p_ Nj H0)(hD:∀i σ ys H,i<=xs.length->Pv i σ ys H->H D=some (.lst ys)/\(i<xs.length->ys.length<sizeLine))(hl:∀i σ ys H,i<=xs.length->Pv i σ ys H->aH K H a xs)
  (hs:∀i x σ ys H,xs[i]? = some x->Pv i σ ys H->g x σ H λdf H2=>tc df H2 λb H3=>if b=true then te df H3 λv H4=>H4 D=some (.lst ys)/\Pv (i+1) df (ys++[v]) (upd H4 D (.lst (ys++[v])))else Pv (i+1) df ys H3)
  (hd:∀σ ys H,Pv xs.length σ ys H->N σ ys H):∃W:Nat->Nat->St->List V->Hp->Prop,(∃m,W 0 m p_ Nj H0)/\nY (F0 K a) g tc te D N W:=by
 refine⟨λi m σ ys H=>m=xs.length-i/\i<=xs.length/\Pv i σ ys H,⟨xs.length,by simp,Nat.zero_le _,h0⟩,?_⟩
 rintro i m σ ys H ⟨rfl,hi,p⟩
 have q:=hl i σ ys H hi p
 refine⟨(hD i σ ys H hi p).1,?_⟩
 by_cases hlt:i<xs.length
 ·refine .inr ⟨⟨xs,xs[i],q,by simp [hlt]⟩,(hD i σ ys H hi p).2 hlt,Pv (i+1),λσ' ys' H' p'=>⟨xs.length-(i+1),by omega,rfl,hlt,p'⟩,λx H' y=>?_⟩
  obtain⟨e,y⟩:=y
  subst e
  exact hs i x σ ys _ (y xs q) p
 ·have e:i=xs.length:=by omega
  subst e
  exact .inl ⟨⟨xs,q,Uy _⟩,hd σ ys H p⟩
end
end L2
namespace My
open PySem L2
abbrev jC:Stmt:=top 25
theorem tZ:az ["worker","heads"] ["worker","heads"] (ar jC):=fs
variable{P:Program}{w:World}{K:PySem.W.Frag}{mg:Str->Option Value}{base:Heap}
theorem vm{n:Nat}(F:FA K mg "turn_fits" jC)
  (fv:bf bc P w K mg base 2 "cells_fit" ["cells","column_sort"] iX) :
  bf bc P w K mg base 3 "turn_fits" ["worker","heads"] (dD n bg (qL λx=>∃c ps,x=.one (.turn c ps))):=by
 refine F.ok tZ λf cdv A outer s H vs Q E hr h=>?_
 have hu:=iN hr
 obtain⟨a,l,x,as,hs,rfl,ha,hL,hn,hsm,ho,q⟩:=h
 refine⟨_,(ax (ay fv hr (ae (rd (N':=["pair","cell"]) (src:=[none,none]) rfl (ba.jL (by kernel_rfl)) (cJ (aA K (pv 0) ai)) (λcl C s H fp=>(eA (i:=0))) (λcl C s H fp=>aX) (wi2:=(FI K (bx 0))) (λcl C s H fp=>(cJ (i5 0))) (λcl C s H fp=>(eA (i:=1))) (λcl C s H fp=>aX) (te:=(bx 1)) (λcl C s H fp=>(i5 1))) (ae (aA K (bj K (pv 1) ai) (aF bJ (aA K (pv 0) ai) ai)) ah)))),?_⟩
 obtain⟨⟨c,ps,rfl⟩,hf,hg⟩:=ho
 obtain⟨hd,rfl⟩:=dg hn
 obtain⟨a0,e0,gq⟩:=hL.nth (i:=0) rfl
 obtain⟨t,bs,h1,hI⟩:=bW.mp ha
 have hc:=cG hf (c:=c) (by simp [c7])
 have hz:ps.length<=1000:=hsm
 have hg:∀p∈ps,dP p.1/\dP p.2:=hg
 have hlb:(bs.map V.ref).length=ps.length:=by rw [UC,hI.len]
 refine⟨_,rfl,a,_,2,_,rfl,rfl,aH.of h1,rfl,t,rfl,⟨_,aH.of hI.tup⟩,λD hD=>?_⟩
 refine qS (xs:=bs.map V.ref) (λi σ ys H'=>(∃o1 o2,σ=[o1,o2])/\ys=(ps.take i).flatMap (λp=>[p.1,p.2])/\ys.length=2*i/\H' D=some (.lst ys)/\aM H H') ⟨⟨none,none,rfl⟩,rfl,rfl,ag,aj hD _⟩ ?_ ?_ ?_ ?_
 ·rintro i σ ys H' _ ⟨_,_,_,h,_⟩
  exact h
 ·rintro i σ ys H' _ ⟨_,_,_,_,sm⟩
  exact aH.of (sm _ _ hI.tup)
 ·rintro i v σ ys H' hv ⟨⟨o1,o2,rfl⟩,rfl,hi,h,sm⟩
  obtain⟨b,p,rfl,ep,hb⟩:=hI.get hv
  have hib:i<1000:=by have:=(List.getElem?_eq_some_iff.mp ep).1; omega
  refine ak ⟨_,rfl,b,rfl,⟨_,aH.of (sm _ _ hb)⟩,?_⟩
  refine l4 (xs:=[p.1,p.2]) (λj σ zs H2=>(∃o,σ=[some (.ref b),o])/\zs=(ps.take i).flatMap (λp=>[p.1,p.2])++[p.1,p.2].take j/\zs.length=2*i+j/\H2 D=some (.lst zs)/\aM H H2) ⟨⟨o2,rfl⟩,by rw [List.take_zero,List.append_nil],hi,h,sm⟩ ?_ ?_ ?_ ?_
  ·rintro j σ zs H2 hj ⟨_,_,K5,h2,_⟩
   refine⟨h2,λ_=>?_⟩
   rw [K5]
   exact UG (show 2*i+j<=3000 by have:j<=2:=hj; omega) (by decide)
  ·rintro j σ zs H2 _ ⟨_,_,_,_,s2⟩
   exact aH.of (s2 _ _ hb)
  ·rintro j u σ zs H2 hu' ⟨⟨o,rfl⟩,rfl,K5,h2,s2⟩
   refine ak ⟨_,rfl,h2,⟨_,rfl⟩,?_,?_,ag,bq hD s2⟩
   ·rw [take_one hu',List.append_assoc]
   ·rw [UD,K5]; rfl
  ·rintro σ zs H2 ⟨⟨o,rfl⟩,rfl,K5,h2,s2⟩
   refine⟨⟨_,_,rfl⟩,?_,by rw [K5]; show 2*i+2=_; omega,h2,s2⟩
   rw [take_one ep,List.flatMap_append]
   rfl
 ·rintro σ ys H1 ⟨_,rfl,hyl,h,sm⟩
  rw [hlb,List.take_length]at h hyl
  refine⟨_,rfl,l,_,0,_,rfl,rfl,aZ.of (sm _ _ hL.lst),av (j:=0) e0,_,rfl,a,_,1,_,rfl,rfl,aH.of (sm _ _ h1),rfl,_,_,rfl,rfl,a0,_,_,_,rfl,rfl,aH.of (sm _ _ gq),dE hc,?_⟩
  refine⟨D,_,_,rfl,h,by omega,λv hv=>?_,λH' s'=>q H' (sm.trans s')⟩
  obtain⟨p,hp,hv⟩:=List.mem_flatMap.mp hv
  simp only [List.mem_cons,List.not_mem_nil,or_false]at hv
  rcases hv with rfl | rfl
  ·exact(hg p hp).1
  ·exact(hg p hp).2
abbrev jk:Stmt:=top 27
theorem lz:az ["worker","heads","cells"] ["worker","heads"] (ar jk):=fs
theorem uX{n:Nat}(F:FA K mg "walk_fits" jk)
  (fv:bf bc P w K mg base 2 "cells_fit" ["cells","column_sort"] iX) :
  bf bc P w K mg base 3 "walk_fits" ["worker","heads"] (dD n bg (qL λx=>∃c mv,x=.one (.walk c mv))):=by
 refine F.ok lz λf cdv A outer s H vs Q E hr h=>?_
 obtain⟨a,l,x,as,hs,rfl,ha,hL,hn,hsm,ho,q⟩:=h
 refine⟨_,(aq (km (i:=2) (N':=["state","cell","after"]) (src:=[none,none,none]) lz.nd rfl (Or.inl rfl) rfl rfl (ba.jL (by kernel_rfl)) (cJ (aA K (pv 0) ai)) (g:=(iT K 3 (bP (bz 0) (bP (bz 1) (bP (bz 2) iU))))) (λcl C s H fp=>(cD rfl (aD (eA (i:=0)) (aD (eA (i:=1)) (aD (eA (i:=2)) bT))))) (tc:=(rE (gO (λx y H Q=>y=.non/\Q (.bl (!decide (x=.non))) H) (bx 1) (tC .non)))) (λcl C s H fp=>oA (aW sQ (i5 1) iI)) (te:=(bx 1)) (λcl C s H fp=>(i5 1)))
   (ax (ay fv hr (ae (pv 2) (ae (aA K (bj K (pv 1) ai) (aF bJ (aA K (pv 0) ai) ai)) ah))))),?_⟩
 obtain⟨⟨c,mv,rfl⟩,hf,hg⟩:=ho
 obtain⟨hd,rfl⟩:=dg hn
 obtain⟨a0,e0,gq⟩:=hL.nth (i:=0) rfl
 obtain⟨st,t,bs,h1,hI⟩:=bW.mp ha
 have hc:=cG hf (c:=c) (by simp [c7])
 have hz:mv.length<=1000:=hsm
 have hg:∀v∈mv,v=.non\/dP v:=hg
 have hlb:(bs.map V.ref).length=mv.length:=by rw [UC,hI.len]
 refine⟨_,rfl,a,_,3,_,rfl,rfl,aH.of h1,rfl,t,rfl,⟨_,aH.of hI.tup⟩,λD hD=>?_⟩
 refine cF (xs:=bs.map V.ref) (λi σ ys H'=>(∃o1 o2 o3,σ=[o1,o2,o3])/\ys=(mv.take i).filter (λv=>!decide (v=.non))/\ys.length<=i/\H' D=some (.lst ys)/\aM H H') ⟨⟨none,none,none,rfl⟩,rfl,Uy _,ag,aj hD _⟩ ?_ ?_ ?_ ?_ ?_
 ·rintro i σ ys H' _ ⟨_,_,hi,h,_⟩
  exact⟨h,hi⟩
 ·rintro i σ ys H' _ ⟨_,_,_,_,sm⟩
  exact aH.of (sm _ _ hI.tup)
 ·rw [hlb]; exact Uz hz (by decide)
 ·rintro i v σ ys H' hv ⟨⟨o1,o2,o3,rfl⟩,rfl,hi,h,sm⟩
  obtain⟨b,u,rfl,eu,s1,t1,hb⟩:=hI.get hv
  refine⟨b,_,rfl,aH.of (sm _ _ hb),rfl,_,_,rfl,ak ⟨_,_,rfl,ak ⟨_,_,rfl,ak ⟨rfl,?_⟩⟩⟩⟩
  refine⟨_,rfl,rfl,_,rfl,?_⟩
  refine cI (λk=>?_) (λk=>?_)
  ·refine⟨_,rfl,h,⟨_,_,_,rfl⟩,?_,by rw [UD]; simp only [List.length_singleton]; omega,ag,bq hD sm⟩
   rw [take_one eu,List.filter_append,List.filter_cons,if_pos k]
   rfl
  ·refine⟨⟨_,_,_,rfl⟩,?_,by omega,h,sm⟩
   rw [take_one eu,List.filter_append,List.filter_cons,if_neg k]
   simp
 ·rintro σ ys H1 ⟨_,rfl,hyl,h,sm⟩
  rw [hlb,List.take_length]at h hyl
  refine ak ?_
  dsimp only
  refine⟨_,rfl,_,rfl,l,_,0,_,rfl,rfl,aZ.of (sm _ _ hL.lst),av (j:=0) e0,_,rfl,a,_,1,_,rfl,rfl,aH.of (sm _ _ h1),rfl,_,_,rfl,rfl,a0,_,_,_,rfl,rfl,aH.of (sm _ _ gq),dE hc,?_⟩
  refine⟨D,_,_,rfl,h,by omega,λv hv=>?_,λH' s'=>q H' (sm.trans s')⟩
  obtain⟨hm,hk⟩:=List.mem_filter.mp hv
  rcases hg v hm with rfl | z
  ·simp at hk
  ·exact z
end My
namespace L2
open PySem PySem.Spec PyProof.Rows
open Classical in
noncomputable def lx (ks:List Key) (k:Key):Bool:=decide (k∈ks)
open Classical in
theorem fX{ks:List Key}{k:Key}:lx ks k=true↔k∈ks:=by
 unfold lx
 exact decide_eq_true_iff
noncomputable def fK (ks:List Key) (k:Key):List Key:=if lx ks k=true then ks else ks++[k]
theorem BF(ks:List Key)(k k':Key):lx (fK ks k) k'=(lx ks k'||decide (k'=k)):=by
 rw [Bool.eq_iff_iff,Bool.or_eq_true,decide_eq_true_eq,fX,fX]
 unfold fK
 by_cases h:lx ks k=true
 ·rw [if_pos h]
  exact⟨.inl,λz=>z.elim id λe=>by rw [e]; exact fX.mp h⟩
 ·rw [if_neg h,List.mem_append,List.mem_singleton]
def xS(J:It)(g:TG)(te:TE)(Q:VK)(W:Nat->Nat->St->List Key->Hp->Prop):Prop :=
 ∀i m σ ks H,W i m σ ks H->ks.length+1<scanBound/\((J.stop i H/\Q (.int (ks.length:Nat)) H)\/(J.go i H/\∃N:St->List Key->Hp->Prop,(∀σ' ks' H',N σ' ks' H'->∃m',m'<m/\W (i+1) m' σ' ks' H')/\
  ∀x H',J.EV i H x H'->g x σ H' λdf H2=>te df H2 λv H3=>∃k,v=kV k/\N df (fK ks k) H3))
def Ew(src:List (Option Nat))(wi:TI)(g:TG)(te:TE):TE:=λσ H Q=>wi σ H λJ H1=>∃W:Nat->Nat->St->List Key->Hp->Prop,(∃m,W 0 m (jT src σ) [] H1)/\xS J g te Q W
section
variable{prog:Program}{w:World}{A:Around}{s:Shared}{R:Result->Shared->Prop}{elt target iter:Expr}{sc:Scope}{pos:Pos}{it acc:Value}{env:Env}
theorem zv:compTurn (.SetComp elt [⟨target,iter,[],0⟩] sc pos) 0 it acc env=(standAt iter.pos >>= λ_=>pyNext it >>= λr=>match r with
   | none=>pure (.done .next)
   | some v=>letOwnedTupleGo target it v >>= λ_=>assign target env v >>= λ_=>(eval elt env >>= λx=>standAt elt.pos >>= λ_=>call (.builtin "set.add") [acc,x] >>= λ_=>pure ()) >>= λ_=>again (.compLoop (.SetComp elt [⟨target,iter,[],0⟩] sc pos) 0 it acc env)):=by rfl
theorem xf(h0:codeAny (model prog w) A (.compLoop (.SetComp elt [⟨target,iter,[],0⟩] sc pos) 0 it acc env) R s)
  (h:wpAny (model prog w) A (pyIter it) (λit' s'=>codeAny (model prog w) A (.compLoop (.SetComp elt [⟨target,iter,[],0⟩] sc pos) 0 it' acc env) R s') (notedBy (model prog w) A env λx s'=>R (.error x) s') s) :
  codeAny (model prog w) A (.compStart (.SetComp elt [⟨target,iter,[],0⟩] sc pos) 0 it acc env) R s:=by
 refine codeAny_of_tree (show wpAny _ _ ((compStart (.SetComp elt [⟨target,iter,[],0⟩] sc pos) 0 it acc env).onRaise (λx=>do noteFrame x env; standAt theWindowsPlace)) _ _ s from wpAny_notedAt ?_)
 unfold compStart
 refine show wpAny _ _ (ask >>= _) _ _ s from Ut (wpAny_askSetting (wpAny_ite ?_))
 split
 ·first | exact Ut (Uu (Uu ⟨rfl,h0⟩)) | exact Uu ⟨rfl,h0⟩
 ·refine Ut (wpAny_rule (show wpAny _ _ (standAt iter.pos >>= _) _ _ s from ?_))
  exact Ut (wpAny_standAt (Ut (b_ h λit' s' h'=>Uu ⟨rfl,h'⟩)))
theorem AA(Iv:Nat->Shared->Prop)
  (turn:∀n s,Iv n s->wpAny (model prog w) A (pyNext it) (λr s₁=>match r with
   | none=>R (.ok .next) s₁
   | some v=>wpAny (model prog w) A (letOwnedTupleGo target it v) (λ_ s₁'=>wpAny (model prog w) A (assign target env v) (λ_ s₂=>wpAny (model prog w) A (eval elt env) (λx s₄ =>
       wpAny (model prog w) A (call (.builtin "set.add") [acc,x]) (λ_ s₅=>∃m,m<n/\Iv m s₅) (λ_ _=>False) s₄) (λ_ _=>False) s₂) (λ_ _=>False) s₁') (λ_ _=>False) s₁) (λ_ _=>False) s)
  (n:Nat) (h:Iv n s):codeAny (model prog w) A (.compLoop (.SetComp elt [⟨target,iter,[],0⟩] sc pos) 0 it acc env) R s:=by
 refine codeAny_loop rfl Iv (λn s hI=>?_) n h
 show wpAny _ A ((compTurn (.SetComp elt [⟨target,iter,[],0⟩] sc pos) 0 it acc env).onRaise (λx=>do noteFrame x env; theTreesLotGoes x)) _ _ s
 refine wpAny_noted ?_
 rw [zv]
 refine Ut (wpAny_standAt (Ut (wpAny_mono (turn n s hI) (λr s₁ h₁=>?_) λ_ _ h'=>h'.elim)))
 cases r with
 | none=>exact Uu h₁
 | some v =>
  refine Ut (wpAny_mono h₁ (λ_ s₁' h₁'=>Ut (wpAny_mono h₁' (λ_ s₂ h₂=>?_) λ_ _ h'=>h'.elim)) λ_ _ h'=>h'.elim)
  exact Ut (Ut (wpAny_mono h₂ (λx s₄ h₄=>Ut (wpAny_standAt (Ut (wpAny_mono h₄ (λ_ s₅ h₅=>Uu (Uu ⟨rfl,h₅⟩)) λ_ _ h'=>h'.elim)))) λ_ _ h'=>h'.elim))
end
theorem Kk{k:Key}{u:Value}(r:RelV (kV k) u):f9 k u=true/\u.scannable=true:=by
 cases k with
 | inl i=>obtain⟨t,rfl⟩:=r; exact⟨lM _ _,rfl⟩
 | inr x=>obtain⟨t,rfl⟩:=r; exact⟨l9 _ _,rfl⟩
section
variable{X:Cx}{elt target iter:Expr}{sc:Scope}{pos:Pos}{wi:TI}{g:TG}{te:TE}{N':List Str}{src:List (Option Nat)}
abbrev tI(h:Heap)(prog:Program)(w:World)(S:Addr)(ks:List Key):Prop:=h.SetOf (bD prog w) S (λk=>lx ks k) ks.length
theorem De{h:Heap}{prog:Program}{w:World}{S:Addr}{ks:List Key}(x:tI h prog w S ks):∃o,h.get? S=some o/\∀v,o.data≠ .cell v:=by
 obtain⟨o,es,ep,t,ho,_,hd,_⟩:=x
 exact⟨o,ho,λv z=>by rw [hd]at z; cases z⟩
theorem jH{h h':Heap}{prog:Program}{w:World}{S:Addr}{ks:List Key}(x:tI h prog w S ks)(k:∀o,h.get? S=some o->h'.get? S=some o):tI h' prog w S ks:=by
 obtain⟨o,es,ep,t,ho,z⟩:=x
 exact⟨o,es,ep,t,k _ ho,z⟩
theorem xQ{pins:List (Addr×Obj)}{σ:St}{H2:Hp}{s2:Shared}{it:Addr}{fp:List Addr}{tn:Nat->Heap->Prop}{J:It}{Q:VK}{E:Value->Shared->Prop}{RR:Value->Addr->Result->Shared->Prop}
  (hc:X.calm=true) (S:ba X.env.scope X.N N' src sc)
  (hg:∀cl C s H fp,PG (aK X N' sc cl C s H fp) target g) (he:∀cl C s H fp,PE (aK X N' sc cl C s H fp) elt te)
  (I2:Inv X pins σ H2 s2) (T:Turn X.prog X.w X.K target J fp it tn) (st2:tn 0 s2.heap) (f2:∀b∈fp,dB X pins H2 b)
  (hW:∃W:Nat->Nat->St->List Key->Hp->Prop,(∃m,W 0 m (jT src σ) [] H2)/\xS J g te Q W)
  (hRR:∀D C s5 H' m ks,Inv X pins σ H' s5->s5.heap.Ns C m->dB X pins H' C->C≠D->tI s5.heap X.prog X.w D ks->Q (.int (ks.length:Nat)) H'->RR (.ref D) C (.ok .next) s5) :
  wpAny (model X.prog X.w) X.A (newSet (.type "set")) (λacc s₃=>wpAny (model X.prog X.w) X.A (newFunctionEnv sc X.env.globals (bL X.env.cells sc.names []) [] X.env.qual none .none (some X.env)) (λcenv s₄ =>
   codeAny (model X.prog X.w) X.A (.compStart (.SetComp elt [⟨target,iter,[],0⟩] sc pos) 0 (.ref it) acc {cenv with scope:=relabel sc X.env}) (RR acc cenv.locals) s₄) E s₃) E s2:=by
 have o2:∀b∈fp,b<s2.heap.objs.size:=λb hb=>by
  obtain⟨o,e,_⟩:=T.obj 0 _ st2 b hb
  exact Uw e
 refine wpAny_newSet_of (knd:=bD X.prog X.w) λled hS=>?_
 have JZ:H2 s2.heap.objs.size=none:=I2.hok.fresh (Uy _)
 obtain⟨W,⟨m0,w0⟩,turn⟩:=hW
 have GQ:∀b o,s2.heap.get? b=some o->(s2.heap.push {cls:=.type "set",dict:=none,data:=.set #[] 0 (.fresh 0 0 led)}).get? b=some o:=λb o e=>Uv _ e
 have I3:Inv X pins σ H2 {s2 with heap:=s2.heap.push {cls:=.type "set",dict:=none,data:=.set #[] 0 (.fresh 0 0 led)}}:=I2.kept (t':=s2.toks) GQ
 have fS:dB X pins H2 s2.heap.objs.size:=I2.l7 (Uy _) JZ
 have st3:tn 0 (s2.heap.push {cls:=.type "set",dict:=none,data:=.set #[] 0 (.fresh 0 0 led)}):=T.keep 0 _ _ st2 λb hb o e=>GQ b o e
 generalize hs3:({s2 with heap:=s2.heap.push {cls:=.type "set",dict:=none,data:=.set #[] 0 (.fresh 0 0 led)}}:Shared)=s3 at I3
 have hh3:s3.heap=s2.heap.push {cls:=.type "set",dict:=none,data:=.set #[] 0 (.fresh 0 0 led)}:=by rw [←hs3]
 have El:s2.heap.objs.size<s3.heap.objs.size:=by rw [hh3,Heap.size_push]; exact Nat.lt_succ_self _
 generalize Ud:s2.heap.objs.size=Sa at *
 have o3:∀b∈Sa::fp,b<s3.heap.objs.size:=λb hb=>by
  rcases List.mem_cons.mp hb with rfl | hb
  ·exact El
  ·exact Nat.lt_trans (o2 b hb) El
 have nS:∀b∈fp,b≠Sa:=λb hb=>Nat.ne_of_lt (o2 b hb)
 have f3:∀b∈Sa::fp,dB X pins H2 b:=λb hb=>by
  rcases List.mem_cons.mp hb with rfl | hb
  ·exact fS
  ·exact f2 b hb
 rw [←hh3]at st3 hS
 refine wpAny_newFunctionEnv S.og (by intro y hy; simp at hy) (λh1 hns hsb=>?_) S.kind
 have hsb':Heap.SameBut s3.heap.objs.size (s3.heap.push {cls:=.type "dict",data:=.dict #[]}) h1:=hsb
 have I4:Inv (aK X N' sc (bL X.env.cells sc.names []) s3.heap.objs.size s3 H2 (Sa::fp)) [] (jT src σ) H2 {s3 with heap:=h1,toks:=s3.toks+([]:List (Str×Value)).length} :=
  iD S I3 f3 o3 hns hsb'
 have k4:∀b o,b<s3.heap.objs.size->s3.heap.get? b=some o->h1.get? b=some o:=λb o hb e=>(hsb'.2 b (Nat.ne_of_lt hb)).trans (Uv _ e)
 have BJ:tn 0 h1:=T.keep 0 _ _ st3 λb hb o e=>k4 b o (o3 b (UL _ hb)) e
 have e0:(λk:Key=>lx [] k) = λ_=>false:=by
  funext k
  exact Bool.eq_false_iff.mpr λz=>by cases fX.mp z
 have SQ:tI s3.heap X.prog X.w Sa []:=by
  show Heap.SetOf _ _ _ (λk=>lx [] k) _
  rw [e0]
  exact hS
 have Tq:tI h1 X.prog X.w Sa []:=jH SQ λo e=>k4 _ o El e
 have fC:∀(H':Hp),H' s3.heap.objs.size=none->dB X pins H' s3.heap.objs.size:=λH' hn=>I3.l7 (Uy _) hn
 generalize hY:aK X N' sc (bL X.env.cells sc.names []) s3.heap.objs.size s3 H2 (Sa::fp)=Y at I4
 have NA:Y.prog=X.prog:=by rw [←hY]
 have Ny:Y.w=X.w:=by rw [←hY]
 have P8:Y.K=X.K:=by rw [←hY]
 have Qz:Y.calm=X.calm:=by rw [←hY]
 have NG:Y.A=X.A:=by rw [←hY]
 have Qy:Y.env=compEnvC sc (bL X.env.cells sc.names []) s3.heap.objs.size X.env:=by rw [←hY]
 have NB:Y.ex=Sa::fp:=by rw [←hY]
 have P0:Y.xe = λ_ _=>False:=by rw [←hY]
 have TZ:Y.pn=[]:=by rw [←hY]
 have OL:PG Y target g:=by rw [←hY]; exact hg _ _ _ _ _
 have NW:PE Y elt te:=by rw [←hY]; exact he _ _ _ _ _
 have stat:∀{pl:List (Addr×Obj)} {H':Hp} {b:Addr},H' b=none->b∈Sa::fp->(∀p∈pl,p.1≠b)->dB Y pl H' b:=λ{pl H' b} hn hb hp =>
  ⟨hn,(I4.ok.AM b (by rw [NB]; exact hb)).1,I4.ok.pI b (by rw [NB]; exact hb),.inl (by rw [NB]; exact hb),(I4.ok.AM b (by rw [NB]; exact hb)).2,λp h=>hp p (by rw [TZ]at h; exact h)⟩
 have L6:∀{σ':St} {H':Hp} {s':Shared} {pl:List (Addr×Obj)} {o:Obj},Inv Y pl σ' H' s'->s'.heap.get? Sa=some o->(∀v,o.data≠ .cell v)->H' Sa=none->Inv Y [(Sa,o)] σ' H' s':=λ{σ' H' s' pl o} J e d hn =>
  J.iF λp hp=>by
   have:p=(Sa,o):=by simpa using hp
   subst this
   exact⟨e,hn,(stat (pl:=[]) hn List.mem_cons_self λ_ z=>nomatch z).2.1,(stat (pl:=[]) hn List.mem_cons_self λ_ z=>nomatch z).2.2.1,d⟩
 have loop:codeAny (model X.prog X.w) X.A (.compLoop (.SetComp elt [⟨target,iter,[],0⟩] sc pos) 0 (.ref it) (.ref Sa) (compEnvC sc (bL X.env.cells sc.names []) s3.heap.objs.size X.env))
   (RR (.ref Sa) s3.heap.objs.size) {s3 with heap:=h1,toks:=s3.toks+([]:List (Str×Value)).length}:=by
  refine AA (λn s'=>∃i σ' ks H',Inv Y [] σ' H' s'/\tn i s'.heap/\(∀b∈Sa::fp,H' b=none)/\tI s'.heap X.prog X.w Sa ks/\W i n σ' ks H') ?_ m0
   ⟨0,_,[],_,I4,BJ,λb hb=>(f3 b hb).1,Tq,w0⟩
  rintro n s5 ⟨i,nu,ks,H5,I5,ug,v8,OJ,w5⟩
  obtain⟨hroom,alt⟩:=turn i n nu ks H5 w5
  obtain⟨oS,eS,dS⟩:=De OJ
  have Qw:=L6 I5 eS dS (v8 _ List.mem_cons_self)
  have DA:∀{H':Hp},(∀b∈fp,H' b=none)->∀b∈fp,dB Y [(Sa,oS)] H' b:=λhn b hb=>stat (hn b hb) (UL _ hb) λp hp=>by
   have:p=(Sa,oS):=by simpa using hp
   subst this
   exact(nS b hb).symm
  have PX:∀b∈fp,H5 b=none:=λb hb=>v8 b (UL _ hb)
  rcases alt with⟨stop,qn⟩ | ⟨go,N,hN,step⟩
  ·have:=T.done Y NA Ny P8 (by rw [Qz]; exact hc) i [(Sa,oS)] s5 nu H5 (λ_ _=>False) Qw (DA PX) ug stop
   rw [NG]at this
   refine b_ this λr s6 ⟨hr,I6⟩=>?_
   subst hr
   have RA:tI s6.heap X.prog X.w Sa ks:=jH OJ λo e=>by
    rw [eS]at e; cases e
    exact(I6.pin (Sa,oS) (UJ _ (.head _))).1
   subst hY
   obtain⟨m6,n6,_⟩:=id I6.loc
   exact hRR _ _ s6 H5 m6 ks (I3.call' I6.os I6.base I6.hok I6.bare λb hb=>⟨(f3 b hb).2.2.2.1,(f3 b hb).2.1,(f3 b hb).2.2.2.2.1,(f3 b hb).2.2.2.2.2⟩) n6 (fC _ I6.free) (Nat.ne_of_gt El) RA qn
  ·have:=T.item Y NA Ny P8 (by rw [Qz]; exact hc) i [(Sa,oS)] s5 nu H5 (λ_ _=>False) Qw (DA PX) ug go
   rw [NG]at this
   refine b_ this λr s6 ⟨u,hr,h6⟩=>?_
   subst hr
   refine b_ h6 λ_ s7 ⟨x,H7,I7,r7,y7,sh,ET⟩=>?_
   have F_:=I7.pinned (DA ET) (T.obj _ _ sh)
   have QK:=OL _ s7 nu H7 x u _ F_ r7 (step x H7 y7)
   rw [NA,Ny,NG,Qy,P0]at QK
   refine b_ QK λ_ s8 ⟨uh,H8,I8,q8⟩=>?_
   have QA:=NW _ s8 uh H8 _ I8 q8
   rw [NA,Ny,NG,Qy,P0]at QA
   refine b_ QA λxv s9 ⟨v,H9,I9,r9,k,ek,w9⟩=>?_
   subst ek
   obtain⟨hk1,hk2⟩:=Kk r9
   have pS:=I9.pin (Sa,oS) (UJ _ (List.mem_append_left _ (.head _)))
   have Sb:tI s9.heap X.prog X.w Sa ks:=jH OJ λo e=>by
    rw [eS]at e; cases e
    exact pS.1
   refine call_set_add (knd:=bD X.prog X.w) (k:=k) hk1 hk2 Sb hroom λh' hsb hS'=>?_
   obtain⟨m',hm,w'⟩:=hN _ _ _ w9
   have Hy:∀b∈fp,∀o,s7.heap.get? b=some o->s9.heap.get? b=some o/\H9 b=none:=λb hb o e=>by
    have:=I9.pin (b,o) (UJ _ (UJ _ (cL hb e)))
    exact⟨this.1,this.2.1⟩
   have Td:Inv Y [] uh H9 s9:=I9.iF λp hp=>nomatch hp
   have LZ:=stat (pl:=[]) (H':=H9) (b:=Sa) pS.2.1 List.mem_cons_self λ_ z=>nomatch z
   refine⟨m',hm,i+1,uh,fK ks k,H9,Td.turned (t':=s9.toks+1) (λb o hb e=>(hsb.2 b hb).trans e) LZ.1 LZ.2.1 LZ.2.2.2.1 LZ.2.2.2.2.1 LZ.2.2.2.2.2,T.keep _ _ _ sh λb hb o e=>(hsb.2 b (nS b hb)).trans (Hy b hb o e).1,λb hb=>?_,?_,w'⟩
   ·rcases List.mem_cons.mp hb with rfl | hb
    ·exact pS.2.1
    ·obtain⟨o,e,_⟩:=T.obj _ _ sh b hb
     exact(Hy b hb o e).2
   ·have e1:(λk'=>lx ks k'||decide (k'=k)) = λk'=>lx (fK ks k) k':=by
     funext k'
     exact(BF ks k k').symm
    have e2:(if lx ks k=true then ks.length else ks.length+1)=(fK ks k).length:=by
     unfold fK
     by_cases h:lx ks k=true
     ·rw [if_pos h,if_pos h]
     ·rw [if_neg h,if_neg h,UD]; rfl
    show h'.SetOf (bD X.prog X.w) Sa (λk'=>lx (fK ks k) k') (fK ks k).length
    rw [←e1,←e2]
    exact hS'
 exact xf loop (T.self _ 0 _ _ _ BJ loop)
theorem wU{np lp:Pos}(hc:X.calm=true)(T1:Gl X "len")(Q4:X.mg "len"=none)(S:ba X.env.scope X.N N' src sc)(hi:PI X target iter wi)
  (hg:∀cl C s H fp,PG (aK X N' sc cl C s H fp) target g) (he:∀cl C s H fp,PE (aK X N' sc cl C s H fp) elt te)
  (hs:∀x,foldedSetIterable iter X.env x=pure x:=by intro _; rfl) (hs1:starEach [Expr.SetComp elt [⟨target,iter,[],0⟩] sc pos] X.env=[(false,eval (.SetComp elt [⟨target,iter,[],0⟩] sc pos) X.env)]:=by rfl) :
  PE X (.Call (.Name "len" np) [.SetComp elt [⟨target,iter,[],0⟩] sc pos] [] lp) (Ew src wi g te):=by
 intro pins s σ H Q I h
 refine wpAny_Call_Name_kw (iG I T1 Q4 PySem.boot_len ?_ (by decide) (by decide))
 refine PyProof.Rows.callWith_builtin1 ?_ hs1 rfl
 rw [hs1]
 refine Calls.spliced_cons ?_
 rw [arm_eval_SetComp]
 refine wpAny_comprehension_free (use:=none) (e:=.SetComp elt [⟨target,iter,[],0⟩] sc pos) (g:=⟨target,iter,[],0⟩) (gs:=[]) rfl hs (cU λy hy hk=>I.ok.has y.1 (S.free y hy hk)) S.kind (λy hy hl=>by rw [←hl]; exact S.uniq y hy) ?_
 refine b_ (hi pins s σ H _ I h) λv s1 h1=>b_ h1 λitv s2 h2=>?_
 obtain⟨it,fp,tn,J,H2,e,I2,T,st2,f2,hW⟩:=h2
 subst e
 refine xQ (Q:=Q) (RR:=λacc C=>compPost (model X.prog X.w) X.A X.xe none (λv s2=>wpAny (model X.prog X.w) X.A (spliced []) (λvs s3=>wpAny (model X.prog X.w) X.A (call (.builtin "len") (v::vs)) (EP X pins σ Q) X.xe s3) X.xe s2) acc C) hc S hg he I2 T st2 f2 hW ?_
 intro D C s5 H' m ks I5 n5 fC hCD hS q
 refine⟨m,n5,λh' sb=>Calls.spliced_nil ?_⟩
 have I6:=I5.turned (t':=s5.toks) (λb o hb e=>(sb.2 b hb).trans e) fC.1 fC.2.1 fC.2.2.2.1 fC.2.2.2.2.1 fC.2.2.2.2.2
 obtain⟨o,es,ep,t,ho,hex,hd,hel,_,hb,hf,hn⟩:=jH (h':=h') hS λo e=>(sb.2 _ hCD.symm).trans e
 have hsc:(scanBound:Int)<2 ^ 63:=by decide
 have hlt:((es.size:Nat):Int)<2 ^ 63:=Int.lt_trans (Int.ofNat_lt.mpr hb) hsc
 refine call_len_set (s:={s5 with heap:=h',toks:=s5.toks}) ho hex hd hf hlt ?_
 exact⟨.int (ks.length:Nat),H',I6.kept (h':=h') (t':=s5.toks+1+1) λ_ _ e=>e,⟨_,by rw [hn]⟩,q⟩
end
end L2
namespace L2
open PySem
theorem xq{K:PySem.W.Frag}{a:Addr}{xs:List V}{g:TG}{te:TE}{Q:VK}{p_:St}{H0:Hp}(Pv:Nat->St->List Key->Hp->Prop)(h0:Pv 0 p_ [] H0)(hb:∀i σ ks H,i<=xs.length->Pv i σ ks H->ks.length+1<scanBound)(hl:∀i σ ks H,i<=xs.length->Pv i σ ks H->aH K H a xs)
  (hs:∀i x σ ks H,xs[i]? = some x->Pv i σ ks H->g x σ H λdf H2=>te df H2 λv H3=>∃k,v=kV k/\Pv (i+1) df (fK ks k) H3)
  (hd:∀σ ks H,Pv xs.length σ ks H->Q (.int (ks.length:Nat)) H):∃W:Nat->Nat->St->List Key->Hp->Prop,(∃m,W 0 m p_ [] H0)/\xS (F0 K a) g te Q W:=by
 refine⟨λi m σ ks H=>m=xs.length-i/\i<=xs.length/\Pv i σ ks H,⟨xs.length,by simp,Nat.zero_le _,h0⟩,?_⟩
 rintro i m σ ks H ⟨rfl,hi,p⟩
 have q:=hl i σ ks H hi p
 refine⟨hb i σ ks H hi p,?_⟩
 by_cases hlt:i<xs.length
 ·refine .inr ⟨⟨xs,xs[i],q,by simp [hlt]⟩,Pv (i+1),λσ' ks' H' p'=>⟨xs.length-(i+1),by omega,rfl,hlt,p'⟩,λx H' y=>?_⟩
  obtain⟨e,y⟩:=y
  subst e
  exact hs i x σ ks _ (y xs q) p
 ·have e:i=xs.length:=by omega
  subst e
  exact .inl ⟨⟨xs,q,Uy _⟩,hd σ ks H p⟩
theorem B9(ks:List Key)(k:Key):ks.length<=(fK ks k).length/\(fK ks k).length<=ks.length+1:=by
 unfold fK
 split
 ·exact⟨Uy _,Nat.le_succ _⟩
 ·rw [UD]; simp
end L2
namespace My
open PySem L2
noncomputable def gv (acc:List Key) (ss:List Str):List Key:=ss.foldl (λacc s=>fK acc (.inr s)) acc
theorem oR:∀(ss:List Str) (acc:List Key),acc.length<=(gv acc ss).length/\(gv acc ss).length<=acc.length+ss.length
 | [],acc=>⟨Uy _,Uy _⟩
 | s::ss,acc=>by
  have h1:=oR ss (fK acc (.inr s))
  have h2:=B9 acc (.inr s)
  show acc.length<=(gv (fK acc (.inr s)) ss).length/\(gv (fK acc (.inr s)) ss).length<=acc.length+(ss.length+1)
  omega
theorem vH(s0:Str):∀ss:List Str,((gv [.inr s0] ss).length > 1) =¬(∀s∈ss,s=s0)
 | []=>by simp [gv]
 | s::ss=>by
  by_cases e:s=s0
  ·have:gv [.inr s0] (s::ss)=gv [.inr s0] ss:=by
    show gv (fK [.inr s0] (.inr s)) ss=_
    unfold fK
    rw [if_pos (fX.mpr (by rw [e]; exact List.mem_singleton.mpr rfl))]
   rw [this,vH s0 ss]
   simp [e]
  ·have:gv [.inr s0] (s::ss)=gv [.inr s0,.inr s] ss:=by
    show gv (fK [.inr s0] (.inr s)) ss=_
    unfold fK
    rw [if_neg (λz=>e (by have:=List.mem_singleton.mp (fX.mp z); injection this))]
    rfl
   have hl:=(oR ss [.inr s0,.inr s]).1
   rw [this]
   simp only [List.length_cons,List.length_nil]at hl
   simp [e]
   omega
theorem AI(ss:List Str):decide ((1:Int)<((gv [] ss).length:Nat)) = !cS ss:=by
 cases ss with
 | nil=>simp [gv,cS]
 | cons s ss =>
  have:gv [] (s::ss)=gv [.inr s] ss:=by
   show gv (fK [] (.inr s)) ss=_
   unfold fK
   rw [if_neg (λz=>by cases fX.mp z)]
   rfl
  rw [this]
  have h:=vH s ss
  have e:cS (s::ss)=decide (∀x∈ss,x=s):=by
   unfold cS
   rw [Bool.eq_iff_iff,List.all_eq_true,decide_eq_true_eq]
   constructor
   ·intro z x hx
    exact of_decide_eq_true (z x (UL _ hx))
   ·intro z x hx
    rcases List.mem_cons.mp hx with rfl | hx
    ·exact UB rfl
    ·exact UB (z x hx)
  rw [e,←decide_not,decide_eq_decide]
  constructor
  ·intro z
   have:(gv [.inr s] ss).length > 1:=by omega
   rwa [h]at this
  ·intro z
   rw [←h]at z
   omega
theorem zl{ss:List Str}{i:Nat}{s:Str}(h:ss[i]? = some s):gv [] (ss.take (i+1))=fK (gv [] (ss.take i)) (.inr s):=by
 unfold gv
 rw [take_one h,List.foldl_append]
 rfl
abbrev jo:Stmt:=top 26
theorem sy:az ["worker","heads"] ["worker","heads"] (ar jo):=fs
variable{P:Program}{w:World}{K:PySem.W.Frag}{mg:Str->Option Value}{base:Heap}
theorem vk{n:Nat}(B:jV mg)(F:FA K mg "must_fits" jo)
  (ij:bf bc P w K mg base 1 "sort_of" ["cell"] gn)
  (fv:bf bc P w K mg base 2 "cells_fit" ["cells","column_sort"] iX) :
  bf bc P w K mg base 3 "must_fits" ["worker","heads"] (dD n bg (qL λx=>∃c ps,x=.one (.must c ps))):=by
 refine F.ok sy λf cdv A outer s H vs Q E hr h=>?_
 obtain⟨a,l,x,as,hs,rfl,ha,hL,hn,hsm,ho,q⟩:=h
 refine⟨_,(aN (aW ik (wU (N':=["old","new"]) (src:=[none,none]) rfl rfl B.len (ba.jL (by kernel_rfl)) (cJ (aA K (pv 0) ai)) (g:=iT K 2 (bP (bz 0) (bP (bz 1) iU))) (λcl C s H fp=>(cD rfl (aD (eA (i:=0)) (aD (eA (i:=1)) bT)))) (te:=(i3 gn [] E0 (bp (bx 1) fD))) (λcl C s H fp=>(ay (hg:=we) ij hr (ae (i5 1) ah)))) ai) fV
   (ax (ay fv hr (ae (bw (N':=["old","new"]) (src:=[none,none]) rfl (ba.jL (by kernel_rfl)) (cJ (aA K (pv 0) ai)) (g:=(iT K 2 (bP (bz 0) (bP (bz 1) iU)))) (λcl C s H fp=>(cD rfl (aD (eA (i:=0)) (aD (eA (i:=1)) bT)))) (λcl C s H fp=>aX) (te:=(bx 0)) (λcl C s H fp=>(i5 0))) (ae (aA K (bj K (pv 1) ai) (aF bJ (aA K (pv 0) ai) ai)) ah))))),?_⟩
 obtain⟨⟨c,ps,rfl⟩,hf,hg⟩:=ho
 obtain⟨hd,rfl⟩:=dg hn
 obtain⟨a0,e0,gq⟩:=hL.nth (i:=0) rfl
 obtain⟨t,bs,h1,hI⟩:=bW.mp ha
 have hc:=cG hf (c:=c) (by simp [c7])
 have hz:ps.length<=1000:=hsm
 have hg:∀p∈ps,dP p.1/\dP p.2:=hg
 have hlb:(bs.map V.ref).length=ps.length:=by rw [UC,hI.len]
 have hls:(ps.map λp=>sW p.2).length=ps.length:=UC _
 refine⟨_,rfl,a,_,2,_,rfl,rfl,aH.of h1,rfl,t,rfl,⟨_,aH.of hI.tup⟩,?_⟩
 refine xq (xs:=bs.map V.ref) (λi σ ks H'=>(∃o1 o2,σ=[o1,o2])/\ks=gv [] ((ps.map λp=>sW p.2).take i)/\H'=H) ⟨⟨none,none,rfl⟩,rfl,rfl⟩ ?_ ?_ ?_ ?_
 ·rintro i σ ks H' hi ⟨_,rfl,_⟩
  have:=(oR ((ps.map λp=>sW p.2).take i) []).2
  rw [List.length_take,List.length_nil]at this
  exact UG (show _<=1001 by omega) (by decide)
 ·rintro i σ ks H' _ ⟨_,_,rfl⟩
  exact aH.of hI.tup
 ·rintro i v σ ks H' hv ⟨⟨o1,o2,rfl⟩,rfl,rfl⟩
  obtain⟨b,p,rfl,ep,hb⟩:=hI.get hv
  refine⟨b,_,rfl,aH.of hb,rfl,_,_,rfl,ak ⟨_,_,rfl,ak ⟨rfl,?_⟩⟩⟩
  refine⟨_,rfl,p.2,rfl,(hg p (UK ep)).2,.inr (sW p.2),rfl,⟨_,_,rfl⟩,?_,rfl⟩
  rw [zl (by rw [List.getElem?_map,ep]; rfl)]
 ·rintro σ ks H' ⟨_,rfl,rfl⟩
  rw [hlb,←hls,List.take_length]
  refine⟨_,_,rfl,rfl,_,rfl,?_⟩
  have q:∀Iq,aM H' Iq->Q (.bl (cS (ps.map λp=>sW p.2)&&cR (ps.map λp=>p.1) (bt hd c))) Iq:=q
  rw [AI]
  cases hO:cS (ps.map λp=>sW p.2)with
  | false =>
   rw [hO]at q
   exact bX (q H' (aM.refl _))
  | true =>
   rw [hO]at q
   refine bA (aG ⟨_,rfl,a,_,2,_,rfl,rfl,aH.of h1,rfl,t,rfl,⟨_,aH.of hI.tup⟩,λD hD=>?_⟩)
   refine cF (xs:=bs.map V.ref) (λi σ ys H2=>(∃o1 o2,σ=[o1,o2])/\ys=(ps.take i).map (λp=>p.1)/\ys.length=i/\H2 D=some (.lst ys)/\aM H' H2) ⟨⟨none,none,rfl⟩,rfl,rfl,ag,aj hD _⟩ ?_ ?_ ?_ ?_ ?_
   ·rintro i σ ys H2 _ ⟨_,_,hi,h,_⟩
    exact⟨h,Nat.le_of_eq hi⟩
   ·rintro i σ ys H2 _ ⟨_,_,_,_,sm⟩
    exact aH.of (sm _ _ hI.tup)
   ·rw [hlb]; exact Uz hz (by decide)
   ·rintro i v σ ys H2 hv ⟨⟨o1,o2,rfl⟩,rfl,hi,h,sm⟩
    obtain⟨b,p,rfl,ep,hb⟩:=hI.get hv
    refine⟨b,_,rfl,aH.of (sm _ _ hb),rfl,_,_,rfl,ak ⟨_,_,rfl,ak ⟨rfl,?_⟩⟩⟩
    refine⟨_,rfl,h,⟨_,_,rfl⟩,?_,?_,ag,bq hD sm⟩
    ·rw [take_one ep,UE]; rfl
    ·rw [UD,hi]; rfl
   ·rintro σ ys H2 ⟨_,rfl,hyl,h,sm⟩
    rw [hlb,List.take_length]at h hyl
    refine⟨_,rfl,l,_,0,_,rfl,rfl,aZ.of (sm _ _ hL.lst),av (j:=0) e0,_,rfl,a,_,1,_,rfl,rfl,aH.of (sm _ _ h1),rfl,_,_,rfl,rfl,a0,_,_,_,rfl,rfl,aH.of (sm _ _ gq),dE hc,?_⟩
    refine⟨D,_,_,rfl,h,by omega,λv hv=>?_,λH3 s'=>q H3 (sm.trans s')⟩
    obtain⟨p,hp,rfl⟩:=List.mem_map.mp hv
    exact(hg p hp).1
end My
namespace L2
open PySem PySem.Spec PyProof.Rows
def jF(K:PySem.W.Frag)(d:Addr)(key:Str):Prop :=
 (d==sysModules)=false/\∃(es:Array DictEntry) (ep:Nat),K.lookup d=some ⟨.type "dict",none,.dict es ep,#[]⟩/\es.all (λe=>isExactStrKey e.key)=true/\es.findIdx? (λe=>e.key.isStr key)=none
def Fh(K:PySem.W.Frag):R2:=λx y H Q=>∃d k,x=.str k/\y=.ref d/\(((∃f,dC K d k f)/\Q (.bl false) H)\/(jF K d k/\Q (.bl true) H))
section
variable{X:Cx}
theorem rF:i8 X (compareOp .NotIn) (Fh X.K):=by
 intro pins s σ H x y v u Q I rx ry h
 obtain⟨d,k,rfl,rfl,h⟩:=h
 cases ry
 obtain⟨t,rfl⟩:=rx
 rcases h with⟨⟨f,es,ep,i,hx,te,lk,ha,hi,he⟩,q⟩ | ⟨⟨hd,es,ep,lk,ha,hi⟩,q⟩
 ·have ho:s.heap.get? d=some ⟨.type "dict",none,.dict es ep,#[]⟩:=I.jK _ _ lk
  have hT:s.TypeIs (.ref d) "dict":=⟨_,ho,rfl⟩
  have fin:EP X pins σ Q (.bool false) {s with toks:=s.toks+1}:=⟨.bl false,H,I.kept (h':=s.heap) (t':=s.toks+1) λ_ _ e=>e,rfl,q⟩
  show wpAny _ _ (do return Value.bool (!(←contains (.ref d) (.str k t)))) (EP X pins σ Q) X.xe s
  refine Ut (wpAny_contains_slot hT slot_dict_contains (wpAny_call_entry slot_dict_contains hT entry_dict_contains ?_ (args_dict_contains _ _)))
  show wpAny _ _ (dictGet d (.str k t) >>= _) _ _ s
  refine Ut ?_
  unfold dictGet
  try with_reducible refine wpAny_holding ?_
  refine Ut (wpAny_pyHash_str ?_)
  unfold dictFind
  refine Ut ?_
  try with_reducible refine wpAny_holding ?_
  refine Ut (wpAny_dictEntries (s:={s with toks:=s.toks+1}) ho rfl ?_)
  dsimp only
  rw [if_pos ha]
  unfold foundByValue
  rw [hi]
  dsimp only
  rw [he]
  dsimp only
  refine Ut (wpAny_dictEpoch (s:={s with toks:=s.toks+1}) ho rfl ?_)
  refine Ut (wpAny_eqBool_str ?_)
  refine Ut (wpAny_dictEpoch (s:={s with toks:=s.toks+1}) ho rfl ?_)
  rw [if_neg (by simp),UB rfl]
  refine Ut (wpAny_rule (Uu ?_))
  refine Ut (wpAny_dictEntries (s:={s with toks:=s.toks+1}) ho rfl (Uu ?_))
  rw [he]
  show wpAny _ _ (ret (.bool true)) _ _ _
  exact Uu ⟨_,rfl,wpAny_truthy_bool (Uu fin)⟩
 ·have ho:s.heap.get? d=some ⟨.type "dict",none,.dict es ep,#[]⟩:=I.jK _ _ lk
  have hT:s.TypeIs (.ref d) "dict":=⟨_,ho,rfl⟩
  have fin:EP X pins σ Q (.bool true) {s with toks:=s.toks+1}:=⟨.bl true,H,I.kept (h':=s.heap) (t':=s.toks+1) λ_ _ e=>e,rfl,q⟩
  show wpAny _ _ (do return Value.bool (!(←contains (.ref d) (.str k t)))) (EP X pins σ Q) X.xe s
  refine Ut (wpAny_contains_slot hT slot_dict_contains (wpAny_call_entry slot_dict_contains hT entry_dict_contains ?_ (args_dict_contains _ _)))
  show wpAny _ _ (dictGet d (.str k t) >>= _) _ _ s
  refine Ut ?_
  unfold dictGet
  try with_reducible refine wpAny_holding ?_
  refine Ut (wpAny_pyHash_str ?_)
  unfold dictFind
  refine Ut ?_
  try with_reducible refine wpAny_holding ?_
  refine Ut (wpAny_dictEntries (s:={s with toks:=s.toks+1}) ho rfl ?_)
  dsimp only
  rw [if_pos ha]
  unfold foundByValue
  rw [hi]
  dsimp only
  refine Uu ?_
  show wpAny _ _ (pure none) _ _ _
  refine Uu ?_
  show wpAny _ _ (Builtin.Dict.pendingKey? d _ >>= _) _ _ _
  exact Ut (wpAny_pendingKey_other hd (Uu ⟨_,rfl,wpAny_truthy_bool (Uu fin)⟩))
end
end L2
namespace My
open PySem L2
def GV(P:Program)(w:World)(K:PySem.W.Frag)(mg:Str->Option Value)(base:Heap)(aS:Addr)(n:Nat)(x:Wk):Prop :=
 (∃(f:Addr) (fd:FuncData),dC K aS x.nm f/\e9 P w K mg base bc 3 f fd ["worker","heads"] (dD n bg (qL λy=>y=x))/\PySem.W.keepIn K (.ref f)=true/\Binds K fd ["worker","heads"] [])\/(jF K aS x.nm/\∀hs,bg x hs=true)
theorem d_{n:Nat}{F:Wk->List Hd->Bool}{k k':Wk->Prop}(h:∀x,k' x->k x):∀vs H Q E,dD n F (qL k') vs H Q E->dD n F (qL k) vs H Q E:=by
 rintro vs H Q E ⟨a,l,x,as,hs,h1,h2,h3,h4,h5,⟨h6,h7⟩,h8⟩
 exact⟨a,l,x,as,hs,h1,h2,h3,h4,h5,⟨h x h6,h7⟩,h8⟩
variable{P:Program}{w:World}{K:PySem.W.Frag}{mg:Str->Option Value}{base:Heap}
theorem Ab{n:Nat}{aS:Addr}{f1 f2 f3 f4 f5 f6 f7 f8:Addr}
  (t1:dC K aS "keep" f1) (t2:dC K aS "same" f2) (t3:dC K aS "turn" f3) (t4:dC K aS "must" f4) (t5:dC K aS "walk" f5) (t6:dC K aS "sum" f6) (t7:dC K aS "both" f7) (t8:dC K aS "meet" f8)
  (u1:jF K aS "cut") (u2:jF K aS "sort") (u3:jF K aS "apart") (u4:jF K aS "count") (u5:jF K aS "number") (u6:jF K aS "first")
  (G1:FnAt P w K mg base 1 f1 ["worker","heads"] (dD n bg (qL λx=>∃c t,x=.one (.keep c t)))) (G2:FnAt P w K mg base 2 f2 ["worker","heads"] (dD n bg (qL λx=>∃c d,x=.one (.same c d)))) (G3:FnAt P w K mg base 3 f3 ["worker","heads"] (dD n bg (qL λx=>∃c ps,x=.one (.turn c ps)))) (G4:FnAt P w K mg base 3 f4 ["worker","heads"] (dD n bg (qL λx=>∃c ps,x=.one (.must c ps))))
  (G5:FnAt P w K mg base 3 f5 ["worker","heads"] (dD n bg (qL λx=>∃c mv,x=.one (.walk c mv)))) (G6:FnAt P w K mg base 1 f6 ["worker","heads"] (dD n bg (qL λx=>∃cs c,x=.one (.sum cs c)))) (G7:FnAt P w K mg base 1 f7 ["worker","heads"] (dD n bg (qL λx=>∃p q,x=.both p q))) (G8:FnAt P w K mg base 2 f8 ["worker","heads"] (dD n bg (qL λx=>∃c d p q,x=.meet c d p q))):∀x,GV P w K mg base aS n x:=by
 obtain⟨d1,G1,b1,k1⟩:=G1
 obtain⟨d2,G2,b2,k2⟩:=G2
 obtain⟨d3,G3,b3,k3⟩:=G3
 obtain⟨d4,G4,b4,k4⟩:=G4
 obtain⟨d5,G5,b5,k5⟩:=G5
 obtain⟨d6,G6,b6,k6⟩:=G6
 obtain⟨d7,G7,b7,k7⟩:=G7
 obtain⟨d8,G8,b8,k8⟩:=G8
 intro x
 match x with
 | .one (.keep c t)=>exact .inl ⟨f1,d1,t1,(G1.imp (d_ λ_ e=>⟨c,t,e⟩)).mono (by omega),k1,b1⟩
 | .one (.same c d)=>exact .inl ⟨f2,d2,t2,(G2.imp (d_ λ_ e=>⟨c,d,e⟩)).mono (by omega),k2,b2⟩
 | .one (.turn c ps)=>exact .inl ⟨f3,d3,t3,G3.imp (d_ λ_ e=>⟨c,ps,e⟩),k3,b3⟩
 | .one (.must c ps)=>exact .inl ⟨f4,d4,t4,G4.imp (d_ λ_ e=>⟨c,ps,e⟩),k4,b4⟩
 | .one (.walk c mv)=>exact .inl ⟨f5,d5,t5,G5.imp (d_ λ_ e=>⟨c,mv,e⟩),k5,b5⟩
 | .one (.sum cs c)=>exact .inl ⟨f6,d6,t6,(G6.imp (d_ λ_ e=>⟨cs,c,e⟩)).mono (by omega),k6,b6⟩
 | .both p q=>exact .inl ⟨f7,d7,t7,(G7.imp (d_ λ_ e=>⟨p,q,e⟩)).mono (by omega),k7,b7⟩
 | .meet c d p q=>exact .inl ⟨f8,d8,t8,(G8.imp (d_ λ_ e=>⟨c,d,p,q,e⟩)).mono (by omega),k8,b8⟩
 | .one (.cut _)=>exact .inr ⟨u1,λ_=>rfl⟩
 | .one (.sort _)=>exact .inr ⟨u2,λ_=>rfl⟩
 | .one .apart=>exact .inr ⟨u3,λ_=>rfl⟩
 | .one (.count _)=>exact .inr ⟨u4,λ_=>rfl⟩
 | .one .number=>exact .inr ⟨u5,λ_=>rfl⟩
 | .one (.first _)=>exact .inr ⟨u6,λ_=>rfl⟩
abbrev jv:Stmt:=top 32
theorem ly:az ["worker","heads","fit"] ["worker","heads"] (ar jv):=fs
theorem vS{n:Nat}{aS:Addr}(mS:mg "SORTS_FIT"=some (.ref aS))(GS:∀x:Wk,GV P w K mg base aS n x)(F:FA K mg "sorts_fit" jv) :
  bf bc P w K mg base 4 "sorts_fit" ["worker","heads"] (dD n bg (qL λ_=>True)):=by
 refine F.ok ly λf cdv A outer s H vs Q E hr h=>?_
 obtain⟨a,l,x,as,hs,rfl,ha,hL,hn,hsm,ho,q⟩:=h
 refine⟨_,(aN (de rF (aA K (pv 0) ai) (cQ rfl mS (show RelV (.ref aS) (.ref aS) from rfl)) rfl) fV
   (aq (aL (i:=2) ly.nd rfl (Or.inl rfl) (gm (r:=EH K) pZ (cQ rfl mS (show RelV (.ref aS) (.ref aS) from rfl)) (aA K (pv 0) ai) (λ_ _=>rfl)))
   (ax (o_ (k:=3) (pv 2) hr vo (ae (pv 0) (ae (pv 1) ah)))))),?_⟩
 obtain⟨xs,h1⟩:=ha.first
 obtain⟨_,hf,hg⟩:=ho
 refine⟨_,rfl,a,_,0,_,rfl,rfl,aH.of h1,av (j:=0) rfl,aS,x.nm,rfl,rfl,?_⟩
 rcases GS x with⟨g,gd,Iz,FG,kG,bG⟩ | ⟨hno,he⟩
 ·refine .inl ⟨⟨g,Iz⟩,_,rfl,bA (aG ?_)⟩
  refine⟨_,rfl,a,_,0,_,rfl,rfl,aH.of h1,av (j:=0) rfl,aS,x.nm,g,rfl,rfl,Iz,ak ?_⟩
  dsimp only
  exact⟨_,rfl,g,gd,_,_,rfl,FG,kG,bG,_,rfl,_,rfl,a,l,x,as,hs,rfl,ha,hL,hn,hsm,⟨rfl,hf,hg⟩,q⟩
 ·refine .inr ⟨hno,_,rfl,bX ?_⟩
  have q:=q H (aM.refl _)
  rw [he hs]at q
  exact q
def xb(h:Hd)(cs:List Int):Prop:=∀c∈cs,1<=c/\c<=h.length
def oq:Sp:=λvs H Q _=>∃(a b:Addr) (h:Hd) (cs:List Int),vs=[.ref a,.ref b]/\dW H a h/\H b=some (.tup (cs.map V.int))/\cs.length<=1000/\xb h cs/\∀(u:Addr) (H':Hp),aM H H'->dW H' u (cs.map (bt h))->Q (.ref u) H'
abbrev oU:Stmt:=top 33
theorem zm:az ["head","columns"] ["head","columns"] (ar oU):=fs
theorem zt(B:jV mg)(F:FA K mg "picked" oU) :
  bf bc P w K mg base 1 "picked" ["head","columns"] oq:=by
 refine F.ok zm λf cdv A outer s H vs Q E hr h=>?_
 have hu:=iN hr
 obtain⟨a,b,h,cs,rfl,ha,hb,hz,ht,q⟩:=h
 refine⟨_,(ax (aV bB rfl B.tuple PyProof.Rows.boot_tuple (ae (bw (N':=["column","head"]) (src:=[none,some 0]) rfl (ba.jL (by kernel_rfl)) (cJ (pv 1)) (λcl C s H fp=>(eA (i:=0))) (λcl C s H fp=>aX) (te:=(gO (tJ K) (bx 1) (gO (AN λi j=>V.int (i-j)) (bx 0) (tC (.int 1))))) (λcl C s H fp=>(aA K (yI 1) (aF bJ (i5 0) ai)))) ah))),?_⟩
 refine⟨_,rfl,b,rfl,⟨_,aH.of hb⟩,λD hD=>?_⟩
 refine cF (xs:=cs.map V.int) (λi σ ys H'=>(∃o,σ=[o,some (.ref a)])/\ys=((cs.take i).map (bt h)).map V.str/\ys.length=i/\H' D=some (.lst ys)/\aM H H') ⟨⟨none,rfl⟩,rfl,rfl,ag,aj hD _⟩ ?_ ?_ ?_ ?_ ?_
 ·rintro i σ ys H' _ ⟨_,_,hi,h,_⟩
  exact⟨h,Nat.le_of_eq hi⟩
 ·rintro i σ ys H' _ ⟨_,_,_,_,sm⟩
  exact aH.of (sm _ _ hb)
 ·rw [UC]; exact Uz hz (by decide)
 ·rintro i v σ ys H' hv ⟨⟨o,rfl⟩,rfl,hi,hh,sm⟩
  rw [List.getElem?_map]at hv
  cases ec:cs[i]? with
  | none=>rw [ec]at hv; cases hv
  | some c =>
   rw [ec]at hv
   have hv:V.int c=v:=Option.some.inj hv
   subst hv
   refine⟨_,rfl,_,rfl,_,_,rfl,rfl,a,_,_,_,rfl,rfl,aH.of (sm _ _ ha),dE (ht c (UK ec)),hh,⟨_,rfl⟩,?_,?_,ag,bq hD sm⟩
   ·rw [take_one ec,UE,UE]; rfl
   ·rw [UD,hi]; rfl
 ·rintro σ ys H' ⟨_,rfl,_,hh,sm⟩
  rw [UC,List.take_length]at hh
  exact⟨D,_,rfl,.inl ⟨aZ.of hh,λu hu=>q u _ (sm.trans (aj hu _)) ag⟩⟩
theorem nF{ts:List Str}{c:Int}(h1:1<=c)(h2:c<=ts.length):gj (ts.map V.str) none (some (c-1))=(ts.take (c-1).toNat).map V.str:=by
 have:=wA (xs:=ts.map V.str) (n:=(c-1).toNat) (by rw [UC]; omega)
 rw [show(((c-1).toNat:Nat):Int)=c-1 by omega]at this
 rw [this,List.map_take]
theorem jM{ts:List Str}{c:Int}(h1:1<=c)(h2:c<=ts.length):gj (ts.map V.str) (some c) none=(ts.drop c.toNat).map V.str:=by
 have:=DS (xs:=ts.map V.str) (n:=c.toNat) (by rw [UC]; omega)
 rw [show((c.toNat:Nat):Int)=c by omega]at this
 rw [this,List.map_drop]
def bH:Wk->List Hd->Hd
 | .one (.cut cs),hs=>cs.map (bt (hs.headD []))
 | .one (.must c ps),hs=>(hs.headD []).take (c-1).toNat++(ps.take 1).map (λp=>sW p.2)++(hs.headD []).drop c.toNat
 | .one (.walk _ _),hs=>hs.headD []++(["w"]:Hd)
 | .one (.count cs),hs=>cs.map (bt (hs.headD []))++(["t"]:Hd)
 | .one (.sum cs _),hs=>cs.map (bt (hs.headD []))++(["t"]:Hd)
 | .one .number,hs=>hs.headD []++(["t"]:Hd)
 | .meet _ d _ _,hs=>hs.headD []++(hs.getD 1 []).take (d-1).toNat++(hs.getD 1 []).drop d.toNat
 | _,hs=>hs.headD []
def Qu:Wk->Prop
 | .one (.must _ ps)=>ps≠[]
 | _=>True
structure Pq(k:Wk->Prop)(x:Wk)(hs:List Hd):Prop where
 k:k x
 fit:dc x hs=true
 good:goodW x
 ne:Qu x
 sm:∀h∈hs,h.length<=1000
def dq(n:Nat)(k:Wk->Prop):Sp:=λvs H Q _=>∃(a l:Addr) (x:Wk) (as:List Addr) (hs:List Hd),vs=[.ref a,.ref l]/\dk n H a x/\fQ H l as hs/\hs.length=C7 x/\kh x/\Pq k x hs/\∀u H',aM H H'->dW H' u (bH x hs)->Q (.ref u) H'
theorem eF{a b:Addr}{xs ys:Hd}{H:Hp}{Q:VK}(h1:dW H a xs)(h2:dW H b ys)(hz:xs.length+ys.length<=100000)(q:∀t H',aM H H'->dW H' t (xs++ys)->Q (.ref t) H'):GK (.ref a) (.ref b) H Q :=
 ⟨a,b,_,_,rfl,rfl,h1,h2,by rw [UC,UC]; exact Uz hz (by decide),λt H' s' ht=>q t H' s' (by rw [dW,UE]; exact ht)⟩
abbrev fR:Stmt:=top 36
theorem mO:az ["worker","heads"] ["worker","heads"] (ar fR):=fs
theorem Cj{n:Nat}(F:FA K mg "head_of_walk" fR) :
  bf bc P w K mg base 1 "head_of_walk" ["worker","heads"] (dq n (λx=>∃c mv,x=.one (.walk c mv))):=by
 refine F.ok mO λf cdv A outer s H vs Q E hr h=>?_
 have hu:=iN hr
 obtain⟨a,l,x,as,hs,rfl,ha,hL,hn,hsm,ho,q⟩:=h
 refine⟨_,(ax (aF cb (bj K (pv 1) ai) (aJ (ae ao ah)))),?_⟩
 obtain⟨c,mv,rfl⟩:=ho.k
 obtain⟨hd,rfl⟩:=dg hn
 obtain⟨a0,e0,gq⟩:=hL.nth (i:=0) rfl
 have hz:=ho.sm hd (by simp)
 refine⟨_,rfl,l,_,0,_,rfl,rfl,aZ.of hL.lst,av (j:=0) e0,dQ,λu hu=>?_⟩
 have su:=aj hu (.tup [.str "w"])
 exact eF (ys:=["w"]) (su _ _ gq) ag (by show _+1<=_; omega) λt H' s' ht=>q t H' (su.trans s') ht
abbrev e8:Stmt:=top 38
theorem lE:az ["worker","heads"] ["worker","heads"] (ar e8):=fs
theorem ya{n:Nat}{tk:Tok}(mT:mg "TALLY"=some (.str "t" tk))(F:FA K mg "head_of_number" e8) :
  bf bc P w K mg base 1 "head_of_number" ["worker","heads"] (dq n (λx=>x=.one .number)):=by
 refine F.ok lE λf cdv A outer s H vs Q E hr h=>?_
 have hu:=iN hr
 obtain⟨a,l,x,as,hs,rfl,ha,hL,hn,hsm,ho,q⟩:=h
 refine⟨_,(ax (aF cb (bj K (pv 1) ai) (aJ (ae (cQ (v:=.str "t") rfl mT ⟨_,rfl⟩) ah)))),?_⟩
 cases ho.k
 obtain⟨hd,rfl⟩:=dg hn
 obtain⟨a0,e0,gq⟩:=hL.nth (i:=0) rfl
 have hz:=ho.sm hd (by simp)
 refine⟨_,rfl,l,_,0,_,rfl,rfl,aZ.of hL.lst,av (j:=0) e0,dQ,λu hu=>?_⟩
 have su:=aj hu (.tup [.str "t"])
 exact eF (ys:=["t"]) (su _ _ gq) ag (by show _+1<=_; omega) λt H' s' ht=>q t H' (su.trans s') ht
abbrev gW:Stmt:=top 34
theorem oj:az ["worker","heads"] ["worker","heads"] (ar gW):=fs
theorem Gx{n:Nat}(F:FA K mg "head_of_cut" gW)
  (nV:bf bc P w K mg base 1 "picked" ["head","columns"] oq) :
  bf bc P w K mg base 2 "head_of_cut" ["worker","heads"] (dq n (λx=>∃cs,x=.one (.cut cs))):=by
 refine F.ok oj λf cdv A outer s H vs Q E hr h=>?_
 obtain⟨a,l,x,as,hs,rfl,ha,hL,hn,hsm,ho,q⟩:=h
 refine⟨_,(ax (ay nV hr (ae (bj K (pv 1) ai) (ae (aA K (pv 0) ai) ah)))),?_⟩
 obtain⟨cs,rfl⟩:=ho.k
 obtain⟨hd,rfl⟩:=dg hn
 obtain⟨a0,e0,gq⟩:=hL.nth (i:=0) rfl
 obtain⟨t,h1,h2⟩:=bW.mp ha
 exact⟨_,rfl,l,_,0,_,rfl,rfl,aZ.of hL.lst,av (j:=0) e0,_,rfl,a,_,1,_,rfl,rfl,aH.of h1,rfl,a0,t,hd,cs,rfl,gq,h2,hsm,λc hc=>cG ho.fit hc,q⟩
abbrev eE:Stmt:=top 37
theorem kr:az ["worker","heads"] ["worker","heads"] (ar eE):=fs
theorem Dp{n:Nat}{tk:Tok}(mT:mg "TALLY"=some (.str "t" tk))(F:FA K mg "head_of_tallied" eE)
  (nV:bf bc P w K mg base 1 "picked" ["head","columns"] oq) :
  bf bc P w K mg base 2 "head_of_tallied" ["worker","heads"] (dq n (λx=>∃cs,x=.one (.count cs)\/∃c,x=.one (.sum cs c))):=by
 refine F.ok kr λf cdv A outer s H vs Q E hr h=>?_
 have hu:=iN hr
 have hu1:=jY hr
 obtain⟨a,l,x,as,hs,rfl,ha,hL,hn,hsm,ho,q⟩:=h
 refine⟨_,(ax (aF cb (ay nV hr (ae (bj K (pv 1) ai) (ae (aA K (pv 0) ai) ah))) (aJ (ae (cQ (v:=.str "t") rfl mT ⟨_,rfl⟩) ah)))),?_⟩
 have key:∃(cs:List Int) (hd:Hd) (t y:Addr) (v:V) (vs:List V),hs=[hd]/\H a=some (.tup (v :: .ref t::vs))/\H t=some (.tup (cs.map V.int))/\cs.length<=1000/\xb hd cs/\bH x hs=cs.map (bt hd)++(["t"]:Hd):=by
  obtain⟨cs,rfl | ⟨c,rfl⟩⟩:=ho.k
  ·obtain⟨hd,rfl⟩:=dg hn
   obtain⟨t,h1,h2⟩:=bW.mp ha
   exact⟨cs,hd,t,t,_,_,rfl,h1,h2,hsm,λc hc=>cG ho.fit hc,rfl⟩
  ·obtain⟨hd,rfl⟩:=dg hn
   obtain⟨t,h1,h2⟩:=bW.mp ha
   exact⟨cs,hd,t,t,_,_,rfl,h1,h2,hsm,λc hc=>cG ho.fit (List.mem_append_left _ hc),rfl⟩
 obtain⟨cs,hd,t,_,v,vs,rfl,h1,h2,hz,hth,eh⟩:=key
 obtain⟨a0,e0,gq⟩:=hL.nth (i:=0) rfl
 refine⟨_,rfl,l,_,0,_,rfl,rfl,aZ.of hL.lst,av (j:=0) e0,_,rfl,a,_,1,_,rfl,rfl,aH.of h1,av (j:=1) rfl,a0,t,hd,cs,rfl,gq,h2,hz,hth,λu1 H1 s1 hu1=>?_⟩
 refine⟨dQ,λu hu=>?_⟩
 have su:=aj hu (.tup [.str "t"])
 refine eF (ys:=["t"]) (su _ _ hu1) ag ?_ λt' H' s' ht=>q t' H' (s1.trans (su.trans s')) (by rw [eh]; exact ht)
 rw [UC]
 show _+1<=_
 omega
abbrev gb:Stmt:=top 39
theorem mK:az ["worker","heads"] ["worker","heads"] (ar gb):=fs
theorem CH{n:Nat}(F:FA K mg "head_of_meet" gb) :
  bf bc P w K mg base 1 "head_of_meet" ["worker","heads"] (dq n (λx=>∃c d p q,x=.meet c d p q)):=by
 refine F.ok mK λf cdv A outer s H vs Q E hr h=>?_
 obtain⟨a,l,x,as,hs,rfl,ha,hL,hn,hsm,ho,q⟩:=h
 refine⟨_,(ax (aF cb (aF cb (bj K (pv 1) ai) (cz c_ (bj K (pv 1) ai) dz (cB (aF bJ (aA K (pv 0) ai) ai)))) (cz c_ (bj K (pv 1) ai) (cB (aA K (pv 0) ai)) dz))),?_⟩
 obtain⟨c,d,p,q',rfl⟩:=ho.k
 obtain⟨h0,h2,rfl⟩:=dF hn
 obtain⟨a0,e0,gq⟩:=hL.nth (i:=0) rfl
 obtain⟨a1,e1,uH⟩:=hL.nth (i:=1) rfl
 have hz0:=ho.sm h0 (by simp)
 have hz1:=ho.sm h2 (by simp)
 have hf:(there c h0&&there d h2)=true:=ho.fit
 rw [Bool.and_eq_true]at hf
 obtain⟨d1,d2⟩:=e_ hf.2
 cases n with
 | zero=>exact False.elim ha
 | succ n =>
 obtain⟨b,e,bs,es,h1,_⟩:=ha
 refine⟨_,rfl,l,_,0,_,rfl,rfl,aZ.of hL.lst,av (j:=0) e0,_,rfl,l,_,1,_,rfl,rfl,aZ.of hL.lst,av (j:=1) e1,?_⟩
 refine⟨_,rfl,a,_,2,_,rfl,rfl,aH.of h1,rfl,_,_,rfl,rfl,_,rfl,a1,_,rfl,uH,λt1 H1 s1 ht1=>?_⟩
 rw [nF d1 d2]at ht1
 refine eF (s1 _ _ gq) ht1 (by rw [List.length_take]; omega) λt2 H2 s2 Bi=>?_
 have s12:=s1.trans s2
 refine⟨_,rfl,l,_,1,_,rfl,rfl,aZ.of (s12 _ _ hL.lst),av (j:=1) e1,_,rfl,a,_,2,_,rfl,rfl,aH.of (s12 _ _ h1),rfl,_,rfl,a1,_,rfl,s12 _ _ uH,λt3 H3 s3 Ep=>?_⟩
 rw [jM d1 d2]at Ep
 refine eF (s3 _ _ Bi) Ep (by rw [UD,List.length_take,List.length_drop]; omega) λt4 H4 s4 A8=>q t4 H4 (s12.trans (s3.trans s4)) A8
abbrev fZ:Stmt:=top 35
theorem fz:az ["worker","heads","column","pairs","told"] ["worker","heads"] (ar fZ):=fs
theorem CU{n:Nat}(B:jV mg)(F:FA K mg "head_of_must" fZ)
  (ij:bf bc P w K mg base 1 "sort_of" ["cell"] gn) :
  bf bc P w K mg base 2 "head_of_must" ["worker","heads"] (dq n (λx=>∃c ps,x=.one (.must c ps))):=by
 refine F.ok fz λf cdv A outer s H vs Q E hr h=>?_
 have hu:=iN hr
 obtain⟨a,l,x,as,hs,rfl,ha,hL,hn,hsm,ho,q⟩:=h
 refine⟨_,(aq (IM (i:=2) (j:=3) rfl fz.nd rfl rfl (by decide) rfl rfl (ae (aA K (pv 0) ai) (ae (aA K (pv 0) ai) ah)) rfl)
   (aq (km (i:=4) (N':=["old","new"]) (src:=[none,none]) fz.nd rfl (Or.inl rfl) rfl rfl (ba.jL (by kernel_rfl)) (cJ (cz c_ (pv 3) dz (cB ai))) (g:=(iT K 2 (bP (bz 0) (bP (bz 1) iU)))) (λcl C s H fp=>(cD rfl (aD (eA (i:=0)) (aD (eA (i:=1)) bT)))) (λcl C s H fp=>aX) (te:=(i3 gn [] E0 (bp (bx 1) fD))) (λcl C s H fp=>(ay (hg:=we) ij hr (ae (i5 1) ah))))
   (ax (aF cb (aF cb (cz c_ (bj K (pv 1) ai) dz (cB (aF bJ (pv 2) ai))) (Jx (aV bB rfl B.tuple PyProof.Rows.boot_tuple (ae (pv 4) ah)) (cz c_ (bj K (pv 1) ai) (cB (aF bJ (pv 2) ai)) (cB (pv 2))))) (cz c_ (bj K (pv 1) ai) (cB (pv 2)) dz))))),?_⟩
 obtain⟨c,ps,rfl⟩:=ho.k
 obtain⟨hd,rfl⟩:=dg hn
 obtain⟨a0,e0,gq⟩:=hL.nth (i:=0) rfl
 obtain⟨t,bs,h1,hI⟩:=bW.mp ha
 obtain⟨c1,c2⟩:=cG ho.fit (c:=c) (by simp [c7])
 have hz:=ho.sm hd (by simp)
 have hne:ps≠[]:=ho.ne
 have hg:∀p∈ps,dP p.1/\dP p.2:=ho.good
 have Oh:gj (bs.map V.ref) none (some 1)=(bs.take 1).map V.ref:=by
  have e:=wA (xs:=bs.map V.ref) (n:=1) (by rw [UC,hI.len]; cases ps with | nil=>exact absurd rfl hne | cons _ _=>simp)
  rw [List.map_take]
  exact e
 refine⟨_,rfl,a,_,1,_,rfl,rfl,aH.of h1,rfl,_,rfl,a,_,2,_,rfl,rfl,aH.of h1,rfl,_,_,rfl,?_⟩
 dsimp only
 refine⟨_,rfl,_,rfl,t,_,rfl,hI.tup,λt1 H1 s1 ht1=>?_⟩
 rw [Oh]at ht1
 refine⟨t1,rfl,⟨_,aH.of ht1⟩,λD hD=>?_⟩
 have hl1:((bs.take 1).map V.ref).length=1:=by
  rw [UC,List.length_take,hI.len]; cases ps with | nil=>exact absurd rfl hne | cons _ _=>simp
 refine cF (xs:=(bs.take 1).map V.ref) (λi σ ys H'=>(∃o1 o2,σ=[o1,o2])/\ys=((ps.take i).map λp=>sW p.2).map V.str/\ys.length=i/\H' D=some (.lst ys)/\aM H1 H') ⟨⟨none,none,rfl⟩,rfl,rfl,ag,aj hD _⟩ ?_ ?_ ?_ ?_ ?_
 ·rintro i σ ys H' _ ⟨_,_,hi,h,_⟩
  exact⟨h,Nat.le_of_eq hi⟩
 ·rintro i σ ys H' _ ⟨_,_,_,_,sm⟩
  exact aH.of (sm _ _ ht1)
 ·rw [hl1]; decide
 ·rintro i v σ ys H' hv ⟨⟨o1,o2,rfl⟩,rfl,hi,h,sm⟩
  have hv':(bs.map V.ref)[i]? = some v:=by
   rw [List.map_take,List.getElem?_take]at hv
   split at hv
   ·exact hv
   ·cases hv
  obtain⟨b,p,rfl,ep,hb⟩:=hI.get hv'
  refine⟨b,_,rfl,aH.of (sm _ _ (s1 _ _ hb)),rfl,_,_,rfl,ak ⟨_,_,rfl,ak ⟨rfl,?_⟩⟩⟩
  refine⟨_,rfl,p.2,rfl,(hg p (UK ep)).2,h,⟨_,_,rfl⟩,?_,?_,ag,bq hD sm⟩
  ·rw [take_one ep,UE,UE]; rfl
  ·rw [UD,hi]; rfl
 ·rintro σ ys H' ⟨_,rfl,hi,h,sm⟩
  rw [hl1]at h hi
  have s2:=s1.trans sm
  refine ak ?_
  dsimp only
  refine⟨_,rfl,l,_,0,_,rfl,rfl,aZ.of (s2 _ _ hL.lst),av (j:=0) e0,_,rfl,_,_,rfl,rfl,_,rfl,a0,_,rfl,s2 _ _ gq,λt3 H3 s3 Ep=>?_⟩
  rw [nF c1 c2]at Ep
  refine⟨_,rfl,D,_,rfl,.inl ⟨aZ.of (s3 _ _ h),λu hu=>⟨true,.inr (.inl ⟨_,aH.of ag,?_⟩),bX ?_⟩⟩⟩
  ·cases ps with | nil=>exact absurd rfl hne | cons _ _=>rfl
  have su:=aj hu (.tup (((ps.take 1).map λp=>sW p.2).map V.str))
  refine eF (su _ _ Ep) ag (by rw [List.length_take,UC,List.length_take]; omega) λt4 H4 s4 A8=>?_
  have s5:=s2.trans (s3.trans (su.trans s4))
  refine⟨_,rfl,l,_,0,_,rfl,rfl,aZ.of (s5 _ _ hL.lst),av (j:=0) e0,_,rfl,_,rfl,a0,_,rfl,s5 _ _ gq,λt6 H6 s6 Hg=>?_⟩
  rw [jM c1 c2]at Hg
  refine eF (s6 _ _ A8) Hg (by rw [UD,List.length_take,UC,List.length_take,List.length_drop]; omega) λt7 H7 s7 KD=>q t7 H7 (s5.trans (s6.trans s7)) KD
def Eg(P:Program)(w:World)(K:PySem.W.Frag)(mg:Str->Option Value)(base:Heap)(aT:Addr)(n:Nat)(x:Wk):Prop :=
 (∃(f:Addr) (fd:FuncData),dC K aT x.nm f/\e9 P w K mg base bc 2 f fd ["worker","heads"] (dq n λy=>y=x)/\PySem.W.keepIn K (.ref f)=true/\Binds K fd ["worker","heads"] [])\/(jF K aT x.nm/\∀hs,bH x hs=hs.headD [])
theorem d9{n:Nat}{k k':Wk->Prop}(h:∀x,k' x->k x):∀vs H Q E,dq n k' vs H Q E->dq n k vs H Q E:=by
 rintro vs H Q E ⟨a,l,x,as,hs,h1,h2,h3,h4,h5,⟨h6,h7,h8,h9,h10⟩,h11⟩
 exact⟨a,l,x,as,hs,h1,h2,h3,h4,h5,⟨h x h6,h7,h8,h9,h10⟩,h11⟩
theorem yh{n:Nat}{aT:Addr}{f1 f2 f3 f4 f5 f6:Addr}
  (t1:dC K aT "cut" f1) (t2:dC K aT "must" f2) (t3:dC K aT "walk" f3) (t4:dC K aT "count" f4) (Ts:dC K aT "sum" f4) (t5:dC K aT "number" f5) (t6:dC K aT "meet" f6)
  (u1:jF K aT "keep") (u2:jF K aT "same") (u3:jF K aT "turn") (u4:jF K aT "sort") (u5:jF K aT "apart") (u6:jF K aT "first") (u7:jF K aT "both")
  (G1:FnAt P w K mg base 2 f1 ["worker","heads"] (dq n λx=>∃cs,x=.one (.cut cs))) (G2:FnAt P w K mg base 2 f2 ["worker","heads"] (dq n λx=>∃c ps,x=.one (.must c ps))) (G3:FnAt P w K mg base 1 f3 ["worker","heads"] (dq n λx=>∃c mv,x=.one (.walk c mv))) (G4:FnAt P w K mg base 2 f4 ["worker","heads"] (dq n λx=>∃cs,x=.one (.count cs)\/∃c,x=.one (.sum cs c)))
  (G5:FnAt P w K mg base 1 f5 ["worker","heads"] (dq n λx=>x=.one .number)) (G6:FnAt P w K mg base 1 f6 ["worker","heads"] (dq n λx=>∃c d p q,x=.meet c d p q)):∀x,Eg P w K mg base aT n x:=by
 obtain⟨d1,G1,b1,k1⟩:=G1
 obtain⟨d2,G2,b2,k2⟩:=G2
 obtain⟨d3,G3,b3,k3⟩:=G3
 obtain⟨d4,G4,b4,k4⟩:=G4
 obtain⟨d5,G5,b5,k5⟩:=G5
 obtain⟨d6,G6,b6,k6⟩:=G6
 intro x
 match x with
 | .one (.cut cs)=>exact .inl ⟨f1,d1,t1,G1.imp (d9 λ_ e=>⟨cs,e⟩),k1,b1⟩
 | .one (.must c ps)=>exact .inl ⟨f2,d2,t2,G2.imp (d9 λ_ e=>⟨c,ps,e⟩),k2,b2⟩
 | .one (.walk c mv)=>exact .inl ⟨f3,d3,t3,(G3.imp (d9 λ_ e=>⟨c,mv,e⟩)).mono (by omega),k3,b3⟩
 | .one (.count cs)=>exact .inl ⟨f4,d4,t4,G4.imp (d9 λ_ e=>⟨cs,.inl e⟩),k4,b4⟩
 | .one (.sum cs c)=>exact .inl ⟨f4,d4,Ts,G4.imp (d9 λ_ e=>⟨cs,.inr ⟨c,e⟩⟩),k4,b4⟩
 | .one .number=>exact .inl ⟨f5,d5,t5,(G5.imp (d9 λ_ e=>e)).mono (by omega),k5,b5⟩
 | .meet c d p q=>exact .inl ⟨f6,d6,t6,(G6.imp (d9 λ_ e=>⟨c,d,p,q,e⟩)).mono (by omega),k6,b6⟩
 | .one (.keep _ _)=>exact .inr ⟨u1,λ_=>rfl⟩
 | .one (.same _ _)=>exact .inr ⟨u2,λ_=>rfl⟩
 | .one (.turn _ _)=>exact .inr ⟨u3,λ_=>rfl⟩
 | .one (.sort _)=>exact .inr ⟨u4,λ_=>rfl⟩
 | .one .apart=>exact .inr ⟨u5,λ_=>rfl⟩
 | .one (.first _)=>exact .inr ⟨u6,λ_=>rfl⟩
 | .both _ _=>exact .inr ⟨u7,λ_=>rfl⟩
theorem CV{x:Wk}{hs:List Hd}(hn:hs.length=C7 x):∃h0,hs[0]? = some h0/\hs.headD []=h0:=by
 cases hs with
 | nil=>cases x <;> cases hn
 | cons h0 r=>exact⟨h0,rfl,rfl⟩
abbrev jn:Stmt:=top 41
theorem kY:az ["worker","heads","head_of_told"] ["worker","heads"] (ar jn):=fs
theorem uV{n:Nat}{aT:Addr}(mH:mg "HEADS_TOLD"=some (.ref aT))(GH:∀x:Wk,Eg P w K mg base aT n x)(F:FA K mg "head_told" jn) :
  bf bc P w K mg base 3 "head_told" ["worker","heads"] (dq n (λ_=>True)):=by
 refine F.ok kY λf cdv A outer s H vs Q E hr h=>?_
 obtain⟨a,l,x,as,hs,rfl,ha,hL,hn,hsm,ho,q⟩:=h
 refine⟨_,(aN (de rF (aA K (pv 0) ai) (cQ rfl mH (show RelV (.ref aT) (.ref aT) from rfl)) rfl) (bj K (pv 1) ai)
   (aq (aL (i:=2) kY.nd rfl (Or.inl rfl) (gm (r:=EH K) pZ (cQ rfl mH (show RelV (.ref aT) (.ref aT) from rfl)) (aA K (pv 0) ai) (λ_ _=>rfl)))
   (ax (o_ (k:=2) (pv 2) hr vo (ae (pv 0) (ae (pv 1) ah)))))),?_⟩
 obtain⟨xs,h1⟩:=ha.first
 refine⟨_,rfl,a,_,0,_,rfl,rfl,aH.of h1,av (j:=0) rfl,aT,x.nm,rfl,rfl,?_⟩
 rcases GH x with⟨g,gd,Iz,FG,kG,bG⟩ | ⟨hno,he⟩
 ·refine .inl ⟨⟨g,Iz⟩,_,rfl,bA (aG ?_)⟩
  refine⟨_,rfl,a,_,0,_,rfl,rfl,aH.of h1,av (j:=0) rfl,aT,x.nm,g,rfl,rfl,Iz,ak ?_⟩
  dsimp only
  exact⟨_,rfl,g,gd,_,_,rfl,FG,kG,bG,_,rfl,_,rfl,a,l,x,as,hs,rfl,ha,hL,hn,hsm,⟨rfl,ho.fit,ho.good,ho.ne,ho.sm⟩,q⟩
 ·refine .inr ⟨hno,_,rfl,bX ?_⟩
  obtain⟨h0,e0,eh⟩:=CV hn
  obtain⟨a0,e0,gq⟩:=hL.nth e0
  refine⟨_,rfl,l,_,0,_,rfl,rfl,aZ.of hL.lst,av (j:=0) e0,q a0 H (aM.refl _) ?_⟩
  rw [he hs,eh]
  exact gq
def dJ:Wk->List (List Wk)
 | .one _=>[]
 | .both p q=>[p,q]
 | .meet _ _ p q=>[p,q]
def B_(n:Nat):Sp:=λvs H Q _=>∃(a:Addr) (x:Wk),vs=[.ref a]/\dk n H a x/\∀(u:Addr) (bs:List Addr) (H':Hp),aM H H'->bO (jA (n-1)) H' u bs (dJ x)->Q (.ref u) H'
def BP:List V:=[.str "both",.str "meet"]
def mL:List V:=[.str "keep",.str "same",.str "cut",.str "turn",.str "must"]
structure Fs(K:PySem.W.Frag)(mg:Str->Option Value)(nm:Str)(a:Addr)(vs:List V):Prop where
 m:mg nm=some (.ref a)
 t:∀H,aH K H a vs
theorem se{x y:Str}:Gs (.str x) (.str y)=decide (y=x):=by
 show(x==y)=_
 by_cases h:x=y
 ·rw [h]; simp
 ·rw [UA (λe=>h e.symm)]
  exact beq_false_of_ne h
def bY:Wk->Bool
 | .one _=>false
 | _=>true
def cC(s:Str):Bool:=inV (.str s) mL
theorem ze{x:Wk}:inV (.str x.nm) BP=bY x:=by
 cases x with
 | one x=>cases x <;> (simp only [Wk.nm,W1.nm,bY]; decide +kernel)
 | both p q=>simp only [Wk.nm,bY]; decide +kernel
 | meet c d p q=>simp only [Wk.nm,bY]; decide +kernel
theorem vM{us:List V}{a b:V}:gj (us++[a,b]) (some (-2)) none=[a,b]:=by
 unfold gj HT.dG
 have hl:(us++[a,b]).length=us.length+2:=by simp
 rw [hl]
 show List.take (us.length+2-(if(-2:Int)<0 then((-2:Int)+((us.length+2:Nat):Int)).toNat else _)) (List.drop (if(-2:Int)<0 then((-2:Int)+((us.length+2:Nat):Int)).toNat else _) (us++[a,b]))=_
 rw [if_pos (by decide)]
 have:((-2:Int)+((us.length+2:Nat):Int)).toNat=us.length:=by omega
 rw [this,List.drop_left]
 simp
abbrev g_:Stmt:=top 2
theorem oz:az ["worker"] ["worker"] (ar g_):=fs
theorem IJ{n:Nat}{aB:Addr}(Cb:Fs K mg "BRANCHED" aB BP)(F:FA K mg "branches_of" g_) :
  bf bc P w K mg base 1 "branches_of" ["worker"] (B_ n):=by
 refine F.ok oz λf cdv A outer s H vs Q E hr h=>?_
 obtain⟨a,x,rfl,ha,q⟩:=h
 refine⟨_,(ax (eR (de cq (aA K (pv 0) ai) (cQ (v:=.ref aB) rfl Cb.m rfl) rfl) (cz c_ (pv 0) (cB (rH lL ai)) dz) (aJ ah))),?_⟩
 obtain⟨xs,h1⟩:=ha.first
 refine⟨_,rfl,a,_,0,_,rfl,rfl,aH.of h1,av (j:=0) rfl,aB,BP,rfl,.inr (Cb.t _),rfl,rfl,_,rfl,?_⟩
 show if inV (.str x.nm) BP=true then _ else _
 rw [ze]
 cases x with
 | one x =>
  refine bA ⟨xg,λp hp=>q p [] _ (aj hp _) ⟨ag,rfl,λi a x e=>by cases e⟩⟩
 | both p q' =>
  cases n with
  | zero=>exact False.elim ha
  | succ n =>
  obtain⟨b,c,bs,cs,h1,h2,h3⟩:=ha
  refine bX ⟨_,rfl,_,rfl,_,rfl,a,_,rfl,h1,λt H' s' ht=>?_⟩
  rw [show [V.str "both",.ref b,.ref c]=[V.str "both"]++[.ref b,.ref c] from rfl,vM]at ht
  refine q t [b,c] H' s' ⟨ht,rfl,λi a x e1 e2=>?_⟩
  have k:=aE.of s'
  match i with
  | 0=>cases e1; cases e2; exact jA.keep k ⟨bs,h2⟩
  | 1=>cases e1; cases e2; exact jA.keep k ⟨cs,h3⟩
  | i+2=>cases e1
 | meet c d p q' =>
  cases n with
  | zero=>exact False.elim ha
  | succ n =>
  obtain⟨b,e,bs,es,h1,h2,h3⟩:=ha
  refine bX ⟨_,rfl,_,rfl,_,rfl,a,_,rfl,h1,λt H' s' ht=>?_⟩
  rw [show [V.str "meet",.int c,.int d,.ref b,.ref e]=[V.str "meet",.int c,.int d]++[.ref b,.ref e] from rfl,vM]at ht
  refine q t [b,e] H' s' ⟨ht,rfl,λi a x e1 e2=>?_⟩
  have k:=aE.of s'
  match i with
  | 0=>cases e1; cases e2; exact jA.keep k ⟨bs,h2⟩
  | 1=>cases e1; cases e2; exact jA.keep k ⟨es,h3⟩
  | i+2=>cases e1
def au:Wk->Str
 | .one (.first n)=>if n<=0 then "first 0" else "first"
 | x=>x.nm
def wL(n:Nat):Sp:=λvs H Q _=>∃(a:Addr) (x:Wk),vs=[.ref a]/\dk n H a x/\Q (.str (au x)) H
theorem lh{x:Wk}(h:x.nm="first"):∃n,x=.one (.first n):=by
 revert h
 cases x with
 | one x=>cases x <;> simp only [Wk.nm,W1.nm] <;> first | (intro h; exact⟨_,rfl⟩) | (intro h; exact absurd h (by decide +kernel))
 | both p q=>simp only [Wk.nm]; intro h; exact absurd h (by decide +kernel)
 | meet c d p q=>simp only [Wk.nm]; intro h; exact absurd h (by decide +kernel)
theorem lg{x:Wk}(h:x.nm≠"first"):au x=x.nm:=by
 cases x with
 | one x=>cases x <;> first | rfl | exact absurd rfl h
 | both p q=>rfl
 | meet c d p q=>rfl
abbrev gQ:Stmt:=top 42
theorem pe:az ["worker"] ["worker"] (ar gQ):=fs
theorem F1{n:Nat}(F:FA K mg "name_passed" gQ) :
  bf bc P w K mg base 1 "name_passed" ["worker"] (wL n):=by
 refine F.ok pe λf cdv A outer s H vs Q E hr h=>?_
 obtain⟨a,x,rfl,ha,q⟩:=h
 refine⟨_,(aN (PW.pt (kB (aW aP (aA K (pv 0) ai) ao) (iJ (aW D7 (aA K (pv 0) ai) ai)))) ao
   (ax (aA K (pv 0) ai))),?_⟩
 obtain⟨xs,h1⟩:=ha.first
 refine⟨_,rfl,a,_,0,_,rfl,rfl,aH.of h1,av (j:=0) rfl,rfl,_,rfl,?_⟩
 rw [bM]
 by_cases e:x.nm="first"
 ·rw [UB e]
  obtain⟨m,rfl⟩:=lh e
  have h1:H a=some (.tup [.str "first",.int m]):=bW.mp ha
  refine bX ⟨_,rfl,a,_,1,_,rfl,rfl,aH.of h1,rfl,_,_,rfl,rfl,_,rfl,?_⟩
  have q:Q (.str (if m<=0 then "first 0" else "first")) H:=q
  refine cI (λk=>?_) (λk=>aG ?_)
  ·rw [if_pos (of_decide_eq_true k)]at q
   exact q
  ·rw [if_neg (λz=>k (UB z))]at q
   exact⟨_,rfl,a,_,0,_,rfl,rfl,aH.of h1,rfl,q⟩
 ·rw [UA e]
  rw [lg e]at q
  exact bA (bA (aG ⟨_,rfl,a,_,0,_,rfl,rfl,aH.of h1,av (j:=0) rfl,q⟩))
structure Kn where
 hd:Hd
 ps:List Str
 lo:Bool
def gu(H:Hp)(a:Addr)(k:Kn):Prop:=∃h p,H a=some (.tup [.ref h,.ref p,.bl k.lo])/\dW H h k.hd/\dW H p k.ps
theorem gu.same{H H':Hp}{a:Addr}{k:Kn}(s:aM H H')(h:gu H a k):gu H' a k:=by
 obtain⟨u,p,h1,h2,h3⟩:=h
 exact⟨u,p,s _ _ h1,s _ _ h2,s _ _ h3⟩
def jI:Wk->List Str->Bool
 | .one (.walk _ _),ps=>ps.all cC
 | .meet _ _ p q,_=>(p++q).all λw=>cC w.nm
 | _,_=>true
def Ct(x:Wk):Prop:=∀p∈dJ x,p.length<=1000
def B8(n:Nat):Sp:=λvs H Q _=>∃(a b:Addr) (x:Wk) (k:Kn),vs=[.ref a,.ref b]/\dk n H a x/\gu H b k/\k.ps.length<=1000/\Ct x/\∀H',aM H H'->Q (.bl (jI x k.ps)) H'
theorem yQ{x:Wk}(h:x.nm="walk"):∃c mv,x=.one (.walk c mv):=by
 revert h
 cases x with
 | one x=>cases x <;> simp only [Wk.nm,W1.nm] <;> first | (intro h; exact⟨_,_,rfl⟩) | (intro h; exact absurd h (by decide +kernel))
 | both p q=>simp only [Wk.nm]; intro h; exact absurd h (by decide +kernel)
 | meet c d p q=>simp only [Wk.nm]; intro h; exact absurd h (by decide +kernel)
theorem iW{x:Wk}(h:x.nm="meet"):∃c d p q,x=.meet c d p q:=by
 revert h
 cases x with
 | one x=>cases x <;> simp only [Wk.nm,W1.nm] <;> (intro h; exact absurd h (by decide +kernel))
 | both p q=>simp only [Wk.nm]; intro h; exact absurd h (by decide +kernel)
 | meet c d p q=>intro h; exact⟨_,_,_,_,rfl⟩
theorem Dj{x:Wk}{ps:List Str}(h:x.nm≠"walk")(h2:x.nm≠"meet"):jI x ps=true:=by
 cases x with
 | one x=>cases x <;> first | rfl | exact absurd rfl h
 | both p q=>rfl
 | meet c d p q=>exact absurd rfl h2
abbrev kf:Stmt:=top 43
theorem uu:az ["worker","known"] ["worker","known"] (ar kf):=fs
theorem xY{n:Nat}{aO:Addr}(B2:iK mg)(Co:Fs K mg "ONE_ROW" aO mL)(F:FA K mg "rows_fit" kf)
  (gI:bf bc P w K mg base 1 "branches_of" ["worker"] (B_ n)) :
  bf bc P w K mg base 2 "rows_fit" ["worker","known"] (B8 n):=by
 refine F.ok uu λf cdv A outer s H vs Q E hr h=>?_
 have hu:=iN hr
 obtain⟨a,b,x,k,rfl,ha,hk,hps,Hw,q⟩:=h
 refine⟨_,(aN (aW aP (aA K (pv 0) ai) ao) (a_ (ir rfl) rfl B2.all PyProof.Rows.boot_all (ae (bw (N':=["name"]) (src:=[none]) rfl (ba.jL (by kernel_rfl)) (cJ (aA K (pv 1) ai)) (λcl C s H fp=>(eA (i:=0))) (λcl C s H fp=>aX) (te:=(gO (Hv K false) (bx 0) (tC (.ref aO)))) (λcl C s H fp=>(fJ cq (i5 0) (cQ (v:=.ref aO) we Co.m rfl) rfl))) ah))
   (aN (aW aP (aA K (pv 0) ai) ao) (a_ (ir rfl) rfl B2.all PyProof.Rows.boot_all (ae (rd (N':=["branch","inner"]) (src:=[none,none]) rfl (ba.jL (by kernel_rfl)) (cJ (ay gI hr (ae (pv 0) ah))) (λcl C s H fp=>(eA (i:=0))) (λcl C s H fp=>aX) (wi2:=(FI K (bx 0))) (λcl C s H fp=>(cJ (i5 0))) (λcl C s H fp=>(eA (i:=1))) (λcl C s H fp=>aX) (te:=(gO (Hv K false) (gO (tJ K) (bx 1) (tC (.int 0))) (tC (.ref aO)))) (λcl C s H fp=>(fJ cq (aA K (i5 1) ai) (cQ (v:=.ref aO) we Co.m rfl) rfl))) ah))
   (ax fV))),?_⟩
 obtain⟨xs,h1⟩:=ha.first
 refine⟨_,rfl,a,_,0,_,rfl,rfl,aH.of h1,av (j:=0) rfl,rfl,_,rfl,?_⟩
 rw [bM]
 by_cases e:x.nm="walk"
 ·rw [UB e]
  obtain⟨c,mv,rfl⟩:=yQ e
  obtain⟨hh,p,hk1,hk2,hk3⟩:=hk
  refine bX ⟨_,rfl,b,_,1,_,rfl,rfl,aH.of hk1,rfl,p,rfl,⟨_,aH.of hk3⟩,λD hD=>?_⟩
  refine cF (xs:=k.ps.map V.str) (λi σ ys H'=>(∃o,σ=[o])/\ys=((k.ps.take i).map cC).map V.bl/\ys.length=i/\H' D=some (.lst ys)/\aM H H') ⟨⟨none,rfl⟩,rfl,rfl,ag,aj hD _⟩ ?_ ?_ ?_ ?_ ?_
  ·rintro i σ ys H' _ ⟨_,_,hi,h,_⟩
   exact⟨h,Nat.le_of_eq hi⟩
  ·rintro i σ ys H' _ ⟨_,_,_,_,sm⟩
   exact aH.of (sm _ _ hk3)
  ·rw [UC]; exact Uz hps (by decide)
  ·rintro i v σ ys H' hv ⟨⟨o,rfl⟩,rfl,hi,h,sm⟩
   rw [List.getElem?_map]at hv
   cases ec:k.ps[i]? with
   | none=>rw [ec]at hv; cases hv
   | some s0 =>
    rw [ec]at hv
    have hv:V.str s0=v:=Option.some.inj hv
    subst hv
    refine⟨_,rfl,aO,mL,rfl,.inr (Co.t _),rfl,rfl,h,⟨_,rfl⟩,?_,?_,ag,bq hD sm⟩
    ·rw [take_one ec,UE,UE]; rfl
    ·rw [UD,hi]; rfl
  ·rintro σ ys H' ⟨_,rfl,_,h,sm⟩
   rw [UC,List.take_length]at h
   refine⟨D,_,rfl,aZ.of h,?_⟩
   rw [show(k.ps.map cC).all id=k.ps.all cC by rw [List.all_map]; rfl]
   exact q H' sm
 ·rw [UA e]
  refine bA (aG ⟨_,rfl,a,_,0,_,rfl,rfl,aH.of h1,av (j:=0) rfl,rfl,_,rfl,?_⟩)
  rw [bM]
  by_cases e2:x.nm="meet"
  ·rw [UB e2]
   obtain⟨c,d,p1,p2,rfl⟩:=iW e2
   refine bX ⟨_,rfl,a,_,rfl,ha,λu bs H1 s1 hI=>⟨u,rfl,⟨_,aH.of hI.tup⟩,λD hD=>?_⟩⟩
   let ws:Nat->List Wk:=λi=>(([p1,p2]:List (List Wk)).take i).flatten
   have hw1:p1.length<=1000:=Hw p1 (by simp [dJ])
   have hw2:p2.length<=1000:=Hw p2 (by simp [dJ])
   have hlb:(bs.map V.ref).length=2:=by rw [UC,hI.len]; rfl
   have hws:∀i,(ws i).length<=2000:=by
    intro i
    match i with
    | 0=>exact Nat.zero_le _
    | 1=>show(p1++[]).length<=_; rw [List.append_nil]; omega
    | i+2=>show((p1::p2::List.take i []).flatten).length<=_; rw [List.take_nil]; show(p1++(p2++[])).length<=_; rw [List.append_nil,UD]; omega
   refine qS (xs:=bs.map V.ref) (λi σ ys H'=>(∃o1 o2,σ=[o1,o2])/\ys=(ws i).map (λw=>V.bl (cC w.nm))/\H' D=some (.lst ys)/\aM H1 H') ⟨⟨none,none,rfl⟩,rfl,ag,aj hD _⟩ ?_ ?_ ?_ ?_
   ·rintro i σ ys H' _ ⟨_,_,h,_⟩
    exact h
   ·rintro i σ ys H' _ ⟨_,_,_,sm⟩
    exact aH.of (sm _ _ hI.tup)
   ·rintro i v σ ys H' hv ⟨⟨o1,o2,rfl⟩,rfl,h,sm⟩
    obtain⟨b',pp,rfl,ep,cs,hJ⟩:=hI.get hv
    have hpl:pp.length<=1000:=Hw pp (UK ep)
    refine ak ⟨_,rfl,b',rfl,⟨_,aH.of (sm _ _ hJ.tup)⟩,?_⟩
    refine l4 (xs:=cs.map V.ref) (λj σ zs H2=>(∃o,σ=[some (.ref b'),o])/\zs=(ws i).map (λw=>V.bl (cC w.nm))++(pp.take j).map (λw=>V.bl (cC w.nm))/\H2 D=some (.lst zs)/\aM H1 H2) ⟨⟨o2,rfl⟩,by rw [List.take_zero,List.map_nil,List.append_nil],h,sm⟩ ?_ ?_ ?_ ?_
    ·rintro j σ zs H2 hj ⟨_,rfl,h2,_⟩
     refine⟨h2,λ_=>?_⟩
     rw [UD,UC,UC,List.length_take]
     have:=hws i
     exact UG (show _<=3000 by omega) (by decide)
    ·rintro j σ zs H2 _ ⟨_,_,_,s2⟩
     exact aH.of (s2 _ _ hJ.tup)
    ·rintro j v2 σ zs H2 hu' ⟨⟨o,rfl⟩,rfl,h2,s2⟩
     obtain⟨c',wk,rfl,ew,hW⟩:=hJ.get hu'
     obtain⟨ys',hW⟩:=hW.first
     refine ak ⟨_,rfl,c',_,0,_,rfl,rfl,aH.of (s2 _ _ hW),av (j:=0) rfl,aO,mL,rfl,.inr (Co.t _),rfl,rfl,h2,⟨_,rfl⟩,?_,ag,bq hD s2⟩
     rw [take_one ew,UE,List.append_assoc]; rfl
    ·rintro σ zs H2 ⟨⟨o,rfl⟩,rfl,h2,s2⟩
     refine⟨⟨_,_,rfl⟩,?_,h2,s2⟩
     rw [UC,hJ.len,List.take_length,←UE]
     congr 1
     show _=((dJ (.meet c d p1 p2)).take (i+1)).flatten
     rw [take_one ep,List.flatten_append]
     show _=_++(pp++[])
     rw [List.append_nil]
     rfl
   ·rintro σ ys H' ⟨_,rfl,h,sm⟩
    rw [hlb]at h
    refine⟨D,(p1++p2).map λw=>cC w.nm,rfl,aZ.of ?_,?_⟩
    ·rw [h,List.map_map]
     show some (HO.lst ((p1++(p2++[])).map _))=_
     rw [List.append_nil]
     rfl
    ·rw [List.all_map]
     exact q H' (s1.trans sm)
  ·rw [UA e2]
   rw [Dj e e2]at q
   exact bA (aG (q H (aM.refl _)))
theorem qW(ss:List Str):(ss.map V.str).all eW=true:=by
 rw [List.all_eq_true]
 intro v hv
 obtain⟨s,_,rfl⟩:=List.mem_map.mp hv
 rfl
def kK(ps:List Str)(s:Str):Bool:=inV (.str s) (ps.map V.str)
theorem EU{ps:List Str}{s:Str}:kK ps s=true↔s∈ps:=by
 unfold kK inV
 rw [List.any_eq_true]
 constructor
 ·rintro⟨v,hv,e⟩
  obtain⟨t,ht,rfl⟩:=List.mem_map.mp hv
  rw [se]at e
  rw [of_decide_eq_true e]
  exact ht
 ·intro h
  exact⟨.str s,List.mem_map.mpr ⟨s,h,rfl⟩,by rw [se]; exact UB rfl⟩
def fb:Wk->Kn->Bool
 | .one (.keep c _),k=>decide (bt k.hd c="t")
 | .one (.first n),k=>decide (¬n<=0)&&(kK k.ps "walk"||kK k.ps "both"||kK k.ps "meet")
 | .meet ..,k=>kK k.ps "walk"||kK k.ps "first"
 | _,_=>false
def keepIn(x:Wk)(h:Hd):Prop:=∀c t,x=.one (.keep c t)->1<=c/\c<=h.length
def yH(n:Nat):Sp:=λvs H Q _=>∃(a b:Addr) (x:Wk) (k:Kn),vs=[.ref a,.ref b]/\dk n H a x/\gu H b k/\keepIn x k.hd/\∀H',aM H H'->Q (.bl (fb x k)) H'
theorem sO{x:Wk}(h:x.nm="keep"):∃c t,x=.one (.keep c t):=by
 revert h
 cases x with
 | one x=>cases x <;> simp only [Wk.nm,W1.nm] <;> first | (intro h; exact⟨_,_,rfl⟩) | (intro h; exact absurd h (by decide +kernel))
 | both p q=>simp only [Wk.nm]; intro h; exact absurd h (by decide +kernel)
 | meet c d p q=>simp only [Wk.nm]; intro h; exact absurd h (by decide +kernel)
theorem pV{x:Wk}:au x="first"↔∃n,¬n<=(0:Int)/\x=.one (.first n):=by
 constructor
 ·intro h
  by_cases e:x.nm="first"
  ·obtain⟨n,rfl⟩:=lh e
   refine⟨n,λz=>?_,rfl⟩
   have h:(if n<=0 then("first 0" : Str)else "first")="first":=h
   rw [if_pos z]at h
   exact absurd h (by decide +kernel)
  ·rw [lg e]at h
   exact absurd h e
 ·rintro⟨n,h,rfl⟩
  show(if n<=0 then("first 0" : Str)else "first")="first"
  rw [if_neg h]
theorem zA{x:Wk}{k:Kn}(h1:x.nm≠"keep")(h2:au x≠"first")(h3:x.nm≠"meet"):fb x k=false:=by
 match x with
 | .one (.keep _ _)=>exact absurd rfl h1
 | .one (.first n) =>
  have:n<=0:=by
   by_cases z:n<=0
   ·exact z
   ·exact absurd (pV.mpr ⟨n,z,rfl⟩) h2
  show(decide (¬n<=0)&&_)=false
  rw [UA (λz=>z this)]
  rfl
 | .meet ..=>exact absurd rfl h3
 | .both ..=>rfl
 | .one (.same ..)=>rfl
 | .one (.cut ..)=>rfl
 | .one (.turn ..)=>rfl
 | .one (.must ..)=>rfl
 | .one (.walk ..)=>rfl
 | .one (.sort ..)=>rfl
 | .one .apart=>rfl
 | .one (.count ..)=>rfl
 | .one (.sum ..)=>rfl
 | .one .number=>rfl
abbrev gP:Stmt:=top 45
theorem eM:az ["worker","known","head","passed","loose"] ["worker","known"] (ar gP):=fs
theorem CM{n:Nat}{tk:Tok}(B3:Am mg)(mT:mg "TALLY"=some (.str "t" tk))(F:FA K mg "makes_loose" gP)
  (gJ:bf bc P w K mg base 1 "name_passed" ["worker"] (wL n)) :
  bf bc P w K mg base 2 "makes_loose" ["worker","known"] (yH n):=by
 refine F.ok eM λf cdv A outer s H vs Q E hr h=>?_
 have hu:=iN hr
 have hu1:=jY hr
 obtain⟨a,b,x,k,rfl,ha,hk,hkp,q⟩:=h
 refine⟨_,(aq (oO (pv 1) (cD rfl (aD (bS (i:=2) eM.nd rfl (Or.inl rfl)) (aD (bS (i:=3) eM.nd rfl (Or.inr rfl)) (aD (bS (i:=4) eM.nd rfl (Or.inl rfl)) bT)))))
   (aN (aW aP (aA K (pv 0) ai) ao) (bU aP (aA K (pv 2) (aF bJ (aA K (pv 0) ai) ai)) (cQ (v:=.str "t") rfl mT ⟨_,rfl⟩))
   (aN (aW aP (ay gJ hr (ae (pv 0) ah)) ao) (a_ (lJ rfl) rfl B3.any PyProof.Rows.boot_any (ae (bw (N':=["name","passed"]) (src:=[none,some 3]) rfl (ba.jL (by kernel_rfl)) (cJ (aJ (ae ao (ae ao (ae ao ah))))) (λcl C s H fp=>(eA (i:=0))) (λcl C s H fp=>aX) (te:=(gO (Hv K false) (bx 0) (bx 1))) (λcl C s H fp=>(fJ cq (i5 0) (yI 1) rfl))) ah))
   (aN (aW aP (aA K (pv 0) ai) ao) (a_ (lJ rfl) rfl B3.any PyProof.Rows.boot_any (ae (bw (N':=["name","passed"]) (src:=[none,some 3]) rfl (ba.jL (by kernel_rfl)) (cJ (aJ (ae ao (ae ao ah)))) (λcl C s H fp=>(eA (i:=0))) (λcl C s H fp=>aX) (te:=(gO (Hv K false) (bx 0) (bx 1))) (λcl C s H fp=>(fJ cq (i5 0) (yI 1) rfl))) ah))
   (ax fV))))),?_⟩
 obtain⟨xs,h1⟩:=ha.first
 obtain⟨hh,p,hk1,hk2,hk3⟩:=hk
 refine⟨_,rfl,b,_,rfl,aH.of hk1,rfl,_,_,rfl,ak ⟨_,_,rfl,ak ⟨_,_,rfl,ak ⟨rfl,?_⟩⟩⟩⟩
 dsimp only
 refine⟨_,rfl,a,_,0,_,rfl,rfl,aH.of h1,av (j:=0) rfl,rfl,_,rfl,?_⟩
 rw [bM]
 by_cases e:x.nm="keep"
 ·rw [UB e]
  obtain⟨c,t,rfl⟩:=sO e
  obtain⟨st,ys,hx1,hx2⟩:=bW.mp ha
  refine bX ⟨_,rfl,_,rfl,a,_,1,_,rfl,rfl,aH.of hx1,rfl,_,_,rfl,rfl,hh,_,_,_,rfl,rfl,aH.of hk2,dE (hkp c t rfl),rfl,?_⟩
  rw [bM]
  exact q H (aM.refl _)
 rw [UA e]
 refine bA (aG ⟨_,rfl,a,x,rfl,ha,rfl,_,rfl,?_⟩)
 rw [bM]
 by_cases e2:au x="first"
 ·rw [UB e2]
  obtain⟨m,hm,rfl⟩:=pV.mp e2
  refine bX ⟨gw,λu hu=>?_⟩
  have su:=aj hu (.tup [V.str "walk",.str "both",.str "meet"])
  have hu1:upd H u (.tup [V.str "walk",.str "both",.str "meet"]) u=_:=ag
  revert su hu1
  generalize upd H u (.tup [V.str "walk",.str "both",.str "meet"])=H1
  intro su hu1
  refine⟨u,rfl,⟨_,aH.of hu1⟩,λD hD=>?_⟩
  refine cF (xs:=(["walk","both","meet"]:List Str).map V.str) (λi σ ys H'=>(∃o,σ=[o,some (.ref p)])/\ys=(((["walk","both","meet"]:List Str).take i).map (kK k.ps)).map V.bl/\ys.length=i/\H' D=some (.lst ys)/\aM H1 H') ⟨⟨none,rfl⟩,rfl,rfl,ag,aj hD _⟩ ?_ ?_ ?_ ?_ ?_
  ·rintro i σ ys H' _ ⟨_,_,hi,h,_⟩
   exact⟨h,Nat.le_of_eq hi⟩
  ·rintro i σ ys H' _ ⟨_,_,_,_,sm⟩
   exact aH.of (sm _ _ hu1)
  ·decide
  ·rintro i v σ ys H' hv ⟨⟨o,rfl⟩,rfl,hi,h,sm⟩
   rw [List.getElem?_map]at hv
   cases ec:(["walk","both","meet"]:List Str)[i]? with
   | none=>rw [ec]at hv; cases hv
   | some s0 =>
    rw [ec]at hv
    have hv:V.str s0=v:=Option.some.inj hv
    subst hv
    refine⟨_,rfl,_,rfl,p,_,rfl,.inr (aH.of (sm _ _ (su _ _ hk3))),rfl,qW _,h,⟨_,rfl⟩,?_,?_,ag,bq hD sm⟩
    ·rw [take_one ec,UE,UE]; rfl
    ·rw [UD,hi]; rfl
  ·rintro σ ys H' ⟨_,rfl,_,h,sm⟩
   refine⟨D,_,rfl,aZ.of h,?_⟩
   have q:=q H' (su.trans sm)
   have q:Q (.bl (decide (¬m<=0)&&(kK k.ps "walk"||kK k.ps "both"||kK k.ps "meet"))) H':=q
   rw [UB hm,Bool.true_and]at q
   show Q (.bl (kK k.ps "walk"||(kK k.ps "both"||(kK k.ps "meet"||false)))) H'
   rw [Bool.or_false,←Bool.or_assoc]
   exact q
 rw [UA e2]
 refine bA (aG ⟨_,rfl,a,_,0,_,rfl,rfl,aH.of h1,av (j:=0) rfl,rfl,_,rfl,?_⟩)
 rw [bM]
 by_cases e3:x.nm="meet"
 ·rw [UB e3]
  obtain⟨c,d,p1,p2,rfl⟩:=iW e3
  refine bX ⟨cM,λu hu=>?_⟩
  have su:=aj hu (.tup [V.str "walk",.str "first"])
  have hu1:upd H u (.tup [V.str "walk",.str "first"]) u=_:=ag
  revert su hu1
  generalize upd H u (.tup [V.str "walk",.str "first"])=H1
  intro su hu1
  refine⟨u,rfl,⟨_,aH.of hu1⟩,λD hD=>?_⟩
  refine cF (xs:=(["walk","first"]:List Str).map V.str) (λi σ ys H'=>(∃o,σ=[o,some (.ref p)])/\ys=(((["walk","first"]:List Str).take i).map (kK k.ps)).map V.bl/\ys.length=i/\H' D=some (.lst ys)/\aM H1 H') ⟨⟨none,rfl⟩,rfl,rfl,ag,aj hD _⟩ ?_ ?_ ?_ ?_ ?_
  ·rintro i σ ys H' _ ⟨_,_,hi,h,_⟩
   exact⟨h,Nat.le_of_eq hi⟩
  ·rintro i σ ys H' _ ⟨_,_,_,_,sm⟩
   exact aH.of (sm _ _ hu1)
  ·decide
  ·rintro i v σ ys H' hv ⟨⟨o,rfl⟩,rfl,hi,h,sm⟩
   rw [List.getElem?_map]at hv
   cases ec:(["walk","first"]:List Str)[i]? with
   | none=>rw [ec]at hv; cases hv
   | some s0 =>
    rw [ec]at hv
    have hv:V.str s0=v:=Option.some.inj hv
    subst hv
    refine⟨_,rfl,_,rfl,p,_,rfl,.inr (aH.of (sm _ _ (su _ _ hk3))),rfl,qW _,h,⟨_,rfl⟩,?_,?_,ag,bq hD sm⟩
    ·rw [take_one ec,UE,UE]; rfl
    ·rw [UD,hi]; rfl
  ·rintro σ ys H' ⟨_,rfl,_,h,sm⟩
   refine⟨D,_,rfl,aZ.of h,?_⟩
   have q:=q H' (su.trans sm)
   have q:Q (.bl (kK k.ps "walk"||kK k.ps "first")) H':=q
   show Q (.bl (kK k.ps "walk"||(kK k.ps "first"||false))) H'
   rw [Bool.or_false]
   exact q
 rw [UA e3]
 rw [zA e e2 e3]at q
 exact bA (aG (q H (aM.refl _)))
def jc:Wk->Bool
 | .one (.must ..)=>true
 | _=>false
def tK(x:Wk)(k:Kn)(hs:List Hd):Option Str :=
 if dc x hs=true then
  if bg x hs=true then
   if(bH x hs).length<=6 then
    if jI x k.ps=true then
     if(jc x&&k.lo)=true then some "loose" else none
    else some "rows"
   else some "wide"
  else some "sort"
 else some "column"
def wV:Option Str->V
 | none=>.non
 | some s=>.str s
structure AF(x:Wk):Prop where
 sm:kh x
 good:goodW x
 ne:Qu x
 wide:Ct x
def Hh(n:Nat):Sp:=λvs H Q _=>∃(a b l:Addr) (x:Wk) (k:Kn) (as:List Addr) (hs:List Hd),vs=[.ref a,.ref b,.ref l]/\dk n H a x/\gu H b k/\fQ H l as hs/\hs.length=C7 x/\AF x/\k.ps.length<=1000/\(∀h∈hs,h.length<=1000)/\∀H',aM H H'->Q (wV (tK x k hs)) H'
theorem yx{x:Wk}:decide (x.nm="must")=jc x:=by
 cases x with
 | one x=>cases x <;> (simp only [Wk.nm,W1.nm,jc]; first | exact UB rfl | decide +kernel | exact UA (by decide +kernel))
 | both p q=>simp only [Wk.nm,jc]; exact UA (by decide +kernel)
 | meet c d p q=>simp only [Wk.nm,jc]; exact UA (by decide +kernel)
abbrev lP:Stmt:=top 44
theorem xZ:az ["worker","known","heads"] ["worker","known","heads"] (ar lP):=fs
theorem AK{n:Nat}(B:jV mg){tw:Tok}(mW:mg "WIDEST_ROW"=some (.int 6 tw))(F:FA K mg "why_not" lP)
  (qM:bf bc P w K mg base 2 "columns_fit" ["worker","heads"] (dD n dc λ_ _=>True))
  (uo:bf bc P w K mg base 4 "sorts_fit" ["worker","heads"] (dD n bg (qL λ_=>True)))
  (jz:bf bc P w K mg base 3 "head_told" ["worker","heads"] (dq n λ_=>True))
  (x3:bf bc P w K mg base 2 "rows_fit" ["worker","known"] (B8 n)) :
  bf bc P w K mg base 5 "why_not" ["worker","known","heads"] (Hh n):=by
 refine F.ok xZ λf cdv A outer s H vs Q E hr h=>?_
 have hu:=iN hr
 obtain⟨a,b,l,x,k,as,hs,rfl,ha,hk,hL,hn,hok,hps,TQ,q⟩:=h
 refine⟨_,(aN (tP (fw (ay qM hr (ae (pv 0) (ae (pv 2) ah))))) ao
   (aN (tP (fw (ay uo hr (ae (pv 0) (ae (pv 2) ah))))) ao
   (aN (aW ik (a_ bE rfl B.len PySem.boot_len (ae (ay jz hr (ae (pv 0) (ae (pv 2) ah))) ah)) (cQ (v:=.int 6) rfl mW ⟨_,rfl⟩)) ao
   (aN (tP (fw (ay x3 hr (ae (pv 0) (ae (pv 1) ah))))) ao
   (aN (PW.pt (kB (aW aP (aA K (pv 0) ai) ao) (iJ (fw (aA K (pv 1) ai))))) ao
   (ax iI)))))),?_⟩
 unfold tK at q
 refine⟨_,rfl,_,rfl,a,l,x,as,hs,rfl,ha,hL,hn,hok.sm,trivial,λH1 s1=>⟨_,rfl,?_⟩⟩
 by_cases e1:dc x hs=false
 ·rw [e1]
  rw [if_neg (by rw [e1]; decide)]at q
  exact bX (q H1 s1)
 have e1:dc x hs=true:=by simpa using e1
 rw [e1]
 rw [if_pos e1]at q
 have ha1:=ha.keep (aE.of s1)
 refine bA (aG ⟨_,rfl,_,rfl,a,l,x,as,hs,rfl,ha1,hL.same s1,hn,hok.sm,⟨trivial,e1,hok.good⟩,λH2 s2=>⟨_,rfl,?_⟩⟩)
 have s12:=s1.trans s2
 by_cases e2:bg x hs=false
 ·rw [e2]
  rw [if_neg (by rw [e2]; decide)]at q
  exact bX (q H2 s12)
 have e2:bg x hs=true:=by simpa using e2
 rw [e2]
 rw [if_pos e2]at q
 have ha2:=ha.keep (aE.of s12)
 refine bA (aG ⟨_,rfl,_,rfl,a,l,x,as,hs,rfl,ha2,hL.same s12,hn,hok.sm,⟨trivial,e1,hok.good,hok.ne,TQ⟩,λu H3 s3 hu=>?_⟩)
 have qd:=s12.trans s3
 refine⟨u,_,rfl,.inr (aH.of hu),_,_,rfl,rfl,_,rfl,?_⟩
 rw [UC]
 by_cases e3:¬(bH x hs).length<=6
 ·rw [if_neg e3]at q
  rw [UB (show(6:Int)<((bH x hs).length:Nat) by omega)]
  exact bX (q H3 qd)
 have e3:(bH x hs).length<=6:=by omega
 rw [if_pos e3]at q
 rw [UA (show¬(6:Int)<((bH x hs).length:Nat) by omega)]
 have ha3:=ha.keep (aE.of qd)
 refine bA (aG ⟨_,rfl,_,rfl,a,b,x,k,rfl,ha3,hk.same qd,hps,hok.wide,λH4 s4=>⟨_,rfl,?_⟩⟩)
 have qE:=qd.trans s4
 by_cases e4:jI x k.ps=false
 ·rw [e4]
  rw [if_neg (by rw [e4]; decide)]at q
  exact bX (q H4 qE)
 have e4:jI x k.ps=true:=by simpa using e4
 rw [e4]
 rw [if_pos e4]at q
 have Sv:=ha.keep (aE.of qE)
 obtain⟨xs,h1⟩:=Sv.first
 refine bA (aG ⟨_,rfl,a,_,0,_,rfl,rfl,aH.of h1,av (j:=0) rfl,rfl,_,rfl,?_⟩)
 rw [bM,yx]
 cases e5:jc x with
 | false =>
  rw [e5]at q
  exact bA (bA (aG (q H4 qE)))
 | true =>
  rw [e5,Bool.true_and]at q
  obtain⟨hh,p,hk1,_⟩:=hk.same qE
  refine bX ⟨_,rfl,b,_,2,_,rfl,rfl,aH.of hk1,rfl,_,rfl,?_⟩
  refine cI (λz=>?_) (λz=>aG ?_)
  ·rw [if_pos z]at q
   exact q H4 qE
  ·rw [if_neg z]at q
   exact q H4 qE
end My
namespace L2
open PySem PySem.Spec PyProof.Rows
section
variable{X:Cx}{N':List Str}{src:List (Option Nat)}{sc:Scope}{elt t1 i1 t2 i2:Expr}{f1 f2:List Expr}{pos:Pos}{wi wi2:TI}{g g2:TG}{tc rJ:TT}{te:TE}
theorem u_{i:Nat}{x:Str}{pos' spos:Pos}(hN:X.N.Nodup)(hi':X.N[i]? = some x)(hx:Loc X.env.scope x)(hsw:swapsWith (qN elt t1 i1 f1 t2 i2 f2 sc pos) (some (.Name x pos')) spos.line X.env=pure true)
  (hc:X.calm=true) (S:ba X.env.scope X.N N' src sc) (hi:PI X t1 i1 wi)
  (hg:∀cl C s H fp,PG (aK X N' sc cl C s H fp) t1 g) (ht:∀cl C s H fp,i9 (aK X N' sc cl C s H fp) f1 tc)
  (hi2:∀cl C s H fp,PI (aK X N' sc cl C s H fp) t2 i2 wi2) (hg2:∀cl C s H fp,PG (aK X N' sc cl C s H fp) t2 g2) (Bi:∀cl C s H fp,i9 (aK X N' sc cl C s H fp) f2 rJ)
  (he:∀cl C s H fp,PE (aK X N' sc cl C s H fp) elt te)
  (hf:X.fn x=true\/X.env.scope.names.lookup x=some .local:=by first | exact .inl rfl | exact .inr rfl | assumption)
  (hs:∀x,foldedSetIterable i1 X.env x=pure x:=by intro _; rfl) (hs2:∀(env:Env) x,foldedSetIterable i2 env x=pure x:=by intro _ _; rfl) :
  PS X (.Assign [.Name x pos'] (qN elt t1 i1 f1 t2 i2 f2 sc pos) spos) (Dz (Dd src wi g tc wi2 g2 rJ te) (bz i)):=by
 intro pins s σ H D I h
 rw [exec_Assign_Name_used _ _ _ _ hsw]
 refine Ut (wpAny_standAt (Ut ?_))
 show wpAny _ _ (comprehension _ _ _ _ _ _ _ _ >>= _) _ _ s
 refine Ut (wpAny_comprehension_free (use:=some (assign (.Name x pos') X.env)) rfl hs (cU λy hy hk=>I.ok.has y.1 (S.free y hy hk)) S.kind (λy hy hl=>by rw [←hl]; exact S.uniq y hy) ?_)
 refine b_ (hi pins s σ H _ I h) λv s1 h1=>b_ h1 λitv s2 h2=>?_
 obtain⟨it,fp,tn,J,H2,e,I2,T,st2,KH,hW⟩:=h2
 subst e
 refine mF (Q:=λy H'=>D.nx (σ.set i (some y)) H') (RR:=λacc C=>compPost (model X.prog X.w) X.A X.xe (some (assign (.Name x pos') X.env)) _ acc C) hc S hg ht hi2 hg2 Bi he hs2 I2 T st2 KH hW ?_
 intro D' C s5 H' m I5 n5 fC q
 refine wpAny_assign_Name (l_ I5 hN hi' hx (show RelV (.ref D') (.ref D') from rfl) (λs6 I6 hsb=>?_) hf)
 obtain⟨a,sb,ha⟩:=hsb
 have OH:C≠a:=by
  rcases ha with z | z
  ·rw [z]; exact fC.2.1
  ·exact λe=>fC.2.2.2.2.1 x a z e.symm
 refine⟨m,n5.sameBut sb OH,λh' NT=>?_⟩
 refine Uu (Uu ?_)
 exact⟨_,H',I6.turned (t':=s6.toks) (λb o hb e=>(NT.2 b hb).trans e) fC.1 fC.2.1 fC.2.2.2.1 fC.2.2.2.2.1 fC.2.2.2.2.2,q⟩
end
end L2
namespace My
open PySem L2
structure jl(H:Hp)(l:Addr)(as:List Addr)(ks:List Kn):Prop where
 lst:H l=some (.lst (as.map V.ref))
 len:as.length=ks.length
 at_:∀(i:Nat) a k,as[i]? = some a->ks[i]? = some k->gu H a k
theorem jl.same{H H':Hp}{l:Addr}{as:List Addr}{ks:List Kn}(s:aM H H')(h:jl H l as ks):jl H' l as ks:=⟨s _ _ h.lst,h.len,λi a k e1 e2=>(h.at_ i a k e1 e2).same s⟩
theorem jl.get{H:Hp}{l:Addr}{as:List Addr}{ks:List Kn}(h:jl H l as ks){i:Nat}{x:V}(hx:(as.map V.ref)[i]? = some x):∃(a:Addr) (k:Kn),x=.ref a/\ks[i]? = some k/\gu H a k:=by
 rw [List.getElem?_map]at hx
 cases e:as[i]? with
 | none=>rw [e]at hx; cases hx
 | some b =>
  rw [e]at hx
  have hx':V.ref b=x:=Option.some.inj hx
  subst hx'
  have hi:i<ks.length:=by rw [←h.len]; exact(List.getElem?_eq_some_iff.mp e).1
  have er:ks[i]? = some ks[i]:=UI hi
  exact⟨b,ks[i],rfl,er,h.at_ i b _ e er⟩
def zM(ps ns:List Str):Prop:=ps.Pairwise v3/\∀s,s∈ps↔s∈ns
def jQ(ks:List Kn):List Hd:=ks.map λk=>k.hd
structure NX(x:Wk)(k:Kn)(ks:List Kn):Prop where
 n:ks.length=C7 x
 ok:AF x
 fit:dc x (jQ ks)=true
 keep:keepIn x k.hd
 hd:∀k∈ks,k.hd.length<=1000
 ps:∀k∈ks,k.ps.length<=20
def vD(n:Nat):Sp:=λvs H Q _=>∃(a b l:Addr) (x:Wk) (k:Kn) (as:List Addr) (ks:List Kn),vs=[.ref a,.ref b,.ref l]/\dk n H a x/\gu H b k/\jl H l as ks/\NX x k ks/\
 ∀(u:Addr) (k':Kn) (H':Hp),aM H H'->gu H' u k'->k'.hd=bH x (jQ ks)->zM k'.ps (ks.flatMap (λk=>k.ps)++[au x])->k'.lo=(fb x k||ks.any λk=>k.lo)->Q (.ref u) H'
theorem Bk{x:Wk}:C7 x<=2:=by cases x <;> simp [C7]
theorem DV{ks:List Kn}{m:Nat}(hl:ks.length<=m)(h:∀k∈ks,k.ps.length<=20):(ks.flatMap λk=>k.ps).length<=20*m:=by
 induction ks generalizing m with
 | nil=>exact Nat.zero_le _
 | cons k ks ih =>
  rw [List.flatMap_cons,UD]
  have h1:=h k (by simp)
  have h2:=ih (m:=m-1) (by simp at hl; omega) λk hk=>h k (by simp [hk])
  simp at hl
  omega
theorem yG{H:Hp}{D:Addr}{ks:List Kn}{bs:List Addr}(h:H D=some (.lst (bs.map V.ref)))(hl:bs.length=ks.length)(ha:∀(i:Nat) a k,bs[i]? = some a->ks[i]? = some k->dW H a k.hd):fQ H D bs (jQ ks):=by
 refine⟨h,by rw [hl,jQ,UC],λi a r e1 e2=>?_⟩
 rw [jQ,List.getElem?_map]at e2
 cases ek:ks[i]? with
 | none=>rw [ek]at e2; cases e2
 | some k =>
  rw [ek]at e2
  cases e2
  exact ha i a k e1 ek
abbrev fP:Stmt:=top 46
theorem i4:az ["worker","known","told","names"] ["worker","known","told"] (ar fP):=fs
variable{P:Program}{w:World}{K:PySem.W.Frag}{mg:Str->Option Value}{base:Heap}
theorem zV{n:Nat}(B:jV mg)(B2:iK mg)(B3:Am mg)(F:FA K mg "known_behind" fP)
  (jz:bf bc P w K mg base 3 "head_told" ["worker","heads"] (dq n λ_=>True))
  (gJ:bf bc P w K mg base 1 "name_passed" ["worker"] (wL n))
  (qB:bf bc P w K mg base 2 "makes_loose" ["worker","known"] (yH n)) :
  bf bc P w K mg base 4 "known_behind" ["worker","known","told"] (vD n):=by
 refine F.ok i4 λf cdv A outer s H vs Q E hr h=>?_
 have hu:=iN hr
 have hu1:=jY hr
 obtain⟨a,b,l,x,k,as,ks,rfl,ha,hk,hL,ho,q⟩:=h
 refine⟨_,(aq (u_ (i:=3) (N':=["head","passed","loose","name"]) (src:=[none,none,none,none]) i4.nd rfl (Or.inl rfl) rfl rfl (ba.jL (by kernel_rfl)) (fj (pv 2)) (g:=(iT K 3 (bP (bz 0) (bP (bz 1) (bP (bz 2) iU))))) (λcl C s H fp=>(cD rfl (aD (eA (i:=0)) (aD (eA (i:=1)) (aD (eA (i:=2)) bT))))) (λcl C s H fp=>aX) (wi2:=(FI K (bx 1))) (λcl C s H fp=>(cJ (i5 1))) (λcl C s H fp=>(eA (i:=3))) (λcl C s H fp=>aX) (te:=(bx 3)) (λcl C s H fp=>(i5 3)))
   (ax (aJ (ae (ay jz hr (ae (pv 0) (ae (bw (N':=["head","passed","loose"]) (src:=[none,none,none]) rfl (ba.jL (by kernel_rfl)) (fj (pv 2)) (g:=(iT K 3 (bP (bz 0) (bP (bz 1) (bP (bz 2) iU))))) (λcl C s H fp=>(cD rfl (aD (eA (i:=0)) (aD (eA (i:=1)) (aD (eA (i:=2)) bT))))) (λcl C s H fp=>aX) (te:=(bx 0)) (λcl C s H fp=>(i5 0))) ah))) (ae (aV bB rfl B.tuple PyProof.Rows.boot_tuple (ae (kH rfl rfl B2.sorted rfl B2.set (aF pA (pv 3) (aQ (ae (ay gJ hr (ae (pv 0) ah)) ah)))) ah)) (ae (fY (ay qB hr (ae (pv 0) (ae (pv 1) ah))) (cY (a_ (lJ rfl) rfl B3.any PyProof.Rows.boot_any (ae (bw (N':=["head","passed","loose"]) (src:=[none,none,none]) rfl (ba.jL (by kernel_rfl)) (fj (pv 2)) (g:=(iT K 3 (bP (bz 0) (bP (bz 1) (bP (bz 2) iU))))) (λcl C s H fp=>(cD rfl (aD (eA (i:=0)) (aD (eA (i:=1)) (aD (eA (i:=2)) bT))))) (λcl C s H fp=>aX) (te:=(bx 2)) (λcl C s H fp=>(i5 2))) ah)))) ah)))))),?_⟩
 have hn2:ks.length<=2:=by rw [ho.n]; exact Bk
 have hla:(as.map V.ref).length=ks.length:=by rw [UC,hL.len]
 refine⟨_,rfl,l,rfl,⟨_,aZ.of hL.lst⟩,λD hD=>?_⟩
 have hfl:∀i,((ks.take i).flatMap λk=>k.ps).length<=40:=λi=>DV (m:=2) (by rw [List.length_take]; omega) λk hk=>ho.ps k (List.mem_of_mem_take hk)
 refine xI (xs:=as.map V.ref) (λi σ ys H'=>(∃o1 o2 o3 o4,σ=[o1,o2,o3,o4])/\ys=((ks.take i).flatMap λk=>k.ps).map V.str/\H' D=some (.lst ys)/\aM H H') ⟨⟨none,none,none,none,rfl⟩,rfl,ag,aj hD _⟩ ?_ ?_ ?_ ?_
 ·rintro i σ ys H' _ ⟨_,_,h,_⟩
  exact h
 ·rintro i σ ys H' _ ⟨_,_,_,sm⟩
  exact aZ.of (sm _ _ hL.lst)
 ·rintro i v σ ys H' hv ⟨⟨o1,o2,o3,o4,rfl⟩,rfl,h,sm⟩
  obtain⟨b',k',rfl,ek,hh,p,hk1,hk2,hk3⟩:=hL.get hv
  have hpl:k'.ps.length<=20:=ho.ps k' (UK ek)
  refine⟨b',_,rfl,aH.of (sm _ _ hk1),rfl,_,_,rfl,ak ⟨_,_,rfl,ak ⟨_,_,rfl,ak ⟨rfl,?_⟩⟩⟩⟩
  refine⟨_,rfl,p,rfl,⟨_,aH.of (sm _ _ hk3)⟩,?_⟩
  refine l4 (xs:=k'.ps.map V.str) (λj σ zs H2=>(∃o1 o2 o3 o4,σ=[o1,o2,o3,o4])/\zs=((ks.take i).flatMap λk=>k.ps).map V.str++(k'.ps.take j).map V.str/\H2 D=some (.lst zs)/\aM H H2) ⟨⟨_,_,_,_,rfl⟩,by rw [List.take_zero,List.map_nil,List.append_nil],h,sm⟩ ?_ ?_ ?_ ?_
  ·rintro j σ zs H2 hj ⟨_,rfl,h2,_⟩
   refine⟨h2,λ_=>?_⟩
   rw [UD,UC,UC,List.length_take]
   have:=hfl i
   exact UG (show _<=60 by omega) (by decide)
  ·rintro j σ zs H2 _ ⟨_,_,_,s2⟩
   exact aH.of (s2 _ _ hk3)
  ·rintro j v2 σ zs H2 hu' ⟨⟨o1,o2,o3,o4,rfl⟩,rfl,h2,s2⟩
   rw [List.getElem?_map]at hu'
   cases es:k'.ps[j]? with
   | none=>rw [es]at hu'; cases hu'
   | some s0 =>
    rw [es]at hu'
    have hv2:V.str s0=v2:=Option.some.inj hu'
    subst hv2
    refine ak ⟨_,rfl,h2,⟨_,_,_,_,rfl⟩,?_,ag,bq hD s2⟩
    rw [take_one es,UE,List.append_assoc]; rfl
  ·rintro σ zs H2 ⟨⟨o1,o2,o3,o4,rfl⟩,rfl,h2,s2⟩
   refine⟨⟨_,_,_,_,rfl⟩,?_,h2,s2⟩
   rw [UC,List.take_length,←UE,take_one ek,List.flatMap_append]
   show _=(_++(k'.ps++[])).map V.str
   rw [List.append_nil]
 ·rintro σ ys H1 ⟨_,rfl,h1,s1⟩
  rw [hla,List.take_length]at h1
  have hfl:=hfl ks.length
  rw [List.take_length]at hfl
  refine ak ?_
  dsimp only
  have hL1:=hL.same s1
  refine⟨_,rfl,_,rfl,l,rfl,⟨_,aZ.of hL1.lst⟩,λD2 hD2=>?_⟩
  refine dI (xs:=as.map V.ref) (λi σ ys H'=>(∃o1 o2 o3,σ=[o1,o2,o3])/\(∃bs:List Addr,ys=bs.map V.ref/\bs.length=i/\∀(j:Nat) a k,bs[j]? = some a->ks[j]? = some k->dW H1 a k.hd)/\H' D2=some (.lst ys)/\aM H1 H') ⟨⟨none,none,none,rfl⟩,⟨[],rfl,rfl,λj a k e=>by cases e⟩,ag,aj hD2 _⟩ ?_ ?_ ?_ ?_ ?_
  ·rintro i σ ys H' _ ⟨_,⟨bs,rfl,hi,_⟩,h,_⟩
   exact⟨h,by rw [UC]; exact Nat.le_of_eq hi⟩
  ·rintro i σ ys H' _ ⟨_,_,_,sm⟩
   exact aZ.of (sm _ _ hL1.lst)
  ·rw [hla]; exact Uz hn2 (by decide)
  ·rintro i v σ ys H' hv ⟨⟨o1,o2,o3,rfl⟩,⟨bs,rfl,hi,hb⟩,h,sm⟩
   obtain⟨b',k',rfl,ek,hh,p,hk1,hk2,hk3⟩:=hL1.get hv
   refine⟨b',_,rfl,aH.of (sm _ _ hk1),rfl,_,_,rfl,ak ⟨_,_,rfl,ak ⟨_,_,rfl,ak ⟨rfl,?_⟩⟩⟩⟩
   refine⟨_,rfl,h,⟨_,_,_,rfl⟩,⟨bs++[hh],by rw [UE]; rfl,by rw [UD,hi]; rfl,λj a k e1 e2=>?_⟩,ag,bq hD2 sm⟩
   by_cases hj:j<bs.length
   ·rw [List.getElem?_append_left hj]at e1
    exact hb j a k e1 e2
   ·have hj':j=bs.length:=by
     have:=(List.getElem?_eq_some_iff.mp e1).1
     rw [UD]at this
     simp at this
     omega
    rw [hj',List.getElem?_append_right (Uy _),Nat.sub_self]at e1
    cases e1
    rw [hj',hi,ek]at e2
    cases e2
    exact hk2
  ·rintro σ ys H2 ⟨_,⟨bs,rfl,hi,hb⟩,h2,s2⟩
   rw [hla]at hi
   have s12:=s1.trans s2
   refine⟨a,D2,x,bs,jQ ks,rfl,ha.keep (aE.of s12),yG h2 hi (λi a k e1 e2=>s2 _ _ (hb i a k e1 e2)),by rw [jQ,UC,ho.n],ho.ok.sm,⟨trivial,ho.fit,ho.ok.good,ho.ok.ne,λh hh=>by obtain⟨k,hk,rfl⟩:=List.mem_map.mp hh; exact ho.hd k hk⟩,λu1 H3 s3 hu1=>?_⟩
   have qd:=s12.trans s3
   refine⟨_,rfl,_,rfl,a,x,rfl,ha.keep (aE.of qd),dQ,λu2 hu2=>?_⟩
   have s4:=aj hu2 (.lst [V.str (au x)])
   refine⟨D,u2,_,_,rfl,rfl,s4 _ _ (s3 _ _ (s2 _ _ h1)),ag,by rw [UC]; exact Uz (show _+1<=41 by omega) (by decide),λu3 v7=>?_⟩
   have s5:=aj v7 (.lst (((ks.flatMap λk=>k.ps).map V.str)++[V.str (au x)]))
   have hmap:(ks.flatMap λk=>k.ps).map V.str++[V.str (au x)]=((ks.flatMap λk=>k.ps)++[au x]).map V.str:=by rw [UE]; rfl
   refine⟨u3,_,rfl,.inl (aZ.of ag),?_,.inr ⟨_,hmap⟩,λu4 ys wW hS=>?_⟩
   ·rw [UD,UC]
    show _+1<64
    omega
   have s6:=aj wW (.lst ys)
   have hys:∃ms:List Str,ys=ms.map V.str/\zM ms ((ks.flatMap λk=>k.ps)++[au x]):=by
    rcases hS with⟨ns,ms,e1,e2,_⟩ | ⟨ns,ms,e1,e2,e3,e4⟩
    ·rw [hmap]at e1
     cases ns with
     | nil=>rw [UE]at e1; simp at e1
     | cons n ns =>
      exfalso
      have:V.int n∈((ks.flatMap λk=>k.ps)++[au x]).map V.str:=by rw [e1]; simp
      obtain⟨s,_,e⟩:=List.mem_map.mp this
      cases e
    ·rw [hmap]at e1
     have:ns=(ks.flatMap λk=>k.ps)++[au x]:=(List.map_inj_right (f:=V.str) (λa b e=>V.str.inj e)).mp e1.symm
     subst this
     exact⟨ms,e2,e3,e4⟩
   obtain⟨ms,rfl,hms⟩:=hys
   refine⟨u4,_,rfl,.inl ⟨aZ.of ag,λu5 SE=>?_⟩⟩
   have s7:=aj SE (.tup (ms.map V.str))
   have Nw:=s4.trans (s5.trans (s6.trans s7))
   have HL:upd (upd (upd (upd H3 u2 (.lst [V.str (au x)])) u3 (.lst (((ks.flatMap λk=>k.ps).map V.str)++[V.str (au x)]))) u4 (.lst (ms.map V.str))) u5 (.tup (ms.map V.str)) u5=some (.tup (ms.map V.str)):=ag
   revert Nw HL
   generalize upd (upd (upd (upd H3 u2 (.lst [V.str (au x)])) u3 (.lst (((ks.flatMap λk=>k.ps).map V.str)++[V.str (au x)]))) u4 (.lst (ms.map V.str))) u5 (.tup (ms.map V.str))=H4
   intro Nw HL
   have qE:=qd.trans Nw
   refine⟨_,rfl,_,rfl,a,b,x,k,rfl,ha.keep (aE.of qE),hk.same qE,ho.keep,λH5 s8=>?_⟩
   have Mf:=qE.trans s8
   have fin:∀(v:Bool) (H6:Hp),aM H5 H6->v=(fb x k||ks.any λk=>k.lo)->∀u6,H6 u6=none->Q (.ref u6) (upd H6 u6 (.tup [.ref u1,.ref u5,.bl v])):=by
    intro v H6 s9 hv u6 RW
    have BL:=aj RW (.tup [.ref u1,.ref u5,.bl v])
    have KR:=(s8.trans s9).trans BL
    exact q u6 ⟨bH x (jQ ks),ms,v⟩ _ ((Mf.trans s9).trans BL) ⟨u1,u5,ag,KR _ _ (Nw _ _ hu1),KR _ _ HL⟩ rfl hms hv
   refine⟨_,rfl,cI (λe=>?_) (λe=>?_)⟩
   ·exact⟨gw,fin true H5 (aM.refl _) (by rw [e]; rfl)⟩
   have OI:=hL.same Mf
   refine⟨_,rfl,l,rfl,⟨_,aZ.of OI.lst⟩,λD3 QP=>?_⟩
   refine dI (xs:=as.map V.ref) (λi σ ys H'=>(∃o1 o2 o3,σ=[o1,o2,o3])/\ys=((ks.take i).map λk=>k.lo).map V.bl/\ys.length=i/\H' D3=some (.lst ys)/\aM H5 H') ⟨⟨none,none,none,rfl⟩,rfl,rfl,ag,aj QP _⟩ ?_ ?_ ?_ ?_ ?_
   ·rintro i σ ys H' _ ⟨_,_,hi,h,_⟩
    exact⟨h,Nat.le_of_eq hi⟩
   ·rintro i σ ys H' _ ⟨_,_,_,_,sm⟩
    exact aZ.of (sm _ _ OI.lst)
   ·rw [hla]; exact Uz hn2 (by decide)
   ·rintro i v σ ys H' hv ⟨⟨o1,o2,o3,rfl⟩,rfl,hi,h,sm⟩
    obtain⟨b',k',rfl,ek,hh,p,hk1,hk2,hk3⟩:=OI.get hv
    refine⟨b',_,rfl,aH.of (sm _ _ hk1),rfl,_,_,rfl,ak ⟨_,_,rfl,ak ⟨_,_,rfl,ak ⟨rfl,?_⟩⟩⟩⟩
    refine⟨_,rfl,h,⟨_,_,_,rfl⟩,?_,?_,ag,bq QP sm⟩
    ·rw [take_one ek,UE,UE]; rfl
    ·rw [UD,hi]; rfl
   ·rintro σ ys H' ⟨_,rfl,_,h,sm⟩
    rw [hla,List.take_length]at h
    refine⟨D3,_,rfl,aZ.of h,gw,fin _ H' sm ?_⟩
    rw [Bool.eq_false_iff.mpr e,Bool.false_or,List.any_map]
    rfl
end My
namespace L2
open PySem PySem.Spec PyProof.Rows
section
variable{X:Cx}{tg e:Expr}
theorem PG.y6{g:TG}(h:PG X.y6 tg g):PG X tg g:=λpins s σ H v u Q I r hw =>
 wpAny_mono (h pins s σ H v u Q (I.wish _) r hw) (λ_ _ ⟨σ',H',I',q⟩=>⟨σ',H',I'.c9,q⟩) λ_ _ z=>False.elim z
theorem i9.y6{ifs:List Expr}{t:TT}(h:i9 X.y6 ifs t):i9 X ifs t:=λpins s σ H Q I hw =>
 wpAny_mono (h pins s σ H Q (I.wish _) hw) (λ_ _ ⟨H',I',q⟩=>⟨H',I'.c9,q⟩) λ_ _ z=>False.elim z
end
section
variable{X:Cx}{elt target iter:Expr}{ifs:List Expr}{sc:Scope}{pos:Pos}{wi:TI}{g:TG}{tc:TT}{te:TE}{N':List Str}{src:List (Option Nat)}{E:XK}{L:Addr}
theorem x8{it acc:Value}{env:Env}{prog:Program}{w:World}{A:Around}{s:Shared}{R:Result->Shared->Prop}{F:Value->Shared->Prop}(hF:∀ev s',F ev s'->notedBy (model prog w) A env (λx s'=>R (.error x) s') ev s')(Iv:Nat->Shared->Prop)
  (turn:∀n s,Iv n s->wpAny (model prog w) A (pyNext it) (λr s₁=>match r with
   | none=>R (.ok .next) s₁
   | some v=>wpAny (model prog w) A (letOwnedTupleGo target it v) (λ_ s₁'=>wpAny (model prog w) A (assign target env v) (λ_ s₂ =>
     wpAny (model prog w) A (forIn ifs true λc r=>if r=true then do let ok←isTrue c env (eval c env); pure (ForInStep.yield ok)else pure (ForInStep.yield r)) (λok s₃ =>
      if ok=true then wpAny (model prog w) A (eval elt env) (λx s₄ =>
       wpAny (model prog w) A (call (.builtin "list.append") [acc,x]) (λ_ s₅=>∃m,m<n/\Iv m s₅) F s₄) F s₃
      else∃m,m<n/\Iv m s₃) F s₂) F s₁') F s₁) F s)
  (n:Nat) (h:Iv n s):codeAny (model prog w) A (.compLoop (.ListComp elt [⟨target,iter,ifs,0⟩] sc pos) 0 it acc env) R s:=by
 refine codeAny_loop rfl Iv (λn s hI=>?_) n h
 show wpAny _ A ((compTurn (.ListComp elt [⟨target,iter,ifs,0⟩] sc pos) 0 it acc env).onRaise (λx=>do noteFrame x env; theTreesLotGoes x)) _ _ s
 refine wpAny_noted ?_
 rw [compTurn_list]
 refine wpAny_mono (E:=F) ?_ (λ_ _ z=>z) hF
 refine Ut (wpAny_standAt (Ut (b_ (turn n s hI) λr s₁ h₁=>?_)))
 cases r with
 | none=>exact Uu h₁
 | some v =>
  refine Ut (b_ h₁ λ_ s₁' h₁'=>Ut (b_ h₁' λ_ s₂ h₂=>Ut (b_ h₂ λok s₃ h₃=>?_)))
  cases ok with
  | false=>exact Uu ⟨rfl,h₃⟩
  | true=>exact Ut (Ut (b_ h₃ λx s₄ h₄=>Ut (b_ h₄ λ_ s₅ h₅=>Uu (Uu ⟨rfl,h₅⟩))))
theorem wZ{pins:List (Addr×Obj)}{σ:St}{H2:Hp}{s3:Shared}{fp:List Addr}{cl:List (Str×Addr)}{use:Option (Value->Sem Unit)}{QQ:Value->Shared->Prop}{acc:Value}{ev:Value}{s':Shared}(tp:Top X L)(I3:Inv X pins σ H2 s3)
  (f3:∀b∈fp,dB X pins H2 b) (h:XE (aK X N' sc cl s3.heap.objs.size s3 H2 fp) E ev s') :
  notedBy (model X.prog X.w) X.A (compEnvC sc cl s3.heap.objs.size X.env) (λx s''=>compPost (model X.prog X.w) X.A (XE X E) use QQ acc s3.heap.objs.size (.error x) s'') ev s':=by
 obtain⟨e,C,od,σ',H,rfl,I,f,hE⟩:=h
 have TH:Top (aK X N' sc cl s3.heap.objs.size s3 H2 fp) L:=⟨tp.ex,tp.fr⟩
 refine nA (X:=aK X N' sc cl s3.heap.objs.size s3 H2 fp) I.ok.frames TH tp.fr I f λs5 T I5 f5=>?_
 obtain⟨m6,n6,_⟩:=id I5.loc
 have fin:∃m,s5.heap.Ns s3.heap.objs.size m/\∀h',Heap.SameBut s3.heap.objs.size s5.heap h'->∀cenv:Env,cenv.locals=s3.heap.objs.size->wpAny (model X.prog X.w) X.A (PySem.passOn "comprehension.variables-let-go" (.ref e) cenv:Sem Value) (λ_ _=>False) (XE X E) {s5 with heap:=h'}:=by
  refine⟨m6,n6,λh' sb cenv hcl=>?_⟩
  have J:Inv X [] σ H s5:=(I3.call' I5.os I5.base I5.hok I5.bare λb hb=>⟨(f3 b hb).2.2.2.1,(f3 b hb).2.1,(f3 b hb).2.2.2.2.1,(f3 b hb).2.2.2.2.2⟩).iF (pins':=[]) λp hp=>absurd hp (by simp)
  have fC:dB X [] H s3.heap.objs.size:=by
   have z:=I3.l7 (H':=H) (b:=s3.heap.objs.size) (Uy _) I5.free
   exact⟨z.1,z.2.1,z.2.2.1,z.2.2.2.1,z.2.2.2.2.1,λp hp=>z.2.2.2.2.2 p (List.mem_append_left _ (by simpa using hp))⟩
  have J2:Inv X [] σ H {s5 with heap:=h'}:=J.turned (t':=s5.toks) (λb o hb z=>(sb.2 b hb).trans z) fC.1 fC.2.1 fC.2.2.2.1 fC.2.2.2.2.1 fC.2.2.2.2.2
  obtain⟨vs,sl,g1,g2⟩:=f5.obj
  obtain⟨oT,ts,t1,t2,t3⟩:=f5.tb.obj
  have Kp:∀b,H b≠none->b≠s3.heap.objs.size:=λb hb z=>hb (by rw [z]; exact I5.free)
  have neT:T≠s3.heap.objs.size:=λz=>by
   obtain⟨o,es,ep,ho,hd,_⟩:=n6
   have ho':s5.heap.get? s3.heap.objs.size=some o:=ho
   rw [z,ho']at t1
   cases t1
   rw [hd]at t2
   cases t2
  have f6:pM X H h' e C od T:=⟨f5.at_,⟨vs,sl,(sb.2 e (Kp e (by rw [f5.at_]; simp))).trans g1,g2⟩,f5.tb.free,Uz I3.sz f5.tb.new,λp hp z=>by
   have:=(I3.pin p (List.mem_append_left _ hp)).1
   exact absurd (UH (Uw this) f5.tb.new) (by rw [z]; exact Nat.lt_irrefl _),oT,ts,(sb.2 T neT).trans t1,t2,t3⟩
  obtain⟨vs',sl',EL,R0⟩:=f6.obj
  unfold PySem.passOn
  refine Ut (wpAny_field EL rfl R0 ?_)
  have ne:¬((Value.ref T==Value.none)=true):=by simp
  rw [if_neg ne]
  have go:=iy (M:=model X.prog X.w) (A:=X.A) (E:=XE X E) (Q:=λ_ s7=>wpAny (model X.prog X.w) X.A (throw (.ref e):Sem Value) (λ_ _=>False) (XE X E) s7) J2 f6 cenv.frame λs7 I7 f7=>wpAny_throw ⟨e,C,od,σ,H,rfl,I7,f7.Qx,hE⟩
  first
   | exact Ut go
   | exact Ut (Uu (Ut go))
 cases use <;> exact fin
theorem uS{pins:List (Addr×Obj)}{σ:St}{H2:Hp}{s2:Shared}{it:Addr}{fp:List Addr}{tn:Nat->Heap->Prop}{J:It}{Q:VK}{E2:Value->Shared->Prop}{use:Option (Value->Sem Unit)}{QQ:Value->Shared->Prop}
  (hc:X.calm=true) (tp:Top X L) (S:ba X.env.scope X.N N' src sc)
  (hg:∀cl C s H fp,PG ((aK X N' sc cl C s H fp).xs E) target g) (ht:∀cl C s H fp,i9 ((aK X N' sc cl C s H fp).xs E) ifs tc) (he:∀cl C s H fp,PE ((aK X N' sc cl C s H fp).xs E) elt te)
  (I2:Inv X pins σ H2 s2) (T:Turn X.prog X.w X.K target J fp it tn) (st2:tn 0 s2.heap) (f2:∀b∈fp,dB X pins H2 b)
  (hW:∀D,H2 D=none->∃W:Nat->Nat->St->List V->Hp->Prop,(∃m,W 0 m (jT src σ) [] (upd H2 D (.lst [])))/\oB J g tc te D Q W)
  (hRR:∀D C s5 H' m,Inv X pins σ H' s5->s5.heap.Ns C m->dB X pins H' C->Q (.ref D) H'->compPost (model X.prog X.w) X.A (XE X E) use QQ (.ref D) C (.ok .next) s5) :
  wpAny (model X.prog X.w) X.A (newList []) (λacc s₃=>wpAny (model X.prog X.w) X.A (newFunctionEnv sc X.env.globals (bL X.env.cells sc.names []) [] X.env.qual none .none (some X.env)) (λcenv s₄ =>
   codeAny (model X.prog X.w) X.A (.compStart (.ListComp elt [⟨target,iter,ifs,0⟩] sc pos) 0 (.ref it) acc {cenv with scope:=relabel sc X.env}) (compPost (model X.prog X.w) X.A (XE X E) use QQ acc cenv.locals) s₄) E2 s₃) E2 s2:=by
 have o2:∀b∈fp,b<s2.heap.objs.size:=λb hb=>by
  obtain⟨o,z,_⟩:=T.obj 0 _ st2 b hb
  exact Uw z
 refine wpAny_newObj_type ?_
 have JZ:H2 s2.heap.objs.size=none:=I2.hok.fresh (Uy _)
 obtain⟨W,⟨m0,w0⟩,turn⟩:=hW s2.heap.objs.size JZ
 have I3:Inv X pins σ (upd H2 s2.heap.objs.size (.lst [])) {s2 with heap:=s2.heap.push {cls:=.type "list",dict:=none,data:=.seq ([]:List Value).toArray}} :=
  I2.laid (t':=s2.toks) (λb u z=>Uv _ z) (Uy _) ⟨Nat.zero_le _,[],0,.nil,Ux _ rfl⟩
 have st3:tn 0 (s2.heap.push {cls:=.type "list",dict:=none,data:=.seq ([]:List Value).toArray}):=T.keep 0 _ _ st2 λb hb o z=>Uv _ z
 generalize hs3:({s2 with heap:=s2.heap.push {cls:=.type "list",dict:=none,data:=.seq ([]:List Value).toArray}}:Shared)=s3 at I3
 have hh3:s3.heap=s2.heap.push {cls:=.type "list",dict:=none,data:=.seq ([]:List Value).toArray}:=by rw [←hs3]
 have El:s2.heap.objs.size<s3.heap.objs.size:=by rw [hh3,Heap.size_push]; exact Nat.lt_succ_self _
 have o3:∀b∈fp,b<s3.heap.objs.size:=λb hb=>Nat.lt_trans (o2 b hb) El
 have f3:∀b∈fp,dB X pins (upd H2 s2.heap.objs.size (.lst [])) b:=λb hb=>⟨by rw [aI (Nat.ne_of_lt (o2 b hb))]; exact(f2 b hb).1,(f2 b hb).2⟩
 rw [←hh3]at st3
 refine wpAny_newFunctionEnv S.og (by intro y hy; simp at hy) (λh1 hns hsb=>?_) S.kind
 have hsb':Heap.SameBut s3.heap.objs.size (s3.heap.push {cls:=.type "dict",data:=.dict #[]}) h1:=hsb
 generalize hY:aK X N' sc (bL X.env.cells sc.names []) s3.heap.objs.size s3 (upd H2 s2.heap.objs.size (.lst [])) fp=Y
 have I4:Inv Y [] (jT src σ) (upd H2 s2.heap.objs.size (.lst [])) {s3 with heap:=h1,toks:=s3.toks+([]:List (Str×Value)).length}:=by
  rw [←hY]
  exact iD S I3 f3 o3 hns hsb'
 have BJ:tn 0 h1:=T.keep 0 _ _ st3 λb hb o z=>(hsb'.2 b (Nat.ne_of_lt (o3 b hb))).trans (Uv _ z)
 have fC:∀(H':Hp),H' s3.heap.objs.size=none->dB X pins H' s3.heap.objs.size:=λH' hn=>I3.l7 (Uy _) hn
 have loop:codeAny (model X.prog X.w) X.A (.compLoop (.ListComp elt [⟨target,iter,ifs,0⟩] sc pos) 0 (.ref it) (.ref s2.heap.objs.size) (compEnvC sc (bL X.env.cells sc.names []) s3.heap.objs.size X.env))
   (compPost (model X.prog X.w) X.A (XE X E) use QQ (.ref s2.heap.objs.size) s3.heap.objs.size) {s3 with heap:=h1,toks:=s3.toks+([]:List (Str×Value)).length}:=by
  have stat:∀{H':Hp},(∀b∈fp,H' b=none)->∀b∈fp,dB (Y.xs E) [] H' b:=λhn b hb=>by
   have z:=I4.ok
   subst hY
   exact⟨hn b hb,(z.AM b hb).1,z.pI b hb,.inl hb,(z.AM b hb).2,λp hp=>absurd (show p∈([]:List (Addr×Obj)) from hp) (by simp)⟩
  have OL:=hg (bL X.env.cells sc.names []) s3.heap.objs.size s3 (upd H2 s2.heap.objs.size (.lst [])) fp
  have htY:=ht (bL X.env.cells sc.names []) s3.heap.objs.size s3 (upd H2 s2.heap.objs.size (.lst [])) fp
  have NW:=he (bL X.env.cells sc.names []) s3.heap.objs.size s3 (upd H2 s2.heap.objs.size (.lst [])) fp
  refine x8 (F:=XE Y E) (λev s' hx=>by subst hY; exact wZ tp I3 f3 hx) (λn s'=>∃i σ' ys H',Inv (Y.xs E) [] σ' H' s'/\tn i s'.heap/\(∀b∈fp,H' b=none)/\W i n σ' ys H') ?_ m0
   ⟨0,_,[],_,I4.wish _,BJ,λb hb=>(f3 b hb).1,w0⟩
  rintro n s5 ⟨i,nu,ys,H5,I5,ug,v8,w5⟩
  obtain⟨hD,alt⟩:=turn i n nu ys H5 w5
  subst hY
  rcases alt with⟨stop,qn⟩ | ⟨go,hsz,N,hN,step⟩
  ·refine b_ (T.done ((aK X N' sc (bL X.env.cells sc.names []) s3.heap.objs.size s3 (upd H2 s2.heap.objs.size (.lst [])) fp).xs E) rfl rfl rfl hc i [] s5 nu H5 _ I5 (stat v8) ug stop) λr s6 ⟨hr,I6⟩=>?_
   subst hr
   obtain⟨m6,n6,_⟩:=id I6.loc
   exact hRR _ _ s6 H5 m6 (I3.call' I6.os I6.base I6.hok I6.bare λb hb=>⟨(f3 b hb).2.2.2.1,(f3 b hb).2.1,(f3 b hb).2.2.2.2.1,(f3 b hb).2.2.2.2.2⟩) n6 (fC _ I6.free) qn
  ·refine b_ (T.item ((aK X N' sc (bL X.env.cells sc.names []) s3.heap.objs.size s3 (upd H2 s2.heap.objs.size (.lst [])) fp).xs E) rfl rfl rfl hc i [] s5 nu H5 _ I5 (stat v8) ug go) λr s6 ⟨u,hr,h6⟩=>?_
   subst hr
   refine b_ h6 λ_ s7 ⟨x,H7,I7,r7,y7,sh,ET⟩=>?_
   have F_:=I7.pinned (stat ET) (T.obj _ _ sh)
   refine b_ (OL _ s7 nu H7 x u _ F_ r7 (step x H7 y7)) λ_ s8 ⟨uh,H8,I8,q8⟩=>?_
   refine b_ (htY _ s8 uh H8 _ I8 q8) λb s9 ⟨H9,I9,q9⟩=>?_
   have again:∀{σ':St} {H':Hp} {s':Shared} {ys':List V} {m':Nat},Inv ((aK X N' sc (bL X.env.cells sc.names []) s3.heap.objs.size s3 (upd H2 s2.heap.objs.size (.lst [])) fp).xs E) ([]++jd fp s7.heap) σ' H' s'->m'<n->W (i+1) m' σ' ys' H'->
     ∃m,m<n/\∃i σ' ys H',Inv ((aK X N' sc (bL X.env.cells sc.names []) s3.heap.objs.size s3 (upd H2 s2.heap.objs.size (.lst [])) fp).xs E) [] σ' H' s'/\tn i s'.heap/\(∀b∈fp,H' b=none)/\W i m σ' ys H':=λ{σ' H' s' ys' m'} I' hm w'=>by
    refine⟨m',hm,i+1,σ',ys',H',I'.gp,T.keep _ _ _ sh λb hb o z=>(I'.pin (b,o) (UJ _ (UJ _ (cL hb z)))).1,λb hb=>?_,w'⟩
    obtain⟨o,z,d⟩:=T.obj _ _ sh b hb
    exact(I'.pin (b,o) (UJ _ (UJ _ (cL hb z)))).2.1
   cases b with
   | false =>
    rw [if_neg UM]at q9⊢
    obtain⟨m',hm,w'⟩:=hN _ _ _ q9
    exact again I9 hm w'
   | true =>
    rw [if_pos rfl]at q9⊢
    refine b_ (NW _ s9 uh H9 _ I9 q9) λxv BL ⟨v,Ak,MS,r10,Bc,w10⟩=>?_
    obtain⟨m',hm,w'⟩:=hN _ _ _ w10
    have LO:m5 (.ref s2.heap.objs.size) [v] Ak λ_ H'=>H'=upd Ak s2.heap.objs.size (.lst (ys++[v])):=⟨_,ys,v,rfl,rfl,Bc,hsz,rfl⟩
    refine b_ (cV _ BL uh Ak _ _ _ _ _ MS (show RelV (.ref s2.heap.objs.size) (.ref s2.heap.objs.size) from rfl) (.cons r10 .nil) LO) λ_ Qs ⟨_,Ph,Hn,_,MX⟩=>?_
    rw [MX]at Hn
    exact again Hn hm w'
 exact codeAny_compStart_list loop (T.self _ 0 _ _ _ BJ loop)
theorem Aw(hc:X.calm=true)(tp:Top X L)(S:ba X.env.scope X.N N' src sc)(hi:PI (X.xs E) target iter wi)
  (hg:∀cl C s H fp,PG ((aK X N' sc cl C s H fp).xs E) target g) (ht:∀cl C s H fp,i9 ((aK X N' sc cl C s H fp).xs E) ifs tc) (he:∀cl C s H fp,PE ((aK X N' sc cl C s H fp).xs E) elt te)
  (hs:∀x,foldedSetIterable iter X.env x=pure x:=by intro _; rfl) :
  PE (X.xs E) (.ListComp elt [⟨target,iter,ifs,0⟩] sc pos) (Cr src wi g tc te):=by
 intro pins s σ H Q I h
 rw [eval_ListComp]
 refine wpAny_comprehension_free (use:=none) rfl hs (cU λy hy hk=>I.ok.has y.1 (S.free y hy hk)) S.kind (λy hy hl=>by rw [←hl]; exact S.uniq y hy) ?_
 refine b_ (hi pins s σ H _ I h) λv s1 h1=>b_ h1 λitv s2 h2=>?_
 obtain⟨it,fp,tn,J,H2,z,I2,T,st2,f2,hW⟩:=h2
 subst z
 refine uS (Q:=Q) (QQ:=EP (X.xs E) pins σ Q) (use:=none) hc tp S hg ht he I2.c9 T st2 f2 hW ?_
 intro D C s5 H' m I5 n5 fC q
 refine⟨m,n5,λh' sb=>⟨.ref D,H',?_,rfl,q⟩⟩
 exact(I5.turned (t':=s5.toks) (λb o hb z=>(sb.2 b hb).trans z) fC.1 fC.2.1 fC.2.2.2.1 fC.2.2.2.2.1 fC.2.2.2.2.2).wish _
end
section
variable{X:Cx}{pins:List (Addr×Obj)}{σ:St}{H:Hp}{s:Shared}
theorem m9{M:Model}{A:Around}{E2:Value->Shared->Prop}{i:Nat}{n:Str}{pos:Pos}{Q:Unit->Shared->Prop}(I:Inv X pins σ H s)(hN:X.N.Nodup)(hi:X.N[i]? = some n)(hk:X.env.scope.names.lookup n=some .local)
  (q:∀s',Inv X pins (σ.set i none) H s'->Q () s'):wpAny M A (do bindName X.env n .none; unbindBehindTheSuite X.env n pos) Q E2 s:=by
 refine Ut (wpAny_bindName (iq I hN hi (.inl hk) (show RelV .non .none from rfl) (λs1 I1=>?_) (.inr hk)))
 have A9:i<σ.length:=by rw [I.len]; exact(List.getElem?_eq_some_iff.mp hi).1
 obtain⟨m,hn,hl⟩:=id I1.loc
 obtain⟨u,ru,lk⟩:=hl i n .non hi (List.getElem?_set_self A9) (.inl hk)
 have hv:m n=some u:=by
  rcases lk with⟨_,z⟩ | ⟨z,_⟩
  ·exact z
  ·have hk':X.env.kindOf n=some .local:=hk
   rw [hk']at z
   rcases z with z | z <;> cases z
 have hp:(X.env.scope.kind == .class||(X.env.scope.kind == .module&&X.env.locals != X.env.globals))=false:=by rw [I.ok.kind]; rfl
 unfold unbindBehindTheSuite
 refine wpAny_onRaise (wpAny_unbindName_local hk hn hv hp λh' u' hn' hs=>q _ ?_)
 obtain⟨oL,_,_,hoL,_⟩:=id hn
 have below:∀b o,X.s₀.heap.get? b=some o->b≠X.env.locals:=λb o z=>Nat.ne_of_lt (UH (Uw z) I1.ok.above)
 refine⟨I1.ok,I1.os,I1.bare,⟨λb o z nn hb hx=>(hs.2 b (below b o z)).trans (I1.base.keep b o z nn hb hx),λb o z nn hb hx=>?_,I1.base.free,λb o z hx=>?_,I1.base.tups,I1.base.oG,I1.base.qk⟩,⟨_,hn',λj y v' e1 e2 e3=>?_⟩,λy c z=>?_,I1.free,I1.fM,λp hp'=>?_,λb ob z=>?_,by simpa using I.len⟩
 ·obtain⟨sl,z1⟩:=I1.base.slot b o z nn hb hx
  exact⟨sl,(hs.2 b (below b o z)).trans z1⟩
 ·obtain⟨o',z1⟩:=I1.base.there b o z hx
  exact⟨o',(hs.2 b (below b o z)).trans z1⟩
 ·have hj:j≠i:=λz=>by
   rw [z,List.getElem?_set_self A9]at e2
   cases e2
  rw [List.getElem?_set_ne (Ne.symm hj)]at e2
  obtain⟨u2,r2,So⟩:=hl j y v' e1 (by rw [List.getElem?_set_ne (Ne.symm hj)]; exact e2) e3
  refine⟨u2,r2,?_⟩
  have Sh:y≠n:=λz=>hj (n_ hN e1 (z▸hi))
  rcases So with⟨k,z⟩ | ⟨k,c,z1,z2⟩
  ·exact .inl ⟨k,by simp [Sh,z]⟩
  ·exact .inr ⟨k,c,z1,z2.sameBut hs (I1.Ff y c z1)⟩
 ·obtain⟨w',z1⟩:=I1.cell y c z
  exact⟨w',z1.sameBut hs (I1.Ff y c z)⟩
 ·obtain⟨z1,z2,z3,z4,z5⟩:=I1.pin p hp'
  exact⟨(hs.2 p.1 z3).trans z1,z2,z3,z4,z5⟩
 ·refine(I1.hok b ob z).stay (λc w' hc z1=>(hs.2 c ?_).trans z1) (λ_ z1=>z1) λ_ _ z1=>z1
  rintro rfl
  rcases hc with rfl | hc
  ·rw [I1.free]at z; cases z
  ·rw [I1.free]at hc; cases hc
end
abbrev Cx.bear(X:Cx)(pins:List (Addr×Obj)):Cx:={X with pn:=X.pn++pins}
abbrev Cx.FP(X:Cx)(e:Addr):Cx:={X with A:=X.A.mark (some (.ref e)),calm:=false,xe:=λ_ _=>False}
section
variable{X:Cx}{pins:List (Addr×Obj)}{σ:St}{H:Hp}{s:Shared}
theorem Inv.bear(I:Inv X pins σ H s):Inv (X.bear pins) [] σ H s :=
 ⟨⟨I.ok.mod,I.ok.kind,I.ok.glob,I.ok.blt,I.ok.above,I.ok.inj,I.ok.has,I.ok.cab,I.ok.hd,I.ok.frames,I.ok.IA,I.ok.AM,I.ok.bs,I.ok.A7,I.ok.vv,I.ok.pI,I.ok.kq,I.ok.Er⟩,I.os,I.bare,I.base,I.loc,I.cell,I.free,I.fM,λp hp=>I.pin p (by simpa using hp),I.hok,I.len⟩
theorem Inv.lH(I:Inv (X.bear pins) [] σ H s):Inv X pins σ H s :=
 ⟨⟨I.ok.mod,I.ok.kind,I.ok.glob,I.ok.blt,I.ok.above,I.ok.inj,I.ok.has,I.ok.cab,I.ok.hd,I.ok.frames,I.ok.IA,I.ok.AM,I.ok.bs,I.ok.A7,I.ok.vv,I.ok.pI,I.ok.kq,I.ok.Er⟩,I.os,I.bare,I.base,I.loc,I.cell,I.free,I.fM,λp hp=>I.pin p (by simpa using hp),I.hok,I.len⟩
theorem Inv.FP(I:Inv X pins σ H s)(e:Addr):Inv (X.FP e) pins σ H s :=
 ⟨⟨I.ok.mod,I.ok.kind,I.ok.glob,I.ok.blt,I.ok.above,I.ok.inj,I.ok.has,I.ok.cab,(λz=>absurd (show false=true from z) (by decide)),I.ok.frames,I.ok.IA,I.ok.AM,I.ok.bs,I.ok.A7,I.ok.vv,I.ok.pI,I.ok.kq,I.ok.Er⟩,I.os,I.bare,I.base,I.loc,I.cell,I.free,I.fM,I.pin,I.hok,I.len⟩
theorem Inv.E7{e:Addr}(ok:X.Ok)(I:Inv (X.FP e) pins σ H s):Inv X pins σ H s:=⟨ok,I.os,I.bare,I.base,I.loc,I.cell,I.free,I.fM,I.pin,I.hok,I.len⟩
end
def Ov(K:PySem.W.Frag)(tb:TS)(E:XK)(Cc:Addr)(i:Nat)(ts:TS):TS:=λD σ H=>tb D σ H/\∀(σ':St) (C e:Addr) (od:Option Addr) (H':Hp),σ'.length=σ.length->H' e=some (xO e C od)->E (.ref C) (some e) H'->
 PySem.W.exmOne K (.ref C) (.ref Cc)=some true/\ts {nx:=λdf H2=>D.nx (df.set i none) H2,rt:=D.rt,bk:=λdf H2=>D.bk (df.set i none) H2,ct:=λdf H2=>D.ct (df.set i none) H2} (σ'.set i (some (.ref e))) H'
theorem IZ{X:Cx}{E:XK}{L Cc:Addr}{i:Nat}{n x:Str}{body suite:List Stmt}{b0:Stmt}{np hpos pos:Pos}{tb ts:TS}(tp:Top X L)(hN:X.N.Nodup)(hi:X.N[i]? = some n)(hk:X.env.scope.names.lookup n=some .local)(hg:Gl X x)(hm:X.mg x=some (.ref Cc))
  (hb:∀pins,nN ((X.bear pins).xs E) body tb) (hs:∀e,nN (X.FP e) (b0::suite) ts) (hdb:(x==("__debug__" : Str))=false:=by decide) :
  PS X (.Try body [.ExceptHandler (some (.Name x np)) (some n) (b0::suite) hpos] [] [] pos) (Ov X.K tb E Cc i ts):=by
 intro pins s σ H D I h
 obtain⟨h1,h2⟩:=h
 have back:∀{f:Flow} {s1:Shared},SP ((X.bear pins).xs E) [] D f s1->SP X pins D f s1:=λ{f s1} z=>by
  cases f with
  | next=>obtain⟨σ',H',I',q⟩:=z; exact⟨σ',H',I'.c9.lH,q⟩
  | brk=>obtain⟨σ',H',I',q⟩:=z; exact⟨σ',H',I'.c9.lH,q⟩
  | cont=>obtain⟨σ',H',I',q⟩:=z; exact⟨σ',H',I'.c9.lH,q⟩
  | ret u=>obtain⟨v,σ',H',I',r,q⟩:=z; exact⟨v,σ',H',I'.c9.lH,r,q⟩
 refine wpAny_Try_except (wpAny_mono (hb pins [] s σ H D (I.bear.wish _) h1) (λf s1 z=>?_) λev s1 hx=>?_)
 ·cases f with
  | next=>exact wpAny_execs_nil (back z)
  | brk=>exact back (f:=.brk) z
  | cont=>exact back (f:=.cont) z
  | ret u=>exact back (f:=.ret u) z
 obtain⟨e,C,od,Em,H1,rfl,I1,f1,hE⟩:=hx
 have Rz:Top (X.bear pins) L:=⟨tp.ex,tp.fr⟩
 have hlen:Em.length=σ.length:=by rw [I1.len]; exact I.len.symm
 obtain⟨hm1,hts⟩:=h2 Em C e od H1 hlen f1.at_ hE
 refine nA (X:=X.bear pins) I1.ok.frames Rz tp.fr I1 f1 λs2 T I2 f2=>?_
 refine iy I2 f2 none λs3 I3 f3=>?_
 refine wpAny_handleBy_cons (codeAny_handlers_test ?_) (by intro z; cases z)
 have Qj:Inv (X.FP e) pins Em H1 s3:=I3.lH.FP e
 refine nj (X:=X.FP e) Qj hg hm ?_ hdb
 obtain⟨⟨fl,sl,Kl⟩,_⟩:=I3.hok e _ f3.at_
 have LT:PySem.W.Looks (model X.prog X.w) s3.heap (typeOf (.ref e)) (.ref C):=(PySem.W.Looks.ld Kl).andThen .now
 refine(PySem.W.exm_one Qj.jK LT hm1).here ?_
 refine codeAny_handlers_suite_as ?_
 refine iy I3 f3 none λs5 I5 f5=>?_
 refine iq (X:=X.FP e) (I5.lH.FP e) hN hi (.inl hk) (show RelV (.ref e) (.ref e) from rfl) (λs6 I6=>?_) (.inr hk)
 refine wpAny_mono (hs e pins s6 _ H1 _ I6 hts) (λf s7 z=>?_) λ_ _ z=>False.elim z
 cases f with
 | next=>obtain⟨σ',H',I',q⟩:=z; exact m9 (I'.E7 I.ok) hN hi hk λs8 I8=>⟨_,H',I8,q⟩
 | brk=>obtain⟨σ',H',I',q⟩:=z; exact m9 (I'.E7 I.ok) hN hi hk λs8 I8=>⟨_,H',I8,q⟩
 | cont=>obtain⟨σ',H',I',q⟩:=z; exact m9 (I'.E7 I.ok) hN hi hk λs8 I8=>⟨_,H',I8,q⟩
 | ret u=>obtain⟨v,σ',H',I',r,q⟩:=z; exact m9 (I'.E7 I.ok) hN hi hk λs8 I8=>⟨v,_,H',I8,r,q⟩
end L2
namespace L2
open PySem
end L2
namespace L2
open PySem PySem.Spec PyProof.Rows
abbrev Ku(t:Addr):Array Value:=#[.ref t,.none,.none,.none,.bool false,.none]
abbrev xF(a C:Addr)(od:Option Addr):HO:=.ext λh=>∃t sl,h.get? a=some {cls:=.ref C,dict:=od,data:=.fields (Ku t),slots:=sl}
section
variable{P:Program}{w:World}{H:Hp}{h h':Heap}{a C d:Addr}{od:Option Addr}{fs:List (Str×V)}{o:HO}
theorem Hx{tt:Addr}{sl:Array (Option Value)}(e:h.get? a=some {cls:=.ref C,dict:=od,data:=.fields (Ku tt),slots:=sl}):cu P w H h a (xF a C od) :=
 ⟨⟨tt,sl,e⟩,⟨_,e⟩,λ_ _ ⟨tt,sl,e⟩ k=>⟨tt,sl,k _ e⟩⟩
end
section
variable{X:Cx}{pins:List (Addr×Obj)}{σ:St}{H:Hp}{s:Shared}{a C dx:Addr}{fs:List (Str×V)}{f:Str}{v y:V}{u:Value}{A:Around}{E:Value->Shared->Prop}
theorem JU{Q:Unit->Shared->Prop}(I:Inv X pins σ H s)(e:H a=some (xF a C (some dx)))(ed:H dx=some (xD dx fs))(c:jt X.K C)(n:iH X.K C f)(hz:fs.length<1000)(ry:RelV y u)
  (h:∀s',Inv X pins σ (upd H dx (xD dx (mJ f y fs))) s'->Q () s'):wpAny (model X.prog X.w) A (setAttr (.ref a) f u) Q E s:=by
 obtain⟨⟨tt,sl,ha⟩,_⟩:=I.hok a _ e
 obtain⟨⟨mA,ns,r⟩,_⟩:=I.hok dx _ ed
 obtain⟨od,ho,hl⟩:=lT ns
 have J:PySem.W.InstAt s.heap a {cls:=.ref C,dict:=some dx,data:=.fields (Ku tt),slots:=sl} C (some od):=⟨ha,rfl,rfl,ho⟩
 have wi:=rB r
 have Rq:(fs.map (·.1)).length+1<=sizeLine:=by rw [UC,sizeLine_eq]; omega
 obtain⟨cd,PE,hc,_,hd'⟩:=c.cls
 refine PySem.W.set_plain I.jK J c.sa (rh (s:={s with toks:=s.toks+1}) c I.jK J n λb=>?_)
 refine Ut (Uu (Ut (Ut (wpAny_loadPart ha (Ut (PySem.W.Looks.here (s:={s with toks:=s.toks+1}) (PySem.W.looks_clsIn I.jK hc) ?_))))))
 rw [hd']
 refine Uu (a:=some dx) (Ut (Uu (Ut ?_)))
 refine wpAny_nsSet1 (s:={s with toks:=s.toks+1}) ns λh' hn2 hs2=>?_
 obtain⟨oD,esD,epD,hoD,hdD,hcD⟩:=hn2.count (PySem.Within.cons f u wi)
 refine Ut (wpAny_lookBehind hoD (by rw [hdD]; exact pastItsLine_dict (Uz hcD (by rw [List.length_cons]; exact Nat.le_succ_of_le Rq))) ?_)
 refine Uu (h _ ?_)
 refine I.write (x:=dx) (e:=dx) (by rw [ed]; exact True.intro) (.inl rfl) (λb q hb z=>(hs2.2 b hb).trans z) ⟨_,hoD⟩ (DB hn2 λg=>?_)
 show jE ((mJ f y fs).lookup g) (if g=f then some u else mA g)
 rw [el]
 by_cases q:g=f
 ·rw [if_pos q,if_pos q]; exact ry
 ·rw [if_neg q,if_neg q]; exact r g
theorem II{Q:Unit->Shared->Prop}(I:Inv X pins σ H s)(e:H a=some (xF a C none))(c:jt X.K C)(n:iH X.K C f)(ry:RelV y u)
  (h:∀dx s',H dx=none->Inv X pins σ (upd (upd (upd H dx (xD dx [])) a (xF a C (some dx))) dx (xD dx (mJ f y []))) s'->Q () s'):wpAny (model X.prog X.w) A (setAttr (.ref a) f u) Q E s:=by
 obtain⟨⟨tt,sl,ha⟩,_⟩:=I.hok a _ e
 have J:PySem.W.InstAt s.heap a {cls:=.ref C,dict:=none,data:=.fields (Ku tt),slots:=sl} C none:=⟨ha,rfl,rfl,True.intro⟩
 obtain⟨cd,PE,hc,_,hd'⟩:=c.cls
 refine PySem.W.set_plain I.jK J c.sa (rh (s:={s with toks:=s.toks+1}) c I.jK J n λb=>?_)
 refine Ut (Uu (Ut (Ut (wpAny_loadPart ha (Ut (PySem.W.Looks.here (s:={s with toks:=s.toks+1}) (PySem.W.looks_clsIn I.jK hc) ?_))))))
 rw [hd']
 have na:a≠s.heap.objs.size:=Nat.ne_of_lt (Uw ha)
 have fr:H s.heap.objs.size=none:=I.hok.fresh (Uy _)
 have hgd:(s.heap.push {cls:=.type "dict",data:=.dict #[]}).get? s.heap.objs.size=some {cls:=.type "dict",data:=.dict #[]}:=Ux _ rfl
 have hn0:(s.heap.push {cls:=.type "dict",data:=.dict #[]}).Ns1 s.heap.objs.size (λ_=>none):=Heap.Ns1.of_empty ⟨_,#[],_,hgd,rfl,λe he=>absurd he (by simp),λ_=>rfl⟩
 have I1:Inv X pins σ (upd H s.heap.objs.size (xD s.heap.objs.size [])) {s with heap:=s.heap.push {cls:=.type "dict",data:=.dict #[]},toks:=s.toks+1} :=
  I.laid (λb u q=>Uv _ q) (Uy _) (DB hn0 λg=>True.intro)
 have ha1:(s.heap.push {cls:=.type "dict",data:=.dict #[]}).get? a=some {cls:=.ref C,dict:=none,data:=.fields (Ku tt),slots:=sl}:=Uv _ ha
 refine Ut (wpAny_alloc' ?_)
 refine Ut (wpAny_update' ha1 ?_)
 have ha2:((s.heap.push {cls:=.type "dict",data:=.dict #[]}).update a λo=>{cls:=o.cls,dict:=some s.heap.objs.size,data:=o.data,slots:=o.slots}).get? a=some {cls:=.ref C,dict:=some s.heap.objs.size,data:=.fields (Ku tt),slots:=sl}:=Heap.get?_update_self _ ha1 rfl
 have I2:Inv X pins σ (upd (upd H s.heap.objs.size (xD s.heap.objs.size [])) a (xF a C (some s.heap.objs.size))) {s with heap:=(s.heap.push {cls:=.type "dict",data:=.dict #[]}).update a λo=>{cls:=o.cls,dict:=some s.heap.objs.size,data:=o.data,slots:=o.slots},toks:=s.toks+1} :=
  I1.write (x:=a) (e:=a) (by rw [aI na,e]; exact True.intro) (.inl rfl) (λb q hb z=>(Heap.get?_update_ne _ _ _ _ hb).trans z) ⟨_,ha2⟩ (Hx ha2)
 have hd2:=I2.hok s.heap.objs.size (xD s.heap.objs.size []) (by rw [aI (Ne.symm na)]; exact ag)
 obtain⟨⟨mA,ns,r⟩,_⟩:=hd2
 refine Uu (Ut (Uu (Ut ?_)))
 refine wpAny_nsSet1 (s:={s with heap:=(s.heap.push {cls:=.type "dict",data:=.dict #[]}).update a λo=>{cls:=o.cls,dict:=some s.heap.objs.size,data:=o.data,slots:=o.slots},toks:=s.toks+1}) ns λh' hn2 hs2=>?_
 obtain⟨oD,esD,epD,hoD,hdD,hcD⟩:=hn2.count (PySem.Within.cons f u (rB r))
 refine Ut (wpAny_lookBehind hoD (by rw [hdD]; exact pastItsLine_dict (Uz hcD (by show 1<=sizeLine+1; exact Nat.succ_le_succ (Nat.zero_le _)))) ?_)
 refine Uu (h s.heap.objs.size _ fr ?_)
 refine I2.write (x:=s.heap.objs.size) (e:=s.heap.objs.size) (by rw [aI (Ne.symm na),ag]; exact True.intro) (.inl rfl) (λb q hb z=>(hs2.2 b hb).trans z) ⟨_,hoD⟩ (DB hn2 λg=>?_)
 show jE ((mJ f y []).lookup g) (if g=f then some u else mA g)
 rw [el]
 by_cases q:g=f
 ·rw [if_pos q,if_pos q]; exact ry
 ·rw [if_neg q,if_neg q]; exact r g
end
section
variable{X:Cx}{CX:nz}{k:Nat}{f C:Addr}{fd:FuncData}{ps:List Str}{sp:Sp}{E:XK}{x:Str}{p pos:Pos}{e:Expr}{es:List Expr}{t:TA}
theorem Inv.KZ{pins:List (Addr×Obj)}{σ:St}{H:Hp}{s:Shared}{h':Heap}{a:Addr}{rest:List Value}(I:Inv X pins σ H s)(m:Heap.MadeExcOf s.heap h' a (.ref C) rest):H a=none/\Inv X pins σ (upd H a (xF a C none)) {s with heap:=h'}:=by
 obtain⟨t,et,_,_⟩:=m.there
 have hn:=I.hok.none_of m.new
 exact⟨hn,I.un (t':=s.toks) (Un.laidN m.keeps m.new hn) (I.hok.laidN m.keeps m.new (Hx et))⟩
def Mw(C:Addr)(sp:Sp)(E:XK)(t:TA):TE:=λσ H Q=>t σ H λvs H1=>vs.length<=sizeLine/\∀a,H1 a=none->sp (.ref a::vs) (upd H1 a (xF a C none)) (λv H2=>v=.non/\Q (.ref a) H2) E
theorem E1(hx:lV X.K C AJ "ValueError.__new__" (some (.ref f))=true)(hk:PySem.W.keepIn X.K (.ref C)=true)(hf:PySem.W.isFn X.K (.ref f)=true)(F:e9 X.prog X.w X.K X.mg X.base CX k f fd ps sp)(hr:eJ (k+1) X.A)(hg:Gl X x)(hm:X.mg x=some (.ref C))
  (hb:Binds X.K fd ps []) (hpx:Passes CX X E) (ha:PA X (e::es) t)
  (hdb:(x==("__debug__" : Str))=false:=by decide) (he:starEach (e::es) X.env=(false,eval e X.env)::starEach es X.env:=by rfl) (hpl:(backTo pos (starEach es X.env)).any (·.1)=false:=by rfl) :
  PE X (.Call (.Name x p) (e::es) [] pos) (Mw C sp E t):=by
 intro pins s σ H Q I h
 refine wpAny_Call_Name_kw (nj I hg hm ?_ hdb)
 refine PySem.W.callWith_K (h₀:=X.base) I.ok.mod.KC hk (b_ (ha pos pins s σ H _ I h) λus s1 ⟨vs,H1,I1,r,hz,q⟩=>⟨I1.jK,?_⟩) he hpl
 obtain⟨bm,N,nm,q',bs,hd,sn,sub,ab,col,dd,k0,k1,k2,k3,k5,mN,hC,hN,hni,T⟩:=rl I1.jK hx
 have hfn:∃oI,s1.heap.get? f=some oI/\oI.cls=.type "function":=by
  have z:PySem.W.typeIn X.K (.ref f)=some (.type "function"):=beq_iff_eq.mp hf
  obtain⟨o,ho,hc⟩:=Option.map_eq_some_iff.mp (show(X.K.lookup f).map (·.cls)=some _ from z)
  exact⟨o,I1.jK _ _ ho,hc⟩
 obtain⟨oI,hfI,hfc⟩:=hfn
 obtain⟨hp,gs,dr,tk,os⟩:=s1
 refine ou PySem.F.excBase_ValueError T hC hN hni hfI hfc (λh' a m=>?_) (by show us.length<=sizeLine; rw [←r.length]; exact hz)
 obtain⟨hn,I2⟩:=I1.KZ m
 have hq:=q a hn
 have r2:Vals (V.ref a::vs) (Value.ref a::us):=.cons rfl r
 have hl:(Value.ref a::us).length=ps.length:=by rw [←r2.length]; exact F.len _ _ _ _ hq
 have hl':((Value.ref a::us)++([]:List Value)).length=ps.length:=by rw [List.append_nil]; exact hl
 have hb':=hb _ (Value.ref a::us) I2.jK hl'
 rw [List.append_nil]at hb'
 refine wpAny_call (codeAny_mono (F.run _ X.stack _ _ ⟨Value.ref a::us,[]⟩ (Value.ref a::us) _ _ E (hr.make C us []) (I2.env0.make C us []) hb' r2 hq) λr s' hq'=>?_)
 cases r with
 | error ee=>exact hpx pins σ _ _ ee s' I2 hq'
 | ok fl =>
  cases fl with
  | ret u =>
   obtain⟨v,H',I3,rv,ev,q3⟩:=I2.after hq'
   subst ev
   exact⟨rv,⟨V.ref a,H',I3,rfl,q3⟩⟩
  | next=>exact False.elim hq'
  | brk=>exact False.elim hq'
  | cont=>exact False.elim hq'
end
section
variable{X:Cx}{o value:Expr}{ta tv:TE}{f:Str}{pos pos':Pos}
def IY(K:PySem.W.Frag)(ta tv:TE)(f:Str):TS:=λD σ H=>tv σ H λy H1=>ta σ H1 λx H2=>∃a C,x=.ref a/\jt K C/\iH K C f/\
 ((H2 a=some (xF a C none)/\∀dx,H2 dx=none->D.nx σ (upd (upd (upd H2 dx (xD dx [])) a (xF a C (some dx))) dx (xD dx (mJ f y []))))\/
  ∃dx fs,H2 a=some (xF a C (some dx))/\H2 dx=some (xD dx fs)/\fs.length<1000/\D.nx σ (upd H2 dx (xD dx (mJ f y fs))))
theorem vb(ha:PE X o ta)(hv:PE X value tv)(hs:swapsWith value (some (.Attribute o f pos')) pos.line X.env=pure false):PS X (.Assign [.Attribute o f pos'] value pos) (IY X.K ta tv f):=by
 intro pins s σ H D I h
 refine plainObj_wpAny_Assign_Attribute (b_ (hv pins s σ H _ I h) λu s1 ⟨y,H1,I1,ry,q⟩=>b_ (ha pins s1 σ H1 _ I1 q) λov s2 ⟨x,H2,I2,rx,a,C,ex,c,n,q2⟩=>?_) hs
 subst ex
 obtain rfl:ov=Value.ref a:=rx
 rcases q2 with⟨ea,q3⟩ | ⟨dx,fs,ea,ed,l,q3⟩
 ·exact II I2 ea c n ry λdx s3 hn I3=>⟨σ,_,I3,q3 dx hn⟩
 ·exact JU I2 ea ed c n l ry λs3 I3=>⟨σ,_,I3,q3⟩
end
end L2
namespace PySem
section
variable{M:Model}{A:Around}{E:Value->Shared->Prop}{env:Env}
variable{nm q:Str}{C N:Addr}{bs bm:List Value}{hdct:Bool}{sn:List Str}{sub:List Value}{ab:Bool}{col:Option Bool}{dd:Option Addr}{k0 k1 k2 k3 k5:Option Value}{newId:String}
theorem vy{s:Shared}{x:Sem Value}{Q:Flow->Shared->Prop}(hbase:bm.contains (.type "BaseException")=true)(hh:A.handled=none)
  (h:wpAny M A x (λv s₁=>∃e t od sl,v=.ref e/\s₁.heap.get? C=some (excClassObj nm q C N bs bm hdct sn sub ab col dd k0 k1 k2 k3 k5 newId)/\
   s₁.heap.get? e=some {cls:=.ref C,dict:=od,data:=.fields #[.ref t,.none,.none,.none,.bool false,.none],slots:=sl}/\E (.ref e) s₁) E s) :
  wpAny M A (raiseStmt env (some x) none) Q E s:=by
 have hcB:(Value.ref C::bm).contains (.type "BaseException")=true:=by rw [List.contains_cons,hbase,Bool.or_true]
 unfold raiseStmt
 refine Ut (wpAny_mono h (λv s₁ h₁=>?_) λ_ _ x=>x)
 obtain⟨e,t,od,sl,rfl,hC,he,hE⟩:=h₁
 obtain⟨hp,g,d,tk,os⟩:=s₁
 repeat (first | with_reducible refine wpAny_loadPart_at he ?_ | with_reducible refine wpAny_loadPart_at hC ?_ | (with_reducible refine wpAny_isSubtype_exc hC ?_; rw [hcB]) | wp_step)
 exact wpAny_raiseNew_none hh hE
end
end PySem
namespace L2
open PySem PySem.Spec PyProof.Rows
def EY(C:Addr)(E:XK)(te:TE):TS:=λ_ σ H=>te σ H λv H1=>∃a od,v=.ref a/\H1 a=some (xF a C od)/\E (.ref C) (some a) (upd H1 a (xO a C od))
theorem zJ{X:Cx}{E:XK}{C:Addr}{pos:Pos}{e:Expr}{te:TE}{ini:Option Value}(hc:X.calm=true)(hx:lV X.K C AJ "ValueError.__new__" ini=true)(he:PE (X.xs E) e te) :
  PS (X.xs E) (.Raise (some e) none pos) (EY C E te):=by
 intro pins s σ H D I h
 obtain⟨bm,N,nm,q',bs,hd,sn,sub,ab,col,dd,k0,k1,k2,k3,k5,mN,hC,hN,hni,T⟩:=rl I.ok.mod.KC hx
 rw [arm_exec_Raise]
 show wpAny _ _ (do standAt pos; raiseStmt X.env (some (do let v←eval e X.env; standAt pos; pure v)) none) _ _ s
 refine Ut (wpAny_standAt (vy (C:=C) (nm:=nm) (q:=q') (N:=N) (bs:=bs) (bm:=bm) (hdct:=hd) (sn:=sn) (sub:=sub) (ab:=ab) (col:=col) (dd:=dd) (k0:=k0) (k1:=k1) (k2:=k2) (k3:=k3) (k5:=k5) (newId:="ValueError.__new__") (T.hasType PySem.F.excBase_ValueError.hasBase) (I.ok.hd hc) ?_))
 refine Ut (b_ (he pins s σ H _ I h) λu s1 ⟨v,H1,I1,rv,a,od,ev,ea,q⟩=>Ut (wpAny_standAt (Uu ?_)))
 subst ev
 cases rv
 obtain⟨⟨tt,sl,ha⟩,_⟩:=I1.hok a _ ea
 refine⟨a,tt,od,sl,rfl,I1.bk _ _ hC,ha,?_⟩
 have I2:=(I1.iF (pins':=[]) λp hp=>absurd hp (by simp)).c9
 have I3:Inv X [] σ (upd H1 a (xO a C od)) s1:=by
  have:=I2.write (x:=a) (e:=a) (h':=s1.heap) (t':=s1.toks) (o:=xO a C od) (by rw [ea]; exact True.intro) (.inl rfl) (λb q hb z=>z) ⟨_,ha⟩ (HD ha)
  exact this
 exact⟨a,C,od,σ,upd H1 a (xO a C od),rfl,I3,⟨ag,_,_,ha,.inl rfl⟩,q⟩
end L2
namespace My
open PySem L2
structure Fl where
 o:Bool
 j:Bool
 f:Bool
 w:Bool
 l:Bool
def pO(s:Str):Bool:=!cC s
def pJ(s:Str):Bool:=decide (s="walk")||decide (s="both")||decide (s="meet")
def pF(s:Str):Bool:=decide (s="first")
def pW(s:Str):Bool:=decide (s="walk")
def flagsOf(ps:List Str)(l:Bool):Fl:=⟨ps.any pO,ps.any pJ,ps.any pF,ps.any pW,l⟩
def Kn.fl(k:Kn):Fl:=flagsOf k.ps k.lo
def looseW:Wk->Hd->Fl->Bool
 | .one (.keep c _),h,_=>decide (bt h c="t")
 | .one (.first n),_,f=>decide (¬n<=0)&&f.j
 | .meet ..,_,f=>f.w||f.f
 | _,_,_=>false
def mD:Wk->Fl->Bool
 | .one (.walk _ _),f=>!f.o
 | .meet _ _ p q,_=>(p++q).all λw=>cC w.nm
 | _,_=>true
def i7(x:Wk)(f:Fl)(hs:List Hd):Option Str :=
 if dc x hs=true then
  if bg x hs=true then
   if(bH x hs).length<=6 then
    if mD x f=true then
     if(jc x&&f.l)=true then some "loose" else none
    else some "rows"
   else some "wide"
  else some "sort"
 else some "column"
theorem any_eq(ps:List Str)(s:Str):ps.any (λt=>decide (t=s))=kK ps s:=by
 apply Bool.eq_iff_iff.mpr
 rw [EU,List.any_eq_true]
 constructor
 ·rintro⟨t,h,e⟩; rw [←of_decide_eq_true e]; exact h
 ·intro h; exact⟨s,h,UB rfl⟩
theorem Cw(ps:List Str)(p q:Str->Bool):ps.any (λs=>p s||q s)=(ps.any p||ps.any q):=by
 induction ps with
 | nil=>rfl
 | cons a ps ih=>rw [List.any_cons,List.any_cons,List.any_cons,ih]; cases p a <;> cases q a <;> simp
theorem JK(ps:List Str):ps.any pJ=(kK ps "walk"||kK ps "both"||kK ps "meet"):=by
 unfold pJ
 rw [Cw ps (λs=>decide (s="walk")||decide (s="both")) (λs=>decide (s="meet")),Cw,any_eq,any_eq,any_eq]
theorem Bq(x:Wk)(k:Kn):fb x k=looseW x k.hd k.fl:=by
 have e1:=JK k.ps
 have e2:k.ps.any pF=kK k.ps "first":=any_eq _ _
 have e3:k.ps.any pW=kK k.ps "walk":=any_eq _ _
 cases x with
 | one x =>
  cases x <;> try rfl
  show(decide _&&(kK k.ps "walk"||kK k.ps "both"||kK k.ps "meet"))=(decide _&&k.ps.any pJ)
  rw [e1]
 | both p q=>rfl
 | meet c d p q =>
  show(kK k.ps "walk"||kK k.ps "first")=(k.ps.any pW||k.ps.any pF)
  rw [e2,e3]
theorem Gu(x:Wk)(k:Kn):jI x k.ps=mD x k.fl:=by
 cases x with
 | one x =>
  cases x <;> try rfl
  show k.ps.all cC = !(k.ps.any pO)
  rw [List.not_any_eq_all_not]
  congr 1
  funext s
  show _ = !(!cC s)
  rw [Bool.not_not]
 | both p q=>rfl
 | meet c d p q=>rfl
theorem J7(x:Wk)(k:Kn)(hs:List Hd):tK x k hs=i7 x k.fl hs:=by
 unfold tK i7
 rw [Gu]
 rfl
def Eo(x:Wk)(h:Hd)(f:Fl)(fs:List Fl):Fl:=⟨fs.any (λg=>g.o)||pO (au x),fs.any (λg=>g.j)||pJ (au x),fs.any (λg=>g.f)||pF (au x),fs.any (λg=>g.w)||pW (au x),looseW x h f||fs.any λg=>g.l⟩
theorem EA{a b:List Str}{p:Str->Bool}(h:∀s,s∈a↔s∈b):a.any p=b.any p:=by
 apply Bool.eq_iff_iff.mpr
 rw [List.any_eq_true,List.any_eq_true]
 constructor
 ·rintro⟨t,m,e⟩; exact⟨t,(h t).mp m,e⟩
 ·rintro⟨t,m,e⟩; exact⟨t,(h t).mpr m,e⟩
theorem r6(ks:List Kn)(x:Wk)(p:Str->Bool){ps:List Str}(h:zM ps (ks.flatMap (λk=>k.ps)++[au x])):ps.any p=((ks.any λk=>k.ps.any p)||p (au x)):=by
 rw [EA h.2,List.any_append,List.any_flatMap]
 simp
theorem L_{x:Wk}{k k':Kn}{ks:List Kn}(h:zM k'.ps (ks.flatMap (λk=>k.ps)++[au x]))(hl:k'.lo=(fb x k||ks.any λk=>k.lo)):k'.fl=Eo x k.hd k.fl (ks.map Kn.fl):=by
 unfold Kn.fl flagsOf Eo
 rw [r6 ks x pO h,r6 ks x pJ h,r6 ks x pF h,r6 ks x pW h,hl,Bq,List.any_map,List.any_map,List.any_map,List.any_map,List.any_map]
 rfl
inductive Res where
 | ok (h:Hd) (f:Fl)
 | no (p:List Int) (s:Str)
def iu(x:Wk)(h:Hd)(f:Fl)(pl:List Int)(es:List (Hd×Fl)):Res:=match i7 x f (es.map λe=>e.1)with
 | some s=>.no pl s
 | none=>.ok (bH x (es.map λe=>e.1)) (Eo x h f (es.map λe=>e.2))
def c8(r:Res)(g:Hd->Fl->Res):Res:=match r with
 | .ok h f=>g h f
 | .no a s=>.no a s
def putL(step:Hd->Fl->List Int->Wk->Res)(pl:List Int):Nat->Hd->Fl->List Wk->Res
 | _,h,f,[]=>.ok h f
 | i,h,f,x::ws=>c8 (step h f (pl++[(i:Int)]) x) λh' f'=>putL step pl (i+1) h' f' ws
def Bv(step:Hd->Fl->List Int->Wk->Res)(x:Wk)(h:Hd)(f:Fl)(pl:List Int):List (List Wk)->Nat->List (Hd×Fl)->Res
 | [],_,es=>iu x h f pl es
 | p::ps,j,es=>c8 (putL step (pl++[(j:Int)]) 0 h f p) λh' f'=>Bv step x h f pl ps (j+1) (es++[(h',f')])
def cn:Nat->Hd->Fl->List Int->Wk->Res
 | 0,h,f,pl,x=>iu x h f pl [(h,f)]
 | n+1,h,f,pl,x=>match x with
  | .one _=>iu x h f pl [(h,f)]
  | _=>Bv (cn n) x h f pl (dJ x) 0 []
def fo:List Str:=["keep","same","cut","turn","must","walk","sort","apart","count","sum","number","first","both","meet","first 0"]
theorem Bs(x:Wk):au x∈fo:=by
 match x with
 | .one (.first n) =>
  show(if n<=0 then("first 0" : Str)else "first")∈fo
  split <;> simp [fo]
 | .one (.keep ..)=>simp [fo,au,Wk.nm,W1.nm]
 | .one (.same ..)=>simp [fo,au,Wk.nm,W1.nm]
 | .one (.cut ..)=>simp [fo,au,Wk.nm,W1.nm]
 | .one (.turn ..)=>simp [fo,au,Wk.nm,W1.nm]
 | .one (.must ..)=>simp [fo,au,Wk.nm,W1.nm]
 | .one (.walk ..)=>simp [fo,au,Wk.nm,W1.nm]
 | .one (.sort ..)=>simp [fo,au,Wk.nm,W1.nm]
 | .one .apart=>simp [fo,au,Wk.nm,W1.nm]
 | .one (.count ..)=>simp [fo,au,Wk.nm,W1.nm]
 | .one (.sum ..)=>simp [fo,au,Wk.nm,W1.nm]
 | .one .number=>simp [fo,au,Wk.nm,W1.nm]
 | .both ..=>simp [fo,au,Wk.nm]
 | .meet ..=>simp [fo,au,Wk.nm]
theorem sub_len:∀{l m:List Str},l.Nodup->(∀s∈l,s∈m)->l.length<=m.length
 | [],m,_,_=>Nat.zero_le _
 | a::l,m,hn,hs=>by
  rw [List.nodup_cons]at hn
  have ha:a∈m:=hs a (by simp)
  have:=sub_len (l:=l) (m:=m.erase a) hn.2 λs h=>by
   have ne:s≠a:=by rintro rfl; exact hn.1 h
   exact(List.mem_erase_of_ne ne).mpr (hs s (by simp [h]))
  rw [List.length_erase_of_mem ha]at this
  have hp:0<m.length:=List.length_pos_of_mem ha
  rw [List.length_cons]
  omega
theorem m7{x:Str}:¬v3 x x:=λh=>List.lt_irrefl _ h
structure mR(k:Kn):Prop where
 hd:k.hd.length<=6
 nd:k.ps.Nodup
 sub:∀s∈k.ps,s∈fo
theorem mR.few{k:Kn}(h:mR k):k.ps.length<=15:=sub_len h.nd h.sub
theorem mR.next{k':Kn}{ks:List Kn}{x:Wk}(hk:∀k∈ks,mR k)(hh:k'.hd.length<=6)(h:zM k'.ps (ks.flatMap (λk=>k.ps)++[au x])):mR k':=by
 refine⟨hh,h.1.imp λ{a b} e z=>by subst z; exact m7 e,λs hs=>?_⟩
 rcases List.mem_append.mp ((h.2 s).mp hs)with z | z
 ·obtain⟨k,h1,h2⟩:=List.mem_flatMap.mp z
  exact(hk k h1).sub s h2
 ·rw [List.mem_singleton.mp z]
  exact Bs x
def inClass(s:Stmt)(i:Nat):Stmt:=match s with
 | .ClassDef _ _ _ body _ _ _ _ _ _ _=>body.getD i (.Pass ⟨0,0,0,0⟩)
 | _=>.Pass ⟨0,0,0,0⟩
abbrev ma:Stmt:=inClass (top 5) 0
theorem Gg:az ["self","place","why"] ["self","place","why"] (ar ma):=⟨rfl,rfl,rfl,by decide +kernel,rfl,by decide +kernel,by decide +kernel⟩
abbrev Ar(pl wy:V):List (Str×V):=mJ "why" wy (mJ "place" pl [])
def yR(K:PySem.W.Frag)(C:Addr):Sp:=λvs H Q _=>∃a v1 v2,vs=[.ref a,v1,v2]/\H a=some (xF a C none)/\jt K C/\iH K C "place"/\iH K C "why"/\
 ∀dx H',H dx=none->(∀b o,b≠a->H b=some o->H' b=some o)->H' a=some (xF a C (some dx))->H' dx=some (xD dx (Ar v1 v2))->Q .non H'
structure Ji(K:PySem.W.Frag)(mg:Str->Option Value)(C fI:Addr):Prop where
 xc:jt K C
 np:iH K C "place"
 nr:iH K C "why"
 Qn:lV K C AJ "ValueError.__new__" (some (.ref fI))=true
 kp:PySem.W.keepIn K (.ref C)=true
 fn:PySem.W.isFn K (.ref fI)=true
 mf:mg "NoPipe"=some (.ref C)
section
variable{P:Program}{w:World}{K:PySem.W.Frag}{mg:Str->Option Value}{base:Heap}{f C:Addr}{fd:FuncData}
theorem DR(F:A2 K "__init__" "NoPipe.__init__" ma f fd):e9 P w K mg base bc 1 f fd ["self","place","why"] (yR K C):=by
 refine F.ok Gg (λvs H Q E h=>?_) (λcdv A outer s H vs Q E hr h=>?_)
 ·obtain⟨a,v1,v2,rfl,_⟩:=h
  rfl
 obtain⟨a,v1,v2,rfl,ha,c,n1,n2,q⟩:=h
 refine⟨_,aq (vb (pv 0) (pv 1) rfl) (bK (vb (pv 0) (pv 2) rfl)),?_⟩
 refine⟨_,rfl,_,rfl,a,C,rfl,c,n1,.inl ⟨ha,λdx hdx=>?_⟩⟩
 have nd:a≠dx:=aU ha hdx
 refine⟨_,rfl,_,rfl,a,C,rfl,c,n2,.inr ⟨dx,_,by rw [aI nd]; exact ag,ag,by show 1<1000; decide,?_⟩⟩
 refine q dx _ hdx (λb o nb e=>?_) (by rw [aI nd,aI nd]; exact ag) ag
 have Pr:b≠dx:=aU e hdx
 rw [aI Pr,aI Pr,aI nb,aI Pr]
 exact e
end
end My
namespace L2
open PySem PySem.Spec PyProof.Rows
section
variable{X:Cx}{pins:List (Addr×Obj)}{σ:List (Option V)}{H H':Hp}{s:Shared}{h':Heap}
theorem Inv.qX{t':Nat}{fp:List Addr}{T:Addr}{xs:List V}(I:Inv X pins σ H s)(hf:∀b∈fp,dB X pins H b)(k:∀b o,b∉fp->s.heap.get? b=some o->h'.get? b=some o)(hT:s.heap.objs.size<=T)
  (new:cu X.prog X.w (upd H T (.tup xs)) h' T (.tup xs)):Inv X pins σ (upd H T (.tup xs)) {s with heap:=h',toks:=t'}:=by
 have nT:H T=none:=I.hok.fresh hT
 have Hr:∀b u,H b=some u->b∉fp:=λb u e z=>by rw [(hf b z).1]at e; cases e
 have Tr:∀b o,s.heap.get? b=some o->b≠T:=λb o e z=>by
  have:=Uw e
  rw [z]at this
  exact absurd (UH this hT) (Nat.lt_irrefl _)
 refine I.step (g':=s.gens) (d':=s.drawn) (ch:=fp) (λb hb=>?_) (λb o _ _ hc e _=>k b o hc e) (λb o _ _ hc e _=>⟨o.slots,k b o hc e⟩) (λb o hc e n=>by rw [aI (Tr b o e)]; exact n)
  (λb o hc e=>⟨o,k b o hc e⟩) (λb ys e=>by rw [aI (aU e nT)]; exact e) (λb o u e=>by rw [aI (aU e nT)]; exact e) (λb ps e=>⟨#[],by rw [aI (aU e nT),e]; simp⟩) (λm hm=>?_) (λb u e=>?_) I.bare
 ·obtain⟨f0,f1,f2,f3,f4,f5⟩:=hf b hb
  exact⟨f3,f1,f4,f5⟩
 ·obtain⟨o,es,ep,ho,r⟩:=hm
  exact⟨o,es,ep,k _ o (λz=>(hf _ z).2.1 rfl) ho,r⟩
 ·by_cases hb:b=T
  ·subst hb; rw [ag]at e; cases e; exact new
  ·rw [aI hb]at e
   refine(I.hok b u e).stay (λc v hc q=>k c v ?_ q) (λc q=>by rw [aI (aU q nT)]; exact q) λc ys q=>by rw [aI (aU q nT)]; exact q
   rcases hc with z | z
   ·rw [z]; exact Hr b u e
   ·exact Hr c _ z
theorem Inv.n9{t':Nat}{fp:List Addr}(I:Inv X pins σ H s)(hf:∀b∈fp,dB X pins H b)(k:∀b o,b∉fp->s.heap.get? b=some o->h'.get? b=some o):Inv X pins σ H {s with heap:=h',toks:=t'}:=by
 have Hr:∀b u,H b=some u->b∉fp:=λb u e z=>by rw [(hf b z).1]at e; cases e
 refine I.step (g':=s.gens) (d':=s.drawn) (ch:=fp) (λb hb=>?_) (λb o _ _ hc e _=>k b o hc e) (λb o _ _ hc e _=>⟨o.slots,k b o hc e⟩) (λb o hc e n=>n)
  (λb o hc e=>⟨o,k b o hc e⟩) (λb ys e=>e) (λb o u e=>e) (λb ps e=>⟨#[],by rw [e]; simp⟩) (λm hm=>?_) (λb u e=>?_) I.bare
 ·obtain⟨f0,f1,f2,f3,f4,f5⟩:=hf b hb
  exact⟨f3,f1,f4,f5⟩
 ·obtain⟨o,es,ep,ho,r⟩:=hm
  exact⟨o,es,ep,k _ o (λz=>(hf _ z).2.1 rfl) ho,r⟩
 ·refine(I.hok b u e).stay (λc v hc q=>k c v ?_ q) (λ_ q=>q) λ_ _ q=>q
  rcases hc with z | z
  ·rw [z]; exact Hr b u e
  ·exact Hr c _ z
end
section
variable{X:Cx}
end
section
variable{prog:Program}{w:World}{A:Around}{E:Value->Shared->Prop}{s:Shared}
theorem j6{it t:Addr}{i:Nat}{items:Array Value}{x:Value}{Q:Value->Shared->Prop}(hit:s.heap.IsTupleIter it t i)(ht:s.heap.IsTuple t items)(hx:items[i]? = some x)
  (hQ:∀h',h'.IsTupleIter it t (i+1)->Heap.SameBut it s.heap h'->Q x {s with heap:=h'}):wpAny (model prog w) A (Builtin.SmallTypes.nextOf (.ref it)) Q E s:=by
 obtain⟨o,ho,hc,hd⟩:=id hit
 obtain⟨ol,hol,_,nl,hdl⟩:=ht
 unfold Builtin.SmallTypes.nextOf
 refine Ut (wpAny_callSpecial?_slot (name:=Str.ofString "__next__") hit.typeIs F.slot_tuple_iterator_next (wpAny_call_entry F.slot_tuple_iterator_next hit.typeIs F.entry_tuple_iterator_next ?_ (F.args_tuple_iterator_next_1 _)))
 show wpAny _ _ (field (.ref it) 0 >>= _) _ _ s
 refine Ut (wpAny_field ho hd (x:=.ref t) rfl ?_)
 show wpAny _ _ (if(Value.ref t==Value.none)=true then _ else _) _ _ s
 rw [if_neg (show¬((Value.ref t==Value.none)=true) from UM)]
 show wpAny _ _ (field (.ref it) 1 >>= _) _ _ s
 refine Ut (wpAny_field ho hd (x:=.int i 0) rfl ?_)
 show wpAny _ _ (seqItems? (.ref t) >>= _) _ _ s
 refine Ut (wpAny_seqItems hol hdl ?_)
 simp only [Int.toNat_natCast,hx]
 refine Ut (wpAny_setField ho hd (by simp) (Uu ⟨x,rfl,Uu (hQ _ ?_ (Heap.SameBut.update ..))⟩))
 exact⟨_,Heap.get?_update_self _ ho (Obj.isFreed_of_fields (Obj.data_mapFields hd _)),(Obj.cls_mapFields ..).trans hc,by rw [Obj.data_mapFields hd]; simp [rawInt]⟩
end
section
variable{X:Cx}
end
section
variable{prog:Program}{w:World}{A:Around}{E:Value->Shared->Prop}{s:Shared}
theorem gc{it t:Addr}{i:Nat}{items:Array Value}{Q:Value->Shared->Prop}(hh:A.handled=none)(hit:s.heap.IsTupleIter it t i)(ht:s.heap.IsTuple t items)(hx:items[i]? = none)
  (hE:∀h' e,Heap.ExtBut it s.heap h'->(∃o,h'.get? e=some o/\o.cls=.type "StopIteration")->E (.ref e) {s with heap:=h'}):wpAny (model prog w) A (Builtin.SmallTypes.nextOf (.ref it)) Q E s:=by
 obtain⟨o,ho,hc,hd⟩:=id hit
 obtain⟨ol,hol,_,nl,hdl⟩:=ht
 unfold Builtin.SmallTypes.nextOf
 refine Ut (wpAny_callSpecial?_slot (name:=Str.ofString "__next__") hit.typeIs F.slot_tuple_iterator_next (wpAny_call_entry F.slot_tuple_iterator_next hit.typeIs F.entry_tuple_iterator_next ?_ (F.args_tuple_iterator_next_1 _)))
 show wpAny _ _ (field (.ref it) 0 >>= _) _ _ s
 refine Ut (wpAny_field ho hd (x:=.ref t) rfl ?_)
 show wpAny _ _ (if(Value.ref t==Value.none)=true then _ else _) _ _ s
 rw [if_neg (show¬((Value.ref t==Value.none)=true) from UM)]
 show wpAny _ _ (field (.ref it) 1 >>= _) _ _ s
 refine Ut (wpAny_field ho hd (x:=.int i 0) rfl ?_)
 show wpAny _ _ (seqItems? (.ref t) >>= _) _ _ s
 refine Ut (wpAny_seqItems hol hdl ?_)
 simp only [Int.toNat_natCast,hx]
 refine Ut (wpAny_rule (Ut (wpAny_setField ho hd (by simp) ?_)))
 show wpAny _ _ (newExc (.type "StopIteration") [] >>= _) _ _ _
 refine Ut ?_
 simp only [newExc,newTuple]
 refine Ut (wpAny_newObj_type ?_ (by size_fits))
 refine Ut (m:=firstArgMember _ _) (wpAny_of_eq (a:=Value.none) (by first | rfl | (simp only [firstArgMember]; rfl)) ?_)
 refine wpAny_newObj_type ?_ (by size_fits)
 simp only [raiseNew]
 refine Ut (wpAny_handled ?_)
 first | rw [show A.in1.handled=none from hh] | rw [hh]
 refine Ut (Uu (wpAny_throw ?_))
 exact hE _ _ (((Heap.SameBut.update ..).extBut.push _).push _) ⟨_,Ux _ rfl,rfl⟩
theorem rX{h h':Heap}{a b:Addr}{xs:Array Value}(x:h.IsTuple a xs)(hs:Heap.ExtBut b h h')(hab:a≠b):h'.IsTuple a xs:=let ⟨o,ho,r⟩:=x; ⟨o,hs a o hab ho,r⟩
theorem zX(hh:A.handled=none)(it t:Addr)(hne:t≠it)(items:Array Value):Draws prog w A it [it,t] items.size (λi v=>items[i]? = some v) (λi h=>h.IsTupleIter it t i/\h.IsTuple t items) where
 live:=λ_ _ st=>let ⟨o,ho,_⟩:=st.1; ⟨o,ho⟩
 frame:=λ_ _ _ st hk=>⟨st.1.at λo e=>hk it (by simp) o e,let ⟨o,ho,r⟩:=st.2; ⟨o,hk t (by simp) o ho,r⟩⟩
 item:=λi s Q E hi st hQ=>by
  refine j6 st.1 st.2 (x:=items[i]) (by simp [hi]) λh' hit' hs'=>?_
  exact hQ _ h' s.toks (by simp [hi]) ⟨hit',rX st.2 hs'.extBut hne⟩ hs'
 done:=λs Q E st hE=>gc hh st.1 st.2 (by simp) hE
abbrev M_(h:Heap)(t:Addr):Heap:=h.push {cls:=.type "tuple_iterator",data:=.fields #[.ref t,.int 0 0]}
abbrev Qk(h:Heap)(t:Addr):Heap:=(M_ h t).push {cls:=.type "enumerate",data:=.fields #[.none,.bool false,.ref h.objs.size,rawInt 0,.none,.none]}
theorem vR(t:Addr)(items:Array Value)(n:Nat)(dct:Option Addr)(sl:Array (Option Value)) :
  Meets (Builtin.«enumerate.__new__» ⟨[.type "enumerate",.ref t],[]⟩) (λ_ R s=>s.heap.get? t=some {cls:=.type "tuple",dict:=dct,data:=.seq items n,slots:=sl}/\R (.ok (.ret (.ref (M_ s.heap t).objs.size))) {s with heap:=Qk s.heap t}) :=
 .of_wp λprog w A R s h=>by
  obtain⟨hp,g,d,tk,os⟩:=s; obtain⟨hl,h⟩:=h
  have hsub:=sub_enumerate
  have hL:Heap.IsTuple (Shared.heap ⟨hp,g,d,tk,os⟩) t items:=⟨_,hl,rfl,n,rfl⟩
  wp_walk using AutoSeq1.wpAny_loadPart' hl
  refine wpAny_stack_any λst=>Uu ?_
  split
  ·rename_i c _ _ _ _ _
   cases(c==Value.type "enumerate")
   ·wp_walk using AutoSeq1.wpAny_loadPart' hl,wpAny_pyIter_tuple hL
    exact⟨_,rfl,h⟩
   ·wp_walk using AutoSeq1.wpAny_loadPart' hl,wpAny_pyIter_tuple hL
    exact⟨_,rfl,h⟩
  ·wp_walk using AutoSeq1.wpAny_loadPart' hl,wpAny_pyIter_tuple hL
   exact⟨_,rfl,h⟩
theorem ym{t:Addr}{items:Array Value}{Q:Value->Shared->Prop}(hL:s.heap.IsTuple t items)
  (h:∀h',IsEnum h' (s.heap.objs.size+1) s.heap.objs.size 0 .none->h'.IsTupleIter s.heap.objs.size t 0->h'.objs.size=s.heap.objs.size+2->(∀b o,s.heap.get? b=some o->h'.get? b=some o)->Q (.ref (s.heap.objs.size+1)) {s with heap:=h'}) :
  wpAny (model prog w) A (call (.type "enumerate") [.ref t]) Q E s:=by
 obtain⟨⟨c,dct,dt,sl⟩,hl,hc,n,hd⟩:=hL
 replace hc:c=.type "tuple":=hc
 replace hd:dt=.seq items n:=hd
 subst hc hd
 refine callType_new F.called_enumerate (by decide) (F.typeCall_enumerate_1 _) (F.newCall_enumerate_1 _) (λobj=>F.args_object_init_2 obj _) F.entry_enumerate_new (vR t items n dct sl) ⟨hl,?_⟩
 have hz:(M_ s.heap t).objs.size=s.heap.objs.size+1:=Heap.size_push ..
 show _/\_
 have he:(Qk s.heap t).get? (M_ s.heap t).objs.size=some _:=Ux _ rfl
 rw [hz]at he
 rw [hz]
 exact⟨⟨_,he,rfl⟩,h _ he ⟨_,Uv _ (Ux _ rfl),rfl,rfl⟩ (by rw [Heap.size_push,hz]) λb o x=>Uv _ (Uv _ x)⟩
end
def Mz(K:PySem.W.Frag)(a:Addr):It :=
 ⟨λi H=>∃xs x,aH K H a xs/\xs[i]? = some x,
   λi H v H'=>∃T x,v=.ref T/\H T=none/\H'=upd H T (.tup [.int (i:Nat),x])/\∀xs,aH K H a xs->xs[i]? = some x,
   λi H=>∃xs,aH K H a xs/\xs.length<=i⟩
theorem yg{P:Program}{w:World}{K:PySem.W.Frag}{es:List Expr}{x1:Nat}{pos:Pos}(a e it:Addr)(hne:e≠it) :
  Turn P w K (.Tuple es x1 pos) (Mz K a) [e,it] e (λi h=>(∃old,IsEnum h e it (i:Nat) old)/\h.IsTupleIter it a i) where
 mem:=by simp
 obj:=λi h st c hc=>by
  obtain⟨⟨old,h1⟩,⟨o4,e4,c4,d4⟩⟩:=st
  simp only [List.mem_cons,List.not_mem_nil,or_false]at hc
  rcases hc with rfl | rfl
  ·exact⟨_,h1,λv z=>by cases(show Data.fields _=Data.cell v from z)⟩
  ·exact⟨o4,e4,λv z=>by rw [d4]at z; cases z⟩
 keep:=λi h h' st k=>by
  obtain⟨⟨old,h1⟩,h4⟩:=st
  exact⟨⟨old,k e (by simp) _ h1⟩,h4.at λo q=>k it (by simp) o q⟩
 item:=by
  intro X hP hw hK hc i pins s σ H E I hf st hg
  subst hP hw hK
  obtain⟨xs,x,hq,hx⟩:=hg
  obtain⟨its,rv,p,hz⟩:=I.tuple hq
  obtain⟨u,hu,ru⟩:=rv.get hx
  obtain⟨⟨old,h1⟩,h4⟩:=st
  have p':s.heap.IsTuple a its.toArray:=p
  have Tw:e≠a:=λz=>by obtain⟨o,eo,co,_⟩:=p'; rw [←z,h1]at eo; cases eo; exact absurd (Value.type.inj co) (by decide)
  have T6:a≠it:=λz=>by obtain⟨o,eo,co,_⟩:=p'; obtain⟨o4,e4,c4,_⟩:=h4; rw [z,e4]at eo; cases eo; exact absurd (Value.type.inj (c4.symm.trans co)) (by decide)
  have hu':its.toArray[i]? = some u:=by simpa using hu
  have hlt:i<its.toArray.size:=by
   rcases Nat.lt_or_ge i its.toArray.size with z | z
   ·exact z
   ·rw [Array.getElem?_eq_none z]at hu'; cases hu'
  refine wpAny_pyNext_enum_itemD (zX (show X.A.in1.handled=none from I.ok.hd hc) it a T6 its.toArray) h1 ⟨h4,p'⟩ hlt hne (by simp [hne,Tw]) λy h' tk hy g1 g2 g3 gs g6=>⟨_,rfl,?_⟩
  have TR:y=u:=by rw [hu']at hy; exact(Option.some.inj hy).symm
  subst TR
  refine wpAny_letOwnedTupleGo_enum (show IsEnumOut h' e it ((i:Int)+1) y s.heap.objs.size from g1) λh'' f1 fs=>?_
  have elt:e<s.heap.objs.size:=Uw h1
  have Pp:s.heap.objs.size≠e:=Nat.ne_of_gt elt
  have kk:∀c o,c∉[e,it]->s.heap.get? c=some o->h''.get? c=some o:=λc o hc q=>by
   simp only [List.mem_cons,List.not_mem_nil,or_false,not_or]at hc
   exact fs.extBut _ _ hc.1 (g6 c o hc.1 hc.2 q)
  have pT:=fs.extBut _ _ Pp g3
  have I1:Inv X pins σ (upd H s.heap.objs.size (.tup [.int (i:Nat),x])) {s with heap:=h'',toks:=tk+1}:=I.qX hf kk (Uy _) ⟨by show 2<=sizeLine; decide,[.int (i:Nat) tk,y],.cons ⟨tk,rfl⟩ (.cons ru .nil),⟨_,pT,rfl,⟨_,rfl⟩,rfl⟩⟩
  refine⟨.ref s.heap.objs.size,_,I1,rfl,⟨_,x,rfl,I.hok.fresh (Uy _),rfl,λys hy'=>by rw [I.ib hy' hq]; exact hx⟩,⟨⟨_,f1⟩,g2.1.extBut fs.extBut hne.symm⟩,λc hc=>?_⟩
  have hn:=(hf c hc).1
  have:c≠s.heap.objs.size:=by
   simp only [List.mem_cons,List.not_mem_nil,or_false]at hc
   obtain⟨o4,e4,_⟩:=h4
   rcases hc with rfl | rfl
   ·exact Nat.ne_of_lt elt
   ·exact Nat.ne_of_lt (Uw e4)
  rw [aI this]; exact hn
 done:=by
  intro X hP hw hK hc i pins s σ H E I hf st hg
  subst hP hw hK
  obtain⟨xs,hq,hx⟩:=hg
  obtain⟨its,rv,p,hz⟩:=I.tuple hq
  obtain⟨⟨old,h1⟩,h4⟩:=st
  have hl:=rv.length
  have hn:its.toArray[i]? = none:=by simp; omega
  unfold pyNext
  have hT:s.TypeIs (.ref e) "enumerate":=⟨_,h1,rfl⟩
  refine Ut (wpAny_attempt (wpAny_callSpecial?_slot (name:=Str.ofString "__next__") hT F.slot_enumerate_next (wpAny_call_entry F.slot_enumerate_next hT F.entry_enumerate_next ?_ (F.args_enumerate_next_1 _))))
  show wpAny _ _ (field (.ref e) 2 >>= _) _ _ _
  refine Ut (wpAny_field h1 rfl (x:=.ref it) rfl ?_)
  refine Ut (gc (show X.A.in1.handled=none from I.ok.hd hc) h4 (show s.heap.IsTuple a its.toArray from p) hn λh' x he' hx'=>?_)
  obtain⟨o,ho,hco⟩:=hx'
  refine Ut (wpAny_isInstance (T:="StopIteration") (b:=true) ⟨o,ho,hco⟩ isSubtype_stop ?_)
  refine Uu ⟨rfl,I.n9 (t':=s.toks) hf λc o hc q=>?_⟩
  simp only [List.mem_cons,List.not_mem_nil,or_false,not_or]at hc
  exact he' c o hc.2 q
 self:=λ_ _ _ _ _ st h=>let ⟨⟨_,h1⟩,_⟩:=st; wpAny_pyIter_enum h1 h
section
variable{X:Cx}
def LX(K:PySem.W.Frag)(ta:TA):TI:=λσ H R=>ta σ H λvs H1=>∃a,vs=[.ref a]/\(∃xs,aH K H1 a xs)/\R (Mz K a) H1
theorem nJ{es:List Expr}{x1:Nat}{tpos:Pos}{a:Expr}{ta:TA}{p pos:Pos}(hg:Gl X "enumerate")(hm:X.mg "enumerate"=none)(ha:PA X [a] ta)(hs:starEach [a] X.env=[(false,eval a X.env)]:=by rfl) :
  PI X (.Tuple es x1 tpos) (.Call (.Name "enumerate" p) [a] [] pos) (LX X.K ta):=by
 intro pins s σ H R I h
 refine Call_ (iG I hg hm (by decide +kernel:bootBuiltins "enumerate"=some (.type "enumerate")) (PyProof.Rows.callWith_type1 (b_ (ha pos pins s σ H _ I h) λus s1 ⟨vs,H1,I1,r1,q1⟩=>?_) hs rfl))
 obtain⟨l1,e,⟨xs,hq1⟩,q⟩:=q1
 subst e
 cases r1 with
 | cons r rr =>
  cases rr
  cases r
  obtain⟨its,rv,p1,hz⟩:=I1.tuple hq1
  refine ym p1 λh' he hi hsz hk=>?_
  refine wpAny_pyIter_enum (show IsEnum h' _ _ _ _ from he) ?_
  refine⟨_,[s1.heap.objs.size+1,s1.heap.objs.size],_,_,H1,rfl,I1.kept (t':=s1.toks) hk,yg _ _ _ (Nat.succ_ne_self _),⟨⟨_,he⟩,hi⟩,λc hc=>?_,q⟩
  simp only [List.mem_cons,List.not_mem_nil,or_false]at hc
  have hle:s1.heap.objs.size<=c:=by rcases hc with rfl | rfl <;> first | exact Uy _ | exact Nat.le_add_right _ _
  exact I1.l7 hle (I1.hok.fresh hle)
end
theorem l6{K:PySem.W.Frag}{a:Addr}{xs:List V}{g:TG}{tb:TS}{D:Ends}{σ:St}{H:Hp}(Pv:Nat->St->Hp->Prop)(h0:Pv 0 σ H)(hl:∀i σ H,i<=xs.length->Pv i σ H->aH K H a xs)
  (hs:∀i x σ H T,xs[i]? = some x->Pv i σ H->H T=none->g (.ref T) σ (upd H T (.tup [.int (i:Nat),x])) λdf H2=>tb {D with nx:=Pv (i+1),ct:=Pv (i+1),bk:=D.nx} df H2) (hd:∀σ H,Pv xs.length σ H->D.nx σ H) :
  ∃W:Nat->Nat->St->Hp->Prop,(∃m,W 0 m σ H)/\∀i m σ H,W i m σ H->
   ((Mz K a).stop i H/\D.nx σ H)\/((Mz K a).go i H/\∃N:St->Hp->Prop,(∀σ' H',N σ' H'->∃m',m'<m/\W (i+1) m' σ' H')/\∀x H',(Mz K a).EV i H x H'->g x σ H' λdf H2=>tb {D with nx:=N,ct:=N,bk:=D.nx} df H2):=by
 refine⟨λi m σ H=>m=xs.length-i/\i<=xs.length/\Pv i σ H,⟨xs.length,by simp,Nat.zero_le _,h0⟩,?_⟩
 rintro i m σ H ⟨rfl,hi,p⟩
 have q:=hl i σ H hi p
 by_cases hlt:i<xs.length
 ·refine .inr ⟨⟨xs,xs[i],q,by simp [hlt]⟩,Pv (i+1),λσ' H' p'=>⟨xs.length-(i+1),by omega,rfl,hlt,p'⟩,λv H' y=>?_⟩
  obtain⟨T,x,rfl,hT,rfl,hx⟩:=y
  exact hs i x σ H T (hx xs q) p hT
 ·have e:i=xs.length:=by omega
  subst e
  exact .inl ⟨⟨xs,q,Uy _⟩,hd σ H p⟩
end L2
namespace My
open PySem L2
section
variable{X:Cx}{N':List Str}{sc:Scope}{cl:List (Str×Addr)}{C:Addr}{s:Shared}{H:Hp}{fp:List Addr}{E:XK}
theorem JS{i:Nat}{x:Str}{pos:Pos}(hn:N'.Nodup:=by decide +kernel)(hN:N'[i]? = some x:=by rfl)(hv:sc.names.lookup x=some .local:=by rfl):PG ((aK X N' sc cl C s H fp).xs E) (.Name x pos) (bz i):=PG.y6 (eA (X:=X) (cl:=cl) (C:=C) (s:=s) (H:=H) (fp:=fp) (N':=N') hn hN hv)
theorem OY(i:Nat){x:Str}{pos:Pos}(hN:N'[i]? = some x:=by rfl)(hv:sc.names.lookup x=some .local:=by rfl)(hd:(x==("__debug__" : Str))=false:=by decide)(hcd:(x==("__classdict__" : Str))=false:=by decide):PE ((aK X N' sc cl C s H fp).xs E) (.Name x pos) (bx i):=PE.y6 (i5 (X:=X) (cl:=cl) (C:=C) (s:=s) (H:=H) (fp:=fp) (N':=N') i hN hv hd hcd)
end
theorem k_{t1 t2:TS}{D:Ends}{σ:St}{H:Hp}(Pm:St->Hp->Prop)(h:∀T:St->Hp->Prop,(∀σ' H',Pm σ' H'->T σ' H')->t1 {D with nx:=T} σ H)(t:∀σ' H',Pm σ' H'->t2 D σ' H'):EG t1 t2 D σ H:=h _ t
theorem m8{α:Type}{l:List α}{i:Nat}{x:α}(h:l[i]? = some x):l.drop i=x::l.drop (i+1):=by
 obtain⟨hi,rfl⟩:=List.getElem?_eq_some_iff.mp h
 exact List.drop_eq_getElem_cons hi
def eI(fl:Addr)(H H':Hp):Prop:=∀b o,b≠fl->H b=some o->H' b=some o
theorem eI.of{fl:Addr}{H H':Hp}(s:aM H H'):eI fl H H':=λ_ _ _ e=>s _ _ e
theorem eI.trans{fl:Addr}{H H1 H2:Hp}(a:eI fl H H1)(b:eI fl H1 H2):eI fl H H2:=λ_ _ n e=>b _ _ n (a _ _ n e)
theorem eI.put{fl:Addr}{H H1:Hp}{o:HO}(a:eI fl H H1):eI fl H (upd H1 fl o):=λb u n e=>by rw [aI n]; exact a _ _ n e
theorem eI.new{fl L:Addr}{H H1:Hp}{o:HO}(hL:H L=none)(a:eI fl H H1):eI fl H (upd H1 L o):=λb u n e=>by rw [aI (aU e hL)]; exact a _ _ n e
theorem eI.f_{fl:Addr}{H H':Hp}{xs:List V}(g:eI fl H H')(h:H fl=some (.lst xs)):aE H H':=λa ys e=>g _ _ (λz=>by rw [z,h]at e; cases e) e
theorem gu.keep{H H':Hp}{a:Addr}{k:Kn}(s:aE H H')(h:gu H a k):gu H' a k:=by
 obtain⟨u,p,h1,h2,h3⟩:=h
 exact⟨u,p,s _ _ h1,s _ _ h2,s _ _ h3⟩
def ui:Nat->List Wk->Prop
 | 0,ws=>ws.length<=9/\∀x∈ws,AF x
 | n+1,ws=>ws.length<=9/\∀x∈ws,AF x/\∀p∈dJ x,ui n p
theorem ui.len{n:Nat}{ws:List Wk}(h:ui n ws):ws.length<=9:=by cases n <;> exact h.1
theorem ui.ok{n:Nat}{ws:List Wk}(h:ui n ws){x:Wk}(hx:x∈ws):AF x:=by
 cases n with
 | zero=>exact h.2 x hx
 | succ n=>exact(h.2 x hx).1
def cW:Nat->Nat
 | 0=>1
 | n+1=>1+2*(9*cW n+1)
def bnd(n:Nat):Nat:=9*cW n+1
def R_(C fl:Addr)(H:Hp)(a:List Int)(s:Str)(E:XK):Prop:=∀(e dx q:Addr) (H':Hp),eI fl H H'->H' e=some (xO e C (some dx))->H' dx=some (xD dx (Ar (.ref q) (.str s)))->H' q=some (.tup (a.map V.int))->E (.ref C) (some e) H'
def Hc(H:Hp)(t:Addr)(h:Hd):Prop:=∃q hh b,H t=some (.tup [q,.ref hh,b])/\dW H hh h
structure OE(n:Nat)(H:Hp)(p b pl fl:Addr)(ws:List Wk)(k:Kn)(pi:List Int)(xs:List V):Prop where
 pp:jA n H p ws
 kn:gu H b k
 pl:H pl=some (.tup (pi.map V.int))
 fl:H fl=some (.lst xs)
 ok:ui n ws
 ko:mR k
 pz:pi.length+2*n<=100
 xz:xs.length+bnd n<=100000
def zg(C:Addr):Nat->Sp
 | 0=>λ_ _ _ _=>False
 | n+1=>λvs H Q E=>∃(p b pl fl:Addr) (ws:List Wk) (k:Kn) (pi:List Int) (xs:List V),vs=[.ref p,.ref b,.ref pl,.ref fl]/\OE n H p b pl fl ws k pi xs/\
  (∀a s,putL (cn n) pi 0 k.hd k.fl ws=.no a s->R_ C fl H a s E)/\
  (∀h f,putL (cn n) pi 0 k.hd k.fl ws=.ok h f->∀(u:Addr) (k':Kn) (H':Hp) (xs':List V) (t:Addr),eI fl H H'->gu H' u k'->mR k'->k'.hd=h->k'.fl=f->H' fl=some (.lst (xs'++[.ref t]))->xs'.length+1<=xs.length+bnd n->Hc H' t h->Q (.ref u) H')
theorem lj{x:Wk}(h:bY x=false):dJ x=[]/\C7 x=1:=by cases x <;> first | exact⟨rfl,rfl⟩ | cases h
theorem iZ{n:Nat}{x:Wk}{h:Hd}{f:Fl}{pl:List Int}(hx:bY x=false):cn n h f pl x=iu x h f pl [(h,f)]:=by
 cases x with
 | one x=>cases n <;> rfl
 | both p q=>cases hx
 | meet c d p q=>cases hx
theorem oW{n:Nat}{x:Wk}{h:Hd}{f:Fl}{pl:List Int}(hx:bY x=true):cn (n+1) h f pl x=Bv (cn n) x h f pl (dJ x) 0 []:=by
 cases x with
 | one x=>cases hx
 | both p q=>rfl
 | meet c d p q=>rfl
theorem lR{x:Wk}(hx:bY x=true):(dJ x).length=2/\C7 x=2:=by cases x <;> first | exact⟨rfl,rfl⟩ | cases hx
theorem J9{x:Wk}{H:Hp}{a:Addr}(h:dk 0 H a x):bY x=false:=by cases x <;> first | rfl | exact False.elim h
def mU(ks:List Kn):List (Hd×Fl):=ks.map λk=>(k.hd,k.fl)
theorem E3(ks:List Kn):(mU ks).map (λe=>e.1)=jQ ks:=by rw [mU,List.map_map]; rfl
theorem Fu(ks:List Kn):(mU ks).map (λe=>e.2)=ks.map Kn.fl:=by rw [mU,List.map_map]; rfl
theorem sI{x:Wk}{f:Fl}{hs:List Hd}(h:i7 x f hs=none):dc x hs=true/\(bH x hs).length<=6:=by
 unfold i7 at h
 split at h
 ·split at h
  ·split at h
   ·exact⟨by assumption,by assumption⟩
   ·cases h
  ·cases h
 ·cases h
theorem Gr{x:Wk}{k:Kn}{ks:List Kn}(hk:bY x=false->ks=[k])(h:dc x (jQ ks)=true):keepIn x k.hd:=by
 rintro c t rfl
 rw [hk rfl]at h
 exact cG h (by simp [c7])
theorem Bg(n:Nat):1<=cW n:=by
 cases n with
 | zero=>exact Uy _
 | succ n=>show 1<=1+_; omega
theorem mZ(n:Nat):cW (n+1)=1+2*bnd n:=rfl
theorem vI{H H':Hp}{L u:Addr}{as:List Addr}{ks:List Kn}{k:Kn}(h:jl H L as ks)(g:∀a k,gu H a k->gu H' a k)(hk:gu H' u k)(hL:H' L=some (.lst ((as++[u]).map V.ref))):jl H' L (as++[u]) (ks++[k]):=by
 refine⟨hL,by rw [UD,UD,h.len]; rfl,λi a k' e1 e2=>?_⟩
 by_cases hi:i<as.length
 ·rw [List.getElem?_append_left hi]at e1
  rw [List.getElem?_append_left (by rw [←h.len]; exact hi)]at e2
  exact g _ _ (h.at_ i a k' e1 e2)
 ·have hi':i=as.length:=by
   have:=(List.getElem?_eq_some_iff.mp e1).1
   rw [UD]at this
   simp at this
   omega
  rw [hi',List.getElem?_append_right (Uy _),Nat.sub_self]at e1
  rw [hi',h.len,List.getElem?_append_right (Uy _),Nat.sub_self]at e2
  cases e1
  cases e2
  exact hk
theorem aE.refl{H:Hp}:aE H H:=λ_ _ e=>e
theorem aE.trans{H H1 H2:Hp}(a:aE H H1)(b:aE H1 H2):aE H H2:=λ_ _ e=>b _ _ (a _ _ e)
theorem aE.uE{H H':Hp}{L:Addr}{xs:List V}{o:HO}(k:aE H H')(h:H' L=some (.lst xs)):aE H (upd H' L o):=λa ys e=>by
 have:=k _ _ e
 rw [aI (λz=>by rw [z,h]at this; cases this)]
 exact this
theorem DX(pi:List Int)(i:Int):pi.map V.int++[V.int i]=(pi++[i]).map V.int:=by rw [UE]; rfl
abbrev fH:Stmt:=top 47
theorem bQ:az ["pipe","begun","prefix","found","known","at","worker","place","told","side","branch","why"] ["pipe","begun","prefix","found"] (ar fH):=fs
variable{P:Program}{w:World}{K:PySem.W.Frag}{mg:Str->Option Value}{base:Heap}
theorem yj{C fI:Addr}{d2:FuncData}{n L:Nat}(B:jV mg)(mE:mg "enumerate"=none)(Cf:Ji K mg C fI)(F:FA K mg "go_through" fH)(GI:e9 P w K mg base bc 1 fI d2 ["self","place","why"] (yR K C))(bI:Binds K d2 ["self","place","why"] [])
  (gI:bf bc P w K mg base 1 "branches_of" ["worker"] (B_ n))
  (iC:bf (A1 P w) P w K mg base (L+5) "go_through" ["pipe","begun","prefix","found"] (zg C n))
  (z_:bf bc P w K mg base 5 "why_not" ["worker","known","heads"] (Hh n))
  (oM:bf bc P w K mg base 4 "known_behind" ["worker","known","told"] (vD n)) :
  bf (A1 P w) P w K mg base (L+6) "go_through" ["pipe","begun","prefix","found"] (zg C (n+1)):=by
 refine F.Kr bQ λf cdv A outer s H vs Q E hr h=>?_
 have hu:=iN hr
 have hu1:=jY hr
 obtain⟨p,b,pl,fl,ws,k,pi,xs,rfl,hG,qx,q⟩:=h
 refine⟨_,(aq (aL (i:=4) bQ.nd rfl (Or.inl rfl) (pv 1))
   (aq (hX (BD sx) rfl (nJ rfl mE (ae (pv 0) ah)) (cD rfl (aD (bS (i:=5) bQ.nd rfl (Or.inl rfl)) (aD (bS (i:=6) bQ.nd rfl (Or.inl rfl)) bT)))
    (aq (aL (i:=7) bQ.nd rfl (Or.inl rfl) (aF cb (pv 2) (aJ (ae (pv 5) ah))))
     (aq (fG (lC PySem.F.plainAttrs_list PySem.F.slot_list_append PySem.F.type_list_append cV (pv 3) (ae (aJ (ae (pv 7) (ae (aA K (pv 4) ai) (ae (aA K (pv 4) ai) ah)))) ah)))
     (aq (aL (i:=8) bQ.nd rfl (Or.inl rfl) (aQ ah))
     (aq (hX (BD sx) rfl (nJ rfl mE (ae (ay gI hr (ae (pv 6) ah)) ah)) (cD rfl (aD (bS (i:=9) bQ.nd rfl (Or.inl rfl)) (aD (bS (i:=10) bQ.nd rfl (Or.inl rfl)) bT)))
      (bK (fG (lC PySem.F.plainAttrs_list PySem.F.slot_list_append PySem.F.type_list_append cV (pv 8) (ae (uG iC hr rfl yZ (ae (pv 10) (ae (pv 4) (ae (aF cb (pv 7) (aJ (ae (pv 9) ah))) (ae (pv 3) ah))))) ah)))))
     (aq (dy (aW aP (a_ bE rfl B.len PySem.boot_len (ae (pv 8) ah)) ai)
      (bK (fG (lC PySem.F.plainAttrs_list PySem.F.slot_list_append PySem.F.type_list_append cV (pv 8) (ae (pv 4) ah))))
      b9)
     (aq (aL (i:=11) bQ.nd rfl (Or.inl rfl) (ay z_ hr (ae (pv 6) (ae (pv 4) (ae (Aw (N':=["head","passed","loose"]) (src:=[none,none,none]) rfl sx (ba.jL (by kernel_rfl)) (fj (pv 8)) (g:=(iT K 3 (bP (bz 0) (bP (bz 1) (bP (bz 2) iU))))) (λcl C s H fp=>(cD rfl (aD (JS (i:=0)) (aD (JS (i:=1)) (aD (JS (i:=2)) bT))))) (λcl C s H fp=>i9.y6 aX) (te:=(bx 0)) (λcl C s H fp=>(OY 0))) ah)))))
     (aq (dy (aW sQ (pv 11) iI)
      (bK (zJ rfl Cf.Qn (E1 Cf.Qn Cf.kp Cf.fn (GI.mono (by omega)) hr rfl Cf.mf bI vo (ae (pv 7) (ae (pv 11) ah)))))
      b9)
     (bK (aL (i:=4) bQ.nd rfl (Or.inl rfl) (ay oM hr (ae (pv 6) (ae (pv 4) (ae (pv 8) ah))))))))))))))
   (aq (fG (lC PySem.F.plainAttrs_list PySem.F.slot_list_append PySem.F.type_list_append cV (pv 3) (ae (aJ (ae (aF cb (pv 2) (aJ (ae (a_ bE rfl B.len PySem.boot_len (ae (pv 0) ah)) ah))) (ae (aA K (pv 4) ai) (ae (aA K (pv 4) ai) ah)))) ah)))
   (ax (pv 4))))),?_⟩
 obtain⟨⟨bs,hI⟩,hk,hpl,hfl,hok,hko,hpz,Ua⟩:=hG
 have hlb:(bs.map V.ref).length=ws.length:=by rw [UC,hI.len]
 have hcw:=Bg n
 have hw9:=hok.len
 have hbn:bnd n=9*cW n+1:=rfl
 refine⟨_,rfl,ak ?_⟩
 dsimp only
 refine⟨_,rfl,p,rfl,⟨_,aH.of hI.tup⟩,?_⟩
 refine l6 (xs:=bs.map V.ref) (λi σ H'=>∃(kb:Addr) (ki:Kn) (ys:List V),(∃o5 o6 o7 o8 o9 qe qa,σ=[some (.ref p),some (.ref b),some (.ref pl),some (.ref fl),some (.ref kb),o5,o6,o7,o8,o9,qe,qa])/\gu H' kb ki/\mR ki/\eI fl H H'/\H' fl=some (.lst ys)/\ys.length<=xs.length+i*cW n/\putL (cn n) pi 0 k.hd k.fl ws=putL (cn n) pi i ki.hd ki.fl (ws.drop i))
  ⟨b,k,xs,⟨_,_,_,_,_,_,_,rfl⟩,hk,hko,eI.of (aM.refl _),hfl,Nat.le_add_right _ _,rfl⟩ ?_ ?_ ?_
 ·rintro i σ H' _ ⟨kb,ki,ys,_,_,_,g,_⟩
  exact aH.of (g.f_ hfl _ _ hI.tup)
 ·rintro i v σ H' T hx ⟨kb,ki,ys,⟨o5,o6,o7,o8,o9,qe,qa,rfl⟩,hki,hoi,g,hfl',hyz,hrun⟩ hT
  obtain⟨a,x,rfl,ex,ha⟩:=hI.get hx
  have Nb:i<9:=by have:=(List.getElem?_eq_some_iff.mp ex).1; omega
  have hic:i*cW n+cW n<=9*cW n:=by have:=Nat.mul_le_mul_right (cW n) Nb; rw [Nat.succ_mul]at this; exact this
  have L7:=hok.ok (UK ex)
  rw [m8 ex]at hrun
  have hrun:putL (cn n) pi 0 k.hd k.fl ws=c8 (cn n ki.hd ki.fl (pi++[(i:Int)]) x) λh' f'=>putL (cn n) pi (i+1) h' f' (ws.drop (i+1)):=hrun
  have sT:=aj hT (.tup [.int (i:Nat),.ref a])
  refine⟨T,_,rfl,aH.of ag,rfl,_,_,rfl,ak ⟨_,_,rfl,ak ⟨rfl,?_⟩⟩⟩
  dsimp only
  refine⟨_,rfl,_,rfl,dQ,λu1 jU=>?_⟩
  have sU:=aj jU (.tup [.int (i:Nat)])
  refine⟨pl,u1,_,_,rfl,rfl,sU _ _ (sT _ _ (g.f_ hfl _ _ hpl)),ag,by rw [UC]; exact Uz (show _+1<=1000 by omega) (by decide),λu2 H2 JJ hu2=>ak ?_⟩
  rw [DX]at hu2
  have s2:=sT.trans (sU.trans JJ)
  dsimp only
  obtain⟨hh,ph,hk1,hk2,hk3⟩:=hki
  have hki:gu H' kb ki:=⟨hh,ph,hk1,hk2,hk3⟩
  refine⟨_,rfl,.inl ⟨rfl,_,aZ.of (s2 _ _ hfl')⟩,_,rfl,_,rfl,kb,_,0,_,rfl,rfl,aH.of (s2 _ _ hk1),av (j:=0) rfl,_,rfl,kb,_,2,_,rfl,rfl,aH.of (s2 _ _ hk1),rfl,gw,λu3 v7=>?_⟩
  have s3:=aj v7 (.tup [.ref u2,.ref hh,.bl ki.lo])
  refine⟨fl,_,_,rfl,rfl,s3 _ _ (s2 _ _ hfl'),UG (show ys.length<=100000 by omega) (by decide),?_⟩
  have g4:eI fl H' (upd (upd H2 u3 (.tup [.ref u2,.ref hh,.bl ki.lo])) fl (.lst (ys++[.ref u3]))):=(eI.of (s2.trans s3)).put
  have Au:upd (upd H2 u3 (.tup [.ref u2,.ref hh,.bl ki.lo])) fl (.lst (ys++[.ref u3])) fl=some (.lst (ys++[.ref u3])):=ag
  have wW:upd (upd H2 u3 (.tup [.ref u2,.ref hh,.bl ki.lo])) fl (.lst (ys++[.ref u3])) u2=some (.tup ((pi++[(i:Int)]).map V.int)):=by
   rw [aI (λz=>by have:=s2 _ _ hfl'; rw [←z,hu2]at this; cases this)]
   exact s3 _ _ hu2
  revert g4 Au wW
  generalize upd (upd H2 u3 (.tup [.ref u2,.ref hh,.bl ki.lo])) fl (.lst (ys++[.ref u3]))=H4
  intro g4 Au wW
  have Ce:aE H' H4:=g4.f_ hfl'
  have JH:aE H H4:=(g.f_ hfl).trans Ce
  refine⟨Nat.zero_le _,λL hL=>ak ?_⟩
  have Kx:L≠fl:=λz=>by rw [z,Au]at hL; cases hL
  dsimp only
  refine k_ (λσ H6=>∃(as:List Addr) (ks:List Kn) (zs:List V),(∃o9 qe qa,σ=[some (.ref p),some (.ref b),some (.ref pl),some (.ref fl),some (.ref kb),some (.int (i:Nat)),some (.ref a),some (.ref u2),some (.ref L),o9,qe,qa])/\jl H6 L as ks/\ks.length=(dJ x).length/\(∀k∈ks,mR k)/\aE H4 H6/\eI fl H4 H6/\H6 fl=some (.lst zs)/\zs.length<=ys.length+cW n/\(bY x=true->putL (cn n) pi 0 k.hd k.fl ws=c8 (iu x ki.hd ki.fl (pi++[(i:Int)]) (mU ks)) λh' f'=>putL (cn n) pi (i+1) h' f' (ws.drop (i+1)))) (λT2 hT2=>?_) ?_
  ·have sL:=aj hL (.lst [])
   refine⟨_,rfl,a,x,rfl,ha.keep (JH.trans (aE.of sL)),λu5 cs H5 s5 hJ=>⟨u5,rfl,⟨_,aH.of hJ.tup⟩,?_⟩⟩
   have Sq:(cs.map V.ref).length=(dJ x).length:=by rw [UC,hJ.len]
   refine l6 (xs:=cs.map V.ref) (λj σ H6=>∃(as:List Addr) (ks:List Kn) (zs:List V),(∃o9 qe qa,σ=[some (.ref p),some (.ref b),some (.ref pl),some (.ref fl),some (.ref kb),some (.int (i:Nat)),some (.ref a),some (.ref u2),some (.ref L),o9,qe,qa])/\jl H6 L as ks/\ks.length=j/\(∀k∈ks,mR k)/\aE H5 H6/\eI fl H4 H6/\H6 fl=some (.lst zs)/\(∀m,n=m+1->zs.length<=ys.length+1+j*bnd m)/\(j=0->zs.length<=ys.length+1)/\(∀m,n=m+1->bY x=true->putL (cn n) pi 0 k.hd k.fl ws=c8 (Bv (cn m) x ki.hd ki.fl (pi++[(i:Int)]) ((dJ x).drop j) j (mU ks)) λh' f'=>putL (cn n) pi (i+1) h' f' (ws.drop (i+1))))
    ⟨[],[],ys++[.ref u3],⟨_,_,_,rfl⟩,⟨s5 _ _ ag,rfl,λi a k e=>by cases e⟩,rfl,λk hk=>(by cases hk),aE.refl,(eI.of sL).trans (eI.of s5),s5 _ _ (sL _ _ Au),?_,?_,?_⟩ ?_ ?_ ?_
   ·intro m _; rw [UD,Nat.zero_mul]; simp
   ·intro _; rw [UD]; simp
   ·rintro m rfl hb
    rw [hrun,oW hb]
    rfl
   ·rintro j σ H6 _ ⟨as,ks,zs,_,_,_,_,kT,_⟩
    exact aH.of (kT _ _ hJ.tup)
   ·rintro j v σ H6 SI hv ⟨as,ks,zs,⟨o9,qe,qa,rfl⟩,A5,hkl,Kg,Qh,g6,xX,Ks,_,dX⟩ hT2'
    obtain⟨c',pp,rfl,ep,ds,R8⟩:=hJ.get hv
    have hbr:bY x=true:=by
     cases hq:bY x with
     | true=>rfl
     | false=>rw [(lj hq).1]at ep; cases ep
    obtain⟨m,rfl⟩ :∃m,n=m+1:=by
     cases n with
     | zero=>rw [J9 ha]at hbr; cases hbr
     | succ m=>exact⟨m,rfl⟩
    have hj2:j<2:=by have:=(List.getElem?_eq_some_iff.mp ep).1; rw [(lR hbr).1]at this; exact this
    have Ks:=Ks m rfl
    have hcs:=mZ m
    have RX:j*bnd m+bnd m<=2*bnd m:=by have:=Nat.mul_le_mul_right (bnd m) hj2; rw [Nat.succ_mul]at this; exact this
    have dX:=dX m rfl hbr
    rw [m8 ep]at dX
    have sA:=aj hT2' (.tup [.int (j:Nat),.ref c'])
    refine⟨SI,_,rfl,aH.of ag,rfl,_,_,rfl,ak ⟨_,_,rfl,ak ⟨rfl,?_⟩⟩⟩
    dsimp only
    refine⟨_,rfl,.inl ⟨rfl,_,aZ.of (sA _ _ A5.lst)⟩,_,rfl,_,rfl,_,rfl,_,rfl,dQ,λu7 NP=>?_⟩
    have sB:=aj NP (.tup [.int (j:Nat)])
    have rm:aE H4 H6:=g6.f_ Au
    refine⟨u2,u7,_,_,rfl,rfl,sB _ _ (sA _ _ (rm _ _ wW)),ag,by rw [UC,UD]; exact Uz (show _+1+1<=1000 by omega) (by decide),λu8 H8 s8 iN=>?_⟩
    rw [DX]at iN
    have qK:=sA.trans (sB.trans s8)
    have PC:=Qh.trans (aE.of qK)
    have g8:eI fl H H8:=(g.trans g4).trans (g6.trans (eI.of qK))
    have OZ:gu H8 kb ki:=(hki.keep Ce).keep (rm.trans (aE.of qK))
    refine⟨_,rfl,c',kb,u8,fl,pp,ki,(pi++[(i:Int)])++[(j:Int)],zs,rfl,⟨⟨ds,R8.keep PC λ_ _ z=>z.keep PC⟩,OZ,iN,qK _ _ xX,(hok.2 x (UK ex)).2 pp (UK ep),hoi,by rw [UD,UD]; show _+1+1+_<=_; omega,by omega⟩,?_,?_⟩
    ·intro a' s' he
     have ht:putL (cn (m+1)) pi 0 k.hd k.fl ws=.no a' s':=by
      rw [dX]
      show c8 (c8 (putL (cn m) ((pi++[(i:Int)])++[(j:Int)]) 0 ki.hd ki.fl pp) _) _=_
      rw [he]
      rfl
     exact λe dx q' H9 g9=>qx a' s' ht e dx q' H9 (g8.trans g9)
    ·intro h' f' he u k' H9 xs' t' g9 hk' K9 eh ef N_ RL _
     have hL9:H9 L=some (.lst (as.map V.ref)):=g9 _ _ Kx (qK _ _ A5.lst)
     have M8:aE H8 H9:=g9.f_ (qK _ _ xX)
     refine⟨L,_,_,rfl,rfl,hL9,?_,as++[u],ks++[k'],xs'++[.ref t'],⟨_,_,_,rfl⟩,?_,?_,?_,(PC.trans M8).uE hL9,?_,?_,?_,?_,?_⟩
     ·rw [UC,A5.len,hkl]; exact Nat.lt_trans hj2 (by decide)
     ·refine vI A5 (λa k z=>z.keep (((aE.of qK).trans M8).uE hL9)) (hk'.keep (aE.refl.uE hL9)) ?_
      rw [ag,UE]; rfl
     ·rw [UD,hkl]; rfl
     ·intro k2 hk2
      rcases List.mem_append.mp hk2 with z | z
      ·exact Kg k2 z
      ·rw [List.mem_singleton.mp z]; exact K9
     ·exact eI.new hL ((g6.trans (eI.of qK)).trans g9)
     ·rw [aI (Ne.symm Kx)]; exact N_
     ·rintro m' e
      cases e
      rw [UD,Nat.succ_mul]
      show xs'.length+1<=_
      omega
     ·intro z; cases z
     ·rintro m' e _
      cases e
      rw [dX]
      show c8 (c8 (putL (cn m) ((pi++[(i:Int)])++[(j:Int)]) 0 ki.hd ki.fl pp) _) _=_
      rw [he]
      show c8 (Bv (cn m) x ki.hd ki.fl (pi++[(i:Int)]) _ (j+1) (mU ks++[(h',f')])) _=_
      rw [show mU (ks++[k'])=mU ks++[(h',f')] by rw [mU,UE,←eh,←ef]; rfl]
   ·rintro σ H6 ⟨as,ks,zs,⟨o9,qe,qa,rfl⟩,A5,hkl,Kg,Qh,g6,xX,Ks,hz0,dX⟩
    rw [Sq]at hkl Ks hz0 dX
    refine hT2 _ _ ⟨as,ks,zs,⟨_,_,_,rfl⟩,A5,hkl,Kg,g6.f_ Au,g6,xX,?_,?_⟩
    ·cases hq:bY x with
     | false=>have:=hz0 (by rw [(lj hq).1]; rfl); omega
     | true =>
      obtain⟨m,rfl⟩ :∃m,n=m+1:=by
       cases n with
       | zero=>rw [J9 ha]at hq; cases hq
       | succ m=>exact⟨m,rfl⟩
      have:=Ks m rfl
      rw [(lR hq).1]at this
      rw [mZ]
      omega
    ·intro hq
     obtain⟨m,rfl⟩ :∃m,n=m+1:=by
      cases n with
      | zero=>rw [J9 ha]at hq; cases hq
      | succ m=>exact⟨m,rfl⟩
     have:=dX m rfl hq
     rw [List.drop_length]at this
     exact this
  rintro σ H6 ⟨as0,PZ,zs,⟨o9,qe,qa,rfl⟩,qH,Fo,Od,rm,g6,xX,Ks,dX⟩
  refine k_ (λσ H7=>∃(as:List Addr) (ks:List Kn),σ=[some (.ref p),some (.ref b),some (.ref pl),some (.ref fl),some (.ref kb),some (.int (i:Nat)),some (.ref a),some (.ref u2),some (.ref L),o9,qe,qa]/\jl H7 L as ks/\ks.length=C7 x/\(∀k∈ks,mR k)/\(bY x=false->ks=[ki])/\aE H4 H7/\eI fl H4 H7/\H7 fl=some (.lst zs)/\putL (cn n) pi 0 k.hd k.fl ws=c8 (iu x ki.hd ki.fl (pi++[(i:Int)]) (mU ks)) λh' f'=>putL (cn n) pi (i+1) h' f' (ws.drop (i+1))) (λT3 Kt=>?_) ?_
  ·refine⟨_,rfl,L,_,rfl,.inl (aZ.of qH.lst),rfl,_,rfl,?_⟩
   cases hq:bY x with
   | false =>
    have e0:as0=[]:=List.eq_nil_of_length_eq_zero (by rw [qH.len,Fo,(lj hq).1]; rfl)
    subst e0
    have ek:PZ=[]:=List.eq_nil_of_length_eq_zero (by rw [Fo,(lj hq).1]; rfl)
    subst ek
    refine bX ⟨_,rfl,.inl ⟨rfl,_,aZ.of qH.lst⟩,_,rfl,L,_,_,rfl,rfl,qH.lst,(by show 0<sizeLine; decide),Kt _ _ ⟨[kb],[ki],rfl,?_,(lj hq).2.symm,?_,λ_=>rfl,rm.uE qH.lst,eI.new hL g6,?_,?_⟩⟩
    ·exact vI qH (λa k z=>z.keep (aE.refl.uE qH.lst)) ((hki.keep Ce).keep (rm.uE qH.lst)) (by rw [ag]; rfl)
    ·intro k2 hk2; rw [List.mem_singleton.mp hk2]; exact hoi
    ·rw [aI (Ne.symm Kx)]; exact xX
    ·rw [hrun,iZ hq]; rfl
   | true =>
    have e2:as0.length=2:=by rw [qH.len,Fo,(lR hq).1]
    rw [UA (by rw [UC,e2]; intro z; cases z)]
    exact bA (aG (Kt _ _ ⟨as0,PZ,rfl,qH,by rw [Fo,(lR hq).1,(lR hq).2],Od,λz=>(by rw [hq]at z; cases z),rm,g6,xX,dX hq⟩))
  rintro σ H7 ⟨as,ks,rfl,A5,hkn,Gz,hone,NQ,g7,NY,Hb⟩
  have P_:aE H H7:=JH.trans NQ
  have Lf:gu H7 kb ki:=(hki.keep Ce).keep NQ
  have hla:(as.map V.ref).length=ks.length:=by rw [UC,A5.len]
  have hn2:ks.length<=2:=by rw [hkn]; exact Bk
  refine⟨_,rfl,_,rfl,_,rfl,L,rfl,⟨_,aZ.of A5.lst⟩,λD2 hD2=>?_⟩
  refine dI (xs:=as.map V.ref) (λi σ ys H'=>(∃o1 o2 o3,σ=[o1,o2,o3])/\(∃bs:List Addr,ys=bs.map V.ref/\bs.length=i/\∀(j:Nat) a k,bs[j]? = some a->ks[j]? = some k->dW H7 a k.hd)/\H' D2=some (.lst ys)/\aM H7 H') ⟨⟨none,none,none,rfl⟩,⟨[],rfl,rfl,λj a k e=>by cases e⟩,ag,aj hD2 _⟩ ?_ ?_ ?_ ?_ ?_
  ·rintro i σ ys H' _ ⟨_,⟨bs,rfl,hi,_⟩,h,_⟩
   exact⟨h,by rw [UC]; exact Nat.le_of_eq hi⟩
  ·rintro i σ ys H' _ ⟨_,_,_,sm⟩
   exact aZ.of (sm _ _ A5.lst)
  ·rw [hla]; exact Uz hn2 (by decide)
  ·rintro i v σ ys H' hv ⟨⟨o1,o2,o3,rfl⟩,⟨bs,rfl,hi,hb⟩,h,sm⟩
   obtain⟨b',k',rfl,ek,hh',p',hq1,hq2,Up⟩:=A5.get hv
   refine⟨b',_,rfl,aH.of (sm _ _ hq1),rfl,_,_,rfl,ak ⟨_,_,rfl,ak ⟨_,_,rfl,ak ⟨rfl,?_⟩⟩⟩⟩
   refine⟨_,rfl,h,⟨_,_,_,rfl⟩,⟨bs++[hh'],by rw [UE]; rfl,by rw [UD,hi]; rfl,λj a k e1 e2=>?_⟩,ag,bq hD2 sm⟩
   by_cases hj:j<bs.length
   ·rw [List.getElem?_append_left hj]at e1
    exact hb j a k e1 e2
   ·have hj':j=bs.length:=by
     have:=(List.getElem?_eq_some_iff.mp e1).1
     rw [UD]at this
     simp at this
     omega
    rw [hj',List.getElem?_append_right (Uy _),Nat.sub_self]at e1
    cases e1
    rw [hj',hi,ek]at e2
    cases e2
    exact hq2
  rintro σ ys' H8 ⟨_,⟨ds,rfl,hi,hb⟩,h8,s8⟩
  rw [hla]at hi
  have Px:=P_.trans (aE.of s8)
  refine⟨a,kb,D2,x,ki,ds,jQ ks,rfl,ha.keep Px,Lf.same s8,yG h8 hi (λi a k e1 e2=>s8 _ _ (hb i a k e1 e2)),by rw [jQ,UC,hkn],L7,Uz hoi.few (by decide),λh hh=>by obtain⟨k,hk,rfl⟩:=List.mem_map.mp hh; exact Uz (Gz k hk).hd (by decide),λH9 s9=>ak ?_⟩
  have KJ:=s8.trans s9
  have Rb:=P_.trans (aE.of KJ)
  have g9:eI fl H H9:=(g.trans g4).trans (g7.trans (eI.of KJ))
  rw [J7]
  have hfin:iu x ki.hd ki.fl (pi++[(i:Int)]) (mU ks)=match i7 x ki.fl (jQ ks)with | some s=>.no (pi++[(i:Int)]) s | none=>.ok (bH x (jQ ks)) (Eo x ki.hd ki.fl (ks.map Kn.fl)):=by
   unfold iu
   rw [E3,Fu]
   first | done | (cases i7 x ki.fl (jQ ks) <;> rfl)
  cases ew:i7 x ki.fl (jQ ks)with
  | some s =>
   rw [ew]at hfin
   have ht:putL (cn n) pi 0 k.hd k.fl ws=.no (pi++[(i:Int)]) s:=by rw [Hb,hfin]; rfl
   dsimp only
   refine⟨_,rfl,rfl,_,rfl,bX ⟨_,rfl,_,rfl,cM,λe he=>?_⟩⟩
   have ne:∀d o,H9 d=some o->d≠e:=λd o z y=>by subst y; rw [he]at z; cases z
   refine⟨e,_,_,rfl,ag,Cf.xc,Cf.np,Cf.nr,λdx H3 hdx keep h2 h3=>⟨rfl,e,some dx,rfl,h2,?_⟩⟩
   have kk:∀d o,H9 d=some o->H3 d=some o:=λd o z=>keep d o (ne d o z) (by rw [aI (ne d o z)]; exact z)
   have S1:dx≠e:=λy=>by subst y; rw [ag]at hdx; cases hdx
   have NJ:H9 u2=some (.tup ((pi++[(i:Int)]).map V.int)):=(NQ.trans (aE.of KJ)) _ _ wW
   refine qx _ s ht e dx u2 _ (λd o nd z=>?_) ag (by rw [aI S1]; exact h3) ?_
   ·have z9:=g9 _ _ nd z
    rw [aI (ne d o z9)]; exact kk _ _ z9
   ·rw [aI (ne u2 _ NJ)]; exact kk _ _ NJ
  | none =>
   rw [ew]at hfin
   obtain⟨hfit,IH⟩:=sI ew
   dsimp only
   refine⟨_,rfl,rfl,_,rfl,bA (aG ?_)⟩
   dsimp only
   refine⟨_,rfl,_,rfl,_,rfl,a,kb,L,x,ki,as,ks,rfl,ha.keep Rb,Lf.same KJ,A5.same KJ,⟨hkn,L7,hfit,Gr hone hfit,λk hk=>Uz (Gz k hk).hd (by decide),λk hk=>Uz (Gz k hk).few (by decide)⟩,λu k' Ak BL hk' e1 e2 e3=>ak ?_⟩
   refine⟨u,k',zs,⟨_,_,_,_,_,_,_,rfl⟩,hk',mR.next Gz (by rw [e1]; exact IH) e2,g9.trans (eI.of BL),BL _ _ (KJ _ _ NY),?_,?_⟩
   ·rw [Nat.succ_mul]; omega
   ·rw [Hb,hfin,e1,L_ e2 e3]
    rfl
 ·rintro σ H' ⟨kb,ki,ys,⟨o5,o6,o7,o8,o9,qe,qa,rfl⟩,hki,hoi,g,hfl',hyz,hrun⟩
  rw [hlb]at hyz hrun
  rw [List.drop_length]at hrun
  have RM:=Nat.mul_le_mul_right (cW n) hw9
  obtain⟨hh,ph,hk1,hk2,hk3⟩:=hki
  have k0:=g.f_ hfl
  dsimp only
  refine⟨_,rfl,.inl ⟨rfl,_,aZ.of hfl'⟩,_,rfl,_,rfl,p,_,rfl,.inr (aH.of (k0 _ _ hI.tup)),dQ,λu1 jU=>?_⟩
  have sU:=aj jU (.tup [.int ((bs.map V.ref).length:Nat)])
  refine⟨pl,u1,_,_,rfl,rfl,sU _ _ (k0 _ _ hpl),ag,by rw [UC]; exact Uz (show _+1<=1000 by omega) (by decide),λu2 H2 JJ hu2=>?_⟩
  have s2:=sU.trans JJ
  refine⟨_,rfl,kb,_,0,_,rfl,rfl,aH.of (s2 _ _ hk1),av (j:=0) rfl,_,rfl,kb,_,2,_,rfl,rfl,aH.of (s2 _ _ hk1),rfl,gw,λu3 v7=>?_⟩
  have s3:=aj v7 (.tup [.ref u2,.ref hh,.bl ki.lo])
  have M3:=s2.trans s3
  refine⟨fl,_,_,rfl,rfl,M3 _ _ hfl',UG (show ys.length<=100000 by omega) (by decide),_,rfl,?_⟩
  have kU:aE H' (upd (upd H2 u3 (.tup [.ref u2,.ref hh,.bl ki.lo])) fl (.lst (ys++[.ref u3]))):=(aE.of M3).uE (M3 _ _ hfl')
  refine q ki.hd ki.fl hrun kb ki _ ys u3 (g.trans (eI.of M3)).put ⟨hh,ph,kU _ _ hk1,kU _ _ hk2,kU _ _ hk3⟩ hoi rfl rfl ag (by omega) ⟨.ref u2,hh,.bl ki.lo,?_,kU _ _ hk2⟩
  have nf:u3≠fl:=λz=>by have:=s2 _ _ hfl'; rw [←z,v7]at this; cases this
  rw [aI nf]
  exact ag
def f0:Fl:=⟨false,false,false,false,false⟩
def kg(n:Nat)(hd:Hd)(ws:List Wk):Res:=putL (cn n) [] 0 hd f0 ws
def P9(C:Addr)(H:Hp)(a:List Int)(s:Str)(E:XK):Prop:=∀(e dx q:Addr) (H':Hp),aM H H'->H' e=some (xO e C (some dx))->H' dx=some (xD dx (Ar (.ref q) (.str s)))->H' q=some (.tup (a.map V.int))->E (.ref C) (some e) H'
structure Lh(n:Nat)(H:Hp)(a p:Addr)(hd:Hd)(ws:List Wk):Prop where
 Sz:dW H a hd
 six:hd.length<=6
 pp:jA n H p ws
 ok:ui n ws
def Cy(C:Addr)(n:Nat):Sp:=λvs H Q E=>∃(a p:Addr) (hd:Hd) (ws:List Wk),vs=[.ref a,.ref p]/\Lh n H a p hd ws/\2*n<=100/\bnd n<=100000/\
 (∀x s,kg n hd ws=.no x s->P9 C H x s E)/\
 (∀h f,kg n hd ws=.ok h f->∀(l:Addr) (H':Hp) (xs':List V) (t:Addr),aM H H'->H' l=some (.lst (xs'++[.ref t]))->Hc H' t h->Q (.ref l) H')
theorem ke{fl:Addr}{H H1 H':Hp}(hn:H fl=none)(s:aM H H1)(g:eI fl H1 H'):aM H H':=λb o e=>g _ _ (aU e hn) (s _ _ e)
abbrev ot:Stmt:=top 48
theorem rn:az ["head","pipe","found"] ["head","pipe"] (ar ot):=fs
theorem AV{C:Addr}{n L:Nat}(F:FA K mg "survey" ot)
  (iC:bf (A1 P w) P w K mg base (L+6) "go_through" ["pipe","begun","prefix","found"] (zg C (n+1))) :
  bf (A1 P w) P w K mg base (L+7) "survey" ["head","pipe"] (Cy C n):=by
 refine F.Kr rn λf cdv A outer s H vs Q E hr h=>?_
 have hu:=iN hr
 have hu1:=jY hr
 obtain⟨a,p,hd,ws,rfl,hI,hn2,hbn,qx,q⟩:=h
 refine⟨_,(aq (aL (i:=2) rn.nd rfl (Or.inl rfl) (aQ ah))
   (aq (fG (uG iC hr rfl yZ (ae (pv 1) (ae (aJ (ae (pv 0) (ae (aJ ah) (ae fV ah)))) (ae (aJ ah) (ae (pv 2) ah))))))
   (ax (pv 2)))),?_⟩
 refine⟨Nat.zero_le _,λF hF=>ak ?_⟩
 dsimp only
 have s0:=aj hF (.lst [])
 have O7:upd H F (.lst []) F=some (.lst []):=ag
 revert s0 O7
 generalize upd H F (.lst [])=H0
 intro s0 O7
 refine⟨_,rfl,_,rfl,xg,λu1 jU=>?_⟩
 have s1:=aj jU (.tup [])
 refine⟨gw,λu2 hu2=>?_⟩
 have s2:=aj hu2 (.tup [.ref a,.ref u1,.bl false])
 refine⟨xg,λu3 v7=>?_⟩
 have s3:=aj v7 (.tup [])
 have GL:=s0.trans (s1.trans (s2.trans s3))
 have qd:=s1.trans (s2.trans s3)
 have e1:=s3 _ _ (s2 _ _ (ag (H:=H0) (a:=u1) (o:=.tup [])))
 have e2:=s3 _ _ (ag (H:=upd H0 u1 (.tup [])) (a:=u2) (o:=.tup [.ref a,.ref u1,.bl false]))
 have e3:upd (upd (upd H0 u1 (.tup [])) u2 (.tup [.ref a,.ref u1,.bl false])) u3 (.tup []) u3=some (.tup []):=ag
 revert GL qd e1 e2 e3
 generalize upd (upd (upd H0 u1 (.tup [])) u2 (.tup [.ref a,.ref u1,.bl false])) u3 (.tup [])=H3
 intro GL qd e1 e2 e3
 refine⟨_,rfl,p,u2,u3,F,ws,⟨hd,[],false⟩,[],[],rfl,⟨hI.pp.keep (aE.of GL),⟨a,u1,e2,GL _ _ hI.Sz,e1⟩,e3,qd _ _ O7,hI.ok,⟨hI.six,List.nodup_nil,λs hs=>(by cases hs)⟩,by simpa using hn2,by simpa using hbn⟩,?_,?_⟩
 ·intro x s he e dx q' H' g
  exact qx x s he e dx q' H' (ke hF GL g)
 ·intro h f he u k' H' xs' t g hk' K9 eh ef hfl' RL hE
  exact⟨_,rfl,q h f he F H' xs' t (ke hF GL g) hfl' hE⟩
def MT(C:Addr)(n:Nat):Sp:=λvs H Q E=>∃(a p:Addr) (hd:Hd) (ws:List Wk),vs=[.ref a,.ref p]/\Lh n H a p hd ws/\2*n<=100/\bnd n<=100000/\
 (∀x s,kg n hd ws=.no x s->P9 C H x s E)/\
 (∀h f,kg n hd ws=.ok h f->∀(u:Addr) (H':Hp),aM H H'->dW H' u h->Q (.ref u) H')
abbrev hV:Stmt:=top 49
theorem oF:az ["head","pipe"] ["head","pipe"] (ar hV):=fs
theorem qu{C:Addr}{n L:Nat}(F:FA K mg "head_behind" hV)
  (Bj:bf (A1 P w) P w K mg base (L+7) "survey" ["head","pipe"] (Cy C n)) :
  bf (A1 P w) P w K mg base (L+8) "head_behind" ["head","pipe"] (MT C n):=by
 refine F.Kr oF λf cdv A outer s H vs Q E hr h=>?_
 obtain⟨a,p,hd,ws,rfl,hI,hn2,hbn,qx,q⟩:=h
 refine⟨_,(ax (aA K (bj K (uG Bj hr rfl yZ (ae (pv 0) (ae (pv 1) ah))) (rH lL ai)) ai)),?_⟩
 refine⟨_,rfl,_,rfl,a,p,hd,ws,rfl,hI,hn2,hbn,qx,λh f he l H' xs' t s' hl hE=>?_⟩
 obtain⟨qq,hh,b,h1,h2⟩:=hE
 exact⟨_,rfl,l,_,-1,_,rfl,rfl,aZ.of hl,oK _ _,t,_,1,_,rfl,rfl,aH.of h1,rfl,q h f he hh H' s' h2⟩
end My
namespace L2
open PySem
def BA:List V->Hp->VK->Prop:=λxs H Q=>(∃i,xs=[.int i]/\Q (.int i) H)\/∃k,xs=[.bl k]/\Q (.int (if k then 1 else 0)) H
theorem Aj{X:Cx}:fu X (.type "int") BA:=cA
end L2
namespace My
open PySem L2
theorem Ai{a b c:Str}(h1:v3 a b)(h2:v3 b c):v3 a c:=List.lt_trans h1 h2
theorem pG:∀{a b:List Str},a.Pairwise v3->b.Pairwise v3->(∀s,s∈a↔s∈b)->a=b
 | [],[],_,_,_=>rfl
 | [],y::b,_,_,h=>absurd ((h y).mpr (by simp)) (by simp)
 | x::a,[],_,_,h=>absurd ((h x).mp (by simp)) (by simp)
 | x::a,y::b,ha,hb,h=>by
  rw [List.pairwise_cons]at ha hb
  have e:x=y:=by
   rcases List.mem_cons.mp ((h x).mp (by simp))with e | m1
   ·exact e
   ·rcases List.mem_cons.mp ((h y).mpr (by simp))with e | m2
    ·exact e.symm
    ·exact absurd (Ai (ha.1 y m2) (hb.1 x m1)) m7
  subst e
  rw [pG (a:=a) (b:=b) ha.2 hb.2 λs=>⟨λm=>?_,λm=>?_⟩]
  ·rcases List.mem_cons.mp ((h s).mp (by simp [m]))with e | z
   ·subst e; exact absurd (ha.1 _ m) m7
   ·exact z
  ·rcases List.mem_cons.mp ((h s).mpr (by simp [m]))with e | z
   ·subst e; exact absurd (hb.1 _ m) m7
   ·exact z
def i6(ss:List Str):List Str:=(if("n" : Str)∈ss then(["n"]:List Str)else [])++(if("w" : Str)∈ss then(["w"]:List Str)else [])
theorem kW{ss:List Str}(h:∀s∈ss,s="n"\/s="w")(s:Str):s∈i6 ss↔s∈ss:=by
 unfold i6
 by_cases h1:("n" : Str)∈ss <;> by_cases h2:("w" : Str)∈ss <;> simp only [h1,h2,if_true,if_false,List.mem_append,List.mem_singleton,List.not_mem_nil,or_false,false_or] <;> constructor
 ·rintro(rfl | rfl) <;> assumption
 ·exact λm=>h s m
 ·rintro rfl; assumption
 ·intro m; rcases h s m with rfl | rfl
  ·rfl
  ·exact absurd m h2
 ·rintro rfl; assumption
 ·intro m; rcases h s m with rfl | rfl
  ·exact absurd m h1
  ·rfl
 ·exact False.elim
 ·intro m; rcases h s m with rfl | rfl
  ·exact h1 m
  ·exact h2 m
theorem Ek(ss:List Str):(i6 ss).Pairwise v3:=by
 have hlt:v3 "n" "w":=by unfold v3; decide +kernel
 unfold i6
 by_cases h1:("n" : Str)∈ss <;> by_cases h2:("w" : Str)∈ss <;> simp [h1,h2,hlt]
theorem HA(v:V):sW v="n"\/sW v="w":=by cases v <;> simp [sW]
theorem IW{ms:List Str}{us:List V}(h:zM ms (us.map sW)):ms=i6 (us.map sW):=by
 have hn:∀s∈us.map sW,s="n"\/s="w":=λs hs=>by obtain⟨v,_,rfl⟩:=List.mem_map.mp hs; exact HA v
 exact pG h.1 (Ek _) λs=>(h.2 s).trans (kW hn s).symm
def tG:Sp:=λvs H Q _=>∃(l:Addr) (us:List V),vs=[.ref l]/\H l=some (.lst us)/\us.length<60/\(∀v∈us,dP v)/\∀(u:Addr) (H':Hp),aM H H'->H' u=some (.lst ((i6 (us.map sW)).map V.str))->Q (.ref u) H'
abbrev iR:Stmt:=top 67
theorem qC:az ["_law_cells"] ["_law_cells"] (ar iR):=fs
variable{P:Program}{w:World}{K:PySem.W.Frag}{mg:Str->Option Value}{base:Heap}
theorem Bz(B:jV mg)(B2:iK mg)(B3:Am mg)(Ki:PySem.W.kitOne K (.type "int") (.type "str")=some false)(F:FA K mg "_law_sorts" iR) :
  bf bc P w K mg base 1 "_law_sorts" ["_law_cells"] tG:=by
 refine F.ok qC λf cdv A outer s H vs Q E hr h=>?_
 have hu:=iN hr
 obtain⟨l,us,rfl,hl,hz,hc,q⟩:=h
 refine⟨_,(ax (kH rfl rfl B2.sorted rfl B2.set (bw (N':=["_law_cell_here"]) (src:=[none]) rfl (ba.jL (by kernel_rfl)) (fj (pv 0)) (λcl C s H fp=>(eA (i:=0))) (λcl C s H fp=>aX) (te:=(gO (wb K) (xi (bp (tC (.str "n")) (bp (tC (.str "w")) fD))) (Ky BA (bp (Ky (Mv K "str") (bp (bx 0) (bp (tC (.ty "str")) fD))) fD)))) (λcl C s H fp=>(bj K (aQ (ae ao (ae ao ah))) (aV Aj we B2.int PyProof.Rows.boot_int (ae (a_ (vN (n:="str")) we B.isinstance PyProof.Rows.boot_isinstance (ae (i5 0) (ae (xP (n:="str") we B3.str (by decide +kernel)) ah))) ah))))))),?_⟩
 refine⟨_,rfl,l,rfl,⟨_,aZ.of hl⟩,λD hD=>?_⟩
 refine dI (xs:=us) (λi σ ys H'=>(∃o,σ=[o])/\ys=((us.take i).map sW).map V.str/\ys.length=i/\H' D=some (.lst ys)/\aM H H') ⟨⟨none,rfl⟩,rfl,rfl,ag,aj hD _⟩ ?_ ?_ ?_ ?_ ?_
 ·rintro i σ ys H' _ ⟨_,_,hi,h,_⟩
  exact⟨h,Nat.le_of_eq hi⟩
 ·rintro i σ ys H' _ ⟨_,_,_,_,sm⟩
  exact aZ.of (sm _ _ hl)
 ·exact Uz (show us.length<=60 by omega) (by decide)
 ·rintro i v σ ys H' hv ⟨⟨o,rfl⟩,rfl,hi,h,sm⟩
  refine⟨cM,λR hR=>?_⟩
  have sR:=aj hR (.lst [V.str "n",.str "w"])
  have fin:∀s,sW v=s->upd H' R (.lst [V.str "n",.str "w"]) D=some (.lst (((us.take i).map sW).map V.str))/\((∃o,(List.set [o] 0 (some v))=[o])/\((us.take i).map sW).map V.str++[V.str s]=((us.take (i+1)).map sW).map V.str/\(((us.take i).map sW).map V.str++[V.str s]).length=i+1/\upd (upd H' R (.lst [V.str "n",.str "w"])) D (.lst (((us.take i).map sW).map V.str++[V.str s])) D=some (.lst (((us.take i).map sW).map V.str++[V.str s]))/\aM H (upd (upd H' R (.lst [V.str "n",.str "w"])) D (.lst (((us.take i).map sW).map V.str++[V.str s])))):=by
   rintro s rfl
   refine⟨sR _ _ h,⟨some v,rfl⟩,?_,?_,ag,bq hD (sm.trans sR)⟩
   ·rw [take_one hv,UE,UE]; rfl
   ·rw [UD,hi]; rfl
  rcases hc v (UK hv)with⟨n,rfl⟩ | ⟨x,rfl⟩
  ·obtain⟨f1,f2,f3,f4,f5,f6⟩:=fin "n" rfl
   exact⟨_,rfl,_,_,false,rfl,.int n,Ki,.inr ⟨_,rfl,R,_,0,_,rfl,rfl,aZ.of ag,rfl,f1,⟨_,rfl⟩,f3,f4,f5,f6⟩⟩
  ·obtain⟨f1,f2,f3,f4,f5,f6⟩:=fin "w" rfl
   exact⟨_,rfl,_,_,true,rfl,.str x,ve (by decide),.inr ⟨_,rfl,R,_,1,_,rfl,rfl,aZ.of ag,rfl,f1,⟨_,rfl⟩,f3,f4,f5,f6⟩⟩
 ·rintro σ ys H1 ⟨_,rfl,hi,h,sm⟩
  rw [List.take_length]at h
  refine⟨D,_,rfl,.inl (aZ.of h),by rw [UC,UC]; omega,.inr ⟨_,rfl⟩,λu ys hu' hS=>?_⟩
  have hys:ys=(i6 (us.map sW)).map V.str:=by
   rcases hS with⟨ns,ms,e1,e2,e3,e4⟩ | ⟨ns,ms,e1,e2,e3,e4⟩
   ·cases hus:us with
    | nil =>
     rw [hus]at e1
     cases ns with
     | nil =>
      cases ms with
      | nil=>rw [e2]; rfl
      | cons m ms=>exact absurd ((e4 m).mp (by simp)) (by simp)
     | cons n ns=>cases e1
    | cons v vs =>
     rw [hus]at e1
     cases ns with
     | nil=>cases e1
     | cons n ns=>cases e1
   ·have:ns=us.map sW:=(List.map_inj_right (f:=V.str) (λa b e=>V.str.inj e)).mp e1.symm
    subst this
    rw [e2,IW ⟨e3,e4⟩]
  rw [hys]
  exact q u _ (sm.trans (aj hu' _)) ag
def uI(n:Nat):Sp:=λvs H Q _=>∃(a:Addr) (x:Wk),vs=[.ref a]/\dk n H a x/\∀H',aM H H'->Q (.bl (cC x.nm)) H'
abbrev eG:Stmt:=top 73
theorem j7:az ["_law_worker_here"] ["_law_worker_here"] (ar eG):=fs
theorem BR{n:Nat}(F:FA K mg "_law_is_one_row" eG) :
  bf bc P w K mg base 1 "_law_is_one_row" ["_law_worker_here"] (uI n):=by
 refine F.ok j7 λf cdv A outer s H vs Q E hr h=>?_
 obtain⟨a,x,rfl,ha,q⟩:=h
 refine⟨_,(ax (fJ cq (aA K (pv 0) ai) (aQ (ae ao (ae ao (ae ao (ae ao (ae ao ah)))))) rfl)),?_⟩
 obtain⟨xs,h1⟩:=ha.first
 refine⟨_,rfl,a,_,0,_,rfl,rfl,aH.of h1,av (j:=0) rfl,tN,λR hR=>?_⟩
 exact⟨R,mL,rfl,.inl (aZ.of ag),rfl,rfl,q _ (aj hR _)⟩
end My
namespace L2
open PySem
def NZ(neg:Bool):R2:=λx y H Q=>∃a b xs,x=.ref a/\y=.ref b/\H a=some (.lst xs)/\H b=some (.lst [])/\Q (.bl (if neg then !xs.isEmpty else xs.isEmpty)) H
theorem Be{X:Cx}(hu:X.A.units+8<cLine):i8 X (compareOp .NotEq) (NZ true):=by
 intro pins s σ H x y v u Q I rx ry h
 obtain⟨a,b,xs,rfl,rfl,ha,hb,q⟩:=h
 cases xs with
 | nil =>
  refine je pins s σ H _ _ v u Q I rx ry ⟨.lst [],.lst [],lr ha bF.nil,lr hb bF.nil,?_,?_⟩
  ·have:(D.lst []).depth<=8:=by simp [D.depth,cw]
   omega
  ·have e:cN (.lst []) (.lst [])=true:=ji _
   rw [e]; exact q
 | cons z zs=>exact C4 (by omega) pins s σ H _ _ v u Q I rx ry ⟨a,b,_,_,rfl,rfl,aZ.of ha,aZ.of hb,by simp,q⟩
end L2
namespace My
open PySem L2
theorem Jg{x:Wk}:inV (.str x.nm) [.str "keep",.str "turn",.str "must",.str "walk"]=true->∃y,x=.one y/\vn y:=by
 cases x with
 | one x=>cases x <;> simp only [Wk.nm,W1.nm] <;> intro h <;> first | exact⟨_,rfl,_,.inl ⟨_,rfl⟩⟩ | exact⟨_,rfl,_,.inr (.inl ⟨_,rfl⟩)⟩ | exact⟨_,rfl,_,.inr (.inr (.inl ⟨_,rfl⟩))⟩ | exact⟨_,rfl,_,.inr (.inr (.inr ⟨_,rfl⟩))⟩ | exact absurd h (by decide +kernel)
 | both p q=>simp only [Wk.nm]; intro h; exact absurd h (by decide +kernel)
 | meet c d p q=>simp only [Wk.nm]; intro h; exact absurd h (by decide +kernel)
theorem in_list{x:Wk}:inV (.str x.nm) [.str "cut",.str "count"]=true->∃y,x=.one y/\wD y:=by
 cases x with
 | one x=>cases x <;> simp only [Wk.nm,W1.nm] <;> intro h <;> first | exact⟨_,rfl,_,.inl rfl⟩ | exact⟨_,rfl,_,.inr rfl⟩ | exact absurd h (by decide +kernel)
 | both p q=>simp only [Wk.nm]; intro h; exact absurd h (by decide +kernel)
 | meet c d p q=>simp only [Wk.nm]; intro h; exact absurd h (by decide +kernel)
theorem yF{x:Wk}(h:x.nm="same"):∃c d,x=.one (.same c d):=by
 revert h
 cases x with
 | one x=>cases x <;> simp only [Wk.nm,W1.nm] <;> first | (intro h; exact⟨_,_,rfl⟩) | (intro h; exact absurd h (by decide +kernel))
 | both p q=>simp only [Wk.nm]; intro h; exact absurd h (by decide +kernel)
 | meet c d p q=>simp only [Wk.nm]; intro h; exact absurd h (by decide +kernel)
theorem Fi{x:Wk}(h:x.nm="sort"):∃cs,x=.one (.sort cs):=by
 revert h
 cases x with
 | one x=>cases x <;> simp only [Wk.nm,W1.nm] <;> first | (intro h; exact⟨_,rfl⟩) | (intro h; exact absurd h (by decide +kernel))
 | both p q=>simp only [Wk.nm]; intro h; exact absurd h (by decide +kernel)
 | meet c d p q=>simp only [Wk.nm]; intro h; exact absurd h (by decide +kernel)
theorem BB{x:Wk}(h:x.nm="sum"):∃cs c,x=.one (.sum cs c):=by
 revert h
 cases x with
 | one x=>cases x <;> simp only [Wk.nm,W1.nm] <;> first | (intro h; exact⟨_,_,rfl⟩) | (intro h; exact absurd h (by decide +kernel))
 | both p q=>simp only [Wk.nm]; intro h; exact absurd h (by decide +kernel)
 | meet c d p q=>simp only [Wk.nm]; intro h; exact absurd h (by decide +kernel)
theorem D8{x:Wk}(h1:¬inV (.str x.nm) [.str "keep",.str "turn",.str "must",.str "walk"]=true)(h2:x.nm≠"same")(h3:¬inV (.str x.nm) [.str "cut",.str "count"]=true)(h4:x.nm≠"sort")(h5:x.nm≠"sum"):gD x=[]:=by
 cases x with
 | one x=>cases x <;> first | rfl | exact absurd rfl h2 | exact absurd rfl h4 | exact absurd rfl h5 | exact absurd (by simp only [Wk.nm,W1.nm]; decide +kernel) h1 | exact absurd (by simp only [Wk.nm,W1.nm]; decide +kernel) h3
 | both p q=>rfl
 | meet c d p q=>rfl
def wz(n:Nat):Sp:=λvs H Q _=>∃(a:Addr) (x:Wk),vs=[.ref a]/\dk n H a x/\kh x/\∀(u:Addr) (H':Hp),aM H H'->H' u=some (.lst ((gD x).map V.int))->Q (.ref u) H'
abbrev dM:Stmt:=top 68
theorem fq:az ["_law_worker_here","_law_word_here"] ["_law_worker_here"] (ar dM):=fs
variable{P:Program}{w:World}{K:PySem.W.Frag}{mg:Str->Option Value}{base:Heap}
theorem Fq{n:Nat}(B:jV mg)(F:FA K mg "_law_told_columns" dM) :
  bf bc P w K mg base 1 "_law_told_columns" ["_law_worker_here"] (wz n):=by
 refine F.ok fq λf cdv A outer s H vs Q E hr h=>?_
 have hu:=iN hr
 obtain⟨a,x,rfl,ha,hsm,q⟩:=h
 refine⟨_,(aq (aL (i:=1) fq.nd rfl (Or.inl rfl) (aA K (pv 0) ai))
   (aN (de cq (pv 1) (aQ (ae ao (ae ao (ae ao (ae ao ah))))) rfl) (aQ (ae (aA K (pv 0) ai) ah))
   (aN (aW aP (pv 1) ao) (aQ (ae (aA K (pv 0) ai) (ae (aA K (pv 0) ai) ah)))
   (aN (de cq (pv 1) (aQ (ae ao (ae ao ah))) rfl) (aV kO rfl B.list PyProof.Rows.boot_list (ae (aA K (pv 0) ai) ah))
   (aN (aW aP (pv 1) ao) (bw (N':=["_law_column_here","_law_falling"]) (src:=[none,none]) rfl (ba.jL (by kernel_rfl)) (cJ (aA K (pv 0) ai)) (g:=(iT K 2 (bP (bz 0) (bP (bz 1) iU)))) (λcl C s H fp=>(cD rfl (aD (eA (i:=0)) (aD (eA (i:=1)) bT)))) (λcl C s H fp=>aX) (te:=(bx 0)) (λcl C s H fp=>(i5 0)))
   (ax (eR (aW aP (pv 1) ao) (aF pA (aV kO rfl B.list PyProof.Rows.boot_list (ae (aA K (pv 0) ai) ah)) (aQ (ae (aA K (pv 0) ai) ah))) (aQ ah)))))))),?_⟩
 obtain⟨xs,h1⟩:=ha.first
 refine⟨_,rfl,a,_,0,_,rfl,rfl,aH.of h1,av (j:=0) rfl,ak ?_⟩
 dsimp only
 refine⟨_,rfl,Lw,λR1 NO=>⟨R1,_,rfl,.inl (aZ.of ag),rfl,rfl,_,rfl,?_⟩⟩
 have t1:=aj NO (.lst [V.str "keep",.str "turn",.str "must",.str "walk"])
 revert t1
 generalize upd H R1 (.lst [V.str "keep",.str "turn",.str "must",.str "walk"])=H1
 intro t1
 refine cI (λk=>?_) (λk1=>aG ?_)
 ·obtain⟨y,rfl,hy⟩:=Jg k
  obtain⟨c,v,vs,h2,hc⟩:=hy.at_ (bW.mp ha)
  refine⟨_,rfl,a,_,1,_,rfl,rfl,aH.of (t1 _ _ h2),av (j:=1) rfl,dQ,λu hu=>q u _ (t1.trans (aj hu _)) ?_⟩
  rw [ag]
  show _=some (HO.lst ((c7 y).map V.int))
  rw [hc]
  rfl
 refine⟨_,rfl,rfl,_,rfl,?_⟩
 rw [bM]
 by_cases e2:x.nm="same"
 ·rw [UB e2]
  obtain⟨c,d,rfl⟩:=yF e2
  have h2:H a=some (.tup [.str "same",.int c,.int d]):=bW.mp ha
  exact bX ⟨_,rfl,a,_,1,_,rfl,rfl,aH.of (t1 _ _ h2),rfl,_,rfl,a,_,2,_,rfl,rfl,aH.of (t1 _ _ h2),rfl,cM,λu hu=>q u _ (t1.trans (aj hu _)) ag⟩
 rw [UA e2]
 refine bA (aG ⟨_,rfl,cM,λR2 yP=>⟨R2,_,rfl,.inl (aZ.of ag),rfl,rfl,_,rfl,?_⟩⟩)
 have TK:=aj yP (.lst [V.str "cut",.str "count"])
 have t2:=t1.trans TK
 revert t2
 generalize upd H1 R2 (.lst [V.str "cut",.str "count"])=H2
 intro t2
 refine cI (λk=>?_) (λk3=>aG ?_)
 ·obtain⟨y,rfl,cs,rfl | rfl⟩:=in_list k
  ·obtain⟨t,h2,h3⟩:=bW.mp ha
   exact⟨_,rfl,a,_,1,_,rfl,rfl,aH.of (t2 _ _ h2),rfl,t,_,rfl,.inr (aH.of (t2 _ _ h3)),λu hu=>q u _ (t2.trans (aj hu _)) ag⟩
  ·obtain⟨t,h2,h3⟩:=bW.mp ha
   exact⟨_,rfl,a,_,1,_,rfl,rfl,aH.of (t2 _ _ h2),rfl,t,_,rfl,.inr (aH.of (t2 _ _ h3)),λu hu=>q u _ (t2.trans (aj hu _)) ag⟩
 refine⟨_,rfl,rfl,_,rfl,?_⟩
 rw [bM]
 by_cases e4:x.nm="sort"
 ·rw [UB e4]
  obtain⟨cs,rfl⟩:=Fi e4
  obtain⟨t,bs,h2,hI⟩:=bW.mp ha
  have hs:cs.length<=1000:=hsm
  have hl:(bs.map V.ref).length=cs.length:=by rw [UC,hI.len]
  refine bX ⟨_,rfl,a,_,1,_,rfl,rfl,aH.of (t2 _ _ h2),rfl,t,rfl,⟨_,aH.of (t2 _ _ hI.tup)⟩,λD hD=>?_⟩
  refine cF (xs:=bs.map V.ref) (λi σ ys H'=>(∃o1 o2,σ=[o1,o2])/\ys=(cs.take i).map V.int/\ys.length=i/\H' D=some (.lst ys)/\aM H2 H') ⟨⟨none,none,rfl⟩,rfl,rfl,ag,aj hD _⟩ ?_ ?_ ?_ ?_ ?_
  ·rintro i σ ys H' _ ⟨_,_,hi,h,_⟩
   exact⟨h,Nat.le_of_eq hi⟩
  ·rintro i σ ys H' _ ⟨_,_,_,_,sm⟩
   exact aH.of (sm _ _ (t2 _ _ hI.tup))
  ·rw [hl]; exact Uz hs (by decide)
  ·rintro i x σ ys H' hx ⟨⟨o1,o2,rfl⟩,rfl,hi,h,sm⟩
   obtain⟨b,c,rfl,ec,bb,hb⟩:=hI.get hx
   refine⟨b,_,rfl,aH.of (sm _ _ (t2 _ _ hb)),rfl,_,_,rfl,ak ⟨_,_,rfl,ak ⟨rfl,?_⟩⟩⟩
   refine⟨_,rfl,h,⟨_,_,rfl⟩,?_,?_,ag,bq hD sm⟩
   ·rw [take_one ec,UE]; rfl
   ·rw [UD,hi]; rfl
  ·rintro σ ys H' ⟨_,rfl,_,h,sm⟩
   rw [hl,List.take_length]at h
   exact q D H' (t2.trans sm) h
 rw [UA e4]
 refine bA (aG ⟨_,rfl,rfl,_,rfl,?_⟩)
 rw [bM]
 by_cases e5:x.nm="sum"
 ·rw [UB e5]
  obtain⟨cs,c,rfl⟩:=BB e5
  obtain⟨t,h2,h3⟩:=bW.mp ha
  have hs:cs.length<=1000:=hsm
  refine bX ⟨_,rfl,a,_,1,_,rfl,rfl,aH.of (t2 _ _ h2),rfl,t,_,rfl,.inr (aH.of (t2 _ _ h3)),λu hu=>?_⟩
  have s3:=aj hu (.lst (cs.map V.int))
  refine⟨_,rfl,a,_,2,_,rfl,rfl,aH.of (s3 _ _ (t2 _ _ h2)),rfl,dQ,λu2 hu2=>?_⟩
  have s4:=aj hu2 (.lst [V.int c])
  refine⟨u,u2,_,_,rfl,rfl,s4 _ _ ag,ag,?_,λu3 v7=>q u3 _ (t2.trans (s3.trans (s4.trans (aj v7 _)))) ?_⟩
  ·rw [UC]
   exact Uz (show cs.length+1<=1001 by omega) (by decide)
  ·rw [ag]
   show _=some (HO.lst ((cs++[c]).map V.int))
   rw [UE]
   rfl
 rw [UA e5]
 refine bA ⟨Nat.zero_le _,λu hu=>q u _ (t2.trans (aj hu _)) ?_⟩
 rw [ag,D8 k1 e2 k3 e4 e5]
 rfl
def kM(x:Wk)(h:Hd)(es:List Hd):List Hd:=if bY x=true then es else [h]
def Ld(x:Wk):Prop:=∀c∈gD x,1<=c
def BC:Wk->Prop
 | .meet c d _ _=>1<=c/\1<=d
 | _=>True
def J6:Wk->Prop
 | .one x=>D_ x
 | _=>True
structure vf(n:Nat)(H:Hp)(a b l:Addr)(x:Wk)(h:Hd)(as:List Addr)(es:List Hd):Prop where
 wk:dk n H a x
 hd:dW H b h
 en:fQ H l as es
 n:bY x=true->es.length=2
 sm:kh x
 pos:Ld x
 posm:BC x
 dr:J6 x
theorem vf.same{n:Nat}{H H':Hp}{a b l:Addr}{x:Wk}{h:Hd}{as:List Addr}{es:List Hd}(s:aM H H')(i:vf n H a b l x h as es):vf n H' a b l x h as es:=⟨i.wk.keep (aE.of s),s _ _ i.hd,i.en.same s,i.n,i.sm,i.pos,i.posm,i.dr⟩
def yY(n:Nat):Sp:=λvs H Q _=>∃(a b l:Addr) (x:Wk) (h:Hd) (as:List Addr) (es:List Hd),vs=[.ref a,.ref b,.ref l]/\vf n H a b l x h as es/\∀H',aM H H'->Q (.bl (!dc x (kM x h es))) H'
theorem nU{c:Int}{h:Hd}(hc:1<=c):there c h=decide (c<=(h.length:Nat)):=by
 unfold there
 rw [UB hc,Bool.true_and]
theorem uJ{cs:List Int}{i:Nat}{c:Int}{p:Int->Bool}(h:cs[i]? = some c):(cs.take (i+1)).filter p=(cs.take i).filter p++(if p c=true then [c]else []):=by
 rw [take_one h,List.filter_append]
 congr 1
 by_cases e:p c=true <;> simp [e]
theorem Fw{cs:List Int}{h:Hd}(hp:∀c∈cs,1<=c):(cs.filter λc=>decide ((h.length:Int)<c)).isEmpty=cs.all λc=>there c h:=by
 induction cs with
 | nil=>rfl
 | cons c cs ih =>
  have ih:=ih λc hc=>hp c (by simp [hc])
  have hc:=hp c (by simp)
  rw [List.all_cons,←ih,nU hc,List.filter_cons]
  by_cases z:c<=(h.length:Nat)
  ·rw [UB z,UA (show¬(h.length:Int)<c by omega)]; simp
  ·rw [UA z,UB (show(h.length:Int)<c by omega)]; simp
abbrev fe:Stmt:=top 69
theorem ll:az ["_law_worker_here","_law_head","_law_ends"] ["_law_worker_here","_law_head","_law_ends"] (ar fe):=fs
theorem Bt{n:Nat}(B:jV mg)(F:FA K mg "_law_no_column" fe)
  (dO:bf bc P w K mg base 1 "_law_told_columns" ["_law_worker_here"] (wz n)) :
  bf bc P w K mg base 2 "_law_no_column" ["_law_worker_here","_law_head","_law_ends"] (yY n):=by
 refine F.ok ll λf cdv A outer s H vs Q E hr h=>?_
 have hu:=iN hr
 have hu1:=jY hr
 obtain⟨a,b,l,x,h,as,es,rfl,hI,q⟩:=h
 refine⟨_,(aN (aW aP (aA K (pv 0) ai) ao) (fY (bU ik (aA K (pv 0) ai) (a_ bE rfl B.len PySem.boot_len (ae (bj K (pv 2) ai) ah))) (cY (bU ik (aA K (pv 0) ai) (a_ bE rfl B.len PySem.boot_len (ae (bj K (pv 2) ai) ah)))))
   (ax (bU (Be hu) (bw (N':=["_law_column_here","_law_head"]) (src:=[none,some 1]) rfl (ba.jL (by kernel_rfl)) (fj (ay dO hr (ae (pv 0) ah))) (λcl C s H fp=>(eA (i:=0))) (tc:=(rE (gO (AN λi j=>.bl (decide (j<i))) (bx 0) (Ky (LR K) (bp (bx 1) fD))))) (λcl C s H fp=>oA (aW ik (i5 0) (a_ Ac we B.len PySem.boot_len (ae (yI 1) ah)))) (te:=(bx 0)) (λcl C s H fp=>(i5 0))) (aQ ah)))),?_⟩
 obtain⟨xs,h1⟩:=hI.wk.first
 refine⟨_,rfl,a,_,0,_,rfl,rfl,aH.of h1,av (j:=0) rfl,rfl,_,rfl,?_⟩
 rw [bM]
 by_cases e:x.nm="meet"
 ·rw [UB e]
  obtain⟨c,d,p,q',rfl⟩:=iW e
  obtain⟨h0,h2,rfl⟩:=dF (hI.n rfl)
  obtain⟨a0,e0,gq⟩:=hI.en.nth (i:=0) rfl
  obtain⟨a1,e1,uH⟩:=hI.en.nth (i:=1) rfl
  have ha:=hI.wk
  have hp:1<=c/\1<=d:=hI.posm
  cases n with
  | zero=>exact False.elim ha
  | succ n =>
  obtain⟨b',e',bs,es',h1,_⟩:=ha
  have q:=q H (aM.refl _)
  have q:Q (.bl (!(there c h0&&there d h2))) H:=q
  rw [nU hp.1,nU hp.2]at q
  refine bX ⟨_,rfl,a,_,1,_,rfl,rfl,aH.of h1,rfl,_,rfl,l,_,0,_,rfl,rfl,aZ.of hI.en.lst,av (j:=0) e0,a0,_,rfl,.inr (aH.of gq),_,_,rfl,rfl,_,rfl,?_⟩
  rw [UC]
  refine cI (λk=>?_) (λk=>?_)
  ·have k:=of_decide_eq_true k
   rw [UA (show¬c<=(h0.length:Nat) by omega)]at q
   exact q
  ·have k:¬(h0.length:Nat)<c:=λz=>k (UB z)
   rw [UB (show c<=(h0.length:Nat) by omega),Bool.true_and]at q
   refine⟨_,rfl,a,_,2,_,rfl,rfl,aH.of h1,rfl,_,rfl,l,_,1,_,rfl,rfl,aZ.of hI.en.lst,av (j:=1) e1,a1,_,rfl,.inr (aH.of uH),_,_,rfl,rfl,?_⟩
   rw [UC]
   show Q (.bl (decide ((h2.length:Int)<d))) H
   by_cases z:d<=(h2.length:Nat)
   ·rw [UB z]at q
    rw [UA (show¬(h2.length:Int)<d by omega)]
    exact q
   ·rw [UA z]at q
    rw [UB (show(h2.length:Int)<d by omega)]
    exact q
 rw [UA e]
 have Of:dc x (kM x h es)=(gD x).all λc=>there c h:=by
  cases x with
  | one x=>rfl
  | both p q=>rfl
  | meet c d p q=>exact absurd rfl e
 have Rv:(h.map V.str).length=h.length:=UC _
 refine bA (aG ⟨_,rfl,a,x,rfl,hI.wk,hI.sm,λu H1 s1 jU=>⟨u,rfl,⟨_,aZ.of jU⟩,λD hD=>?_⟩⟩)
 refine dI (xs:=(gD x).map V.int) (λi σ ys H'=>(∃o,σ=[o,some (.ref b)])/\ys=(((gD x).take i).filter λc=>decide ((h.length:Int)<c)).map V.int/\ys.length<=i/\H' D=some (.lst ys)/\aM H1 H') ⟨⟨none,rfl⟩,rfl,Uy _,ag,aj hD _⟩ ?_ ?_ ?_ ?_ ?_
 ·rintro i σ ys H' _ ⟨_,_,hi,h,_⟩
  exact⟨h,hi⟩
 ·rintro i σ ys H' _ ⟨_,_,_,_,sm⟩
  exact aZ.of (sm _ _ jU)
 ·rw [UC]; exact Uz (rj hI.sm) (by decide)
 ·rintro i v σ ys H' hv ⟨⟨o,rfl⟩,rfl,hi,hh,sm⟩
  rw [List.getElem?_map]at hv
  cases ec:(gD x)[i]? with
  | none=>rw [ec]at hv; cases hv
  | some c =>
   rw [ec]at hv
   have hv:V.int c=v:=Option.some.inj hv
   subst hv
   refine⟨_,rfl,_,rfl,b,_,rfl,.inr (aH.of (sm _ _ (s1 _ _ hI.hd))),_,_,rfl,rfl,_,rfl,?_⟩
   refine cI (λk=>?_) (λk=>?_) <;> rw [Rv]at k
   ·refine⟨_,rfl,hh,⟨_,rfl⟩,?_,by rw [UD]; exact Nat.add_le_add_right hi 1,ag,bq hD sm⟩
    rw [uJ ec,if_pos k,UE]; rfl
   ·refine⟨⟨_,rfl⟩,?_,Nat.le_succ_of_le hi,hh,sm⟩
    rw [uJ ec,if_neg k,List.append_nil]
 ·rintro σ ys H' ⟨_,rfl,_,hh,sm⟩
  rw [UC,List.take_length]at hh
  refine⟨Nat.zero_le _,λR hR=>⟨D,R,_,rfl,rfl,aj hR _ _ _ hh,ag,?_⟩⟩
  have q:=q _ (s1.trans (sm.trans (aj hR (.lst []))))
  rw [Of,←Fw hI.pos]at q
  show Q (.bl (!(((gD x).filter _).map V.int).isEmpty)) _
  rw [List.isEmpty_map]
  exact q
def tD:W1->Str->Bool
 | .walk _ mv,t=>!(decide (i6 ((mv.filter λv=>!decide (v=.non)).map sW)=[])||decide (i6 ((mv.filter λv=>!decide (v=.non)).map sW)=[t]))
 | .turn _ ps,t=>!decide (i6 ((ps.map λp=>p.1).map sW)=[t]) || !decide (i6 ((ps.map λp=>p.2).map sW)=[t])
 | .must _ ps,t=>!decide (i6 ((ps.map λp=>p.1).map sW)=[t])||decide (1<(i6 ((ps.map λp=>p.2).map sW)).length)
 | _,_=>false
def qP(x:W1):Prop:=(∃c ps,x=.turn c ps)\/(∃c ps,x=.must c ps)\/∃c mv,x=.walk c mv
def K1(n:Nat):Sp:=λvs H Q _=>∃(a:Addr) (x:W1) (t:Str),vs=[.ref a,.str t]/\dk n H a (.one x)/\qP x/\D_ x/\∀H',aM H H'->Q (.bl (tD x t)) H'
theorem jg(s t:List Str):cN (.lst (s.map D.str)) (.lst (t.map D.str))=decide (s=t):=by
 rw [←nG s t]
 simp only [cN]
theorem kE{K:PySem.W.Frag}{H:Hp}{a:Addr}{h:List Str}(e:H a=some (.lst (h.map V.str))):aY K H (.lst (h.map D.str)) (.ref a):=lr e (lU h)
theorem uM(h:List Str):(D.lst (h.map D.str)).depth<=1:=by
 have:=kd h
 simp only [D.depth]at this⊢
 exact this
theorem rz{mv:List V}{i:Nat}{v:V}{p:V->Bool}(h:mv[i]? = some v):(mv.take (i+1)).filter p=(mv.take i).filter p++(if p v=true then [v]else []):=by
 rw [take_one h,List.filter_append]
 congr 1
 by_cases e:p v=true <;> simp [e]
theorem FH{x:W1}(hx:qP x)(h:x.nm="walk"):∃c mv,x=.walk c mv:=by
 rcases hx with⟨c,ps,rfl⟩ | ⟨c,ps,rfl⟩ | h
 ·exact absurd h (by simp only [W1.nm]; decide +kernel)
 ·exact absurd h (by simp only [W1.nm]; decide +kernel)
 ·exact h
theorem F8{v:V}(h:v=.non\/dP v)(n:¬decide (v=.non)=true):dP v:=by
 rcases h with rfl | h
 ·exact absurd (UB rfl) n
 ·exact h
abbrev cK:Stmt:=top 70
theorem dN:az ["_law_worker_here","_law_here","_law_ones","_law_others"] ["_law_worker_here","_law_here"] (ar cK):=fs
theorem AB{n:Nat}(B:jV mg)(F:FA K mg "_law_cells_wrong" cK)
  (eO:bf bc P w K mg base 1 "_law_sorts" ["_law_cells"] tG) :
  bf bc P w K mg base 2 "_law_cells_wrong" ["_law_worker_here","_law_here"] (K1 n):=by
 refine F.ok dN λf cdv A outer s H vs Q E hr h=>?_
 have hu:=iN hr
 have hu1:=jY hr
 obtain⟨a,x,t,rfl,ha,hx,hd,q⟩:=h
 refine⟨_,(aN (aW aP (aA K (pv 0) ai) ao) (fJ q5 (ay eO hr (ae (bw (N':=["_law_state_here","_law_cell_here","_law_after"]) (src:=[none,none,none]) rfl (ba.jL (by kernel_rfl)) (cJ (aA K (pv 0) ai)) (g:=(iT K 3 (bP (bz 0) (bP (bz 1) (bP (bz 2) iU))))) (λcl C s H fp=>(cD rfl (aD (eA (i:=0)) (aD (eA (i:=1)) (aD (eA (i:=2)) bT))))) (tc:=(rE (gO (λx y H Q=>y=.non/\Q (.bl (!decide (x=.non))) H) (bx 1) (tC .non)))) (λcl C s H fp=>oA (aW sQ (i5 1) iI)) (te:=(bx 1)) (λcl C s H fp=>(i5 1))) ah)) (aQ (ae (aQ ah) (ae (aQ (ae (pv 1) ah)) ah))) rfl)
   (aq (aL (i:=2) dN.nd rfl (Or.inl rfl) (ay eO hr (ae (bw (N':=["_law_a","_law_b"]) (src:=[none,none]) rfl (ba.jL (by kernel_rfl)) (cJ (aA K (pv 0) ai)) (g:=(iT K 2 (bP (bz 0) (bP (bz 1) iU)))) (λcl C s H fp=>(cD rfl (aD (eA (i:=0)) (aD (eA (i:=1)) bT)))) (λcl C s H fp=>aX) (te:=(bx 0)) (λcl C s H fp=>(i5 0))) ah)))
   (aq (aL (i:=3) dN.nd rfl (Or.inl rfl) (ay eO hr (ae (bw (N':=["_law_a","_law_b"]) (src:=[none,none]) rfl (ba.jL (by kernel_rfl)) (cJ (aA K (pv 0) ai)) (g:=(iT K 2 (bP (bz 0) (bP (bz 1) iU)))) (λcl C s H fp=>(cD rfl (aD (eA (i:=0)) (aD (eA (i:=1)) bT)))) (λcl C s H fp=>aX) (te:=(bx 1)) (λcl C s H fp=>(i5 1))) ah)))
   (aN (aW aP (aA K (pv 0) ai) ao) (fY (bU je (pv 2) (aQ (ae (pv 1) ah))) (cY (bU je (pv 3) (aQ (ae (pv 1) ah)))))
   (ax (fY (bU je (pv 2) (aQ (ae (pv 1) ah))) (cY (bU ik (a_ bE rfl B.len PySem.boot_len (ae (pv 3) ah)) ai)))))))),?_⟩
 obtain⟨xs,h1⟩:=ha.first
 refine⟨_,rfl,a,_,0,_,rfl,rfl,aH.of h1,av (j:=0) rfl,rfl,_,rfl,?_⟩
 rw [bM]
 by_cases e:x.nm="walk"
 ·rw [UB (show(Wk.one x).nm="walk" from e)]
  obtain⟨c,mv,rfl⟩:=FH hx e
  obtain⟨st,t',bs,h1,hI⟩:=bW.mp ha
  have hz:mv.length<=50:=hd.ne
  have hg:∀v∈mv,v=.non\/dP v:=hd.good
  have hlb:(bs.map V.ref).length=mv.length:=by rw [UC,hI.len]
  refine bX ⟨_,rfl,a,_,3,_,rfl,rfl,aH.of h1,rfl,t',rfl,⟨_,aH.of hI.tup⟩,λDl hD=>?_⟩
  refine cF (xs:=bs.map V.ref) (λi σ ys H'=>(∃o1 o2 o3,σ=[o1,o2,o3])/\ys=(mv.take i).filter (λv=>!decide (v=.non))/\ys.length<=i/\H' Dl=some (.lst ys)/\aM H H') ⟨⟨none,none,none,rfl⟩,rfl,Uy _,ag,aj hD _⟩ ?_ ?_ ?_ ?_ ?_
  ·rintro i σ ys H' _ ⟨_,_,hi,h,_⟩
   exact⟨h,hi⟩
  ·rintro i σ ys H' _ ⟨_,_,_,_,sm⟩
   exact aH.of (sm _ _ hI.tup)
  ·rw [hlb]; exact Uz hz (by decide)
  ·rintro i v σ ys H' hv ⟨⟨o1,o2,o3,rfl⟩,rfl,hi,h,sm⟩
   obtain⟨b,y,rfl,ey,s1,s2,hb⟩:=hI.get hv
   refine⟨b,_,rfl,aH.of (sm _ _ hb),rfl,_,_,rfl,ak ⟨_,_,rfl,ak ⟨_,_,rfl,ak ⟨rfl,?_⟩⟩⟩⟩
   refine⟨_,rfl,rfl,_,rfl,cI (λk=>?_) (λk=>?_)⟩
   ·refine⟨_,rfl,h,⟨_,_,_,rfl⟩,?_,by rw [UD]; exact Nat.add_le_add_right hi 1,ag,bq hD sm⟩
    rw [rz ey,if_pos k]
   ·refine⟨⟨_,_,_,rfl⟩,?_,Nat.le_succ_of_le hi,h,sm⟩
    rw [rz ey,if_neg k,List.append_nil]
  ·rintro σ ys H1 ⟨_,rfl,hyl,h,sm⟩
   rw [hlb,List.take_length]at h
   rw [hlb,List.take_length]at hyl
   refine⟨Dl,_,rfl,h,by omega,λv hv=>?_,λu H2 s2 hu2=>?_⟩
   ·obtain⟨m1,m2⟩:=List.mem_filter.mp hv
    exact F8 (hg v m1) (by simpa using m2)
   refine⟨Nat.zero_le _,λR1 NO=>⟨_,rfl,dQ,λR2 yP=>⟨cM,λR3 PM=>?_⟩⟩⟩
   have t1:=aj NO (.lst [])
   have t2:=aj yP (.lst [V.str t])
   have t3:=aj PM (.lst [V.ref R1,.ref R2])
   have F7:cw [D.lst [],.lst [.str t]]<=1:=by simp [cw,D.depth]
   refine⟨_,[D.lst [],.lst [.str t]],R3,_,rfl,.inl (aZ.of ag),kE ((t1.trans (t2.trans t3)) _ _ hu2),bF.cons (lr (t3 _ _ (t2 _ _ ag)) bF.nil) (bF.cons (lr (t3 _ _ ag) (bF.cons (gB _) bF.nil)) bF.nil),?_,?_⟩
   ·exact UG (show(A.deeper (PyProof.Rows.envOfC "_law_cells_wrong" (ar cK) s.heap.objs.size f cdv)).units+1+cw _<=_ by omega) hu
   ·have q:=q _ (sm.trans (s2.trans (t1.trans (t2.trans t3))))
    have e1:=jg [] (i6 ((mv.filter λv=>!decide (v=.non)).map sW))
    have e2:=jg [t] (i6 ((mv.filter λv=>!decide (v=.non)).map sW))
    show Q (.bl (!(cN (.lst []) _||(cN (.lst [.str t]) _||false)))) _
    rw [show D.lst []=.lst (([]:List Str).map D.str) from rfl,show D.lst [.str t]=.lst (([t]:List Str).map D.str) from rfl,e1,e2,Bool.or_false]
    have q:Q (.bl (!(decide (i6 ((mv.filter λv=>!decide (v=.non)).map sW)=[])||decide (i6 ((mv.filter λv=>!decide (v=.non)).map sW)=[t])))) _:=q
    rw [show decide (([]:List Str)=i6 ((mv.filter λv=>!decide (v=.non)).map sW))=decide (i6 ((mv.filter λv=>!decide (v=.non)).map sW)=[]) from by simp only [eq_comm],show decide ([t]=i6 ((mv.filter λv=>!decide (v=.non)).map sW))=decide (i6 ((mv.filter λv=>!decide (v=.non)).map sW)=[t]) from by simp only [eq_comm]]
    exact q
 rw [UA (show¬(Wk.one x).nm="walk" from e)]
 have key:∃(c:Int) (ps:List (V×V)) (t':Addr) (bs:List Addr),H a=some (.tup [.str x.nm,.int c,.ref t'])/\bO ku H t' bs ps/\ps.length<=50/\(∀p∈ps,dP p.1/\dP p.2)/\tD x t=(!decide (i6 ((ps.map λp=>p.1).map sW)=[t])||(if x.nm="turn" then !decide (i6 ((ps.map λp=>p.2).map sW)=[t])else decide (1<(i6 ((ps.map λp=>p.2).map sW)).length))):=by
  rcases hx with⟨c,ps,rfl⟩ | ⟨c,ps,rfl⟩ | ⟨c,mv,rfl⟩
  ·obtain⟨t',bs,h1,hI⟩:=bW.mp ha
   exact⟨c,ps,t',bs,h1,hI,hd.ne.2,hd.good,by rw [if_pos (show(W1.turn c ps).nm="turn" from rfl)]; rfl⟩
  ·obtain⟨t',bs,h1,hI⟩:=bW.mp ha
   exact⟨c,ps,t',bs,h1,hI,hd.ne.2,hd.good,by rw [if_neg (by simp only [W1.nm]; decide +kernel)]; rfl⟩
  ·exact absurd rfl e
 obtain⟨c,ps,t',bs,h1,hI,hz,hg,hcw⟩:=key
 rw [hcw]at q
 have hlb:(bs.map V.ref).length=ps.length:=by rw [UC,hI.len]
 refine bA (aG ⟨_,rfl,a,_,2,_,rfl,rfl,aH.of h1,rfl,t',rfl,⟨_,aH.of hI.tup⟩,λDl hD=>?_⟩)
 refine cF (xs:=bs.map V.ref) (λi σ ys H'=>(∃o1 o2,σ=[o1,o2])/\ys=(ps.take i).map (λp=>p.1)/\ys.length=i/\H' Dl=some (.lst ys)/\aM H H') ⟨⟨none,none,rfl⟩,rfl,rfl,ag,aj hD _⟩ ?_ ?_ ?_ ?_ ?_
 ·rintro i σ ys H' _ ⟨_,_,hi,h,_⟩
  exact⟨h,Nat.le_of_eq hi⟩
 ·rintro i σ ys H' _ ⟨_,_,_,_,sm⟩
  exact aH.of (sm _ _ hI.tup)
 ·rw [hlb]; exact Uz hz (by decide)
 ·rintro i v σ ys H' hv ⟨⟨o1,o2,rfl⟩,rfl,hi,h,sm⟩
  obtain⟨b,y,rfl,ey,hb⟩:=hI.get hv
  refine⟨b,_,rfl,aH.of (sm _ _ hb),rfl,_,_,rfl,ak ⟨_,_,rfl,ak ⟨rfl,?_⟩⟩⟩
  refine⟨_,rfl,h,⟨_,_,rfl⟩,?_,?_,ag,bq hD sm⟩
  ·rw [take_one ey,UE]; rfl
  ·rw [UD,hi]; rfl
 rintro σ ys H1 ⟨_,rfl,hyl,h,sm⟩
 rw [hlb,List.take_length]at h
 refine⟨Dl,_,rfl,h,by rw [UC]; omega,λv hv=>?_,λu1 H2 s2 jU=>ak ?_⟩
 ·obtain⟨p,hp,rfl⟩:=List.mem_map.mp hv
  exact(hg p hp).1
 have s12:=sm.trans s2
 dsimp only
 refine⟨_,rfl,a,_,2,_,rfl,rfl,aH.of (s12 _ _ h1),rfl,t',rfl,⟨_,aH.of (s12 _ _ hI.tup)⟩,λD2 hD2=>?_⟩
 refine cF (xs:=bs.map V.ref) (λi σ ys H'=>(∃o1 o2,σ=[o1,o2])/\ys=(ps.take i).map (λp=>p.2)/\ys.length=i/\H' D2=some (.lst ys)/\aM H2 H') ⟨⟨none,none,rfl⟩,rfl,rfl,ag,aj hD2 _⟩ ?_ ?_ ?_ ?_ ?_
 ·rintro i σ ys H' _ ⟨_,_,hi,h,_⟩
  exact⟨h,Nat.le_of_eq hi⟩
 ·rintro i σ ys H' _ ⟨_,_,_,_,sm⟩
  exact aH.of (sm _ _ (s12 _ _ hI.tup))
 ·rw [hlb]; exact Uz hz (by decide)
 ·rintro i v σ ys H' hv ⟨⟨o1,o2,rfl⟩,rfl,hi,h,sm'⟩
  obtain⟨b,y,rfl,ey,hb⟩:=hI.get hv
  refine⟨b,_,rfl,aH.of (sm' _ _ (s12 _ _ hb)),rfl,_,_,rfl,ak ⟨_,_,rfl,ak ⟨rfl,?_⟩⟩⟩
  refine⟨_,rfl,h,⟨_,_,rfl⟩,?_,?_,ag,bq hD2 sm'⟩
  ·rw [take_one ey,UE]; rfl
  ·rw [UD,hi]; rfl
 rintro df S3 H3 ⟨_,rfl,Po,h2,sm3⟩
 rw [hlb,List.take_length]at h2
 refine⟨D2,_,rfl,h2,by rw [UC]; omega,λv hv=>?_,λu2 H4 s4 hu2=>ak ?_⟩
 ·obtain⟨p,hp,rfl⟩:=List.mem_map.mp hv
  exact(hg p hp).2
 have M5:=sm3.trans s4
 have qE:=s12.trans M5
 have Ht:=M5 _ _ jU
 dsimp only
 have F7:∀ss:List Str,(A.deeper (PyProof.Rows.envOfC "_law_cells_wrong" (ar cK) s.heap.objs.size f cdv)).units+(D.lst (ss.map D.str)).depth<cLine:=λss=>UG (Nat.add_le_add_left (Uz (uM ss) (by decide:1<=8)) _) hu
 refine⟨_,rfl,a,_,0,_,rfl,rfl,aH.of (qE _ _ h1),av (j:=0) rfl,rfl,_,rfl,?_⟩
 rw [bM]
 have step:∀(tb:TE) (H5:Hp),True:=λ_ _=>trivial
 by_cases e2:x.nm="turn"
 ·rw [UB e2]
  rw [if_pos e2]at q
  refine bX ⟨_,rfl,_,rfl,dQ,λR hR=>?_⟩
  have tR:=aj hR (.lst [V.str t])
  refine⟨_,_,kE (tR _ _ Ht),kE (h:=[t]) ag,F7 _,_,rfl,?_⟩
  rw [jg]
  by_cases z:i6 ((ps.map λp=>p.1).map sW)=[t]
  ·rw [UB z]at q⊢
   refine bA ⟨_,rfl,_,rfl,dQ,λR2 yP=>?_⟩
   have PN:=aj yP (.lst [V.str t])
   refine⟨_,_,kE (PN _ _ (tR _ _ hu2)),kE (h:=[t]) ag,F7 _,?_⟩
   rw [jg]
   exact q _ (qE.trans (tR.trans PN))
  ·rw [UA z]at q⊢
   exact bX (q _ (qE.trans tR))
 ·rw [UA e2]
  rw [if_neg e2]at q
  refine bA (aG ⟨_,rfl,_,rfl,dQ,λR hR=>?_⟩)
  have tR:=aj hR (.lst [V.str t])
  refine⟨_,_,kE (tR _ _ Ht),kE (h:=[t]) ag,F7 _,_,rfl,?_⟩
  rw [jg]
  by_cases z:i6 ((ps.map λp=>p.1).map sW)=[t]
  ·rw [UB z]at q⊢
   refine bA ⟨_,rfl,u2,_,rfl,.inl (aZ.of (tR _ _ hu2)),_,_,rfl,rfl,?_⟩
   have q:=q _ (qE.trans tR)
   show Q (.bl (decide ((1:Int)<(((i6 ((ps.map λp=>p.2).map sW)).map V.str).length:Nat)))) _
   rw [UC,show decide ((1:Int)<((i6 ((ps.map λp=>p.2).map sW)).length:Nat))=decide (1<(i6 ((ps.map λp=>p.2).map sW)).length) from by simp only [decide_eq_decide]; omega]
   exact q
  ·rw [UA z]at q⊢
   exact bX (q _ (qE.trans tR))
theorem tO(us:List V):∀s∈us.map sW,s="n"\/s="w":=λs hs=>by obtain⟨v,_,rfl⟩:=List.mem_map.mp hs; exact HA v
theorem tE{us:List V}(hn:us≠[])(t:Str):i6 (us.map sW)=[t]↔∀v∈us,sW v=t:=by
 constructor
 ·intro h v hv
  have:=(kW (tO us) (sW v)).mpr (List.mem_map.mpr ⟨v,hv,rfl⟩)
  rw [h]at this
  exact List.mem_singleton.mp this
 ·intro h
  refine pG (Ek _) (List.pairwise_singleton _ _) λs=>(kW (tO us) s).trans ⟨λm=>?_,λm=>?_⟩
  ·obtain⟨v,hv,rfl⟩:=List.mem_map.mp m
   rw [h v hv]; simp
  ·rw [List.mem_singleton.mp m]
   cases us with
   | nil=>exact absurd rfl hn
   | cons v vs=>exact List.mem_map.mpr ⟨v,by simp,h v (by simp)⟩
theorem ue{us:List V}(hn:us≠[])(t:Str):decide (i6 (us.map sW)=[t])=us.all λv=>decide (sW v=t):=by
 apply Bool.eq_iff_iff.mpr
 rw [decide_eq_true_iff,tE hn,List.all_eq_true]
 exact⟨λh v hv=>UB (h v hv),λh v hv=>of_decide_eq_true (h v hv)⟩
theorem Fv(us:List V):decide (1<(i6 (us.map sW)).length) = !cS (us.map sW):=by
 cases us with
 | nil=>rfl
 | cons v vs =>
  by_cases h:∀u∈v::vs,sW u=sW v
  ·rw [(tE (by simp) (sW v)).mpr h]
   have:cS ((v::vs).map sW)=true:=by
    unfold cS
    rw [List.all_eq_true]
    intro s hs
    obtain⟨u,hu,rfl⟩:=List.mem_map.mp hs
    exact UB (h u hu)
   rw [this]
   rfl
  ·have h2:cS ((v::vs).map sW)=false:=by
    apply Bool.eq_false_iff.mpr
    intro z
    unfold cS at z
    rw [List.all_eq_true]at z
    exact h λu hu=>of_decide_eq_true (z (sW u) (List.mem_map.mpr ⟨u,hu,rfl⟩))
   rw [h2]
   have hlen:1<(i6 ((v::vs).map sW)).length:=by
    match hs:i6 ((v::vs).map sW)with
    | [] =>
     have:=(kW (tO (v::vs)) (sW v)).mpr (by simp)
     rw [hs]at this
     cases this
    | [a] =>
     exfalso
     have e:=(tE (by simp) a).mp hs
     exact h λu hu=>by rw [e u hu,e v (by simp)]
    | a::b::r=>simp
   rw [UB hlen]
   rfl
theorem F4{x:W1}{h:Hd}{t:Str}{c:Int}(hx:qP x)(hd:D_ x)(hc:c7 x=[c])(ht:bt h c=t)(nt:t≠"t"):bg (.one x) [h] = !tD x t:=by
 rcases hx with⟨c',ps,rfl⟩ | ⟨c',ps,rfl⟩ | ⟨c',mv,rfl⟩ <;> cases hc
 ·have hn:ps≠[]:=hd.ne.1
  show cR (ps.flatMap λp=>[p.1,p.2]) (bt h c) = !(_||_)
  rw [ht,ue (by simpa using hn),ue (by simpa using hn)]
  unfold cR
  rw [UA nt,List.all_flatMap,List.all_map,List.all_map]
  clear hd hn
  induction ps with
  | nil=>rfl
  | cons p ps ih =>
   simp only [Bool.not_false,Bool.true_and]at ih⊢
   rw [List.all_cons,List.all_cons,List.all_cons,ih]
   simp only [List.all_cons,List.all_nil,Function.comp,Bool.and_true]
   cases decide (sW p.1=t) <;> cases decide (sW p.2=t) <;> simp
 ·have hn:ps≠[]:=hd.ne.1
  show(cS (ps.map λp=>sW p.2)&&cR (ps.map λp=>p.1) (bt h c)) = !(_||_)
  rw [ht,ue (by simpa using hn),Fv]
  unfold cR
  rw [UA nt,List.map_map]
  simp only [Bool.not_or,Bool.not_not,Bool.not_false,Bool.true_and]
  rw [Bool.and_comm]
  rfl
 ·show cR (mv.filter λv=>!decide (v=.non)) (bt h c) = !(!(_||_))
  rw [ht,Bool.not_not]
  unfold cR
  rw [UA nt]
  by_cases e:mv.filter (λv=>!decide (v=.non))=[]
  ·rw [e]; rfl
  ·rw [ue e]
   have:decide (i6 ((mv.filter λv=>!decide (v=.non)).map sW)=[])=false:=by
    apply UA
    intro z
    cases hm:mv.filter (λv=>!decide (v=.non))with
    | nil=>exact e hm
    | cons v vs =>
     have:=(kW (tO (mv.filter λv=>!decide (v=.non))) (sW v)).mpr (by rw [hm]; simp)
     rw [z]at this
     cases this
   rw [this]
   rfl
def pX:W1->Int
 | .keep c _=>c
 | .same _ d=>d
 | .turn c _=>c
 | .must c _=>c
 | .walk c _=>c
 | .sum _ c=>c
 | _=>0
def DZ(x:W1):Prop:=(∃c t,x=.keep c t)\/(∃c d,x=.same c d)\/(∃cs c,x=.sum cs c)\/qP x
theorem C8{x:W1}(h:DZ x):∃pre,c7 x=pre++[pX x]:=by
 rcases h with⟨c,t,rfl⟩ | ⟨c,d,rfl⟩ | ⟨cs,c,rfl⟩ | ⟨c,ps,rfl⟩ | ⟨c,ps,rfl⟩ | ⟨c,mv,rfl⟩
 ·exact⟨[],rfl⟩
 ·exact⟨[c],rfl⟩
 ·exact⟨cs,rfl⟩
 ·exact⟨[],rfl⟩
 ·exact⟨[],rfl⟩
 ·exact⟨[],rfl⟩
theorem Jy{x:Wk}:inV (.str x.nm) [.str "keep",.str "same",.str "turn",.str "must",.str "walk",.str "sum"]=true->∃y,x=.one y/\DZ y:=by
 cases x with
 | one x=>cases x <;> simp only [Wk.nm,W1.nm] <;> intro h <;> first | exact⟨_,rfl,.inl ⟨_,_,rfl⟩⟩ | exact⟨_,rfl,.inr (.inl ⟨_,_,rfl⟩)⟩ | exact⟨_,rfl,.inr (.inr (.inl ⟨_,_,rfl⟩))⟩ | exact⟨_,rfl,.inr (.inr (.inr (.inl ⟨_,_,rfl⟩)))⟩ | exact⟨_,rfl,.inr (.inr (.inr (.inr (.inl ⟨_,_,rfl⟩))))⟩ | exact⟨_,rfl,.inr (.inr (.inr (.inr (.inr ⟨_,_,rfl⟩))))⟩ | exact absurd h (by decide +kernel)
 | both p q=>simp only [Wk.nm]; intro h; exact absurd h (by decide +kernel)
 | meet c d p q=>simp only [Wk.nm]; intro h; exact absurd h (by decide +kernel)
theorem Ge{x:Wk}{hs:List Hd}(h:¬inV (.str x.nm) [.str "keep",.str "same",.str "turn",.str "must",.str "walk",.str "sum"]=true)(h1:x.nm≠"both")(h2:x.nm≠"meet"):bg x hs=true:=by
 cases x with
 | one x=>cases x <;> first | rfl | exact absurd (by simp only [Wk.nm,W1.nm]; decide +kernel) h
 | both p q=>exact absurd rfl h1
 | meet c d p q=>exact absurd rfl h2
theorem zi{x:Wk}(h:x.nm="both"):∃p q,x=.both p q:=by
 revert h
 cases x with
 | one x=>cases x <;> simp only [Wk.nm,W1.nm] <;> (intro h; exact absurd h (by decide +kernel))
 | both p q=>intro h; exact⟨_,_,rfl⟩
 | meet c d p q=>simp only [Wk.nm]; intro h; exact absurd h (by decide +kernel)
theorem FE{x:W1}(h:DZ x)(h1:x.nm≠"keep")(h2:x.nm≠"same")(h3:x.nm≠"sum"):qP x:=by
 rcases h with⟨c,t,rfl⟩ | ⟨c,d,rfl⟩ | ⟨cs,c,rfl⟩ | h
 ·exact absurd rfl h1
 ·exact absurd rfl h2
 ·exact absurd rfl h3
 ·exact h
theorem BI{x:W1}(h:qP x):c7 x=[pX x]:=by
 rcases h with⟨c,ps,rfl⟩ | ⟨c,ps,rfl⟩ | ⟨c,mv,rfl⟩ <;> rfl
def vw(n:Nat):Sp:=λvs H Q _=>∃(a b l:Addr) (x:Wk) (h:Hd) (as:List Addr) (es:List Hd),vs=[.ref a,.ref b,.ref l]/\vf n H a b l x h as es/\dc x (kM x h es)=true/\∀H',aM H H'->Q (.bl (!bg x (kM x h es))) H'
abbrev fO:Stmt:=top 71
theorem dY:az ["_law_worker_here","_law_head","_law_ends","_law_word_here","_law_pair","_law_here"] ["_law_worker_here","_law_head","_law_ends"] (ar fO):=fs
theorem Ag{n:Nat}(B2:iK mg)(F:FA K mg "_law_no_sort" fO)
  (dO:bf bc P w K mg base 1 "_law_told_columns" ["_law_worker_here"] (wz n))
  (kC:bf bc P w K mg base 2 "_law_cells_wrong" ["_law_worker_here","_law_here"] (K1 n)) :
  bf bc P w K mg base 3 "_law_no_sort" ["_law_worker_here","_law_head","_law_ends"] (vw n):=by
 refine F.ok dY λf cdv A outer s H vs Q E hr h=>?_
 have hu:=iN hr
 obtain⟨a,b,l,x,h,as,es,rfl,hI,hf,q⟩:=h
 refine⟨_,(aq (aL (i:=3) dY.nd rfl (Or.inl rfl) (aA K (pv 0) ai))
   (aN (aW aP (pv 3) ao) (bU je (bj K (pv 2) ai) (bj K (pv 2) ai))
   (aq (dy (aW aP (pv 3) ao)
    (aq (aL (i:=4) dY.nd rfl (Or.inl rfl) (aJ (ae (aA K (bj K (pv 2) ai) (aF bJ (aA K (pv 0) ai) ai)) (ae (aA K (bj K (pv 2) ai) (aF bJ (aA K (pv 0) ai) ai)) ah))))
     (ax (fY (bU md (aA K (pv 4) ai) (aA K (pv 4) ai)) (cY (bU aP (aA K (pv 4) ai) ao)))))
    b9)
   (aN (de iM (pv 3) (aQ (ae ao (ae ao (ae ao (ae ao (ae ao (ae ao ah))))))) rfl) fV
   (aq (aL (i:=5) dY.nd rfl (Or.inl rfl) (aA K (pv 1) (aF bJ (bj K (ay dO hr (ae (pv 0) ah)) (rH lL ai)) ai)))
   (aN (aW aP (pv 3) ao) (bU md (aA K (aA K (pv 0) ai) ai) (bj K (aQ (ae (pv 5) (ae ao ah))) (aV cA rfl B2.int PyProof.Rows.boot_int (ae (bU aP (pv 5) ao) ah))))
   (aN (aW aP (pv 3) ao) (fY (bU aP (pv 5) ao) (cY (bU md (pv 5) (aA K (pv 1) (aF bJ (aA K (pv 0) ai) ai)))))
   (aN (aW aP (pv 3) ao) (bU aP (pv 5) ao)
   (ax (fY (bU aP (pv 5) ao) (cY (ay kC hr (ae (pv 0) (ae (pv 5) ah)))))))))))))),?_⟩
 obtain⟨xs,h1⟩:=hI.wk.first
 refine⟨_,rfl,a,_,0,_,rfl,rfl,aH.of h1,av (j:=0) rfl,ak ?_⟩
 dsimp only
 refine⟨_,rfl,rfl,_,rfl,?_⟩
 rw [bM]
 by_cases e1:x.nm="both"
 ·rw [UB e1]
  obtain⟨p,q',rfl⟩:=zi e1
  obtain⟨h0,h2,rfl⟩:=dF (hI.n rfl)
  obtain⟨a0,e0,gq⟩:=hI.en.nth (i:=0) rfl
  obtain⟨a1,e1',uH⟩:=hI.en.nth (i:=1) rfl
  refine bX ⟨_,rfl,l,_,0,_,rfl,rfl,aZ.of hI.en.lst,av (j:=0) e0,_,rfl,l,_,1,_,rfl,rfl,aZ.of hI.en.lst,av (j:=1) e1',_,_,y3 gq,y3 uH,?_,?_⟩
  ·exact UG (Nat.add_le_add_left (Uz (kd h0) (by decide:1<=8)) _) hu
  ·rw [nG]
   exact q H (aM.refl _)
 rw [UA e1]
 refine bA (aG ⟨_,rfl,rfl,_,rfl,?_⟩)
 rw [bM]
 by_cases e2:x.nm="meet"
 ·rw [UB e2]
  obtain⟨c,d,p,q',rfl⟩:=iW e2
  obtain⟨h0,h2,rfl⟩:=dF (hI.n rfl)
  obtain⟨a0,e0,gq⟩:=hI.en.nth (i:=0) rfl
  obtain⟨a1,e1',uH⟩:=hI.en.nth (i:=1) rfl
  have hf:(there c h0&&there d h2)=true:=hf
  rw [Bool.and_eq_true]at hf
  have ha:=hI.wk
  cases n with
  | zero=>exact False.elim ha
  | succ n =>
  obtain⟨b',e',bs,es',h1,_⟩:=ha
  refine bX ⟨_,rfl,l,_,0,_,rfl,rfl,aZ.of hI.en.lst,av (j:=0) e0,_,rfl,a,_,1,_,rfl,rfl,aH.of h1,rfl,_,_,rfl,rfl,a0,_,_,_,rfl,rfl,aH.of gq,dE (e_ hf.1),?_⟩
  refine⟨_,rfl,l,_,1,_,rfl,rfl,aZ.of hI.en.lst,av (j:=1) e1',_,rfl,a,_,2,_,rfl,rfl,aH.of h1,rfl,_,_,rfl,rfl,a1,_,_,_,rfl,rfl,aH.of uH,dE (e_ hf.2),cM,λu hu'=>ak ?_⟩
  have su:=aj hu' (.tup [.str (bt h0 c),.str (bt h2 d)])
  have hu0:upd H u (.tup [.str (bt h0 c),.str (bt h2 d)]) u=_:=ag
  revert su hu0
  generalize upd H u (.tup [.str (bt h0 c),.str (bt h2 d)])=H1
  intro su hu0
  dsimp only
  refine⟨_,rfl,u,_,0,_,rfl,rfl,aH.of hu0,av (j:=0) rfl,_,rfl,u,_,1,_,rfl,rfl,aH.of hu0,rfl,rfl,_,rfl,?_⟩
  have q:=q H1 su
  have q:Q (.bl (!(decide (bt h0 c=bt h2 d) && !decide (bt h0 c="t")))) H1:=q
  rw [bM]
  by_cases z:bt h0 c=bt h2 d
  ·rw [UB z]at q⊢
   refine bA ⟨_,rfl,u,_,0,_,rfl,rfl,aH.of hu0,av (j:=0) rfl,rfl,?_⟩
   rw [bM]
   simpa using q
  ·rw [UA z]at q⊢
   exact bX q
 rw [UA e2]
 refine bA (aG ⟨_,rfl,MV,λR hR=>⟨R,_,rfl,.inl (aZ.of ag),rfl,rfl,_,rfl,?_⟩⟩)
 have t1:=aj hR (.lst [V.str "keep",.str "same",.str "turn",.str "must",.str "walk",.str "sum"])
 revert t1
 generalize upd H R (.lst [V.str "keep",.str "same",.str "turn",.str "must",.str "walk",.str "sum"])=H1
 intro t1
 cases e3:inV (.str x.nm) [.str "keep",.str "same",.str "turn",.str "must",.str "walk",.str "sum"]with
 | false =>
  rw [Ge (by rw [e3]; decide) e1 e2]at q
  exact bX (q H1 t1)
 | true =>
 obtain⟨y,rfl,hy⟩:=Jy e3
 obtain⟨pre,hpre⟩:=C8 hy
 have Oz:=hI.same t1
 have hc:1<=pX y/\pX y<=h.length:=cG hf (by rw [hpre]; simp)
 refine bA (aG ⟨_,rfl,_,rfl,a,.one y,rfl,Oz.wk,Oz.sm,λu H2 s2 hu2=>?_⟩)
 have s12:=t1.trans s2
 have Jz:=Oz.same s2
 have hu2:H2 u=some (.lst ((pre.map V.int)++[.int (pX y)])):=by
  rw [hu2]
  show some (HO.lst ((c7 y).map V.int))=_
  rw [hpre,UE]
  rfl
 refine⟨_,rfl,u,_,-1,_,rfl,rfl,aZ.of hu2,oK _ _,_,_,rfl,rfl,b,_,_,_,rfl,rfl,aH.of Jz.hd,dE hc,ak ?_⟩
 dsimp only
 have F2:∀s:Str,(Wk.one y).nm=s↔y.nm=s:=λs=>Iff.rfl
 refine⟨_,rfl,rfl,_,rfl,?_⟩
 rw [bM]
 by_cases e4:y.nm="keep"
 ·rw [UB ((F2 _).mpr e4)]
  obtain⟨c,t,hh⟩:=sO ((F2 _).mpr e4)
  cases hh
  obtain⟨st,ys,hk1,hk2⟩:=bW.mp Jz.wk
  refine bX ⟨_,rfl,a,_,2,_,rfl,rfl,aH.of hk1,rfl,st,_,0,_,rfl,rfl,aH.of hk2,av (j:=0) rfl,_,rfl,cM,λR2 yP=>?_⟩
  have t2:=aj yP (.lst [V.str (bt h c),.str "n"])
  refine⟨_,rfl,rfl,.inr ⟨_,rfl,R2,_,_,.str (f_ (bt h c)),rfl,rfl,aZ.of ag,?_,rfl,?_⟩⟩
  ·show ja [V.str (bt h c),.str "n"] (if decide (V.str (bt h c)=V.str "t")=true then 1 else 0)=_
   unfold f_
   rw [bM]
   by_cases z:bt h c="t"
   ·rw [UB z,if_pos z]; rfl
   ·rw [UA z,if_neg z]; rfl
  ·show Q (.bl (!decide (V.str t=V.str (f_ (bt h c))))) _
   rw [bM]
   exact q _ (s12.trans t2)
 rw [UA (λz=>e4 ((F2 _).mp z))]
 refine bA (aG ⟨_,rfl,rfl,_,rfl,?_⟩)
 rw [bM]
 by_cases e5:y.nm="same"
 ·rw [UB ((F2 _).mpr e5)]
  obtain⟨c,d,hh⟩:=yF ((F2 _).mpr e5)
  cases hh
  have h2:H2 a=some (.tup [.str "same",.int c,.int d]):=bW.mp Jz.wk
  have hc1:=cG hf (c:=c) (by simp [c7])
  have q:=q H2 s12
  have q:Q (.bl (!(decide (bt h c=bt h d) && !decide (bt h c="t")))) H2:=q
  refine bX ⟨_,rfl,rfl,_,rfl,?_⟩
  rw [bM]
  show if decide (bt h d="t")=true then _ else _
  by_cases z:bt h d="t"
  ·rw [UB z]
   refine bX ?_
   have:(!(decide (bt h c=bt h d) && !decide (bt h c="t")))=true:=by
    by_cases y1:bt h c=bt h d
    ·rw [UB y1,y1,UB z]; rfl
    ·rw [UA y1]; rfl
   rw [this]at q
   exact q
  ·rw [UA z]
   refine bA ⟨_,rfl,_,rfl,_,rfl,a,_,1,_,rfl,rfl,aH.of h2,rfl,_,_,rfl,rfl,b,_,_,_,rfl,rfl,aH.of Jz.hd,dE hc1,rfl,?_⟩
   show Q (.bl (!decide (V.str (bt h d)=V.str (bt h c)))) H2
   rw [bM]
   have:(!(decide (bt h c=bt h d) && !decide (bt h c="t"))) = !decide (bt h d=bt h c):=by
    by_cases y1:bt h c=bt h d
    ·rw [UB y1,y1,UA z,UB rfl]; rfl
    ·rw [UA y1,UA (show¬bt h d=bt h c from λw=>y1 w.symm)]; rfl
   rw [this]at q
   exact q
 rw [UA (λz=>e5 ((F2 _).mp z))]
 refine bA (aG ⟨_,rfl,rfl,_,rfl,?_⟩)
 rw [bM]
 by_cases e6:y.nm="sum"
 ·rw [UB ((F2 _).mpr e6)]
  obtain⟨cs,c,hh⟩:=BB ((F2 _).mpr e6)
  cases hh
  refine bX ⟨_,rfl,rfl,?_⟩
  show Q (.bl (decide (V.str (bt h c)=V.str "w"))) H2
  rw [bM]
  have q:=q H2 s12
  have q:Q (.bl (!(!decide (bt h c="w")))) H2:=q
  rw [Bool.not_not]at q
  exact q
 rw [UA (λz=>e6 ((F2 _).mp z))]
 have ht:=FE hy e4 e5 e6
 refine bA (aG ⟨_,rfl,rfl,_,rfl,?_⟩)
 rw [bM]
 by_cases z:bt h (pX y)="t"
 ·rw [UB z]
  have:bg (.one y) [h]=false:=by
   rcases ht with⟨c,ps,rfl⟩ | ⟨c,ps,rfl⟩ | ⟨c,mv,rfl⟩
   ·show cR _ (bt h c)=false
    rw [show bt h c="t" from z]; rfl
   ·show(_&&cR _ (bt h c))=false
    rw [show bt h c="t" from z,Bool.and_comm]; rfl
   ·show cR _ (bt h c)=false
    rw [show bt h c="t" from z]; rfl
  have q:=q H2 s12
  rw [show bg (.one y) (kM (.one y) h es)=false from this]at q
  exact bX q
 ·rw [UA z]
  refine bA ⟨_,rfl,_,rfl,a,y,_,rfl,Jz.wk,ht,Jz.dr,λH3 s3=>?_⟩
  have q:=q H3 (s12.trans s3)
  rw [show bg (.one y) (kM (.one y) h es) = !tD y (bt h (pX y)) from F4 ht Jz.dr (BI ht) rfl z,Bool.not_not]at q
  exact q
theorem Et{v:V}{vs:List V}(h:cS ((v::vs).map sW)=true):i6 ((v::vs).map sW)=[sW v]:=by
 rw [tE (by simp)]
 unfold cS at h
 rw [List.all_eq_true]at h
 intro u hu
 exact of_decide_eq_true (h (sW u) (List.mem_map.mpr ⟨u,hu,rfl⟩))
theorem IQ{x:Wk}:inV (.str x.nm) [.str "cut",.str "count",.str "sum"]=true->∃cs,x=.one (.cut cs)\/x=.one (.count cs)\/∃c,x=.one (.sum cs c):=by
 cases x with
 | one x=>cases x <;> simp only [Wk.nm,W1.nm] <;> intro h <;> first | exact⟨_,.inl rfl⟩ | exact⟨_,.inr (.inl rfl)⟩ | exact⟨_,.inr (.inr ⟨_,rfl⟩)⟩ | exact absurd h (by decide +kernel)
 | both p q=>simp only [Wk.nm]; intro h; exact absurd h (by decide +kernel)
 | meet c d p q=>simp only [Wk.nm]; intro h; exact absurd h (by decide +kernel)
structure Og(x:Wk)(h:Hd)(es:List Hd):Prop where
 fit:dc x (kM x h es)=true
 sort:bg x (kM x h es)=true
 hz:h.length<=1000
 ez:∀e∈es,e.length<=1000
def JL(n:Nat):Sp:=λvs H Q _=>∃(a b l:Addr) (x:Wk) (h:Hd) (as:List Addr) (es:List Hd),vs=[.ref a,.ref b,.ref l]/\vf n H a b l x h as es/\Og x h es/\∀(u:Addr) (H':Hp),aM H H'->dW H' u (bH x (kM x h es))->Q (.ref u) H'
theorem L9{x:Wk}(h:x.nm="must"):∃c ps,x=.one (.must c ps):=by
 revert h
 cases x with
 | one x=>cases x <;> simp only [Wk.nm,W1.nm] <;> first | (intro h; exact⟨_,_,rfl⟩) | (intro h; exact absurd h (by decide +kernel))
 | both p q=>simp only [Wk.nm]; intro h; exact absurd h (by decide +kernel)
 | meet c d p q=>simp only [Wk.nm]; intro h; exact absurd h (by decide +kernel)
def zu:Wk->Hd->Hd
 | .one (.cut cs),h=>cs.map (bt h)
 | .one (.count cs),h=>cs.map (bt h)
 | .one (.sum cs _),h=>cs.map (bt h)
 | _,h=>h
theorem E8{x:Wk}{h:Hd}(n:¬inV (.str x.nm) [.str "cut",.str "count",.str "sum"]=true):zu x h=h:=by
 cases x with
 | one x=>cases x <;> first | rfl | exact absurd (by simp only [Wk.nm,W1.nm]; decide +kernel) n
 | both p q=>rfl
 | meet c d p q=>rfl
theorem DP{x:Wk}{h:Hd}{es:List Hd}(n1:x.nm≠"both")(n2:x.nm≠"meet")(n3:x.nm≠"must"):bH x (kM x h es)=if inV (.str x.nm) [.str "count",.str "sum",.str "number"]=true then zu x h++(["t"]:Hd)else zu x h++(if x.nm="walk" then(["w"]:Hd)else []):=by
 cases x with
 | one x =>
  cases x <;> first
   | exact absurd rfl n3
   | (rw [if_pos (by simp only [Wk.nm,W1.nm]; decide +kernel)]; rfl)
   | (rw [if_neg (by simp only [Wk.nm,W1.nm]; decide +kernel),if_pos (by simp only [Wk.nm,W1.nm])]; rfl)
   | (rw [if_neg (by simp only [Wk.nm,W1.nm]; decide +kernel),if_neg (by simp only [Wk.nm,W1.nm]; decide +kernel),List.append_nil]; rfl)
 | both p q=>exact absurd rfl n1
 | meet c d p q=>exact absurd rfl n2
abbrev eZ:Stmt:=top 72
theorem eT:az ["_law_worker_here","_law_head","_law_ends","_law_word_here"] ["_law_worker_here","_law_head","_law_ends"] (ar eZ):=fs
theorem vP{n:Nat}(B:jV mg)(F:FA K mg "_law_head_next" eZ)
  (eO:bf bc P w K mg base 1 "_law_sorts" ["_law_cells"] tG) :
  bf bc P w K mg base 2 "_law_head_next" ["_law_worker_here","_law_head","_law_ends"] (JL n):=by
 refine F.ok eT λf cdv A outer s H vs Q E hr h=>?_
 have hu:=iN hr
 obtain⟨a,b,l,x,h,as,es,rfl,hI,ho,q⟩:=h
 refine⟨_,(aq (aL (i:=3) eT.nd rfl (Or.inl rfl) (aA K (pv 0) ai))
   (aN (aW aP (pv 3) ao) (bj K (pv 2) ai)
   (aN (aW aP (pv 3) ao) (aF cb (aF cb (bj K (pv 2) ai) (cz c_ (bj K (pv 2) ai) dz (cB (aF bJ (aA K (pv 0) ai) ai)))) (cz c_ (bj K (pv 2) ai) (cB (aA K (pv 0) ai)) dz))
   (aN (aW aP (pv 3) ao) (aF cb (aF cb (cz c_ (pv 1) dz (cB (aF bJ (aA K (pv 0) ai) ai))) (aV bB rfl B.tuple PyProof.Rows.boot_tuple (ae (ay eO hr (ae (bw (N':=["_law_a","_law_b"]) (src:=[none,none]) rfl (ba.jL (by kernel_rfl)) (cJ (aA K (pv 0) ai)) (g:=(iT K 2 (bP (bz 0) (bP (bz 1) iU)))) (λcl C s H fp=>(cD rfl (aD (eA (i:=0)) (aD (eA (i:=1)) bT)))) (λcl C s H fp=>aX) (te:=(bx 1)) (λcl C s H fp=>(i5 1))) ah)) ah))) (cz c_ (pv 1) (cB (aA K (pv 0) ai)) dz))
   (aq (dy (de cq (pv 3) (aQ (ae ao (ae ao (ae ao ah)))) rfl)
    (bK (aL (i:=1) eT.nd rfl (Or.inr rfl) (aV bB rfl B.tuple PyProof.Rows.boot_tuple (ae (bw (N':=["_law_column_here","_law_head"]) (src:=[none,some 1]) rfl (ba.jL (by kernel_rfl)) (cJ (aA K (pv 0) ai)) (λcl C s H fp=>(eA (i:=0))) (λcl C s H fp=>aX) (te:=(gO (tJ K) (bx 1) (gO (AN λi j=>V.int (i-j)) (bx 0) (tC (.int 1))))) (λcl C s H fp=>(aA K (yI 1) (aF bJ (i5 0) ai)))) ah))))
    b9)
   (aN (de cq (pv 3) (aQ (ae ao (ae ao (ae ao ah)))) rfl) (aF cb (pv 1) (aJ (ae ao ah)))
   (ax (aF cb (pv 1) (eR (aW aP (pv 3) ao) (aJ (ae ao ah)) (aJ ah)))))))))),?_⟩
 obtain⟨xs,h1⟩:=hI.wk.first
 refine⟨_,rfl,a,_,0,_,rfl,rfl,aH.of h1,av (j:=0) rfl,ak ?_⟩
 dsimp only
 refine⟨_,rfl,rfl,_,rfl,?_⟩
 rw [bM]
 by_cases e1:x.nm="both"
 ·rw [UB e1]
  obtain⟨p,q',rfl⟩:=zi e1
  obtain⟨h0,h2,rfl⟩:=dF (hI.n rfl)
  obtain⟨a0,e0,gq⟩:=hI.en.nth (i:=0) rfl
  exact bX ⟨_,rfl,l,_,0,_,rfl,rfl,aZ.of hI.en.lst,av (j:=0) e0,q a0 H (aM.refl _) gq⟩
 rw [UA e1]
 refine bA (aG ⟨_,rfl,rfl,_,rfl,?_⟩)
 rw [bM]
 by_cases e2:x.nm="meet"
 ·rw [UB e2]
  obtain⟨c,d,p,q',rfl⟩:=iW e2
  obtain⟨h0,h2,rfl⟩:=dF (hI.n rfl)
  obtain⟨a0,e0,gq⟩:=hI.en.nth (i:=0) rfl
  obtain⟨a1,e1',uH⟩:=hI.en.nth (i:=1) rfl
  have hz0:=ho.ez h0 (by simp)
  have hz1:=ho.ez h2 (by simp)
  have hf:(there c h0&&there d h2)=true:=ho.fit
  rw [Bool.and_eq_true]at hf
  obtain⟨d1,d2⟩:=e_ hf.2
  have ha:=hI.wk
  cases n with
  | zero=>exact False.elim ha
  | succ n =>
  obtain⟨b',e',bs,es',h1,_⟩:=ha
  refine bX ⟨_,rfl,l,_,0,_,rfl,rfl,aZ.of hI.en.lst,av (j:=0) e0,_,rfl,l,_,1,_,rfl,rfl,aZ.of hI.en.lst,av (j:=1) e1',?_⟩
  refine⟨_,rfl,a,_,2,_,rfl,rfl,aH.of h1,rfl,_,_,rfl,rfl,_,rfl,a1,_,rfl,uH,λt1 H1 s1 ht1=>?_⟩
  rw [nF d1 d2]at ht1
  refine eF (s1 _ _ gq) ht1 (by rw [List.length_take]; omega) λt2 H2 s2 Bi=>?_
  have s12:=s1.trans s2
  refine⟨_,rfl,l,_,1,_,rfl,rfl,aZ.of (s12 _ _ hI.en.lst),av (j:=1) e1',_,rfl,a,_,2,_,rfl,rfl,aH.of (s12 _ _ h1),rfl,_,rfl,a1,_,rfl,s12 _ _ uH,λt3 H3 s3 Ep=>?_⟩
  rw [jM d1 d2]at Ep
  exact eF (s3 _ _ Bi) Ep (by rw [UD,List.length_take,List.length_drop]; omega) λt4 H4 s4 A8=>q t4 H4 (s12.trans (s3.trans s4)) A8
 rw [UA e2]
 refine bA (aG ⟨_,rfl,rfl,_,rfl,?_⟩)
 rw [bM]
 by_cases e3:x.nm="must"
 ·rw [UB e3]
  obtain⟨c,ps,rfl⟩:=L9 e3
  obtain⟨t,bs,h1,hP⟩:=bW.mp hI.wk
  obtain⟨c1,c2⟩:=cG ho.fit (c:=c) (by simp [c7])
  have hd:D_ (.must c ps):=hI.dr
  have hg:∀p∈ps,dP p.1/\dP p.2:=hd.good
  have hne:ps≠[]:=hd.ne.1
  have hpz:ps.length<=50:=hd.ne.2
  have Qa:=ho.hz
  have hso:(cS (ps.map λp=>sW p.2)&&cR (ps.map λp=>p.1) (bt h c))=true:=ho.sort
  rw [Bool.and_eq_true]at hso
  have OR:i6 ((ps.map λp=>p.2).map sW)=(ps.take 1).map λp=>sW p.2:=by
   cases ps with
   | nil=>exact absurd rfl hne
   | cons p ps =>
    have:=hso.1
    rw [show((p::ps).map λp=>sW p.2)=((p::ps).map λp=>p.2).map sW by rw [List.map_map]; rfl]at this
    rw [List.map_cons]at this⊢
    rw [Et this]
    rfl
  have hlb:(bs.map V.ref).length=ps.length:=by rw [UC,hP.len]
  refine bX ⟨_,rfl,_,rfl,a,_,1,_,rfl,rfl,aH.of h1,rfl,_,_,rfl,rfl,_,rfl,b,_,rfl,hI.hd,λt1 H1 s1 ht1=>?_⟩
  rw [nF c1 c2]at ht1
  refine⟨_,rfl,a,_,2,_,rfl,rfl,aH.of (s1 _ _ h1),rfl,t,rfl,⟨_,aH.of (s1 _ _ hP.tup)⟩,λDl hD=>?_⟩
  refine cF (xs:=bs.map V.ref) (λi σ ys H'=>(∃o1 o2,σ=[o1,o2])/\ys=(ps.take i).map (λp=>p.2)/\ys.length=i/\H' Dl=some (.lst ys)/\aM H1 H') ⟨⟨none,none,rfl⟩,rfl,rfl,ag,aj hD _⟩ ?_ ?_ ?_ ?_ ?_
  ·rintro i σ ys H' _ ⟨_,_,hi,h,_⟩
   exact⟨h,Nat.le_of_eq hi⟩
  ·rintro i σ ys H' _ ⟨_,_,_,_,sm⟩
   exact aH.of (sm _ _ (s1 _ _ hP.tup))
  ·rw [hlb]; exact Uz hpz (by decide)
  ·rintro i v σ ys H' hv ⟨⟨o1,o2,rfl⟩,rfl,hi,hh,sm'⟩
   obtain⟨b',y,rfl,ey,hb⟩:=hP.get hv
   refine⟨b',_,rfl,aH.of (sm' _ _ (s1 _ _ hb)),rfl,_,_,rfl,ak ⟨_,_,rfl,ak ⟨rfl,?_⟩⟩⟩
   refine⟨_,rfl,hh,⟨_,_,rfl⟩,?_,?_,ag,bq hD sm'⟩
   ·rw [take_one ey,UE]; rfl
   ·rw [UD,hi]; rfl
  rintro df S3 H3 ⟨_,rfl,Po,h2,sm3⟩
  rw [hlb,List.take_length]at h2
  refine⟨Dl,_,rfl,h2,by rw [UC]; omega,λv hv=>?_,λu2 H4 s4 hu2=>?_⟩
  ·obtain⟨p,hp,rfl⟩:=List.mem_map.mp hv
   exact(hg p hp).2
  rw [OR]at hu2
  have M5:=sm3.trans s4
  refine⟨u2,_,rfl,.inl ⟨aZ.of hu2,λu3 v7=>?_⟩⟩
  have t5:=aj v7 (.tup (((ps.take 1).map λp=>sW p.2).map V.str))
  have Mf:=M5.trans t5
  refine eF (Mf _ _ ht1) ag (by rw [List.length_take,UC,List.length_take]; omega) λt6 H6 s6 Hg=>?_
  have Pd:=s1.trans (Mf.trans s6)
  refine⟨_,rfl,_,rfl,a,_,1,_,rfl,rfl,aH.of (Pd _ _ h1),rfl,_,rfl,b,_,rfl,Pd _ _ hI.hd,λt7 H7 s7 KD=>?_⟩
  rw [jM c1 c2]at KD
  exact eF (s7 _ _ Hg) KD (by rw [UD,List.length_take,UC,List.length_take,List.length_drop]; omega) λt8 H8 s8 RO=>q t8 H8 (Pd.trans (s7.trans s8)) RO
 rw [UA e3]
 rw [DP e1 e2 e3]at q
 refine bA (aG ?_)
 dsimp only
 refine k_ (λσ H'=>∃b',σ=[some (.ref a),some (.ref b'),some (.ref l),some (.str x.nm)]/\dW H' b' (zu x h)/\(zu x h).length<=1000/\aM H H') (λT hT=>?_) ?_
 ·refine⟨_,rfl,gw,λR hR=>⟨R,_,rfl,.inl (aZ.of ag),rfl,rfl,_,rfl,?_⟩⟩
  have t1:=aj hR (.lst [V.str "cut",.str "count",.str "sum"])
  revert t1
  generalize upd H R (.lst [V.str "cut",.str "count",.str "sum"])=H1
  intro t1
  refine cI (λk=>?_) (λk=>?_)
  ·have key:∃(cs:List Int) (t:Addr) (v:V) (vs:List V),H a=some (.tup (v :: .ref t::vs))/\H t=some (.tup (cs.map V.int))/\cs.length<=1000/\xb h cs/\zu x h=cs.map (bt h):=by
    obtain⟨cs,rfl | rfl | ⟨c,rfl⟩⟩:=IQ k
    ·obtain⟨t,h1,h2⟩:=bW.mp hI.wk
     exact⟨cs,t,_,_,h1,h2,hI.sm,λc hc=>cG ho.fit hc,rfl⟩
    ·obtain⟨t,h1,h2⟩:=bW.mp hI.wk
     exact⟨cs,t,_,_,h1,h2,hI.sm,λc hc=>cG ho.fit hc,rfl⟩
    ·obtain⟨t,h1,h2⟩:=bW.mp hI.wk
     exact⟨cs,t,_,_,h1,h2,hI.sm,λc hc=>cG ho.fit (List.mem_append_left _ hc),rfl⟩
   obtain⟨cs,t,v,vs,h2,h3,Pz,hth,em⟩:=key
   refine⟨_,rfl,a,_,1,_,rfl,rfl,aH.of (t1 _ _ h2),av (j:=1) rfl,t,rfl,⟨_,aH.of (t1 _ _ h3)⟩,λDl hD=>?_⟩
   refine cF (xs:=cs.map V.int) (λi σ ys H'=>(∃o,σ=[o,some (.ref b)])/\ys=((cs.take i).map (bt h)).map V.str/\ys.length=i/\H' Dl=some (.lst ys)/\aM H1 H') ⟨⟨none,rfl⟩,rfl,rfl,ag,aj hD _⟩ ?_ ?_ ?_ ?_ ?_
   ·rintro i σ ys H' _ ⟨_,_,hi,h,_⟩
    exact⟨h,Nat.le_of_eq hi⟩
   ·rintro i σ ys H' _ ⟨_,_,_,_,sm⟩
    exact aH.of (sm _ _ (t1 _ _ h3))
   ·rw [UC]; exact Uz Pz (by decide)
   ·rintro i v σ ys H' hv ⟨⟨o,rfl⟩,rfl,hi,hh,sm⟩
    rw [List.getElem?_map]at hv
    cases ec:cs[i]? with
    | none=>rw [ec]at hv; cases hv
    | some c =>
     rw [ec]at hv
     have hv:V.int c=v:=Option.some.inj hv
     subst hv
     refine⟨_,rfl,_,rfl,_,_,rfl,rfl,b,_,_,_,rfl,rfl,aH.of (sm _ _ (t1 _ _ hI.hd)),dE (hth c (UK ec)),hh,⟨_,rfl⟩,?_,?_,ag,bq hD sm⟩
     ·rw [take_one ec,UE,UE]; rfl
     ·rw [UD,hi]; rfl
   ·rintro σ ys H' ⟨_,rfl,_,hh,sm⟩
    rw [UC,List.take_length]at hh
    refine⟨Dl,_,rfl,.inl ⟨aZ.of hh,λu hu'=>ak (hT _ _ ⟨u,rfl,?_,?_,t1.trans (sm.trans (aj hu' _))⟩)⟩⟩
    ·rw [em]; exact ag
    ·rw [em,UC]; exact Pz
  ·rw [E8 k]at hT
   exact aG (hT _ _ ⟨b,rfl,t1 _ _ hI.hd,ho.hz,t1⟩)
 rintro σ H1 ⟨b',rfl,hb,Sm,s1⟩
 refine⟨_,rfl,gw,λR hR=>⟨R,_,rfl,.inl (aZ.of ag),rfl,rfl,_,rfl,?_⟩⟩
 have t1:=aj hR (.lst [V.str "count",.str "sum",.str "number"])
 have hb:=t1 _ _ hb
 have s2:=s1.trans t1
 revert s2 hb
 generalize upd H1 R (.lst [V.str "count",.str "sum",.str "number"])=H2
 intro hb s2
 refine cI (λk=>?_) (λk=>aG ?_)
 ·have k:inV (.str x.nm) [V.str "count",.str "sum",.str "number"]=true:=k
  rw [if_pos k]at q
  refine⟨_,rfl,dQ,λu hu'=>?_⟩
  have su:=aj hu' (.tup [.str "t"])
  exact eF (ys:=["t"]) (su _ _ hb) ag (by show _+1<=_; omega) λt H' s' ht=>q t H' (s2.trans (su.trans s')) ht
 ·have k:¬inV (.str x.nm) [V.str "count",.str "sum",.str "number"]=true:=k
  rw [if_neg k]at q
  refine⟨_,rfl,_,rfl,rfl,_,rfl,?_⟩
  rw [bM]
  by_cases e4:x.nm="walk"
  ·rw [if_pos e4]at q
   rw [UB e4]
   refine bX ⟨dQ,λu hu'=>?_⟩
   have su:=aj hu' (.tup [.str "w"])
   exact eF (ys:=["w"]) (su _ _ hb) ag (by show _+1<=_; omega) λt H' s' ht=>q t H' (s2.trans (su.trans s')) ht
  ·rw [if_neg e4]at q
   rw [UA e4]
   refine bA ⟨xg,λu hu'=>?_⟩
   have su:=aj hu' (.tup [])
   exact eF (ys:=[]) (su _ _ hb) ag (by show _+0<=_; omega) λt H' s' ht=>q t H' (s2.trans (su.trans s')) ht
theorem dk.up:∀{n:Nat} {H:Hp} {a:Addr} {x:Wk},dk n H a x->dk (n+1) H a x
 | 0,H,a,.one x,h=>h
 | n+1,H,a,.one x,h=>h
 | n+1,H,a,.both p q,h=>by
  obtain⟨b,c,bs,cs,h1,h2,h3⟩:=h
  exact⟨b,c,bs,cs,h1,⟨h2.tup,h2.len,λi a x e1 e2=>(h2.at_ i a x e1 e2).up⟩,⟨h3.tup,h3.len,λi a x e1 e2=>(h3.at_ i a x e1 e2).up⟩⟩
 | n+1,H,a,.meet c d p q,h=>by
  obtain⟨b,e,bs,es,h1,h2,h3⟩:=h
  exact⟨b,e,bs,es,h1,⟨h2.tup,h2.len,λi a x e1 e2=>(h2.at_ i a x e1 e2).up⟩,⟨h3.tup,h3.len,λi a x e1 e2=>(h3.at_ i a x e1 e2).up⟩⟩
abbrev tQ(H:Hp)(a:Addr)(f:Fl):Prop:=H a=some (.tup [.bl f.o,.bl f.j,.bl f.f,.bl f.w,.bl f.l])
def GF:Option Str->Str
 | none=>""
 | some s=>s
def BO(n:Nat):Sp:=λvs H Q _=>∃(a b g l:Addr) (x:Wk) (h:Hd) (fl:Fl) (as:List Addr) (es:List Hd),vs=[.ref a,.ref b,.ref g,.ref l]/\vf n H a b l x h as es/\tQ H g fl/\Ct x/\h.length<=1000/\(∀e∈es,e.length<=1000)/\∀H',aM H H'->Q (.str (GF (i7 x fl (kM x h es)))) H'
theorem qO{x:Wk}{f:Fl}(h:x.nm="walk"):mD x f = !f.o:=by
 obtain⟨c,mv,rfl⟩:=yQ h
 rfl
theorem AD{x:Wk}{f:Fl}(h:x.nm≠"walk")(h2:x.nm≠"meet"):mD x f=true:=by
 cases x with
 | one x=>cases x <;> first | rfl | exact absurd rfl h
 | both p q=>rfl
 | meet c d p q=>exact absurd rfl h2
abbrev j_:Stmt:=top 74
theorem uO:az ["_law_worker_here","_law_head","_law_flags_here","_law_ends"] ["_law_worker_here","_law_head","_law_flags_here","_law_ends"] (ar j_):=fs
theorem EZ{n:Nat}(B:jV mg)(B2:iK mg)(F:FA K mg "_law_why" j_)
  (lN:bf bc P w K mg base 2 "_law_no_column" ["_law_worker_here","_law_head","_law_ends"] (yY n))
  (oZ:bf bc P w K mg base 3 "_law_no_sort" ["_law_worker_here","_law_head","_law_ends"] (vw n))
  (fh:bf bc P w K mg base 2 "_law_head_next" ["_law_worker_here","_law_head","_law_ends"] (JL n))
  (eU:bf bc P w K mg base 1 "_law_is_one_row" ["_law_worker_here"] (uI n)) :
  bf bc P w K mg base 4 "_law_why" ["_law_worker_here","_law_head","_law_flags_here","_law_ends"] (BO n):=by
 refine F.ok uO λf cdv A outer s H vs Q E hr h=>?_
 have hu:=iN hr
 obtain⟨a,b,g,l,x,h,fl,as,es,rfl,hI,hF,hw,Qa,hez,q⟩:=h
 refine⟨_,(aN (fw (ay lN hr (ae (pv 0) (ae (pv 1) (ae (pv 3) ah))))) ao
   (aN (fw (ay oZ hr (ae (pv 0) (ae (pv 1) (ae (pv 3) ah))))) ao
   (aN (aW ik (a_ bE rfl B.len PySem.boot_len (ae (ay fh hr (ae (pv 0) (ae (pv 1) (ae (pv 3) ah)))) ah)) ai) ao
   (aN (PW.pt (kB (aW aP (aA K (pv 0) ai) ao) (iJ (fw (aA K (pv 2) ai))))) ao
   (aN (PW.pt (kB (aW aP (aA K (pv 0) ai) ao) (iJ (tP (fw (a_ (ir rfl) rfl B2.all PyProof.Rows.boot_all (ae (bw (N':=["_law_one"]) (src:=[none]) rfl (ba.jL (by kernel_rfl)) (cJ (aF cb (aA K (pv 0) ai) (aA K (pv 0) ai))) (λcl C s H fp=>(eA (i:=0))) (λcl C s H fp=>aX) (te:=(i3 (uI n) [] E0 (bp (bx 0) fD))) (λcl C s H fp=>(ay (hg:=we) eU hr (ae (i5 0) ah)))) ah))))))) ao
   (ax (eR (PW.pt (kB (aW aP (aA K (pv 0) ai) ao) (iJ (fw (aA K (pv 2) ai))))) ao ao))))))),?_⟩
 unfold i7 at q
 refine⟨_,rfl,_,rfl,_,rfl,a,b,l,x,h,as,es,rfl,hI,λH1 s1=>⟨_,rfl,?_⟩⟩
 by_cases e1:dc x (kM x h es)=false
 ·rw [e1]
  rw [if_neg (by rw [e1]; decide)]at q
  exact bX (q H1 s1)
 have e1:dc x (kM x h es)=true:=by simpa using e1
 rw [e1]
 rw [if_pos e1]at q
 refine bA (aG ⟨_,rfl,_,rfl,_,rfl,a,b,l,x,h,as,es,rfl,hI.same s1,e1,λH2 s2=>⟨_,rfl,?_⟩⟩)
 have s12:=s1.trans s2
 by_cases e2:bg x (kM x h es)=false
 ·rw [e2]
  rw [if_neg (by rw [e2]; decide)]at q
  exact bX (q H2 s12)
 have e2:bg x (kM x h es)=true:=by simpa using e2
 rw [e2]
 rw [if_pos e2]at q
 refine bA (aG ⟨_,rfl,_,rfl,_,rfl,a,b,l,x,h,as,es,rfl,hI.same s12,⟨e1,e2,Qa,hez⟩,λu H3 s3 hu'=>?_⟩)
 have qd:=s12.trans s3
 refine⟨u,_,rfl,.inr (aH.of hu'),_,_,rfl,rfl,_,rfl,?_⟩
 rw [UC]
 by_cases e3:¬(bH x (kM x h es)).length<=6
 ·rw [if_neg e3]at q
  rw [UB (show(6:Int)<((bH x (kM x h es)).length:Nat) by omega)]
  exact bX (q H3 qd)
 have e3:(bH x (kM x h es)).length<=6:=by omega
 rw [if_pos e3]at q
 rw [UA (show¬(6:Int)<((bH x (kM x h es)).length:Nat) by omega)]
 have Qg:=hI.same qd
 obtain⟨xs,h1⟩:=Qg.wk.first
 have tail:∀H4,aM H3 H4->mD x fl=true->Q5 (K6 (rE (gO GR (gO (tJ K) (bx 0) (tC (.int 0))) (tC (.str "must")))) (tB (gO (tJ K) (bx 2) (tC (.int 4))))) (tC (.str "loose")) (tC (.str "")) [some (.ref a),some (.ref b),some (.ref g),some (.ref l)] H4 Q:=by
  intro H4 s4 hr
  have qE:=qd.trans s4
  rw [if_pos hr]at q
  refine⟨_,rfl,a,_,0,_,rfl,rfl,aH.of (s4 _ _ h1),av (j:=0) rfl,rfl,_,rfl,?_⟩
  rw [bM,yx]
  cases e5:jc x with
  | false =>
   rw [e5]at q
   exact bA (bA (q H4 qE))
  | true =>
   rw [e5,Bool.true_and]at q
   refine bX ⟨_,rfl,g,_,4,_,rfl,rfl,aH.of (qE _ _ hF),rfl,_,rfl,cI (λz=>?_) (λz=>?_)⟩
   ·rw [if_pos z]at q; exact q H4 qE
   ·rw [if_neg z]at q; exact q H4 qE
 refine bA (aG ⟨_,rfl,a,_,0,_,rfl,rfl,aH.of h1,av (j:=0) rfl,rfl,_,rfl,?_⟩)
 rw [bM]
 by_cases e4:x.nm="walk"
 ·rw [UB e4]
  refine bX ⟨_,rfl,g,_,0,_,rfl,rfl,aH.of (qd _ _ hF),av (j:=0) rfl,_,rfl,cI (λz=>?_) (λz=>aG ?_)⟩
  ·rw [if_neg (by rw [qO e4,z]; decide)]at q
   exact q H3 qd
  ·have hr:mD x fl=true:=by rw [qO e4,Bool.eq_false_iff.mpr z]; rfl
   refine⟨_,rfl,a,_,0,_,rfl,rfl,aH.of h1,av (j:=0) rfl,rfl,_,rfl,?_⟩
   rw [bM,UA (by rw [e4]; decide +kernel)]
   exact bA (bA (aG (tail H3 (aM.refl _) hr)))
 rw [UA e4]
 refine bA (bA (aG ⟨_,rfl,a,_,0,_,rfl,rfl,aH.of h1,av (j:=0) rfl,rfl,_,rfl,?_⟩))
 rw [bM]
 by_cases e5:x.nm="meet"
 ·rw [UB e5]
  obtain⟨c,d,p,q',rfl⟩:=iW e5
  have ha:=Qg.wk
  cases n with
  | zero=>exact False.elim ha
  | succ n =>
  obtain⟨b',e',bs,es',h2,hp,hq⟩:=ha
  have hw1:p.length<=1000:=hw p (by simp [dJ])
  have hw2:q'.length<=1000:=hw q' (by simp [dJ])
  refine bX ⟨_,rfl,a,_,3,_,rfl,rfl,aH.of h2,rfl,_,rfl,a,_,4,_,rfl,rfl,aH.of h2,rfl,b',e',_,_,rfl,rfl,hp.tup,hq.tup,by rw [UC,UC,hp.len,hq.len]; exact Uz (show _<=2000 by omega) (by decide),λu4 H4 s4 wW=>⟨u4,rfl,⟨_,aH.of wW⟩,λDl hD=>?_⟩⟩
  rw [←UE]at wW
  have hlen:((bs++es').map V.ref).length=(p++q').length:=by rw [UC,UD,UD,hp.len,hq.len]
  have hat:∀(i:Nat) v,((bs++es').map V.ref)[i]? = some v->∃a y,v=.ref a/\(p++q')[i]? = some y/\dk n H4 a y:=by
   intro i v hv
   by_cases hi:i<bs.length
   ·rw [UE,List.getElem?_append_left (by rw [UC]; exact hi)]at hv
    obtain⟨a,y,e1,e2,e3⟩:=hp.get hv
    exact⟨a,y,e1,by rw [List.getElem?_append_left (by rw [←hp.len]; exact hi)]; exact e2,e3.keep (aE.of s4)⟩
   ·have hi:bs.length<=i:=by omega
    rw [UE,List.getElem?_append_right (by rw [UC]; exact hi),UC]at hv
    obtain⟨a,y,e1,e2,e3⟩:=hq.get hv
    exact⟨a,y,e1,by rw [List.getElem?_append_right (by rw [←hp.len]; exact hi),←hp.len]; exact e2,e3.keep (aE.of s4)⟩
  refine cF (xs:=(bs++es').map V.ref) (λi σ ys H'=>(∃o,σ=[o])/\ys=(((p++q').take i).map λw=>cC w.nm).map V.bl/\ys.length=i/\H' Dl=some (.lst ys)/\aM H4 H') ⟨⟨none,rfl⟩,rfl,rfl,ag,aj hD _⟩ ?_ ?_ ?_ ?_ ?_
  ·rintro i σ ys H' _ ⟨_,_,hi,h,_⟩
   exact⟨h,Nat.le_of_eq hi⟩
  ·rintro i σ ys H' _ ⟨_,_,_,_,sm⟩
   exact aH.of (sm _ _ wW)
  ·rw [hlen,UD]; exact Uz (show _<=2000 by omega) (by decide)
  ·rintro i v σ ys H' hv ⟨⟨o,rfl⟩,rfl,hi,hh,sm⟩
   obtain⟨a',y,rfl,ey,hy⟩:=hat i v hv
   refine⟨_,rfl,a',y,rfl,(hy.keep (aE.of sm)).up,λH5 s5=>⟨s5 _ _ hh,⟨_,rfl⟩,?_,?_,ag,bq hD (sm.trans s5)⟩⟩
   ·rw [take_one ey,UE,UE]; rfl
   ·rw [UD,hi]; rfl
  ·rintro σ ys H5 ⟨_,rfl,_,hh,sm⟩
   rw [hlen,List.take_length]at hh
   refine⟨Dl,_,rfl,aZ.of hh,_,rfl,?_⟩
   have er:((p++q').map λw=>cC w.nm).all id=mD (.meet c d p q') fl:=by rw [List.all_map]; rfl
   rw [er]
   cases z:mD (.meet c d p q') fl with
   | false =>
    rw [z]at q
    exact bX (q H5 (qd.trans (s4.trans sm)))
   | true=>exact bA (aG (tail H5 (s4.trans sm) z))
 ·rw [UA e5]
  exact bA (bA (aG (tail H3 (aM.refl _) (AD e4 e5))))
def jb(x:Wk)(h:Hd)(f:Fl):Fl:=⟨f.o || !cC x.nm,f.j||inV (.str x.nm) [.str "walk",.str "both",.str "meet"],f.f||pF (au x),f.w||pW x.nm,f.l||looseW x h f⟩
def zf(n:Nat):Sp:=λvs H Q _=>∃(a b g:Addr) (x:Wk) (h:Hd) (fl:Fl),vs=[.ref a,.ref b,.ref g]/\dk n H a x/\dW H b h/\tQ H g fl/\keepIn x h/\∀(u:Addr) (H':Hp),aM H H'->tQ H' u (jb x h fl)->Q (.ref u) H'
theorem wj{x:Wk}{h:Hd}{f:Fl}(h1:x.nm≠"keep")(h2:x.nm≠"first")(h3:x.nm≠"meet"):looseW x h f=false:=by
 match x with
 | .one (.keep _ _)=>exact absurd rfl h1
 | .one (.first n)=>exact absurd rfl h2
 | .meet ..=>exact absurd rfl h3
 | .both ..=>rfl
 | .one (.same ..)=>rfl
 | .one (.cut ..)=>rfl
 | .one (.turn ..)=>rfl
 | .one (.must ..)=>rfl
 | .one (.walk ..)=>rfl
 | .one (.sort ..)=>rfl
 | .one .apart=>rfl
 | .one (.count ..)=>rfl
 | .one (.sum ..)=>rfl
 | .one .number=>rfl
theorem xl{x:Wk}(h:x.nm≠"first"):pF (au x)=false:=by
 rw [lg h]
 exact UA h
abbrev iA:Stmt:=top 75
theorem bR:az ["_law_worker_here","_law_head","_law_flags_here","_law_others","_law_joins","_law_firsts","_law_walks","_law_loose","_law_word_here"] ["_law_worker_here","_law_head","_law_flags_here"] (ar iA):=fs
theorem DI{n:Nat}(F:FA K mg "_law_flags" iA)
  (eU:bf bc P w K mg base 1 "_law_is_one_row" ["_law_worker_here"] (uI n)) :
  bf bc P w K mg base 2 "_law_flags" ["_law_worker_here","_law_head","_law_flags_here"] (zf n):=by
 refine F.ok bR λf cdv A outer s H vs Q E hr h=>?_
 have hu:=iN hr
 obtain⟨a,b,g,x,h,fl,rfl,ha,hb,hF,hkp,q⟩:=h
 refine⟨_,(aq (oO (pv 2) (cD rfl (aD (bS (i:=3) bR.nd rfl (Or.inl rfl)) (aD (bS (i:=4) bR.nd rfl (Or.inl rfl)) (aD (bS (i:=5) bR.nd rfl (Or.inl rfl)) (aD (bS (i:=6) bR.nd rfl (Or.inl rfl)) (aD (bS (i:=7) bR.nd rfl (Or.inl rfl)) bT)))))))
   (aq (aL (i:=8) bR.nd rfl (Or.inl rfl) (aA K (pv 0) ai))
   (aq (dy (aW aP (pv 8) ao)
    (bK (aL (i:=7) bR.nd rfl (Or.inl rfl) (fY (pv 7) (cY (bU aP (aA K (pv 1) (aF bJ (aA K (pv 0) ai) ai)) ao)))))
    b9)
   (aq (dy (PW.pt (kB (aW aP (pv 8) ao) (iJ (aW ik (aA K (pv 0) ai) ai))))
    (aq (aL (i:=7) bR.nd rfl (Or.inl rfl) (fY (pv 7) (cY (pv 4))))
     (bK (aL (i:=5) bR.nd rfl (Or.inl rfl) fV)))
    b9)
   (aq (dy (aW aP (pv 8) ao)
    (bK (aL (i:=7) bR.nd rfl (Or.inl rfl) (fY (pv 7) (fY (pv 6) (cY (pv 5))))))
    b9)
   (ax (aJ (ae (fY (pv 3) (cY (JR (ay eU hr (ae (pv 0) ah))))) (ae (fY (pv 4) (cY (fJ cq (pv 8) (aQ (ae ao (ae ao (ae ao ah)))) rfl))) (ae (pv 5) (ae (fY (pv 6) (cY (bU aP (pv 8) ao))) (ae (pv 7) ah)))))))))))),?_⟩
 obtain⟨xs,h1⟩:=ha.first
 refine⟨_,rfl,g,_,rfl,aH.of hF,rfl,_,_,rfl,ak ⟨_,_,rfl,ak ⟨_,_,rfl,ak ⟨_,_,rfl,ak ⟨_,_,rfl,ak ⟨rfl,?_⟩⟩⟩⟩⟩⟩
 dsimp only
 refine⟨_,rfl,a,_,0,_,rfl,rfl,aH.of h1,av (j:=0) rfl,ak ?_⟩
 dsimp only
 have fin:∀(fi lo:Bool),fi=(fl.f||pF (au x))->lo=(fl.l||looseW x h fl)->Bn (FT (bp (uK (bx 3) (Ha (i3 (uI n) [] E0 (bp (bx 0) fD)))) (bp (uK (bx 4) (gO (Hv K false) (bx 8) (xi (bp (tC (.str "walk")) (bp (tC (.str "both")) (bp (tC (.str "meet")) fD)))))) (bp (bx 5) (bp (uK (bx 6) (gO GR (bx 8) (tC (.str "walk")))) (bp (bx 7) fD)))))) {nx:=λ_ H'=>Q .non H',rt:=Q} [some (.ref a),some (.ref b),some (.ref g),some (.bl fl.o),some (.bl fl.j),some (.bl fi),some (.bl fl.w),some (.bl lo),some (.str x.nm)] H:=by
  rintro fi lo rfl rfl
  have q:∀(u:Addr) (H':Hp),aM H H'->H' u=some (.tup [.bl (fl.o || !cC x.nm),.bl (fl.j||inV (.str x.nm) [.str "walk",.str "both",.str "meet"]),.bl (fl.f||pF (au x)),.bl (fl.w||pW x.nm),.bl (fl.l||looseW x h fl)])->Q (.ref u) H':=q
  have last:∀(o:Bool),o=(fl.o || !cC x.nm)->∀H1,aM H H1->bp (uK (bx 4) (gO (Hv K false) (bx 8) (xi (bp (tC (.str "walk")) (bp (tC (.str "both")) (bp (tC (.str "meet")) fD)))))) (bp (bx 5) (bp (uK (bx 6) (gO GR (bx 8) (tC (.str "walk")))) (bp (bx 7) fD))) [some (.ref a),some (.ref b),some (.ref g),some (.bl fl.o),some (.bl fl.j),some (.bl (fl.f||pF (au x))),some (.bl fl.w),some (.bl (fl.l||looseW x h fl)),some (.str x.nm)] H1 (λvs H2=>(.bl o::vs).length<=sizeLine/\∀u,H2 u=none->Q (.ref u) (upd H2 u (.tup (.bl o::vs)))):=by
   rintro o rfl H1 s1
   have lst:∀(j:Bool),j=(fl.j||inV (.str x.nm) [.str "walk",.str "both",.str "meet"])->∀H2,aM H H2->bp (bx 5) (bp (uK (bx 6) (gO GR (bx 8) (tC (.str "walk")))) (bp (bx 7) fD)) [some (.ref a),some (.ref b),some (.ref g),some (.bl fl.o),some (.bl fl.j),some (.bl (fl.f||pF (au x))),some (.bl fl.w),some (.bl (fl.l||looseW x h fl)),some (.str x.nm)] H2 (λvs H3=>(V.bl (fl.o || !cC x.nm) :: .bl j::vs).length<=sizeLine/\∀u,H3 u=none->Q (.ref u) (upd H3 u (.tup (.bl (fl.o || !cC x.nm) :: .bl j::vs)))):=by
    rintro j rfl H2 s2
    refine⟨_,rfl,_,rfl,_,rfl,cI (λz=>?_) (λz=>?_)⟩
    ·refine⟨_,rfl,tN,λu hu'=>q u _ (s2.trans (aj hu' _)) ?_⟩
     rw [ag,z]; rfl
    ·refine⟨_,rfl,rfl,_,rfl,tN,λu hu'=>q u _ (s2.trans (aj hu' _)) ?_⟩
     rw [ag,Bool.eq_false_iff.mpr z,bM]; rfl
   refine⟨_,rfl,_,rfl,cI (λz=>?_) (λz=>?_)⟩
   ·exact lst true (by rw [z]; rfl) H1 s1
   ·refine⟨_,rfl,gw,λR hR=>⟨R,_,rfl,.inl (aZ.of ag),rfl,rfl,?_⟩⟩
    exact lst _ (by rw [Bool.eq_false_iff.mpr z]; rfl) _ (s1.trans (aj hR _))
  refine⟨_,rfl,_,rfl,cI (λz=>?_) (λz=>?_)⟩
  ·exact last true (by rw [z]; rfl) H (aM.refl _)
  ·exact⟨_,rfl,a,x,rfl,ha,λH1 s1=>⟨_,rfl,last _ (by rw [Bool.eq_false_iff.mpr z]; rfl) H1 s1⟩⟩
 refine⟨_,rfl,rfl,_,rfl,?_⟩
 rw [bM]
 by_cases e1:x.nm="keep"
 ·rw [UB e1]
  obtain⟨c,t,rfl⟩:=sO e1
  obtain⟨st,ys,hk1,hk2⟩:=bW.mp ha
  refine bX ?_
  refine⟨_,rfl,_,rfl,cI (λz=>?_) (λz=>?_)⟩
  ·refine ak ?_
   dsimp only
   refine⟨_,rfl,rfl,_,rfl,?_⟩
   rw [bM,UA (by simp only [Wk.nm,W1.nm]; decide +kernel)]
   refine bA (bA (aG ⟨_,rfl,rfl,_,rfl,?_⟩))
   rw [bM,UA (by simp only [Wk.nm,W1.nm]; decide +kernel)]
   exact bA (aG (fin _ true (by rw [xl (by simp only [Wk.nm,W1.nm]; decide +kernel),Bool.or_false]) (by rw [z]; rfl)))
  ·refine⟨_,rfl,_,rfl,a,_,1,_,rfl,rfl,aH.of hk1,rfl,_,_,rfl,rfl,b,_,_,_,rfl,rfl,aH.of hb,dE (hkp c t rfl),rfl,ak ?_⟩
   dsimp only
   generalize hlo:decide (V.str (bt h c)=V.str "t")=lo
   refine⟨_,rfl,rfl,_,rfl,?_⟩
   rw [bM,UA (by simp only [Wk.nm,W1.nm]; decide +kernel)]
   refine bA (bA (aG ⟨_,rfl,rfl,_,rfl,?_⟩))
   rw [bM,UA (by simp only [Wk.nm,W1.nm]; decide +kernel)]
   exact bA (aG (fin _ _ (by rw [xl (by simp only [Wk.nm,W1.nm]; decide +kernel),Bool.or_false]) (by rw [Bool.eq_false_iff.mpr z,Bool.false_or,←hlo,bM]; rfl)))
 rw [UA e1]
 refine bA (aG ⟨_,rfl,rfl,_,rfl,?_⟩)
 rw [bM]
 by_cases e2:x.nm="first"
 ·rw [UB e2]
  obtain⟨m,rfl⟩:=lh e2
  have h2:H a=some (.tup [.str "first",.int m]):=bW.mp ha
  refine bX ⟨_,rfl,a,_,1,_,rfl,rfl,aH.of h2,rfl,_,_,rfl,rfl,_,rfl,?_⟩
  by_cases e3:m<=0
  ·rw [UA (show¬(0:Int)<m by omega)]
   refine bA (aG ⟨_,rfl,rfl,_,rfl,?_⟩)
   rw [bM,UA (by simp only [Wk.nm,W1.nm]; decide +kernel)]
   refine bA (aG (fin _ _ ?_ ?_))
   ·show fl.f=(fl.f||pF (if m<=0 then "first 0" else "first"))
    rw [if_pos e3,show pF "first 0"=false by decide +kernel,Bool.or_false]
   ·show fl.l=(fl.l||(decide (¬m<=0)&&fl.j))
    rw [UA (λz=>z e3),Bool.false_and,Bool.or_false]
  ·rw [UB (show(0:Int)<m by omega)]
   have hf1:true=(fl.f||pF (if m<=0 then "first 0" else "first")):=by
    rw [if_neg e3,show pF "first"=true by decide +kernel,Bool.or_true]
   have hl1:(fl.l||(decide (¬m<=0)&&fl.j))=(fl.l||fl.j):=by rw [UB e3,Bool.true_and]
   refine bX ⟨_,rfl,_,rfl,cI (λz=>?_) (λz=>?_)⟩
   ·refine ak ?_
    dsimp only
    refine ak ?_
    dsimp only
    refine⟨_,rfl,rfl,_,rfl,?_⟩
    rw [bM,UA (by simp only [Wk.nm,W1.nm]; decide +kernel)]
    exact bA (aG (fin _ true hf1 (by show true=(fl.l||(decide (¬m<=0)&&fl.j)); rw [z]; rfl)))
   ·refine⟨_,rfl,ak ?_⟩
    dsimp only
    refine ak ?_
    dsimp only
    refine⟨_,rfl,rfl,_,rfl,?_⟩
    rw [bM,UA (by simp only [Wk.nm,W1.nm]; decide +kernel)]
    exact bA (aG (fin _ _ hf1 (by show fl.j=(fl.l||(decide (¬m<=0)&&fl.j)); rw [hl1,Bool.eq_false_iff.mpr z]; rfl)))
 rw [UA e2]
 refine bA (bA (aG ⟨_,rfl,rfl,_,rfl,?_⟩))
 rw [bM]
 have hf2:fl.f=(fl.f||pF (au x)):=by rw [xl e2,Bool.or_false]
 by_cases e3:x.nm="meet"
 ·rw [UB e3]
  obtain⟨c,d,p,q',rfl⟩:=iW e3
  refine bX ⟨_,rfl,_,rfl,cI (λz=>?_) (λz=>⟨_,rfl,_,rfl,cI (λz2=>?_) (λz2=>⟨_,rfl,?_⟩)⟩)⟩
  ·refine ak ?_
   dsimp only
   exact fin _ true hf2 (by rw [z]; rfl)
  ·refine ak ?_
   dsimp only
   exact fin _ true hf2 (by show true=(fl.l||(fl.w||fl.f)); rw [z2,Bool.true_or,Bool.or_true])
  ·refine ak ?_
   dsimp only
   exact fin _ fl.f hf2 (by show fl.f=(fl.l||(fl.w||fl.f)); rw [Bool.eq_false_iff.mpr z,Bool.eq_false_iff.mpr z2,Bool.false_or,Bool.false_or])
 ·rw [UA e3]
  exact bA (aG (fin _ _ hf2 (by rw [wj e1 e2 e3,Bool.or_false])))
def Ez(a b:Fl):Fl:=⟨a.o||b.o,a.j||b.j,a.f||b.f,a.w||b.w,a.l||b.l⟩
def lQ(x:Wk)(h:Hd)(f:Fl)(pl:List Int)(es:List Hd)(a:Fl):Res:=match i7 x f (kM x h es)with
 | some s=>.no pl s
 | none=>.ok (bH x (kM x h es)) (jb x h a)
def uY(step:Hd->Fl->List Int->Wk->Res)(x:Wk)(h:Hd)(f:Fl)(pl:List Int):List (List Wk)->Nat->List Hd->Fl->Res
 | [],_,es,a=>lQ x h f pl es a
 | p::ps,j,es,a=>c8 (putL step (pl++[(j:Int)]) 0 h f p) λh' f'=>uY step x h f pl ps (j+1) (es++[h']) (Ez a f')
def yS:Nat->Hd->Fl->List Int->Wk->Res
 | 0,h,f,pl,x=>iu x h f pl [(h,f)]
 | n+1,h,f,pl,x=>match x with
  | .one _=>lQ x h f pl [] f
  | _=>uY (yS n) x h f pl (dJ x) 0 [] f
def Ca(f g:Fl):Prop:=(f.o=true->g.o=true)/\(f.j=true->g.j=true)/\(f.f=true->g.f=true)/\(f.w=true->g.w=true)/\(f.l=true->g.l=true)
theorem Ca.refl{f:Fl}:Ca f f:=⟨id,id,id,id,id⟩
theorem Ca.trans{f g h:Fl}(a:Ca f g)(b:Ca g h):Ca f h:=⟨b.1∘a.1,b.2.1∘a.2.1,b.2.2.1∘a.2.2.1,b.2.2.2.1∘a.2.2.2.1,b.2.2.2.2∘a.2.2.2.2⟩
theorem wR{x:Wk}{h:Hd}{f g:Fl}{fs:List Fl}(hm:g∈fs):Ca g (Eo x h f fs):=by
 have a:∀p:Fl->Bool,p g=true->fs.any p=true:=λp e=>List.any_eq_true.mpr ⟨g,hm,e⟩
 refine⟨λe=>?_,λe=>?_,λe=>?_,λe=>?_,λe=>?_⟩
 ·show(fs.any _||_)=true; rw [a (λg=>g.o) e]; rfl
 ·show(fs.any _||_)=true; rw [a (λg=>g.j) e]; rfl
 ·show(fs.any _||_)=true; rw [a (λg=>g.f) e]; rfl
 ·show(fs.any _||_)=true; rw [a (λg=>g.w) e]; rfl
 ·show(_||fs.any _)=true; rw [a (λg=>g.l) e,Bool.or_true]
theorem rT{x:Wk}{h h':Hd}{f f':Fl}{pl:List Int}{es:List (Hd×Fl)}(e:iu x h f pl es=.ok h' f'):f'=Eo x h f (es.map λe=>e.2)/\i7 x f (es.map λe=>e.1)=none:=by
 unfold iu at e
 split at e
 ·cases e
 ·next hn=>cases e; exact⟨rfl,hn⟩
theorem fm{r:Res}{g:Hd->Fl->Res}{h':Hd}{f':Fl}(e:c8 r g=.ok h' f'):∃h1 f1,r=.ok h1 f1/\g h1 f1=.ok h' f':=by
 cases r with
 | ok h f=>exact⟨h,f,rfl,e⟩
 | no a s=>cases e
theorem sk{step:Hd->Fl->List Int->Wk->Res}(hs:∀h f pl x h' f',step h f pl x=.ok h' f'->Ca f f'){pl:List Int}:∀{ws:List Wk} {i:Nat} {h:Hd} {f:Fl} {h':Hd} {f':Fl},putL step pl i h f ws=.ok h' f'->Ca f f'
 | [],_,_,_,_,_,e=>by cases e; exact Ca.refl
 | x::ws,i,h,f,h',f',e=>by
  obtain⟨h1,f1,e1,e2⟩:=fm e
  exact(hs _ _ _ _ _ _ e1).trans (sk hs e2)
theorem sD{x:Wk}(h:bY x=true):∃p q,dJ x=[p,q]:=by
 cases x with
 | one x=>cases h
 | both p q=>exact⟨p,q,rfl⟩
 | meet c d p q=>exact⟨p,q,rfl⟩
theorem yq:∀(n:Nat) (h:Hd) (f:Fl) (pl:List Int) (x:Wk) (h':Hd) (f':Fl),cn n h f pl x=.ok h' f'->Ca f f'
 | 0,h,f,pl,x,h',f',e=>by
  rw [(rT e).1]
  exact wR (by simp)
 | n+1,h,f,pl,x,h',f',e=>by
  cases hb:bY x with
  | false =>
   rw [iZ hb]at e
   rw [(rT e).1]
   exact wR (by simp)
  | true =>
   rw [oW hb]at e
   obtain⟨p,q,hpq⟩:=sD hb
   rw [hpq]at e
   obtain⟨h1,f1,e1,e⟩:=fm e
   obtain⟨h2,f2,e2,e⟩:=fm e
   rw [(rT e).1]
   exact(sk (yq n) e1).trans (wR (by simp))
theorem Ay{x:Wk}(h:cC x.nm=true):bY x=false/\pW (au x)=false/\pF (au x)=false:=by
 revert h
 cases x with
 | one x=>cases x <;> simp only [Wk.nm,W1.nm] <;> intro h <;> first | exact absurd h (by decide +kernel) | exact⟨rfl,by simp only [au,Wk.nm,W1.nm]; decide +kernel,by simp only [au,Wk.nm,W1.nm]; decide +kernel⟩
 | both p q=>simp only [Wk.nm]; intro h; exact absurd h (by decide +kernel)
 | meet c d p q=>simp only [Wk.nm]; intro h; exact absurd h (by decide +kernel)
theorem nZ{n:Nat}{pl:List Int}:∀{ws:List Wk} {i:Nat} {h:Hd} {f:Fl} {h':Hd} {f':Fl},(∀x∈ws,cC x.nm=true)->putL (cn n) pl i h f ws=.ok h' f'->f'.w=f.w/\f'.f=f.f
 | [],_,_,_,_,_,_,e=>by cases e; exact⟨rfl,rfl⟩
 | x::ws,i,h,f,h',f',ho,e=>by
  obtain⟨h1,f1,e1,e2⟩:=fm e
  obtain⟨a,b⟩:=nZ (λy hy=>ho y (by simp [hy])) e2
  obtain⟨o1,o2,o3⟩:=Ay (ho x (by simp))
  rw [iZ o1]at e1
  rw [a,b,(rT e1).1]
  refine⟨?_,?_⟩
  ·show(([f].any λg=>g.w)||pW (au x))=f.w
   rw [o2]; simp
  ·show(([f].any λg=>g.f)||pF (au x))=f.f
   rw [o3]; simp
theorem uT(x:Wk):pO (au x)=(!cC x.nm)/\pJ (au x)=inV (.str x.nm) [.str "walk",.str "both",.str "meet"]/\pW (au x)=pW x.nm:=by
 by_cases h:x.nm="first"
 ·obtain⟨n,rfl⟩:=lh h
  show pO (if n<=0 then "first 0" else "first")=_/\pJ (if n<=0 then "first 0" else "first")=_/\pW (if n<=0 then "first 0" else "first")=_
  simp only [Wk.nm,W1.nm]
  split <;> (refine⟨?_,?_,?_⟩ <;> decide +kernel)
 ·rw [lg h]
  refine⟨rfl,?_,rfl⟩
  unfold pJ inV
  simp only [List.any_cons,List.any_nil,Bool.or_false,se]
  rw [Bool.or_assoc]
theorem y_{x:Wk}{h:Hd}{f:Fl}{pl:List Int}(hb:bY x=false):lQ x h f pl [] f=iu x h f pl [(h,f)]:=by
 have eh:kM x h []=[h]:=by unfold kM; rw [hb]; rfl
 obtain⟨n1,n2,n3⟩:=uT x
 have ef:jb x h f=Eo x h f [f]:=by
  unfold jb Eo
  simp only [List.any_cons,List.any_nil,Bool.or_false,n1,n2,n3]
  rw [Bool.or_comm f.l]
 unfold lQ iu
 rw [eh,ef]
 simp only [List.map_cons,List.map_nil]
 first | done | (cases i7 x f [h] <;> rfl)
theorem or3{a b c:Bool}(h:a=true->b=true):(a||b||c)=(b||c):=by
 cases a <;> cases b <;> simp_all
theorem Es{n:Nat}{x:Wk}{h h1 h2:Hd}{f f1 f2:Fl}{pl p1 p2:List Int}{p q:List Wk}(hb:bY x=true)(hpq:dJ x=[p,q])(e1:putL (cn n) p1 0 h f p=.ok h1 f1)(e2:putL (cn n) p2 0 h f q=.ok h2 f2) :
  lQ x h f pl [h1,h2] (Ez (Ez f f1) f2)=iu x h f pl [(h1,f1),(h2,f2)]:=by
 have eh:kM x h [h1,h2]=[h1,h2]:=by unfold kM; rw [hb]; rfl
 have l1:=sk (yq n) e1
 obtain⟨n1,n2,n3⟩:=uT x
 unfold lQ iu
 rw [eh]
 simp only [List.map_cons,List.map_nil]
 cases ew:i7 x f [h1,h2]with
 | some s=>rfl
 | none =>
  have ef:jb x h (Ez (Ez f f1) f2)=Eo x h f [f1,f2]:=by
   unfold jb Eo Ez
   simp only [List.any_cons,List.any_nil,Bool.or_false,n1,n2,n3]
   rw [or3 l1.1,or3 l1.2.1,or3 l1.2.2.1,or3 l1.2.2.2.1,or3 l1.2.2.2.2]
   congr 1
   cases x with
   | one x=>cases hb
   | both a b=>rw [Bool.or_comm]; rfl
   | meet c d a b =>
    cases hpq
    have hr:(p++q).all (λw=>cC w.nm)=true:=by
     unfold i7 at ew
     split at ew
     ·split at ew
      ·split at ew
       ·split at ew
        ·assumption
        ·cases ew
       ·cases ew
      ·cases ew
     ·cases ew
    rw [List.all_append,Bool.and_eq_true,List.all_eq_true,List.all_eq_true]at hr
    obtain⟨a1,a2⟩:=nZ hr.1 e1
    obtain⟨b1,b2⟩:=nZ hr.2 e2
    show((f1.l||f2.l)||((f1.w||f2.w)||(f1.f||f2.f)))=((f.w||f.f)||(f1.l||f2.l))
    rw [a1,a2,b1,b2,Bool.or_self,Bool.or_self,Bool.or_comm]
  rw [ef]
theorem wO:∀n:Nat,yS n=cn n
 | 0=>by
  funext h f pl x
  rfl
 | n+1=>by
  funext h f pl x
  cases hb:bY x with
  | false =>
   rw [iZ hb,←y_ hb]
   cases x with
   | one x=>rfl
   | both a b=>cases hb
   | meet c d a b=>cases hb
  | true =>
   rw [oW hb]
   obtain⟨p,q,hpq⟩:=sD hb
   have hl:yS (n+1) h f pl x=uY (yS n) x h f pl (dJ x) 0 [] f:=by
    cases x with
    | one x=>cases hb
    | both a b=>rfl
    | meet c d a b=>rfl
   rw [hl,hpq,wO n]
   show c8 (putL (cn n) (pl++[((0:Nat):Int)]) 0 h f p) (λh' f'=>c8 (putL (cn n) (pl++[((1:Nat):Int)]) 0 h f q) λh'' O1=>lQ x h f pl [h',h''] (Ez (Ez f f') O1))=c8 (putL (cn n) (pl++[((0:Nat):Int)]) 0 h f p) (λh' f'=>c8 (putL (cn n) (pl++[((1:Nat):Int)]) 0 h f q) λh'' O1=>iu x h f pl [(h',f'),(h'',O1)])
   cases e1:putL (cn n) (pl++[((0:Nat):Int)]) 0 h f p with
   | no a s=>rfl
   | ok h1 f1 =>
    show c8 _ _=c8 _ _
    cases e2:putL (cn n) (pl++[((1:Nat):Int)]) 0 h f q with
    | no a s=>rfl
    | ok h2 f2=>exact Es hb hpq e1 e2
end My
namespace L2
open PySem PySem.Spec PyProof.Rows
section
variable{prog:Program}{w:World}{A:Around}{E:Value->Shared->Prop}{s:Shared}
theorem AW{z TI TO i1 i2 l1 l2:Addr}{k:Nat}{xs ys:Array Value}{x y a b:Value}{Q:Value->Shared->Prop}(D:ZipApart z TI TO i1 i2 l1 l2)
  (hz:IsZip s.heap z TI TO .none) (hTI:IsPair s.heap TI (.ref i1) (.ref i2)) (hTO:IsPair s.heap TO a b)
  (h1:s.heap.IsTupleIter i1 l1 k) (h2:s.heap.IsTupleIter i2 l2 k) (hl1:s.heap.IsTuple l1 xs) (hl2:s.heap.IsTuple l2 ys) (hx:xs[k]? = some x) (hy:ys[k]? = some y)
  (hQ:∀h',IsZip h' z TI TO (rawInt s.heap.objs.size)->IsPair h' TO x y->h'.IsTupleIter i1 l1 (k+1)->h'.IsTupleIter i2 l2 (k+1)->IsPair h' s.heap.objs.size x y->h'.objs.size=s.heap.objs.size+1->
   (∀c o,c≠z->c≠TO->c≠i1->c≠i2->s.heap.get? c=some o->h'.get? c=some o)->Q (.ref s.heap.objs.size) {s with heap:=h'}) :
  wpAny (model prog w) A (Builtin.«zip.__next__» ⟨[.ref z],[]⟩) (λfin s'=>∃v,fin=.done (.ret v)/\Q v s') E s:=by
 show wpAny _ _ (field (.ref z) 2 >>= _) _ _ _
 refine Ut (wpAny_field hz rfl (x:=.bool false) rfl ?_)
 show wpAny _ _ (field (.ref z) 3 >>= _) _ _ _
 refine Ut (wpAny_field hz rfl (x:=.ref TI) rfl ?_)
 refine Ut (wpAny_seqItems hTI rfl ?_)
 show wpAny _ _ (Builtin.SmallTypes.ownedTupleIsFree (.ref z) >>= _) _ _ _
 refine Ut ?_
 unfold Builtin.SmallTypes.ownedTupleIsFree
 refine Ut (wpAny_field hz rfl (x:=.none) rfl (Uu ?_))
 simp only [if_true]
 refine Ut (wpAny_rule ?_)
 refine Ut (wpAny_field hz rfl (x:=.ref TO) rfl ?_)
 refine Ut (wpAny_setField_rec hz (by simp) λg1 z1 s1=>?_)
 replace z1:IsZip g1 z TI TO .ellipsis:=z1
 refine Ut ?_
 simp only [List.zipIdx_cons,List.zipIdx_nil,List.forIn_cons,List.forIn_nil]
 refine Ut (Ut (wpAny_onRaise ?_))
 show wpAny _ _ (Builtin.SmallTypes.nextOf (.ref i1) >>= _) _ _ _
 refine Ut (j6 (h1.extBut s1.extBut D.i1z) (hl1.extBut s1.extBut D.l1z) hx λg2 a2 s2=>Uu ?_)
 have p2:IsPair g2 TO a b:=s2.extBut _ _ D.TOi1 (s1.extBut _ _ D.TOz hTO)
 refine Ut (wpAny_seqItems p2 rfl (Ut (wpAny_updateSeq_pair p2 λg3 p3 s3=>Ut (wpAny_letGo (Uu ?_)))))
 replace p3:IsPair g3 TO x b:=p3
 refine Ut (Ut (wpAny_onRaise ?_))
 show wpAny _ _ (Builtin.SmallTypes.nextOf (.ref i2) >>= _) _ _ _
 refine Ut (j6 (((h2.extBut s1.extBut D.i2z).extBut s2.extBut D.i12.symm).extBut s3.extBut D.TOi2.symm) (((hl2.extBut s1.extBut D.l2z).extBut s2.extBut D.l2i1).extBut s3.extBut D.l2TO) hy λg4 a4 s4=>Uu ?_)
 have p4:IsPair g4 TO x b:=s4.extBut _ _ D.TOi2 p3
 refine Ut (wpAny_seqItems p4 rfl (Ut (wpAny_updateSeq_pair p4 λg5 p5 s5=>Ut (wpAny_letGo (Uu (Uu ?_))))))
 replace p5:IsPair g5 TO x y:=p5
 refine Ut (wpAny_seqItems p5 rfl (Ut (wpAny_newTuple ?_)))
 have hsz:g5.objs.size=s.heap.objs.size:=by rw [s5.1,s4.1,s3.1,s2.1,s1.1]
 have z5:IsZip g5 z TI TO .ellipsis:=s5.extBut _ _ D.TOz.symm (s4.extBut _ _ D.i2z.symm (s3.extBut _ _ D.TOz.symm (s2.extBut _ _ D.i1z.symm z1)))
 have k5:∀c o,c≠z->c≠TO->c≠i1->c≠i2->s.heap.get? c=some o->g5.get? c=some o:=λc o c1 c2 c3 c4 e=>s5.extBut _ _ c2 (s4.extBut _ _ c4 (s3.extBut _ _ c2 (s2.extBut _ _ c3 (s1.extBut _ _ c1 e))))
 have b1:g5.IsTupleIter i1 l1 (k+1):=((a2.extBut s3.extBut D.TOi1.symm).extBut s4.extBut D.i12).extBut s5.extBut D.TOi1.symm
 have b2:g5.IsTupleIter i2 l2 (k+1):=a4.extBut s5.extBut D.TOi2.symm
 have Lz:z<g5.objs.size:=Uw z5
 show wpAny _ _ (Builtin.SmallTypes.ownedTupleHandOut (.ref z) (.ref g5.objs.size) >>= _) _ _ _
 refine Ut ?_
 unfold Builtin.SmallTypes.ownedTupleHandOut
 have z6:IsZip (g5.push {cls:=.type "tuple",data:=.seq #[x,y]}) z TI TO .ellipsis:=Uv _ z5
 refine Ut (wpAny_setField_rec z6 (by simp) λg7 z7 s7=>?_)
 replace z7:IsZip g7 z TI TO (rawInt g5.objs.size):=z7
 refine wpAny_setField_rec z7 (by simp) λg8 z8 s8=>?_
 replace z8:IsZip g8 z TI TO (rawInt g5.objs.size):=z8
 have up:∀c o,c≠z->g5.get? c=some o->g8.get? c=some o:=λc o c1 e=>s8.extBut _ _ c1 (s7.extBut _ _ c1 (Uv _ e))
 have t8:IsPair g8 g5.objs.size x y:=s8.extBut _ _ (Nat.ne_of_gt Lz) (s7.extBut _ _ (Nat.ne_of_gt Lz) (Ux _ rfl))
 have n8:g8.objs.size=g5.objs.size+1:=by rw [s8.1,s7.1,Heap.size_push]
 rw [hsz]at z8 t8 n8
 refine Uu ⟨_,rfl,?_⟩
 show Q (.ref g5.objs.size) _
 rw [hsz]
 exact hQ g8 z8 (up _ _ D.TOz p5) (b1.at λo e=>up _ o D.i1z e) (b2.at λo e=>up _ o D.i2z e) t8 n8 λc o c1 c2 c3 c4 e=>up c o c1 (k5 c o c1 c2 c3 c4 e)
theorem DF{z TI TO i1 i2 l1 l2:Addr}{k:Nat}{xs:Array Value}{Q:Fin->Shared->Prop}(hh:A.handled=none)(D:ZipApart z TI TO i1 i2 l1 l2)
  (hz:IsZip s.heap z TI TO .none) (hTI:IsPair s.heap TI (.ref i1) (.ref i2)) (h1:s.heap.IsTupleIter i1 l1 k) (hl1:s.heap.IsTuple l1 xs) (hx:xs[k]? = none)
  (hE:∀h' e,(∀c o,c≠z->c≠i1->s.heap.get? c=some o->h'.get? c=some o)->(∃o,h'.get? e=some o/\o.cls=.type "StopIteration")->E (.ref e) {s with heap:=h'}) :
  wpAny (model prog w) A (Builtin.«zip.__next__» ⟨[.ref z],[]⟩) Q E s:=by
 show wpAny _ _ (field (.ref z) 2 >>= _) _ _ _
 refine Ut (wpAny_field hz rfl (x:=.bool false) rfl ?_)
 show wpAny _ _ (field (.ref z) 3 >>= _) _ _ _
 refine Ut (wpAny_field hz rfl (x:=.ref TI) rfl ?_)
 refine Ut (wpAny_seqItems hTI rfl ?_)
 show wpAny _ _ (Builtin.SmallTypes.ownedTupleIsFree (.ref z) >>= _) _ _ _
 refine Ut ?_
 unfold Builtin.SmallTypes.ownedTupleIsFree
 refine Ut (wpAny_field hz rfl (x:=.none) rfl (Uu ?_))
 simp only [if_true]
 refine Ut (wpAny_rule ?_)
 refine Ut (wpAny_field hz rfl (x:=.ref TO) rfl ?_)
 refine Ut (wpAny_setField_rec hz (by simp) λg1 z1 s1=>?_)
 replace z1:IsZip g1 z TI TO .ellipsis:=z1
 refine Ut ?_
 simp only [List.zipIdx_cons,List.zipIdx_nil,List.forIn_cons,List.forIn_nil]
 refine Ut (Ut (wpAny_onRaise ?_))
 show wpAny _ _ (Builtin.SmallTypes.nextOf (.ref i1) >>= _) _ _ _
 refine Ut (gc hh (h1.extBut s1.extBut D.i1z) (hl1.extBut s1.extBut D.l1z) hx λg2 e s2 he=>?_)
 obtain⟨oe,hoe,hce⟩:=he
 have z2:IsZip g2 z TI TO .ellipsis:=s2 _ _ D.i1z.symm z1
 have ez:e≠z:=λx=>by subst x; rw [z2]at hoe; cases hoe; simp at hce
 exact wpAny_setField_rec z2 (by simp) λg3 _ s3=>hE g3 e (λc o c1 c3 x=>s3.extBut _ _ c1 (s2 _ _ c3 (s1.extBut _ _ c1 x))) ⟨oe,s3.extBut _ _ ez hoe,hce⟩
theorem nX{z TI TO i1 i2 l1 l2:Addr}{k:Nat}{xs ys:Array Value}{x y a b:Value}{Q:Option Value->Shared->Prop}(D:ZipApart z TI TO i1 i2 l1 l2)
  (hz:IsZip s.heap z TI TO .none) (hTI:IsPair s.heap TI (.ref i1) (.ref i2)) (hTO:IsPair s.heap TO a b)
  (h1:s.heap.IsTupleIter i1 l1 k) (h2:s.heap.IsTupleIter i2 l2 k) (hl1:s.heap.IsTuple l1 xs) (hl2:s.heap.IsTuple l2 ys) (hx:xs[k]? = some x) (hy:ys[k]? = some y)
  (hQ:∀h',IsZip h' z TI TO (rawInt s.heap.objs.size)->IsPair h' TO x y->h'.IsTupleIter i1 l1 (k+1)->h'.IsTupleIter i2 l2 (k+1)->IsPair h' s.heap.objs.size x y->h'.objs.size=s.heap.objs.size+1->
   (∀c o,c≠z->c≠TO->c≠i1->c≠i2->s.heap.get? c=some o->h'.get? c=some o)->Q (some (.ref s.heap.objs.size)) {s with heap:=h'}) :
  wpAny (model prog w) A (pyNext (.ref z)) Q E s:=by
 have hT:s.TypeIs (.ref z) "zip":=⟨_,hz,rfl⟩
 unfold pyNext
 exact Ut (wpAny_attempt (wpAny_callSpecial?_slot (name:=Str.ofString "__next__") hT F.slot_zip_next
  (wpAny_call_entry F.slot_zip_next hT F.entry_zip_next (AW D hz hTI hTO h1 h2 hl1 hl2 hx hy λh' a1 a2 a3 a4 a5 a6 a7=>Uu (hQ h' a1 a2 a3 a4 a5 a6 a7)) (F.args_zip_next_1 _))))
theorem qh{z TI TO i1 i2 l1 l2:Addr}{k:Nat}{xs:Array Value}{Q:Option Value->Shared->Prop}(hh:A.handled=none)(D:ZipApart z TI TO i1 i2 l1 l2)
  (hz:IsZip s.heap z TI TO .none) (hTI:IsPair s.heap TI (.ref i1) (.ref i2)) (h1:s.heap.IsTupleIter i1 l1 k) (hl1:s.heap.IsTuple l1 xs) (hx:xs[k]? = none)
  (hQ:∀h',(∀c o,c≠z->c≠i1->s.heap.get? c=some o->h'.get? c=some o)->Q none {s with heap:=h'}):wpAny (model prog w) A (pyNext (.ref z)) Q E s:=by
 have hT:s.TypeIs (.ref z) "zip":=⟨_,hz,rfl⟩
 unfold pyNext
 refine Ut (wpAny_attempt (wpAny_callSpecial?_slot (name:=Str.ofString "__next__") hT F.slot_zip_next
  (wpAny_call_entry F.slot_zip_next hT F.entry_zip_next (DF hh D hz hTI h1 hl1 hx λh' e hk he=>?_) (F.args_zip_next_1 _))))
 obtain⟨o,ho,hc⟩:=he
 exact Ut (wpAny_isInstance (T:="StopIteration") (b:=true) ⟨o,ho,hc⟩ isSubtype_stop (Uu (hQ _ hk)))
abbrev Nn(h:Heap)(l1:Addr):Heap:=h.push {cls:=.type "tuple_iterator",data:=.fields #[.ref l1,.int 0 0]}
abbrev M7(h:Heap)(l1 l2:Addr):Heap:=(Nn h l1).push {cls:=.type "tuple_iterator",data:=.fields #[.ref l2,.int 0 0]}
abbrev Nd(h:Heap)(l1 l2:Addr):Heap:=(M7 h l1 l2).push {cls:=.type "tuple",data:=.seq #[.ref h.objs.size,.ref (Nn h l1).objs.size]}
abbrev NH(h:Heap)(l1 l2:Addr):Heap:=(Nd h l1 l2).push {cls:=.type "tuple",data:=.seq #[.none,.none]}
abbrev ID(h:Heap)(l1 l2:Addr):Heap:=(NH h l1 l2).push {cls:=.type "zip",data:=.fields #[.none,.bool false,.bool false,.ref (M7 h l1 l2).objs.size,.ref (Nd h l1 l2).objs.size]}
theorem xT(l1 l2:Addr)(xs ys:Array Value):Meets (Builtin.«zip.__new__» ⟨[.type "zip",.ref l1,.ref l2],[]⟩) (λ_ R s=>s.heap.IsTuple l1 xs/\s.heap.IsTuple l2 ys/\R (.ok (.ret (.ref (NH s.heap l1 l2).objs.size))) {s with heap:=ID s.heap l1 l2}) :=
 .of_wp λprog w A R s h=>by
  obtain⟨hp,g,d,tk,os⟩:=s; obtain⟨hl1,hl2,h⟩:=h
  have hsub:=sub_zip
  have hL1:Heap.IsTuple (Shared.heap ⟨hp,g,d,tk,os⟩) l1 xs:=hl1
  have hL2:Heap.IsTuple (Shared.heap ⟨hp.push {cls:=.type "tuple_iterator",data:=.fields #[.ref l1,.int 0 0]},g,d,tk,os⟩) l2 ys:=Heap.IsTuple.push hl2 _
  wp_walk using wpAny_pyIter_tuple hL1,wpAny_pyIter_tuple hL2
  exact⟨_,rfl,h⟩
theorem zL{l1 l2:Addr}{xs ys:Array Value}{Q:Value->Shared->Prop}(hl1:s.heap.IsTuple l1 xs)(hl2:s.heap.IsTuple l2 ys)
  (h:∀h',IsZip h' (s.heap.objs.size+4) (s.heap.objs.size+2) (s.heap.objs.size+3) .none->IsPair h' (s.heap.objs.size+2) (.ref s.heap.objs.size) (.ref (s.heap.objs.size+1))->
   IsPair h' (s.heap.objs.size+3) .none .none->h'.IsTupleIter s.heap.objs.size l1 0->h'.IsTupleIter (s.heap.objs.size+1) l2 0->h'.objs.size=s.heap.objs.size+5->
   (∀c o,s.heap.get? c=some o->h'.get? c=some o)->Q (.ref (s.heap.objs.size+4)) {s with heap:=h'}) :
  wpAny (model prog w) A (call (.type "zip") [.ref l1,.ref l2]) Q E s:=by
 refine callType_new F.called_zip (by decide) (F.typeCall_zip_2 _ _) (F.newCall_zip_2 _ _) (λobj=>F.args_object_init_3 obj _ _) F.entry_zip_new (xT l1 l2 xs ys) ⟨hl1,hl2,?_⟩
 have z1:(Nn s.heap l1).objs.size=s.heap.objs.size+1:=Heap.size_push ..
 have z2:(M7 s.heap l1 l2).objs.size=s.heap.objs.size+2:=by rw [Heap.size_push,z1]
 have z3:(Nd s.heap l1 l2).objs.size=s.heap.objs.size+3:=by rw [Heap.size_push,z2]
 have z4:(NH s.heap l1 l2).objs.size=s.heap.objs.size+4:=by rw [Heap.size_push,z3]
 have z5:(ID s.heap l1 l2).objs.size=s.heap.objs.size+5:=by rw [Heap.size_push,z4]
 have g5:(ID s.heap l1 l2).get? (NH s.heap l1 l2).objs.size=some _:=Ux _ rfl
 have g4:(ID s.heap l1 l2).get? (Nd s.heap l1 l2).objs.size=some _:=Uv _ (Ux _ rfl)
 have g3:(ID s.heap l1 l2).get? (M7 s.heap l1 l2).objs.size=some _:=Uv _ (Uv _ (Ux _ rfl))
 have g2:(ID s.heap l1 l2).get? (Nn s.heap l1).objs.size=some _:=Uv _ (Uv _ (Uv _ (Ux _ rfl)))
 have g1:(ID s.heap l1 l2).get? s.heap.objs.size=some _:=Uv _ (Uv _ (Uv _ (Uv _ (Ux _ rfl))))
 show _/\_
 rw [z2,z3,z4]at g5
 rw [z1,z2]at g3
 rw [z3]at g4
 rw [z1]at g2
 rw [z4]
 exact⟨⟨_,g5,rfl⟩,h _ g5 g3 g4 ⟨_,g1,rfl,rfl⟩ ⟨_,g2,rfl,rfl⟩ z5 λc o x=>Uv _ (Uv _ (Uv _ (Uv _ (Uv _ x))))⟩
end
def JA(K:PySem.W.Frag)(a b:Addr):It :=
 ⟨λi H=>∃xs ys x y,aH K H a xs/\aH K H b ys/\xs[i]? = some x/\ys[i]? = some y,
   λi H v H'=>∃T x y,v=.ref T/\H T=none/\H'=upd H T (.tup [x,y])/\(∀xs,aH K H a xs->xs[i]? = some x)/\∀ys,aH K H b ys->ys[i]? = some y,
   λi H=>∃xs,aH K H a xs/\xs.length<=i⟩
theorem AL{P:Program}{w:World}{K:PySem.W.Frag}{es:List Expr}{x1:Nat}{pos:Pos}(a b z TI TO i1 i2:Addr)(D:ZipApart z TI TO i1 i2 a b) :
  Turn P w K (.Tuple es x1 pos) (JA K a b) [z,TI,TO,i1,i2] z (λi h=>IsZip h z TI TO .none/\IsPair h TI (.ref i1) (.ref i2)/\(∃u v,IsPair h TO u v)/\h.IsTupleIter i1 a i/\h.IsTupleIter i2 b i) where
 mem:=by simp
 obj:=λi h st c hc=>by
  obtain⟨h1,h2,⟨u,v,h3⟩,⟨o4,e4,c4,d4⟩,⟨o5,e5,c5,d5⟩⟩:=st
  simp only [List.mem_cons,List.not_mem_nil,or_false]at hc
  rcases hc with rfl | rfl | rfl | rfl | rfl
  ·exact⟨_,h1,λv z=>by cases(show Data.fields _=Data.cell v from z)⟩
  ·exact⟨_,h2,λv z=>by cases(show Data.seq _ _=Data.cell v from z)⟩
  ·exact⟨_,h3,λv z=>by cases(show Data.seq _ _=Data.cell v from z)⟩
  ·exact⟨o4,e4,λv z=>by rw [d4]at z; cases z⟩
  ·exact⟨o5,e5,λv z=>by rw [d5]at z; cases z⟩
 keep:=λi h h' st k=>by
  obtain⟨h1,h2,⟨u,v,h3⟩,h4,h5⟩:=st
  exact⟨k z (by simp) _ h1,k TI (by simp) _ h2,⟨u,v,k TO (by simp) _ h3⟩,h4.at λo e=>k i1 (by simp) o e,h5.at λo e=>k i2 (by simp) o e⟩
 item:=by
  intro X hP hw hK hc i pins s σ H E I hf st hg
  subst hP hw hK
  obtain⟨xs,ys,x,y,hq1,hq2,hx,hy⟩:=hg
  obtain⟨its,rv,p,hz⟩:=I.tuple hq1
  obtain⟨its2,Qt,p2,hz2⟩:=I.tuple hq2
  obtain⟨u,hu,ru⟩:=rv.get hx
  obtain⟨u2,hu2,Tx⟩:=Qt.get hy
  obtain⟨h1,h2,⟨v1,v2,h3⟩,h4,h5⟩:=st
  refine nX D h1 h2 h3 h4 h5 p p2 (x:=u) (y:=u2) (by simpa using hu) (by simpa using hu2) λh' g1 g2 g3 g4 g5 hsz g6=>⟨_,rfl,?_⟩
  refine wpAny_letOwnedTupleGo_zip (show IsZip h' z TI TO (rawInt s.heap.objs.size) from g1) λh'' f1 fs=>?_
  have Lz:z<s.heap.objs.size:=Uw h1
  have Pp:s.heap.objs.size≠z:=Nat.ne_of_gt Lz
  have kk:∀c o,c∉[z,TI,TO,i1,i2]->s.heap.get? c=some o->h''.get? c=some o:=λc o hc e=>by
   simp only [List.mem_cons,List.not_mem_nil,or_false,not_or]at hc
   exact fs.extBut _ _ hc.1 (g6 c o hc.1 hc.2.2.1 hc.2.2.2.1 hc.2.2.2.2 e)
  have pT:IsPair h'' s.heap.objs.size u u2:=fs.extBut _ _ Pp g5
  have I1:Inv X pins σ (upd H s.heap.objs.size (.tup [x,y])) {s with heap:=h'',toks:=s.toks}:=I.qX hf kk (Uy _) ⟨by show 2<=sizeLine; decide,[u,u2],.cons ru (.cons Tx .nil),⟨_,pT,rfl,⟨_,rfl⟩,rfl⟩⟩
  have Ou:TI<s.heap.objs.size:=Uw h2
  refine⟨.ref s.heap.objs.size,_,I1,rfl,⟨_,x,y,rfl,I.hok.fresh (Uy _),rfl,λys hy'=>by rw [I.ib hy' hq1]; exact hx,λys hy'=>by rw [I.ib hy' hq2]; exact hy⟩,⟨f1,?_,⟨u,u2,fs.extBut _ _ D.TOz g2⟩,g3.extBut fs.extBut D.i1z,g4.extBut fs.extBut D.i2z⟩,λc hc=>?_⟩
  ·exact fs.extBut _ _ D.TIz (g6 TI _ D.TIz D.TITO D.TIi1 D.TIi2 h2)
  ·have hn:=(hf c hc).1
   have:c≠s.heap.objs.size:=by
    have lt:c<s.heap.objs.size:=by
     simp only [List.mem_cons,List.not_mem_nil,or_false]at hc
     obtain⟨o4,e4,_⟩:=h4
     obtain⟨o5,e5,_⟩:=h5
     rcases hc with rfl | rfl | rfl | rfl | rfl
     ·exact Lz
     ·exact Ou
     ·exact Uw h3
     ·exact Uw e4
     ·exact Uw e5
    exact Nat.ne_of_lt lt
   rw [aI this]; exact hn
 done:=by
  intro X hP hw hK hc i pins s σ H E I hf st hg
  subst hP hw hK
  obtain⟨xs,hq1,hend⟩:=hg
  obtain⟨its,rv,p,hz⟩:=I.tuple hq1
  obtain⟨h1,h2,⟨v1,v2,h3⟩,h4,h5⟩:=st
  have hl:=rv.length
  refine qh (I.ok.hd hc) D h1 h2 h4 p (by simp; omega) λh' g6=>⟨rfl,I.n9 (t':=s.toks) hf λc o hc e=>?_⟩
  simp only [List.mem_cons,List.not_mem_nil,or_false,not_or]at hc
  exact g6 c o hc.1 hc.2.2.2.1 e
 self:=λ_ _ _ _ _ st h=>wpAny_pyIter_zip st.1 h
section
variable{X:Cx}
def LA(K:PySem.W.Frag)(ta:TA):TI:=λσ H R=>ta σ H λvs H1=>∃a b,vs=[.ref a,.ref b]/\(∃xs,aH K H1 a xs)/\(∃ys,aH K H1 b ys)/\R (JA K a b) H1
theorem EX{es:List Expr}{x1:Nat}{tpos:Pos}{a b:Expr}{ta:TA}{p pos:Pos}(hg:Gl X "zip")(hm:X.mg "zip"=none)(ha:PA X [a,b] ta)(hs:starEach [a,b] X.env=[(false,eval a X.env),(false,eval b X.env)]:=by rfl)(hs2:starEach [b] X.env=[(false,eval b X.env)]:=by rfl) :
  PI X (.Tuple es x1 tpos) (.Call (.Name "zip" p) [a,b] [] pos) (LA X.K ta):=by
 intro pins s σ H R I h
 refine Call_ (iG I hg hm (by decide +kernel:bootBuiltins "zip"=some (.type "zip")) (PyProof.Rows.callWith_type1 (b_ (ha pos pins s σ H _ I h) λus s1 ⟨vs,H1,I1,r1,q1⟩=>?_) (by rw [hs,hs2]) (by rw [hs2]; rfl)))
 obtain⟨l1,l2,e,⟨xs,hq1⟩,⟨ys,hq2⟩,q⟩:=q1
 subst e
 cases r1 with
 | cons r rr =>
  cases rr with
  | cons r' rr =>
   cases rr
   cases r
   cases r'
   obtain⟨its,rv,p1,hz⟩:=I1.tuple hq1
   obtain⟨its2,Qt,p2,hz2⟩:=I1.tuple hq2
   have a1:l1<s1.heap.objs.size:=by obtain⟨_,e,_⟩:=p1; exact Uw e
   have a2:l2<s1.heap.objs.size:=by obtain⟨_,e,_⟩:=p2; exact Uw e
   refine zL p1 p2 λh' hz hTI hTO hi1 hi2 hsz hk=>?_
   refine wpAny_pyIter_zip (show IsZip h' _ _ _ _ from hz) ?_
   refine⟨_,[s1.heap.objs.size+4,s1.heap.objs.size+2,s1.heap.objs.size+3,s1.heap.objs.size,s1.heap.objs.size+1],_,_,H1,rfl,I1.kept (t':=s1.toks) hk,AL _ _ _ _ _ _ _ (zipApart_new a1 a2),⟨hz,hTI,⟨_,_,hTO⟩,hi1,hi2⟩,λc hc=>?_,q⟩
   simp only [List.mem_cons,List.not_mem_nil,or_false]at hc
   have hle:s1.heap.objs.size<=c:=by rcases hc with rfl | rfl | rfl | rfl | rfl <;> first | exact Uy _ | exact Nat.le_add_right _ _
   exact I1.l7 hle (I1.hok.fresh hle)
end
theorem AS{K:PySem.W.Frag}{a b D:Addr}{xs ys:List V}{g:TG}{tc:TT}{te:TE}{Q:VK}{p_:St}{H0:Hp}(Pv:Nat->St->List V->Hp->Prop)(h0:Pv 0 p_ [] H0)(hD:∀i σ zs H,i<=xs.length->Pv i σ zs H->H D=some (.lst zs)/\zs.length<=i)
  (hl:∀i σ zs H,i<=xs.length->Pv i σ zs H->aH K H a xs/\aH K H b ys) (hxy:xs.length=ys.length) (hz:xs.length<=sizeLine)
  (hs:∀i x y σ zs H T,xs[i]? = some x->ys[i]? = some y->Pv i σ zs H->H T=none->g (.ref T) σ (upd H T (.tup [x,y])) λdf H2=>tc df H2 λb H3=>if b=true then te df H3 λv H4=>H4 D=some (.lst zs)/\Pv (i+1) df (zs++[v]) (upd H4 D (.lst (zs++[v])))else Pv (i+1) df zs H3)
  (hd:∀σ zs H,Pv xs.length σ zs H->Q (.ref D) H):∃W:Nat->Nat->St->List V->Hp->Prop,(∃m,W 0 m p_ [] H0)/\oB (JA K a b) g tc te D Q W:=by
 refine⟨λi m σ zs H=>m=xs.length-i/\i<=xs.length/\Pv i σ zs H,⟨xs.length,by simp,Nat.zero_le _,h0⟩,?_⟩
 rintro i m σ zs H ⟨rfl,hi,p⟩
 obtain⟨q1,q2⟩:=hl i σ zs H hi p
 refine⟨(hD i σ zs H hi p).1,?_⟩
 by_cases hlt:i<xs.length
 ·have l2:i<ys.length:=by omega
  refine .inr ⟨⟨xs,ys,xs[i],ys[i],q1,q2,by simp [hlt],by simp [l2]⟩,UG (hD i σ zs H hi p).2 (UH hlt hz),Pv (i+1),λσ' ys' H' p'=>⟨xs.length-(i+1),by omega,rfl,hlt,p'⟩,λv H' y=>?_⟩
  obtain⟨T,x,y,rfl,hT,rfl,hx,hy⟩:=y
  exact hs i x y σ zs H T (hx xs q1) (hy ys q2) p hT
 ·have e:i=xs.length:=by omega
  subst e
  exact .inl ⟨⟨xs,q1,Uy _⟩,hd σ zs H p⟩
section
variable(P:Program)(w:World)
end
section
variable{P:Program}{w:World}{H H':Hp}{h h':Heap}{a:Addr}{o:HO}
end
section
variable{P:Program}{w:World}{H:Hp}{h h':Heap}{x e:Addr}{o':HO}
end
section
variable{fs fs' ex ex':List Addr}{H H1 H2:Hp}{h h1 h2 h':Heap}{a x e:Addr}{o:HO}
end
section
variable{X:Cx}{pins:List (Addr×Obj)}{σ:List (Option V)}{H H':Hp}{s:Shared}{h':Heap}
end
section
variable{X:Cx}
variable{a b:Expr}{ta tb:TE}{pos:Pos}
variable{tA MU:TT}{rest:List Expr}
end
section
variable{X:Cx}{pins:List (Addr×Obj)}{σ:St}{H:Hp}{s:Shared}{a:Addr}{xs ys:List V}
end
section
variable{X:Cx}{pins:List (Addr×Obj)}{σ:St}{H:Hp}{s:Shared}{E:Value->Shared->Prop}
end
section
variable{X:Cx}{st:Stmt}{rest:List Stmt}{t u:TS}{e:Expr}{te:TE}{pos:Pos}
end
section
variable{X:Cx}{pos:Pos}
end
section
variable{X:Cx}{pos:Pos}
end
section
variable{X:Cx}{tg:Expr}
end
section
variable{X:Cx}{a b c:Expr}{ta tb tc:TE}{pos:Pos}
end
section
variable{X:Cx}{a b c:Expr}{ta tb tc:TE}{pos:Pos}
end
section
variable{prog:Program}{w:World}{A:Around}{E:Value->Shared->Prop}{s:Shared}{K:PySem.W.Frag}{x dx C f:Addr}{mA:Str->Option Value}{name:Str}{v:Value}
end
section
variable{P:Program}{w:World}{H H':Hp}{h h':Heap}{a C dx:Addr}{fs fs':List (Str×V)}
end
section
variable{X:Cx}{pins:List (Addr×Obj)}{σ:St}{H:Hp}{s:Shared}{a C dx:Addr}{fs:List (Str×V)}{f:Str}{v:V}{A:Around}{E:Value->Shared->Prop}
end
section
variable{X:Cx}{o e value:Expr}{f:Str}{pos pos' tpos:Pos}{ta tv:TE}
end
section
variable{X:Cx}{pins:List (Addr×Obj)}{σ:St}{H:Hp}{s:Shared}{A:Around}{E:Value->Shared->Prop}{Q:Value->Shared->Prop}{c:Value}{b:Bool}
end
section
variable{X:Cx}{e:Expr}{es:List Expr}{te:TE}{t:TA}{pos:Pos}
end
section
variable{X:Cx}{pins:List (Addr×Obj)}{σ:St}{H:Hp}{s s':Shared}
end
section
variable{X:Cx}{CX:nz}{k:Nat}{f C:Addr}{fd:FuncData}{ps:List Str}{sp:Sp}{E6:List V}{ds:List Value}{E:XK}{x m:Str}{p pos apos:Pos}{e o:Expr}{es:List Expr}{ta:TE}{t:TA}
end
section
variable{X:Cx}{CX:nz}{k:Nat}{f C:Addr}{fd:FuncData}{ps ks:List Str}{sp:Sp}{E:XK}{x m:Str}{p pos apos PD:Pos}{e o:Expr}{es:List Expr}{kws:List Keyword}{te ta:TE}{t tk:TA}{nm:Option Str}
variable{g:List Value->List Value->List Value}{gV:List V->List V->List V}
end
section
variable{X:Cx}{x:Str}{p pos:Pos}{e:Expr}{es:List Expr}{t:TA}{id T:String}{r:List V->Hp->VK->Prop}
end
section
variable{κ:Type} [DecidableEq κ]
def ye(kvs:List (κ×V))(k:κ):Option V:=(kvs.find? λkv=>decide (kv.1=k)).map (·.2)
def putK(kvs:List (κ×V))(k:κ)(v:V):List (κ×V) :=
 if(kvs.any λkv=>decide (kv.1=k))=true then kvs.map (λkv=>if kv.1=k then(kv.1,v)else kv)else kvs++[(k,v)]
theorem uw{p:κ×V}{r:List (κ×V)}{k:κ}(e:p.1=k):ye (p::r) k=some p.2:=by simp [ye,List.find?_cons,e]
theorem vd{p:κ×V}{r:List (κ×V)}{k:κ}(e:¬p.1=k):ye (p::r) k=ye r k:=by simp [ye,List.find?_cons,e]
theorem vF(k:κ):∀kvs:List (κ×V),(kvs.any λkv=>decide (kv.1=k))=(ye kvs k).isSome
 | []=>rfl
 | p::r=>by
  rw [List.any_cons]
  by_cases e:p.1=k
  ·simp only [uw e,UB e,Bool.true_or,Option.isSome_some]
  ·rw [vd e,UA e,Bool.false_or]; exact vF k r
theorem mG(kvs:List (κ×V))(k:κ)(v:V):(putK kvs k v).length<=kvs.length+1:=by
 unfold putK
 split
 ·rw [UC]; omega
 ·rw [UD,List.length_cons,List.length_nil]; omega
theorem jE.z0{o:Option V}{u:Option Value}(r:jE o u):o.isSome=u.isSome:=by
 cases o with
 | none=>cases u with
  | none=>rfl
  | some _=>exact(show False from r).elim
 | some _=>cases u with
  | none=>exact(show False from r).elim
  | some _=>rfl
theorem KV.any{kvs:List (κ×V)}{vs:List (κ×Value)}(r:KV kvs vs)(k:κ):(kvs.any λkv=>decide (kv.1=k))=vs.any λkv=>decide (kv.1=k):=by
 unfold KV at r
 induction r with
 | nil=>rfl
 | cons h t ih=>rw [List.any_cons,List.any_cons,ih,h.1]
theorem KV.repl{kvs:List (κ×V)}{vs:List (κ×Value)}(r:KV kvs vs)(k:κ){y:V}{u:Value}(ry:RelV y u) :
  KV (kvs.map λkv=>if kv.1=k then(kv.1,y)else kv) (vs.map λkv=>if kv.1=k then(kv.1,u)else kv):=by
 unfold KV at r⊢
 induction r with
 | nil=>exact .nil
 | @cons p q ps qs h t ih =>
  rw [List.map_cons,List.map_cons]
  refine .cons ?_ ih
  obtain⟨h1,h2⟩:=h
  by_cases e:p.1=k
  ·rw [if_pos e,if_pos (h1.symm.trans e)]; exact⟨h1,ry⟩
  ·rw [if_neg e,if_neg (λz=>e (h1.trans z))]; exact⟨h1,h2⟩
theorem KV.put{kvs:List (κ×V)}{vs:List (κ×Value)}(r:KV kvs vs)(k:κ){y:V}{u:Value}(ry:RelV y u):KV (putK kvs k y) (stored vs k u):=by
 unfold putK stored
 rw [r.any k]
 by_cases e:(vs.any λkv=>decide (kv.1=k))=true
 ·rw [if_pos e,if_pos e]; exact r.repl k ry
 ·rw [if_neg e,if_neg e]; exact Paired.snoc r ⟨rfl,ry⟩
theorem KV.length{kvs:List (κ×V)}{vs:List (κ×Value)}(r:KV kvs vs):kvs.length=vs.length:=Paired.length r
end
theorem HE{P:Program}{w:World}{k:Key}{u:Value}(r:RelV (kV k) u):(bD P w).is k u=true:=by
 cases k with
 | inl i=>obtain⟨t,e⟩:=(show∃t,u=Value.int i t from r); subst e; exact uZ P w i t
 | inr x=>obtain⟨t,e⟩:=(show∃t,u=Value.str x t from r); subst e; exact vX P w x t
theorem LK{P:Program}{w:World}{k:dv}{u:Value}(r:RelV (oV k) u):(optKind P w).is k u=true:=by
 cases k with
 | none=>obtain rfl:u=Value.none:=r; rfl
 | some k=>exact HE (P:=P) (w:=w) r
theorem ra{P:Program}{w:World}:∀{ks:List dv} {us:List Value},Vals (ks.map oV) us->ItemsAre (optKind P w) ks us
 | [],_,r=>by rw [List.map_nil]at r; cases r; exact .nil
 | k::ks,_,r=>by
  rw [List.map_cons]at r
  cases r with
  | cons h t=>exact .cons (LK h) (ra t)
abbrev KT(H:Hp):List (List dv×V)->List (List dv×Addr×Value)->Prop:=Paired λp q=>p.1=q.1/\H q.2.1=some (.tup (p.1.map oV))/\RelV p.2 q.2.2
theorem KT.val{H:Hp}{kvs:List (List dv×V)}{xs:List (List dv×Addr×Value)}(r:KT H kvs xs)(k:List dv):jE (ye kvs k) ((atKey xs k).map (·.2)):=by
 induction r with
 | nil=>exact True.intro
 | @cons p q ps qs h t ih =>
  obtain⟨h1,_,h2⟩:=h
  by_cases e:p.1=k
  ·have e':q.1=k:=h1.symm.trans e
   have b:atKey (q::qs) k=some q.2:=by simp [atKey,List.find?_cons,e']
   rw [uw e,b]; exact h2
  ·have e':¬q.1=k:=λz=>e (h1.trans z)
   have b:atKey (q::qs) k=atKey qs k:=by simp [atKey,List.find?_cons,e']
   rw [vd e,b]; exact ih
theorem KT.repl{H:Hp}{kvs:List (List dv×V)}{xs:List (List dv×Addr×Value)}(r:KT H kvs xs)(k:List dv){y:V}{u:Value}(ry:RelV y u) :
  KT H (kvs.map λkv=>if kv.1=k then(kv.1,y)else kv) (xs.map (putAt k u)):=by
 induction r with
 | nil=>exact .nil
 | @cons p q ps qs h t ih =>
  rw [List.map_cons,List.map_cons]
  refine .cons ?_ ih
  obtain⟨h1,h2,h3⟩:=h
  unfold putAt
  by_cases e:p.1=k
  ·rw [if_pos e,if_pos (h1.symm.trans e)]; exact⟨h1,h2,ry⟩
  ·rw [if_neg e,if_neg (λz=>e (h1.trans z))]; exact⟨h1,h2,h3⟩
theorem KT.put{H:Hp}{kvs:List (List dv×V)}{xs:List (List dv×Addr×Value)}(r:KT H kvs xs)(k:List dv){b:Addr}{y:V}{u:Value}(hb:H b=some (.tup (k.map oV)))(ry:RelV y u) :
  KT H (putK kvs k y) (storedH xs k b u):=by
 have e:(kvs.any λkv=>decide (kv.1=k))=(atKey xs k).isSome:=by
  rw [vF,(r.val k).z0,Option.isSome_map]
 unfold putK storedH
 rw [e]
 by_cases q:(atKey xs k).isSome=true
 ·rw [if_pos q,if_pos q]; exact r.repl k ry
 ·rw [if_neg q,if_neg q]; exact Paired.snoc r ⟨rfl,hb,ry⟩
theorem KT.keeps{H H':Hp}{kvs:List (List dv×V)}{xs:List (List dv×Addr×Value)}(r:KT H kvs xs)(ht:∀b ys,H b=some (.tup ys)->H' b=some (.tup ys)):KT H' kvs xs :=
 Paired.Kh r λ_ _ z=>⟨z.1,ht _ _ z.2.1,z.2.2⟩
section
variable{P:Program}{w:World}{H:Hp}{h:Heap}{a:Addr}
theorem Hj{u:HO}(ok:i_ P w H h)(e:Rd H a u):cu P w H h a u:=e.ok ok
theorem Mt{kvs:List (Key×V)}(ok:i_ P w H h)(e:Rd H a (.dK kvs)):kvs.length<=sizeLine/\(a==sysModules)=false/\∃vs,KV kvs vs/\h.DictOf (bD P w) a vs :=
 show cu P w H h a (.dK kvs) from Hj ok e
theorem cO{kvs:List (Key×V)}(ok:i_ P w H h)(e:H a=some (.dK kvs)):kvs.length<=sizeLine/\(a==sysModules)=false/\∃vs,KV kvs vs/\h.DictOf (bD P w) a vs:=Mt ok (.inl e)
theorem DG{ks:List dv}(ok:i_ P w H h)(e:H a=some (.tup (ks.map oV))):(tupleKind (optKind P w)).is h ks a:=by
 obtain⟨_,its,r,o,h1,h2,⟨n,h3⟩,_⟩:=(show cu P w H h a (.tup (ks.map oV)) from ok a _ e)
 exact⟨o,its.toArray,n,h1,h2,h3,by simpa using ra r⟩
theorem Mo{kvs:List (List dv×V)}(ok:i_ P w H h)(e:Rd H a (.dT kvs)):kvs.length<=sizeLine/\(a==sysModules)=false/\
  ∃xs,KT H kvs xs/\h.DictOfH (tupleKind (optKind P w)) a xs:=by
 obtain⟨z,y,xs,r,o,es,ep,h1,h2,h3,h4,h5⟩:=(show cu P w H h a (.dT kvs) from Hj ok e)
 refine⟨z,y,xs,r,o,es,ep,h1,h2,h3,h4,λx hx=>?_,h5⟩
 have all:∀{l:List (List dv×V)} {m:List (List dv×Addr×Value)},KT H l m->∀x∈m,(tupleKind (optKind P w)).is h x.1 x.2.1:=by
  intro l m q
  induction q with
  | nil=>intro x hx; exact nomatch hx
  | @cons p q ps qs hq t ih =>
   intro x hx
   rcases List.mem_cons.mp hx with e | hx
   ·subst e
    exact DG ok (by rw [←hq.1]; exact hq.2.1)
   ·exact ih x hx
 exact all r x hx
theorem MY{kvs:List (List dv×V)}(ok:i_ P w H h)(e:H a=some (.dT kvs)):kvs.length<=sizeLine/\(a==sysModules)=false/\
  ∃xs,KT H kvs xs/\h.DictOfH (tupleKind (optKind P w)) a xs:=Mo ok (.inl e)
end
def Ax(H:Hp)(a:Addr)(y v:V)(H':Hp):Prop :=
 (∃kvs k,H a=some (.dK kvs)/\y=kV k/\kvs.length<sizeLine/\H'=upd H a (.dK (putK kvs k v)))\/
 ∃kvs k b,H a=some (.dT kvs)/\y=.ref b/\H b=some (.tup (k.map oV))/\kvs.length<sizeLine/\H'=upd H a (.dT (putK kvs k v))
theorem Ax.t{H:Hp}{a b:Addr}{kvs:List (List dv×V)}{k:List dv}{v:V}(e:H a=some (.dT kvs))(eb:H b=some (.tup (k.map oV)))(hl:kvs.length<sizeLine) :
  Ax H a (.ref b) v (upd H a (.dT (putK kvs k v))):=.inr ⟨kvs,k,b,e,rfl,eb,hl,rfl⟩
section
variable{X:Cx}{pins:List (Addr×Obj)}{σ:St}{H:Hp}{s:Shared}{a:Addr}{y v:V}{u r:Value}{o:Option V}{A:Around}{E:Value->Shared->Prop}
theorem Inv.big(I:Inv X pins σ H s):sysModules<s.heap.objs.size:=by
 have h:mainGlobals<s.heap.objs.size:=(I.mod.glob.keeps I.bk).lt
 exact Nat.lt_trans (by decide) h
theorem yv{h':Heap}{t':Nat}{ob:HO}(I:Inv X pins σ H s)(mu:LI (H a))(hs:Heap.SameBut a s.heap h')(he:∃q,h'.get? a=some q)(new:cu X.prog X.w (upd H a ob) h' a ob) :
  Inv X pins σ (upd H a ob) {s with heap:=h',toks:=t'} :=
 I.write (x:=a) (e:=a) mu (.inl rfl) (λb q hb z=>(hs.2 b hb).trans z) he new
theorem HP{P:Program}{w:World}{H':Hp}{h':Heap}{kvs:List (Key×V)}{vs:List (Key×Value)}(z:kvs.length<=sizeLine)(hd:(a==sysModules)=false)(rel:KV kvs vs)(dd:h'.DictOf (bD P w) a vs) :
  cu P w H' h' a (.dK kvs):=⟨z,hd,vs,rel,dd⟩
theorem AZ{H':Hp}{Q:Unit->Shared->Prop}(hu:A.units+1<cLine)(I:Inv X pins σ H s)(g:Ax H a y v H')(ry:RelV y u)(rv:RelV v r)(h:∀s',Inv X pins σ H' s'->Q () s') :
  wpAny (model X.prog X.w) A (setItem (.ref a) u r) Q E s:=by
 rcases g with⟨kvs,k,e,ey,l,eH⟩ | ⟨kvs,k,b,e,ey,eb,l,eH⟩
 ·subst ey eH
  obtain⟨z,hd,vs,rel,dd⟩:=cO I.hok e
  have hz:vs.length<=sizeLine:=by rw [←rel.length]; exact z
  have hl:(putK kvs k v).length<=sizeLine:=by have:=mG kvs k v; omega
  refine wpAny_setItem_pairs (hsz:=hz) (HE ry) dd λh' Na hs=>h _ ?_
  have he:∃q,h'.get? a=some q:=let ⟨q,_,_,hq,_⟩:=Na; ⟨q,hq⟩
  exact yv I (by rw [e]; exact True.intro) hs he (HP hl hd (rel.put k rv) Na)
 ·subst ey eH
  cases(show u=Value.ref b from ry)
  obtain⟨z,hd,xs,rel,dd⟩:=MY I.hok e
  have hz:xs.length<=sizeLine:=by rw [←Paired.length rel]; exact z
  have hl:(putK kvs k v).length<=sizeLine:=by have:=mG kvs k v; omega
  refine wpAny_setItem_heap (hsz:=hz) (tupleKind_room_in1 hu) (DG I.hok eb) dd λh' Na hs=>h _ ?_
  obtain⟨q,es,ep,hq,h2,h3,h4,_,h5⟩:=Na
  refine yv I (by rw [e]; exact True.intro) hs ⟨q,hq⟩ ⟨hl,hd,_,(rel.put k eb rv).keeps λc ys ec=>?_,q,es,ep,hq,h2,h3,h4,h5⟩
  rw [aI (KW ec e (λz=>nomatch z))]
  exact ec
end
section
variable{X:Cx}{pins:List (Addr×Obj)}{σ:St}{H:Hp}{s:Shared}{a:Addr}{kvs:List (Key×V)}{k:Key}{u:Value}{A:Around}{E:Value->Shared->Prop}
end
def LM(td ty tv:TE):TS:=λD σ H=>tv σ H λv H1=>td σ H1 λx H2=>ty σ H2 λy H3=>∃a H4,x=.ref a/\Ax H3 a y v H4/\D.nx σ H4
section
variable{X:Cx}{o i e value:Expr}{pos pos' tpos:Pos}{td ty tv:TE}
theorem yD(hu:X.A.units+1<cLine)(ho:PE X o td)(hi:PE X i ty)(hv:PE X value tv)(hs:swapsWith value (some (.Subscript o i pos')) pos.line X.env=pure false) :
  PS X (.Assign [.Subscript o i pos'] value pos) (LM td ty tv):=by
 intro pins s σ H D I h
 refine wpAny_Assign_Subscript (b_ (hv pins s σ H _ I h) λr s1 ⟨v,H1,I1,rv,q1⟩=>b_ (ho pins s1 σ H1 _ I1 q1) λu s2 ⟨x,H2,I2,rx,q2⟩=>b_ (hi pins s2 σ H2 _ I2 q2) λiv s3 ⟨y,H3,I3,ry,a,H4,ex,g,q3⟩=>?_) hs
 subst ex
 obtain rfl:u=Value.ref a:=rx
 exact AZ hu I3 g ry rv λs4 I4=>⟨σ,H4,I4,q3⟩
end
theorem DL{P:Program}{w:World}{H:Hp}(h:Heap)(hb:sysModules<h.objs.size):cu P w H (h.push {cls:=.type "dict",data:=.dict #[]}) h.objs.size (.dT []) :=
 ⟨Nat.zero_le _,beq_eq_false_iff_ne.mpr (Ne.symm (Nat.ne_of_lt hb)),[],.nil,_,#[],0,Ux _ rfl,⟨rfl,rfl,rfl⟩,rfl,rfl,List.nodup_nil⟩
def JG:TE:=λ_ H Q=>∀p,H p=none->Q (.ref p) (upd H p (.dT []))
section
variable{X:Cx}{pos:Pos}
theorem C6:PE X (.Dict [] [] pos) JG:=λpins s σ H Q I h =>
 wpAny_Dict_empty ⟨.ref s.heap.objs.size,_,I.laid (a:=s.heap.objs.size) (o:=.dT []) (t':=s.toks) (λ_ _ q=>Uv _ q) (Uy _) (DL s.heap I.big),rfl,h _ (I.hok.fresh (Uy _))⟩
end
structure M1(X:Cx)(o:Expr)(m:Str)(apos:Pos)(e:Expr)(cpos:Pos):Prop where
 base:attributeBase o m X.env (eval o X.env)=eval o X.env
 few:((backTo cpos (starEach [e] X.env)).all (λx=>!x.1)&&(backToKw cpos (keywordEach [] X.env)).all (λx=>x.1.isSome)
  && decide (([e]:List Expr).length+([]:List Keyword).length+(if([]:List Keyword).isEmpty then 0 else 1)<30))=true
 line:(apos.endLine==cpos.line)=true
 trees:backTo cpos (starEach [e] X.env)=[(false,eval e X.env)]
structure M2(X:Cx)(o:Expr)(m:Str)(apos:Pos)(e f:Expr)(cpos:Pos):Prop where
 base:attributeBase o m X.env (eval o X.env)=eval o X.env
 few:((backTo cpos (starEach [e,f] X.env)).all (λx=>!x.1)&&(backToKw cpos (keywordEach [] X.env)).all (λx=>x.1.isSome)
  && decide (([e,f]:List Expr).length+([]:List Keyword).length+(if([]:List Keyword).isEmpty then 0 else 1)<30))=true
 line:(apos.endLine==cpos.line)=true
 trees:backTo cpos (starEach [e,f] X.env)=[(false,eval e X.env),(false,eval f X.env)]
section
variable{X:Cx}{pins:List (Addr×Obj)}{σ:St}{H:Hp}{s:Shared}{a:Addr}{y d:V}{u r:Value}{o:Option V}{A:Around}{E:Value->Shared->Prop}
end
section
variable{X:Cx}{o e f:Expr}{apos cpos:Pos}{td ty tx:TE}
end
section
variable{X:Cx}{pins:List (Addr×Obj)}{σ:St}{H:Hp}{s:Shared}{a:Addr}{kvs:List (Key×V)}{A:Around}{E:Value->Shared->Prop}
end
section
variable{X:Cx}{pins:List (Addr×Obj)}{σ:St}{H:Hp}{s:Shared}{a:Addr}{y:V}{u:Value}{A:Around}{E:Value->Shared->Prop}
end
end L2
namespace Att
open PySem PySem.W PySem.Calls PyProof.Rows
section
variable{prog:Program}{w:World}{A:Around}{E:Value->Shared->Prop}{s:Shared}{K:Frag}
end
end Att
namespace L2
open PySem PySem.Spec PyProof.Rows
end L2
namespace L2
open PySem PySem.Spec PyProof.Rows
end L2
namespace L2
open PySem PySem.Spec PyProof.Rows
section
variable{P:Program}{w:World}{K:PySem.W.Frag}{mg:Str->Option Value}{base:Heap}
end
section
variable{X:Cx}
end
section
variable{κ:Type} [DecidableEq κ]
end
end L2
namespace My
open PySem L2
theorem ED{n:Nat}{x:Wk}{h:Hd}{f:Fl}{pl:List Int}(hx:bY x=true):cn (n+1) h f pl x=uY (cn n) x h f pl (dJ x) 0 [] f:=by
 rw [←wO (n+1),←wO n]
 cases x with
 | one x=>cases hx
 | both p q=>rfl
 | meet c d p q=>rfl
theorem BG{n:Nat}{x:Wk}{h:Hd}{f:Fl}{pl:List Int}(hx:bY x=false):cn n h f pl x=lQ x h f pl [] f:=by rw [iZ hx,y_ hx]
def sf:Nat->List Wk->Prop
 | 0,ws=>∀x∈ws,J6 x/\BC x
 | n+1,ws=>∀x∈ws,(J6 x/\BC x)/\∀p∈dJ x,sf n p
theorem sf.ok{n:Nat}{ws:List Wk}(h:sf n ws){x:Wk}(hx:x∈ws):J6 x/\BC x:=by
 cases n with
 | zero=>exact h x hx
 | succ n=>exact(h x hx).1
def HI(H:Hp)(u:Addr):Res->Prop
 | .ok h f=>∃a b,H u=some (.tup [.str "head",.ref a,.ref b])/\dW H a h/\tQ H b f
 | .no p s=>∃a,H u=some (.tup [.str "no",.ref a,.str s])/\H a=some (.tup (p.map V.int))
abbrev TD:=List (List dv×V)
theorem ux{kvs:TD}{k:List dv}{v:V}:(putK kvs k v).length<=kvs.length+1:=by
 unfold putK
 split
 ·rw [UC]; omega
 ·rw [UD]; simp
def kI(pi:List Int):List dv:=pi.map λi=>some (.inl i)
theorem LD(pi:List Int):(kI pi).map oV=pi.map V.int:=by rw [kI,List.map_map]; rfl
theorem eI.rp{fd:Addr}{H H':Hp}{kvs:TD}(g:eI fd H H')(h:H fd=some (.dT kvs)):aE H H':=λa ys e=>g _ _ (λz=>by rw [z,h]at e; cases e) e
theorem aE.NS{H H':Hp}{L:Addr}{kvs:TD}{o:HO}(k:aE H H')(h:H' L=some (.dT kvs)):aE H (upd H' L o):=λa ys e=>by
 have:=k _ _ e
 rw [aI (λz=>by rw [z,h]at this; cases this)]
 exact this
structure Om(n:Nat)(H:Hp)(b p pl g fd:Addr)(h:Hd)(ws:List Wk)(pi:List Int)(fl:Fl)(kvs:TD):Prop where
 hd:dW H b h
 pp:jA n H p ws
 pl:H pl=some (.tup (pi.map V.int))
 fg:tQ H g fl
 fd:H fd=some (.dT kvs)
 ok:ui n ws
 dr:sf n ws
 six:h.length<=6
 pz:pi.length+2*n<=100
 kz:kvs.length+bnd n<=100000
def rV:Nat->Sp
 | 0=>λ_ _ _ _=>False
 | n+1=>λvs H Q _=>∃(b p pl g fd:Addr) (h:Hd) (ws:List Wk) (pi:List Int) (fl:Fl) (kvs:TD),vs=[.ref b,.ref p,.ref pl,.ref g,.ref fd]/\Om n H b p pl g fd h ws pi fl kvs/\
  ∀(u:Addr) (H':Hp) (kvs':TD),eI fd H H'->H' fd=some (.dT kvs')->kvs'.length<=kvs.length+bnd n->HI H' u (putL (cn n) pi 0 h fl ws)->Q (.ref u) H'
theorem FZ{x:Wk}(h:J6 x):Ld x:=by
 cases x with
 | one x=>exact h.pos
 | both p q=>intro c hc; cases hc
 | meet c d p q=>intro c hc; cases hc
def Ir(a b:Fl):List Bool:=[a.o||b.o,a.j||b.j,a.f||b.f,a.w||b.w,a.l||b.l]
def MI(a:Fl):List V:=[.bl a.o,.bl a.j,.bl a.f,.bl a.w,.bl a.l]
theorem Mc{a b:Fl}:∀(i:Nat) (x y:V),(MI a)[i]? = some x->(MI b)[i]? = some y->∃p q,x=.bl p/\y=.bl q/\(Ir a b)[i]? = some (p||q)
 | 0,x,y,h1,h2=>by cases h1; cases h2; exact⟨_,_,rfl,rfl,rfl⟩
 | 1,x,y,h1,h2=>by cases h1; cases h2; exact⟨_,_,rfl,rfl,rfl⟩
 | 2,x,y,h1,h2=>by cases h1; cases h2; exact⟨_,_,rfl,rfl,rfl⟩
 | 3,x,y,h1,h2=>by cases h1; cases h2; exact⟨_,_,rfl,rfl,rfl⟩
 | 4,x,y,h1,h2=>by cases h1; cases h2; exact⟨_,_,rfl,rfl,rfl⟩
 | n+5,x,y,h1,h2=>by cases h1
theorem Dv{H H':Hp}{L u:Addr}{as:List Addr}{es:List Hd}{h:Hd}(hE:fQ H L as es)(k:aE H H')(hu:dW H' u h)(hL:H' L=some (.lst ((as++[u]).map V.ref))):fQ H' L (as++[u]) (es++[h]):=by
 refine⟨hL,by rw [UD,UD,hE.len]; rfl,λi a r e1 e2=>?_⟩
 by_cases hi:i<as.length
 ·rw [List.getElem?_append_left hi]at e1
  rw [List.getElem?_append_left (by rw [←hE.len]; exact hi)]at e2
  exact k _ _ (hE.at_ i a r e1 e2)
 ·have hi':i=as.length:=by
   have:=(List.getElem?_eq_some_iff.mp e1).1
   rw [UD]at this
   simp at this
   omega
  rw [hi',List.getElem?_append_right (Uy _),Nat.sub_self]at e1
  rw [hi',hE.len,List.getElem?_append_right (Uy _),Nat.sub_self]at e2
  cases e1
  cases e2
  exact hu
theorem CZ{n:Nat}{H:Hp}{a:Addr}{x:Wk}(h:dk (n+1) H a x)(hb:bY x=true):∃(vs:List V) (b c:Addr) (p q:List Wk),H a=some (.tup (vs++[.ref b,.ref c]))/\dJ x=[p,q]/\jA n H b p/\jA n H c q:=by
 cases x with
 | one x=>cases hb
 | both p q=>obtain⟨b,c,bs,cs,h1,h2,h3⟩:=h; exact⟨[.str "both"],b,c,p,q,h1,rfl,⟨bs,h2⟩,⟨cs,h3⟩⟩
 | meet c d p q=>obtain⟨b,e,bs,es,h1,h2,h3⟩:=h; exact⟨[.str "meet",.int c,.int d],b,e,p,q,h1,rfl,⟨bs,h2⟩,⟨es,h3⟩⟩
theorem Gi{vs:List V}{u v:V}:ja (vs++[u,v]) (-2)=some u:=by
 unfold ja v5
 have hl:(vs++[u,v]).length=vs.length+2:=by simp
 rw [hl,if_neg (by decide)]
 rw [if_pos (by omega)]
 have:((-2:Int)+((vs.length+2:Nat):Int)).toNat=vs.length:=by omega
 first
  | (rw [this]; simp)
  | simp
theorem yJ{n:Nat}{pl:List Int}:∀{ws:List Wk} {i:Nat} {h:Hd} {f:Fl} {h':Hd} {f':Fl},h.length<=6->putL (cn n) pl i h f ws=.ok h' f'->h'.length<=6
 | [],_,_,_,_,_,h6,e=>by cases e; exact h6
 | x::ws,i,h,f,h',f',h6,e=>by
  obtain⟨h1,f1,e1,e2⟩:=fm e
  refine yJ ?_ e2
  have key:∀es,iu x h f (pl++[(i:Int)]) es=.ok h1 f1->h1.length<=6:=by
   intro es e
   unfold iu at e
   split at e
   ·cases e
   ·next hn=>cases e; exact(sI hn).2
  cases hb:bY x with
  | false=>rw [iZ hb]at e1; exact key _ e1
  | true =>
   cases n with
   | zero=>exact key _ e1
   | succ n =>
    rw [oW hb]at e1
    obtain⟨p,q,hpq⟩:=sD hb
    rw [hpq]at e1
    obtain⟨_,_,_,e1⟩:=fm e1
    obtain⟨_,_,_,e1⟩:=fm e1
    exact key _ e1
abbrev iQ:Stmt:=top 76
theorem bZ:az ["_law_head","_law_pipe_here","_law_place","_law_flags_here","_law_found","_law_number_here","_law_worker_here","_law_here","_law_ends","_law_after","_law_branch","_law_inner","_law_why_here"] ["_law_head","_law_pipe_here","_law_place","_law_flags_here","_law_found"] (ar iQ):=fs
variable{P:Program}{w:World}{K:PySem.W.Frag}{mg:Str->Option Value}{base:Heap}
theorem uc{n L:Nat}(B:jV mg)(B2:iK mg)(B3:Am mg)(mE:mg "enumerate"=none)(F:FA K mg "_law_put" iQ)
  (j9:bf bc P w K mg base (L+5) "_law_put" ["_law_head","_law_pipe_here","_law_place","_law_flags_here","_law_found"] (rV n))
  (x_:bf bc P w K mg base 4 "_law_why" ["_law_worker_here","_law_head","_law_flags_here","_law_ends"] (BO n))
  (uf:bf bc P w K mg base 2 "_law_flags" ["_law_worker_here","_law_head","_law_flags_here"] (zf n))
  (fh:bf bc P w K mg base 2 "_law_head_next" ["_law_worker_here","_law_head","_law_ends"] (JL n)) :
  bf bc P w K mg base (L+6) "_law_put" ["_law_head","_law_pipe_here","_law_place","_law_flags_here","_law_found"] (rV (n+1)):=by
 refine F.ok bZ λf cdv A outer s H vs Q E hr h=>?_
 have hu:=iN hr
 have hu1:=jY hr
 obtain⟨b,p,pl,g,fd,h,ws,pi,fl,kvs,rfl,hG,q⟩:=h
 refine⟨_,(aq (hX PassesOwn.never rfl (nJ rfl mE (ae (pv 1) ah)) (cD rfl (aD (bS (i:=5) bZ.nd rfl (Or.inl rfl)) (aD (bS (i:=6) bZ.nd rfl (Or.inl rfl)) bT)))
    (aq (aL (i:=7) bZ.nd rfl (Or.inl rfl) (aF cb (pv 2) (aJ (ae (pv 5) ah))))
     (aq (yD hu1 (pv 4) (pv 7) (aA K (pv 3) ai) rfl)
     (aq (aL (i:=8) bZ.nd rfl (Or.inl rfl) (aQ ah))
     (aq (aL (i:=9) bZ.nd rfl (Or.inl rfl) (pv 3))
     (aq (hX PassesOwn.never rfl (dm rfl B.range (ae (aF lY ai (aV cA rfl B2.int PyProof.Rows.boot_int (ae (fJ cq (aA K (pv 6) ai) (aQ (ae ao (ae ao ah))) rfl) ah))) ah)) (bS (i:=10) bZ.nd rfl (Or.inl rfl))
      (aq (aL (i:=11) bZ.nd rfl (Or.inl rfl) (ay j9 hr (ae (pv 0) (ae (aA K (pv 6) (aF bJ (pv 10) ai)) (ae (aF cb (pv 7) (aJ (ae (pv 10) ah))) (ae (pv 3) (ae (pv 4) ah)))))))
       (aN (aW aP (aA K (pv 11) ai) ao) (pv 11)
       (aq (fG (lC PySem.F.plainAttrs_list PySem.F.slot_list_append PySem.F.type_list_append cV (pv 8) (ae (aA K (pv 11) ai) ah)))
       (bK (aL (i:=9) bZ.nd rfl (Or.inl rfl) (aV bB rfl B.tuple PyProof.Rows.boot_tuple (ae (bw (N':=["_law_one","_law_other_here"]) (src:=[none,none]) rfl (ba.jL (by kernel_rfl)) (EX rfl B3.zip (ae (pv 9) (ae (aA K (pv 11) ai) ah))) (g:=(iT K 2 (bP (bz 0) (bP (bz 1) iU)))) (λcl C s H fp=>(cD rfl (aD (eA (i:=0)) (aD (eA (i:=1)) bT)))) (λcl C s H fp=>aX) (te:=(uK (bx 0) (bx 1))) (λcl C s H fp=>(fY (i5 0) (cY (i5 1))))) ah))))))))
     (aq (aL (i:=12) bZ.nd rfl (Or.inl rfl) (ay x_ hr (ae (pv 6) (ae (pv 0) (ae (pv 3) (ae (pv 8) ah))))))
     (aN (aW md (pv 12) ao) (aJ (ae ao (ae (pv 7) (ae (pv 12) ah))))
     (aq (aL (i:=3) bZ.nd rfl (Or.inl rfl) (ay uf hr (ae (pv 6) (ae (pv 0) (ae (pv 9) ah)))))
     (bK (aL (i:=0) bZ.nd rfl (Or.inl rfl) (ay fh hr (ae (pv 6) (ae (pv 0) (ae (pv 8) ah)))))))))))))))
   (aq (yD hu1 (pv 4) (aF cb (pv 2) (aJ (ae (a_ bE rfl B.len PySem.boot_len (ae (pv 1) ah)) ah))) (aA K (pv 3) ai) rfl)
   (ax (aJ (ae ao (ae (pv 0) (ae (pv 3) ah))))))),?_⟩
 obtain⟨hb,⟨bs,hI⟩,hpl,hfg,hfd,hok,hdr,IH,hpz,hkz⟩:=hG
 have hlb:(bs.map V.ref).length=ws.length:=by rw [UC,hI.len]
 have hcw:=Bg n
 have hw9:=hok.len
 have hbn:bnd n=9*cW n+1:=rfl
 refine⟨_,rfl,p,rfl,⟨_,aH.of hI.tup⟩,?_⟩
 refine l6 (xs:=bs.map V.ref) (λi σ H'=>∃(bi gi:Addr) (hh:Hd) (fi:Fl) (kv:TD),(∃o5 o6 o7 o8 o9 qe qa En,σ=[some (.ref bi),some (.ref p),some (.ref pl),some (.ref gi),some (.ref fd),o5,o6,o7,o8,o9,qe,qa,En])/\dW H' bi hh/\tQ H' gi fi/\hh.length<=6/\eI fd H H'/\H' fd=some (.dT kv)/\kv.length<=kvs.length+i*cW n/\putL (cn n) pi 0 h fl ws=putL (cn n) pi i hh fi (ws.drop i))
  ⟨b,g,h,fl,kvs,⟨_,_,_,_,_,_,_,_,rfl⟩,hb,hfg,IH,eI.of (aM.refl _),hfd,Nat.le_add_right _ _,rfl⟩ ?_ ?_ ?_
 ·rintro i σ H' _ ⟨bi,gi,hh,fi,kv,_,_,_,_,gr,_⟩
  exact aH.of (gr.rp hfd _ _ hI.tup)
 ·rintro i v σ H' T hx ⟨bi,gi,hh,fi,kv,⟨o5,o6,o7,o8,o9,qe,qa,En,rfl⟩,hbi,hgi,h6,gr,AY,Lc,hrun⟩ hT
  obtain⟨a,x,rfl,ex,ha⟩:=hI.get hx
  have Nb:i<9:=by have:=(List.getElem?_eq_some_iff.mp ex).1; omega
  have hic:i*cW n+cW n<=9*cW n:=by have:=Nat.mul_le_mul_right (cW n) Nb; rw [Nat.succ_mul]at this; exact this
  have L7:=hok.ok (UK ex)
  have O6:=hdr.ok (UK ex)
  rw [m8 ex]at hrun
  have hrun:putL (cn n) pi 0 h fl ws=c8 (cn n hh fi (pi++[(i:Int)]) x) λh' f'=>putL (cn n) pi (i+1) h' f' (ws.drop (i+1)):=hrun
  have sT:=aj hT (.tup [.int (i:Nat),.ref a])
  refine⟨T,_,rfl,aH.of ag,rfl,_,_,rfl,ak ⟨_,_,rfl,ak ⟨rfl,?_⟩⟩⟩
  dsimp only
  refine⟨_,rfl,_,rfl,dQ,λu1 jU=>?_⟩
  have sU:=aj jU (.tup [.int (i:Nat)])
  refine⟨pl,u1,_,_,rfl,rfl,sU _ _ (sT _ _ (gr.rp hfd _ _ hpl)),ag,by rw [UC]; exact Uz (show _+1<=1000 by omega) (by decide),λu2 H2 JJ hu2=>ak ?_⟩
  rw [DX]at hu2
  have s2:=sT.trans (sU.trans JJ)
  dsimp only
  refine⟨_,rfl,gi,_,4,_,rfl,rfl,aH.of (s2 _ _ hgi),rfl,_,rfl,_,rfl,fd,_,rfl,Ax.t (k:=kI (pi++[(i:Int)])) (s2 _ _ AY) (by rw [LD]; exact hu2) (UG (show kv.length<=100000 by omega) (by decide)),?_⟩
  have IS:(putK kv (kI (pi++[(i:Int)])) (.bl fi.l)).length<=kv.length+1:=ux
  revert IS
  generalize putK kv (kI (pi++[(i:Int)])) (.bl fi.l)=AR
  intro IS
  have g4:eI fd H' (upd H2 fd (.dT AR)):=(eI.of s2).put
  have va:upd H2 fd (.dT AR) fd=some (.dT AR):=ag
  have wW:upd H2 fd (.dT AR) u2=some (.tup ((pi++[(i:Int)]).map V.int)):=by
   rw [aI (λz=>by have:=s2 _ _ AY; rw [←z,hu2]at this; cases this)]
   exact hu2
  revert g4 va wW
  generalize upd H2 fd (.dT AR)=H4
  intro g4 va wW
  have Ce:aE H' H4:=g4.rp AY
  have JH:aE H H4:=(gr.rp hfd).trans Ce
  refine⟨Nat.zero_le _,λLe hL=>ak ?_⟩
  have Kx:Le≠fd:=λz=>by rw [z,va]at hL; cases hL
  dsimp only
  refine⟨_,rfl,ak ?_⟩
  dsimp only
  refine k_ (λσ H6=>∃(as:List Addr) (es:List Hd) (af:Addr) (fa:Fl) (zU:TD),(∃qe qa En,σ=[some (.ref bi),some (.ref p),some (.ref pl),some (.ref gi),some (.ref fd),some (.int (i:Nat)),some (.ref a),some (.ref u2),some (.ref Le),some (.ref af),qe,qa,En])/\fQ H6 Le as es/\(bY x=true->es.length=2)/\(∀e∈es,e.length<=6)/\tQ H6 af fa/\aE H4 H6/\eI fd H4 H6/\H6 fd=some (.dT zU)/\zU.length<=kv.length+cW n/\putL (cn n) pi 0 h fl ws=c8 (lQ x hh fi (pi++[(i:Int)]) es fa) λh' f'=>putL (cn n) pi (i+1) h' f' (ws.drop (i+1))) (λT2 hT2=>?_) ?_
  ·have sL:=aj hL (.lst [])
   have haL:=ha.keep (JH.trans (aE.of sL))
   obtain⟨xs,hxs⟩:=haL.first
   refine⟨_,rfl,a,_,0,_,rfl,rfl,aH.of hxs,av (j:=0) rfl,cM,λR hR=>⟨R,_,rfl,.inl (aZ.of ag),rfl,rfl,.inr ⟨_,rfl,?_⟩⟩⟩
   show rI Gj _ (.int 2) (.int (if inV (.str x.nm) BP=true then 1 else 0)) _ _
   rw [ze]
   have sR:=aj hR (.lst [V.str "both",.str "meet"])
   have s5:=sL.trans sR
   have O2:fQ (upd (upd H4 Le (.lst [])) R (.lst [V.str "both",.str "meet"])) Le [] []:=⟨sR _ _ ag,rfl,λi a r e=>by cases e⟩
   revert s5 O2
   generalize upd (upd H4 Le (.lst [])) R (.lst [V.str "both",.str "meet"])=H5
   intro s5 O2
   have hm:∃m:Int,(2:Int)*(if bY x=true then 1 else 0)=m/\0<=m/\m<=2/\(bY x=false->m=0)/\(bY x=true->m=2):=by
    cases bY x
    ·exact⟨0,rfl,by decide,by decide,λ_=>rfl,λz=>by cases z⟩
    ·exact⟨2,rfl,by decide,by decide,λz=>(by cases z),λ_=>rfl⟩
   obtain⟨mm,em,m0,m2,mf,mt⟩:=hm
   refine⟨2,_,rfl,rfl,.inl ⟨by decide,by decide⟩,_,rfl,?_⟩
   rw [em]
   refine⟨(jO m0 (by omega)).1,(jO m0 (by omega)).2,?_⟩
   refine fL (n:=mm.toNat) (λj σ H6=>∃(as:List Addr) (es:List Hd) (af:Addr) (fa:Fl) (zU:TD),(∃qe qa En,σ=[some (.ref bi),some (.ref p),some (.ref pl),some (.ref gi),some (.ref fd),some (.int (i:Nat)),some (.ref a),some (.ref u2),some (.ref Le),some (.ref af),qe,qa,En])/\fQ H6 Le as es/\es.length=j/\(∀e∈es,e.length<=6)/\tQ H6 af fa/\aE H4 H6/\eI fd H4 H6/\H6 fd=some (.dT zU)/\(∀m,n=m+1->zU.length<=kv.length+1+j*bnd m)/\(j=0->zU.length<=kv.length+1/\es=[]/\fa=fi)/\(∀m,n=m+1->bY x=true->putL (cn n) pi 0 h fl ws=c8 (uY (cn m) x hh fi (pi++[(i:Int)]) ((dJ x).drop j) j es fa) λh' f'=>putL (cn n) pi (i+1) h' f' (ws.drop (i+1))))
    ⟨[],[],gi,fi,AR,⟨_,_,_,rfl⟩,O2,rfl,λe he=>(by cases he),s5 _ _ (Ce _ _ hgi),aE.of s5,eI.of s5,s5 _ _ va,λm _=>(by rw [Nat.zero_mul]; exact IS),λ_=>⟨IS,rfl,rfl⟩,λm e hb'=>(by subst e; rw [hrun,ED hb']; rfl)⟩ ?_ ?_
   ·rintro j σ H6 hj ⟨as,es,af,fa,zU,⟨qe,qa,En,rfl⟩,JN,hel,hez,hfa,rm,g6,wJ,MP,_,dX⟩
    have hbr:bY x=true:=by
     cases hq:bY x with
     | true=>rfl
     | false=>rw [mf hq]at hj; exact absurd hj (Nat.not_lt_zero _)
    have hj2:j<2:=by rw [mt hbr]at hj; exact hj
    obtain⟨m,rfl⟩ :∃m,n=m+1:=by
     cases n with
     | zero=>rw [J9 ha]at hbr; cases hbr
     | succ m=>exact⟨m,rfl⟩
    have MP:=MP m rfl
    have hcs:=mZ m
    have RX:j*bnd m+bnd m<=2*bnd m:=by have:=Nat.mul_le_mul_right (bnd m) hj2; rw [Nat.succ_mul]at this; exact this
    have dX:=dX m rfl hbr
    obtain⟨vs,c0,c1,p0,q0,hav,hpq,SU,S8⟩:=CZ ha hbr
    have T5:∃(cj:Addr) (pj:List Wk),ja (vs++[.ref c0,.ref c1]) ((j:Int)-2)=some (.ref cj)/\jA m H cj pj/\(dJ x)[j]? = some pj:=by
     rw [hpq]
     match j,hj2 with
     | 0,_=>exact⟨c0,p0,Gi,SU,rfl⟩
     | 1,_ =>
      refine⟨c1,q0,?_,S8,rfl⟩
      have:=oK (vs++[V.ref c0]) (V.ref c1)
      rw [List.append_assoc]at this
      exact this
    obtain⟨cj,pj,hat,Si,Ol⟩:=T5
    rw [m8 Ol]at dX
    have Pg:aE H H6:=JH.trans rm
    refine ak ?_
    dsimp only
    refine⟨_,rfl,_,rfl,_,rfl,_,_,rfl,rfl,a,_,_,_,rfl,rfl,aH.of (Pg _ _ hav),(by rw [Int.zero_add]; exact hat),_,rfl,_,rfl,dQ,λu7 NP=>?_⟩
    have sB:=aj NP (.tup [.int (0+(j:Int))])
    refine⟨u2,u7,_,_,rfl,rfl,sB _ _ (rm _ _ wW),ag,by rw [UC,UD]; exact Uz (show _+1+1<=1000 by omega) (by decide),λu8 H8 s8 iN=>?_⟩
    rw [Int.zero_add,DX]at iN
    have qK:=sB.trans s8
    have KA:=rm.trans (aE.of qK)
    have Px:=JH.trans KA
    have g8:eI fd H H8:=(gr.trans g4).trans (g6.trans (eI.of qK))
    refine⟨_,rfl,_,rfl,bi,cj,u8,gi,fd,hh,pj,(pi++[(i:Int)])++[(j:Int)],fi,zU,rfl,⟨KA _ _ (Ce _ _ hbi),Si.keep Px,iN,KA _ _ (Ce _ _ hgi),qK _ _ wJ,(hok.2 x (UK ex)).2 pj (UK Ol),(hdr x (UK ex)).2 pj (UK Ol),h6,by rw [UD,UD]; show _+1+1+_<=_; omega,by omega⟩,λu9 H9 Ob g9 KN hk9 HH=>ak ?_⟩
    dsimp only
    have M8:aE H8 H9:=g9.rp (qK _ _ wJ)
    cases er:putL (cn m) ((pi++[(i:Int)])++[(j:Int)]) 0 hh fi pj with
    | no a' s' =>
     rw [er]at HH
     have htot:putL (cn (m+1)) pi 0 h fl ws=.no a' s':=by
      rw [dX]
      show c8 (c8 (putL (cn m) ((pi++[(i:Int)])++[(j:Int)]) 0 hh fi pj) _) _=_
      rw [er]
      rfl
     obtain⟨aa,hr1,hr2⟩:=HH
     refine⟨_,rfl,u9,_,0,_,rfl,rfl,aH.of hr1,av (j:=0) rfl,rfl,_,rfl,bX ⟨_,rfl,q u9 H9 Ob (g8.trans g9) KN (by omega) ?_⟩⟩
     rw [htot]
     exact⟨aa,hr1,hr2⟩
    | ok h' f' =>
     rw [er]at HH
     obtain⟨aa,ab,hr1,hr2,Qr⟩:=HH
     refine⟨_,rfl,u9,_,0,_,rfl,rfl,aH.of hr1,av (j:=0) rfl,rfl,_,rfl,?_⟩
     rw [bM,UA (by decide +kernel)]
     refine bA (aG ?_)
     dsimp only
     have hL9:H9 Le=some (.lst (as.map V.ref)):=g9 _ _ Kx (qK _ _ JN.lst)
     refine⟨_,rfl,.inl ⟨rfl,_,aZ.of hL9⟩,_,rfl,u9,_,1,_,rfl,rfl,aH.of hr1,rfl,Le,_,_,rfl,rfl,hL9,by rw [UC,JN.len,hel]; exact Nat.lt_trans hj2 (by decide),?_⟩
     have kX:aE H9 (upd H9 Le (.lst (as.map V.ref++[.ref aa]))):=aE.refl.uE hL9
     have Pa:upd H9 Le (.lst (as.map V.ref++[.ref aa])) Le=some (.lst ((as++[aa]).map V.ref)):=by rw [ag,UE]; rfl
     have PF:upd H9 Le (.lst (as.map V.ref++[.ref aa])) fd=some (.dT Ob):=by rw [aI (Ne.symm Kx)]; exact KN
     have gX:eI fd H4 (upd H9 Le (.lst (as.map V.ref++[.ref aa]))):=eI.new hL ((g6.trans (eI.of qK)).trans g9)
     revert kX Pa PF gX
     generalize upd H9 Le (.lst (as.map V.ref++[.ref aa]))=HX
     intro kX Pa PF gX
     have Nv:aE H6 HX:=((aE.of qK).trans M8).trans kX
     refine⟨_,rfl,_,rfl,u9,_,2,_,rfl,rfl,aH.of (kX _ _ hr1),rfl,af,ab,rfl,⟨_,aH.of (Nv _ _ hfa)⟩,⟨_,aH.of (kX _ _ Qr)⟩,λDl hD=>?_⟩
     refine AS (xs:=MI fa) (ys:=MI f') (λi σ zs H'=>(∃o1 o2,σ=[o1,o2])/\zs=((Ir fa f').take i).map V.bl/\zs.length=i/\H' Dl=some (.lst zs)/\aM HX H') ⟨⟨none,none,rfl⟩,rfl,rfl,ag,aj hD _⟩ ?_ ?_ rfl tN ?_ ?_
     ·rintro i σ zs H' _ ⟨_,_,hi,hz,_⟩
      exact⟨hz,Nat.le_of_eq hi⟩
     ·rintro i σ zs H' _ ⟨_,_,_,_,sm⟩
      exact⟨aH.of (sm _ _ (Nv _ _ hfa)),aH.of (sm _ _ (kX _ _ Qr))⟩
     ·rintro i x y σ zs H' T3 Ra Rj ⟨⟨o1,o2,rfl⟩,rfl,hi,hz,sm⟩ Kt
      obtain⟨pb,qb,rfl,rfl,eo⟩:=Mc i x y Ra Rj
      have tz:=aj Kt (.tup [.bl pb,.bl qb])
      refine⟨T3,_,rfl,aH.of ag,rfl,_,_,rfl,ak ⟨_,_,rfl,ak ⟨rfl,?_⟩⟩⟩
      have MM:∀w:Bool,w=(pb||qb)->upd H' T3 (.tup [.bl pb,.bl qb]) Dl=some (.lst (((Ir fa f').take i).map V.bl))/\((Ir fa f').take i).map V.bl++[V.bl w]=((Ir fa f').take (i+1)).map V.bl/\(((Ir fa f').take i).map V.bl++[V.bl w]).length=i+1:=by
       rintro w rfl
       refine⟨tz _ _ hz,?_,by rw [UD,hi]; rfl⟩
       rw [take_one eo,UE]; rfl
      refine⟨_,rfl,_,rfl,cI (λz=>?_) (λz=>?_)⟩
      ·obtain⟨f1,f2,f3⟩:=MM true (by rw [z]; rfl)
       exact⟨f1,⟨_,_,rfl⟩,f2,f3,ag,bq hD (sm.trans tz)⟩
      ·obtain⟨f1,f2,f3⟩:=MM qb (by rw [Bool.eq_false_iff.mpr z]; rfl)
       exact⟨_,rfl,f1,⟨_,_,rfl⟩,f2,f3,ag,bq hD (sm.trans tz)⟩
     ·rintro σ zs H' ⟨_,rfl,_,hz,sm⟩
      refine⟨Dl,_,rfl,.inl ⟨aZ.of hz,λSl PH=>ak ?_⟩⟩
      have tU:=aj PH (.tup (((Ir fa f').take (MI fa).length).map V.bl))
      have sX:=sm.trans tU
      refine⟨as++[aa],es++[h'],Sl,Ez fa f',Ob,⟨_,_,_,rfl⟩,Dv JN (Nv.trans (aE.of sX)) (sX _ _ (kX _ _ hr2)) (sX _ _ Pa),by rw [UD,hel]; rfl,λe he=>?_,ag,(rm.trans Nv).trans (aE.of sX),gX.trans (eI.of sX),sX _ _ PF,λm' e=>?_,λz=>(by cases z),λm' e _=>?_⟩
      ·rcases List.mem_append.mp he with z | z
       ·exact hez e z
       ·rw [List.mem_singleton.mp z]
        exact yJ h6 er
      ·cases e
       rw [Nat.succ_mul]
       omega
      ·cases e
       rw [dX]
       show c8 (c8 (putL (cn m) ((pi++[(i:Int)])++[(j:Int)]) 0 hh fi pj) _) _=_
       rw [er]
       rfl
   ·rintro σ H6 ⟨as,es,af,fa,zU,⟨qe,qa,En,rfl⟩,JN,hel,hez,hfa,rm,g6,wJ,MP,hz0,dX⟩
    refine hT2 _ _ ⟨as,es,af,fa,zU,⟨_,_,_,rfl⟩,JN,λhb'=>(by rw [hel,mt hb']; rfl),hez,hfa,rm,g6,wJ,?_,?_⟩
    ·cases hq:bY x with
     | false=>have:=(hz0 (by rw [mf hq]; rfl)).1; omega
     | true =>
      obtain⟨m,rfl⟩ :∃m,n=m+1:=by
       cases n with
       | zero=>rw [J9 ha]at hq; cases hq
       | succ m=>exact⟨m,rfl⟩
      have:=MP m rfl
      rw [mt hq]at this
      rw [mZ]
      have e2:(2:Int).toNat=2:=rfl
      rw [e2]at this
      omega
    ·cases hq:bY x with
     | false =>
      obtain⟨_,z1,z2⟩:=hz0 (by rw [mf hq]; rfl)
      rw [hrun,BG hq,z1,z2]
     | true =>
      obtain⟨m,rfl⟩ :∃m,n=m+1:=by
       cases n with
       | zero=>rw [J9 ha]at hq; cases hq
       | succ m=>exact⟨m,rfl⟩
      have:=dX m rfl hq
      rw [mt hq,show(2:Int).toNat=(dJ x).length from(lR hq).1.symm,List.drop_length]at this
      exact this
  rintro σ H6 ⟨as,es,af,fa,zU,⟨qe,qa,En,rfl⟩,JN,he2,hez,hfa,rm,g6,wJ,MP,dX⟩
  have Pg:aE H H6:=JH.trans rm
  have PQ:dW H6 bi hh:=rm _ _ (Ce _ _ hbi)
  have Ro:tQ H6 gi fi:=rm _ _ (Ce _ _ hgi)
  have hLw:vf n H6 a bi Le x hh as es:=⟨ha.keep Pg,PQ,JN,he2,L7.sm,FZ O6.1,O6.2,O6.1⟩
  have Mn:∀e∈es,e.length<=1000:=λe he=>Uz (hez e he) (by decide)
  refine⟨_,rfl,_,rfl,_,rfl,_,rfl,a,bi,gi,Le,x,hh,fi,as,es,rfl,hLw,Ro,L7.wide,Uz h6 (by decide),Mn,λH7 s7=>ak ?_⟩
  have QB:eI fd H H7:=((gr.trans g4).trans g6).trans (eI.of s7)
  dsimp only
  refine⟨_,rfl,rfl,_,rfl,?_⟩
  rw [bM]
  cases ew:i7 x fi (kM x hh es)with
  | some s' =>
   have hfin:lQ x hh fi (pi++[(i:Int)]) es fa=.no (pi++[(i:Int)]) s':=by unfold lQ; rw [ew]
   have hne:GF (some s')≠"":=by
    unfold i7 at ew
    intro z
    have z:s'="":=z
    subst z
    repeat' split at ew
    all_goals first | (cases ew; done) | (have:=Option.some.inj ew; exact absurd this (by decide +kernel))
   rw [UA hne]
   refine bX ⟨_,rfl,_,rfl,gw,λu hu'=>?_⟩
   have t8:=aj hu' (.tup [.str "no",.ref u2,.str (GF (some s'))])
   refine q u _ zU (QB.trans (eI.of t8)) (t8 _ _ (s7 _ _ wJ)) (by omega) ?_
   rw [dX,hfin]
   exact⟨u2,ag,t8 _ _ (s7 _ _ (rm _ _ wW))⟩
  | none =>
   obtain⟨hfit,TF⟩:=sI ew
   have hfin:lQ x hh fi (pi++[(i:Int)]) es fa=.ok (bH x (kM x hh es)) (jb x hh fa):=by unfold lQ; rw [ew]
   rw [UB (show GF none="" from rfl)]
   refine bA (aG ?_)
   dsimp only
   have Ml:bg x (kM x hh es)=true:=by
    unfold i7 at ew
    rw [if_pos hfit]at ew
    by_cases z:bg x (kM x hh es)=true
    ·exact z
    ·rw [if_neg z]at ew; cases ew
   have hkeep:keepIn x hh:=by
    rintro c t rfl
    exact cG hfit (by simp [c7])
   refine⟨_,rfl,_,rfl,_,rfl,a,bi,af,x,hh,fa,rfl,hLw.wk.keep (aE.of s7),s7 _ _ PQ,s7 _ _ hfa,hkeep,λu8 H8 s8 iN=>ak ?_⟩
   dsimp only
   have NF:=s7.trans s8
   refine⟨_,rfl,_,rfl,_,rfl,a,bi,Le,x,hh,as,es,rfl,hLw.same NF,⟨hfit,Ml,Uz h6 (by decide),Mn⟩,λu9 H9 s9 NJ=>ak ?_⟩
   refine⟨u9,u8,bH x (kM x hh es),jb x hh fa,zU,⟨_,_,_,_,_,_,_,_,rfl⟩,NJ,s9 _ _ iN,TF,(QB.trans (eI.of s8)).trans (eI.of s9),s9 _ _ (NF _ _ wJ),?_,?_⟩
   ·rw [Nat.succ_mul]; omega
   ·rw [dX,hfin]; rfl
 ·rintro σ H' ⟨bi,gi,hh,fi,kv,⟨o5,o6,o7,o8,o9,qe,qa,En,rfl⟩,hbi,hgi,h6,gr,AY,Lc,hrun⟩
  rw [hlb]at Lc hrun
  rw [List.drop_length]at hrun
  have RM:=Nat.mul_le_mul_right (cW n) hw9
  have k0:=gr.rp hfd
  dsimp only
  refine⟨_,rfl,gi,_,4,_,rfl,rfl,aH.of hgi,rfl,_,rfl,_,rfl,_,rfl,p,_,rfl,.inr (aH.of (k0 _ _ hI.tup)),dQ,λu1 jU=>?_⟩
  have sU:=aj jU (.tup [.int ((bs.map V.ref).length:Nat)])
  refine⟨pl,u1,_,_,rfl,rfl,sU _ _ (k0 _ _ hpl),ag,by rw [UC]; exact Uz (show _+1<=1000 by omega) (by decide),λu2 H2 JJ hu2=>?_⟩
  rw [DX]at hu2
  have s2:=sU.trans JJ
  refine⟨fd,_,rfl,Ax.t (k:=kI (pi++[((bs.map V.ref).length:Int)])) (s2 _ _ AY) (by rw [LD]; exact hu2) (UG (show kv.length<=100000 by omega) (by decide)),?_⟩
  have IS:(putK kv (kI (pi++[((bs.map V.ref).length:Int)])) (.bl fi.l)).length<=kv.length+1:=ux
  revert IS
  generalize putK kv (kI (pi++[((bs.map V.ref).length:Int)])) (.bl fi.l)=AR
  intro IS
  have kU:aE H' (upd H2 fd (.dT AR)):=(aE.of s2).NS (s2 _ _ AY)
  have va:upd H2 fd (.dT AR) fd=some (.dT AR):=ag
  have gU:eI fd H (upd H2 fd (.dT AR)):=(gr.trans (eI.of s2)).put
  revert kU va gU
  generalize upd H2 fd (.dT AR)=H3
  intro kU va gU
  refine⟨_,rfl,_,rfl,gw,λu hu'=>?_⟩
  have t:=aj hu' (.tup [.str "head",.ref bi,.ref gi])
  refine q u _ AR (gU.trans (eI.of t)) (t _ _ va) (by omega) ?_
  rw [hrun]
  exact⟨bi,gi,ag,t _ _ (kU _ _ hbi),t _ _ (kU _ _ hgi)⟩
structure Ad(n:Nat)(H:Hp)(b p:Addr)(h:Hd)(ws:List Wk):Prop where
 hd:dW H b h
 pp:jA n H p ws
 ok:ui n ws
 dr:sf n ws
 six:h.length<=6
def yE(n:Nat):Sp:=λvs H Q _=>∃(b p:Addr) (h:Hd) (ws:List Wk),vs=[.ref b,.ref p]/\Ad n H b p h ws/\2*n<=100/\bnd n<=100000/\∀(u:Addr) (H':Hp),aM H H'->HI H' u (kg n h ws)->Q (.ref u) H'
abbrev gN:Stmt:=top 77
theorem ow:az ["_law_head","_law_pipe_here"] ["_law_head","_law_pipe_here"] (ar gN):=fs
theorem Av{n L:Nat}(F:FA K mg "_law_judged" gN)
  (j9:bf bc P w K mg base (L+6) "_law_put" ["_law_head","_law_pipe_here","_law_place","_law_flags_here","_law_found"] (rV (n+1))) :
  bf bc P w K mg base (L+7) "_law_judged" ["_law_head","_law_pipe_here"] (yE n):=by
 refine F.ok ow λf cdv A outer s H vs Q E hr h=>?_
 have hu:=iN hr
 have hu1:=jY hr
 obtain⟨b,p,h,ws,rfl,hI,hn2,hbn,q⟩:=h
 refine⟨_,(ax (ay j9 hr (ae (pv 0) (ae (pv 1) (ae (aJ ah) (ae (aJ (ae fV (ae fV (ae fV (ae fV (ae fV ah)))))) (ae C6 ah))))))),?_⟩
 refine⟨_,rfl,_,rfl,xg,λu1 jU=>?_⟩
 have s1:=aj jU (.tup [])
 refine⟨tN,λu2 hu2=>?_⟩
 have s2:=aj hu2 (.tup [.bl false,.bl false,.bl false,.bl false,.bl false])
 have e1:=s2 _ _ (ag (H:=H) (a:=u1) (o:=.tup []))
 have e2:upd (upd H u1 (.tup [])) u2 (.tup [.bl false,.bl false,.bl false,.bl false,.bl false]) u2=_:=ag
 have s12:=s1.trans s2
 revert s12 e1 e2
 generalize upd (upd H u1 (.tup [])) u2 (.tup [.bl false,.bl false,.bl false,.bl false,.bl false])=H2
 intro e1 e2 s12
 refine λD hD=>?_
 have s3:=aj hD (.dT [])
 have qd:=s12.trans s3
 have k13:=aE.of qd
 refine⟨b,p,u1,u2,D,h,ws,[],f0,[],rfl,⟨qd _ _ hI.hd,hI.pp.keep k13,s3 _ _ e1,s3 _ _ e2,ag,hI.ok,hI.dr,hI.six,by simpa using hn2,by simpa using hbn⟩,λu H' T_ g' hf' hk' hR=>?_⟩
 exact q u H' (ke (s12.free hD) qd g') hR
def By(n:Nat)(h:Hd)(ws:List Wk):Hd:=match kg n h ws with
 | .ok h' _=>h'
 | .no _ _=>h
def Hl(n:Nat):Sp:=λvs H Q _=>∃(b p:Addr) (h:Hd) (ws:List Wk),vs=[.ref b,.ref p]/\Ad n H b p h ws/\2*n<=100/\bnd n<=100000/\∀(u:Addr) (H':Hp),aM H H'->dW H' u (By n h ws)->Q (.ref u) H'
abbrev ky:Stmt:=top 78
theorem mh:az ["_law_head","_law_pipe_here","_law_tale"] ["_law_head","_law_pipe_here"] (ar ky):=fs
theorem Ka{n L:Nat}(F:FA K mg "_law_end" ky)
  (dU:bf bc P w K mg base (L+7) "_law_judged" ["_law_head","_law_pipe_here"] (yE n)) :
  bf bc P w K mg base (L+8) "_law_end" ["_law_head","_law_pipe_here"] (Hl n):=by
 refine F.ok mh λf cdv A outer s H vs Q E hr h=>?_
 obtain⟨b,p,h,ws,rfl,hI,hn2,hbn,q⟩:=h
 refine⟨_,(aq (aL (i:=2) mh.nd rfl (Or.inl rfl) (ay dU hr (ae (pv 0) (ae (pv 1) ah))))
   (ax (eR (aW aP (aA K (pv 2) ai) ao) (aA K (pv 2) ai) (pv 0)))),?_⟩
 refine⟨_,rfl,_,rfl,b,p,h,ws,rfl,hI,hn2,hbn,λu H' s' hR=>ak ?_⟩
 dsimp only
 unfold By at q
 cases er:kg n h ws with
 | ok h' f' =>
  rw [er]at hR q
  obtain⟨a1,a2,h1,h2,h3⟩:=hR
  refine⟨_,rfl,u,_,0,_,rfl,rfl,aH.of h1,av (j:=0) rfl,rfl,_,rfl,?_⟩
  rw [bM,UB rfl]
  exact bX ⟨_,rfl,u,_,1,_,rfl,rfl,aH.of h1,rfl,q a1 H' s' h2⟩
 | no a1 s1 =>
  rw [er]at hR q
  obtain⟨a1,h1,h2⟩:=hR
  refine⟨_,rfl,u,_,0,_,rfl,rfl,aH.of h1,av (j:=0) rfl,rfl,_,rfl,?_⟩
  rw [bM,UA (by decide +kernel)]
  exact bA ⟨_,rfl,q b H' s' (s' _ _ hI.hd)⟩
def QY:Wk->Prop
 | .one x=>ne1 x
 | _=>True
theorem FL{x:Wk}{hs:List Hd}(hx:QY x)(h:hs.headD []≠[]):bH x hs≠[]:=by
 match x with
 | .one (.cut cs)=>intro z; exact hx (List.map_eq_nil_iff.mp z)
 | .one (.must c ps) =>
  intro z
  have z:((hs.headD []).take (c-1).toNat++(ps.take 1).map (λp=>sW p.2))++(hs.headD []).drop c.toNat=[]:=z
  have z1:=(List.append_eq_nil_iff.mp (List.append_eq_nil_iff.mp z).1).2
  have hp:ps≠[]:=hx.1
  cases ps with
  | nil=>exact hp rfl
  | cons p ps=>cases z1
 | .one (.walk ..)=>intro z; exact absurd (List.append_eq_nil_iff.mp z).2 (by simp)
 | .one (.count ..)=>intro z; exact absurd (List.append_eq_nil_iff.mp z).2 (by simp)
 | .one (.sum ..)=>intro z; exact absurd (List.append_eq_nil_iff.mp z).2 (by simp)
 | .one .number=>intro z; exact absurd (List.append_eq_nil_iff.mp z).2 (by simp)
 | .meet ..=>intro z; exact h (List.append_eq_nil_iff.mp (List.append_eq_nil_iff.mp z).1).1
 | .one (.keep ..)=>exact h
 | .one (.same ..)=>exact h
 | .one (.turn ..)=>exact h
 | .one (.sort ..)=>exact h
 | .one .apart=>exact h
 | .one (.first ..)=>exact h
 | .both ..=>exact h
theorem Ii{x:Wk}(h:J6 x):QY x:=by
 cases x with
 | one x=>exact D_.ne h
 | both p q=>trivial
 | meet c d p q=>trivial
theorem Jl:∀{n:Nat} {pl:List Int} {ws:List Wk} {i:Nat} {h:Hd} {f:Fl} {h':Hd} {f':Fl},sf n ws->h≠[]->putL (cn n) pl i h f ws=.ok h' f'->h'≠[]
 | n,pl,[],i,h,f,h',f',_,hn,e=>by cases e; exact hn
 | n,pl,x::ws,i,h,f,h',f',hd,hn,e=>by
  obtain⟨h1,f1,e1,e2⟩:=fm e
  have hx:=Ii (hd.ok (x:=x) (by simp)).1
  have hws:sf n ws:=by
   cases n with
   | zero=>exact λy hy=>hd y (by simp [hy])
   | succ n=>exact λy hy=>hd y (by simp [hy])
  refine Jl hws ?_ e2
  have key:∀es:List (Hd×Fl),(es.map λe=>e.1).headD []≠[]->iu x h f (pl++[(i:Int)]) es=.ok h1 f1->h1≠[]:=by
   intro es hes e
   unfold iu at e
   split at e
   ·cases e
   ·cases e; exact FL hx hes
  cases hb:bY x with
  | false=>rw [iZ hb]at e1; exact key [(h,f)] hn e1
  | true =>
   cases n with
   | zero=>exact key [(h,f)] hn e1
   | succ n =>
    rw [oW hb]at e1
    obtain⟨p,q,hpq⟩:=sD hb
    have hp:sf n p:=(hd x (by simp)).2 p (by rw [hpq]; simp)
    rw [hpq]at e1
    obtain⟨h2,f2,e3,e1⟩:=fm e1
    obtain⟨_,_,_,e1⟩:=fm e1
    refine key _ ?_ e1
    exact Jl hp hn e3
termination_by n _ ws=>(n,ws.length)
def dep:Nat->Wk->Prop
 | _,.one _=>True
 | 0,_=>False
 | n+1,.both p q=>(∀x∈p,dep n x)/\∀x∈q,dep n x
 | n+1,.meet _ _ p q=>(∀x∈p,dep n x)/\∀x∈q,dep n x
theorem hZ{α:Type}{At:Hp->Addr->α->Prop}{H:Hp}{p:Addr}{bs:List Addr}{xs:List α}(h:bO At H p bs xs){x:α}(hx:x∈xs):∃a,At H a x:=by
 obtain⟨i,e⟩:=List.mem_iff_getElem?.mp hx
 have hi:i<bs.length:=by rw [h.len]; exact(List.getElem?_eq_some_iff.mp e).1
 exact⟨_,h.at_ i _ x (UI hi) e⟩
theorem oH:∀{n:Nat} {H:Hp} {a:Addr} {x:Wk},dk n H a x->dep n x
 | 0,H,a,.one x,h=>trivial
 | n+1,H,a,.one x,h=>trivial
 | n+1,H,a,.both p q,h=>by
  obtain⟨b,c,bs,cs,h1,h2,h3⟩:=h
  exact⟨λx hx=>by obtain⟨a,z⟩:=hZ h2 hx; exact oH z,λx hx=>by obtain⟨a,z⟩:=hZ h3 hx; exact oH z⟩
 | n+1,H,a,.meet c d p q,h=>by
  obtain⟨b,e,bs,es,h1,h2,h3⟩:=h
  exact⟨λx hx=>by obtain⟨a,z⟩:=hZ h2 hx; exact oH z,λx hx=>by obtain⟨a,z⟩:=hZ h3 hx; exact oH z⟩
theorem y9{n:Nat}{x:Wk}(h:dep (n+1) x){p:List Wk}(hp:p∈dJ x):∀y∈p,dep n y:=by
 cases x with
 | one x=>cases hp
 | both a b =>
  simp only [dJ,List.mem_cons,List.not_mem_nil,or_false]at hp
  rcases hp with rfl | rfl
  ·exact h.1
  ·exact h.2
 | meet c d a b =>
  simp only [dJ,List.mem_cons,List.not_mem_nil,or_false]at hp
  rcases hp with rfl | rfl
  ·exact h.1
  ·exact h.2
theorem vJ{x:Wk}(h:dep 0 x):dJ x=[]:=by
 cases x with
 | one x=>rfl
 | both a b=>exact False.elim h
 | meet c d a b=>exact False.elim h
theorem ui.up:∀{n:Nat} {ws:List Wk},(∀x∈ws,dep n x)->ui n ws->ui (n+1) ws
 | 0,ws,hd,h=>⟨h.1,λx hx=>⟨h.2 x hx,λp hp=>by rw [vJ (hd x hx)]at hp; cases hp⟩⟩
 | n+1,ws,hd,h=>⟨h.1,λx hx=>⟨(h.2 x hx).1,λp hp=>ui.up (y9 (hd x hx) hp) ((h.2 x hx).2 p hp)⟩⟩
theorem sf.up:∀{n:Nat} {ws:List Wk},(∀x∈ws,dep n x)->sf n ws->sf (n+1) ws
 | 0,ws,hd,h=>λx hx=>⟨h x hx,λp hp=>by rw [vJ (hd x hx)]at hp; cases hp⟩
 | n+1,ws,hd,h=>λx hx=>⟨(h x hx).1,λp hp=>sf.up (y9 (hd x hx) hp) ((h x hx).2 p hp)⟩
structure bN(n:Nat)(H:Hp)(p:Addr)(ws:List Wk):Prop where
 pp:jA n H p ws
 ok:ui n ws
 dr:sf n ws
theorem bN.up{n:Nat}{H:Hp}{p:Addr}{ws:List Wk}(h:bN n H p ws):bN (n+1) H p ws:=by
 obtain⟨⟨bs,hb⟩,h2,h3⟩:=h
 have hd:∀x∈ws,dep n x:=λx hx=>by obtain⟨a,z⟩:=hZ hb hx; exact oH z
 exact⟨⟨bs,hb.tup,hb.len,λi a x e1 e2=>(hb.at_ i a x e1 e2).up⟩,h2.up hd,h3.up hd⟩
theorem bN.to{n:Nat}{H:Hp}{p:Addr}{ws:List Wk}(h:bN n H p ws)(m:Nat):bN (n+m) H p ws:=by
 induction m with
 | zero=>exact h
 | succ m ih=>exact ih.up
theorem bN.le{n m:Nat}{H:Hp}{p:Addr}{ws:List Wk}(h:bN n H p ws)(e:n<=m):bN m H p ws:=by
 have:=h.to (m-n)
 rwa [show n+(m-n)=m by omega]at this
theorem bN.keep{n:Nat}{H H':Hp}{p:Addr}{ws:List Wk}(k:aE H H')(h:bN n H p ws):bN n H' p ws:=⟨h.pp.keep k,h.ok,h.dr⟩
structure nQ(n:Nat)(H:Hp)(a:Addr)(x:Wk):Prop where
 wk:dk n H a x
 ok:AF x
 dr:J6 x
 pm:BC x
 br:∀p∈dJ x,ui (n-1) p/\sf (n-1) p
theorem bN.snoc{n:Nat}{H:Hp}{p u a:Addr}{bs:List Addr}{ws:List Wk}{x:Wk}(hI:bO (dk n) H p bs ws)(ho:ui n ws)(hd:sf n ws)(hx:nQ n H a x)(hl:ws.length<9)(hu:H u=some (.tup ((bs++[a]).map V.ref))):bN n H u (ws++[x]):=by
 refine⟨⟨bs++[a],hu,by rw [UD,UD,hI.len]; rfl,λi b y e1 e2=>?_⟩,?_,?_⟩
 ·by_cases hi:i<bs.length
  ·rw [List.getElem?_append_left hi]at e1
   rw [List.getElem?_append_left (by rw [←hI.len]; exact hi)]at e2
   exact hI.at_ i b y e1 e2
  ·have hi':i=bs.length:=by
    have:=(List.getElem?_eq_some_iff.mp e1).1
    rw [UD]at this
    simp at this
    omega
   rw [hi',List.getElem?_append_right (Uy _),Nat.sub_self]at e1
   rw [hi',hI.len,List.getElem?_append_right (Uy _),Nat.sub_self]at e2
   cases e1
   cases e2
   exact hx.wk
 ·have hl':(ws++[x]).length<=9:=by rw [UD]; simp; omega
  cases n with
  | zero =>
   refine⟨hl',λy hy=>?_⟩
   rcases List.mem_append.mp hy with z | z
   ·exact ho.2 y z
   ·rw [List.mem_singleton.mp z]; exact hx.ok
  | succ n =>
   refine⟨hl',λy hy=>?_⟩
   rcases List.mem_append.mp hy with z | z
   ·exact ho.2 y z
   ·rw [List.mem_singleton.mp z]; exact⟨hx.ok,λp hp=>(hx.br p hp).1⟩
 ·cases n with
  | zero =>
   intro y hy
   rcases List.mem_append.mp hy with z | z
   ·exact hd y z
   ·rw [List.mem_singleton.mp z]; exact⟨hx.dr,hx.pm⟩
  | succ n =>
   intro y hy
   rcases List.mem_append.mp hy with z | z
   ·exact hd y z
   ·rw [List.mem_singleton.mp z]; exact⟨⟨hx.dr,hx.pm⟩,λp hp=>(hx.br p hp).2⟩
theorem D_.all{n:Nat}{H:Hp}{a:Addr}{x:W1}(h:jS H a x)(d:D_ x):nQ n H a (.one x):=by
 refine⟨bW.mpr h,⟨d.sm,d.good,?_,λp hp=>by cases hp⟩,d,trivial,λp hp=>by cases hp⟩
 cases x <;> first | trivial | exact d.ne.1
def kS(K:PySem.W.Frag):Nat->Sp
 | 0=>λ_ _ _ _=>False
 | N+1=>λvs H Q _=>∃(p b:Addr) (h:Hd) (d m:Nat) (si:Bool),vs=[.ref p,.ref b,.int d,.int m,.bl si]/\dh H p/\cZ K H b h/\d<=N/\m<=9/\∀(u:Addr) (ws:List Wk) (H':Hp),bo p H H'->bN d H' u ws->ws.length<=m->Q (.ref u) H'
def zd(K:PySem.W.Frag)(N:Nat):Sp:=λvs H Q _=>∃(p b:Addr) (h:Hd) (d:Nat) (wd:Str),vs=[.ref p,.ref b,.int d,.str wd]/\dh H p/\cZ K H b h/\1<=d/\d<=N/\(wd="both"\/wd="meet")/\∀(u:Addr) (x:Wk) (H':Hp),bo p H H'->nQ d H' u x->Q (.ref u) H'
def yU(K:PySem.W.Frag)(N:Nat):Sp:=λvs H Q _=>∃(p b:Addr) (h:Hd) (d:Nat) (si:Bool),vs=[.ref p,.ref b,.int d,.bl si]/\dh H p/\cZ K H b h/\d<=N/\∀(u:Addr) (x:Wk) (H':Hp),bo p H H'->nQ d H' u x->Q (.ref u) H'
end My
namespace L2
open PySem PySem.Spec PyProof.Rows
theorem BH(l:Addr)(items:Array Value)(n:Nat)(dd:Option Addr)(sl:Array (Option Value))(t:Tok)(hi:items.isEmpty=false) :
  Meets (Builtin.«tuple.__mul__» ⟨[.ref l,.int 0 t],[]⟩) (λ_ R s=>s.heap.get? l=some ⟨.type "tuple",dd,.seq items n,sl⟩/\
   R (.ok (.ret (.ref s.heap.objs.size))) {s with heap:=s.heap.push {cls:=.type "tuple",data:=.seq #[]}}) :=
 .of_wp λprog w A R s h=>by
  obtain⟨hp,g,d,tk,os⟩:=s; obtain⟨hl,h⟩:=h
  have c1:¬(decide ((0:Int) < -2 ^ 63)||decide ((0:Int)≥2 ^ 63))=true:=by decide
  have c2:¬(items.isEmpty||(0:Int)==1)=true:=by
   rw [hi,Bool.false_or]; decide
  have c3:(decide ((0:Int)<=0)||items.isEmpty)=true:=by
   rw [hi,Bool.or_false]; decide
  wp_walk
  exact⟨_,rfl,h⟩
theorem B4(l:Addr)(items:Array Value)(n:Nat)(dd:Option Addr)(sl:Array (Option Value))(t:Tok)(hi:items.isEmpty=false) :
  Meets (Builtin.«tuple.__mul__» ⟨[.ref l,.int 1 t],[]⟩) (λ_ R s=>s.heap.get? l=some ⟨.type "tuple",dd,.seq items n,sl⟩/\
   R (.ok (.ret (.ref l))) s) :=
 .of_wp λprog w A R s h=>by
  obtain⟨hp,g,d,tk,os⟩:=s; obtain⟨hl,h⟩:=h
  have c1:¬(decide ((1:Int) < -2 ^ 63)||decide ((1:Int)≥2 ^ 63))=true:=by decide
  have c2:(items.isEmpty||(1:Int)==1)=true:=by
   rw [hi,Bool.false_or]; decide
  wp_walk
  exact⟨_,rfl,h⟩
section
variable{X:Cx}
def JD(K:PySem.W.Frag):R2:=λx y H Q=>∃l k xs,x=.ref l/\y=.int k/\aH K H l xs/\xs≠[]/\((k=0/\∀p,H p=none->Q (.ref p) (upd H p (.tup [])))\/(k=1/\Q (.ref l) H))
theorem vq:i8 X (binaryOp .Mult) (JD X.K):=by
 intro pins s σ H x y v u Q I rx ry h
 obtain⟨l,k,xs,rfl,rfl,hq,hx,h⟩:=h
 cases rx
 obtain⟨t,rfl⟩:=ry
 obtain⟨its,r,⟨o,e,hc,n,hd⟩,_⟩:=I.tuple hq
 obtain⟨c,dd,da,sl⟩:=o
 cases(show c=.type "tuple" from hc)
 cases(show da=.seq its.toArray n from hd)
 have hl:=r.length
 have hi:its.toArray.isEmpty=false:=by
  cases its with
  | nil=>exact absurd (List.eq_nil_of_length_eq_zero (by rw [hl]; rfl)) hx
  | cons a r=>rfl
 rcases h with⟨rfl,q⟩ | ⟨rfl,q⟩
 ·refine wpAny_binaryOp_repeat_ref (T:="tuple") (U:="int") (by decide) ⟨_,e,rfl⟩ (λs'=>typeIs_int s' 0 t) fU F.fills_int_mul F.slot_int_rmul tX F.slot_int_index.lookup
   (call_meets F.slot_int_rmul (typeIs_int s 0 t) F.entry_int_rmul (F.args_int_rmul_2 _ _) (iB 0 t l its.toArray n dd sl)
    ⟨e,rfl,⟨_,e,rfl⟩,call_meets F.slot_tuple_mul ⟨_,e,rfl⟩ F.entry_tuple_mul (F.args_tuple_mul_2 _ _) (BH l its.toArray n dd sl t hi) ⟨e,?_⟩⟩)
  refine⟨.ref s.heap.objs.size,_,I.laid (t':=s.toks) (o:=.tup []) (λb ob q=>Uv _ q) (Uy _) ?_,rfl,q _ (I.hok.fresh (Uy _))⟩
  exact⟨Nat.zero_le _,[],.nil,gG.new _ _⟩
 ·refine wpAny_binaryOp_repeat_ref (T:="tuple") (U:="int") (by decide) ⟨_,e,rfl⟩ (λs'=>typeIs_int s' 1 t) fU F.fills_int_mul F.slot_int_rmul tX F.slot_int_index.lookup
   (call_meets F.slot_int_rmul (typeIs_int s 1 t) F.entry_int_rmul (F.args_int_rmul_2 _ _) (iB 1 t l its.toArray n dd sl)
    ⟨e,rfl,⟨_,e,rfl⟩,call_meets F.slot_tuple_mul ⟨_,e,rfl⟩ F.entry_tuple_mul (F.args_tuple_mul_2 _ _) (B4 l its.toArray n dd sl t hi) ⟨e,?_⟩⟩)
  exact⟨.ref l,H,I,rfl,q⟩
end
end L2
namespace My
open PySem L2
theorem Bl:bnd 2<=100000:=by decide
theorem bN.cons{n:Nat}{H:Hp}{p u a:Addr}{bs:List Addr}{ws:List Wk}{x:Wk}(hI:bO (dk n) H p bs ws)(ho:ui n ws)(hd:sf n ws)(hx:nQ n H a x)(hl:ws.length<9)(hu:H u=some (.tup ((a::bs).map V.ref))):bN n H u (x::ws):=by
 refine⟨⟨a::bs,hu,by rw [List.length_cons,List.length_cons,hI.len],λi b y e1 e2=>?_⟩,?_,?_⟩
 ·cases i with
  | zero=>cases e1; cases e2; exact hx.wk
  | succ i=>exact hI.at_ i b y e1 e2
 ·have hl':(x::ws).length<=9:=by rw [List.length_cons]; omega
  cases n with
  | zero =>
   refine⟨hl',λy hy=>?_⟩
   rcases List.mem_cons.mp hy with rfl | z
   ·exact hx.ok
   ·exact ho.2 y z
  | succ n =>
   refine⟨hl',λy hy=>?_⟩
   rcases List.mem_cons.mp hy with rfl | z
   ·exact⟨hx.ok,λp hp=>(hx.br p hp).1⟩
   ·exact ho.2 y z
 ·cases n with
  | zero =>
   intro y hy
   rcases List.mem_cons.mp hy with rfl | z
   ·exact⟨hx.dr,hx.pm⟩
   ·exact hd y z
  | succ n =>
   intro y hy
   rcases List.mem_cons.mp hy with rfl | z
   ·exact⟨⟨hx.dr,hx.pm⟩,λp hp=>(hx.br p hp).2⟩
   ·exact hd y z
abbrev fN:Stmt:=top 79
theorem dj:az ["_law_pot_here","_law_head","_law_deep","_law_word_here","_law_many_here","_law_one","_law_other_here"] ["_law_pot_here","_law_head","_law_deep","_law_word_here"] (ar fN):=fs
variable{P:Program}{w:World}{K:PySem.W.Frag}{mg:Str->Option Value}{base:Heap}
theorem nH{N L Le:Nat}(hN:N<=2)(h5:5<=L)(hLe:Le<=L)(B2:iK mg)(F:FA K mg "_law_joining" fN)
  (bu:bf bc P w K mg base 1 "_law_draw" ["_law_pot_here","_law_many_here"] dn)
  (gA:bf bc P w K mg base L "_law_pipe" ["_law_pot_here","_law_head","_law_deep","_law_many_here","_law_simple"] (kS K N))
  (j3:bf bc P w K mg base 2 "_law_column" ["_law_pot_here","_law_head"] (ic K))
  (nK:bf bc P w K mg base Le "_law_end" ["_law_head","_law_pipe_here"] (Hl 2))
  (x5:bf bc P w K mg base 3 "_law_set" ["_law_pot_here","_law_sort"] (C3 K)) :
  bf bc P w K mg base (L+1) "_law_joining" ["_law_pot_here","_law_head","_law_deep","_law_word_here"] (zd K N):=by
 refine F.ok dj λf cdv A outer s H vs Q E hr h=>?_
 have hu:=iN hr
 obtain⟨p,b,h,d,wd,rfl,hP,hH,hd1,ND,Hw,q⟩:=h
 refine⟨_,(aq (aL (i:=4) dj.nd rfl (Or.inl rfl) (aQ (ae (ay bu hr (ae (pv 0) (ae ai ah))) (ae (ay bu hr (ae (pv 0) (ae ai ah))) ah))))
   (aq (aL (i:=5) dj.nd rfl (Or.inl rfl) (ay gA hr (ae (pv 0) (ae (pv 1) (ae (bj K (aQ (ae (aF bJ (pv 2) ai) (ae ai ah))) (aV cA rfl B2.int PyProof.Rows.boot_int (ae (bU aP (pv 3) ao) ah))) (ae (bj K (pv 4) ai) (ae (pk (bU aP (pv 3) ao) (cY (bU CQ (ay bu hr (ae (pv 0) (ae ai ah))) ai))) ah)))))))
   (aq (aL (i:=6) dj.nd rfl (Or.inl rfl) (ay gA hr (ae (pv 0) (ae (pv 1) (ae (bj K (aQ (ae (aF bJ (pv 2) ai) (ae ai ah))) (aV cA rfl B2.int PyProof.Rows.boot_int (ae (bU aP (pv 3) ao) ah))) (ae (bj K (pv 4) ai) (ae (pk (bU aP (pv 3) ao) (cY (bU CQ (ay bu hr (ae (pv 0) (ae ai ah))) ai))) ah)))))))
   (aN (aW aP (pv 3) ao) (aJ (ae ao (ae (ay j3 hr (ae (pv 0) (ae (ay nK hr (ae (pv 1) (ae (pv 5) ah))) ah))) (ae (ay j3 hr (ae (pv 0) (ae (ay nK hr (ae (pv 1) (ae (pv 6) ah))) ah))) (ae (pv 5) (ae (pv 6) ah))))))
   (aq (dy (aW ik (ay bu hr (ae (pv 0) (ae ai ah))) ai)
    (bK (aL (i:=6) dj.nd rfl (Or.inl rfl) (aF cb (aF vq (aJ (ae (aJ (ae ao (ae ai (ae (ay x5 hr (ae (pv 0) (ae (aA K (pv 1) ai) ah))) ah)))) ah)) (ay bu hr (ae (pv 0) (ae ai ah)))) (pv 5))))
    b9)
   (ax (aJ (ae ao (ae (pv 5) (ae (pv 6) ah)))))))))),?_⟩
 have h4:∀m:Int,m=4\/m=3\/m=9\/m=2->0<m/\m.natAbs.log2<9000:=by rintro m (rfl | rfl | rfl | rfl) <;> exact⟨by decide,by decide⟩
 refine⟨_,rfl,p,_,rfl,hP,by decide,by decide,λd1 H1 g1 a1 b1=>⟨_,rfl,p,_,rfl,g1.cf,by decide,by decide,λd2 H2 g2 a2 b2=>⟨cM,λM hM=>ak ?_⟩⟩⟩
 have NI:=g1.trans g2
 have nM:=NI.ne hM
 have gM:=NI.new (o:=.lst [.int d1,.int d2]) hM
 have NK:upd H2 M (.lst [.int d1,.int d2]) M=some (.lst [.int d1,.int d2]):=ag
 revert gM NK
 generalize upd H2 M (.lst [.int d1,.int d2])=HM
 intro gM NK
 dsimp only
 obtain⟨N',rfl⟩ :∃N',N=N'+1:=⟨N-1,by omega⟩
 have call:∀(σ:St) (j:Int) (m:Int) (H1:Hp),bo p H H1->σ[0]? = some (some (.ref p))->σ[1]? = some (some (.ref b))->σ[2]? = some (some (.int d))->σ[3]? = some (some (.str wd))->σ[4]? = some (some (.ref M))->H1 M=some (.lst [.int d1,.int d2])->ja [V.int d1,V.int d2] j=some (.int m)->0<=m->m<=3->
   ∀(Qc:VK),(∀(u:Addr) (ws:List Wk) (H':Hp),bo p H1 H'->bN (if wd="meet" then 0 else d-1) H' u ws->ws.length<=3->Qc (.ref u) H')->
   i3 (kS K (N'+1)) [] E0 (bp (bx 0) (bp (bx 1) (bp (gO (wb K) (xi (bp (gO (AN λi j=>V.int (i-j)) (bx 2) (tC (.int 1))) (bp (tC (.int 0)) fD))) (Ky BA (bp (gO GR (bx 3) (tC (.str "meet"))) fD))) (bp (gO (wb K) (bx 4) (tC (.int j))) (bp (GZ (gO GR (bx 3) (tC (.str "meet"))) (gO (AN λi j=>.bl (decide (i<j))) (i3 dn [] E0 (bp (bx 0) (bp (tC (.int 9)) fD))) (tC (.int 8)))) fD))))) σ H1 Qc:=by
  intro σ j m H1 gg e0 e1 e2 e3 e4 RB hj m0 m3 Qc qc
  refine⟨_,e0,_,e1,_,e2,_,_,rfl,rfl,cM,λR hR=>?_⟩
  have sR:=aj hR (.lst [V.int ((d:Int)-1),.int 0])
  have gR:=gg.trans (bo.same gg.cf sR)
  have hRR:upd H1 R (.lst [V.int ((d:Int)-1),.int 0]) R=some (.lst [V.int ((d:Int)-1),.int 0]):=ag
  have Pu:=sR _ _ RB
  have kR:=bo.same gg.cf sR
  revert gR hRR Pu kR
  generalize upd H1 R (.lst [V.int ((d:Int)-1),.int 0])=HR
  intro gR hRR Pu kR
  refine⟨_,e3,rfl,.inr ⟨_,rfl,R,_,_,.int ((if wd="meet" then 0 else d-1:Nat):Int),rfl,rfl,aZ.of hRR,?_,_,e4,M,_,_,_,rfl,rfl,aZ.of Pu,hj,_,e3,rfl,_,rfl,?_⟩⟩
  ·rw [bM]
   by_cases z:wd="meet"
   ·rw [UB z,if_pos z]; rfl
   ·rw [UA z,if_neg z]
    show some (V.int ((d:Int)-1))=_
    congr 2
    omega
  rw [bM]
  have hle:(if wd="meet" then 0 else d-1)<=N':=by split <;> omega
  by_cases z:wd="meet"
  ·rw [UB z]
   refine bX ⟨_,e0,p,_,rfl,gR.cf,by decide,by decide,λd3 H3 g3 a3 b3=>⟨_,_,rfl,rfl,p,b,h,_,m.toNat,decide (d3<8),?_,g3.cf,hH.grow hP (gR.trans g3),hle,by omega,λu ws H' g' hp' hl'=>qc u ws H' ((kR.trans g3).trans g') hp' (by omega)⟩⟩
   rw [show((m.toNat:Nat):Int)=m by omega]
   rfl
  ·rw [UA z]
   refine bA ⟨p,b,h,_,m.toNat,false,?_,gR.cf,hH.grow hP gR,hle,by omega,λu ws H' g' hp' hl'=>qc u ws H' (kR.trans g') hp' (by omega)⟩
   rw [show((m.toNat:Nat):Int)=m by omega]
   rfl
 refine call _ 0 d1 HM gM rfl rfl rfl rfl rfl NK rfl a1 (by omega) _ λu1 Kc H3 g3 hp1 hl1=>ak ?_
 have Ko:=gM.trans g3
 dsimp only
 refine call _ 1 d2 H3 Ko rfl rfl rfl rfl rfl (g3.keep M _ nM NK) rfl a2 (by omega) _ λu2 Nq H4 g4 hp2 hl2=>ak ?_
 have A3:=Ko.trans g4
 have hp1:=hp1.keep (aE.grow Ko.cf g4)
 have H_:=hH.grow hP A3
 dsimp only
 refine⟨_,rfl,rfl,_,rfl,?_⟩
 rw [bM]
 by_cases z:wd="meet"
 ·rw [if_pos z]at hp1 hp2
  rw [UB z]
  have QH:∀{H5:Hp} {u:Addr} {ws:List Wk},cZ K H5 b h->bN 0 H5 u ws->Ad 2 H5 b u h ws:=λhh hp=>⟨hh.tup,(hp.le (by decide)).pp,(hp.le (m:=2) (by decide)).ok,(hp.le (m:=2) (by decide)).dr,hh.few⟩
  have hend:∀{ws:List Wk},sf 2 ws->(By 2 h ws).length<=6/\1<=(By 2 h ws).length:=by
   intro ws hd
   unfold By
   have hne:h≠[]:=λe=>by have:=hH.pos; rw [e]at this; cases this
   cases er:kg 2 h ws with
   | ok h' f' =>
    refine⟨yJ hH.few er,?_⟩
    have:=Jl hd hne er
    exact Nat.pos_of_ne_zero λz=>this (List.eq_nil_of_length_eq_zero z)
   | no a s=>exact⟨hH.few,hH.pos⟩
  refine bX ⟨_,rfl,_,rfl,_,rfl,b,u1,h,Kc,rfl,QH H_ hp1,by decide,Bl,λv1 H5 s5 hv1=>?_⟩
  have g5:=bo.same A3.cf s5
  have k5:=aE.of s5
  obtain⟨z1,z2⟩:=hend (hp1.le (m:=2) (by decide)).dr
  refine⟨p,v1,_,rfl,g5.cf,⟨hv1,z2,z1⟩,λc1 H6 g6 Rn Um=>?_⟩
  have Kw:=g5.trans g6
  have rm:=aE.grow A3.cf Kw
  have RS:=H_.grow A3.cf Kw
  refine⟨_,rfl,_,rfl,_,rfl,b,u2,h,Nq,rfl,QH RS (hp2.keep rm),by decide,Bl,λv2 H7 s7 hv2=>?_⟩
  have Qf:=bo.same Kw.cf s7
  obtain⟨z3,z4⟩:=hend (hp2.le (m:=2) (by decide)).dr
  refine⟨p,v2,_,rfl,Qf.cf,⟨hv2,z4,z3⟩,λc2 H8 g8 RJ Uc=>⟨_,rfl,_,rfl,tN,λu hu'=>?_⟩⟩
  have Kq:=(Kw.trans Qf).trans g8
  have sU:=aj hu' (.tup [.str "meet",.int c1,.int c2,.ref u1,.ref u2])
  have KA:=(aE.grow A3.cf Kq).trans (aE.of sU)
  have q1:=(hp1.keep KA).le (m:=d-1) (Nat.zero_le _)
  have q2:=(hp2.keep KA).le (m:=d-1) (Nat.zero_le _)
  obtain⟨d',rfl⟩ :∃d',d=d'+1:=⟨d-1,by omega⟩
  obtain⟨Fy,hb1⟩:=q1.pp
  obtain⟨Tf,hb2⟩:=q2.pp
  refine q u (.meet c1 c2 Kc Nq) _ ((A3.trans Kq).new hu') ⟨⟨u1,u2,Fy,Tf,ag,hb1,hb2⟩,⟨trivial,trivial,trivial,λp hp=>?_⟩,trivial,⟨Rn,RJ⟩,λp hp=>?_⟩
  ·simp only [dJ,List.mem_cons,List.not_mem_nil,or_false]at hp
   rcases hp with rfl | rfl <;> omega
  ·simp only [dJ,List.mem_cons,List.not_mem_nil,or_false]at hp
   rcases hp with rfl | rfl
   ·exact⟨q1.ok,q1.dr⟩
   ·exact⟨q2.ok,q2.dr⟩
 ·rw [if_neg z]at hp1 hp2
  rw [UA z]
  refine bA (aG ?_)
  dsimp only
  obtain⟨d',rfl⟩ :∃d',d=d'+1:=⟨d-1,by omega⟩
  have hp1:bN d' H4 u1 Kc:=hp1
  have hp2:bN d' H4 u2 Nq:=hp2
  have fin:∀(σ:St) (u3:Addr) (Nu:List Wk) (H9:Hp),σ[5]? = some (some (.ref u1))->σ[6]? = some (some (.ref u3))->bo p H4 H9->bN d' H9 u3 Nu->Nu.length<=9->Bn (FT (bp (tC (.str "both")) (bp (bx 5) (bp (bx 6) fD)))) {nx:=λ_ H'=>Q .non H',rt:=Q} σ H9:=by
   intro σ u3 Nu H9 e5 e6 g9 hp3 hl3
   refine⟨_,e5,_,e6,gw,λu hu'=>?_⟩
   have sU:=aj hu' (.tup [.str "both",.ref u1,.ref u3])
   have q1:=hp1.keep ((aE.grow A3.cf g9).trans (aE.of sU))
   have q3:=hp3.keep (aE.of sU)
   obtain⟨Fy,hb1⟩:=q1.pp
   obtain⟨RV,hb3⟩:=q3.pp
   refine q u (.both Kc Nu) _ ((A3.trans g9).new hu') ⟨⟨u1,u3,Fy,RV,ag,hb1,hb3⟩,⟨trivial,trivial,trivial,λp hp=>?_⟩,trivial,trivial,λp hp=>?_⟩
   ·simp only [dJ,List.mem_cons,List.not_mem_nil,or_false]at hp
    rcases hp with rfl | rfl <;> omega
   ·simp only [dJ,List.mem_cons,List.not_mem_nil,or_false]at hp
    rcases hp with rfl | rfl
    ·exact⟨q1.ok,q1.dr⟩
    ·exact⟨q3.ok,q3.dr⟩
  refine⟨_,rfl,p,_,rfl,A3.cf,by decide,by decide,λe5 H5 g5 a5 b5=>⟨_,_,rfl,rfl,_,rfl,cI (λy=>?_) (λy=>aG ?_)⟩⟩
  ·have RF:=H_.grow A3.cf g5
   obtain⟨s0,r0,hs0⟩ :∃s0 r0,h=s0::r0:=by
    cases h with
    | nil=>have:=hH.pos; cases this
    | cons s0 r0=>exact⟨s0,r0,rfl⟩
   refine⟨_,rfl,_,rfl,b,_,0,.str s0,rfl,rfl,aH.of RF.tup,by rw [hs0]; exact av (j:=0) rfl,p,s0,rfl,g5.cf,λsa t xs H6 g6 RD=>⟨gw,λk1 hk1=>⟨dQ,λk2 hk2=>?_⟩⟩⟩
   have s1:=aj hk1 (.tup [.str "keep",.int 1,.ref sa])
   have s2:=aj hk2 (.tup [.ref k1])
   have Nz:=g5.trans g6
   have gk:=(Nz.trans (bo.same Nz.cf (s1.trans s2)))
   have ek2:upd (upd H6 k1 (.tup [.str "keep",.int 1,.ref sa])) k2 (.tup [.ref k1]) k2=some (.tup [.ref k1]):=ag
   have ek1:jS (upd (upd H6 k1 (.tup [.str "keep",.int 1,.ref sa])) k2 (.tup [.ref k1])) k1 (.keep 1 t):=⟨sa,xs,s2 _ _ ag,s2 _ _ (s1 _ _ RD)⟩
   revert gk ek2 ek1
   generalize upd (upd H6 k1 (.tup [.str "keep",.int 1,.ref sa])) k2 (.tup [.ref k1])=Hk
   intro gk ek2 ek1
   refine⟨_,rfl,p,_,rfl,gk.cf,by decide,by decide,λe7 H7 g7 a7 b7=>?_⟩
   have Jq:=gk.trans g7
   have k7:=aE.grow gk.cf g7
   have Gw:=hp1.keep (aE.grow A3.cf Jq)
   obtain⟨Fy,hb1⟩:=Gw.pp
   have hz1:(Fy.map V.ref).length<=3:=by rw [UC,hb1.len]; exact hl1
   refine⟨k2,e7,_,rfl,rfl,aH.of (k7 _ _ ek2),by simp,?_⟩
   have hc:e7=0\/e7=1:=by omega
   rcases hc with rfl | rfl
   ·refine .inl ⟨rfl,λt0 ht0=>?_⟩
    have s8:=aj ht0 (.tup [])
    refine⟨_,rfl,t0,u1,_,_,rfl,rfl,ag,s8 _ _ hb1.tup,by show 0+_<=_; exact Uz (show 0+(Fy.map V.ref).length<=10 by omega) (by decide),λu3 H9 s9 v7=>ak ?_⟩
    have QO:=s8.trans s9
    have k9:=aE.of QO
    refine fin _ u3 Kc H9 rfl rfl (Jq.trans (bo.same Jq.cf QO)) ⟨⟨Fy,v7,hb1.len,λi a x e1 e2=>(hb1.at_ i a x e1 e2).keep k9⟩,Gw.ok,Gw.dr⟩ (by omega)
   ·refine .inr ⟨rfl,⟨_,rfl,k2,u1,_,_,rfl,rfl,k7 _ _ ek2,hb1.tup,by show 1+_<=_; exact Uz (show 1+(Fy.map V.ref).length<=10 by omega) (by decide),λu3 H9 s9 v7=>ak ?_⟩⟩
    have k9:=aE.of s9
    have hI9:bO (dk d') H9 u1 Fy Kc:=hb1.keep k9 λ_ _ z=>z.keep k9
    have hw:nQ d' H9 k1 (.one (.keep 1 t)):=D_.all (ek1.keep (k7.trans k9)) ⟨trivial,trivial,trivial,λc hc=>by rw [List.mem_singleton.mp hc]; exact Int.le_refl _⟩
    refine fin _ u3 (.one (.keep 1 t)::Kc) H9 rfl rfl (Jq.trans (bo.same Jq.cf s9)) (bN.cons hI9 Gw.ok Gw.dr hw (by omega) v7) (by rw [List.length_cons]; omega)
  ·exact fin _ u2 Nq H5 rfl rfl g5 (hp2.keep (aE.grow A3.cf g5)) (by omega)
def ip:List Str:=["keep","same","cut","turn","must","walk","sort","apart","count","sum","number","first"]
theorem BW{s:Str}(h:s∈ip):(Ik s/\inV (.str s) mL=true)\/(Dg s/\inV (.str s) mL=false/\inV (.str s) BP=false):=by
 simp only [ip,List.mem_cons,List.not_mem_nil,or_false]at h
 rcases h with rfl | rfl | rfl | rfl | rfl | rfl | rfl | rfl | rfl | rfl | rfl | rfl
 ·exact .inl ⟨.inl rfl,by decide +kernel⟩
 ·exact .inl ⟨.inr (.inl rfl),by decide +kernel⟩
 ·exact .inl ⟨.inr (.inr (.inl rfl)),by decide +kernel⟩
 ·exact .inl ⟨.inr (.inr (.inr (.inl rfl))),by decide +kernel⟩
 ·exact .inl ⟨.inr (.inr (.inr (.inr rfl))),by decide +kernel⟩
 ·exact .inr ⟨.inl rfl,by decide +kernel,by decide +kernel⟩
 ·exact .inr ⟨.inr (.inl rfl),by decide +kernel,by decide +kernel⟩
 ·exact .inr ⟨.inr (.inr (.inl rfl)),by decide +kernel,by decide +kernel⟩
 ·exact .inr ⟨.inr (.inr (.inr (.inl rfl))),by decide +kernel,by decide +kernel⟩
 ·exact .inr ⟨.inr (.inr (.inr (.inr (.inl rfl)))),by decide +kernel,by decide +kernel⟩
 ·exact .inr ⟨.inr (.inr (.inr (.inr (.inr (.inl rfl))))),by decide +kernel,by decide +kernel⟩
 ·exact .inr ⟨.inr (.inr (.inr (.inr (.inr (.inr rfl))))),by decide +kernel,by decide +kernel⟩
theorem Iw{s:Str}(h:s="both"\/s="meet"):inV (.str s) mL=false/\inV (.str s) BP=true:=by
 rcases h with rfl | rfl <;> exact⟨by decide +kernel,by decide +kernel⟩
theorem cZ.same{K:PySem.W.Frag}{a:Addr}{H H1:Hp}{hs:List Str}(h:cZ K H a hs)(s:aM H H1):cZ K H1 a hs:=⟨s _ _ h.tup,h.pos,h.few⟩
theorem BS{x:V}{xs:List V}{P Q:Prop}(e:inV x xs=true)(h:P):if(if false=true then !inV x xs else inV x xs)=true then P else Q:=by
 rw [if_neg UM,e]
 exact h
theorem sS{x:V}{xs:List V}{P Q:Prop}(e:inV x xs=false)(h:Q):if(if false=true then !inV x xs else inV x xs)=true then P else Q:=by
 rw [if_neg UM,e]
 exact h
abbrev gK:Stmt:=top 80
theorem eQ:az ["_law_pot_here","_law_head","_law_deep","_law_simple","_law_words","_law_word_here"] ["_law_pot_here","_law_head","_law_deep","_law_simple"] (ar gK):=fs
theorem pd{N L:Nat}(h5:5<=L)(B:jV mg)(B2:iK mg)(F:FA K mg "_law_worker" gK)
  (bu:bf bc P w K mg base 1 "_law_draw" ["_law_pot_here","_law_many_here"] dn)
  (om:bf bc P w K mg base 5 "_law_one_row" ["_law_pot_here","_law_head","_law_word_here"] (m_ K Ik))
  (pB:bf bc P w K mg base L "_law_joining" ["_law_pot_here","_law_head","_law_deep","_law_word_here"] (zd K N))
  (rY:bf bc P w K mg base 5 "_law_other" ["_law_pot_here","_law_head","_law_word_here"] (m_ K Dg)) :
  bf bc P w K mg base (L+1) "_law_worker" ["_law_pot_here","_law_head","_law_deep","_law_simple"] (yU K N):=by
 refine F.ok eQ λf cdv A outer s H vs Q E hr h=>?_
 obtain⟨p,b,h,d,si,rfl,hP,hH,ND,q⟩:=h
 refine MN (Iu (i:=4) eQ.nd rfl (Or.inl rfl) (Jn (dZ ⟨ao⟩ (dZ ⟨ao⟩ (dZ ⟨ao⟩ (dZ ⟨ao⟩ (dZ ⟨ao⟩ (dZ ⟨ao⟩ (dZ ⟨ao⟩ (dZ ⟨ao⟩ (dZ ⟨ao⟩ (dZ ⟨ao⟩ (dZ ⟨ao⟩ (dZ ⟨ao⟩ Io)))))))))))))
  ⟨(aq (aL (i:=4) eQ.nd rfl (Or.inl rfl) (aF pA (cz (r:=MW K) FU (pv 4) dz (cB (bj K (aQ (ae ai (ae ai ah))) (aV cA rfl B2.int PyProof.Rows.boot_int (ae (pv 3) ah))))) (aF xA (aQ (ae ao (ae ao ah))) (aV cA rfl B2.int PyProof.Rows.boot_int (ae (bU ik (pv 2) ai) ah)))))
   (aq (aL (i:=5) eQ.nd rfl (Or.inl rfl) (bj K (pv 4) (ay bu hr (ae (pv 0) (ae (a_ bE rfl B.len PySem.boot_len (ae (pv 4) ah)) ah)))))
   (aN (de cq (pv 5) (aQ (ae ao (ae ao (ae ao (ae ao (ae ao ah)))))) rfl) (ay om hr (ae (pv 0) (ae (pv 1) (ae (pv 5) ah))))
   (aN (de cq (pv 5) (aQ (ae ao (ae ao ah))) rfl) (ay pB hr (ae (pv 0) (ae (pv 1) (ae (pv 2) (ae (pv 5) ah)))))
   (ax (ay rY hr (ae (pv 0) (ae (pv 1) (ae (pv 5) ah)))))))))⟩) ?_
 refine⟨Ll,λW hW=>ak ?_⟩
 have g0:=(bo.refl hP).new (o:=.lst [V.str "keep",.str "same",.str "cut",.str "turn",.str "must",.str "walk",.str "sort",.str "apart",.str "count",.str "sum",.str "number",.str "first"]) hW
 have nW:=(bo.refl hP).ne hW
 have hW0:upd H W (.lst [V.str "keep",.str "same",.str "cut",.str "turn",.str "must",.str "walk",.str "sort",.str "apart",.str "count",.str "sum",.str "number",.str "first"]) W=some (.lst [V.str "keep",.str "same",.str "cut",.str "turn",.str "must",.str "walk",.str "sort",.str "apart",.str "count",.str "sum",.str "number",.str "first"]):=ag
 revert g0 hW0
 generalize upd H W (.lst [V.str "keep",.str "same",.str "cut",.str "turn",.str "must",.str "walk",.str "sort",.str "apart",.str "count",.str "sum",.str "number",.str "first"])=H0
 intro g0 hW0
 dsimp only
 have RH:H0 W=some (.lst (ip.map V.str)):=hW0
 clear hW0
 have kk:∃k:Nat,k<=12/\1<=k/\ja [V.int 12,.int 5] (if si then 1 else 0)=some (.int k):=by
  cases si
  ·exact⟨12,by decide,by decide,rfl⟩
  ·exact⟨5,by decide,by decide,rfl⟩
 obtain⟨k,k12,k1,ek⟩:=kk
 refine⟨_,rfl,cM,λR hR=>⟨_,rfl,.inr ⟨_,rfl,R,_,_,_,rfl,rfl,aZ.of ag,ek,_,rfl,W,_,rfl,aZ.of ((aj hR _) _ _ RH),λS hS=>⟨cM,λB1 Nf=>?_⟩⟩⟩⟩
 have O8:gj (ip.map V.str) none (some (k:Int))=(ip.take k).map V.str:=by
  rw [wA (by rw [UC]; exact k12),List.map_take]
 rw [O8]at Nf⊢
 have gR:=g0.new (o:=.lst [V.int 12,.int 5]) hR
 have gS:=gR.new (o:=.lst ((ip.take k).map V.str)) hS
 have QV:=aj Nf (.lst [V.str "both",.str "meet"])
 have Pw:=gS.new (o:=.lst [V.str "both",.str "meet"]) Nf
 have eS:=QV _ _ (ag (H:=upd H0 R (.lst [V.int 12,.int 5])) (a:=S) (o:=.lst ((ip.take k).map V.str)))
 have eB:upd (upd (upd H0 R (.lst [V.int 12,.int 5])) S (.lst ((ip.take k).map V.str))) B1 (.lst [V.str "both",.str "meet"]) B1=some (.lst [V.str "both",.str "meet"]):=ag
 revert Pw eS eB
 generalize upd (upd (upd H0 R (.lst [V.int 12,.int 5])) S (.lst ((ip.take k).map V.str))) B1 (.lst [V.str "both",.str "meet"])=H1
 intro Pw eS eB
 clear gS gR QV Nf hS hR
 have rr:∃e:Int,(if decide ((0:Int)<(d:Int))=true then(1:Int)else 0)=e/\((e=0/\(List.replicate e.toNat [V.str "both",.str "meet"]).flatten=([]:List Str).map V.str)\/(e=1/\1<=d/\(List.replicate e.toNat [V.str "both",.str "meet"]).flatten=([("both" : Str),"meet"]).map V.str)):=by
  by_cases z:(0:Int)<(d:Int)
  ·rw [UB z]; exact⟨1,rfl,.inr ⟨rfl,by omega,rfl⟩⟩
  ·rw [UA z]; exact⟨0,rfl,.inl ⟨rfl,rfl⟩⟩
 obtain⟨e,e1,e2⟩:=rr
 have e3:∃ms:List Str,(List.replicate e.toNat [V.str "both",.str "meet"]).flatten=ms.map V.str/\ms.length<=2/\∀s∈ms,1<=d/\(s="both"\/s="meet"):=by
  rcases e2 with⟨_,h⟩ | ⟨_,h1,h⟩
  ·exact⟨[],h,by decide,λs hs=>by cases hs⟩
  ·exact⟨["both","meet"],h,by decide,λs hs=>⟨h1,by simpa using hs⟩⟩
 obtain⟨ms,em,lm,pm⟩:=e3
 have T9:e=0\/e=1:=by rcases e2 with⟨h,_⟩ | ⟨h,_⟩; exact .inl h; exact .inr h
 refine⟨_,rfl,_,_,rfl,rfl,.inr ⟨_,rfl,B1,_,_,rfl,rfl,eB,?_⟩⟩
 rw [e1]
 have ez:[V.str "both",V.str "meet"].length*e.toNat<=sizeLine:=by
  have:e.toNat<=1:=by omega
  exact Uz (Nat.mul_le_mul_left 2 this) (by decide)
 refine⟨by omega,by omega,ez,λB2 hB2=>?_⟩
 rw [em]
 have QN:=Pw.new (o:=.lst (ms.map V.str)) hB2
 have Rt:=aj hB2 (.lst (ms.map V.str))
 have lk:(ip.take k).length<=12:=by rw [List.length_take]; exact Uz (Nat.min_le_left _ _) k12
 refine⟨S,B2,_,_,rfl,rfl,Rt _ _ eS,ag,?_,λC hC=>ak ?_⟩
 ·rw [UC,UC]
  exact Uz (show _<=14 by omega) (by decide)
 rw [←UE]
 have gC:=QN.new (o:=.lst ((ip.take k++ms).map V.str)) hC
 have eC:upd (upd H1 B2 (.lst (ms.map V.str))) C (.lst ((ip.take k++ms).map V.str)) C=some (.lst ((ip.take k++ms).map V.str)):=ag
 revert gC eC
 generalize upd (upd H1 B2 (.lst (ms.map V.str))) C (.lst ((ip.take k++ms).map V.str))=H2
 intro gC eC
 dsimp only
 have ln:(ip.take k++ms).length<=14/\1<=(ip.take k++ms).length:=by
  rw [UD]
  have:1<=(ip.take k).length:=by rw [List.length_take]; exact Nat.le_min.mpr ⟨k1,by decide⟩
  omega
 have cls:∀s∈ip.take k++ms,s∈ip\/(1<=d/\(s="both"\/s="meet")):=by
  intro s hs
  rcases List.mem_append.mp hs with z | z
  ·exact .inl (List.mem_of_mem_take z)
  ·exact .inr (pm s z)
 revert eC
 generalize ip.take k++ms=ns at ln cls
 intro eC
 refine⟨_,rfl,_,rfl,_,rfl,C,_,rfl,.inl (aZ.of eC),p,_,rfl,gC.cf,?_,?_,λe H3 g3 a3 b3=>?_⟩
 ·rw [UC]; omega
 ·rw [UC]; exact qV (by omega) (by omega)
 rw [UC]at b3
 have Ko:=gC.trans g3
 have nC:=QN.ne hC
 obtain⟨j,rfl⟩ :∃j:Nat,e=j:=⟨e.toNat,by omega⟩
 have hi:j<ns.length:=by omega
 obtain⟨wd,QW⟩ :∃wd,ns[j]? = some wd:=⟨_,UI hi⟩
 have hc:=cls wd (UK QW)
 refine⟨C,_,_,.str wd,rfl,rfl,aZ.of (g3.keep C _ nC eC),av (by rw [List.getElem?_map,QW]; rfl),ak ?_⟩
 dsimp only
 have Jd:=hH.grow hP Ko
 refine⟨_,rfl,tN,λD1 hD1=>⟨D1,mL,rfl,.inl (aZ.of ag),rfl,rfl,_,rfl,?_⟩⟩
 have g4:=Ko.new (o:=.lst mL) hD1
 have H_:=Jd.same (aj hD1 (.lst mL))
 rcases hc with hc | ⟨hd1,hc⟩
 ·rcases BW hc with⟨c1,c2⟩ | ⟨c1,c2,c3⟩
  ·refine BS c2 ⟨_,rfl,_,rfl,_,rfl,p,b,h,wd,rfl,g4.cf,H_,c1,λt x H' g' hx hdr _=>q t (.one x) H' (g4.trans g') (D_.all hx hdr)⟩
  ·refine sS c2 (aG ?_)
   dsimp only
   refine⟨_,rfl,cM,λD2 hD2=>⟨D2,BP,rfl,.inl (aZ.of ag),rfl,rfl,_,rfl,sS c3 (aG ⟨_,rfl,_,rfl,_,rfl,p,b,h,wd,rfl,?_,H_.same (aj hD2 _),c1,λt x H' g' hx hdr _=>q t (.one x) H' ((g4.new hD2).trans g') (D_.all hx hdr)⟩)⟩⟩
   exact(g4.new hD2).cf
 ·obtain⟨c2,c3⟩:=Iw hc
  refine sS c2 (aG ?_)
  dsimp only
  refine⟨_,rfl,cM,λD2 hD2=>⟨D2,BP,rfl,.inl (aZ.of ag),rfl,rfl,_,rfl,BS c3 ⟨_,rfl,_,rfl,_,rfl,_,rfl,p,b,h,d,wd,rfl,?_,H_.same (aj hD2 _),hd1,ND,hc,λt x H' g' hx=>q t x H' ((g4.new hD2).trans g') hx⟩⟩⟩
  exact(g4.new hD2).cf
theorem Ds{h:Hd}{ws:List Wk}{h':Hd}{f':Fl}{n:Nat}(h6:h.length<=6)(h1:1<=h.length)(hd:sf n ws)(er:kg n h ws=.ok h' f'):1<=h'.length/\h'.length<=6:=by
 have hne:h≠[]:=λe=>by rw [e]at h1; cases h1
 have:=Jl hd hne er
 exact⟨Nat.pos_of_ne_zero λz=>this (List.eq_nil_of_length_eq_zero z),yJ h6 er⟩
abbrev gy:Stmt:=top 81
theorem cH:az ["_law_pot_here","_law_head","_law_deep","_law_many_here","_law_simple","_law_pipe_here","_law_here","_law_k","_law_longer","_law_tale"] ["_law_pot_here","_law_head","_law_deep","_law_many_here","_law_simple"] (ar gy):=fs
theorem oE{N L Lj:Nat}(hN:N<=2)(h5:5<=L)(Uq:Lj<=L)(B:jV mg)(B2:iK mg)(F:FA K mg "_law_pipe" gy)
  (qG:bf bc P w K mg base L "_law_worker" ["_law_pot_here","_law_head","_law_deep","_law_simple"] (yU K N))
  (dU:bf bc P w K mg base Lj "_law_judged" ["_law_head","_law_pipe_here"] (yE 2))
  (bu:bf bc P w K mg base 1 "_law_draw" ["_law_pot_here","_law_many_here"] dn) :
  bf bc P w K mg base (L+1) "_law_pipe" ["_law_pot_here","_law_head","_law_deep","_law_many_here","_law_simple"] (kS K (N+1)):=by
 refine F.ok cH λf cdv A outer s H vs Q E hr h=>?_
 obtain⟨p,b,h,d,m,si,rfl,hP,hH,ND,hm,q⟩:=h
 refine⟨_,(aq (aL (i:=5) cH.nd rfl (Or.inl rfl) (aJ ah))
   (aq (aL (i:=6) cH.nd rfl (Or.inl rfl) (pv 1))
   (aq (hX PassesOwn.never rfl (dm rfl B.range (ae (pv 3) ah)) (bS (i:=7) cH.nd rfl (Or.inl rfl))
    (aq (aL (i:=8) cH.nd rfl (Or.inl rfl) (aF cb (pv 5) (aJ (ae (ay qG hr (ae (pv 0) (ae (pv 6) (ae (pv 2) (ae (pv 4) ah))))) ah))))
     (aq (aL (i:=9) cH.nd rfl (Or.inl rfl) (ay dU hr (ae (pv 1) (ae (pv 8) ah))))
     (bK (dy (PW.pt (CI (aW aP (aA K (pv 9) ai) ao) (CD (aW aP (ay bu hr (ae (pv 0) (ae ai ah))) ai))))
      (aq (aL (i:=5) cH.nd rfl (Or.inl rfl) (pv 8))
       (bK (aL (i:=6) cH.nd rfl (Or.inl rfl) (aA K (aF cb (aF vq (cz c_ (pv 9) (cB ai) (cB ai)) (aV cA rfl B2.int PyProof.Rows.boot_int (ae (bU aP (aA K (pv 9) ai) ao) ah))) (aJ (ae (pv 6) ah))) ai))))
      b9)))))
   (ax (pv 5))))),?_⟩
 refine⟨xg,λu0 hu0=>ak ⟨_,rfl,ak ?_⟩⟩
 have s0:=aj hu0 (.tup [])
 have g0:=bo.same hP s0
 have e0:upd H u0 (.tup []) u0=some (.tup []):=ag
 revert s0 g0 e0
 generalize upd H u0 (.tup [])=H0
 intro s0 g0 e0
 dsimp only
 refine⟨_,rfl,m,rfl,by omega,by omega,?_⟩
 have p0:bN d H0 u0 []:=by
  refine⟨⟨[],e0,rfl,λi a x e1 e2=>by cases e1⟩,?_,?_⟩
  ·cases d <;> exact⟨by decide,λx hx=>by cases hx⟩
  ·cases d <;> exact λx hx=>by cases hx
 refine fL (n:=m) (λi σ H'=>∃(u bh:Addr) (ws:List Wk) (hh:Hd),(∃o7 o8 o9,σ=[some (.ref p),some (.ref b),some (.int d),some (.int m),some (.bl si),some (.ref u),some (.ref bh),o7,o8,o9])/\bo p H H'/\bN d H' u ws/\ws.length<=i/\cZ K H' bh hh)
  ⟨u0,b,[],h,⟨none,none,none,rfl⟩,g0,p0,Uy _,hH.same s0⟩ ?_ ?_
 ·rintro i σ H' hi ⟨u,bh,ws,hh,⟨o7,o8,o9,rfl⟩,g,hp,hl,Oq⟩
  refine ak ⟨_,rfl,_,rfl,_,rfl,_,rfl,_,rfl,p,bh,hh,d,si,rfl,g.cf,Oq,ND,λwa x H1 g1 hx=>⟨dQ,λt1 ht1=>?_⟩⟩
  have k1:=aE.grow g.cf g1
  have hp1:=hp.keep k1
  obtain⟨bs,hb⟩:=hp1.pp
  have sT:=aj ht1 (.tup [.ref wa])
  refine⟨u,t1,_,_,rfl,rfl,sT _ _ hb.tup,ag,?_,λv H2 s2 hv=>ak ?_⟩
  ·rw [UC,hb.len]
   exact Uz (show ws.length+1<=20 by omega) (by decide)
  have s12:=sT.trans s2
  have EL:=(g.trans g1)
  have g2:=EL.trans (bo.same EL.cf s12)
  have k2:=aE.of s12
  have hb2:bO (dk d) H2 u bs ws:=hb.keep k2 λ_ _ z=>z.keep k2
  have hx2:nQ d H2 wa x:=⟨hx.wk.keep k2,hx.ok,hx.dr,hx.pm,hx.br⟩
  have hp2:bN d H2 v (ws++[x]):=bN.snoc hb2 hp1.ok hp1.dr hx2 (by omega) (by rw [hv,UE]; rfl)
  have hH2:=hH.grow hP g2
  have TM:=Oq.grow g.cf (g1.trans (bo.same EL.cf s12))
  have NU:=s12
  clear hb2 hx2 k2 s12 sT hb hp1 k1
  dsimp only
  have hq2:=hp2.le (m:=2) (by omega)
  refine⟨_,rfl,_,rfl,b,v,h,ws++[x],rfl,⟨hH2.tup,hq2.pp,hq2.ok,hq2.dr,hH2.few⟩,by decide,Bl,λt3 H3 s3 hR=>ak ?_⟩
  have g3:=g2.trans (bo.same g2.cf s3)
  have hp3:=hp2.keep (aE.of s3)
  have hh3:=TM.same s3
  have hl3:(ws++[x]).length<=i+1:=by rw [UD]; exact Nat.succ_le_succ hl
  dsimp only
  cases er:kg 2 h (ws++[x])with
  | ok h' f' =>
   rw [er]at hR
   obtain⟨a1,a2,r1,r2,r3⟩:=hR
   refine⟨_,rfl,t3,_,0,_,rfl,rfl,aH.of r1,av (j:=0) rfl,rfl,_,rfl,?_⟩
   rw [bM,UB rfl]
   refine bX (bX ⟨_,rfl,ak ⟨_,rfl,_,rfl,_,rfl,t3,_,rfl,r1,λt4 H4 s4 A8=>⟨_,rfl,t3,_,0,_,rfl,rfl,aH.of (s4 _ _ r1),av (j:=0) rfl,rfl,.inr ⟨_,rfl,t4,1,[.ref a1],rfl,?_⟩⟩⟩⟩)
   refine⟨by rw [bM,UB rfl]; rfl,aH.of A8,by simp,.inr ⟨rfl,_,rfl,dQ,λt5 OC=>?_⟩⟩
   have s5:=aj OC (.tup [.ref bh])
   refine⟨t4,t5,_,_,rfl,rfl,s5 _ _ A8,ag,cM,λt6 H6 s6 Hg=>⟨t6,_,0,.ref a1,rfl,rfl,aH.of Hg,rfl,ak ?_⟩⟩
   have Ih:=(s4.trans s5).trans s6
   obtain⟨z1,z2⟩:=Ds hH2.few hH2.pos hq2.dr er
   exact⟨v,a1,ws++[x],h',⟨_,_,_,rfl⟩,g3.trans (bo.same g3.cf Ih),hp3.keep (aE.of Ih),hl3,⟨Ih _ _ r2,z1,z2⟩⟩
  | no pl sl =>
   rw [er]at hR
   obtain⟨a1,r1,r2⟩:=hR
   refine⟨_,rfl,t3,_,0,_,rfl,rfl,aH.of r1,av (j:=0) rfl,rfl,_,rfl,?_⟩
   rw [bM,UA (by decide +kernel)]
   refine bA ⟨_,rfl,p,_,rfl,g3.cf,by decide,by decide,λe4 H4 g4 a4 b4=>⟨rfl,_,rfl,?_⟩⟩
   have KL:=g3.trans g4
   have k4:=aE.grow g3.cf g4
   have r1:=k4 _ _ r1
   have SS:=hp3.keep k4
   have Q1:=hh3.grow g3.cf g4
   refine cI (λ_=>⟨_,rfl,ak ⟨_,rfl,_,rfl,_,rfl,t3,_,rfl,r1,λt4 H4 s4 A8=>⟨_,rfl,t3,_,0,_,rfl,rfl,aH.of (s4 _ _ r1),av (j:=0) rfl,rfl,.inr ⟨_,rfl,t4,0,[.ref a1],rfl,?_⟩⟩⟩⟩) (λ_=>aG ?_)
   ·refine⟨by rw [bM,UA (by decide +kernel)]; rfl,aH.of A8,by simp,.inl ⟨rfl,λt7 KD=>⟨_,rfl,dQ,λt5 OC=>?_⟩⟩⟩
    have s7:=aj KD (.tup [])
    have s5:=aj OC (.tup [.ref bh])
    refine⟨t7,t5,_,_,rfl,rfl,s5 _ _ ag,ag,dQ,λt6 H6 s6 Hg=>⟨t6,_,0,.ref bh,rfl,rfl,aH.of Hg,rfl,ak ?_⟩⟩
    have Ih:=((s4.trans s7).trans s5).trans s6
    exact⟨v,bh,ws++[x],hh,⟨_,_,_,rfl⟩,KL.trans (bo.same KL.cf Ih),SS.keep (aE.of Ih),hl3,Q1.same Ih⟩
   ·exact⟨u,bh,ws,hh,⟨_,_,_,rfl⟩,KL,(hp.keep (aE.grow g.cf (g1.trans (bo.same EL.cf (NU.trans s3))))).keep k4,Nat.le_succ_of_le hl,Q1⟩
 ·rintro σ H' ⟨u,bh,ws,hh,⟨o7,o8,o9,rfl⟩,g,hp,hl,Oq⟩
  exact⟨_,rfl,q u ws H' g hp hl⟩
theorem LP{vs:List V}{b c:V}:ja (vs++[b,c]) (-2)=some b:=by
 unfold ja
 have:v5 (vs++[b,c]).length (-2)=some vs.length:=by
  unfold v5
  rw [UD]
  simp
  omega
 rw [this]
 show(vs++[b,c])[vs.length]? = _
 rw [List.getElem?_append_right (Uy _),Nat.sub_self]
 rfl
theorem Mb{vs:List V}{b c:V}:ja (vs++[b,c]) (-1)=some c:=by
 unfold ja
 have:v5 (vs++[b,c]).length (-1)=some (vs.length+1):=by
  unfold v5
  rw [UD]
  simp
  omega
 rw [this]
 show(vs++[b,c])[vs.length+1]? = _
 rw [List.getElem?_append_right (Nat.le_succ _),Nat.succ_sub (Uy _),Nat.sub_self]
 rfl
def m4:Nat->Sp
 | 0=>λ_ _ _ _=>False
 | n+1=>λvs H Q _=>∃(p:Addr) (ws:List Wk),vs=[.ref p]/\jA n H p ws/\∀(c:Int) (H':Hp),aM H H'->(ws=[]->c=0)->Q (.int c) H'
abbrev gx:Stmt:=top 82
theorem dH:az ["_law_pipe_here","_law_many_here","_law_worker_here"] ["_law_pipe_here"] (ar gx):=fs
theorem pY{n L:Nat}(F:FA K mg "_law_many" gx)
  (gz:bf bc P w K mg base L "_law_many" ["_law_pipe_here"] (m4 n)) :
  bf bc P w K mg base (L+1) "_law_many" ["_law_pipe_here"] (m4 (n+1)):=by
 refine F.ok dH λf cdv A outer s H vs Q E hr h=>?_
 obtain⟨p,ws,rfl,hp,q⟩:=h
 refine⟨_,(aq (aL (i:=1) dH.nd rfl (Or.inl rfl) ai)
   (aq (hX PassesOwn.never rfl (cJ (pv 0)) (bS (i:=2) dH.nd rfl (Or.inl rfl))
    (aq (aL (i:=1) dH.nd rfl (Or.inl rfl) (aF cX (pv 1) ai))
     (bK (dy (de cq (aA K (pv 2) ai) (aQ (ae ao (ae ao ah))) rfl)
      (bK (aL (i:=1) dH.nd rfl (Or.inl rfl) (aF cX (aF cX (pv 1) (ay gz hr (ae (aA K (pv 2) (rH lL ai)) ah))) (ay gz hr (ae (aA K (pv 2) (rH lL ai)) ah)))))
      b9))))
   (ax (pv 1)))),?_⟩
 obtain⟨bs,hb⟩:=hp
 refine ak ⟨_,rfl,p,rfl,⟨_,aH.of hb.tup⟩,?_⟩
 refine FC (xs:=bs.map V.ref) (λi σ H'=>∃c:Int,(∃o2,σ=[some (.ref p),some (.int c),o2])/\aM H H'/\(i=0->c=0)) ?_ ?_ ?_ ?_
 ·exact⟨0,⟨none,rfl⟩,aM.refl _,λ_=>rfl⟩
 ·rintro i σ H' _ ⟨c,_,s,_⟩
  exact aH.of (s _ _ hb.tup)
 ·rintro i v σ H' hv ⟨c,⟨o2,rfl⟩,s,_⟩
  obtain⟨a,x,rfl,ex,hx⟩:=hb.get hv
  refine ak ⟨_,rfl,_,_,rfl,rfl,ak ?_⟩
  dsimp only
  have hx1:=hx.keep (aE.of s)
  obtain⟨xs,hxs⟩:=hx1.first
  refine⟨_,rfl,a,_,0,_,rfl,rfl,aH.of hxs,av (j:=0) rfl,cM,λR hR=>⟨R,BP,rfl,.inl (aZ.of ag),rfl,rfl,_,rfl,?_⟩⟩
  have sR:=s.trans (aj hR (.lst [V.str "both",.str "meet"]))
  revert sR
  generalize upd H' R (.lst [V.str "both",.str "meet"])=H1
  intro sR
  cases hbr:bY x with
  | false=>exact sS (ze.trans hbr) (aG ⟨_,⟨_,rfl⟩,sR,λz=>by cases z⟩)
  | true =>
   refine BS (ze.trans hbr) ?_
   cases n with
   | zero=>rw [J9 hx]at hbr; cases hbr
   | succ n =>
    obtain⟨vs,b,e,p1,p2,h1,h2,h3,h4⟩:=CZ hx hbr
    refine⟨_,rfl,_,rfl,_,rfl,a,_,_,_,rfl,rfl,aH.of (sR _ _ h1),LP,b,p1,rfl,h3.keep (aE.of sR),λc1 H2 s2 _=>⟨_,_,rfl,rfl,?_⟩⟩
    have MH:=sR.trans s2
    refine⟨_,rfl,_,rfl,a,_,_,_,rfl,rfl,aH.of (MH _ _ h1),Mb,e,p2,rfl,h4.keep (aE.of MH),λc2 H3 s3 _=>⟨_,_,rfl,rfl,ak ⟨_,⟨_,rfl⟩,MH.trans s3,λz=>by cases z⟩⟩⟩
 ·rintro σ H' ⟨c,⟨o2,rfl⟩,s,hc⟩
  refine⟨_,rfl,q c H' s λz=>hc ?_⟩
  rw [UC,hb.len,z]
  rfl
theorem Cd{L:Nat}(F:FA K mg "_law_many" gx):bf bc P w K mg base (L+1) "_law_many" ["_law_pipe_here"] (m4 0) :=
 F.ok dH λ_ _ _ _ _ _ _ _ _ _ h=>False.elim h
theorem DT{L:Nat}(F:FA K mg "_law_pipe" gy):bf bc P w K mg base (L+1) "_law_pipe" ["_law_pot_here","_law_head","_law_deep","_law_many_here","_law_simple"] (kS K 0) :=
 F.ok cH λ_ _ _ _ _ _ _ _ _ _ h=>False.elim h
theorem DW{xs:List V}(h:xs≠[]):gj xs none (some (-1))=xs.dropLast:=by
 have h1:1<=xs.length:=by cases xs with | nil=>exact absurd rfl h | cons _ _=>simp
 have e:HT.dG xs.length xs.length (some (-1))=xs.length-1:=by
  show(if(-1:Int)<0 then((-1:Int)+(xs.length:Int)).toNat else min (-1:Int).toNat xs.length)=_
  rw [if_pos (by decide)]
  omega
 unfold gj
 rw [e,HT.nI,Nat.sub_zero,List.drop_zero,←List.dropLast_eq_take]
theorem bN.init{n:Nat}{H:Hp}{p u:Addr}{bs:List Addr}{ws:List Wk}(hI:bO (dk n) H p bs ws)(ho:ui n ws)(hd:sf n ws)(hu:H u=some (.tup (bs.map V.ref).dropLast)):bN n H u ws.dropLast:=by
 refine⟨⟨bs.dropLast,by rw [hu,List.map_dropLast],by rw [List.length_dropLast,List.length_dropLast,hI.len],λi b y e1 e2=>?_⟩,?_,?_⟩
 ·rw [List.getElem?_dropLast]at e1 e2
  split at e1
  ·split at e2
   ·exact hI.at_ i b y e1 e2
   ·cases e2
  ·cases e1
 ·have hl:ws.dropLast.length<=9:=by rw [List.length_dropLast]; have:=ho.len; omega
  cases n with
  | zero=>exact⟨hl,λy hy=>ho.2 y (List.dropLast_subset _ hy)⟩
  | succ n=>exact⟨hl,λy hy=>ho.2 y (List.dropLast_subset _ hy)⟩
 ·cases n with
  | zero=>exact λy hy=>hd y (List.dropLast_subset _ hy)
  | succ n=>exact λy hy=>hd y (List.dropLast_subset _ hy)
def yL(K:PySem.W.Frag):Sp:=λvs H Q _=>∃(p:Addr),vs=[.ref p]/\dh H p/\∀(t b u:Addr) (h:Hd) (ws:List Wk) (H':Hp),bo p H H'->H' t=some (.tup [.ref b,.ref u])->cZ K H' b h->bN 2 H' u ws->Q (.ref t) H'
abbrev iS:Stmt:=top 83
theorem dR:az ["_law_pot_here","_law_sorts_here","_law_head","_law_pipe_here"] ["_law_pot_here"] (ar iS):=fs
theorem Ei{L Lm:Nat}(h5:1<=L)(Uh:Lm<=L)(B:jV mg)(B2:iK mg)(F:FA K mg "_law_drawn" iS)
  (bu:bf bc P w K mg base 1 "_law_draw" ["_law_pot_here","_law_many_here"] dn)
  (gA:bf bc P w K mg base L "_law_pipe" ["_law_pot_here","_law_head","_law_deep","_law_many_here","_law_simple"] (kS K 3))
  (gz:bf bc P w K mg base Lm "_law_many" ["_law_pipe_here"] (m4 3)) :
  bf bc P w K mg base (L+1) "_law_drawn" ["_law_pot_here"] (yL K):=by
 refine F.ok dR λf cdv A outer s H vs Q E hr h=>?_
 obtain⟨p,rfl,hP,q⟩:=h
 refine⟨_,(aq (km (i:=1) (N':=["_law_k","_law_pot_here"]) (src:=[none,some 0]) dR.nd rfl (Or.inl rfl) rfl rfl (ba.jL (by kernel_rfl)) (dm rfl B.range (ae (aF cX ai (ay bu hr (ae (pv 0) (ae ai ah)))) ah)) (λcl C s H fp=>(eA (i:=0))) (λcl C s H fp=>aX) (te:=(gO (wb K) (xi (bp (tC (.str "n")) (bp (tC (.str "w")) (bp (tC (.str "n")) (bp (tC (.str "w")) (bp (tC (.str "n")) (bp (tC (.str "w")) (bp (tC (.str "t")) fD)))))))) (i3 dn [] E0 (bp (bx 1) (bp (tC (.int 7)) fD))))) (λcl C s H fp=>(bj K (aQ (ae ao (ae ao (ae ao (ae ao (ae ao (ae ao (ae ao ah)))))))) (ay (hg:=we) bu hr (ae (yI 1) (ae ai ah))))))
   (aq (aL (i:=2) dR.nd rfl (Or.inl rfl) (aV bB rfl B.tuple PyProof.Rows.boot_tuple (ae (aF pA (pv 1) (aF xA (aF xA (aQ (ae ao ah)) (aV cA rfl B2.int PyProof.Rows.boot_int (ae (bU aP (ay bu hr (ae (pv 0) (ae ai ah))) ai) ah))) ai)) ah)))
   (aq (aL (i:=3) dR.nd rfl (Or.inl rfl) (ay gA hr (ae (pv 0) (ae (pv 2) (ae ai (ae (bj K (aQ (ae (ay bu hr (ae (pv 0) (ae ai ah))) (ae (ay bu hr (ae (pv 0) (ae ai ah))) ah))) (ay bu hr (ae (pv 0) (ae ai ah)))) (ae fV ah)))))))
   (aq (BQ PassesOwn.never (aW ik (ay gz hr (ae (pv 3) ah)) ai)
    (bK (aL (i:=3) dR.nd rfl (Or.inl rfl) (cz c_ (pv 3) dz (cB (rH lL ai))))))
   (ax (aJ (ae (pv 2) (ae (pv 3) ah)))))))),?_⟩
 have g0:=bo.refl hP
 refine⟨_,rfl,p,_,rfl,hP,by decide,by decide,λe1 H1 g1 a1 b1=>⟨_,_,rfl,rfl,?_⟩⟩
 refine⟨_,rfl,(jO (by omega) (by omega)).1,(jO (by omega) (by omega)).2,λDl hD=>?_⟩
 have nD:=g1.ne hD
 refine iL (n:=(1+e1).toNat) (λi σ ys H'=>(∃o,σ=[o,some (.ref p)])/\(∃ns:List Str,ys=ns.map V.str/\ns.length=i)/\H' Dl=some (.lst ys)/\bo p H H')
  ⟨⟨none,rfl⟩,⟨[],rfl,rfl⟩,ag,g1.new hD⟩ ?_ ?_ ?_ ?_
 ·rintro i σ ys H' _ ⟨_,⟨ns,rfl,rfl⟩,h,_⟩
  exact⟨h,by rw [UC]; exact Uy _⟩
 ·exact Uz (show(1+e1).toNat<=10 by omega) (by decide)
 ·rintro i σ ys H' hi ⟨⟨o,rfl⟩,⟨ns,rfl,rfl⟩,h,g⟩
  refine⟨Pk,λR hR=>?_⟩
  have gr:=g.new (o:=.lst [V.str "n",.str "w",.str "n",.str "w",.str "n",.str "w",.str "t"]) hR
  refine⟨_,rfl,p,_,rfl,gr.cf,by decide,by decide,λe2 H2 g2 a2 b2=>?_⟩
  have hk:=g2.keep R _ (g.ne hR) ag
  have hk2:=g2.keep Dl _ nD ((aj hR _) _ _ h)
  have hz:∃z:Str,ja [V.str "n",.str "w",.str "n",.str "w",.str "n",.str "w",.str "t"] e2=some (.str z):=by
   have:e2=0\/e2=1\/e2=2\/e2=3\/e2=4\/e2=5\/e2=6:=by omega
   rcases this with z | z | z | z | z | z | z <;> subst z <;> exact⟨_,rfl⟩
  obtain⟨z,hz⟩:=hz
  refine⟨R,_,_,_,rfl,rfl,aZ.of hk,hz,hk2,⟨_,rfl⟩,⟨ns++[z],by rw [UE]; rfl,by rw [UD]; rfl⟩,ag,?_⟩
  exact g1.put hD nD (gr.trans g2)
 ·rintro σ ys H' ⟨_,⟨ns,rfl,hl⟩,h,g⟩
  refine ak ?_
  dsimp only
  refine⟨_,rfl,dQ,λR hR=>?_⟩
  have nR:=g.ne hR
  have gR:=g.new (o:=.lst [V.str "w"]) hR
  refine⟨_,rfl,p,_,rfl,gR.cf,by decide,by decide,λe2 H2 g2 a2 b2=>⟨rfl,.inr ⟨_,rfl,?_⟩⟩⟩
  have Qv:=gR.trans g2
  have yP:=g2.keep R _ nR (ag (H:=H') (a:=R) (o:=.lst [V.str "w"]))
  have hD2:=g2.keep Dl _ nD ((aj hR (.lst [V.str "w"])) _ _ h)
  have hH2:∃e:Int,(if decide (V.int e2=V.int 8)=true then(1:Int)else 0)=e/\0<=e/\e<=1/\∃ms:List Str,(List.replicate e.toNat [V.str "w"]).flatten=ms.map V.str/\ms.length<=1:=by
   cases decide (V.int e2=V.int 8)
   ·exact⟨0,rfl,by decide,by decide,[],rfl,by decide⟩
   ·exact⟨1,rfl,by decide,by decide,["w"],rfl,by decide⟩
  obtain⟨e,ee,e0,e1',ms,em,lm⟩:=hH2
  rw [ee]
  have ez:[V.str "w"].length*e.toNat<=sizeLine:=by
   have:e.toNat<=1:=by omega
   exact Uz (Nat.mul_le_mul_left 1 this) (by decide)
  refine⟨R,e,_,rfl,rfl,yP,by omega,by omega,ez,λR3 PM=>?_⟩
  rw [em]
  have s3:=aj PM (.lst (ms.map V.str))
  refine⟨R3,2,_,rfl,rfl,ag,by decide,by decide,(by rw [UC]; exact Uz (Nat.mul_le_mul_right 2 lm) (by decide)),λR4 To=>?_⟩
  have Tb:(List.replicate (2:Int).toNat (ms.map V.str)).flatten=(ms++ms).map V.str:=by
   rw [UE]
   show ms.map V.str++(ms.map V.str++[])=_
   rw [List.append_nil]
  rw [Tb]
  have s4:=aj To (.lst ((ms++ms).map V.str))
  refine⟨Dl,R4,_,_,rfl,rfl,s4 _ _ (s3 _ _ hD2),ag,?_,λC hC=>?_⟩
  ·rw [UC,UC,UD]
   exact Uz (show _<=20 by omega) (by decide)
  rw [←UE]
  have s5:=aj hC (.lst ((ns++(ms++ms)).map V.str))
  refine⟨C,_,rfl,.inl ⟨aZ.of ag,λa ha=>ak ?_⟩⟩
  have s6:=aj ha (.tup ((ns++(ms++ms)).map V.str))
  have g6:=Qv.trans (bo.same Qv.cf (((s3.trans s4).trans s5).trans s6))
  have hlen:(ns++(ms++ms)).length=ns.length+(ms.length+ms.length):=by rw [UD,UD]
  have hh:cZ K (upd (upd (upd (upd H2 R3 (.lst (ms.map V.str))) R4 (.lst ((ms++ms).map V.str))) C (.lst ((ns++(ms++ms)).map V.str))) a (.tup ((ns++(ms++ms)).map V.str))) a (ns++(ms++ms)):=⟨ag,by omega,by omega⟩
  revert g6 hh
  generalize upd (upd (upd (upd H2 R3 (.lst (ms.map V.str))) R4 (.lst ((ms++ms).map V.str))) C (.lst ((ns++(ms++ms)).map V.str))) a (.tup ((ns++(ms++ms)).map V.str))=H6
  generalize ns++(ms++ms)=hd
  intro g6 hh
  dsimp only
  refine⟨_,rfl,_,rfl,?_⟩
  refine⟨_,rfl,p,_,rfl,g6.cf,by decide,by decide,λm1 H7 g7 a7 b7=>?_⟩
  have k7:=g6.trans g7
  refine⟨_,rfl,p,_,rfl,k7.cf,by decide,by decide,λm2 H8 g8 a8 b8=>?_⟩
  have k8:=k7.trans g8
  refine⟨cM,λR9 HH=>?_⟩
  have k9:=k8.new (o:=.lst [.int m1,.int m2]) HH
  refine⟨_,rfl,p,_,rfl,k9.cf,by decide,by decide,λm3 Ak HF a10 b10=>?_⟩
  have k10:=k9.trans HF
  have hk:=HF.keep R9 _ (k8.ne HH) ag
  have hz:∃z:Nat,ja [V.int m1,V.int m2] m3=some (.int z)/\z<=9:=by
   have:m3=0\/m3=1:=by omega
   rcases this with z | z <;> subst z
   ·exact⟨m1.toNat,by rw [show((m1.toNat:Nat):Int)=m1 by omega]; rfl,by omega⟩
   ·exact⟨m2.toNat,by rw [show((m2.toNat:Nat):Int)=m2 by omega]; rfl,by omega⟩
  obtain⟨z,hz,z9⟩:=hz
  refine⟨R9,_,_,_,rfl,rfl,aZ.of hk,hz,?_⟩
  have LQ:=hh.grow g6.cf ((g7.trans g8).trans ((bo.refl k8.cf).new HH |>.trans HF))
  refine⟨p,a,hd,2,z,false,rfl,k10.cf,LQ,by decide,z9,λu ws Ph Nm Pe _=>ak ?_⟩
  have k11:=k10.trans Nm
  have OF:=LQ.grow k10.cf Nm
  dsimp only
  refine⟨λm σ H'=>∃u ws,σ=[some (.ref p),some (.ref Dl),some (.ref a),some (.ref u)]/\ws.length=m/\bN 2 H' u ws/\cZ K H' a hd/\bo p H H',⟨_,u,ws,rfl,rfl,Pe,OF,k11⟩,?_⟩
  rintro m σ H' ⟨u,ws,rfl,hm,hp,hh,g⟩
  obtain⟨bs,hb⟩:=hp.pp
  refine⟨_,rfl,u,ws,rfl,⟨bs,hb⟩,λc H7 s7 hc=>?_⟩
  refine⟨_,_,rfl,rfl,_,rfl,?_⟩
  have g7:=g.trans (bo.same g.cf s7)
  have QJ:=hh.same s7
  refine cI (λcc=>?_) (λcc=>?_)
  ·have T8:(20:Int)<c:=by simpa using cc
   have hne:ws≠[]:=λz=>by
    have:=hc z
    omega
   have wl:1<=ws.length:=by cases ws with | nil=>exact absurd rfl hne | cons _ _=>simp
   have Th:bs.map V.ref≠[]:=λz=>by
    have:=congrArg List.length z
    rw [UC,hb.len]at this
    exact hne (List.eq_nil_of_length_eq_zero this)
   refine⟨λσ' Iq=>∃m',m'<m/\∃u ws,σ'=[some (.ref p),some (.ref Dl),some (.ref a),some (.ref u)]/\ws.length=m'/\bN 2 Iq u ws/\cZ K Iq a hd/\bo p H Iq,λσ' Iq z=>z,?_⟩
   refine⟨_,rfl,_,rfl,_,rfl,u,_,rfl,s7 _ _ hb.tup,λv H8 s8 hv=>ak ?_⟩
   rw [DW Th]at hv
   have NF:=s7.trans s8
   have Qe:=aE.of NF
   exact⟨ws.length-1,by omega,v,ws.dropLast,rfl,by rw [List.length_dropLast],bN.init (hb.keep Qe λ_ _ z=>z.keep Qe) hp.ok hp.dr hv,QJ.same s8,g7.trans (bo.same g7.cf s8)⟩
  ·refine⟨_,rfl,_,rfl,cM,λt ht=>?_⟩
   have sT:=aj ht (.tup [.ref a,.ref u])
   exact q t a u hd ws _ (g7.new ht) ag (QJ.same sT) (hp.keep (aE.of (s7.trans sT)))
theorem uL{X:Cx}{K:PySem.W.Frag}{o:Expr}{ta:TE}{f:Str}{pos:Pos}(e:X.K=K)(he:PE X o ta)(hb:attributeBase o f X.env (eval o X.env)=eval o X.env):PE X (.Attribute o f pos) (Hs K ta f):=by subst e; exact E9 he hb
theorem four{α:Type}{l:List α}(h:l.length=4):∃a b c d,l=[a,b,c,d]:=match l,h with | [a,b,c,d],_=>⟨a,b,c,d,rfl⟩
theorem HN{v1 v2:V}:(Ar v1 v2).lookup ("place" : Str)=some v1:=by rw [el,if_neg (by decide),el,if_pos rfl]
theorem HY{v1 v2:V}:(Ar v1 v2).lookup ("why" : Str)=some v2:=by rw [el,if_pos rfl]
def K2(K:PySem.W.Frag):List V->Hp->VK->Prop:=λxs H Q=>∃x cv t c b,xs=[x,cv]/\QD cv c/\(kl K H x t\/∃a C,x=.ref a/\t=.ref C/\Py K H a C)/\PySem.W.kitOne K t c=some b/\Q (.bl b) H
theorem vO{X:Cx}{K:PySem.W.Frag}(e:X.K=K):fu X (.builtin "isinstance") (K2 K):=by subst e; exact vE
structure LL(K:PySem.W.Frag)(mg:Str->Option Value)(C PE:Addr):Prop where
 kp:PySem.W.kitOne K (.ref C) (.ref PE)=some true
 kv:PySem.W.kitOne K (.ref C) (.type "ValueError")=some true
 mP:mg "PipeError"=some (.ref PE)
 mV:mg "ValueError"=none
def GN(H:Hp)(u:Addr):Res->Prop
 | .ok h _=>∃a,H u=some (.tup [.str "head",.ref a])/\dW H a h
 | .no p s=>∃a,H u=some (.tup [.str "no",.ref a,.str s])/\H a=some (.tup (p.map V.int))
def Ho:Sp:=λvs H Q _=>∃(b p:Addr) (h:Hd) (ws:List Wk),vs=[.ref b,.ref p]/\Ad 2 H b p h ws/\∀(u:Addr) (H':Hp),aM H H'->GN H' u (kg 2 h ws)->Q (.ref u) H'
abbrev iz:Stmt:=top 84
theorem gZ:az ["_law_head","_law_pipe_here","_law_found","e"] ["_law_head","_law_pipe_here"] (ar iz):=fs
theorem B5{L:Nat}{C fI PE:Addr}(B:jV mg)(Cf:Ji K mg C fI)(T:LL K mg C PE)(em:PySem.W.exmOne K (.ref C) (.ref C)=some true)(F:FA K mg "_law_asked" iz)
  (qp:bf (A1 P w) P w K mg base L "head_behind" ["head","pipe"] (MT C 2)) :
  bf bc P w K mg base (L+1) "_law_asked" ["_law_head","_law_pipe_here"] Ho:=by
 refine F.ok gZ λf cdv A outer s H vs Q E hr h=>?_
 have hu:=iN hr
 obtain⟨b,p,h,ws,rfl,hI,q⟩:=h
 refine⟨_,(aq (IZ (E:=(λCv oa H'=>Cv=.ref C/\∃(e dx pl:Addr) (ps:List Int) (sl:Str),oa=some e/\aM H H'/\H' e=some (xO e C (some dx))/\H' dx=some (xD dx (Ar (.ref pl) (.str sl)))/\H' pl=some (.tup (ps.map V.int))/\kg 2 h ws=.no ps sl)) (i:=3) (L:=s.heap.objs.size) ⟨⟨_,_,rfl,rfl⟩,rfl⟩ gZ.nd rfl rfl rfl Cf.mf (λpins=>(bK (aL (i:=2) gZ.nd rfl (Or.inl rfl) (uG qp hr rfl yZ (ae (pv 0) (ae (pv 1) ah))))))
    (λe=>(ax (eR (PW.pt (kB (fw (a_ (vO (K:=K) rfl) rfl B.isinstance PyProof.Rows.boot_isinstance (ae (pv 3) (ae (JQ rfl T.mP) ah)))) (iJ (fw (a_ (vO (K:=K) rfl) rfl B.isinstance PyProof.Rows.boot_isinstance (ae (pv 3) (ae (xP (n:="ValueError") rfl T.mV (by decide +kernel)) ah))))))) (aJ (ae ao (ae (uL (K:=K) rfl (pv 3) rfl) (ae (uL (K:=K) rfl (pv 3) rfl) ah)))) (aJ (ae ao ah))))))
   (ax (aJ (ae ao (ae (pv 2) ah))))),?_⟩
 refine⟨?_,?_⟩
 ·refine⟨_,rfl,_,rfl,b,p,h,ws,rfl,⟨hI.hd,hI.six,hI.pp,hI.ok⟩,by decide,Bl,?_,?_⟩
  ·intro ps sl er e dx pl H1 s1 z1 z2 z3
   exact⟨rfl,e,dx,pl,ps,sl,rfl,s1,z1,z2,z3,er⟩
  ·intro h' f' er u H1 s1 hu'
   refine ak ⟨_,rfl,cM,λt ht=>?_⟩
   have st:=aj ht (.tup [.str "head",.ref u])
   refine q t _ (s1.trans st) ?_
   rw [er]
   exact⟨u,ag,st _ _ hu'⟩
 ·rintro σ' C' e od H1 hl he ⟨e1,e',dx,pl,ps,sl,ea,s1,z1,z2,z3,z4⟩
  cases e1
  cases ea
  refine⟨em,?_⟩
  obtain⟨b1,b2,b3,b4,rfl⟩:=four (show σ'.length=4 from hl)
  have xa:Py K H1 e C:=⟨Cf.xc,.inr ⟨dx,_,z1,z2⟩⟩
  refine⟨_,rfl,_,_,_,_,_,rfl,rfl,.inr ⟨e,C,rfl,rfl,xa⟩,T.kp,_,rfl,?_⟩
  refine bX ⟨_,rfl,_,_,_,_,_,rfl,rfl,.inr ⟨e,C,rfl,rfl,xa⟩,T.kv,_,rfl,?_⟩
  refine bX ⟨_,rfl,e,C,dx,_,_,rfl,z1,z2,Cf.xc,Cf.np,HN,_,rfl,e,C,dx,_,_,rfl,z1,z2,Cf.xc,Cf.nr,HY,gw,λt ht=>?_⟩
  have st:=aj ht (.tup [.str "no",.ref pl,.str sl])
  refine q t _ (s1.trans st) ?_
  rw [z4]
  exact⟨pl,ag,st _ _ z3⟩
theorem JF{tc:TT}{a b:TS}{D:Ends}{σ:St}{H:Hp}(Pb:Bool->Hp->Prop)(hc:∀T:Bool->Hp->Prop,(∀c H',Pb c H'->T c H')->tc σ H T)(ha:∀H',Pb true H'->a D σ H')(hb:∀H',Pb false H'->b D σ H'):HV tc a b D σ H :=
 hc _ λc H' p=>by
  cases c with
  | true=>exact ha H' p
  | false=>exact hb H' p
def za(K:PySem.W.Frag):Sp:=λvs H Q _=>∃(a:Addr) (ns:List Int),vs=[.ref a]/\aZ K H a (ns.map V.int)/\ns.length<=63/\∀H',Q (.bl true) H'
theorem Al{p:Addr}{H0 H1 H2:Hp}(hp:H0 p=none)(s:aM H0 H1)(g:bo p H1 H2):aM H0 H2:=λb o e=>g.keep b o (aU e hp) (s _ _ e)
theorem ig{n:Nat}:∀{ds:List D},(∀d∈ds,d.depth<=n)->cw ds<=n
 | [],_=>by rw [cw]; exact Nat.zero_le _
 | d::ds,h=>by
  rw [cw]
  exact Nat.max_le.mpr ⟨h d List.mem_cons_self,ig λe he=>h e (UL _ he)⟩
def vg:Res->D
 | .ok h _=>.tup [.str "head",.tup (h.map D.str)]
 | .no p s=>.tup [.str "no",.tup (p.map D.int),.str s]
theorem v9(p:List Int):(D.tup (p.map D.int)).depth<=1:=by
 rw [D.depth]
 have:cw (p.map D.int)<=0:=ig λd hd=>by
  obtain⟨v,_,rfl⟩:=List.mem_map.mp hd
  simp [D.depth]
 omega
theorem Ae(p:List Str):(D.tup (p.map D.str)).depth<=1:=by
 rw [D.depth]
 have:cw (p.map D.str)<=0:=ig λd hd=>by
  obtain⟨v,_,rfl⟩:=List.mem_map.mp hd
  simp [D.depth]
 omega
theorem wC(r:Res):(vg r).depth<=2:=by
 cases r with
 | ok h f =>
  unfold vg
  rw [D.depth]
  have:cw [D.str "head",.tup (h.map D.str)]<=1:=ig λd hd=>by
   simp only [List.mem_cons,List.not_mem_nil,or_false]at hd
   rcases hd with rfl | rfl
   ·simp [D.depth]
   ·exact Ae h
  omega
 | no p s =>
  unfold vg
  rw [D.depth]
  have:cw [D.str "no",.tup (p.map D.int),.str s]<=1:=ig λd hd=>by
   simp only [List.mem_cons,List.not_mem_nil,or_false]at hd
   rcases hd with rfl | rfl | rfl
   ·simp [D.depth]
   ·exact v9 p
   ·simp [D.depth]
  omega
theorem uv{K:PySem.W.Frag}{H:Hp}:∀(p:List Int),bF K H (p.map D.int) (p.map V.int)
 | []=>bF.nil
 | i::p=>bF.cons (y0 i) (uv p)
theorem uP{K:PySem.W.Frag}{H:Hp}:∀(p:List Str),bF K H (p.map D.str) (p.map V.str)
 | []=>bF.nil
 | i::p=>bF.cons (gB i) (uP p)
theorem ua{K:PySem.W.Frag}{H:Hp}{u a:Addr}{h:Hd}{f:Fl}(h1:H u=some (.tup [.str "head",.ref a]))(h2:dW H a h):aY K H (vg (.ok h f)) (.ref u) :=
 iO h1 (.cons (gB _) (.cons (iO h2 (uP h)) .nil))
theorem GY{K:PySem.W.Frag}{H:Hp}{u a:Addr}{p:List Int}{s:Str}(h1:H u=some (.tup [.str "no",.ref a,.str s]))(h2:H a=some (.tup (p.map V.int))):aY K H (vg (.no p s)) (.ref u) :=
 iO h1 (.cons (gB _) (.cons (iO h2 (uv p)) (.cons (gB _) .nil)))
theorem wg{K:PySem.W.Frag}{H:Hp}{u:Addr}{r:Res}(h:GN H u r):aY K H (vg r) (.ref u):=by
 cases r with
 | ok h' f=>obtain⟨a,h1,h2⟩:=h; exact ua h1 h2
 | no p s=>obtain⟨a,h1,h2⟩:=h; exact GY h1 h2
abbrev j4:Stmt:=top 85
theorem lW:az ["_law_script","_law_k","_law_head","_law_pipe_here","_law_tale","_law_due"] ["_law_script"] (ar j4):=fs
section
variable{P:Program}{w:World}{K:PySem.W.Frag}{mg:Str->Option Value}{base:Heap}
theorem JP{f:Addr}{fd:FuncData}{L:Nat}(B:jV mg)(B2:iK mg)(F:A2 K "law" "law" j4 f fd)
  (wt:bf bc P w K mg base L "_law_pot" ["_law_script","_law_k"] (He K))
  (rN:bf bc P w K mg base L "_law_drawn" ["_law_pot_here"] (yL K))
  (dU:bf bc P w K mg base L "_law_judged" ["_law_head","_law_pipe_here"] (yE 2))
  (iV:bf bc P w K mg base L "_law_asked" ["_law_head","_law_pipe_here"] Ho) :
  e9 P w K mg base bc (L+1) f fd ["_law_script"] (za K):=by
 refine F.ok lW (λvs H Q E h=>?_) (λcdv A outer s H vs Q E hr h=>?_)
 ·obtain⟨a,ns,rfl,_⟩:=h
  rfl
 have hu:=iN hr
 obtain⟨a,ns,rfl,hS,h63,q⟩:=h
 refine⟨_,(aq (hX PassesOwn.never rfl (dm rfl B.range (ae (aF cX ai (a_ (rk rfl) rfl B2.min PyProof.Rows.boot_min (ae ai (ae (a_ bE rfl B.len PySem.boot_len (ae (pv 0) ah)) ah)))) ah)) (bS (i:=1) lW.nd rfl (Or.inl rfl))
    (aq (oO (ay rN hr (ae (ay wt hr (ae (pv 0) (ae (pv 1) ah))) ah)) (cD rfl (aD (bS (i:=2) lW.nd rfl (Or.inl rfl)) (aD (bS (i:=3) lW.nd rfl (Or.inl rfl)) bT))))
     (aq (aL (i:=4) lW.nd rfl (Or.inl rfl) (ay dU hr (ae (pv 2) (ae (pv 3) ah))))
     (aq (aL (i:=5) lW.nd rfl (Or.inl rfl) (eR (aW aP (aA K (pv 4) ai) ao) (pv 4) (cz c_ (pv 4) dz (cB ai))))
     (bK (dy (PW.pt (CI (aW je (ay iV hr (ae (pv 2) (ae (pv 3) ah))) (pv 5)) (CI (aW je (ay iV hr (ae (pv 2) (ae (aJ ah) ah))) (aJ (ae ao (ae (pv 2) ah)))) (CD (aW je (ay iV hr (ae (pv 2) (ae (pv 3) ah))) (pv 5))))))
      (ax fV)
      b9))))))
   (ax fV)),?_⟩
 have hl:(ns.map V.int).length=ns.length:=UC _
 have mb:0<=(3:Int)+(if(((ns.map V.int).length:Nat):Int)<14 then(((ns.map V.int).length:Nat):Int)else 14)/\(3:Int)+(if(((ns.map V.int).length:Nat):Int)<14 then(((ns.map V.int).length:Nat):Int)else 14)<=17:=by split <;> omega
 refine⟨_,rfl,a,_,rfl,.inl hS,_,_,rfl,_,_,rfl,rfl,_,rfl,(jO mb.1 (by omega)).1,(jO mb.1 (by omega)).2,?_⟩
 refine fL (λi σ H'=>(∃o1 o2 o3 o4 o5,σ=[some (.ref a),o1,o2,o3,o4,o5])/\aM H H') ⟨⟨_,_,_,_,_,rfl⟩,aM.refl _⟩ ?_ ?_
 ·rintro i σ Hi hi ⟨⟨o1,o2,o3,o4,o5,rfl⟩,PV⟩
  have Nb:(i:Int)<=20:=by omega
  refine ak ?_
  dsimp only
  refine⟨_,rfl,_,rfl,a,ns,_,rfl,PV.seq hS,by omega,by omega,λp H1 hp s1 hP=>?_⟩
  refine⟨p,rfl,hP,λt b u h ws H2 g2 ht hH hp2=>?_⟩
  have MH:=PV.trans (Al hp s1 g2)
  refine⟨t,_,rfl,aH.of ht,rfl,_,_,rfl,ak ⟨_,_,rfl,ak ⟨rfl,?_⟩⟩⟩
  dsimp only
  refine⟨_,rfl,_,rfl,b,u,h,ws,rfl,⟨hH.tup,hp2.pp,hp2.ok,hp2.dr,hH.few⟩,by decide,Bl,λv H3 s3 hR=>ak ?_⟩
  have GL:=MH.trans s3
  have Jd:=hH.same s3
  have hp3:=hp2.keep (aE.of s3)
  dsimp only
  refine k_ (λσ H4=>∃du,(∃o1,σ=[some (.ref a),o1,some (.ref b),some (.ref u),some (.ref v),some (.ref du)])/\aM H3 H4/\aY K H4 (vg (kg 2 h ws)) (.ref du)) (λT hT=>?_) ?_
  ·cases er:kg 2 h ws with
   | ok h' f' =>
    rw [er]at hR hT
    obtain⟨a1,a2,r1,r2,r3⟩:=hR
    refine⟨_,rfl,v,_,0,_,rfl,rfl,aH.of r1,av (j:=0) rfl,rfl,_,rfl,?_⟩
    rw [bM,UA (by decide +kernel)]
    refine bA ⟨_,rfl,_,rfl,v,_,rfl,r1,λw4 H4 s4 Rk=>ak (hT _ _ ⟨w4,⟨_,rfl⟩,s4,ua Rk (s4 _ _ r2)⟩)⟩
   | no pl sl =>
    rw [er]at hR hT
    obtain⟨a1,r1,r2⟩:=hR
    refine⟨_,rfl,v,_,0,_,rfl,rfl,aH.of r1,av (j:=0) rfl,rfl,_,rfl,?_⟩
    rw [bM,UB rfl]
    exact bX ⟨_,rfl,ak (hT _ _ ⟨v,⟨_,rfl⟩,aM.refl _,GY r1 r2⟩)⟩
  ·rintro σ H4 ⟨du,⟨o1,rfl⟩,s4,hdu⟩
   have TU:=GL.trans s4
   have Jf:∀r:Res,(A.deeper (PyProof.Rows.envOfC "law" (ar j4) s.heap.objs.size f cdv)).units+(vg r).depth<cLine:=λr=>UG (Nat.add_le_add_left (Uz (wC r) (by decide:2<=8)) _) hu
   refine JF (λb H'=>b=false/\aM H4 H') (λT hT=>?_) (λH' z=>absurd z.1 (by decide)) (λH' z=>⟨⟨_,_,_,_,_,rfl⟩,TU.trans z.2⟩)
   have ju:∀{H5},aM H4 H5->Ad 2 H5 b u h ws:=λs5=>by
    have k:=hp3.keep (aE.of (s4.trans s5))
    exact⟨(Jd.same (s4.trans s5)).tup,k.pp,k.ok,k.dr,Jd.few⟩
   refine⟨_,rfl,_,rfl,b,u,h,ws,rfl,ju (aM.refl _),λt1 H5 s5 ht1=>⟨_,rfl,_,_,wg ht1,hdu.same s5,Jf _,_,rfl,?_⟩⟩
   rw [ji]
   refine bA ⟨_,rfl,xg,λe0 R7=>?_⟩
   have s6:=s5.trans (aj R7 (.tup []))
   have hp0:Ad 2 (upd H5 e0 (.tup [])) b e0 h []:=⟨(Jd.same (s4.trans s6)).tup,⟨[],ag,rfl,λi a x e1 e2=>(by cases e1)⟩,⟨by decide,λx hx=>(by cases hx)⟩,λx hx=>(by cases hx),Jd.few⟩
   refine⟨b,e0,h,[],rfl,hp0,λt2 H7 s7 Bi=>⟨_,rfl,cM,λt3 Ep=>?_⟩⟩
   have sT:=aj Ep (.tup [.str "head",.ref b])
   have Sj:=s6.trans s7
   have qK:=Sj.trans sT
   refine⟨_,_,(wg Bi).same sT,ua (f:=f0) ag (Jd.same (s4.trans qK)).tup,Jf _,_,rfl,?_⟩
   have e0':kg 2 h []=.ok h f0:=rfl
   rw [e0',ji]
   refine bA ⟨_,rfl,_,rfl,b,u,h,ws,rfl,ju qK,λt4 H9 s9 A8=>⟨_,rfl,_,_,wg A8,hdu.same (qK.trans s9),Jf _,_,rfl,?_⟩⟩
   rw [ji]
   exact hT _ _ ⟨rfl,qK.trans s9⟩
 ·rintro σ H' _
  exact q H'
end
def Bo(K:PySem.W.Frag)(C PE:Addr):Bool:=(match PySem.W.clsIn K C with | some cd=>cd.mro == .ref C :: .ref PE::AJ&&cd.hasDict | none=>false)&&PySem.W.mroIn K C (.type "object")==some true &&
 PySem.W.findIn K (.ref C) "__setattr__"==some (some (.builtin "object.__setattr__"))&&PySem.W.findIn K (.ref C) "__getattribute__"==some (some (.builtin "BaseException.__getattribute__"))&&PySem.W.findIn K (.ref C) "__getattr__"==some none&&PySem.W.mroIn K C (.type "BaseException")==some true&&PySem.W.findIn K (.ref C) "__class__"==some (some (.builtin "object.__class__"))
theorem EW{K:PySem.W.Frag}{C PE:Addr}(h:Bo K C PE=true)(cg:PySem.W.specialIn K (.builtin "object.__class__") "__get__"=some (some (.builtin "getset_descriptor.__get__")))(ct:PySem.W.takesIn K (.builtin "object.__class__")=some true):jt K C:=by
 unfold Bo at h
 simp only [Bool.and_eq_true,beq_iff_eq]at h
 obtain⟨⟨⟨⟨⟨⟨h1,h2⟩,h3⟩,h4⟩,h6⟩,h7⟩,h5⟩:=h
 split at h1
 ·rename_i cd e
  simp only [Bool.and_eq_true,beq_iff_eq]at h1
  exact⟨⟨cd,PE,e,h1.1,h1.2⟩,h2,h3,h4,h6,h7,h5,cg,ct⟩
 ·cases h1
def kL(K:PySem.W.Frag)(d:Addr)(key:Str)(f:Addr):Bool:=match K.lookup d with
 | some o=>o.cls == .type "dict"&&o.dict==none&&o.slots.isEmpty&&(match o.data with
  | .dict es _=>es.all (λe=>isExactStrKey e.key)&&(match es.findIdx? (λe=>e.key.isStr key)with
   | some i=>(match es[i]? with
    | some e=>(match e.key,e.val with
     | .str k _,.ref g=>k==key&&g==f
     | _,_=>false)
    | none=>false)
   | none=>false)
  | _=>false)
 | none=>false
theorem cO{K:PySem.W.Frag}{d:Addr}{key:Str}{f:Addr}(h:kL K d key f=true):dC K d key f:=by
 unfold kL at h
 split at h
 ·rename_i o e
  obtain⟨c,di,dt,sl⟩:=o
  simp only [Bool.and_eq_true,beq_iff_eq]at h
  obtain⟨⟨⟨h1,h2⟩,h3⟩,h4⟩:=h
  subst h1 h2
  have h3':sl = #[]:=by simpa using h3
  subst h3'
  split at h4
  ·rename_i es ep
   simp only [Bool.and_eq_true]at h4
   obtain⟨h5,h6⟩:=h4
   split at h6
   ·rename_i i ei
    split at h6
    ·rename_i en S6
     obtain⟨x,k,v⟩:=en
     split at h6
     ·rename_i k' t g e1 e2
      have e1':k=.str k' t:=e1
      have e2':v=.ref g:=e2
      subst e1' e2'
      simp only [Bool.and_eq_true,beq_iff_eq]at h6
      obtain⟨h7,h8⟩:=h6
      subst h7 h8
      exact⟨es,ep,i,x,t,e,h5,ei,S6⟩
     ·cases h6
    ·cases h6
   ·cases h6
  ·cases h4
 ·cases h
def v_(K:PySem.W.Frag)(d:Addr)(key:Str):Bool:=!(d==sysModules)&&match K.lookup d with
 | some o=>o.cls == .type "dict"&&o.dict==none&&o.slots.isEmpty&&(match o.data with
  | .dict es _=>es.all (λe=>isExactStrKey e.key)&&(es.findIdx? (λe=>e.key.isStr key)).isNone
  | _=>false)
 | none=>false
theorem iw{K:PySem.W.Frag}{d:Addr}{key:Str}(h:v_ K d key=true):jF K d key:=by
 unfold v_ at h
 simp only [Bool.and_eq_true,Bool.not_eq_true']at h
 obtain⟨h0,h⟩:=h
 refine⟨h0,?_⟩
 split at h
 ·rename_i o e
  obtain⟨c,di,dt,sl⟩:=o
  simp only [Bool.and_eq_true,beq_iff_eq]at h
  obtain⟨⟨⟨h1,h2⟩,h3⟩,h4⟩:=h
  subst h1 h2
  have h3':sl = #[]:=by simpa using h3
  subst h3'
  split at h4
  ·rename_i es ep
   simp only [Bool.and_eq_true]at h4
   exact⟨es,ep,e,h4.1,Option.isNone_iff_eq_none.mp h4.2⟩
  ·cases h4
 ·cases h
theorem JC{C:Addr}{L:Nat}(F:FA K mg "go_through" fH):bf (A1 P w) P w K mg base (L+1) "go_through" ["pipe","begun","prefix","found"] (zg C 0) :=
 F.Kr bQ λ_ _ _ _ _ _ _ _ _ _ h=>False.elim h
theorem Fj{L:Nat}(F:FA K mg "_law_put" iQ):bf bc P w K mg base (L+1) "_law_put" ["_law_head","_law_pipe_here","_law_place","_law_flags_here","_law_found"] (rV 0) :=
 F.ok bZ λ_ _ _ _ _ _ _ _ _ _ h=>False.elim h
theorem dA{K:PySem.W.Frag}{x:Str}{st:Stmt}{f:Addr}{oc:Value}{od an:Option Addr}{osl:Array (Option Value)}{kV doc pm cdv ct:Value}(a:PySem.W.nsIn K mainGlobals x=some (some (.ref f)):=by k_is)
  (l:K.lookup f=some ⟨oc,od,.func (PySem.W.fnOf x x (d0 st) (cT st) (ar st) .none kV doc pm an cdv ct),osl⟩:=by k_is) (c:PySem.W.codeIn K cdv x=true:=by k_is) (k:PySem.W.keepIn K (.ref f)=true:=by k_is):FK K x st f:=Lp a l c k
theorem all_mk{l:PySem.W.OpenLaw}{w:World}{K:PySem.W.Frag}{h:Heap}{mg:Str->Option Value}{fa:Addr}(X:K.In h)(G:h.Ns mainGlobals mg)(hfa:mg "law"=some (.ref fa))
  {CF PE aC aS aT aB aO:Addr} {SR T4:Option Addr} {tT tW QS tb2 Qm to2 to3 P6 Q8:Tok} {nB nO:Nat} {Ry RG:Array (Option Value)}
  {zx:Addr} {Lg L8:Option Addr} {MA:Array (Option Value)} {La Lo LS Ls Hq ML:Value}
  {pq wI vZ qz uB qj vj qw pU rM wM sJ rQ tq oC tL zw eL eN jW fc jm j5 xr qo mQ uQ mn mr p7 mw mi mz mI ml uN Dq js ie jX eK jj jw uk qI qD wu qi Af pE sH BK qJ sZ kQ jP lZ kF pf l0 xC t_ xx qf x6 oh ql vC vc tV rZ:Addr}
  (a0:FK K "_law_cell_at" Cg pq:=by exact My.dA)
  (a1:FK K "_law_pot" JV wI:=by exact My.dA)
  (a2:FK K "_law_draw" Bw vZ:=by exact My.dA)
  (a3:FK K "_law_number" ub qz:=by exact My.dA)
  (a4:FK K "_law_word" Bp uB:=by exact My.dA)
  (a5:FK K "_law_a_sort" wF qj:=by exact My.dA)
  (a6:FK K "_law_cell" xm vj:=by exact My.dA)
  (a7:FK K "_law_column" r_ qw:=by exact My.dA)
  (a8:FK K "_law_columns" pK pU:=by exact My.dA)
  (a9:FK K "_law_state" wG rM:=by exact My.dA)
  (a10:FK K "_law_set" IP wM:=by exact My.dA)
  (a11:FK K "_law_pairs" xV sJ:=by exact My.dA)
  (a12:FK K "_law_order" yd rQ:=by exact My.dA)
  (a13:FK K "_law_moves" sN tq:=by exact My.dA)
  (a14:FK K "_law_one_row" sG oC:=by exact My.dA)
  (a15:FK K "_law_other" wY tL:=by exact My.dA)
  (a16:FK K "sort_of" lX zw:=by exact My.dA)
  (a17:FK K "no_columns" iE eL:=by exact My.dA)
  (a18:FK K "one_column" iY eN:=by exact My.dA)
  (a19:FK K "two_columns" gY jW:=by exact My.dA)
  (a20:FK K "listed_columns" eY fc:=by exact My.dA)
  (a21:FK K "sort_columns" fW jm:=by exact My.dA)
  (a22:FK K "sum_columns" gH j5:=by exact My.dA)
  (a23:FK K "is_there" kj xr:=by exact My.dA)
  (a24:FK K "columns_fit" gE qo:=by exact My.dA)
  (a25:FK K "are_same_sort" fA mQ:=by exact My.dA)
  (a26:FK K "cells_fit" jy uQ:=by exact My.dA)
  (a27:FK K "keep_fits" jq mn:=by exact My.dA)
  (a28:FK K "same_fits" jr mr:=by exact My.dA)
  (a29:FK K "sum_fits" kc p7:=by exact My.dA)
  (a30:FK K "meet_fits" jf mw:=by exact My.dA)
  (a31:FK K "both_fits" jB mi:=by exact My.dA)
  (a32:FK K "turn_fits" jC mz:=by exact My.dA)
  (a33:FK K "walk_fits" jk mI:=by exact My.dA)
  (a34:FK K "must_fits" jo ml:=by exact My.dA)
  (a35:FK K "sorts_fit" jv uN:=by exact My.dA)
  (a36:FK K "picked" oU Dq:=by exact My.dA)
  (a37:FK K "head_of_walk" fR js:=by exact My.dA)
  (a38:FK K "head_of_number" e8 ie:=by exact My.dA)
  (a39:FK K "head_of_cut" gW jX:=by exact My.dA)
  (a40:FK K "head_of_tallied" eE eK:=by exact My.dA)
  (a41:FK K "head_of_meet" gb jj:=by exact My.dA)
  (a42:FK K "head_of_must" fZ jw:=by exact My.dA)
  (a43:FK K "head_told" jn uk:=by exact My.dA)
  (a44:FK K "branches_of" g_ qI:=by exact My.dA)
  (a45:FK K "name_passed" gQ qD:=by exact My.dA)
  (a46:FK K "rows_fit" kf wu:=by exact My.dA)
  (a47:FK K "makes_loose" gP qi:=by exact My.dA)
  (a48:FK K "why_not" lP Af:=by exact My.dA)
  (a49:FK K "known_behind" fP pE:=by exact My.dA)
  (a50:FK K "go_through" fH sH:=by exact My.dA)
  (a51:FK K "survey" ot BK:=by exact My.dA)
  (a52:FK K "head_behind" hV qJ:=by exact My.dA)
  (a53:FK K "_law_sorts" iR sZ:=by exact My.dA)
  (a54:FK K "_law_is_one_row" eG kQ:=by exact My.dA)
  (a55:FK K "_law_told_columns" dM jP:=by exact My.dA)
  (a56:FK K "_law_no_column" fe lZ:=by exact My.dA)
  (a57:FK K "_law_cells_wrong" cK kF:=by exact My.dA)
  (a58:FK K "_law_no_sort" fO pf:=by exact My.dA)
  (a59:FK K "_law_head_next" eZ l0:=by exact My.dA)
  (a60:FK K "_law_why" j_ xC:=by exact My.dA)
  (a61:FK K "_law_flags" iA t_:=by exact My.dA)
  (a62:FK K "_law_put" iQ xx:=by exact My.dA)
  (a63:FK K "_law_judged" gN qf:=by exact My.dA)
  (a64:FK K "_law_end" ky x6:=by exact My.dA)
  (OP:FK K "_law_joining" fN oh:=by exact My.dA)
  (O4:FK K "_law_worker" gK ql:=by exact My.dA)
  (NL:FK K "_law_pipe" gy vC:=by exact My.dA)
  (Nh:FK K "_law_many" gx vc:=by exact My.dA)
  (T7:FK K "_law_drawn" iS tV:=by exact My.dA)
  (SV:FK K "_law_asked" iz rZ:=by exact My.dA)
  (Mp:PySem.W.nsIn K mainGlobals "len"=some none:=by k_is)
  (Mu:PySem.W.nsIn K mainGlobals "max"=some none:=by k_is)
  (Lq:PySem.W.nsIn K mainGlobals "abs"=some none:=by k_is)
  (DY:PySem.W.nsIn K mainGlobals "divmod"=some none:=by k_is)
  (EE:PySem.W.nsIn K mainGlobals "range"=some none:=by k_is)
  (FW:PySem.W.nsIn K mainGlobals "tuple"=some none:=by k_is)
  (J1:PySem.W.nsIn K mainGlobals "list"=some none:=by k_is)
  (rK:PySem.W.nsIn K mainGlobals "isinstance"=some none:=by k_is)
  (MQ:PySem.W.nsIn K mainGlobals "int"=some none:=by k_is)
  (Lu:PySem.W.nsIn K mainGlobals "min"=some none:=by k_is)
  (MD:PySem.W.nsIn K mainGlobals "all"=some none:=by k_is)
  (Cu:PySem.W.nsIn K mainGlobals "sorted"=some none:=by k_is)
  (LF:PySem.W.nsIn K mainGlobals "set"=some none:=by k_is)
  (MR:PySem.W.nsIn K mainGlobals "str"=some none:=by k_is)
  (Mr:PySem.W.nsIn K mainGlobals "any"=some none:=by k_is)
  (Mx:PySem.W.nsIn K mainGlobals "zip"=some none:=by k_is)
  (my:PySem.W.nsIn K mainGlobals "enumerate"=some none:=by k_is)
  (sP:PySem.W.nsIn K mainGlobals "ValueError"=some none:=by k_is)
  {Dx:Addr} {Jv C_:Option Addr} {JI:Array (Option Value)} {HQ CY C9 Br xW Dn:Value}
  (KP:PySem.W.nsIn K mainGlobals "law"=some (some (.ref Dx)):=by k_is) (KO:K.lookup Dx=some ⟨HQ,Jv,.func (PySem.W.fnOf "law" "law" (d0 j4) (cT j4) (ar j4) .none CY C9 Br C_ xW Dn),JI⟩:=by k_is) (LY:PySem.W.codeIn K xW "law"=true:=by k_is) (K4:PySem.W.keepIn K (.ref Dx)=true:=by k_is)
  (TC:PySem.W.nsIn K mainGlobals "NoPipe"=some (some (.ref CF)):=by k_is)
  (SD:PySem.W.nsIn K mainGlobals "PipeError"=some (some (.ref PE)):=by k_is)
  (zC:PySem.W.nsIn K mainGlobals "COLUMNS_OF"=some (some (.ref aC)):=by k_is)
  (zS:PySem.W.nsIn K mainGlobals "SORTS_FIT"=some (some (.ref aS)):=by k_is)
  (zT:PySem.W.nsIn K mainGlobals "HEADS_TOLD"=some (some (.ref aT)):=by k_is)
  (zB:PySem.W.nsIn K mainGlobals "BRANCHED"=some (some (.ref aB)):=by k_is)
  (zO:PySem.W.nsIn K mainGlobals "ONE_ROW"=some (some (.ref aO)):=by k_is)
  (Sy:PySem.W.nsIn K mainGlobals "TALLY"=some (some (.str "t" tT)):=by k_is)
  (zW:PySem.W.nsIn K mainGlobals "WIDEST_ROW"=some (some (.int 6 tW)):=by k_is)
  (lB:K.lookup aB=some ⟨.type "tuple",SR,.seq #[.str "both" QS,.str "meet" tb2] nB,Ry⟩:=by k_is)
  (lO:K.lookup aO=some ⟨.type "tuple",T4,.seq #[.str "keep" Qm,.str "same" to2,.str "cut" to3,.str "turn" P6,.str "must" Q8] nO,RG⟩:=by k_is)
  (RK:PySem.W.findIn K (.ref CF) "__init__"=some (some (.ref zx)):=by k_is)
  (Pf:K.lookup zx=some ⟨La,Lg,.func (PySem.W.fnOf "__init__" "NoPipe.__init__" (d0 ma) (cT ma) (ar ma) .none Lo LS Ls L8 Hq ML),MA⟩:=by k_is)
  (OW:PySem.W.codeIn K Hq "NoPipe.__init__"=true:=by k_is)
  (N7:PySem.W.keepIn K (.ref zx)=true:=by k_is)
  (Te:PySem.W.keepIn K (.ref CF)=true:=by k_is)
  (Su:PySem.W.isFn K (.ref zx)=true:=by k_is)
  (Rm:PySem.W.findIn K (.ref CF) "place"=some none:=by k_is)
  (Tp:PySem.W.findIn K (.ref CF) "why"=some none:=by k_is)
  (cg:PySem.W.specialIn K (.builtin "object.__class__") "__get__"=some (some (.builtin "getset_descriptor.__get__")):=by k_is)
  (ct:PySem.W.takesIn K (.builtin "object.__class__")=some true:=by k_is)
  (x0:Bo K CF PE=true:=by kernel_rfl)
  (e0:lV K CF AJ "ValueError.__new__" (some (.ref zx))=true:=by kernel_rfl)
  (em:PySem.W.exmOne K (.ref CF) (.ref CF)=some true:=by kernel_rfl)
  (kp:PySem.W.kitOne K (.ref CF) (.ref PE)=some true:=by kernel_rfl)
  (kv:PySem.W.kitOne K (.ref CF) (.type "ValueError")=some true:=by kernel_rfl)
  (Qi:PySem.W.kitOne K (.type "int") (.type "str")=some false:=by kernel_rfl)
  (JW:kL K aC "keep" eN=true:=by kernel_rfl)
  (Je:kL K aC "same" jW=true:=by kernel_rfl)
  (Lx:kL K aC "cut" fc=true:=by kernel_rfl)
  (Jk:kL K aC "turn" eN=true:=by kernel_rfl)
  (Ip:kL K aC "must" eN=true:=by kernel_rfl)
  (Il:kL K aC "walk" eN=true:=by kernel_rfl)
  (JO:kL K aC "sort" jm=true:=by kernel_rfl)
  (FN:kL K aC "apart" eL=true:=by kernel_rfl)
  (Fe:kL K aC "count" fc=true:=by kernel_rfl)
  (Lb:kL K aC "sum" j5=true:=by kernel_rfl)
  (B0:kL K aC "number" eL=true:=by kernel_rfl)
  (EI:kL K aC "first" eL=true:=by kernel_rfl)
  (Jh:kL K aC "both" eL=true:=by kernel_rfl)
  (I_:kL K aS "keep" mn=true:=by kernel_rfl)
  (s_same:kL K aS "same" mr=true:=by kernel_rfl)
  (Ja:kL K aS "turn" mz=true:=by kernel_rfl)
  (IK:kL K aS "must" ml=true:=by kernel_rfl)
  (Jb:kL K aS "walk" mI=true:=by kernel_rfl)
  (Mg:kL K aS "sum" p7=true:=by kernel_rfl)
  (Ju:kL K aS "both" mi=true:=by kernel_rfl)
  (Im:kL K aS "meet" mw=true:=by kernel_rfl)
  (J8:v_ K aS "cut"=true:=by kernel_rfl)
  (FV:v_ K aS "sort"=true:=by kernel_rfl)
  (Bx:v_ K aS "apart"=true:=by kernel_rfl)
  (CB:v_ K aS "count"=true:=by kernel_rfl)
  (An:v_ K aS "number"=true:=by kernel_rfl)
  (BY:v_ K aS "first"=true:=by kernel_rfl)
  (Jt:kL K aT "cut" jX=true:=by kernel_rfl)
  (Gh:kL K aT "must" jw=true:=by kernel_rfl)
  (Fx:kL K aT "walk" js=true:=by kernel_rfl)
  (Ej:kL K aT "count" eK=true:=by kernel_rfl)
  (JE:kL K aT "sum" eK=true:=by kernel_rfl)
  (Aq:kL K aT "number" ie=true:=by kernel_rfl)
  (EJ:kL K aT "meet" jj=true:=by kernel_rfl)
  (F5:v_ K aT "keep"=true:=by kernel_rfl)
  (EN:v_ K aT "same"=true:=by kernel_rfl)
  (F6:v_ K aT "turn"=true:=by kernel_rfl)
  (FQ:v_ K aT "sort"=true:=by kernel_rfl)
  (DM:v_ K aT "apart"=true:=by kernel_rfl)
  (BE:v_ K aT "first"=true:=by kernel_rfl)
  (EC:v_ K aT "both"=true:=by kernel_rfl) :
  ∃fd:FuncData,(∀(s:Shared) (v:Value),BindsTo s fd ⟨[v],[]⟩ [("_law_script",v)])/\∀base:Heap,K.In base->base.Ns mainGlobals mg->e9 l.prog w K mg base bc 23 fa fd ["_law_script"] (za K):=by
 have F:=λ{x:Str} {st:Stmt} {f:Addr} (a:FK K x st f)=>a.fa X G
 have h:=λ{x:Str} {st:Stmt} {f:Addr} (a:FK K x st f)=>a.h X G
 cases hfa.symm.trans (PySem.W.mg_of X G KP)
 have Fl:=yl (st:=j4) KO LY K4
 have B:jV mg:=⟨PySem.W.mg_none_of X G Mp,PySem.W.mg_none_of X G Mu,PySem.W.mg_none_of X G Lq,PySem.W.mg_none_of X G DY,PySem.W.mg_none_of X G EE,PySem.W.mg_none_of X G FW,PySem.W.mg_none_of X G J1,PySem.W.mg_none_of X G rK⟩
 have B2:iK mg:=⟨PySem.W.mg_none_of X G MQ,PySem.W.mg_none_of X G Lu,PySem.W.mg_none_of X G MD,PySem.W.mg_none_of X G Cu,PySem.W.mg_none_of X G LF⟩
 have B3:Am mg:=⟨PySem.W.mg_none_of X G MR,PySem.W.mg_none_of X G Mr,PySem.W.mg_none_of X G Mx,PySem.W.mg_none_of X G my⟩
 have mE:=PySem.W.mg_none_of X G my
 have mT:=PySem.W.mg_of X G Sy
 have mW:=PySem.W.mg_of X G zW
 have mC:=PySem.W.mg_of X G zC
 have Tz:=PySem.W.mg_of X G zS
 have mH:=PySem.W.mg_of X G zT
 have Cb:Fs K mg "BRANCHED" aB BP:=⟨PySem.W.mg_of X G zB,λH=>.inr ⟨_,_,_,lB,rfl,rfl,cM,.cons ⟨QS,rfl⟩ (.cons ⟨tb2,rfl⟩ .nil)⟩⟩
 have Co:Fs K mg "ONE_ROW" aO mL:=⟨PySem.W.mg_of X G zO,λH=>.inr ⟨_,_,_,lO,rfl,rfl,tN,.cons ⟨Qm,rfl⟩ (.cons ⟨to2,rfl⟩ (.cons ⟨to3,rfl⟩ (.cons ⟨P6,rfl⟩ (.cons ⟨Q8,rfl⟩ .nil))))⟩⟩
 have Cf:Ji K mg CF zx:=⟨EW x0 cg ct,Rm,Tp,e0,Te,Su,PySem.W.mg_of X G TC⟩
 have T:LL K mg CF PE:=⟨kp,kv,PySem.W.mg_of X G SD,PySem.W.mg_none_of X G sP⟩
 have LV:=yl (st:=ma) Pf OW N7
 have HZ:=LV.binds (ps:=["self","place","why"]) λ_ _ _ _ _ _ us hl=>match us,hl with | [_,_,_],_=>rfl
 refine⟨PySem.W.fnOf "law" "law" (d0 j4) (cT j4) (ar j4) .none CY C9 Br C_ xW Dn,λs v=>.of_eq rfl,λbase _ _=>?_⟩
 have g0:=EK (P:=l.prog) (w:=w) (base:=base) B (F a0)
 have g1:=Ib B (F a1) g0.m
 have g2:=ES (P:=l.prog) (w:=w) (base:=base) B (F a2)
 have g3:=zZ (F a3) g2.m
 have g4:=EF B (F a4) g2.m
 have g5:=CG B2 (F a5) g2.m
 have g6:=Dt (F a6) g5.m g4.m g3.m
 have g7:=zH B (F a7) g2.m
 have g8:=xG B (F a8) g7.m
 have g9:=DJ (F a9) g2.m g4.m
 have HF:=IT B B2 (F a10) g5.m g2.m g4.m g3.m
 have Nm:=C0 B B2 (F a11) g2.m g6.m
 have NI:=DO B (F a12) g2.m g7.m
 have Sk:=Cm B B2 (F a13) g2.m g9.m g6.m
 have OT:=AU B2 (F a14) g7.m g8.m g2.m HF.m Nm.m
 have PB:=Di (F a15) g7.m g9.m Sk.m NI.m g8.m g2.m
 have O5:=zQ (P:=l.prog) (w:=w) (base:=base) B B3 Qi (F a16)
 have QL:=zp (P:=l.prog) (w:=w) (base:=base) (F a17)
 have Ta:=AE (P:=l.prog) (w:=w) (base:=base) (F a18)
 have Se:=xw (P:=l.prog) (w:=w) (base:=base) (F a19)
 have Tt:=uC (P:=l.prog) (w:=w) (base:=base) (F a20)
 have TL:=uy (P:=l.prog) (w:=w) (base:=base) B (F a21)
 have SX:=xo (P:=l.prog) (w:=w) (base:=base) (F a22)
 have Ri:=Dy (P:=l.prog) (w:=w) (base:=base) B (F a23)
 have SM:=zE (aR:=aC) (cO JW) (cO Je) (cO Lx) (cO Jk) (cO Ip) (cO Il) (cO JO) (cO FN) (cO Fe) (cO Lb) (cO B0) (cO EI) (QL.at (h a17)) (Ta.at (h a18)) (Se.at (h a19)) (Tt.at (h a20)) (TL.at (h a21)) (SX.at (h a22))
 have S4:=λ(n:Nat)=>Jo (n:=n) SM (cO Jh) (QL.at (h a17))
 have SY:=λ(n:Nat)=>zK (n:=n) B B2 mC (S4 n) (F a24) Ri.m
 have QZ:=Ed (P:=l.prog) (w:=w) (base:=base) mT (F a25)
 have Pc:=uA B2 mT (F a26) O5.m
 have Sf:=λ(n:Nat)=>vL (n:=n) (P:=l.prog) (w:=w) (base:=base) mT (F a27)
 have Rx:=λ(n:Nat)=>uW (n:=n) (F a28) QZ.m
 have RE:=λ(n:Nat)=>xB (n:=n) (P:=l.prog) (w:=w) (base:=base) (F a29)
 have Tn:=λ(n:Nat)=>vW (n:=n) (F a30) QZ.m
 have R6:=λ(n:Nat)=>vU (n:=n) (P:=l.prog) (w:=w) (base:=base) (F a31)
 have Sr:=λ(n:Nat)=>vm (n:=n) (F a32) Pc.m
 have Tv:=λ(n:Nat)=>uX (n:=n) (F a33) Pc.m
 have KL:=λ(n:Nat)=>vk (n:=n) B (F a34) O5.m Pc.m
 have Rw:=λ(n:Nat)=>Ab (n:=n) (aS:=aS) (cO I_) (cO s_same) (cO Ja) (cO IK) (cO Jb) (cO Mg) (cO Ju) (cO Im) (iw J8) (iw FV) (iw Bx) (iw CB) (iw An) (iw BY) ((Sf n).at (h a27)) ((Rx n).at (h a28)) ((Sr n).at (h a32)) ((KL n).at (h a34)) ((Tv n).at (h a33)) ((RE n).at (h a29)) ((R6 n).at (h a31)) ((Tn n).at (h a30))
 have Rh:=λ(n:Nat)=>vS (n:=n) Tz (Rw n) (F a35)
 have P4:=zt (P:=l.prog) (w:=w) (base:=base) B (F a36)
 have Tu:=λ(n:Nat)=>Cj (n:=n) (P:=l.prog) (w:=w) (base:=base) (F a37)
 have RN:=λ(n:Nat)=>ya (n:=n) (P:=l.prog) (w:=w) (base:=base) mT (F a38)
 have RY:=λ(n:Nat)=>Gx (n:=n) (F a39) P4.m
 have Sg:=λ(n:Nat)=>Dp (n:=n) mT (F a40) P4.m
 have SW:=λ(n:Nat)=>CH (n:=n) (P:=l.prog) (w:=w) (base:=base) (F a41)
 have TN:=λ(n:Nat)=>CU (n:=n) B (F a42) O5.m
 have RT:=λ(n:Nat)=>yh (n:=n) (aT:=aT) (cO Jt) (cO Gh) (cO Fx) (cO Ej) (cO JE) (cO Aq) (cO EJ) (iw F5) (iw EN) (iw F6) (iw FQ) (iw DM) (iw BE) (iw EC) ((RY n).at (h a39)) ((TN n).at (h a42)) ((Tu n).at (h a37)) ((Sg n).at (h a40)) ((RN n).at (h a38)) ((SW n).at (h a41))
 have Q3:=λ(n:Nat)=>uV (n:=n) mH (RT n) (F a43)
 have M9:=λ(n:Nat)=>IJ (n:=n) (P:=l.prog) (w:=w) (base:=base) Cb (F a44)
 have KG:=λ(n:Nat)=>F1 (n:=n) (P:=l.prog) (w:=w) (base:=base) (F a45)
 have Kw:=λ(n:Nat)=>xY (n:=n) B2 Co (F a46) (M9 n).m
 have Jq:=λ(n:Nat)=>CM (n:=n) B3 mT (F a47) (KG n).m
 have Kq:=λ(n:Nat)=>AK (n:=n) B mW (F a48) (SY n).m (Rh n).m (Q3 n).m (Kw n).m
 have O0:=λ(n:Nat)=>zV (n:=n) B B2 B3 (F a49) (Q3 n).m (KG n).m (Jq n).m
 have Qo:=Bz (P:=l.prog) (w:=w) (base:=base) B B2 B3 Qi (F a53)
 have QG:=λ(n:Nat)=>BR (n:=n) (P:=l.prog) (w:=w) (base:=base) (F a54)
 have QF:=λ(n:Nat)=>Fq (n:=n) (P:=l.prog) (w:=w) (base:=base) B (F a55)
 have Nz:=λ(n:Nat)=>Bt (n:=n) B (F a56) (QF n).m
 have S7:=λ(n:Nat)=>AB (n:=n) B (F a57) Qo.m
 have RQ:=λ(n:Nat)=>Ag (n:=n) B2 (F a58) (QF n).m (S7 n).m
 have Nc:=λ(n:Nat)=>vP (n:=n) B (F a59) Qo.m
 have Pj:=λ(n:Nat)=>EZ (n:=n) B B2 (F a60) (Nz n).m (RQ n).m (Nc n).m (QG n).m
 have Pn:=λ(n:Nat)=>DI (n:=n) (F a61) (QG n).m
 have HK:=DR (P:=l.prog) (w:=w) (base:=base) (mg:=mg) (C:=CF) LV
 have Ss:=JC (P:=l.prog) (w:=w) (base:=base) (C:=CF) (L:=4) (F a50)
 have Ru:=yj (C:=CF) (n:=0) (L:=0) B mE Cf (F a50) HK HZ (M9 0).m Ss.m (Kq 0).m (O0 0).m
 have go2:=yj (C:=CF) (n:=1) (L:=1) B mE Cf (F a50) HK HZ (M9 1).m Ru.m (Kq 1).m (O0 1).m
 have RZ:=yj (C:=CF) (n:=2) (L:=2) B mE Cf (F a50) HK HZ (M9 2).m go2.m (Kq 2).m (O0 2).m
 have sv:=AV (C:=CF) (n:=2) (L:=2) (F a51) RZ.m
 have hb:=qu (C:=CF) (n:=2) (L:=2) (F a52) sv.m
 have NR:=Fj (P:=l.prog) (w:=w) (base:=base) (L:=4) (F a62)
 have Ow:=uc (n:=0) (L:=0) B B2 B3 mE (F a62) NR.m (Pj 0).m (Pn 0).m (Nc 0).m
 have put2:=uc (n:=1) (L:=1) B B2 B3 mE (F a62) Ow.m (Pj 1).m (Pn 1).m (Nc 1).m
 have put3:=uc (n:=2) (L:=2) B B2 B3 mE (F a62) put2.m (Pj 2).m (Pn 2).m (Nc 2).m
 have ju:=Av (n:=2) (L:=2) (F a63) put3.m
 have en:=Ka (n:=2) (L:=2) (F a64) ju.m
 have L5:=DT (P:=l.prog) (w:=w) (base:=base) (L:=11) (F NL)
 have Mi:=nH (N:=0) (L:=12) (Le:=10) (by decide) (by decide) (by decide) B2 (F OP) g2.m L5.m g7.m en.m HF.m
 have Me:=pd (N:=0) (L:=13) (by decide) B B2 (F O4) g2.m OT.m Mi.m PB.m
 have LJ:=oE (N:=0) (L:=14) (Lj:=9) (by decide) (by decide) (by decide) B B2 (F NL) Me.m ju.m g2.m
 have L4:=nH (N:=1) (L:=15) (Le:=10) (by decide) (by decide) (by decide) B2 (F OP) g2.m LJ.m g7.m en.m HF.m
 have MF:=pd (N:=1) (L:=16) (by decide) B B2 (F O4) g2.m OT.m L4.m PB.m
 have pipe2:=oE (N:=1) (L:=17) (Lj:=9) (by decide) (by decide) (by decide) B B2 (F NL) MF.m ju.m g2.m
 have KY:=nH (N:=2) (L:=18) (Le:=10) (by decide) (by decide) (by decide) B2 (F OP) g2.m pipe2.m g7.m en.m HF.m
 have Mq:=pd (N:=2) (L:=19) (by decide) B B2 (F O4) g2.m OT.m KY.m PB.m
 have KS:=oE (N:=2) (L:=20) (Lj:=9) (by decide) (by decide) (by decide) B B2 (F NL) Mq.m ju.m g2.m
 have MO:=Cd (P:=l.prog) (w:=w) (base:=base) (L:=0) (F Nh)
 have many1:=pY (n:=0) (L:=1) (F Nh) MO.m
 have ME:=pY (n:=1) (L:=2) (F Nh) many1.m
 have K3:=pY (n:=2) (L:=3) (F Nh) ME.m
 have dr:=Ei (L:=21) (Lm:=4) (by decide) (by decide) B B2 (F T7) g2.m KS.m K3.m
 have asked:=B5 (L:=10) (C:=CF) (PE:=PE) B Cf T em (F SV) hb.m
 exact JP (L:=22) B B2 Fl g1.m dr.m ju.m asked.m
theorem walk{l:PySem.W.OpenLaw}{q:Program}{loose:List Str}{XP:(Str->Option Value)->Heap->Prop}{YP:World->Heap->Prop}{d:DefRec}{K:Params->PySem.W.Frag}(hn:l.most=some 63)(hdf:d.params.defaults=[])
  (hY:∀(w:World) (h:Heap),YP w h->(K w.params).In h)
  (F:∀(w:World) (mg:Str->Option Value) (fa:Addr) (h:Heap),(K w.params).In h->h.Ns mainGlobals mg->mg d.name=some (.ref fa)->
   ∃fd:FuncData,(∀(s:Shared) (u:Value),BindsTo s fd ⟨[u],[]⟩ [("_law_script",u)])/\∀base:Heap,(K w.params).In base->base.Ns mainGlobals mg->e9 l.prog w (K w.params) mg base bc 23 fa fd ["_law_script"] (za (K w.params))) :
  PySem.W.WalkO q loose XP YP l.row.toRowW d [] (λf vs=>PySem.call f vs) :=
 L2.Fp (n:=63) (k:=23) (x:="_law_script") (CX:=λ_=>bc) (sp:=λw=>za (K w.params)) hn (by decide) hdf ⟨rfl,by decide,by decide⟩ hY F (λ_ _ a ns hl _ hS=>⟨a,ns,rfl,hS,hl,λ_=>rfl⟩) λ_ _ _ _ _ z=>z
end My
def PySem.W.Fast.tw5386612873508456981 : Nat := 0
def PySem.W.Fast.tw101541781390866274 : Nat := 0
def PySem.W.Fast.tw10477317324086207902 : Nat := 0
def PySem.W.Fast.tw11013474049760223004 : Nat := 0
def PySem.W.Fast.tw7837814656666327879 : Nat := 0
def PySem.W.Fast.tw8853983855833921372 : Nat := 0
def PySem.W.Fast.tw13593233647055291590 : Nat := 0
def PySem.W.Fast.tw15502873483686719920 : Nat := 0
def PySem.W.Fast.tw13409828189616794876 : Nat := 0
def PySem.W.Fast.tw2174695871024465258 : Nat := 0
def PySem.W.Fast.tw17735912748264792898 : Nat := 0
def PySem.W.Fast.tw12906767909946136348 : Nat := 0
def PySem.W.Fast.tw11636096963868640926 : Nat := 0
def PySem.W.Fast.tw9568787141508033057 : Nat := 0
def PySem.W.Fast.tw9528791161813504831 : Nat := 0
def PySem.W.Fast.tw15922782316856008851 : Nat := 0
def PySem.W.Fast.tw2875997865507712247 : Nat := 0
open PySem PySem.W PyProof.Rows
set_option maxRecDepth 100000 in
set_option maxHeartbeats 0 in
theorem PySem.Challenge.cw_rowpipes_k24_whole_heads_holds : PySem.Challenge.rw_rowpipes_k24_whole_heads.Holds := by
 w_on; o_law; k_head; (case hw=>w_witness2)
 k_fill
 refine My.walk (l:=PySem.Challenge.rw_rowpipes_k24_whole_heads) rfl rfl (λw h Y=>PySem.W.kIn_of Y) ?F
 case F =>
  intro w mg fa h KX G hmg
  exact My.all_mk KX G hmg
