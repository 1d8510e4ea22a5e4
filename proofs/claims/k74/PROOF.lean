import PyProof.Rows.All
import Wide.All
import OpenK.AllK
import Wide.FinOn
import Lean
import PyProof.EqAt
import PyProof.EqKinds
import PyProof.TupleCall
import PyProof.NeKinds
import PyProof.SumAny
import PyProof.SetRoads
import PyProof.ListRange
import PySem.Challenge.RW_rowpipes_k74_facts_refused
set_option Elab.async false
set_option linter.all false
set_option maxRecDepth 100000
set_option maxHeartbeats 0
abbrev TK:=@PySem.wpAny_bind
abbrev TM:=@PySem.wpAny_pure
abbrev TN:=@PySem.Heap.get?_push_of_some
abbrev TQ:=@PySem.Heap.lt_size
abbrev TR:=@PySem.Heap.get?_push_size
abbrev TU:=@Nat.le_refl
abbrev TV:=@Nat.le_trans
abbrev TX:=@decide_eq_false
abbrev TY:=@decide_eq_true
abbrev TZ:=@List.length_map
abbrev T1:=@List.length_append
abbrev T4:=@List.map_append
abbrev T8:=@Nat.lt_of_le_of_lt
abbrev T9:=@Nat.lt_of_lt_of_le
abbrev T_:=@List.getElem?_eq_getElem
abbrev Ua:=@List.mem_append_right
abbrev Ub:=@List.mem_of_getElem?
abbrev Uc:=@List.mem_cons_of_mem
abbrev Ud:=@Bool.false_ne_true
abbrev Ue:=@List.size_toArray
abbrev Ug:=@List.getElem?_eq_some_iff
abbrev Uh:=@List.mem_singleton
abbrev Ui:=@List.mem_map
abbrev Uj:=@List.mem_cons
abbrev Uk:=@Bool.eq_false_iff
abbrev Ul:=@List.mem_append
abbrev Um:=@Nat.ne_of_lt
abbrev Uo:=@Nat.zero_le
abbrev Up:=@Option.some.inj
abbrev Uq:=@List.getElem?_append_right
abbrev Ur:=@List.getElem?_append_left
abbrev Us:=@List.getElem?_map
abbrev Ut:=@List.length_take
abbrev Uu:=@Array.getElem?_eq_getElem
abbrev Uv:=@PySem.wpAny_mono
abbrev Uw:=@PySem.wpAny_holding
abbrev Ux:=@PySem.wpAny_newObj_type
abbrev Uy:=@List.mem_cons_self
abbrev Uz:=@List.length_cons
abbrev UA:=@Bool.and_eq_true
abbrev UB:=@of_decide_eq_true
abbrev UC:=@absurd
abbrev UD:=@if_neg
abbrev UE:=@if_pos
abbrev UG:=@List.not_mem_nil
abbrev UH:=@Or.inl
abbrev UI:=@List.take_length
abbrev UJ:=@False.elim
abbrev UK:=@PySem.W.mg_none_of
abbrev UL:=@PyProof.Rows.boot_tuple
abbrev UM:=@PyProof.Rows.boot_int
abbrev UN:=@List.append_nil
abbrev UO:=@PySem.wpAny_call_entry
abbrev UP:=@Nat.le_of_eq
abbrev UQ:=@List.lookup_cons
abbrev UR:=@List.map_cons
abbrev US:=@Array.length_toList
abbrev UT:=@List.any_cons
abbrev UU:=@PySem.boot_len
abbrev UW:=@PySem.W.mg_of
abbrev UX:=PySem.W.Frag
namespace L2
open PySem PySem.Spec PyProof.Rows
abbrev Key:=Sum Int Str
def gz:Key->Value->Bool
 | .inl k,v=>Value.isInt k v
 | .inr x,v=>Value.isStrOf x v
def Me(w:World):Key->Int
 | .inl k=>hashInt k
 | .inr x=>hashStr w x
theorem bB:∀{k:Key}{v:Value},gz k v=true->(∃i t,k=Sum.inl i/\v=Value.int i t)\/(∃x t,k=Sum.inr x/\v=Value.str x t)
 | .inl i,v,h=>by obtain⟨t,e⟩:=Value.isInt_shape (k:=i) (v:=v) h;exact .inl ⟨i,t,rfl,e⟩
 | .inr x,v,h=>by obtain⟨t,e⟩:=Value.isStrOf_shape (x:=x) (v:=v) h;exact .inr ⟨x,t,rfl,e⟩
theorem nI(i:Int)(t:Tok):gz (.inl i) (.int i t)=true:=by simp[gz,Value.isInt]
theorem nk(x:Str)(t:Tok):gz (.inr x) (.str x t)=true:=by simp[gz,Value.isStrOf]
theorem Jk(a b:Int):decide ((Sum.inl a:Key)=Sum.inl b)=(a==b):=by
 by_cases e:a=b
 ·subst e;simp
 ·have h:¬(Sum.inl a:Key)=Sum.inl b:=λq=>e (Sum.inl.inj q);rw[TX h];exact(beq_eq_false_iff_ne.mpr e).symm
theorem IQ(a b:Str):decide ((Sum.inr a:Key)=Sum.inr b)=decide (a=b):=by
 by_cases e:a=b
 ·subst e;simp
 ·have h:¬(Sum.inr a:Key)=Sum.inr b:=λq=>e (Sum.inr.inj q);rw[TX h,TX e]
theorem Jv(a:Int)(b:Str):decide ((Sum.inl a:Key)=Sum.inr b)=false:=TX (λq=>nomatch q)
theorem Il(a:Str)(b:Int):decide ((Sum.inr a:Key)=Sum.inl b)=false:=TX (λq=>nomatch q)
def bC(prog:Program)(w:World):PySem.KeyKind prog w Key where
 is:=gz
 hash:=Me w
 inj:=λv a b ha hb=>by
  rcases bB ha with⟨i,t,rfl,rfl⟩|⟨x,t,rfl,rfl⟩
  ·rcases bB hb with⟨j,u,rfl,e⟩|⟨y,u,rfl,e⟩
   ·injection e with e1 _;rw[e1]
   ·exact nomatch e
  ·rcases bB hb with⟨j,u,rfl,e⟩|⟨y,u,rfl,e⟩
   ·exact nomatch e
   ·injection e with e1 _;rw[e1]
 byValue:=λk v h=>by rcases bB h with⟨i,t,rfl,rfl⟩|⟨x,t,rfl,rfl⟩<;>rfl
 pyHash:=λhv h=>by
  rcases bB hv with⟨i,t,rfl,rfl⟩|⟨x,t,rfl,rfl⟩
  ·exact wpAny_pyHash_int h
  ·exact wpAny_pyHash_str h
 eqBool:=λhu hv h=>by
  rcases bB hu with⟨i,t,rfl,rfl⟩|⟨x,t,rfl,rfl⟩
  ·rcases bB hv with⟨j,u,rfl,rfl⟩|⟨y,u,rfl,rfl⟩
   ·rw[Jk]at h;exact wpAny_eqBool_int h
   ·rw[Jv]at h;exact SeqAt.EqAt.int_str i t y u _ _ _ _ h
  ·rcases bB hv with⟨j,u,rfl,rfl⟩|⟨y,u,rfl,rfl⟩
   ·rw[Il]at h;exact SeqAt.EqAt.str_int x t j u _ _ _ _ h
   ·rw[IQ]at h;exact wpAny_eqBool_str h
 «strs»:=λk x t v h=>by
  rcases bB h with⟨i,u,rfl,e⟩|⟨y,u,rfl,e⟩
  ·exact nomatch e
  ·injection e with e1 _;subst e1;cases v<;>rfl
abbrev cO:=Option Key
def Hu:cO->Value->Bool
 |none,.none=>true
 |none,_=>false
 |some k,v=>gz k v
theorem uk{prog:Program}{w:World}{A:Around}{E:Value->Shared->Prop}{s:Shared}{Q:Int->Shared->Prop}(h:Q 0xFCA86420 {s with toks:=s.toks+1}):wpAny (model prog w) A (pyHash .none) Q E s:=by
 unfold pyHash;have hv:[Value.none].any Value.onHeap=false:=rfl;refine TK ?_;rw[cRoomFor,UD (by rw[hv];exact Ud)];refine TM ?_;refine TK (wpAny_specialOf (typeIs_none s) F.slot_NoneType_hash.lookup ?_);show wpAny _ _ (if(some (Value.builtin "NoneType.__hash__")==some Value.none)=true then _ else _) Q E s;rw[UD (by rw[beq_builtin_none];exact Ud)];refine TK (wpAny_specialOf (typeIs_none s) F.slot_NoneType_hash.lookup ?_);refine TK (wpAny_callSpecialIfBoundUnlessNone?_slot (typeIs_none s) F.slot_NoneType_hash
  (UO F.slot_NoneType_hash (typeIs_none s) F.entry_NoneType_hash
   (show wpAny _ _ (do ret (←mkInt 0xFCA86420)) _ _ s from wpAny_ret_mkInt ?_) (F.args_NoneType_hash_1 _)))
 show wpAny _ _ (if(decide (-(2:Int) ^ 63<=0xFCA86420)&&decide ((0xFCA86420:Int)<2 ^ 63))=true then _ else _) Q E _;rw[UE (by decide)];exact TM h
theorem cJ:∀{k:cO}{v:Value},Hu k v=true->(k=none/\v=.none)\/∃k',k=some k'/\gz k' v=true
 |none,.none,_=>.inl ⟨rfl,rfl⟩
 |some k,v,h=>.inr ⟨k,rfl,h⟩
theorem Dp(a b:Key):decide ((some a:cO)=some b)=decide (a=b):=by
 by_cases e:a=b
 ·subst e;simp
 ·rw[TX e,TX (λq=>e (Up q))]
theorem Iq(a:Key):decide ((some a:cO)=none)=false:=TX (λq=>nomatch q)
theorem HL(a:Key):decide ((none:cO)=some a)=false:=TX (λq=>nomatch q)
def optKind(prog:Program)(w:World):PySem.KeyKind prog w cO where
 is:=Hu
 hash:=λk=>match k with|none=>0xFCA86420|some k=>Me w k
 inj:=λv a b ha hb=>by
  rcases cJ ha with⟨rfl,rfl⟩|⟨a',rfl,ha'⟩
  ·rcases cJ hb with⟨rfl,_⟩|⟨b',rfl,hb'⟩
   ·rfl
   ·rcases bB hb' with⟨j,u,_,e⟩|⟨y,u,_,e⟩<;>exact nomatch e
  ·rcases cJ hb with⟨rfl,rfl⟩|⟨b',rfl,hb'⟩
   ·rcases bB ha' with⟨j,u,_,e⟩|⟨y,u,_,e⟩<;>exact nomatch e
   ·rw[(bC prog w).inj v a' b' ha' hb']
 byValue:=λk v h=>by
  rcases cJ h with⟨rfl,rfl⟩|⟨k',rfl,h'⟩
  ·rfl
  ·exact(bC prog w).byValue k' v h'
 pyHash:=λhv h=>by
  rcases cJ hv with⟨rfl,rfl⟩|⟨k',rfl,h'⟩
  ·exact uk h
  ·exact(bC prog w).pyHash h' h
 eqBool:=λ{A E s a b u v Q} hu hv h=>by
  rcases cJ hu with⟨rfl,rfl⟩|⟨k,rfl,hk⟩
  ·rcases cJ hv with⟨rfl,rfl⟩|⟨l,rfl,hl⟩
   ·unfold eqBool;refine Uw ?_;rw[TY rfl]at h;exact wpAny_ite_split (λ_=>TK (wpAny_rule (TM h))) (λhn=>UC rfl hn)
   ·rw[HL]at h;rcases bB hl with⟨j,u,rfl,rfl⟩|⟨y,u,rfl,rfl⟩
    ·exact SeqAt.EqAt.none_int j u _ _ _ _ h
    ·exact SeqAt.EqAt.none_str y u _ _ _ _ h
  ·rcases cJ hv with⟨rfl,rfl⟩|⟨l,rfl,hl⟩
   ·rw[Iq]at h;rcases bB hk with⟨j,u,rfl,rfl⟩|⟨y,u,rfl,rfl⟩
    ·exact SeqAt.EqAt.int_none j u _ _ _ _ h
    ·exact SeqAt.EqAt.str_none y u _ _ _ _ h
   ·rw[Dp]at h;exact(bC prog w).eqBool hk hl h
 «strs»:=λk x t v h=>by
  rcases cJ h with⟨_,e⟩|⟨k',rfl,h'⟩
  ·exact nomatch e
  ·exact(bC prog w).strs k' x t v h'
theorem ur(prog:Program)(w:World)(i:Int)(t:Tok):(bC prog w).is (.inl i) (.int i t)=true:=nI i t
theorem vt(prog:Program)(w:World)(x:Str)(t:Tok):(bC prog w).is (.inr x) (.str x t)=true:=nk x t
inductive V where
 |non|bl (b:Bool)|int (i:Int)|str (x:Str)|yW (b:Array UInt8)|flt (b:UInt64)|ref (a:Addr)|ty (n:String)
 deriving DecidableEq
def RelV:V->Value->Prop
 | .non,u=>u=Value.none
 | .bl b,u=>u=Value.bool b
 | .int i,u=>∃t,u=Value.int i t
 | .str x,u=>∃t,u=Value.str x t
 | .yW b,u=>∃t,u=Value.bytes b t
 | .flt b,u=>∃t,u=Value.float b t
 | .ref a,u=>u=Value.ref a
 | .ty n,u=>u=Value.type n
abbrev Vals:List V->List Value->Prop:=Paired RelV
theorem Vals.length{xs:List V}{us:List Value}(r:Vals xs us):xs.length=us.length:=Paired.length r
theorem Vals.get:∀{xs:List V}{us:List Value}{i:Nat}{x:V},Vals xs us->xs[i]? = some x->∃u,us[i]? = some u/\RelV x u
 |_,_,_,_,.nil,e=>by simp at e
 |_,_,0,_,.cons r _,e=>by simp at e;subst e;exact⟨_,rfl,r⟩
 |_,_,i+1,x,.cons _ t,e=>by obtain⟨u,h1,h2⟩:=Vals.get (i:=i) (x:=x) t (by simpa using e);exact⟨u,by simpa using h1,h2⟩
theorem Vals.set{x:V}{u:Value}(r:RelV x u):∀{xs:List V}{us:List Value}(i:Nat),Vals xs us->Vals (xs.set i x) (us.set i u)
 |_,_,_,.nil=>.nil
 |_,_,0,.cons _ t=>.cons r t
 |_,_,i+1,.cons q t=>.cons q (Vals.set r i t)
theorem Vals.append{xs ys:List V}{us ws:List Value}(h:Vals xs us)(g:Vals ys ws):Vals (xs++ys) (us++ws):=by
 induction h with
 |nil=>exact g
 |cons r t ih=>exact .cons r ih
theorem Vals.take:∀{xs:List V}{us:List Value}(n:Nat),Vals xs us->Vals (xs.take n) (us.take n)
 |_,_,0,_=>.nil
 |_,_,_+1,.nil=>.nil
 |_,_,n+1,.cons r t=>.cons r (Vals.take n t)
theorem Vals.drop:∀{xs:List V}{us:List Value}(n:Nat),Vals xs us->Vals (xs.drop n) (us.drop n)
 |_,_,0,r=>r
 |_,_,_+1,.nil=>.nil
 |_,_,n+1,.cons _ t=>Vals.drop n t
def iD:Option V->Option Value->Prop
 |some v,some u=>RelV v u
 |none,none=>True
 |_,_=>False
def KV{κ:Type}:List (κ×V)->List (κ×Value)->Prop:=Paired λ(p:κ×V) (q:κ×Value)=>p.1=q.1/\RelV p.2 q.2
def kV:Key->V
 | .inl i=>.int i
 | .inr x=>.str x
def oV:cO->V
 |none=>.non
 |some k=>kV k
inductive HO where
 |lst (xs:List V)
 |tup (xs:List V)
 |dK (kvs:List (Key×V))|dT (kvs:List (List cO×V))
 |set (S:Int->Bool) (n:Nat)
 |ins (C dx:Addr) (fs:List (Str×V))
 |own (x:Addr)
 |xd (fs:List (Str×V))
 |met (f x:Addr)
 |A3 (lo hi:Int)
 |xI (o:Obj) (u:HO)
 |GL (ps:Array Value)
 |ext (φ:Heap->Prop)
abbrev Hp:=Addr->Option HO
def upd(H:Hp)(a:Addr)(o:HO):Hp:=λb=>if b=a then some o else H b
theorem ae{H:Hp}{a:Addr}{o:HO}:upd H a o a=some o:=by unfold upd;rw[UE rfl]
theorem aI{H:Hp}{a b:Addr}{o:HO}(h:b≠a):upd H a o b=H b:=by unfold upd;rw[UD h]
theorem vQ{H:Hp}{a b:Addr}{o u:HO}(h:H a=some o)(h':H b=some u)(d:o≠u):a≠b:=by intro e;subst e;rw[h]at h';exact d (Up h')
theorem a_{H:Hp}{a b:Addr}{o:HO}(h:H a=some o)(h':H b=none):a≠b:=by intro e;subst e;rw[h]at h';cases h'
def iS(h:Heap)(a:Addr)(items:Array Value):Prop:=∃o,h.get? a=some o/\o.cls=.type "tuple"/\(∃n,o.data=.seq items n)/\o.dict=none
theorem iS.tup{h:Heap}{a:Addr}{items:Array Value}(x:iS h a items):IsTup h a items:=let ⟨o,ho,hc,hd,_⟩:=x;⟨o,ho,hc,hd⟩
theorem iS.new(h:Heap)(items:Array Value):iS (h.push {cls:=.type "tuple",data:=.seq items}) h.objs.size items:=⟨_,TR _ rfl,rfl,⟨_,rfl⟩,rfl⟩
section
variable(P:Program)(w:World)
def cc(H:Hp)(h:Heap)(a:Addr):HO->Prop
 | .lst xs=>xs.length<=sizeLine/\∃(its:List Value)(n:Nat),Vals xs its/\h.get? a=some {cls:=.type "list",data:=.seq its.toArray n}
 | .tup xs=>xs.length<=sizeLine/\∃its:List Value,Vals xs its/\iS h a its.toArray
 | .dK kvs=>kvs.length<=sizeLine/\(a==sysModules)=false/\∃vs,KV kvs vs/\h.DictOf (bC P w) a vs
 | .dT kvs=>kvs.length<=sizeLine/\(a==sysModules)=false/\∃xs:List (List cO×Addr×Value),
   Paired (λ(p:List cO×V) (q:List cO×Addr×Value)=>p.1=q.1/\H q.2.1=some (.tup (p.1.map oV))/\RelV p.2 q.2.2) kvs xs/\
   ∃o es ep,h.get? a=some o/\o.ExactDict/\o.data=.dict es ep/\es.toList=xs.map (entryOfKey (tupleKind (optKind P w)))/\(xs.map (·.1)).Nodup
 | .set S n=>h.SetOf (intKind P w) a S n
 | .ins C dx fs=>H dx=some (.own a)/\fs.length<=1000/\dx≠a/\h.get? a=some (PySem.W.instObj C dx)/\
   ∃mA,h.Ns1 dx mA/\(∀f,iD (fs.lookup f) (mA f))/\PySem.Within mA (fs.map (·.1))
 | .own _=>∃o,h.get? a=some o
 | .xd fs=>∃mA,h.Ns1 a mA/\∀f,iD (fs.lookup f) (mA f)
 | .A3 lo hi=>∃t u v,h.get? a=some {cls:=.type "range",data:=.fields #[.int lo t,.int hi u,.int 1 v]}
 | .xI o u=>h.get? a=some o/\cc H h a u
 | .GL ps=>h.get? a=some {cls:=.none,data:=.fields ps}
 | .met f x=>h.get? a=some (PySem.W.methodObj (.ref f) (.ref x))
 | .ext φ=>φ h/\(∃o,h.get? a=some o)/\∀h1 h2:Heap,φ h1->(∀o,h1.get? a=some o->h2.get? a=some o)->φ h2
def jq(H:Hp)(h:Heap):Prop:=∀a o,H a=some o->cc P w H h a o
end
section
variable{P:Program}{w:World}{H H':Hp}{h h':Heap}{a:Addr}{o:HO}
theorem cc.lt(x:cc P w H h a o):a<h.objs.size:=by
 cases o with
 |lst xs=>obtain⟨_,_,_,_,e⟩:=x;exact TQ e
 |tup xs=>obtain⟨_,_,_,p⟩:=x;exact p.tup.lt
 |dK kvs=>obtain⟨_,_,_,_,o,_,_,e,_⟩:=x;exact TQ e
 |dT kvs=>obtain⟨_,_,_,_,o,_,_,e,_⟩:=x;exact TQ e
 |set S n=>obtain⟨o,_,_,_,e,_⟩:=x;exact TQ e
 |ins C dx fs=>obtain⟨_,_,_,e,_⟩:=x;exact TQ e
 |own y=>obtain⟨_,e⟩:=x;exact TQ e
 |xd fs=>obtain⟨_,⟨_,_,_,e,_⟩,_⟩:=x;exact TQ e
 |A3 lo hi=>obtain⟨_,_,_,e⟩:=x;exact TQ e
 |xI ob u=>obtain⟨e,_⟩:=x;exact TQ e
 |GL ps=>exact TQ (show h.get? a=some _ from x)
 |met f y=>exact TQ (show h.get? a=some _ from x)
 |ext φ=>obtain⟨_,⟨_,e⟩,_⟩:=x;exact TQ e
theorem Paired.LO{α β:Type}{F G:α->β->Prop}{l₁:List α}{l₂:List β}(h:Paired F l₁ l₂)(f:∀a b,F a b->G a b):Paired G l₁ l₂:=by
 induction h with
 |nil=>exact .nil
 |cons r t ih=>exact .cons (f _ _ r) ih
theorem cc.stay(x:cc P w H h a o)(k:∀b u,(b=a\/H b=some (.own a))->h.get? b=some u->h'.get? b=some u)
  (ho:∀b,H b=some (.own a)->H' b=some (.own a)) (ht:∀b xs,H b=some (.tup xs)->H' b=some (.tup xs)):cc P w H' h' a o:=by
 induction o with
 |lst xs=>obtain⟨z,its,n,r,e⟩:=x;exact⟨z,its,n,r,k _ _ (.inl rfl) e⟩
 |tup xs=>obtain⟨z,its,r,ob,e,c⟩:=x;exact⟨z,its,r,ob,k _ _ (.inl rfl) e,c⟩
 |dK kvs=>obtain⟨z,y,vs,r,ob,es,ep,e,c⟩:=x;exact⟨z,y,vs,r,ob,es,ep,k _ _ (.inl rfl) e,c⟩
 |dT kvs =>obtain⟨z,y,xs,r,ob,es,ep,e,c⟩:=x;exact⟨z,y,xs,Paired.LO r λp q z=>⟨z.1,ht _ _ z.2.1,z.2.2⟩,ob,es,ep,k _ _ (.inl rfl) e,c⟩
 |set S n=>obtain⟨ob,es,ep,t,e,c⟩:=x;exact⟨ob,es,ep,t,k _ _ (.inl rfl) e,c⟩
 |ins C dx fs =>obtain⟨d,z,ne,e,mA,⟨od,es,ep,e2,c⟩,r⟩:=x;exact⟨ho _ d,z,ne,k _ _ (.inl rfl) e,mA,⟨od,es,ep,k _ _ (.inr d) e2,c⟩,r⟩
 |own y=>obtain⟨ob,e⟩:=x;exact⟨ob,k _ _ (.inl rfl) e⟩
 |xd fs=>obtain⟨mA,⟨od,es,ep,e,c⟩,r⟩:=x;exact⟨mA,⟨od,es,ep,k _ _ (.inl rfl) e,c⟩,r⟩
 |A3 lo hi=>obtain⟨t,u,v,e⟩:=x;exact⟨t,u,v,k _ _ (.inl rfl) e⟩
 |xI ob u ih=>obtain⟨e,q⟩:=x;exact⟨k _ _ (.inl rfl) e,ih q⟩
 |GL ps =>have e:h.get? a=some {cls:=.none,data:=.fields ps}:=x;show h'.get? a=some {cls:=.none,data:=.fields ps};exact k a _ (.inl rfl) e
 |met f y =>have e:h.get? a=some (PySem.W.methodObj (.ref f) (.ref y)):=x;show h'.get? a=some (PySem.W.methodObj (.ref f) (.ref y));exact k a _ (.inl rfl) e
 |ext φ=>obtain⟨p,⟨o,e⟩,st⟩:=x;exact⟨st _ _ p λo q=>k _ _ (.inl rfl) q,⟨o,k _ _ (.inl rfl) e⟩,st⟩
theorem jq.lt(x:jq P w H h)(e:H a=some o):a<h.objs.size:=(x a o e).lt
theorem jq.fresh(x:jq P w H h)(e:h.objs.size<=a):H a=none:=by
 cases q:H a with
 |none=>rfl
 |some u=>exact UC (T9 (x.lt q) e) (Nat.lt_irrefl _)
theorem jq.kept(x:jq P w H h)(k:∀b u,h.get? b=some u->h'.get? b=some u):jq P w H h':=λa o e =>
 (x a o e).stay (λb u _ q=>k b u q) (λ_ q=>q) λ_ _ q=>q
theorem jq.laid(x:jq P w H h)(k:∀b u,h.get? b=some u->h'.get? b=some u)(hp:h.objs.size<=a)(new:cc P w (upd H a o) h' a o):jq P w (upd H a o) h':=λb u e=>by
 have hn:=x.fresh hp;by_cases hb:b=a
 ·subst hb;rw[ae]at e;cases e;exact new
 ·rw[aI hb]at e;exact(x b u e).stay (λc v _ q=>k c v q) (λc q=>by rw[aI (a_ q hn)];exact q) λc xs q=>by rw[aI (a_ q hn)];exact q
end
def Rd(H:Hp)(a:Addr)(u:HO):Prop:=H a=some u\/∃o,H a=some (.xI o u)
theorem Rd.ok{P:Program}{w:World}{H:Hp}{h:Heap}{a:Addr}{u:HO}(r:Rd H a u)(x:jq P w H h):cc P w H h a u:=by
 rcases r with r|⟨o,r⟩
 ·exact x a u r
 ·obtain⟨_,q⟩:=x a _ r;exact q
def K9:Option HO->Prop
 |some (.lst _)=>True
 |some (.dK _)=>True
 |some (.dT _)=>True
 |some (.set _ _)=>True
 |some (.ins _ _ _)=>True
 |some (.ext _)=>True
 |_=>False
section
variable{P:Program}{w:World}{H:Hp}{h h':Heap}{x e:Addr}{o':HO}
theorem jq.write(ok:jq P w H h)(mu:K9 (H x))(he:e=x\/H e=some (.own x))(k:∀b u,b≠e->h.get? b=some u->h'.get? b=some u)(heo:∃u,h'.get? e=some u)
  (new:cc P w (upd H x o') h' x o'):jq P w (upd H x o') h':=λb u q=>by
 have K0:∀c y,H c=some (.own y)->c≠x:=λc y r z=>by subst z;rw[r]at mu;exact mu
 have OG:∀c xs,H c=some (.tup xs)->c≠x:=λc xs r z=>by subst z;rw[r]at mu;exact mu
 by_cases hb:b=x
 ·subst hb;rw[ae]at q;cases q;exact new
 ·rw[aI hb]at q;by_cases hbe:b=e
  ·have q':H b=some (.own x):=by
    rcases he with z|z
    ·exact UC (hbe.trans z) hb
    ·rw[hbe];exact z
   rw[q]at q';cases q';obtain⟨v,hv⟩:=heo;exact⟨v,by rw[hbe];exact hv⟩
  ·refine(ok b u q).stay (λc v hc r=>k c v ?_ r) (λc r=>by rw[aI (K0 c b r)];exact r) λc xs r=>by rw[aI (OG c xs r)];exact r
   rcases hc with rfl|hc
   ·exact hbe
   ·rintro rfl;rcases he with z|z
    ·exact K0 c b hc z
    ·rw[hc]at z;cases z;exact hb rfl
end
structure Un(fs ex:List Addr)(H H':Hp)(h h':Heap):Prop where
 keep:∀b o,h.get? b=some o->H b=none->b∉fs->b∉ex->h'.get? b=some o
 slot:∀b o,h.get? b=some o->H b=none->b∈fs->b∉ex->∃sl,h'.get? b=some {o with slots:=sl}
 free:∀b o,h.get? b=some o->H b=none->b∉ex->H' b=none
 there:∀b o,h.get? b=some o->b∉ex->∃o',h'.get? b=some o'
 tups:∀b xs,H b=some (.tup xs)->H' b=some (.tup xs)
 qa:∀b o u,H b=some (.xI o u)->H' b=some (.xI o u)
 rd:∀b ps,H b=some (.GL ps)->∃more,H' b=some (.GL (ps++more))
section
variable{fs fs' ex ex':List Addr}{H H1 H2:Hp}{h h1 h2 h':Heap}{a x e:Addr}{o:HO}
theorem Un.any(u:Un fs ex H H1 h h1){b:Addr}{ob:Obj}(q:h.get? b=some ob)(n:H b=none)(hx:b∉ex):∃sl,h1.get? b=some {ob with slots:=sl}:=by
 by_cases hb:b∈fs
 ·exact u.slot b ob q n hb hx
 ·exact⟨ob.slots,u.keep b ob q n hb hx⟩
theorem Un.kept(k:∀b u,h.get? b=some u->h'.get? b=some u):Un fs ex H H h h' :=
 ⟨λb ob q _ _ _=>k b ob q,λb ob q _ _ _=>⟨ob.slots,k b ob q⟩,λ_ _ _ n _=>n,λb ob q _=>⟨ob,k b ob q⟩,λ_ _ q=>q,λ_ _ _ q=>q,λ_ ps q=>⟨#[],by rw[q];simp⟩⟩
theorem Un.refl:Un fs ex H H h h:=Un.kept λ_ _ q=>q
theorem Un.laid(k:∀b u,h.get? b=some u->h'.get? b=some u)(hp:h.objs.size<=a)(hn:H a=none):Un fs ex H (upd H a o) h h' where
 keep:=λb u q _ _ _=>k b u q
 slot:=λb u q _ _ _=>⟨u.slots,k b u q⟩
 free:=λb u q n _=>by rw[aI (Um (T9 (TQ q) hp))];exact n
 there:=λb u q _=>⟨u,k b u q⟩
 tups:=λb xs q=>by rw[aI (a_ q hn)];exact q
 qa:=λb u xs q=>by rw[aI (a_ q hn)];exact q
 rd:=λb ps q=>⟨#[],by rw[aI (a_ q hn),q];simp⟩
theorem Un.write(mu:K9 (H x))(he:e=x\/H e=some (.own x))(k:∀b u,b≠e->h.get? b=some u->h'.get? b=some u)(heo:∃u,h'.get? e=some u):Un fs ex H (upd H x o) h h':=by
 have hx:∀b,H b=none->b≠x:=λb n z=>by subst z;rw[n]at mu;exact mu
 have hb:∀b,H b=none->b≠e:=λb n z=>by
  subst z;rcases he with r|r
  ·exact hx b n r
  ·rw[n]at r;cases r
 have hm:∀b u,H b=some u->¬K9 (some u)->b≠x:=λb u q nm z=>by subst z;rw[q]at mu;exact nm mu
 refine⟨λb u q n _ _=>k b u (hb b n) q,λb u q n _ _=>⟨u.slots,k b u (hb b n) q⟩,λb u q n _=>by rw[aI (hx b n)];exact n,λb u q _=>?_,
  λb xs q=>by rw[aI (hm b _ q λz=>z)];exact q,λb u xs q=>by rw[aI (hm b _ q λz=>z)];exact q,λb ps q=>⟨#[],by rw[aI (hm b _ q λz=>z),q];simp⟩⟩
 by_cases hbe:b=e
 ·subst hbe;exact heo
 ·exact⟨u,k b u hbe q⟩
end
def Na(h:Heap)(H:Hp):List Addr:=(List.range h.objs.size).filter λa=>(H a).isSome
def tD(h:Heap)(H:Hp):Heap:=PySem.W.hideAll h (Na h H)
theorem AV(h:Heap)(H:Hp):(tD h H).objs.size=h.objs.size:=PySem.W.hideAll_size _ _
theorem Bs{h:Heap}{H:Hp}{b:Addr}{o:Obj}(e:h.get? b=some o)(n:H b=none):(tD h H).get? b=some o :=
 PySem.W.hideAll_get _ e λhm=>by have q:(H b).isSome=true:=(List.mem_filter.mp hm).2;rw[n]at q;simp at q
theorem Ey{h:Heap}{H:Hp}{b:Addr}{o:Obj}(e:(tD h H).get? b=some o):h.get? b=some o/\H b=none:=by
 have e':h.get? b=some o:=PySem.W.of_hideAll (Na h H) e;refine⟨e',?_⟩;cases q:H b with
 |none=>rfl
 |some x =>have hm:b∈Na h H:=List.mem_filter.mpr ⟨List.mem_range.mpr (TQ e'),by simp[q]⟩;have z:(tD h H).get? b=none:=PySem.W.hideAll_none (Na h H) hm;rw[z]at e;cases e
structure Mod(K:UX)(mg:Str->Option Value)(base:Heap):Prop where
 EV:K.In base
 glob:base.Ns mainGlobals mg
 blt:∃mb,base.Ns builtinsNs mb/\∀x:Str,x≠"__name__"->mb x=bootBuiltins x
 nolimit:base.NoLimit
structure Cx where
 prog:Program
 w:World
 K:UX
 mg:Str->Option Value
 base:Heap
 A:Around
 N:List Str
 s₀:Shared
 H₀:Hp
 env:Env
 outer:List Env
 stack:List Env
 ex:List Addr
 fn:Str->Bool
 calm:Bool
 pn:List (Addr×Obj)
 xe:Value->Shared->Prop
def frs(l:List Env):List Addr:=l.filterMap (·.frame)
abbrev Cx.fs(X:Cx):List Addr:=frs X.outer
def NY(sc:Scope)(x:Str):Prop:=sc.names.lookup x=some .local\/sc.names.lookup x=some .cell\/sc.names.lookup x=some .free
def Loc(sc:Scope)(x:Str):Prop:=sc.names.lookup x=some .local\/sc.names.lookup x=some .cell
def Look(env:Env)(h:Heap)(m:Str->Option Value)(x:Str)(u:Value):Prop :=
 (env.kindOf x=some .local/\m x=some u)\/((env.kindOf x=some .cell\/env.kindOf x=some .free)/\∃c,env.cells.lookup x=some c/\h.IsCell c (some u))
structure Cx.Ok(X:Cx):Prop where
 mod:Mod X.K X.mg X.base
 kind:X.env.scope.kind=.function
 glob:X.env.globals=mainGlobals
 blt:X.env.builtins=builtinsNs
 above:X.s₀.heap.objs.size<=X.env.locals
 inj:∀x y c,X.env.cells.lookup x=some c->X.env.cells.lookup y=some c->x=y
 has:∀x,(X.env.kindOf x=some .cell\/X.env.kindOf x=some .free)->∃c,X.env.cells.lookup x=some c
 cab:∀x c,X.fn x=true->X.env.cells.lookup x=some c->X.s₀.heap.objs.size<=c
 hd:X.calm=true->X.A.handled=none
 frames:X.A.frames=some X.stack
 Im:X.stack=X.outer\/(X.stack=X.env::X.outer/\X.env.frame=some X.env.locals)
 xh:∀b∈X.ex,b≠X.env.locals/\∀x c,X.env.cells.lookup x=some c->c≠b
 bs:∀b o,X.base.get? b=some o->X.s₀.heap.get? b=some o/\X.H₀ b=none
 Au:X.base.objs.size<=X.s₀.heap.objs.size
 vj:∀b o,X.base.get? b=some o->b∉X.ex
 oC:∀b∈X.ex,b∉X.fs
 lx:X.s₀.heap.FunFrames X.base X.outer
 Ek:∀b∈X.fs,X.H₀ b=none
structure Inv(X:Cx)(ac:List (Addr×Obj))(σ:List (Option V))(H:Hp)(s:Shared):Prop where
 ok:X.Ok
 os:s.os=X.s₀.os
 bare:AllBare s.gens
 base:Un X.fs X.ex X.H₀ H X.s₀.heap s.heap
 loc:∃m,s.heap.Ns X.env.locals m/\∀(i:Nat)(x:Str)(v:V),X.N[i]? = some x->σ[i]? = some (some v)->NY X.env.scope x->∃u,RelV v u/\Look X.env s.heap m x u
 cell:∀x c,X.env.cells.lookup x=some c->∃v,s.heap.IsCell c v
 free:H X.env.locals=none
 gE:∀x c,X.env.cells.lookup x=some c->H c=none
 pin:∀p∈X.pn++ac,s.heap.get? p.1=some p.2/\H p.1=none/\p.1≠X.env.locals/\p.1∉X.fs/\∀v,p.2.data≠ .cell v
 hok:jq X.prog X.w H s.heap
 len:σ.length=X.N.length
section
variable{X:Cx}{ac:List (Addr×Obj)}{σ:List (Option V)}{H H':Hp}{s:Shared}{h':Heap}
theorem Cx.Ok.O2(ok:X.Ok){b:Addr}{o:Obj}(e:X.base.get? b=some o):b∉X.fs:=λhb=>by have:=(ok.lx.mem hb).1;rw[e]at this;cases this
theorem Inv.bs(I:Inv X ac σ H s):∀b o,X.base.get? b=some o->s.heap.get? b=some o/\H b=none:=λb o e =>
 ⟨I.base.keep b o (I.ok.bs b o e).1 (I.ok.bs b o e).2 (I.ok.O2 e) (I.ok.vj b o e),I.base.free b o (I.ok.bs b o e).1 (I.ok.bs b o e).2 (I.ok.vj b o e)⟩
theorem Inv.bk(I:Inv X ac σ H s):∀b o,X.base.get? b=some o->s.heap.get? b=some o:=λb o e=>(I.bs b o e).1
theorem Inv.mod(I:Inv X ac σ H s):Mod X.K X.mg X.base:=I.ok.mod
theorem Inv.i0(I:Inv X ac σ H s):X.K.In s.heap:=I.ok.mod.EV.keeps I.bk
theorem Inv.lt(I:Inv X ac σ H s):X.env.locals<s.heap.objs.size:=let ⟨_,hn,_⟩:=I.loc;hn.lt
theorem Inv.sz(I:Inv X ac σ H s):X.s₀.heap.objs.size<=s.heap.objs.size:=TV I.ok.above (Nat.le_of_lt I.lt)
theorem Inv.NS(I:Inv X ac σ H s){a:Addr}(h:s.heap.objs.size<=a):a∉X.fs:=λhb=>by obtain⟨_,o,ho,_⟩:=I.ok.lx.mem hb;exact UC (T9 (TQ ho) (TV I.sz h)) (Nat.lt_irrefl _)
theorem Inv.Fy(I:Inv X ac σ H s):∀x c,X.env.cells.lookup x=some c->c≠X.env.locals:=λx c e z=>by obtain⟨v,o,ho,hd⟩:=I.cell x c e;obtain⟨m,⟨o',es,ep,ho',hd',_⟩,_⟩:=I.loc;rw[z,ho']at ho;cases ho;rw[hd']at hd;cases hd
theorem Inv.lx(I:Inv X ac σ H s):s.heap.FunFrames X.base X.outer:=by
 have all:∀(l:List Env),(∀b∈frs l,b∈X.fs)->X.s₀.heap.FunFrames X.base l->s.heap.FunFrames X.base l:=by
  intro l;induction l with
  |nil=>intro _ _;trivial
  |cons env r ih =>intro hs hl;obtain⟨hk,⟨L,o,hf,hn,ho,hd⟩,hr⟩:=hl;have hL:L∈X.fs:=hs L (by unfold frs;rw[List.filterMap_cons,hf];exact Uy);obtain⟨sl,e⟩:=I.base.slot L o ho (I.ok.Ek L hL) hL λz=>I.ok.oC L z hL;exact⟨hk,⟨L,_,hf,hn,e,hd⟩,ih (λb hb=>hs b (by unfold frs;rw[List.filterMap_cons,hf];exact Uc _ hb)) hr⟩
 exact all X.outer (λ_ hb=>hb) I.ok.lx
theorem Inv.stack(I:Inv X ac σ H s):s.heap.FunFrames X.base X.stack:=by
 rcases I.ok.Im with e|⟨e,hf⟩
 ·rw[e];exact I.lx
 ·rw[e];obtain⟨m,hn,_⟩:=I.loc;refine .cons (by rw[I.ok.kind];decide) hf hn ?_ I.lx;exact Heap.get?_none_of_le (TV I.ok.Au I.ok.above)
theorem Inv.yc(I:Inv X ac σ H s):∀b∈frs X.stack,b∈X.env.locals::X.fs:=λb hb=>by
 rcases I.ok.Im with e|⟨e,hf⟩
 ·rw[e]at hb;exact Uc _ hb
 ·rw[e]at hb;unfold frs at hb;rw[List.filterMap_cons,hf]at hb;exact hb
theorem Inv.lU(I:Inv X ac σ H s):∀b∈frs X.stack,H b=none:=λb hb=>by
 rcases Uj.mp (I.yc b hb)with e|hb
 ·rw[e];exact I.free
 ·obtain⟨_,o,ho,_⟩:=I.ok.lx.mem hb;exact I.base.free b o ho (I.ok.Ek b hb) λz=>I.ok.oC b z hb
theorem Inv.step{g':Array GenState}{t':Nat}{d':Drawn}{ch:List Addr}(I:Inv X ac σ H s)
  (hch:∀b∈ch,(b∈X.ex\/X.s₀.heap.objs.size<=b)/\b≠X.env.locals/\(∀x c,X.env.cells.lookup x=some c->c≠b)/\∀p∈X.pn++ac,p.1≠b)
  (keep:∀b o,b≠X.env.locals->b∉X.fs->b∉ch->s.heap.get? b=some o->H b=none->h'.get? b=some o)
  (slot:∀b o,b≠X.env.locals->b∈X.fs->b∉ch->s.heap.get? b=some o->H b=none->∃sl,h'.get? b=some {o with slots:=sl}) (free:∀b o,b∉ch->s.heap.get? b=some o->H b=none->H' b=none)
  (there:∀b o,b∉ch->s.heap.get? b=some o->∃o',h'.get? b=some o')
  (tups:∀b xs,H b=some (.tup xs)->H' b=some (.tup xs)) (qa:∀b o u,H b=some (.xI o u)->H' b=some (.xI o u)) (rd:∀b ps,H b=some (.GL ps)->∃more,H' b=some (.GL (ps++more)))
  (ns:∀m,s.heap.Ns X.env.locals m->h'.Ns X.env.locals m) (hok:jq X.prog X.w H' h') (hg:AllBare g') :
  Inv X ac σ H' {s with heap:=h',gens:=g',drawn:=d',toks:=t'}:=by
 have Pf:∀b o,X.s₀.heap.get? b=some o->b≠X.env.locals:=λb o e=>Um (T9 (TQ e) I.ok.above);have Kp:∀b o,X.s₀.heap.get? b=some o->b∉X.ex->b∉ch:=λb o e hx hb=>by
  rcases(hch b hb).1 with z|z
  ·exact hx z
  ·exact UC (T9 (TQ e) z) (Nat.lt_irrefl _)
 have cellK:∀x c,X.env.cells.lookup x=some c->∀v,s.heap.IsCell c v->h'.IsCell c v:=λx c e v ⟨o,ho,hd⟩=>by
  have KJ:c∉ch:=λz=>(hch c z).2.2.1 x c e rfl;by_cases hc:c∈X.fs
  ·obtain⟨sl,q⟩:=slot c o (I.Fy x c e) hc KJ ho (I.gE x c e);exact⟨_,q,hd⟩
  ·exact⟨o,keep c o (I.Fy x c e) hc KJ ho (I.gE x c e),hd⟩
 refine⟨I.ok,I.os,hg,⟨λb o e n hb hx=>?_,λb o e n hb hx=>?_,λb o e n hx=>?_,λb o e hx=>?_,λb xs e=>tups b xs (I.base.tups b xs e),λb o xs e=>qa b o xs (I.base.qa b o xs e),λb ps e=>?_⟩,?_,λx c e=>?_,?_,λx c e=>?_,λp hp=>?_,hok,I.len⟩
 ·exact keep b o (Pf b o e) hb (Kp b o e hx) (I.base.keep b o e n hb hx) (I.base.free b o e n hx)
 ·obtain⟨sl,e1⟩:=I.base.slot b o e n hb hx;obtain⟨sl',e2⟩:=slot b _ (Pf b o e) hb (Kp b o e hx) e1 (I.base.free b o e n hx);exact⟨sl',e2⟩
 ·obtain⟨o',e1⟩:=I.base.there b o e hx;exact free b o' (Kp b o e hx) e1 (I.base.free b o e n hx)
 ·obtain⟨o',e1⟩:=I.base.there b o e hx;exact there b o' (Kp b o e hx) e1
 ·obtain⟨m1,e1⟩:=I.base.rd b ps e;obtain⟨m2,e2⟩:=rd b _ e1;exact⟨m1++m2,by rw[e2,Array.append_assoc]⟩
 ·obtain⟨m,hn,hl⟩:=I.loc;refine⟨m,ns m hn,λi x v e1 e2 e3=>?_⟩;obtain⟨u,r,l⟩:=hl i x v e1 e2 e3;refine⟨u,r,?_⟩;rcases l with l|⟨k,c,e,z⟩
  ·exact .inl l
  ·exact .inr ⟨k,c,e,cellK x c e _ z⟩
 ·obtain⟨v,z⟩:=I.cell x c e;exact⟨v,cellK x c e v z⟩
 ·obtain⟨m,⟨o,_,_,ho,_⟩,_⟩:=I.loc;exact free _ o (λz=>(hch _ z).2.1 rfl) ho I.free
 ·obtain⟨v,o,ho,hd⟩:=I.cell x c e;exact free c o (λz=>(hch c z).2.2.1 x c e rfl) ho (I.gE x c e)
 ·obtain⟨e,n,ne,nf,d⟩:=I.pin p hp;have KJ:p.1∉ch:=λz=>(hch p.1 z).2.2.2 p hp rfl;exact⟨keep p.1 p.2 ne nf KJ e n,free p.1 p.2 KJ e n,ne,nf,d⟩
theorem Inv.un{t':Nat}(I:Inv X ac σ H s)(u:Un X.fs [] H H' s.heap h')(hok:jq X.prog X.w H' h'):Inv X ac σ H' {s with heap:=h',toks:=t'}:=by
 obtain⟨m,⟨o,es,ep,ho,r⟩,_⟩:=id I.loc;obtain⟨sl,hL⟩:=u.any ho I.free (by simp);exact I.step (g':=s.gens) (d':=s.drawn) (ch:=[]) (λ_ z=>nomatch z) (λb o _ hb _ e n=>u.keep b o e n hb (by simp)) (λb o _ hb _ e n=>u.slot b o e n hb (by simp)) (λb o _ e n=>u.free b o e n (by simp)) (λb o _ e=>u.there b o e (by simp)) u.tups u.qa u.rd (λm' hm=>by obtain⟨o',es',ep',ho',r'⟩:=hm;rw[ho]at ho';cases ho';exact⟨_,es',ep',hL,r'⟩) hok I.bare
theorem Inv.call{g':Array GenState}{t':Nat}{d':Drawn}{ch:List Addr}(I:Inv X ac σ H s)(u:Un (frs X.stack) ch H H' s.heap h')(hok:jq X.prog X.w H' h')(hg:AllBare g')
  (hch:∀b∈ch,(b∈X.ex\/X.s₀.heap.objs.size<=b)/\b≠X.env.locals/\(∀x c,X.env.cells.lookup x=some c->c≠b)/\∀p∈X.pn++ac,p.1≠b) :
  Inv X ac σ H' {s with heap:=h',gens:=g',drawn:=d',toks:=t'}:=by
 obtain⟨m,⟨o,es,ep,ho,r⟩,_⟩:=id I.loc;obtain⟨sl,hL⟩:=u.any ho I.free λz=>(hch _ z).2.1 rfl;exact I.step (ch:=ch) hch (λb o hL hb hc e n=>u.keep b o e n (λz=>(Uj.mp (I.yc b z)).elim hL hb) hc) (λb o _ _ hc e n=>u.any e n hc) (λb o hc e n=>u.free b o e n hc) (λb o hc e=>u.there b o e hc) u.tups u.qa u.rd (λm' hm=>by obtain⟨o',es',ep',ho',r'⟩:=hm;rw[ho]at ho';cases ho';exact⟨_,es',ep',hL,r'⟩) hok hg
theorem Inv.turned{t':Nat}{it:Addr}(I:Inv X ac σ H s)(k:∀b o,b≠it->s.heap.get? b=some o->h'.get? b=some o)(hn:H it=none)(hL:it≠X.env.locals)
  (h1:it∈X.ex\/X.s₀.heap.objs.size<=it) (h2:∀x c,X.env.cells.lookup x=some c->c≠it) (h3:∀p∈X.pn++ac,p.1≠it):Inv X ac σ H {s with heap:=h',toks:=t'}:=by
 have Hm:∀b u,H b=some u->b≠it:=λb u e z=>by rw[z,hn]at e;cases e
 refine I.step (g':=s.gens) (d':=s.drawn) (ch:=[it]) (λb hb=>?_) (λb o _ _ hc e _=>k b o (λz=>hc (by simp[z])) e) (λb o _ _ hc e _=>⟨o.slots,k b o (λz=>hc (by simp[z])) e⟩) (λ_ _ _ _ n=>n)
  (λb o hc e=>⟨o,k b o (λz=>hc (by simp[z])) e⟩) (λ_ _ e=>e) (λ_ _ _ e=>e) (λb ps e=>⟨#[],by rw[e];simp⟩) (λm hm=>?_) (λb u e=>?_) I.bare
 ·have e:b=it:=by simpa using hb
  subst e;exact⟨h1,hL,h2,h3⟩
 ·obtain⟨o,es,ep,ho,r⟩:=hm;exact⟨o,es,ep,k _ o (Ne.symm hL) ho,r⟩
 ·refine(I.hok b u e).stay (λc v hc q=>k c v ?_ q) (λ_ q=>q) λ_ _ q=>q;rcases hc with z|z
  ·rw[z];exact Hm b u e
  ·exact Hm c _ z
theorem Inv.tok(I:Inv X ac σ H s)(t:Nat):Inv X ac σ H {s with toks:=t}:=I.un (h':=s.heap) (t':=t) Un.refl I.hok
theorem Inv.kept{t':Nat}(I:Inv X ac σ H s)(k:∀b u,s.heap.get? b=some u->h'.get? b=some u):Inv X ac σ H {s with heap:=h',toks:=t'}:=I.un (Un.kept k) (I.hok.kept k)
theorem Inv.laid{a:Addr}{o:HO}{t':Nat}(I:Inv X ac σ H s)(k:∀b u,s.heap.get? b=some u->h'.get? b=some u)(hp:s.heap.objs.size<=a)(new:cc X.prog X.w (upd H a o) h' a o) :
  Inv X ac σ (upd H a o) {s with heap:=h',toks:=t'}:=I.un (Un.laid k hp (I.hok.fresh hp)) (I.hok.laid k hp new)
theorem Inv.write{x e:Addr}{o:HO}{t':Nat}(I:Inv X ac σ H s)(mu:K9 (H x))(he:e=x\/H e=some (.own x))(k:∀b u,b≠e->s.heap.get? b=some u->h'.get? b=some u)(heo:∃u,h'.get? e=some u)
  (new:cc X.prog X.w (upd H x o) h' x o):Inv X ac σ (upd H x o) {s with heap:=h',toks:=t'}:=I.un (Un.write mu he k heo) (I.hok.write mu he k heo new)
theorem Inv.gV{pins':List (Addr×Obj)}(I:Inv X ac σ H s)(h:∀p∈pins',s.heap.get? p.1=some p.2/\H p.1=none/\p.1≠X.env.locals/\p.1∉X.fs/\∀v,p.2.data≠ .cell v):Inv X pins' σ H s :=
 ⟨I.ok,I.os,I.bare,I.base,I.loc,I.cell,I.free,I.gE,λp hp=>(Ul.mp hp).elim (λz=>I.pin p (List.mem_append_left _ z)) (h p),I.hok,I.len⟩
theorem p5{N:List Str}(hN:N.Nodup){i j:Nat}{x:Str}(a:N[i]? = some x)(b:N[j]? = some x):i=j:=by obtain⟨h1,e1⟩:=Ug.mp a;obtain⟨h2,e2⟩:=Ug.mp b;exact(List.getElem_inj hN).mp (e1.trans e2.symm)
theorem nt{M:Model}{A:Around}{E:Value->Shared->Prop}{i:Nat}{x:Str}{v:V}{u:Value}{Q:Unit->Shared->Prop}(I:Inv X ac σ H s)(hN:X.N.Nodup)(hi:X.N[i]? = some x)(hx:Loc X.env.scope x)(r:RelV v u)
  (h:∀s',Inv X ac (σ.set i (some v)) H s'->(∃a,Heap.SameBut a s.heap s'.heap/\(a=X.env.locals\/X.env.cells.lookup x=some a))->Q () s') (hf:X.fn x=true\/X.env.scope.names.lookup x=some .local:=by first|exact .inl rfl|exact .inr rfl|assumption):wpAny M A (storeName X.env x u) Q E s:=by
 obtain⟨m,hn,hl⟩:=id I.loc;have hcls:(X.env.scope.kind == .class||(X.env.scope.kind == .module&&X.env.locals != X.env.globals))=false:=by rw[I.ok.kind];rfl
 have Ck:i<σ.length:=by rw[I.len];exact(Ug.mp hi).1
 have Fy:=I.Fy;have tracked:∀{a:Addr}{h':Heap},(∃o,s.heap.get? a=some o/\H a=none)->Heap.SameBut a s.heap h'->jq X.prog X.w H h':=λ{a h'} ha hs b ob e=>by
  obtain⟨_,_,hfree⟩:=ha;refine(I.hok b ob e).stay (λc w' hc q=>(hs.2 c ?_).trans q) (λ_ q=>q) λ_ _ q=>q;rintro rfl;rcases hc with rfl|hc
  ·rw[hfree]at e;cases e
  ·rw[hfree]at hc;cases hc
 rcases hx with hk|hk
 ·refine wpAny_storeName_local hk hn (λh' hn' hs=>?_) hcls;obtain⟨oL,_,_,hoL,_⟩:=id hn;refine h _ ⟨I.ok,I.os,I.bare,⟨λb o e n hb hx=>?_,λb o e n hb hx=>?_,I.base.free,λb o e hx=>?_,I.base.tups,I.base.qa,I.base.rd⟩,⟨_,hn',λj y v' e1 e2 e3=>?_⟩,λy c e=>?_,I.free,I.gE,λp hp=>?_,tracked ⟨oL,hoL,I.free⟩ hs,by simpa using I.len⟩ ⟨_,hs,.inl rfl⟩
  ·exact(hs.2 b (Um (T9 (TQ e) I.ok.above))).trans (I.base.keep b o e n hb hx)
  ·obtain⟨sl,e1⟩:=I.base.slot b o e n hb hx;exact⟨sl,(hs.2 b (Um (T9 (TQ e) I.ok.above))).trans e1⟩
  ·obtain⟨o',e1⟩:=I.base.there b o e hx;exact⟨o',(hs.2 b (Um (T9 (TQ e) I.ok.above))).trans e1⟩
  ·by_cases hj:j=i
   ·subst hj;rw[hi]at e1;cases e1;rw[List.getElem?_set_self Ck]at e2;cases e2;exact⟨u,r,.inl ⟨hk,by simp⟩⟩
   ·rw[List.getElem?_set_ne (Ne.symm hj)]at e2;obtain⟨u',r',q⟩:=hl j y v' e1 e2 e3;refine⟨u',r',?_⟩;rcases q with⟨k,e⟩|⟨k,c,e,z⟩
    ·refine .inl ⟨k,?_⟩;have:y≠x:=λe=>hj (p5 hN e1 (e▸hi));simp[this,e]
    ·exact .inr ⟨k,c,e,z.sameBut hs (Fy y c e)⟩
  ·obtain⟨w',z⟩:=I.cell y c e;exact⟨w',z.sameBut hs (Fy y c e)⟩
  ·obtain⟨e,n,ne,nf,d⟩:=I.pin p hp;exact⟨(hs.2 p.1 ne).trans e,n,ne,nf,d⟩
 ·have hfn:X.fn x=true:=by
   rcases hf with z|z
   ·exact z
   ·rw[z]at hk;cases hk
  obtain⟨c,hc⟩:=I.ok.has x (.inl hk);obtain⟨w',z⟩:=I.cell x c hc;refine wpAny_storeName_cell I.ok.kind hk hc z (λh' hc' hs=>?_);obtain⟨oc,hoc,NF⟩:=id z;refine h {s with heap:=h'} ⟨I.ok,I.os,I.bare,⟨λb o e n hb hx=>?_,λb o e n hb hx=>?_,I.base.free,λb o e hx=>?_,I.base.tups,I.base.qa,I.base.rd⟩,⟨m,hn.sameBut hs (Ne.symm (Fy x c hc)),λj y v' e1 e2 e3=>?_⟩,λy c' e=>?_,I.free,I.gE,λp hp=>?_,tracked ⟨oc,hoc,I.gE x c hc⟩ hs,by simpa using I.len⟩ ⟨c,hs,.inr hc⟩
  ·exact(hs.2 b (Um (T9 (TQ e) (I.ok.cab x c hfn hc)))).trans (I.base.keep b o e n hb hx)
  ·obtain⟨sl,e1⟩:=I.base.slot b o e n hb hx;exact⟨sl,(hs.2 b (Um (T9 (TQ e) (I.ok.cab x c hfn hc)))).trans e1⟩
  ·obtain⟨o',e1⟩:=I.base.there b o e hx;exact⟨o',(hs.2 b (Um (T9 (TQ e) (I.ok.cab x c hfn hc)))).trans e1⟩
  ·by_cases hj:j=i
   ·subst hj;rw[hi]at e1;cases e1;rw[List.getElem?_set_self Ck]at e2;cases e2;exact⟨u,r,.inr ⟨.inl hk,c,hc,hc'⟩⟩
   ·rw[List.getElem?_set_ne (Ne.symm hj)]at e2;obtain⟨u',r',q⟩:=hl j y v' e1 e2 e3;refine⟨u',r',?_⟩;rcases q with q|⟨k,c',e,z'⟩
    ·exact .inl q
    ·refine .inr ⟨k,c',e,z'.sameBut hs ?_⟩;rintro rfl;exact hj (p5 hN e1 (I.ok.inj _ _ _ e hc▸hi))
  ·by_cases hcc:c'=c
   ·subst hcc;exact⟨_,hc'⟩
   ·obtain⟨w2,z2⟩:=I.cell y c' e;exact⟨w2,z2.sameBut hs hcc⟩
  ·obtain⟨e,n,ne,nf,d⟩:=I.pin p hp;refine⟨(hs.2 p.1 ?_).trans e,n,ne,nf,d⟩;intro q;rw[q,hoc]at e;have q':oc=p.2:=Up e;exact d w' (by rw[←q'];exact NF)
theorem gu{M:Model}{A:Around}{E:Value->Shared->Prop}{i:Nat}{x:Str}{v:V}{u:Value}{Q:Unit->Shared->Prop}(I:Inv X ac σ H s)(hN:X.N.Nodup)(hi:X.N[i]? = some x)(hx:Loc X.env.scope x)(r:RelV v u)
  (h:∀s',Inv X ac (σ.set i (some v)) H s'->Q () s') (hf:X.fn x=true\/X.env.scope.names.lookup x=some .local:=by first|exact .inl rfl|exact .inr rfl|assumption):wpAny M A (storeName X.env x u) Q E s :=
 nt I hN hi hx r (λs' I' _=>h s' I') hf
theorem Inv.call'{s':Shared}{ch:List Addr}(I:Inv X ac σ H s)(ho:s'.os=s.os)(u:Un (frs X.stack) ch H H' s.heap s'.heap)(hok:jq X.prog X.w H' s'.heap)(hg:AllBare s'.gens)
  (hch:∀b∈ch,(b∈X.ex\/X.s₀.heap.objs.size<=b)/\b≠X.env.locals/\(∀x c,X.env.cells.lookup x=some c->c≠b)/\∀p∈X.pn++ac,p.1≠b):Inv X ac σ H' s':=by
 obtain⟨h',g',d',t',o'⟩:=s';have e:o'=s.os:=ho;subst e;exact I.call (g':=g') (t':=t') (d':=d') u hok hg hch
end
abbrev XK:=Value->Option Addr->Hp->Prop
abbrev St:=List (Option V)
abbrev VK:=V->Hp->Prop
abbrev TE:=St->Hp->VK->Prop
abbrev TT:=St->Hp->(Bool->Hp->Prop)->Prop
abbrev TA:=St->Hp->(List V->Hp->Prop)->Prop
structure Ends where
 nx:St->Hp->Prop
 rt:VK
 bk:St->Hp->Prop:=λ_ _=>False
 ct:St->Hp->Prop:=λ_ _=>False
abbrev TS:=Ends->St->Hp->Prop
def EP(X:Cx)(ac:List (Addr×Obj))(σ:St)(Q:VK)(u:Value)(s':Shared):Prop:=∃v H',Inv X ac σ H' s'/\RelV v u/\Q v H'
def TP(X:Cx)(ac:List (Addr×Obj))(σ:St)(Q:Bool->Hp->Prop)(b:Bool)(s':Shared):Prop:=∃H',Inv X ac σ H' s'/\Q b H'
def AP(X:Cx)(ac:List (Addr×Obj))(σ:St)(Q:List V->Hp->Prop)(us:List Value)(s':Shared):Prop:=∃vs H',Inv X ac σ H' s'/\Vals vs us/\Q vs H'
def SP(X:Cx)(ac:List (Addr×Obj))(D:Ends)(f:Flow)(s':Shared):Prop :=
 match f with
 | .next=>∃σ' H',Inv X ac σ' H' s'/\D.nx σ' H'
 | .brk=>∃σ' H',Inv X ac σ' H' s'/\D.bk σ' H'
 | .cont=>∃σ' H',Inv X ac σ' H' s'/\D.ct σ' H'
 | .ret u=>∃v σ' H',Inv X ac σ' H' s'/\RelV v u/\D.rt v H'
def PE(X:Cx)(e:Expr)(t:TE):Prop :=
 ∀(ac:List (Addr×Obj))(s:Shared)(σ:St)(H:Hp)(Q:VK),Inv X ac σ H s->t σ H Q->wpAny (model X.prog X.w) X.A (eval e X.env) (EP X ac σ Q) X.xe s
def PT(X:Cx)(e:Expr)(t:TT):Prop :=
 ∀(ac:List (Addr×Obj))(s:Shared)(σ:St)(H:Hp)(Q:Bool->Hp->Prop),Inv X ac σ H s->t σ H Q->wpAny (model X.prog X.w) X.A (isTrue e X.env (eval e X.env)) (TP X ac σ Q) X.xe s
def PW(X:Cx)(e:Expr)(t:TT):Prop :=
 ∀(whole:Sem Value)(ac:List (Addr×Obj))(s:Shared)(σ:St)(H:Hp)(Q:Bool->Hp->Prop),Inv X ac σ H s->t σ H Q->wpAny (model X.prog X.w) X.A (isTrue e X.env whole) (TP X ac σ Q) X.xe s
theorem PW.pt{X:Cx}{e:Expr}{t:TT}(h:PW X e t):PT X e t:=h _
def PA(X:Cx)(es:List Expr)(t:TA):Prop :=
 ∀(pos:Pos)(ac:List (Addr×Obj))(s:Shared)(σ:St)(H:Hp)(Q:List V->Hp->Prop),Inv X ac σ H s->t σ H Q->wpAny (model X.prog X.w) X.A (spliced (backTo pos (starEach es X.env))) (AP X ac σ Q) X.xe s
def PS(X:Cx)(st:Stmt)(t:TS):Prop :=
 ∀(ac:List (Addr×Obj))(s:Shared)(σ:St)(H:Hp)(D:Ends),Inv X ac σ H s->t D σ H->wpAny (model X.prog X.w) X.A (exec st X.env) (SP X ac D) X.xe s
def pb(X:Cx)(st:List Stmt)(t:TS):Prop :=
 ∀(ac:List (Addr×Obj))(s:Shared)(σ:St)(H:Hp)(D:Ends),Inv X ac σ H s->t D σ H->wpAny (model X.prog X.w) X.A (execs st X.env) (SP X ac D) X.xe s
theorem bJ{α:Type}{t:Sem α}{Q Q':α->Shared->Prop}{M:Model}{A:Around}{E:Value->Shared->Prop}{s:Shared}(h:wpAny M A t Q E s)(hQ:∀a s,Q a s->Q' a s):wpAny M A t Q' E s:=Uv h hQ λ_ _ x=>x
section
variable{X:Cx}
def bF(i:Nat):TE:=λσ H Q=>∃v,σ[i]? = some (some v)/\Q v H
def tC(v:V):TE:=λ_ H Q=>Q v H
theorem xM{i:Nat}{x:Str}{pos:Pos}(hN:X.N[i]? = some x)(hv:NY X.env.scope x)(hd:(x==("__debug__" : Str))=false:=by decide)(hcd:(x==("__classdict__" : Str))=false:=by decide):PE X (.Name x pos) (bF i):=by
 intro ac s σ H Q I h;obtain⟨v,e,h⟩:=h;obtain⟨m,hn,hl⟩:=I.loc;obtain⟨u,r,l⟩:=hl i x v hN e hv;have fin:EP X ac σ Q u s:=⟨v,H,I,r,h⟩;rcases l with⟨hk,hm⟩|⟨hk,c,hc,hcell⟩
 ·exact wpAny_Name (wpAny_loadName_local I.ok.kind hk hn hm fin) hd
 ·rcases hk with hk|hk
  ·exact wpAny_Name (wpAny_loadName_cell I.ok.kind hk hc hcell fin) hd
  ·exact wpAny_Name (wpAny_loadName_free I.ok.kind hk hc hcell fin hcd) hd
theorem ai{i j pos}:PE X (.Constant (.int i) j pos) (tC (.int i)):=λ_ _ _ H _ I h=>wpAny_Constant_int ⟨.int i,H,I.tok _,⟨_,rfl⟩,h⟩
theorem c0{b j pos}:PE X (.Constant (.bool b) j pos) (tC (.bl b)):=λ_ _ _ H _ I h=>Constant_bool ⟨.bl b,H,I,rfl,h⟩
theorem gc{j pos}:PE X (.Constant .none j pos) (tC .non):=λ_ _ _ H _ I h=>Constant_none ⟨.non,H,I,rfl,h⟩
theorem au{x j pos}:PE X (.Constant (.str x) j pos) (tC (.str x)):=λ_ _ _ H _ I h=>Calls.Constant_str ⟨.str x,H,I.tok _,⟨_,rfl⟩,h⟩
def Gl(X:Cx)(x:Str):Prop:=X.env.kindOf x=some .globalImplicit
theorem je{E:Value->Shared->Prop}{ac:List (Addr×Obj)}{s:Shared}{σ:St}{H:Hp}{x:Str}{u:Value}{pos:Pos}{Q:Value->Shared->Prop}(I:Inv X ac σ H s)(hg:Gl X x)(hm:X.mg x=some u)(h:Q u s)
  (hd:(x==("__debug__" : Str))=false:=by decide):wpAny (model X.prog X.w) X.A (eval (.Name x pos) X.env) Q E s :=
 Calls.Name_function_global I.ok.kind hg (Calls.loadGlobal_global (by rw[I.ok.glob];exact I.mod.glob.keeps I.bk) hm h) hd
theorem iY{E:Value->Shared->Prop}{ac:List (Addr×Obj)}{s:Shared}{σ:St}{H:Hp}{x:Str}{u:Value}{pos:Pos}{Q:Value->Shared->Prop}(I:Inv X ac σ H s)(hg:Gl X x)(hm:X.mg x=none)(hv:bootBuiltins x=some u)(h:Q u s)
  (hn:x≠"__name__":=by decide) (hd:(x==("__debug__" : Str))=false:=by decide):wpAny (model X.prog X.w) X.A (eval (.Name x pos) X.env) Q E s:=by
 obtain⟨mb,h1,h2⟩:=I.mod.blt;exact Calls.Name_function_global I.ok.kind hg (Calls.loadGlobal_builtin (by rw[I.ok.glob];exact I.mod.glob.keeps I.bk) hm (by rw[I.ok.blt];exact h1.keeps I.bk) ((h2 x hn).trans hv) h) hd
theorem cu{x:Str}{v:V}{u:Value}{pos:Pos}(hg:Gl X x)(hm:X.mg x=some u)(r:RelV v u)(hd:(x==("__debug__" : Str))=false:=by decide):PE X (.Name x pos) (tC v) :=
 λ_ _ _ H _ I h=>je I hg hm ⟨v,H,I,r,h⟩ hd
theorem Gf{x:Str}{v:V}{u:Value}{pos:Pos}(hg:Gl X x)(hm:X.mg x=none)(hv:bootBuiltins x=some u)(r:RelV v u)(hn:x≠"__name__":=by decide)(hd:(x==("__debug__" : Str))=false:=by decide):PE X (.Name x pos) (tC v) :=
 λ_ _ _ H _ I h=>iY I hg hm hv ⟨v,H,I,r,h⟩ hn hd
variable{a b:Expr}{ta tb:TE}{pos:Pos}
def tB(t:TE):TT:=λσ H Q=>t σ H λx H1=>∃c,x=.bl c/\Q c H1
theorem fh{e:Expr}{t:TE}(h:PE X e t)(he:∀whole,isTrue e X.env whole=(do let v←whole;standAt e.pos;holding [v] (truthy v)):=by intro _;rfl):PT X e (tB t):=by intro ac s σ H Q I hw;refine isTrue_plain (bJ (h ac s σ H _ I hw) λv s1 zz=>?_) (he _);obtain⟨x,H1,I1,r1,q1⟩:=zz;obtain⟨d,rfl,q⟩:=q1;cases r1;exact wpAny_truthy_bool ⟨H1,I1,q⟩
variable{tA M_:TT}{rest:List Expr}
def La(t u:TT):TT:=λσ H Q=>t σ H λc H1=>if c=true then u σ H1 Q else Q false H1
def Qv(t u:TT):TT:=λσ H Q=>t σ H λc H1=>if c=true then Q true H1 else u σ H1 Q
def O3(t:TT):TT:=λσ H Q=>t σ H λc H1=>Q (!c) H1
theorem gX(ha:PT X a tA):PW X (.BoolOp .And [a] pos) tA:=by
 intro wh ac s σ H Q I h;refine isTrue_and (bJ (ha ac s σ H Q I h) λc s1 e=>?_);cases c with
 |true=>exact isTrue_and_nil e
 |false=>exact e
theorem m7(ha:PT X a tA):PW X (.BoolOp .Or [a] pos) tA:=by
 intro wh ac s σ H Q I h;refine isTrue_or (bJ (ha ac s σ H Q I h) λc s1 e=>?_);cases c with
 |false=>exact isTrue_or_nil e
 |true=>exact e
theorem ix(ha:PT X a tA)(hb:PW X (.BoolOp .And (b::rest) pos) M_):PW X (.BoolOp .And (a::b::rest) pos) (La tA M_):=by
 intro wh ac s σ H Q I h;refine isTrue_and (bJ (ha ac s σ H _ I h) λc s1 zz=>?_);obtain⟨H1,I1,q1⟩:=zz;cases c with
 |true=>exact hb wh ac s1 σ H1 Q I1 q1
 |false=>exact⟨H1,I1,q1⟩
theorem oo(ha:PT X a tA)(hb:PW X (.BoolOp .Or (b::rest) pos) M_):PW X (.BoolOp .Or (a::b::rest) pos) (Qv tA M_):=by
 intro wh ac s σ H Q I h;refine isTrue_or (bJ (ha ac s σ H _ I h) λc s1 zz=>?_);obtain⟨H1,I1,q1⟩:=zz;cases c with
 |true=>exact⟨H1,I1,q1⟩
 |false=>exact hb wh ac s1 σ H1 Q I1 q1
theorem m8(ha:PT X a tA):PT X (.UnaryOp .Not a pos) (O3 tA):=by intro ac s σ H Q I h;exact isTrue_not (ha ac s σ H (λc H1=>Q (!c) H1) I h)
def KW(ta tb:TE):TE:=λσ H Q=>ta σ H λx H1=>∃c,x=.bl c/\if c=true then tb σ H1 Q else Q (.bl false) H1
def NV(ta tb:TE):TE:=λσ H Q=>ta σ H λx H1=>∃c,x=.bl c/\if c=true then Q (.bl true) H1 else tb σ H1 Q
theorem nR{op}{t:TE}(h:PE X a t):PE X (.BoolOp op [a] pos) t:=λac s σ H Q I hw=>BoolOp_one (h ac s σ H Q I hw)
theorem tX(ha:PE X a ta)(hb:PE X (.BoolOp .And (b::rest) pos) tb):PE X (.BoolOp .And (a::b::rest) pos) (KW ta tb):=by
 intro ac s σ H Q I h;refine BoolOp_and (bJ (ha ac s σ H _ I h) λv s1 zz=>?_);obtain⟨x,H1,I1,r1,q1⟩:=zz;obtain⟨c,rfl,q1⟩:=q1;cases r1;refine wpAny_truthy_bool ?_;cases c with
 |true=>exact hb ac s1 σ H1 Q I1 q1
 |false=>exact⟨.bl false,H1,I1,rfl,q1⟩
theorem Mp(ha:PE X a ta)(hb:PE X (.BoolOp .Or (b::rest) pos) tb):PE X (.BoolOp .Or (a::b::rest) pos) (NV ta tb):=by
 intro ac s σ H Q I h;refine BoolOp_or (bJ (ha ac s σ H _ I h) λv s1 zz=>?_);obtain⟨x,H1,I1,r1,q1⟩:=zz;obtain⟨c,rfl,q1⟩:=q1;cases r1;refine wpAny_truthy_bool ?_;cases c with
 |false=>exact hb ac s1 σ H1 Q I1 q1
 |true=>exact⟨.bl true,H1,I1,rfl,q1⟩
def Ri(t:TT)(ta tb:TE):TE:=λσ H Q=>t σ H λc H1=>if c=true then ta σ H1 Q else tb σ H1 Q
theorem mq{c:Expr}(hc:PT X c tA)(ha:PE X a ta)(hb:PE X b tb):PE X (.IfExp c a b pos) (Ri tA ta tb):=by
 intro ac s σ H Q I h;refine wpAny_IfExp (bJ (hc ac s σ H _ I h) λd s1 zz=>?_);obtain⟨H1,I1,q1⟩:=zz;cases d with
 |true=>exact ha ac s1 σ H1 Q I1 q1
 |false=>exact hb ac s1 σ H1 Q I1 q1
end
def bj(K:UX)(H:Hp)(a:Addr)(xs:List V):Prop :=
 Rd H a (.lst xs)\/
  ∃(o:Obj)(its:Array Value)(n:Nat),K.lookup a=some o/\o.cls=.type "list"/\o.dict=none/\o.data=.seq its n/\its.size<=sizeLine/\Vals xs its.toList
def aY(K:UX)(H:Hp)(a:Addr)(xs:List V):Prop :=
 Rd H a (.tup xs)\/
  ∃(o:Obj)(its:Array Value)(n:Nat),K.lookup a=some o/\o.cls=.type "tuple"/\o.data=.seq its n/\its.size<=sizeLine/\Vals xs its.toList
def NR:Value->Option V
 | .none=>some .non
 | .bool b=>some (.bl b)
 | .int i _=>some (.int i)
 | .str x _=>some (.str x)
 | .bytes b _=>some (.yW b)
 | .float b _=>some (.flt b)
 | .ref a=>some (.ref a)
 | .type n=>some (.ty n)
 |_=>none
theorem RelV.abs{x:V}{u:Value}(r:RelV x u):NR u=some x:=by
 cases x with
 |non=>cases r;rfl
 |bl _=>cases r;rfl
 |int _=>obtain⟨t,rfl⟩:=r;rfl
 |str _=>obtain⟨t,rfl⟩:=r;rfl
 |yW _=>obtain⟨t,rfl⟩:=r;rfl
 |flt _=>obtain⟨t,rfl⟩:=r;rfl
 |ref _=>cases r;rfl
 |ty _=>cases r;rfl
theorem RelV.inj{x y:V}{u:Value}(r:RelV x u)(q:RelV y u):x=y:=Up (r.abs.symm.trans q.abs)
theorem Vals.inj{xs ys:List V}{us:List Value}(h:Vals xs us)(g:Vals ys us):xs=ys:=by
 induction h generalizing ys with
 |nil=>cases g;rfl
 |cons r t ih=>cases g with
  |cons r' t'=>rw[r.inj r',ih t']
section
variable{X:Cx}{ac:List (Addr×Obj)}{σ:St}{H:Hp}{s:Shared}{a:Addr}{xs ys:List V}
theorem bj.of{K:UX}(h:H a=some (.lst xs)):bj K H a xs:=.inl (.inl h)
theorem aY.of{K:UX}(h:H a=some (.tup xs)):aY K H a xs:=.inl (.inl h)
theorem Inv.list(I:Inv X ac σ H s)(h:bj X.K H a xs):∃its:List Value,Vals xs its/\PlainL s.heap a its.toArray/\xs.length<=sizeLine:=by
 rcases h with h|⟨o,its,n,hk,hc,hd,hs,hz,r⟩
 ·obtain⟨z,its,n,r,e⟩:=h.ok I.hok;exact⟨its,r,⟨_,n,e,rfl,rfl,rfl⟩,z⟩
 ·refine⟨its.toList,r,⟨o,n,I.i0 a o hk,hc,hd,by simpa using hs⟩,?_⟩;have e:=r.length;simp only[US]at e;omega
theorem Inv.tuple(I:Inv X ac σ H s)(h:aY X.K H a xs):∃its:List Value,Vals xs its/\IsTup s.heap a its.toArray/\xs.length<=sizeLine:=by
 rcases h with h|⟨o,its,n,hk,hc,hs,hz,r⟩
 ·obtain⟨z,its,r,p⟩:=h.ok I.hok;exact⟨its,r,p.tup,z⟩
 ·refine⟨its.toList,r,⟨o,I.i0 a o hk,hc,n,by simpa using hs⟩,?_⟩;have e:=r.length;simp only[US]at e;omega
theorem Inv.Dg(I:Inv X ac σ H s)(h:bj X.K H a xs)(h':bj X.K H a ys):xs=ys:=by
 obtain⟨its,r,⟨o,n,e,_,_,d⟩,_⟩:=I.list h;obtain⟨its',r',⟨o',n',e',_,_,d'⟩,_⟩:=I.list h';rw[e]at e';cases e';rw[d]at d';injection d' with d1 _;have:its=its':=by simpa using congrArg Array.toList d1
 subst this;exact r.inj r'
theorem Inv.mU(I:Inv X ac σ H s)(h:aY X.K H a xs)(h':aY X.K H a ys):xs=ys:=by
 obtain⟨its,r,⟨o,e,_,n,d⟩,_⟩:=I.tuple h;obtain⟨its',r',⟨o',e',_,n',d'⟩,_⟩:=I.tuple h';rw[e]at e';cases e';rw[d]at d';injection d' with d1 _;have:its=its':=by simpa using congrArg Array.toList d1
 subst this;exact r.inj r'
end
abbrev Cx.wish(X:Cx)(E:Value->Shared->Prop):Cx:={X with xe:=E}
abbrev Cx.yC(X:Cx):Cx:=X.wish λ_ _=>False
theorem Cx.Ok.wish{X:Cx}(ok:X.Ok)(E:Value->Shared->Prop):(X.wish E).Ok :=
 ⟨ok.mod,ok.kind,ok.glob,ok.blt,ok.above,ok.inj,ok.has,ok.cab,ok.hd,ok.frames,ok.Im,ok.xh,ok.bs,ok.Au,ok.vj,ok.oC,ok.lx,ok.Ek⟩
theorem Cx.Ok.cQ{X:Cx}{E:Value->Shared->Prop}(ok:(X.wish E).Ok):X.Ok :=
 ⟨ok.mod,ok.kind,ok.glob,ok.blt,ok.above,ok.inj,ok.has,ok.cab,ok.hd,ok.frames,ok.Im,ok.xh,ok.bs,ok.Au,ok.vj,ok.oC,ok.lx,ok.Ek⟩
section
variable{X:Cx}{ac:List (Addr×Obj)}{σ:St}{H:Hp}{s:Shared}{E:Value->Shared->Prop}
theorem Inv.wish(I:Inv X ac σ H s)(E:Value->Shared->Prop):Inv (X.wish E) ac σ H s:=⟨I.ok.wish E,I.os,I.bare,I.base,I.loc,I.cell,I.free,I.gE,I.pin,I.hok,I.len⟩
theorem Inv.cQ(I:Inv (X.wish E) ac σ H s):Inv X ac σ H s:=⟨I.ok.cQ,I.os,I.bare,I.base,I.loc,I.cell,I.free,I.gE,I.pin,I.hok,I.len⟩
theorem SP.cQ{D:Ends}{f:Flow}{s':Shared}(h:SP (X.wish E) ac D f s'):SP X ac D f s':=by
 cases f with
 |next=>obtain⟨σ',H',I,q⟩:=h;exact⟨σ',H',I.cQ,q⟩
 |brk=>obtain⟨σ',H',I,q⟩:=h;exact⟨σ',H',I.cQ,q⟩
 |cont=>obtain⟨σ',H',I,q⟩:=h;exact⟨σ',H',I.cQ,q⟩
 |ret u=>obtain⟨v,σ',H',I,r,q⟩:=h;exact⟨v,σ',H',I.cQ,r,q⟩
theorem PE.yC{e:Expr}{t:TE}(h:PE X.yC e t):PE X e t:=λac s σ H Q I hw =>
 Uv (h ac s σ H Q (I.wish _) hw) (λ_ _ ⟨v,H',I',r,q⟩=>⟨v,H',I'.cQ,r,q⟩) λ_ _ z=>UJ z
theorem pb.yC{st:List Stmt}{t:TS}(h:pb X.yC st t):pb X st t:=λac s σ H D I hw =>
 Uv (h ac s σ H D (I.wish _) hw) (λ_ _ q=>q.cQ) λ_ _ z=>UJ z
end
section
variable{X:Cx}{st:Stmt}{rest:List Stmt}{t u:TS}{e:Expr}{te:TE}{pos:Pos}
def uu:TS:=λD σ H=>D.nx σ H
def xN(t u:TS):TS:=λD σ H=>t {D with nx:=u D} σ H
theorem fv:pb X [] uu:=λ_ _ σ H _ I h=>wpAny_execs_nil ⟨σ,H,I,h⟩
theorem aq(h1:PS X st t)(h2:pb X rest u):pb X (st::rest) (xN t u):=by
 intro ac s σ H D I h;refine wpAny_execs_cons (bJ (h1 ac s σ H {D with nx:=u D} I h) λf s1 q=>?_);cases f with
 |next =>obtain⟨σ',H',I',q⟩:=q;exact h2 ac s1 σ' H' D I' q
 |ret v=>exact q
 |brk=>exact q
 |cont=>exact q
theorem b_(h1:PS X st t):pb X [st] t:=by
 intro ac s σ H D I h;refine wpAny_execs_cons (bJ (h1 ac s σ H D I h) λf s1 q=>?_);cases f with
 |next=>exact wpAny_execs_nil q
 |ret v=>exact q
 |brk=>exact q
 |cont=>exact q
theorem Inv.quiet{ac:List (Addr×Obj)}{σ:St}{H:Hp}{s:Shared}(I:Inv X ac σ H s):interactive X.env=false:=by simp[interactive,I.ok.kind]
def Lh(te:TE):TS:=λD σ H=>te σ H λ_ H1=>D.nx σ H1
theorem c7(he:PE X e te)(hs:swapsWith e none pos.line X.env=pure false:=by rfl):PS X (.Expr e pos) (Lh te):=by intro ac s σ H D I h;exact wpAny_Expr_any (bJ (he ac s σ H _ I h) λv s1 ⟨x,H1,I1,r1,q1⟩=>⟨σ,H1,I1,q1⟩) I.quiet hs
def F0(te:TE):TS:=λD σ H=>te σ H D.rt
theorem JM(he:PE X e te):PS X (.Return (some e) pos) (F0 te):=by intro ac s σ H D I h;exact wpAny_Return_some (bJ (he ac s σ H _ I h) λv s1 ⟨x,H1,I1,r1,q1⟩=>⟨x,σ,H1,I1,r1,q1⟩)
def E4(c:TT)(t u:TS):TS:=λD σ H=>c σ H λb H1=>if b=true then t D σ H1 else u D σ H1
theorem jv{c:Expr}{a b:List Stmt}{tc:TT}(hc:PT X c tc)(ha:pb X a t)(hb:pb X b u):PS X (.If c a b pos) (E4 tc t u):=by
 intro ac s σ H D I h;refine wpAny_If (bJ (hc ac s σ H _ I h) λd s1 zz=>?_);obtain⟨H1,I1,q1⟩:=zz;cases d with
 |true=>exact ha ac s1 σ H1 D I1 q1
 |false=>exact hb ac s1 σ H1 D I1 q1
end
abbrev TG:=V->St->Hp->(St->Hp->Prop)->Prop
abbrev J9:=List V->St->Hp->(St->Hp->Prop)->Prop
def PG(X:Cx)(target:Expr)(t:TG):Prop :=
 ∀(ac:List (Addr×Obj))(s:Shared)(σ:St)(H:Hp)(v:V)(u:Value)(Q:St->Hp->Prop),Inv X ac σ H s->RelV v u->t v σ H Q->
  wpAny (model X.prog X.w) X.A (assign target X.env u) (λ_ s'=>∃σ' H',Inv X ac σ' H' s'/\Q σ' H') X.xe s
def M8(X:Cx)(ts:List Expr)(t:J9):Prop :=
 ∀(ac:List (Addr×Obj))(s:Shared)(σ:St)(H:Hp)(vs:List V)(us:List Value)(Q:St->Hp->Prop),Inv X ac σ H s->Vals vs us->t vs σ H Q->
  wpAny (model X.prog X.w) X.A (assignInOrder ((assignEach ts X.env).map (·.2)) us) (λ_ s'=>∃σ' H',Inv X ac σ' H' s'/\Q σ' H') X.xe s
abbrev Jp:=V->V->V->Hp->(Hp->Prop)->Prop
def Ls(X:Cx)(t:Jp):Prop :=
 ∀(ac:List (Addr×Obj))(s:Shared)(σ:St)(H:Hp)(o i v:V)(ov iv u:Value)(Q:Hp->Prop),Inv X ac σ H s->RelV o ov->RelV i iv->RelV v u->t o i v H Q->
  wpAny (model X.prog X.w) X.A (setItem ov iv u) (λ_ s'=>∃H',Inv X ac σ H' s'/\Q H') X.xe s
section
variable{X:Cx}{pos:Pos}
def bW(i:Nat):TG:=λv σ H Q=>Q (σ.set i (some v)) H
theorem aM{i:Nat}{x:Str}(hN:X.N.Nodup)(hi:X.N[i]? = some x)(hx:Loc X.env.scope x)(hf:X.fn x=true\/X.env.scope.names.lookup x=some .local:=by first|exact .inl rfl|exact .inr rfl|assumption):PG X (.Name x pos) (bW i):=by intro ac s σ H v u Q I r h;exact wpAny_assign_Name (gu I hN hi hx r (λs' I'=>⟨_,H,I',h⟩) hf)
def oH:J9:=λvs σ H Q=>vs=[]/\Q σ H
def cI(t:TG)(u:J9):J9:=λvs σ H Q=>∃v r,vs=v::r/\t v σ H λσ' H'=>u r σ' H' Q
theorem bw:M8 X [] oH:=by intro ac s σ H vs us Q I r h;obtain⟨e,h⟩:=h;subst e;cases r;exact assignInOrder_nil ⟨σ,H,I,h⟩
theorem ar{e:Expr}{es:List Expr}{t:TG}{u:J9}(h1:PG X e t)(h2:M8 X es u)
  (hs:(assignEach (e::es) X.env).map (·.2)=assign e X.env::(assignEach es X.env).map (·.2):=by rfl):M8 X (e::es) (cI t u):=by
 intro ac s σ H vs us Q I r h;obtain⟨v,vr,e1,h⟩:=h;subst e1;cases r with
 |cons r rr =>rw[hs];refine assignInOrder_cons (bJ (h1 ac s σ H _ _ _ I r h) λ_ s1 zz=>?_);obtain⟨K7,H1,I1,q1⟩:=zz;exact h2 ac s1 K7 H1 _ _ Q I1 rr q1
def oJ(K:UX)(n:Nat)(t:J9):TG:=λv σ H Q=>∃a xs,v=.ref a/\aY K H a xs/\xs.length=n/\t xs σ H Q
theorem bS{es:List Expr}{k:Nat}{t:J9}{n:Nat}(hc:X.calm=true)(h:M8 X es t)
  (hn:(assignEach es X.env).length=n:=by rfl) (hst:(assignEach es X.env).findIdx? (·.1)=none:=by rfl):PG X (.Tuple es k pos) (oJ X.K n t):=by
 intro ac s σ H v u Q I r hw;obtain⟨a,xs,e1,hq,hl,hw⟩:=hw;subst e1;cases r;obtain⟨its,rv,ht,hz⟩:=I.tuple hq;refine assign_Tuple_tuple (I.ok.hd hc) ht (by simp[hn,←hl,rv.length]) hst λh' hx=>?_;have I1:Inv X ac σ H {s with heap:=h'}:=I.kept (t':=s.toks) λb o e=>hx b o (Um (TQ e)) e;exact h ac _ σ H xs _ Q I1 (by simpa using rv) hw
def O5(to ti:TE)(t:Jp):TG:=λv σ H Q=>to σ H λo H1=>ti σ H1 λi H2=>t o i v H2 λH3=>Q σ H3
theorem DL{o i:Expr}{to ti:TE}{t:Jp}(ho:PE X o to)(hi:PE X i ti)(hs:Ls X t)
  (ha:∀v,assign (.Subscript o i pos) X.env v=(do
   let ov←holding [v] (eval o X.env)
   let iv←holding [v,ov] (eval i X.env)
   standAt pos
   holding [v,ov,iv] (setItem ov iv v)
   release [v,ov,iv] []):=by intro _;rfl):PG X (.Subscript o i pos) (O5 to ti t):=by
 intro ac s σ H v u Q I r h;rw[ha];refine TK (Uw (bJ (ho ac s σ H _ I h) λov s1 zz=>?_));obtain⟨x,H1,I1,r1,q1⟩:=zz;refine TK (Uw (bJ (hi ac s1 σ H1 _ I1 q1) λiv s2 zz=>?_));obtain⟨y,H2,I2,r2,q2⟩:=zz;refine TK (wpAny_standAt (TK (Uw (bJ (hs ac s2 σ H2 x y v ov iv u _ I2 r1 r2 r q2) λ_ s3 zz=>?_))));obtain⟨H3,I3,q3⟩:=zz;exact wpAny_release ⟨σ,H3,I3,q3⟩
def DD(te:TE)(g:TG):TS:=λD σ H=>te σ H λx H1=>g x σ H1 D.nx
theorem d0{tg e:Expr}{te:TE}{g:TG}(he:PE X e te)(hg:PG X tg g)(hs:swapsWithSole [tg] e pos.line X.env=pure false:=by rfl)(hw:swappedStores [tg] e X.env=pure none:=by rfl)
  (h1:(assignEach [tg] X.env).map (·.2)=[assign tg X.env]:=by rfl):PS X (.Assign [tg] e pos) (DD te g):=by
 intro ac s σ H D I h;refine wpAny_Assign_stores (bJ (he ac s σ H _ I h) λv s1 zz=>?_) hs hw;obtain⟨x,H1,I1,r1,q1⟩:=zz;rw[h1];exact bJ (hg ac s1 σ H1 x v _ I1 r1 q1) λ_ s2 q=>q
theorem bc{i:Nat}{x:Str}{e:Expr}{te:TE}{pos':Pos}(hN:X.N.Nodup)(hi:X.N[i]? = some x)(hx:Loc X.env.scope x)(he:PE X e te)(hs:swapsWith e (some (.Name x pos')) pos.line X.env=pure false:=by rfl)(hf:X.fn x=true\/X.env.scope.names.lookup x=some .local:=by first|exact .inl rfl|exact .inr rfl|assumption) :
  PS X (.Assign [.Name x pos'] e pos) (DD te (bW i)):=by
 intro ac s σ H D I h;refine wpAny_Assign_Name (bJ (he ac s σ H _ I h) λv s1 zz=>?_) hs;obtain⟨y,H1,I1,r1,q1⟩:=zz;exact gu I1 hN hi hx r1 (λs2 I2=>⟨_,H1,I2,q1⟩) hf
def OS(i j:Nat)(ta:TA):TS:=λD σ H=>ta σ H λvs H1=>∃v w,vs=[v,w]/\D.nx ((σ.set i (some v)).set j (some w)) H1
theorem BM{i j:Nat}{x y:Str}{a b:Expr}{ta:TA}{px py pt:Pos}{kt k2 OI}(hc:X.calm=true)(hN:X.N.Nodup)(hi:X.N[i]? = some x)(hj:X.N[j]? = some y)(hij:i≠j)
  (hx:X.env.scope.names.lookup x=some .local) (hy:X.env.scope.names.lookup y=some .local) (ha:PA X [a,b] ta)
  (hw:swappedStores [.Tuple [.Name x px,.Name y py] kt pt] (.Tuple [a,b] k2 OI) X.env=pure (some [x,y]))
  (hs:swapsWithSole [.Tuple [.Name x px,.Name y py] kt pt] (.Tuple [a,b] k2 OI) pos.line X.env=pure false:=by rfl) :
  PS X (.Assign [.Tuple [.Name x px,.Name y py] kt pt] (.Tuple [a,b] k2 OI) pos) (OS i j ta):=by
 intro ac s σ H D I h;rw[exec_Assign_arm];refine TK (wpAny_standAt ?_);rw[hs];refine TK (TM ?_);rw[UD (by decide)];refine TK (Tuple_ (bJ (ha _ ac s σ H _ I h) λus s1 zz=>?_));obtain⟨vs,H1,I1,r1,q1⟩:=zz;obtain⟨v,w,e1,q1⟩:=q1;subst e1;obtain⟨u1,u2,rfl,rv,ow⟩ :∃u1 u2,us=[u1,u2]/\RelV v u1/\RelV w u2:=by
  cases r1 with
  |cons p q =>
   cases q with
   |cons p' q' =>cases q';exact⟨_,_,rfl,p,p'⟩
 refine Ux ?_ (by show 2<=sizeLine;decide);have I2:Inv X ac σ H1 {s1 with heap:=s1.heap.push {cls:=.type "tuple",data:=.seq [u1,u2].toArray}}:=I1.kept (t':=s1.toks) λb o e=>TN _ e;rw[hw];refine TK (TM ?_);show wpAny (model X.prog X.w) X.A (do rule "assign.swapped-stores";let items←unpackItems (.ref s1.heap.objs.size) 2 none;assignInOrder [λv=>bindName X.env y v,λv=>bindName X.env x v] items.reverse;pure Flow.next) _ _ _;refine TK (wpAny_rule (TK (unpackItems_tuple (items:=#[u1,u2]) (I.ok.hd hc) (IsTup.new s1.heap _) λh' hx'=>?_)));have I3:=I2.kept (h':=h') (t':=s1.toks) λb o e=>hx' b o (Um (TQ e)) e;show wpAny _ _ (assignInOrder [λv=>bindName X.env y v,λv=>bindName X.env x v] [u2,u1] >>= λ_=>pure Flow.next) _ _ _;refine TK (assignInOrder_cons (wpAny_bindName (gu I3 hN hj (.inl hy) ow (λs2 I4=>?_) (.inr hy))));refine assignInOrder_cons (wpAny_bindName (gu I4 hN hi (.inl hx) rv (λs3 I5=>assignInOrder_nil (TM ?_)) (.inr hx)));rw[List.set_comm _ _ (Ne.symm hij)]at I5;exact⟨_,H1,I5,q1⟩
end
structure It where
 go:Nat->Hp->Prop
 Ci:Nat->Hp->V->Hp->Prop
 stop:Nat->Hp->Prop
def cS(X:Cx)(ac:List (Addr×Obj))(H:Hp)(b:Addr):Prop :=
 H b=none/\b≠X.env.locals/\b∉X.fs/\(b∈X.ex\/X.s₀.heap.objs.size<=b)/\(∀x c,X.env.cells.lookup x=some c->c≠b)/\∀p∈X.pn++ac,p.1≠b
theorem Inv.nC{X:Cx}{ac:List (Addr×Obj)}{σ:St}{H H':Hp}{s:Shared}{b:Addr}(I:Inv X ac σ H s)(hb:s.heap.objs.size<=b)(hn:H' b=none):cS X ac H' b:=by
 refine⟨hn,Nat.ne_of_gt (T9 I.lt hb),I.NS hb,.inr (TV I.sz hb),λx c e z=>?_,λp hp z=>?_⟩
 ·obtain⟨v,q⟩:=I.cell x c e;exact UC (T9 q.lt (by rw[z];exact hb)) (Nat.lt_irrefl _)
 ·exact UC (T9 (TQ (I.pin p hp).1) (by rw[z];exact hb)) (Nat.lt_irrefl _)
structure Turn(P:Program)(w:World)(K:UX)(tg:Expr)(J:It)(fp:List Addr)(it:Addr)(tn:Nat->Heap->Prop):Prop where
 mem:it∈fp
 obj:∀i h,tn i h->∀b∈fp,∃o,h.get? b=some o/\∀v,o.data≠ .cell v
 keep:∀i h h',tn i h->(∀b∈fp,∀o,h.get? b=some o->h'.get? b=some o)->tn i h'
 item:∀(X:Cx),X.prog=P->X.w=w->X.K=K->X.calm=true->∀(i:Nat)(ac:List (Addr×Obj))(s:Shared)(σ:St)(H:Hp)(E:Value->Shared->Prop),Inv X ac σ H s->(∀b∈fp,cS X ac H b)->tn i s.heap->J.go i H->
  wpAny (model P w) X.A (pyNext (.ref it)) (λr s1=>∃u,r=some u/\
   wpAny (model P w) X.A (letOwnedTupleGo tg (.ref it) u) (λ_ s2=>∃x H',Inv X ac σ H' s2/\RelV x u/\J.Ci i H x H'/\tn (i+1) s2.heap/\∀b∈fp,H' b=none) E s1) E s
 done:∀(X:Cx),X.prog=P->X.w=w->X.K=K->X.calm=true->∀(i:Nat)(ac:List (Addr×Obj))(s:Shared)(σ:St)(H:Hp)(E:Value->Shared->Prop),Inv X ac σ H s->(∀b∈fp,cS X ac H b)->tn i s.heap->J.stop i H->
  wpAny (model P w) X.A (pyNext (.ref it)) (λr s1=>r=none/\Inv X ac σ H s1) E s
 self:∀(A:Around)(i:Nat)(s:Shared)(Q:Value->Shared->Prop)(E:Value->Shared->Prop),tn i s.heap->Q (.ref it) s->wpAny (model P w) A (pyIter (.ref it)) Q E s
abbrev TI:=St->Hp->(It->Hp->Prop)->Prop
def PIE(X:Cx)(ac:List (Addr×Obj))(σ:St)(tg:Expr)(R:It->Hp->Prop)(itv:Value)(s2:Shared):Prop :=
 ∃(it:Addr)(fp:List Addr)(tn:Nat->Heap->Prop)(J:It)(H':Hp),itv=.ref it/\Inv X ac σ H' s2/\Turn X.prog X.w X.K tg J fp it tn/\tn 0 s2.heap/\(∀b∈fp,cS X ac H' b)/\R J H'
def PI(X:Cx)(tg iter:Expr)(wi:TI):Prop :=
 ∀(ac:List (Addr×Obj))(s:Shared)(σ:St)(H:Hp)(R:It->Hp->Prop),Inv X ac σ H s->wi σ H R->
  wpAny (model X.prog X.w) X.A (eval iter X.env) (λv s1=>wpAny (model X.prog X.w) X.A (pyIter v) (PIE X ac σ tg R) X.xe s1) X.xe s
theorem BE{M:Model}{A:Around}{E:Value->Shared->Prop}{s:Shared}{tg:Expr}{it:Addr}{u:Value}{o:Obj}{n:String}{vs:Array Value}{Q:Unit->Shared->Prop}(ho:s.heap.get? it=some o)(hc:o.cls=.type n)(hd:o.data=.fields vs)
  (hn:["enumerate","zip","dict_itemiterator","dict_reverseitemiterator","odict_iterator","itertools.zip_longest","itertools.pairwise"].contains n=false) (hQ:Q () s):wpAny M A (letOwnedTupleGo tg (.ref it) u) Q E s:=by
 unfold letOwnedTupleGo;cases tg<;>first
  |exact TM hQ
  | (cases u<;>first
    |exact TM hQ
    | (refine TK (wpAny_load ho ?_)
       rw[hc,hd];show wpAny M A (if(["enumerate","zip","dict_itemiterator","dict_reverseitemiterator","odict_iterator","itertools.zip_longest","itertools.pairwise"].contains n&&vs[0]? == some (rawInt _))=true then _ else _) Q E s;rw[UD (by intro h;rw[hn,Bool.false_and]at h;cases h)];exact TM hQ))
def Gy(K:UX)(a:Addr):It :=
 ⟨λi H=>∃xs x,bj K H a xs/\xs[i]? = some x,λi H x H'=>H'=H/\∀xs,bj K H a xs->xs[i]? = some x,λi H=>∃xs,bj K H a xs/\xs.length<=i⟩
def Ei(K:UX)(a:Addr):It :=
 ⟨λi H=>∃xs x,aY K H a xs/\xs[i]? = some x,λi H x H'=>H'=H/\∀xs,aY K H a xs->xs[i]? = some x,λi H=>∃xs,aY K H a xs/\xs.length<=i⟩
def Hf(lo:Int)(n:Nat):It:=⟨λi _=>i<n,λi H x H'=>H'=H/\x=.int (lo+i),λi _=>n<=i⟩
theorem A_{P:Program}{w:World}{K:UX}{tg:Expr}(a it:Addr):Turn P w K tg (Gy K a) [it] it (λi h=>h.IsListIter it a i) where
 mem:=by simp
 obj:=λi h st b hb=>by
  have e:b=it:=by simpa using hb
  subst e;obtain⟨o,e,c,d⟩:=st;exact⟨o,e,λv z=>by rw[d]at z;cases z⟩
 keep:=λi h h' st k=>st.at λo e=>k it (by simp) o e
 item:=by intro X hP hw hK hc i ac s σ H E I hf st hg;subst hP hw hK;obtain⟨xs,x,hq,hx⟩:=hg;obtain⟨its,rv,p,hz⟩:=I.list hq;obtain⟨u,hu,ru⟩:=rv.get hx;obtain⟨f0,f1,f2,f3,f4,f5⟩:=hf it (by simp);refine wpAny_pyNext_list_item st p.isList (x:=u) (by simpa using hu) λh' st' sb=>?_;have I1:Inv X ac σ H {s with heap:=h'}:=I.turned (t':=s.toks) (λb o hb e=>(sb.2 b hb).trans e) f0 f1 f3 f4 f5;obtain⟨o,e,c,d⟩:=id st';exact⟨u,rfl,BE (s:={s with heap:=h'}) e c d (by decide) ⟨x,H,I1,ru,⟨rfl,λys hy=>by rw[I.Dg hy hq];exact hx⟩,st',λb hb=>(hf b hb).1⟩⟩
 done:=by intro X hP hw hK hc i ac s σ H E I hf st hg;subst hP hw hK;obtain⟨xs,hq,hx⟩:=hg;obtain⟨its,rv,p,hz⟩:=I.list hq;obtain⟨f0,f1,f2,f3,f4,f5⟩:=hf it (by simp);have hl:=rv.length;exact wpAny_pyNext_list_end (I.ok.hd hc) st p.isList (by simp;omega) λh' eb=>⟨rfl,I.turned (t':=s.toks) (λb o hb e=>eb b o hb e) f0 f1 f3 f4 f5⟩
 self:=λ_ _ _ _ _ st h=>wpAny_pyIter_listiter st h
theorem wJ{P:Program}{w:World}{K:UX}{tg:Expr}(a it:Addr):Turn P w K tg (Ei K a) [it] it (λi h=>h.IsTupleIter it a i) where
 mem:=by simp
 obj:=λi h st b hb=>by
  have e:b=it:=by simpa using hb
  subst e;obtain⟨o,e,c,d⟩:=st;exact⟨o,e,λv z=>by rw[d]at z;cases z⟩
 keep:=λi h h' st k=>st.at λo e=>k it (by simp) o e
 item:=by intro X hP hw hK hc i ac s σ H E I hf st hg;subst hP hw hK;obtain⟨xs,x,hq,hx⟩:=hg;obtain⟨its,rv,p,hz⟩:=I.tuple hq;obtain⟨u,hu,ru⟩:=rv.get hx;obtain⟨f0,f1,f2,f3,f4,f5⟩:=hf it (by simp);refine wpAny_pyNext_tuple_item st (show s.heap.IsTuple a its.toArray from p) (x:=u) (by simpa using hu) λh' st' sb=>?_;have I1:Inv X ac σ H {s with heap:=h'}:=I.turned (t':=s.toks) (λb o hb e=>(sb.2 b hb).trans e) f0 f1 f3 f4 f5;obtain⟨o,e,c,d⟩:=id st';exact⟨u,rfl,BE (s:={s with heap:=h'}) e c d (by decide) ⟨x,H,I1,ru,⟨rfl,λys hy=>by rw[I.mU hy hq];exact hx⟩,st',λb hb=>(hf b hb).1⟩⟩
 done:=by intro X hP hw hK hc i ac s σ H E I hf st hg;subst hP hw hK;obtain⟨xs,hq,hx⟩:=hg;obtain⟨its,rv,p,hz⟩:=I.tuple hq;obtain⟨f0,f1,f2,f3,f4,f5⟩:=hf it (by simp);have hl:=rv.length;exact wpAny_pyNext_tuple_end (I.ok.hd hc) st (show s.heap.IsTuple a its.toArray from p) (by simp;omega) λh' eb=>⟨rfl,I.turned (t':=s.toks) (λb o hb e=>eb b o hb e) f0 f1 f3 f4 f5⟩
 self:=λ_ _ _ _ _ st h=>wpAny_pyIter_tupleiter st h
theorem x9{P:Program}{w:World}{K:UX}{tg:Expr}(it:Addr)(lo:Int)(n:Nat):Turn P w K tg (Hf lo n) [it] it (λi h=>IsRangeIter h it (lo+(i:Nat)*1) ((n:Int)-(i:Nat)) 1) where
 mem:=by simp
 obj:=λi h st b hb=>by
  have e:b=it:=by simpa using hb
  subst e;exact⟨_,st,λv z=>by have z':Data.fields _=Data.cell v:=z;cases z'⟩
 keep:=λi h h' st k=>k it (by simp) _ st
 item:=by intro X hP hw hK hc i ac s σ H E I hf st hg;subst hP hw hK;obtain⟨f0,f1,f2,f3,f4,f5⟩:=hf it (by simp);have W:=Walks.range (prog:=X.prog) (w:=X.w) (I.ok.hd hc) it lo 1 n;refine W.item i s _ _ hg st λv h' tk hv st' kk=>?_;obtain⟨t,rfl⟩:=hv;have I1:Inv X ac σ H {s with heap:=h',toks:=tk}:=I.turned (λb o hb e=>kk b o (by simpa using hb) e) f0 f1 f3 f4 f5;refine⟨_,rfl,BE (s:={s with heap:=h',toks:=tk}) (n:="range_iterator") st' rfl rfl (by decide) ⟨.int (lo+i),H,I1,⟨t,?_⟩,⟨rfl,rfl⟩,st',λb hb=>(hf b hb).1⟩⟩;rw[Int.mul_one]
 done:=by intro X hP hw hK hc i ac s σ H E I hf st hg;subst hP hw hK;obtain⟨f0,f1,f2,f3,f4,f5⟩:=hf it (by simp);exact wpAny_pyNext_range_end (I.ok.hd hc) st (by have:n<=i:=hg;omega) λh' eb=>⟨rfl,I.turned (t':=s.toks) (λb o hb e=>eb b o hb e) f0 f1 f3 f4 f5⟩
 self:=λ_ _ _ _ _ st h=>wpAny_pyIter_rangeiter st h
section
variable{X:Cx}{tg:Expr}
def KG(K:UX)(tl:TE):TI:=λσ H R=>tl σ H λx H1=>∃a,x=.ref a/\(∃xs,bj K H1 a xs)/\R (Gy K a) H1
def FO(K:UX)(tl:TE):TI:=λσ H R=>tl σ H λx H1=>∃a,x=.ref a/\(∃xs,aY K H1 a xs)/\R (Ei K a) H1
theorem eU{l:Expr}{tl:TE}(hl:PE X l tl):PI X tg l (KG X.K tl):=by
 intro ac s σ H R I h;refine bJ (hl ac s σ H _ I h) λv s1 zz=>?_;obtain⟨x,H1,I1,r1,q1⟩:=zz;obtain⟨a,e,⟨xs,hq⟩,q⟩:=q1;subst e;cases r1;obtain⟨its,rv,p,hz⟩:=I1.list hq;refine wpAny_pyIter_list p.isList ?_;refine⟨s1.heap.objs.size,[s1.heap.objs.size],_,_,H1,rfl,I1.kept (t':=s1.toks) λb o e=>TN _ e,A_ a _,⟨_,TR _ rfl,rfl,rfl⟩,λb hb=>?_,q⟩;have e:b=s1.heap.objs.size:=by simpa using hb
 subst e;exact I1.nC (TU _) (I1.hok.fresh (TU _))
theorem cF{l:Expr}{tl:TE}(hl:PE X l tl):PI X tg l (FO X.K tl):=by
 intro ac s σ H R I h;refine bJ (hl ac s σ H _ I h) λv s1 zz=>?_;obtain⟨x,H1,I1,r1,q1⟩:=zz;obtain⟨a,e,⟨xs,hq⟩,q⟩:=q1;subst e;cases r1;obtain⟨its,rv,p,hz⟩:=I1.tuple hq;refine wpAny_pyIter_tuple (show s1.heap.IsTuple a its.toArray from p) ?_;refine⟨s1.heap.objs.size,[s1.heap.objs.size],_,_,H1,rfl,I1.kept (t':=s1.toks) λb o e=>TN _ e,wJ a _,⟨_,TR _ rfl,rfl,rfl⟩,λb hb=>?_,q⟩;have e:b=s1.heap.objs.size:=by simpa using hb
 subst e;exact I1.nC (TU _) (I1.hok.fresh (TU _))
theorem uW{ac:List (Addr×Obj)}{σ:St}{H:Hp}{s:Shared}{R:It->Hp->Prop}{E:Value->Shared->Prop}{lo hi:Int}{t u v:Tok}{tk:Nat}(I:Inv X ac σ H s)(h1:-(2 ^ 62)<=lo)(h2:lo<2 ^ 62)(h3:-(2 ^ 62)<=hi)(h4:hi<2 ^ 62)
  (q:R (Hf lo (hi-lo).toNat) H):wpAny (model X.prog X.w) X.A (pyIter (.ref s.heap.objs.size)) (PIE X ac σ tg R) E {s with heap:=s.heap.push {cls:=.type "range",data:=.fields #[.int lo t,.int hi u,.int 1 v]},toks:=tk}:=by
 refine wpAny_pyIter_range (IsRange.new ..) (small_one h1 h2 h3 h4) ?_;have I1:Inv X ac σ H {s with heap:=s.heap.push {cls:=.type "range",data:=.fields #[.int lo t,.int hi u,.int 1 v]},toks:=tk}:=I.kept λb o e=>TN _ e;refine⟨(s.heap.push {cls:=.type "range",data:=.fields #[.int lo t,.int hi u,.int 1 v]}).objs.size,[(s.heap.push {cls:=.type "range",data:=.fields #[.int lo t,.int hi u,.int 1 v]}).objs.size],_,_,H,rfl,
  I1.kept (t':=tk) λb o e=>TN _ e,x9 _ lo (hi-lo).toNat,?_,λb hb=>?_,q⟩
 ·have e1:lo+((0:Nat):Int)*1=lo:=by simp
  have e2:(((hi-lo).toNat:Nat):Int)-((0:Nat):Int)=Builtin.Range.rangeSize lo hi 1:=by rw[rangeSize_one];split<;>omega
  show IsRangeIter _ _ (lo+((0:Nat):Int)*1) ((((hi-lo).toNat:Nat):Int)-((0:Nat):Int)) 1;rw[e1,e2];exact TR _ rfl
 ·have e:b=(s.heap.push {cls:=.type "range",data:=.fields #[.int lo t,.int hi u,.int 1 v]}).objs.size:=by simpa using hb
  subst e;exact I1.nC (TU _) (I1.hok.fresh (TU _))
def KA(ta:TA):TI:=λσ H R=>ta σ H λvs H1=>∃j:Int,vs=[.int j]/\-(2 ^ 62)<=j/\j<2 ^ 62/\R (Hf 0 j.toNat) H1
def MI(ta:TA):TI:=λσ H R=>ta σ H λvs H1=>∃i j:Int,vs=[.int i,.int j]/\(-(2 ^ 62)<=i/\i<2 ^ 62/\-(2 ^ 62)<=j/\j<2 ^ 62)/\R (Hf i (j-i).toNat) H1
theorem el{a:Expr}{ta:TA}{p pos:Pos}(hg:Gl X "range")(hm:X.mg "range"=none)(ha:PA X [a] ta)(hs:starEach [a] X.env=[(false,eval a X.env)]:=by rfl):PI X tg (.Call (.Name "range" p) [a] [] pos) (KA ta):=by
 intro ac s σ H R I h;refine Call_ (iY I hg hm boot_range (PyProof.Rows.callWith_type1 (bJ (ha pos ac s σ H _ I h) λus s1 zz=>?_) hs rfl));obtain⟨vs,H1,I1,r1,q1⟩:=zz;obtain⟨j,e,q1,q2,q⟩:=q1;subst e;cases r1 with
 |cons r rr =>cases rr;obtain⟨t,rfl⟩:=r;exact call_range_1 (uW I1 (by omega) (by omega) q1 q2 (by simpa using q))
theorem sd{a b:Expr}{ta:TA}{p pos:Pos}(hg:Gl X "range")(hm:X.mg "range"=none)(ha:PA X [a,b] ta)(hs:starEach [a,b] X.env=[(false,eval a X.env),(false,eval b X.env)]:=by rfl)(hs2:starEach [b] X.env=[(false,eval b X.env)]:=by rfl) :
  PI X tg (.Call (.Name "range" p) [a,b] [] pos) (MI ta):=by
 intro ac s σ H R I h;refine Call_ (iY I hg hm boot_range (PyProof.Rows.callWith_type1 (bJ (ha pos ac s σ H _ I h) λus s1 zz=>?_) (by rw[hs,hs2]) (by rw[hs2];rfl)));obtain⟨vs,H1,I1,r1,q1⟩:=zz;obtain⟨i,j,e,⟨q1,q2,q3,q4⟩,q⟩:=q1;subst e;cases r1 with
 |cons r rr =>
  cases rr with
  |cons r' rr =>cases rr;obtain⟨t,rfl⟩:=r;obtain⟨t',rfl⟩:=r';exact call_range_2 (uW I1 q1 q2 q3 q4 q)
def NH(wi:TI)(g:TG)(tb:TS):TS:=λD σ H=>wi σ H λJ H1=>∃W:Nat->Nat->St->Hp->Prop,(∃m,W 0 m σ H1)/\∀i m σ H,W i m σ H->
 (J.stop i H/\D.nx σ H)\/(J.go i H/\∃N:St->Hp->Prop,(∀σ' H',N σ' H'->∃m',m'<m/\W (i+1) m' σ' H')/\∀x H',J.Ci i H x H'->g x σ H' λcD H2=>tb {D with nx:=N,ct:=N,bk:=D.nx} cD H2)
def jg(fp:List Addr)(h:Heap):List (Addr×Obj):=fp.filterMap λb=>(h.get? b).map λo=>(b,o)
theorem b9{fp:List Addr}{h:Heap}{b:Addr}{o:Obj}(hb:b∈fp)(e:h.get? b=some o):(b,o)∈jg fp h:=List.mem_filterMap.mpr ⟨b,hb,by rw[e];rfl⟩
theorem AN{fp:List Addr}{h:Heap}{p:Addr×Obj}(hp:p∈jg fp h):p.1∈fp/\h.get? p.1=some p.2:=by
 obtain⟨b,hb,e⟩:=List.mem_filterMap.mp hp;cases q:h.get? b with
 |none=>rw[q]at e;cases e
 |some o =>rw[q]at e;have e':(b,o)=p:=Up e;subst e';exact⟨hb,q⟩
theorem Inv.pinned{ac:List (Addr×Obj)}{σ:St}{H:Hp}{s:Shared}{fp:List Addr}(I:Inv X ac σ H s)(hf:∀b∈fp,cS X ac H b)(ho:∀b∈fp,∃o,s.heap.get? b=some o/\∀v,o.data≠ .cell v):Inv X (ac++jg fp s.heap) σ H s :=
 I.gV λp hp=>(Ul.mp hp).elim (λz=>I.pin p (Ua _ z)) λz=>by obtain⟨hb,e⟩:=AN z;obtain⟨f0,f1,f2,_⟩:=hf p.1 hb;obtain⟨o,e',d⟩:=ho p.1 hb;rw[e]at e';cases e';exact⟨e,f0,f1,f2,d⟩
theorem Inv.fD{ac pl:List (Addr×Obj)}{σ:St}{H:Hp}{s:Shared}(I:Inv X (ac++pl) σ H s):Inv X ac σ H s:=I.gV λp hp=>I.pin p (Ua _ (List.mem_append_left _ hp))
theorem fj{iter:Expr}{body:List Stmt}{wi:TI}{g:TG}{tb:TS}{pos:Pos}(hp:PassesOwn (model X.prog X.w) X.A X.env X.xe)(hc:X.calm=true)(hi:PI X tg iter wi)(hg:PG X tg g)(hb:pb X body tb)
  (hs:∀x,foldedSetIterable iter X.env x=pure x:=by intro _;rfl):PS X (.For tg iter body [] pos) (NH wi g tb):=by
 intro ac s σ H D I h;refine wpAny_For (bJ (hi ac s σ H _ I h) λv s1 h1=>bJ h1 λitv s2 h2=>?_) hs;obtain⟨it,fp,tn,J,H2,e,I2,T,st2,f2,W,⟨m0,w0⟩,turn⟩:=h2;subst e;have stat:∀{H':Hp},(∀b∈fp,H' b=none)->∀b∈fp,cS X ac H' b:=λhn b hb=>⟨hn b hb,(f2 b hb).2⟩;refine codeAny_forLoop_any (λn s'=>∃i σ' H',Inv X ac σ' H' s'/\tn i s'.heap/\(∀b∈fp,H' b=none)/\W i n σ' H') ?_ m0 ⟨0,σ,H2,I2,st2,λb hb=>(f2 b hb).1,w0⟩;rintro n s3 ⟨i,KH,H3,I3,st3,PQ,w3⟩;rcases turn i n KH H3 w3 with⟨stop,qn⟩|⟨go,N,hN,step⟩
 ·refine wpAny_passesOwn hp (bJ (T.done X rfl rfl rfl hc i ac s3 KH H3 X.xe I3 (stat PQ) st3 stop) λr s4 zz=>?_);obtain⟨hr,I4⟩:=zz;subst hr;exact wpAny_execs_nil ⟨KH,H3,I4,qn⟩
 ·refine wpAny_passesOwn hp (bJ (T.item X rfl rfl rfl hc i ac s3 KH H3 X.xe I3 (stat PQ) st3 go) λr s4 zz=>?_);obtain⟨u,hr,h4⟩:=zz;subst hr;refine wpAny_passesOwn hp (bJ h4 λ_ s5 zz=>?_);obtain⟨x,H5,I5,r5,y5,qN,sF⟩:=zz;have S0:=I5.pinned (stat sF) (T.obj _ _ qN);refine wpAny_passesOwn hp (bJ (hg _ s5 KH H5 x u _ S0 r5 (step x H5 y5)) λ_ s6 zz=>?_);obtain⟨SI,H6,I6,q6⟩:=zz;refine wpAny_passesOwn hp (bJ (hb _ s6 SI H6 _ I6 q6) λf s7 q7=>?_);have again:∀{BB:St}{H7:Hp},Inv X (ac++jg fp s5.heap) BB H7 s7->N BB H7->∃m,m<n/\∃i σ' H',Inv X ac σ' H' s7/\tn i s7.heap/\(∀b∈fp,H' b=none)/\W i m σ' H':=λ{BB H7} I7 n7=>by obtain⟨m',hm,w7⟩:=hN BB H7 n7;refine⟨m',hm,i+1,BB,H7,I7.fD,T.keep _ _ _ qN λb hb o e=>(I7.pin (b,o) (Ua _ (Ua _ (b9 hb e)))).1,λb hb=>?_,w7⟩;obtain⟨o,e,d⟩:=T.obj _ _ qN b hb;exact(I7.pin (b,o) (Ua _ (Ua _ (b9 hb e)))).2.1
  cases f with
  |next=>obtain⟨BB,H7,I7,n7⟩:=q7;exact again I7 n7
  |cont=>obtain⟨BB,H7,I7,n7⟩:=q7;exact again I7 n7
  |brk=>obtain⟨BB,H7,I7,q7⟩:=q7;exact⟨BB,H7,I7.fD,q7⟩
  |ret v=>obtain⟨x7,BB,H7,I7,r7,q7⟩:=q7;exact⟨x7,BB,H7,I7.fD,r7,q7⟩
end
theorem vW{K:UX}{a:Addr}{xs:List V}{g:TG}{tb:TS}{D:Ends}{σ:St}{H:Hp}(Pv:Nat->St->Hp->Prop)(h0:Pv 0 σ H)(hl:∀i σ H,i<=xs.length->Pv i σ H->bj K H a xs)
  (hs:∀i x σ H,xs[i]? = some x->Pv i σ H->g x σ H λcD H2=>tb {D with nx:=Pv (i+1),ct:=Pv (i+1),bk:=D.nx} cD H2) (hd:∀σ H,Pv xs.length σ H->D.nx σ H) :
  ∃W:Nat->Nat->St->Hp->Prop,(∃m,W 0 m σ H)/\∀i m σ H,W i m σ H->
   ((Gy K a).stop i H/\D.nx σ H)\/((Gy K a).go i H/\∃N:St->Hp->Prop,(∀σ' H',N σ' H'->∃m',m'<m/\W (i+1) m' σ' H')/\∀x H',(Gy K a).Ci i H x H'->g x σ H' λcD H2=>tb {D with nx:=N,ct:=N,bk:=D.nx} cD H2):=by
 refine⟨λi m σ H=>m=xs.length-i/\i<=xs.length/\Pv i σ H,⟨xs.length,by simp,Uo _,h0⟩,?_⟩;rintro i m σ H ⟨rfl,hi,p⟩;have q:=hl i σ H hi p;by_cases hlt:i<xs.length
 ·refine .inr ⟨⟨xs,xs[i],q,by simp[hlt]⟩,Pv (i+1),λσ' H' p'=>⟨xs.length-(i+1),by omega,rfl,hlt,p'⟩,λx H' y=>?_⟩;obtain⟨e,y⟩:=y;subst e;exact hs i x σ _ (y xs q) p
 ·have e:i=xs.length:=by omega
  subst e;exact .inl ⟨⟨xs,q,TU _⟩,hd σ H p⟩
theorem tj{K:UX}{a:Addr}{xs:List V}{g:TG}{tb:TS}{D:Ends}{σ:St}{H:Hp}(Pv:Nat->St->Hp->Prop)(h0:Pv 0 σ H)(hl:∀i σ H,i<=xs.length->Pv i σ H->aY K H a xs)
  (hs:∀i x σ H,xs[i]? = some x->Pv i σ H->g x σ H λcD H2=>tb {D with nx:=Pv (i+1),ct:=Pv (i+1),bk:=D.nx} cD H2) (hd:∀σ H,Pv xs.length σ H->D.nx σ H) :
  ∃W:Nat->Nat->St->Hp->Prop,(∃m,W 0 m σ H)/\∀i m σ H,W i m σ H->
   ((Ei K a).stop i H/\D.nx σ H)\/((Ei K a).go i H/\∃N:St->Hp->Prop,(∀σ' H',N σ' H'->∃m',m'<m/\W (i+1) m' σ' H')/\∀x H',(Ei K a).Ci i H x H'->g x σ H' λcD H2=>tb {D with nx:=N,ct:=N,bk:=D.nx} cD H2):=by
 refine⟨λi m σ H=>m=xs.length-i/\i<=xs.length/\Pv i σ H,⟨xs.length,by simp,Uo _,h0⟩,?_⟩;rintro i m σ H ⟨rfl,hi,p⟩;have q:=hl i σ H hi p;by_cases hlt:i<xs.length
 ·refine .inr ⟨⟨xs,xs[i],q,by simp[hlt]⟩,Pv (i+1),λσ' H' p'=>⟨xs.length-(i+1),by omega,rfl,hlt,p'⟩,λx H' y=>?_⟩;obtain⟨e,y⟩:=y;subst e;exact hs i x σ _ (y xs q) p
 ·have e:i=xs.length:=by omega
  subst e;exact .inl ⟨⟨xs,q,TU _⟩,hd σ H p⟩
theorem kD{lo:Int}{n:Nat}{g:TG}{tb:TS}{D:Ends}{σ:St}{H:Hp}(Pv:Nat->St->Hp->Prop)(h0:Pv 0 σ H)
  (hs:∀i σ H,i<n->Pv i σ H->g (.int (lo+i)) σ H λcD H2=>tb {D with nx:=Pv (i+1),ct:=Pv (i+1),bk:=D.nx} cD H2) (hd:∀σ H,Pv n σ H->D.nx σ H) :
  ∃W:Nat->Nat->St->Hp->Prop,(∃m,W 0 m σ H)/\∀i m σ H,W i m σ H->
   ((Hf lo n).stop i H/\D.nx σ H)\/((Hf lo n).go i H/\∃N:St->Hp->Prop,(∀σ' H',N σ' H'->∃m',m'<m/\W (i+1) m' σ' H')/\∀x H',(Hf lo n).Ci i H x H'->g x σ H' λcD H2=>tb {D with nx:=N,ct:=N,bk:=D.nx} cD H2):=by
 refine⟨λi m σ H=>m=n-i/\i<=n/\Pv i σ H,⟨n,by simp,Uo _,h0⟩,?_⟩;rintro i m σ H ⟨rfl,hi,p⟩;by_cases hlt:i<n
 ·refine .inr ⟨hlt,Pv (i+1),λσ' H' p'=>⟨n-(i+1),by omega,rfl,hlt,p'⟩,λx H' y=>?_⟩;obtain⟨e,y⟩:=y;subst e y;exact hs i σ _ hlt p
 ·have e:i=n:=by omega
  subst e;exact .inl ⟨TU _,hd σ H p⟩
abbrev R2:=V->V->Hp->VK->Prop
def jl(X:Cx)(f:Value->Value->Sem Value)(r:R2):Prop :=
 ∀(ac:List (Addr×Obj))(s:Shared)(σ:St)(H:Hp)(x y:V)(v u:Value)(Q:VK),Inv X ac σ H s->RelV x v->RelV y u->r x y H Q->
  wpAny (model X.prog X.w) X.A (f v u) (EP X ac σ Q) X.xe s
def Ny(X:Cx)(f:Value->Sem Value)(r:V->Hp->VK->Prop):Prop :=
 ∀(ac:List (Addr×Obj))(s:Shared)(σ:St)(H:Hp)(x:V)(v:Value)(Q:VK),Inv X ac σ H s->RelV x v->r x H Q->
  wpAny (model X.prog X.w) X.A (f v) (EP X ac σ Q) X.xe s
def e_(X:Cx)(f:Value)(r:List V->Hp->VK->Prop):Prop :=
 ∀(ac:List (Addr×Obj))(s:Shared)(σ:St)(H:Hp)(xs:List V)(us:List Value)(Q:VK),Inv X ac σ H s->Vals xs us->r xs H Q->
  wpAny (model X.prog X.w) X.A (call f us) (EP X ac σ Q) X.xe s
def NZ(X:Cx)(r:V->Hp->(Bool->Hp->Prop)->Prop):Prop :=
 ∀(ac:List (Addr×Obj))(s:Shared)(σ:St)(H:Hp)(x:V)(v:Value)(Q:Bool->Hp->Prop),Inv X ac σ H s->RelV x v->r x H Q->
  wpAny (model X.prog X.w) X.A (truthy v) (TP X ac σ Q) X.xe s
def fQ(r:R2)(ta tb:TE):TE:=λσ H Q=>ta σ H λx H1=>tb σ H1 λy H2=>r x y H2 Q
def RC(r:V->Hp->VK->Prop)(ta:TE):TE:=λσ H Q=>ta σ H λx H1=>r x H1 Q
def rI(C:Int->Int->Prop)(g:Int->Int->V):R2:=λx y H Q=>∃i j,x=.int i/\y=.int j/\C i j/\Q (g i j) H
def v7(g:Int->Int->V):R2:=λx y H Q=>∃i j,x=.int i/\y=.int j/\Q (g i j) H
def rU(g:Int->V):V->Hp->VK->Prop:=λx H Q=>∃i,x=.int i/\Q (g i) H
section
variable{X:Cx}{a b c:Expr}{ta tb tc:TE}{pos:Pos}
theorem Jt(ha:PE X a ta)(hb:PE X b tb){ac:List (Addr×Obj)}{s:Shared}{σ:St}{H:Hp}{R:V->V->Hp->Prop}(I:Inv X ac σ H s)
  (h:ta σ H λx H1=>tb σ H1 λy H2=>R x y H2) {Q:Value->Shared->Prop} {f:Value->Value->Sem Value}
  (hf:∀v u s2 x y H2,Inv X ac σ H2 s2->RelV x v->RelV y u->R x y H2->wpAny (model X.prog X.w) X.A (f v u) Q X.xe s2) :
  wpAny (model X.prog X.w) X.A (eval a X.env) (λv s₁=>wpAny (model X.prog X.w) X.A (eval b X.env) (λu s₂=>wpAny (model X.prog X.w) X.A (f v u) Q X.xe s₂) X.xe s₁) X.xe s:=by
 refine bJ (ha ac s σ H _ I h) λv s1 zz=>?_;obtain⟨x,H1,I1,r1,q1⟩:=zz;refine bJ (hb ac s1 σ H1 _ I1 q1) λu s2 zz=>?_;obtain⟨y,H2,I2,r2,q2⟩:=zz;exact hf v u s2 x y H2 I2 r1 r2 q2
theorem aQ{op:Operator}{r:R2}(ho:jl X (binaryOp op) r)(ha:PE X a ta)(hb:PE X b tb):PE X (.BinOp a op b pos) (fQ r ta tb):=by intro ac s σ H Q I h;exact wpAny_BinOp (Jt ha hb I h λv u s2 x y H2 I2 rx ry q=>ho ac s2 σ H2 x y v u Q I2 rx ry q)
theorem Di{op:UnaryOp}{r:V->Hp->VK->Prop}(ho:Ny X (unaryOp op) r)(ha:PE X a ta):PE X (.UnaryOp op a pos) (RC r ta):=by intro ac s σ H Q I h;exact UnaryOp_ (bJ (ha ac s σ H _ I h) λv s1 ⟨x,H1,I1,r1,q1⟩=>ho ac s1 σ H1 x v Q I1 r1 q1)
theorem MX{f:Value->Value->Sem Value}{C:Int->Int->Prop}{g:Int->Int->Int}
  (rule:∀(i j:Int)(t u:Tok)(s:Shared)(Q:Value->Shared->Prop)(E:Value->Shared->Prop),C i j->Q (.int (g i j) s.toks) {s with toks:=s.toks+1}->wpAny (model X.prog X.w) X.A (f (.int i t) (.int j u)) Q E s) :
  jl X f (rI C λi j=>.int (g i j)):=by
 intro ac s σ H x y v u Q I rx ry h;obtain⟨i,j,rfl,rfl,hc,q⟩:=h;obtain⟨t,rfl⟩:=rx;obtain⟨t',rfl⟩:=ry;exact rule i j t t' s _ _ hc ⟨.int (g i j),H,I.tok _,⟨_,rfl⟩,q⟩
theorem Mz{f:Value->Value->Sem Value}{g:Int->Int->Int}
  (rule:∀(i j:Int)(t u:Tok)(s:Shared)(Q:Value->Shared->Prop)(E:Value->Shared->Prop),Q (.int (g i j) s.toks) {s with toks:=s.toks+1}->wpAny (model X.prog X.w) X.A (f (.int i t) (.int j u)) Q E s) :
  jl X f (v7 λi j=>.int (g i j)):=by
 intro ac s σ H x y v u Q I rx ry h;obtain⟨i,j,rfl,rfl,q⟩:=h;obtain⟨t,rfl⟩:=rx;obtain⟨t',rfl⟩:=ry;exact rule i j t t' s _ _ ⟨.int (g i j),H,I.tok _,⟨_,rfl⟩,q⟩
theorem JK{f:Value->Value->Sem Value}{g:Int->Int->Bool}
  (rule:∀(i j:Int)(t u:Tok)(s:Shared)(Q:Value->Shared->Prop)(E:Value->Shared->Prop),Q (.bool (g i j)) s->wpAny (model X.prog X.w) X.A (f (.int i t) (.int j u)) Q E s) :
  jl X f (v7 λi j=>.bl (g i j)):=by
 intro ac s σ H x y v u Q I rx ry h;obtain⟨i,j,rfl,rfl,q⟩:=h;obtain⟨t,rfl⟩:=rx;obtain⟨t',rfl⟩:=ry;exact rule i j t t' s _ _ ⟨.bl (g i j),H,I,rfl,q⟩
def Oy(i j:Int):Prop:=0<j/\j<1073741824
def NJ(i j:Int):Prop:=0<=j/\j<=1000000/\i.natAbs<2 ^ 64
def J4(i j:Int):Prop:=(-(2 ^ 64)<i/\i<2 ^ 64)\/(-(2 ^ 64)<j/\j<2 ^ 64)
theorem J4.ok{i j:Int}(h:J4 i j):IntMulOk i j:=by
 rcases h with⟨h1,h2⟩|⟨h1,h2⟩
 ·exact .of_left (intBits_le_64 h1 h2)
 ·exact .of_right (intBits_le_64 h1 h2)
theorem cb:jl X (binaryOp .Add) (v7 λi j=>.int (i+j)):=Mz λ_ _ _ _ _ _ _ q=>add_int q
theorem ck:jl X (binaryOp .Sub) (v7 λi j=>.int (i-j)):=Mz λ_ _ _ _ _ _ _ q=>sub_int q
theorem xy:jl X (binaryOp .Mult) (rI J4 λi j=>.int (i*j)):=MX λ_ _ _ _ _ _ _ hc q=>mul_int q hc.ok
theorem F_:jl X (binaryOp .FloorDiv) (rI Oy λi j=>.int (i / j)):=MX λi j _ _ _ _ _ hc q=>by have h1:(0:Int)<j:=hc.1;have h2:j<1073741824:=hc.2;exact floordiv_int (by omega) (by rw[Int.fdiv_eq_ediv_of_nonneg i (by omega)];exact q) (.inl (PyProof.noPylong_small (by omega)))
theorem pX:jl X (binaryOp .Mod) (rI (λ_ j=>0<j) λi j=>.int (i % j)):=MX λi j _ _ _ _ _ hc q=>by have h1:(0:Int)<j:=hc;exact mod_int' (by omega) (by rw[Int.fmod_eq_emod_of_nonneg i (by omega)];exact q)
theorem w_:jl X (binaryOp .Pow) (rI NJ λi j=>.int (i ^ j.toNat)):=MX λ_ _ _ _ _ _ _ hc q=>pow_int_small hc.1 hc.2.1 hc.2.2 q
theorem RF{f:Value->Sem Value}{g:Int->Int}
  (rule:∀(i:Int)(t:Tok)(s:Shared)(Q:Value->Shared->Prop)(E:Value->Shared->Prop),Q (.int (g i) s.toks) {s with toks:=s.toks+1}->wpAny (model X.prog X.w) X.A (f (.int i t)) Q E s) :
  Ny X f (rU λi=>.int (g i)):=by
 intro ac s σ H x v Q I rx h;obtain⟨i,rfl,q⟩:=h;obtain⟨t,rfl⟩:=rx;exact rule i t s _ _ ⟨.int (g i),H,I.tok _,⟨_,rfl⟩,q⟩
theorem xY:Ny X (unaryOp .USub) (rU λi=>.int (-i)):=RF λ_ _ _ _ _ q=>neg_int q
end
def Lc:V->V->Bool
 | .non,.non=>true | .non,.int _=>true | .int _,.non=>true | .non,.bl _=>true | .bl _,.non=>true | .non,.str _=>true | .str _,.non=>true
 | .int _,.int _=>true | .bl _,.bl _=>true | .str _,.str _=>true | .yW _,.yW _=>true
 | .int _,.str _=>true | .str _,.int _=>true | .bl _,.str _=>true | .str _,.bl _=>true
 |_,_=>false
def M0:R2:=λx y H Q=>Lc x y=true/\Q (.bl (decide (x=y))) H
def OT:R2:=λx y H Q=>Lc x y=true/\Q (.bl (!decide (x=y))) H
theorem yV{i j:Int}:decide (V.int i=V.int j)=(i==j):=by rw[Bool.eq_iff_iff];simp
theorem CY{i j:Bool}:decide (V.bl i=V.bl j)=(i==j):=by rw[Bool.eq_iff_iff];simp
theorem yh{i j:Str}:decide (V.str i=V.str j)=(i==j):=by rw[Bool.eq_iff_iff];simp
theorem yx{i j:Array UInt8}:decide (V.yW i=V.yW j)=(i.toList==j.toList):=by rw[Bool.eq_iff_iff];cases i;cases j;simp
section
variable{X:Cx}{a b c:Expr}{ta tb tc:TE}{pos:Pos}
theorem bP{ac:List (Addr×Obj)}{σ:St}{H:Hp}{s:Shared}{Q:VK}{k k':Bool}(I:Inv X ac σ H s)(q:Q (.bl k) H)(e:k=k'):EP X ac σ Q (.bool k') s:=by subst e;exact⟨.bl k,H,I,rfl,q⟩
theorem bO:jl X (compareOp .Eq) M0:=by
 intro ac s σ H x y v u Q I rx ry h;obtain⟨hs,q⟩:=h;cases x with
 |non =>
  cases rx;cases y with
  |non=>cases ry;exact PySem.EqNone.eq_none_none (bP I q (by simp))
  |bl j=>cases ry;exact PySem.EqNone.eq_none_bool (bP I q (by simp))
  |int j=>obtain⟨t',rfl⟩:=ry;exact PySem.EqNone.eq_none_int (bP I q (by simp))
  |str j=>obtain⟨t',rfl⟩:=ry;exact PySem.EqNone.eq_none_str (bP I q (by simp))
  |_=>exact UC (show false=true from hs) Ud
 |bl i =>
  cases rx;cases y with
  |non=>cases ry;exact PySem.EqNone.eq_bool_none (bP I q (by simp))
  |bl j=>cases ry;exact eq_bool (bP I q CY)
  |str j=>obtain⟨t',rfl⟩:=ry;exact PySem.EqMixed.eq_bool_str (bP I q (by simp))
  |_=>exact UC (show false=true from hs) Ud
 |int i =>
  obtain⟨t,rfl⟩:=rx;cases y with
  |non=>cases ry;exact PySem.EqNone.eq_int_none (bP I q (by simp))
  |int j=>obtain⟨t',rfl⟩:=ry;exact eq_int (bP I q yV)
  |str j=>obtain⟨t',rfl⟩:=ry;exact PySem.EqMixed.eq_int_str (bP I q (by simp))
  |_=>exact UC (show false=true from hs) Ud
 |str i =>
  obtain⟨t,rfl⟩:=rx;cases y with
  |non=>cases ry;exact PySem.EqNone.eq_str_none (bP I q (by simp))
  |bl j=>cases ry;exact PySem.EqMixed.eq_str_bool (bP I q (by simp))
  |int j=>obtain⟨t',rfl⟩:=ry;exact PySem.EqMixed.eq_str_int (bP I q (by simp))
  |str j=>obtain⟨t',rfl⟩:=ry;exact eq_str (bP I q yh)
  |_=>exact UC (show false=true from hs) Ud
 |yW i =>
  obtain⟨t,rfl⟩:=rx;cases y with
  |yW j=>obtain⟨t',rfl⟩:=ry;exact PySem.W.eq_bytes (bP I q yx)
  |_=>exact UC (show false=true from hs) Ud
 |_=>cases y<;>exact UC (show false=true from hs) Ud
theorem uo:jl X (compareOp .NotEq) OT:=by
 intro ac s σ H x y v u Q I rx ry h;obtain⟨hs,q⟩:=h;cases x with
 |non =>
  cases rx;cases y with
  |non=>cases ry;exact PySem.EqNone.ne_none_none (bP I q (by simp))
  |bl j=>cases ry;exact PySem.EqNone.ne_none_bool (bP I q (by simp))
  |int j=>obtain⟨t',rfl⟩:=ry;exact PySem.EqNone.ne_none_int (bP I q (by simp))
  |str j=>obtain⟨t',rfl⟩:=ry;exact PySem.EqNone.ne_none_str (bP I q (by simp))
  |_=>exact UC (show false=true from hs) Ud
 |bl i =>
  cases rx;cases y with
  |non=>cases ry;exact PySem.EqNone.ne_bool_none (bP I q (by simp))
  |bl j=>cases ry;exact ne_bool (bP I q (congrArg not CY))
  |str j=>obtain⟨t',rfl⟩:=ry;exact PySem.EqMixed.ne_bool_str (bP I q (by simp))
  |_=>exact UC (show false=true from hs) Ud
 |int i =>
  obtain⟨t,rfl⟩:=rx;cases y with
  |non=>cases ry;exact PySem.EqNone.ne_int_none (bP I q (by simp))
  |int j=>obtain⟨t',rfl⟩:=ry;exact ne_int (bP I q (congrArg not yV))
  |str j=>obtain⟨t',rfl⟩:=ry;exact PySem.EqMixed.ne_int_str (bP I q (by simp))
  |_=>exact UC (show false=true from hs) Ud
 |str i =>
  obtain⟨t,rfl⟩:=rx;cases y with
  |non=>cases ry;exact PySem.EqNone.ne_str_none (bP I q (by simp))
  |bl j=>cases ry;exact PySem.EqMixed.ne_str_bool (bP I q (by simp))
  |int j=>obtain⟨t',rfl⟩:=ry;exact PySem.EqMixed.ne_str_int (bP I q (by simp))
  |str j=>obtain⟨t',rfl⟩:=ry;exact ne_str (bP I q (congrArg not yh))
  |_=>exact UC (show false=true from hs) Ud
 |yW i =>
  obtain⟨t,rfl⟩:=rx;cases y with
  |yW j=>obtain⟨t',rfl⟩:=ry;exact PySem.W.ne_bytes (bP I q (congrArg not yx))
  |_=>exact UC (show false=true from hs) Ud
 |_=>cases y<;>exact UC (show false=true from hs) Ud
theorem D5:jl X (compareOp .Lt) (v7 λi j=>.bl (decide (i<j))):=JK λ_ _ _ _ _ _ _ q=>lt_int q
theorem Cz:jl X (compareOp .LtE) (v7 λi j=>.bl (decide (i<=j))):=JK λ_ _ _ _ _ _ _ q=>le_int q
theorem Dr:jl X (compareOp .Gt) (v7 λi j=>.bl (decide (j<i))):=JK λ_ _ _ _ _ _ _ q=>gt_int q
theorem JP:jl X (compareOp .Is) (λx y H Q=>y=.non/\Q (.bl (decide (x=.non))) H):=by
 intro ac s σ H x y v u Q I rx ry h;obtain⟨rfl,q⟩:=h;cases ry;refine is_none_gen (bP I q ?_);cases x<;>first
  | (cases rx;rfl)
  | (obtain⟨t,rfl⟩:=rx;rfl)
theorem yD:jl X (compareOp .IsNot) (λx y H Q=>y=.non/\Q (.bl (!decide (x=.non))) H):=by
 intro ac s σ H x y v u Q I rx ry h;obtain⟨rfl,q⟩:=h;cases ry;refine isnot_none_gen (bP I q ?_);cases x<;>first
  | (cases rx;rfl)
  | (obtain⟨t,rfl⟩:=rx;rfl)
theorem B1(b:Expr){op:CmpOp}(h:op≠ .In:=by decide)(h2:op≠ .NotIn:=by decide):behindInMarks op b=false:=by
 have e1:(op==CmpOp.In)=false:=by cases op<;>first|rfl|exact UC rfl h
 have e2:(op==CmpOp.NotIn)=false:=by cases op<;>first|rfl|exact UC rfl h2
 cases b<;>simp[behindInMarks,e1,e2]
theorem km{op:CmpOp}{r:R2}(ho:jl X (compareOp op) r)(ha:PE X a ta)(hb:PE X b tb)(hm:behindInMarks op b=false):PE X (.Compare a [op] [b] pos) (fQ r ta tb):=by intro ac s σ H Q I h;exact wpAny_Compare1 (Jt ha hb I h λv u s2 x y H2 I2 rx ry q=>ho ac s2 σ H2 x y v u Q I2 rx ry q) hm
def kY(t:TE):TT:=λσ H Q=>t σ H λx H'=>∃k,x=.bl k/\Q k H'
theorem fR{op:CmpOp}{r:R2}(ho:jl X (compareOp op) r)(ha:PE X a ta)(hb:PE X b tb)(hm:behindInMarks op b=false):PT X (.Compare a [op] [b] pos) (kY (fQ r ta tb)):=by
 intro ac s σ H Q I h;refine wpAny_isTrue_Compare1 (bJ (ha ac s σ H _ I h) λv s1 ⟨x,H1,I1,r1,q1⟩=>bJ (hb ac s1 σ H1 _ I1 q1) λu s2 ⟨y,H2,I2,r2,q2⟩ =>
  bJ (ho ac s2 σ H2 x y v u _ I2 r1 r2 q2) λc s3 ⟨z,H3,I3,r3,k,e,q3⟩=>?_) hm
 subst e;cases r3;exact wpAny_truthy_bool ⟨H3,I3,q3⟩
def HV(r r':R2)(ta tb tc:TE):TE:=λσ H Q=>ta σ H λx H1=>tb σ H1 λy H2=>r x y H2 λz H3=>∃k,z=.bl k/\
 (if k=true then tc σ H3 λw' H4=>r' y w' H4 Q else Q (.bl false) H3)
theorem Bk{op op':CmpOp}{r r':R2}(ho:jl X (compareOp op) r)(ho':jl X (compareOp op') r')(ha:PE X a ta)(hb:PE X b tb)(hc:PE X c tc)
  (hm:lastMarks [op,op'] [b,c]=false:=by with_unfolding_all rfl):PE X (.Compare a [op,op'] [b,c] pos) (HV r r' ta tb tc):=by
 intro ac s σ H Q I h;refine Compare_chain (bJ (ha ac s σ H _ I h) λv s1 ⟨x,H1,I1,r1,q1⟩=>chain_link (bJ (hb ac s1 σ H1 _ I1 q1) λu s2 ⟨y,H2,I2,r2,q2⟩ =>
  bJ (ho ac s2 σ H2 x y v u _ I2 r1 r2 q2) λd s3 ⟨z,H3,I3,r3,k,e,q3⟩=>?_)) hm
 subst e;cases r3;refine wpAny_truthy_bool ?_;cases k with
 |false=>exact ite_ff ⟨.bl false,H3,I3,rfl,q3⟩
 |true=>exact ite_tt (chain_last (bJ (hc ac s3 σ H3 _ I3 q3) λw' s4 ⟨z',H4,I4,r4,q4⟩=>ho' ac s4 σ H4 y z' u w' Q I4 r2 r4 q4))
def Mi(K:UX)(x:V)(H:Hp)(k:Bool):Prop :=
 match x with
 | .non=>k=false
 | .bl b=>k=b
 | .int i=>k=(i != 0)
 | .str y=>y.length<=sizeLine/\k=((y.length:Int) != 0)
 | .yW y=>y.size<=sizeLine/\k=((y.size:Int) != 0)
 | .ref p=>(∃xs,bj K H p xs/\k = !xs.isEmpty)\/(∃xs,aY K H p xs/\k = !xs.isEmpty)\/∃kvs,H p=some (.dK kvs)/\k = !kvs.isEmpty
 |_=>False
theorem xt{κ:Type}{kvs:List (κ×V)}{vs:List (κ×Value)}(r:KV kvs vs):(!vs.isEmpty) = !kvs.isEmpty:=by cases r<;>rfl
theorem pR{xs:List V}{its:List Value}(r:Vals xs its):(!its.toArray.isEmpty) = !xs.isEmpty:=by cases r<;>simp
theorem pU:(sizeLine:Nat)<2 ^ 63:=by rw[sizeLine_eq];decide
theorem JE:NZ X (λx H Q=>∃k,Mi X.K x H k/\Q k H):=by
 intro ac s σ H x v Q I rx h;obtain⟨k,e,q⟩:=h;have hl:=pU;have hs:sizeLine=16777216:=sizeLine_eq;cases x with
 |non =>cases rx;have e':k=false:=e;subst e';exact truthy_none ⟨H,I,q⟩
 |bl b =>cases rx;have e':k=b:=e;subst e';exact wpAny_truthy_bool ⟨H,I,q⟩
 |int i =>obtain⟨t,rfl⟩:=rx;have e':k=(i != 0):=e;subst e';exact PySem.P.truthy_int ⟨H,I,q⟩
 |str y =>obtain⟨t,rfl⟩:=rx;obtain⟨hy,e'⟩ : y.length<=sizeLine/\k=((y.length:Int) != 0):=e;subst e';exact PySem.P.truthy_str (by omega) ⟨H,I.tok _,q⟩
 |yW y =>obtain⟨t,rfl⟩:=rx;obtain⟨hy,e'⟩ : y.size<=sizeLine/\k=((y.size:Int) != 0):=e;subst e';exact PySem.W.truthy_bytes (by omega) ⟨H,I.tok _,q⟩
 |ref p =>
  cases rx;have e':(∃xs,bj X.K H p xs/\k = !xs.isEmpty)\/(∃xs,aY X.K H p xs/\k = !xs.isEmpty)\/∃kvs,H p=some (.dK kvs)/\k = !kvs.isEmpty:=e;rcases e' with⟨xs,hx,e'⟩|⟨xs,hx,e'⟩|⟨kvs,hx,e'⟩
  ·subst e';obtain⟨its,r,pl,hz⟩:=I.list hx;have hlen:=r.length;exact wpAny_truthy_list pl.isList (by simp only[Ue];omega) ⟨H,I.tok _,by rw[pR r];exact q⟩
  ·subst e';obtain⟨its,r,pl,hz⟩:=I.tuple hx;have hlen:=r.length;exact truthy_tuple pl (by simp only[Ue];omega) ⟨H,I.tok _,by rw[pR r];exact q⟩
  ·subst e';obtain⟨hz,hS,vs,r,m⟩ : kvs.length<=sizeLine/\(p==sysModules)=false/\∃vs,KV kvs vs/\s.heap.DictOf (bC X.prog X.w) p vs:=I.hok p _ hx;have hlen:kvs.length=vs.length:=Paired.length r;exact wpAny_truthy_dict hS m (by omega) ⟨H,I.tok _,by rw[xt r];exact q⟩
 |_=>exact(show False from e).elim
theorem vals1{x:V}{us:List Value}(r:Vals [x] us):∃u,us=[u]/\RelV x u:=by
 cases r with
 |cons r1 r2=>cases r2;exact⟨_,rfl,r1⟩
theorem vals2{x y:V}{us:List Value}(r:Vals [x,y] us):∃u w',us=[u,w']/\RelV x u/\RelV y w':=by
 cases r with
 |cons r1 r2 =>
  cases r2 with
  |cons r3 r4=>cases r4;exact⟨_,_,rfl,r1,r3⟩
theorem Ca:e_ X (.builtin "abs") (λxs H Q=>∃i,xs=[.int i]/\Q (.int (if i<0 then -i else i)) H):=by intro ac s σ H xs us Q I r h;obtain⟨i,rfl,q⟩:=h;obtain⟨u,rfl,t,rfl⟩:=vals1 r;exact call_abs_int λu tk=>⟨.int (if i<0 then -i else i),H,I.tok _,⟨_,rfl⟩,q⟩
theorem rz(hc:X.calm=true):e_ X (.builtin "max") (λxs H Q=>∃i j,xs=[.int i,.int j]/\Q (.int (if j > i then j else i)) H):=by
 intro ac s σ H xs us Q I r h;obtain⟨i,j,rfl,q⟩:=h;obtain⟨u,w',rfl,⟨t,rfl⟩,⟨t',rfl⟩⟩:=vals2 r;refine max_two_ints (I.ok.hd hc) λh' tk k=>⟨_,H,I.kept k,?_,q⟩;by_cases hj:j > i
 ·rw[UE hj,UE hj];exact⟨_,rfl⟩
 ·rw[UD hj,UD hj];exact⟨_,rfl⟩
theorem rB(hc:X.calm=true):e_ X (.builtin "min") (λxs H Q=>∃i j,xs=[.int i,.int j]/\Q (.int (if j<i then j else i)) H):=by
 intro ac s σ H xs us Q I r h;obtain⟨i,j,rfl,q⟩:=h;obtain⟨u,w',rfl,⟨t,rfl⟩,⟨t',rfl⟩⟩:=vals2 r;refine min_two_ints (I.ok.hd hc) λh' tk k=>⟨_,H,I.kept k,?_,q⟩;by_cases hj:j<i
 ·rw[UE hj,UE hj];exact⟨_,rfl⟩
 ·rw[UD hj,UD hj];exact⟨_,rfl⟩
theorem rH:e_ X (.type "int") (λxs H Q=>(∃i,xs=[.int i]/\Q (.int i) H)\/∃k,xs=[.bl k]/\Q (.int (if k then 1 else 0)) H):=by
 intro ac s σ H xs us Q I r h;rcases h with⟨i,rfl,q⟩|⟨k,rfl,q⟩
 ·obtain⟨u,rfl,t,rfl⟩:=vals1 r;exact call_int_int ⟨.int i,H,I,⟨_,rfl⟩,q⟩
 ·obtain⟨u,rfl,r1⟩:=vals1 r;cases r1;exact call_int_bool ⟨.int (if k then 1 else 0),H,I.tok _,⟨_,rfl⟩,q⟩
end
structure Jc(h:Heap)(x dx C:Addr)(mA:Str->Option Value):Prop where
 obj:h.get? x=some (PySem.W.instObj C dx)
 ns:h.Ns1 dx mA
 ne:dx≠x
theorem nh{h:Heap}{dx:Addr}{mA:Str->Option Value}(n:h.Ns1 dx mA):∃od,h.get? dx=some od/\∀name,PySem.W.lookIn name od=some (mA name):=by
 obtain⟨o,es,ep,ho,hd,hk,_,hm⟩:=n;refine⟨o,ho,λname=>?_⟩;have e:=hm name;unfold nsFind findBy at e;rw[←Array.find?_toList]at e;unfold PySem.W.lookIn;rw[hd];dsimp only;split
 ·rename_i y q;rw[q]at e;exact congrArg some e
 ·rename_i q;rw[q]at e;have a:es.toList.any (·.refKey)=false:=by rw[List.any_eq_false];intro y hy;obtain⟨z,t,hkey⟩:=hk y (Array.mem_toList_iff.mp hy);simp[DictEntry.refKey,hkey]
  have a':¬es.toList.any (·.refKey)=true:=by rw[a];exact Ud
  rw[UD a'];exact congrArg some e
theorem Jc.look{h:Heap}{x dx C:Addr}{mA:Str->Option Value}(I:Jc h x dx C mA):∃od,PySem.W.InstAt h x (PySem.W.instObj C dx) C (some od)/\∀name,PySem.W.lookIn name od=some (mA name) :=
 let ⟨od,ho,hl⟩:=nh I.ns
 ⟨od,⟨I.obj,rfl,rfl,ho⟩,hl⟩
def oK(f:Str)(v:V):List (Str×V)->List (Str×V)
 |[]=>[(f,v)]
 | (g,x)::r=>if g=f then(g,v)::r else(g,x)::oK f v r
theorem eA(f g:Str)(v:V):∀fs:List (Str×V),(oK f v fs).lookup g=if g=f then some v else fs.lookup g
 |[]=>by
  show List.lookup g [(f,v)]=_;by_cases h:g=f
  ·have hb:(g==f)=true:=beq_iff_eq.mpr h;simp only[List.lookup,hb,UE h]
  ·have hb:(g==f)=false:=beq_eq_false_iff_ne.mpr h;simp only[List.lookup,hb,UD h]
 | (k,x)::r=>by
  have ih:=eA f g v r;rw[show oK f v ((k,x)::r)=(if k=f then(k,v)::r else(k,x)::oK f v r) from rfl];by_cases hk:k=f
  ·rw[UE hk];by_cases h:g=k
   ·have hb:(g==k)=true:=beq_iff_eq.mpr h;simp only[List.lookup,hb,UE (h.trans hk)]
   ·have hb:(g==k)=false:=beq_eq_false_iff_ne.mpr h;simp only[List.lookup,hb,UD (λe:g=f=>h (e.trans hk.symm))]
  ·rw[UD hk];by_cases h:g=k
   ·have hb:(g==k)=true:=beq_iff_eq.mpr h;simp only[List.lookup,hb,UD (λe:g=f=>hk (h.symm.trans e))]
   ·have hb:(g==k)=false:=beq_eq_false_iff_ne.mpr h;simp only[List.lookup,hb];exact ih
theorem iD.some_of{v:V}{o:Option Value}(r:iD (some v) o):∃u,o=some u/\RelV v u:=by
 cases o with
 |none=>exact(show False from r).elim
 |some u=>exact⟨u,rfl,r⟩
theorem iD.none_of{o:Option Value}(r:iD none o):o=none:=by
 cases o with
 |none=>rfl
 |some u=>exact(show False from r).elim
theorem Aw{v:V}{u:Value}(r:RelV v u):PySem.W.handedIn u=true:=by
 cases v with
 |non=>cases(show u=Value.none from r);rfl
 |bl b=>cases(show u=Value.bool b from r);rfl
 |int i=>obtain⟨t,e⟩:=(show∃t,u=Value.int i t from r);cases e;rfl
 |str x=>obtain⟨t,e⟩:=(show∃t,u=Value.str x t from r);cases e;rfl
 |yW b=>obtain⟨t,e⟩:=(show∃t,u=Value.bytes b t from r);cases e;rfl
 |flt b=>obtain⟨t,e⟩:=(show∃t,u=Value.float b t from r);cases e;rfl
 |ref a=>cases(show u=Value.ref a from r);rfl
 |ty n=>cases(show u=Value.type n from r);rfl
section
variable{P:Program}{w:World}{H H':Hp}{h h':Heap}{a C dx:Addr}{fs fs':List (Str×V)}
theorem GA(hok:jq P w H h)(e:H a=some (.ins C dx fs)):∃mA,Jc h a dx C mA/\(∀f,iD (fs.lookup f) (mA f))/\PySem.Within mA (fs.map (·.1))/\fs.length<=1000/\H dx=some (.own a):=by obtain⟨d,z,ne,ob,mA,n,r,q⟩:=(show cc P w H h a (.ins C dx fs) from hok a _ e);exact⟨mA,⟨ob,n,ne⟩,r,q,z,d⟩
end
structure OA(K:UX)(C:Addr):Prop where
 pg:PySem.W.plainGet K C Str.empty=true
 hd:PySem.W.hasDictIn K C=true
 po:PySem.W.plainOver K C=true
 sa:PySem.W.findIn K (.ref C) "__setattr__"=some (some (.builtin "object.__setattr__"))
theorem OA.get{K:UX}{C:Addr}(c:OA K C)(f:Str):PySem.W.plainGet K C f=true:=c.pg
def jh(K:UX)(C:Addr)(f:Str):Prop:=PySem.W.findIn K (.ref C) f=some none
section
variable{X:Cx}{ac:List (Addr×Obj)}{σ:St}{H:Hp}{s:Shared}{a C dx:Addr}{fs:List (Str×V)}{f:Str}{v:V}{A:Around}{E:Value->Shared->Prop}
theorem Er{prog:Program}{w:World}{env:Env}{e:Expr}{f:Str}{pos:Pos}{s:Shared}{Q:Value->Shared->Prop}(hb:attributeBase e f env (eval e env)=eval e env)
  (h:wpAny (model prog w) A (eval e env) (λo s₁=>wpAny (model prog w) A (getAttr o f true) Q E s₁) E s):wpAny (model prog w) A (eval (.Attribute e f pos) env) Q E s :=
 Attribute_any_ h (by rw[arm_eval_Attribute,hb])
end
section
variable{X:Cx}{ac:List (Addr×Obj)}{σ:St}{H:Hp}{s:Shared}{A:Around}{E:Value->Shared->Prop}{Q:Value->Shared->Prop}{c:Value}{b:Bool}
inductive kN(K:UX)(H:Hp):V->Value->Prop where
 |non:kN K H .non (.type "NoneType")
 |bl (x:Bool):kN K H (.bl x) (.type "bool")
 |int (i:Int):kN K H (.int i) (.type "int")
 |str (x:Str):kN K H (.str x) (.type "str")
 |flt (x:UInt64):kN K H (.flt x) (.type "float")
 |lst {a:Addr} {xs:List V} (e:H a=some (.lst xs)):kN K H (.ref a) (.type "list")
 |xI {a:Addr} {o:Obj} {xs:List V} (e:H a=some (.xI o (.lst xs))):kN K H (.ref a) (.type "list")
 |tup {a:Addr} {xs:List V} (e:H a=some (.tup xs)):kN K H (.ref a) (.type "tuple")
 |dK {a:Addr} {kvs:List (Key×V)} (e:H a=some (.dK kvs)):kN K H (.ref a) (.type "dict")
 |dT {a:Addr} {kvs:List (List cO×V)} (e:H a=some (.dT kvs)):kN K H (.ref a) (.type "dict")
 |ins {a C dx:Addr} {fs:List (Str×V)} (e:H a=some (.ins C dx fs)) (cl:OA K C) (ha:PySem.W.findIn K (.ref C) "__class__"=some (some (.builtin "object.__class__")))
   (hn:PySem.W.specialIn K (.builtin "object.__class__") "__get__"=some (some (.builtin "getset_descriptor.__get__"))) (htk:PySem.W.takesIn K (.builtin "object.__class__")=some true)
   (hm:PySem.W.mroIn K C (.type "object")=some true):kN K H (.ref a) (.ref C)
theorem rN{x:V}{u t:Value}(I:Inv X ac σ H s)(rx:RelV x u)(ty:kN X.K H x t)(e:PySem.W.kitOne X.K t c=some b)(h:∀tk,Q (.bool b) {s with toks:=tk}) :
  wpAny (model X.prog X.w) A (call (.builtin "isinstance") [u,c]) Q E s:=by
 cases ty with
 |non=>cases(show u=Value.none from rx);exact PySem.W.kia_one PySem.W.kitx_none I.i0 True.intro e (λz=>nomatch z) h
 |bl y=>cases(show u=Value.bool y from rx);exact PySem.W.kia_one PySem.W.kitx_bool I.i0 True.intro e (λz=>nomatch z) h
 |int i=>obtain⟨t,q⟩:=(show∃t,u=Value.int i t from rx);cases q;exact PySem.W.kia_one PySem.W.kitx_int I.i0 True.intro e (λz=>nomatch z) h
 |str y=>obtain⟨t,q⟩:=(show∃t,u=Value.str y t from rx);cases q;exact PySem.W.kia_one PySem.W.kitx_str I.i0 True.intro e (λz=>nomatch z) h
 |flt y=>obtain⟨t,q⟩:=(show∃t,u=Value.float y t from rx);cases q;exact PySem.W.kia_one PySem.W.kitx_float I.i0 True.intro e (λz=>nomatch z) h
 | @lst a xs ea =>cases(show u=Value.ref a from rx);obtain⟨_,_,n,_,h1⟩:=(show cc X.prog X.w H s.heap a (.lst xs) from I.hok a _ ea);exact PySem.W.kia_one PySem.W.kitx_list I.i0 ⟨_,h1,rfl⟩ e (λz=>nomatch z) h
 | @xI a ob xs ea =>cases(show u=Value.ref a from rx);obtain⟨_,_,_,n,_,h1⟩:=(show cc X.prog X.w H s.heap a (.xI ob (.lst xs)) from I.hok a _ ea);exact PySem.W.kia_one PySem.W.kitx_list I.i0 ⟨_,h1,rfl⟩ e (λz=>nomatch z) h
 | @tup a xs ea =>cases(show u=Value.ref a from rx);obtain⟨_,_,_,p⟩:=(show cc X.prog X.w H s.heap a (.tup xs) from I.hok a _ ea);obtain⟨o,h1,h2,_⟩:=p;exact PySem.W.kia_one PySem.W.kitx_tuple I.i0 ⟨o,h1,h2⟩ e (λz=>nomatch z) h
 | @dK a kvs ea =>cases(show u=Value.ref a from rx);obtain⟨_,_,vs,_,p⟩:=(show cc X.prog X.w H s.heap a (.dK kvs) from I.hok a _ ea);obtain⟨o,es,ep,h1,h2,_⟩:=p;exact PySem.W.kia_one PySem.W.kitx_dict I.i0 ⟨o,h1,h2.1⟩ e (λz=>nomatch z) h
 | @dT a kvs ea =>cases(show u=Value.ref a from rx);obtain⟨_,_,xs,_,o,es,ep,h1,h2,_⟩:=(show cc X.prog X.w H s.heap a (.dT kvs) from I.hok a _ ea);exact PySem.W.kia_one PySem.W.kitx_dict I.i0 ⟨o,h1,h2.1⟩ e (λz=>nomatch z) h
 | @ins a C dx fs ea cl ha hn htk hm =>cases(show u=Value.ref a from rx);obtain⟨mA,O,_⟩:=GA I.hok ea;obtain⟨od,J,_⟩:=O.look;exact PySem.W.kia_one (PySem.W.kitx_own (cl.get _) cl.hd ha hn htk hm) I.i0 J e (λz=>nomatch z) h
end
structure dH(k:Nat)(A:Around):Prop where
 hd:A.handled=none
 dp:A.depth+3*k+5<recursionLimit
 un:A.units+16*k+200<cLine
theorem dH.mono{j k:Nat}{A:Around}(r:dH k A)(h:j<=k):dH j A:=⟨r.hd,by have:=r.dp;omega,by have:=r.un;omega⟩
theorem dH.deeper{k:Nat}{A:Around}(r:dH (k+1) A)(env:Env):dH k (A.deeper env) :=
 ⟨r.hd,by have:=r.dp;show A.depth+1+3*k+5<_;omega,by have:=r.un;show A.units+3+16*k+200<_;omega⟩
theorem v_{A:Around}{C:Addr}{us:List Value}{kw:List (Str×Value)}:(A.under (.builtin "type.__call__" ⟨.ref C::us,kw⟩)).depth=A.depth+1:=by
 first|rfl|simp[Around.under,Code.weight,Code.isCreation,Code.isGuard,Code.isCaller,Code.frames,Code.isFrame,guardIds]
theorem xA{A:Around}{C:Addr}{us:List Value}{kw:List (Str×Value)}:(A.under (.builtin "type.__call__" ⟨.ref C::us,kw⟩)).units=A.units+1:=by
 first|rfl|simp[Around.under,Code.cUnits,Code.frames,Code.isFrame]
theorem dH.make{k:Nat}{A:Around}(r:dH (k+1) A)(C:Addr)(us:List Value)(kw:List (Str×Value)):dH k (A.under (.builtin "type.__call__" ⟨.ref C::us,kw⟩)) :=
 ⟨r.hd,by have:=r.dp;rw[v_];omega,by have:=r.un;rw[xA];omega⟩
theorem dH.depth{k:Nat}{A:Around}(r:dH k A):A.depth<recursionLimit:=by have:=r.dp;omega
theorem dH.units{k:Nat}{A:Around}(r:dH k A):A.units+64<cLine:=by have:=r.un;omega
def kK:TA:=λ_ H Q=>Q [] H
def eD(ta:TE)(tr:TA):TA:=λσ H Q=>ta σ H λx H1=>tr σ H1 λxs H2=>Q (x::xs) H2
section
variable{X:Cx}{e:Expr}{es:List Expr}{te:TE}{t:TA}{pos:Pos}
theorem ah:PA X [] kK:=λ_ _ _ _ H Q I h=>Calls.spliced_nil ⟨[],H,I,.nil,h⟩
theorem aa(ha:PE X e te)(hr:PA X es t)(hs:starEach (e::es) X.env=(false,eval e X.env)::starEach es X.env:=by rfl):PA X (e::es) (eD te t):=by intro pos ac s σ H Q I h;rw[hs];show wpAny _ _ (spliced ((false,eval e X.env)::backTo pos (starEach es X.env))) _ _ s;refine Calls.spliced_cons (bJ (ha ac s σ H _ I h) λu s1 zz=>?_);obtain⟨x,H1,I1,r1,q1⟩:=zz;exact bJ (hr pos ac s1 σ H1 _ I1 q1) λus s2 ⟨xs,H2,I2,r2,q2⟩=>⟨x::xs,H2,I2,.cons r1 r2,q2⟩
def AW(t:TA):TE:=λσ H Q=>t σ H λxs H1=>xs.length<=sizeLine/\∀p,H1 p=none->Q (.ref p) (upd H1 p (.tup xs))
def Gu(t:TA):TE:=λσ H Q=>t σ H λxs H1=>xs.length<=sizeLine/\∀p,H1 p=none->Q (.ref p) (upd H1 p (.lst xs))
theorem aW{x1}(h:PA X es t):PE X (.Tuple es x1 pos) (AW t):=by intro ac s σ H Q I hq;refine wpAny_Tuple_spliced (bJ (h pos ac s σ H _ I hq) λus s1 ⟨xs,H1,I1,r,z,q⟩=>⟨by rw[←r.length];exact z,?_⟩);have hf:H1 s1.heap.objs.size=none:=I1.hok.fresh (TU _);refine⟨.ref s1.heap.objs.size,upd H1 s1.heap.objs.size (.tup xs),I1.laid (t':=s1.toks) (λb u e=>TN _ e) (TU _) ?_,rfl,q _ hf⟩;exact⟨z,us,r,⟨_,TR _ rfl,rfl,⟨_,rfl⟩,rfl⟩⟩
theorem bZ(h:PA X es t):PE X (.List es pos) (Gu t):=by intro ac s σ H Q I hq;refine wpAny_List_spliced (bJ (h pos ac s σ H _ I hq) λus s1 ⟨xs,H1,I1,r,z,q⟩=>⟨by rw[←r.length];exact z,?_⟩);have hf:H1 s1.heap.objs.size=none:=I1.hok.fresh (TU _);refine⟨.ref s1.heap.objs.size,upd H1 s1.heap.objs.size (.lst xs),I1.laid (t':=s1.toks) (λb u e=>TN _ e) (TU _) ?_,rfl,q _ hf⟩;exact⟨z,us,0,r,TR _ rfl⟩
end
abbrev Sp:=List V->Hp->VK->XK->Prop
abbrev rb:=List Env->Hp->Shared->XK->Value->Shared->Prop
structure sX(P:Program)(w:World)(K:UX)(mg:Str->Option Value)(base:Heap)(A:Around)(outer:List Env)(s:Shared)(H:Hp):Prop where
 frames:A.frames=some outer
 mod:Mod K mg base
 bs:∀b o,base.get? b=some o->s.heap.get? b=some o/\H b=none
 Au:base.objs.size<=s.heap.objs.size
 lx:s.heap.FunFrames base outer
 Ek:∀b∈frs outer,H b=none
 hok:jq P w H s.heap
 bare:AllBare s.gens
def CE(outer:List Env)(P:Program)(w:World)(H:Hp)(s:Shared)(Q:VK)(u:Value)(s':Shared):Prop :=
 ∃v H',s'.os=s.os/\AllBare s'.gens/\Un (frs outer) [] H H' s.heap s'.heap/\jq P w H' s'.heap/\RelV v u/\Q v H'
def CR(CX:rb)(outer:List Env)(P:Program)(w:World)(H:Hp)(s:Shared)(Q:VK)(E:XK)(r:Result)(s':Shared):Prop :=
 match r with
 | .ok (.ret u)=>CE outer P w H s Q u s'
 | .ok _=>False
 | .error e=>CX outer H s E e s'
structure e7(P:Program)(w:World)(K:UX)(mg:Str->Option Value)(base:Heap)(CX:rb)(k:Nat)(f:Addr)(fd:FuncData)(ps:List Str)(sp:Sp):Prop where
 len:∀vs H Q E,sp vs H Q E->vs.length=ps.length
 run:∀(A:Around)(outer:List Env)(s:Shared)(H:Hp)(args:Args)(us:List Value)(vs:List V)(Q:VK)(E:XK),dH k A->sX P w K mg base A outer s H->BindsTo s fd args (ps.zip us)->Vals vs us->sp vs H Q E->
  codeAny (model P w) A (.call (.ref f) args) (CR CX outer P w H s Q E) s
theorem e7.mono{P:Program}{w:World}{K:UX}{mg:Str->Option Value}{base:Heap}{CX:rb}{j k:Nat}{f:Addr}{fd:FuncData}{ps:List Str}{sp:Sp}(F:e7 P w K mg base CX j f fd ps sp)(h:j<=k) :
  e7 P w K mg base CX k f fd ps sp:=⟨F.len,λA outer s H args us vs Q E hr=>F.run A outer s H args us vs Q E (hr.mono h)⟩
theorem e7.imp{P:Program}{w:World}{K:UX}{mg:Str->Option Value}{base:Heap}{CX:rb}{k:Nat}{f:Addr}{fd:FuncData}{ps:List Str}{sp Qa:Sp}(F:e7 P w K mg base CX k f fd ps sp)
  (h:∀vs H Q E,Qa vs H Q E->sp vs H Q E):e7 P w K mg base CX k f fd ps Qa :=
 ⟨λvs H Q E q=>F.len vs H Q E (h _ _ _ _ q),λA outer s H args us vs Q E hr he hb hv hs=>F.run A outer s H args us vs Q E hr he hb hv (h _ _ _ _ hs)⟩
theorem sX.make{P:Program}{w:World}{K:UX}{mg:Str->Option Value}{base:Heap}{A:Around}{outer:List Env}{s:Shared}{H:Hp}(e:sX P w K mg base A outer s H)(C:Addr)(us:List Value)(kw:List (Str×Value)) :
  sX P w K mg base (A.under (.builtin "type.__call__" ⟨.ref C::us,kw⟩)) outer s H:=⟨by first|exact e.frames | (simpa[Around.under,Code.envs,Code.isFrame,pushEnvs] using e.frames),e.mod,e.bs,e.Au,e.lx,e.Ek,e.hok,e.bare⟩
section
variable{X:Cx}{ac:List (Addr×Obj)}{σ:St}{H:Hp}{s s':Shared}
theorem Inv.env0(I:Inv X ac σ H s):sX X.prog X.w X.K X.mg X.base X.A X.stack s H :=
 ⟨I.ok.frames,I.ok.mod,I.bs,TV I.ok.Au I.sz,I.stack,I.lU,I.hok,I.bare⟩
theorem Inv.after{Q:VK}{u:Value}(I:Inv X ac σ H s)(h:CE X.stack X.prog X.w H s Q u s'):EP X ac σ Q u s':=by obtain⟨v,H',os,bare,un,hok,r,q⟩:=h;obtain⟨hh,g,d,t,os'⟩:=s';obtain rfl:os'=s.os:=os;exact⟨v,H',I.call (h':=hh) (g':=g) (d':=d) (t':=t) (ch:=[]) un hok bare (λb z=>UC z (by simp)),r,q⟩
end
def kW(sp:Sp)(GN:List V)(E:XK)(t:TA):TE:=λσ H Q=>t σ H λvs H1=>sp (vs++GN) H1 Q E
def Binds(K:UX)(fd:FuncData)(ps:List Str)(ds:List Value):Prop :=
 ∀(s:Shared)(us:List Value),K.In s.heap->(us++ds).length=ps.length->BindsTo s fd ⟨us,[]⟩ (ps.zip (us++ds))
theorem Binds.all{K:UX}{fd:FuncData}{ps:List Str}(h:∀us:List Value,us.length=ps.length->bindArgs fd ⟨us,[]⟩=pure (ps.zip us)):Binds K fd ps []:=λs us _ hl=>by rw[UN]at hl⊢;exact .of_eq (h us hl)
def Passes(CX:rb)(X:Cx)(E:XK):Prop:=∀(ac:List (Addr×Obj))(σ:St)(H:Hp)(s:Shared)(e:Value)(s':Shared),Inv X ac σ H s->CX X.stack H s E e s'->X.xe e s'
section
variable{X:Cx}{CX:rb}{k:Nat}{f C:Addr}{fd:FuncData}{ps:List Str}{sp:Sp}{GN:List V}{ds:List Value}{E:XK}{x m:Str}{p pos apos:Pos}{e o:Expr}{es:List Expr}{ta:TE}{t:TA}
theorem CN{ac:List (Addr×Obj)}{σ:St}{H:Hp}{s:Shared}{Q:VK}{us:List Value}{vs:List V}(F:e7 X.prog X.w X.K X.mg X.base CX k f fd ps sp)(hr:dH k X.A)(hb:Binds X.K fd ps ds)(hd:Vals GN ds)(hx:Passes CX X E)
  (I:Inv X ac σ H s) (r:Vals vs us) (h:sp (vs++GN) H Q E):wpAny (model X.prog X.w) X.A (call (.ref f) us) (EP X ac σ Q) X.xe s:=by
 have r2:Vals (vs++GN) (us++ds):=r.append hd;have hl:(us++ds).length=ps.length:=by rw[←r2.length];exact F.len _ _ _ _ h
 refine wpAny_call (codeAny_mono (F.run X.A X.stack s H ⟨us,[]⟩ (us++ds) (vs++GN) Q E hr I.env0 (hb s us I.i0 hl) r2 h) λr s' hq=>?_);cases r with
 |error e=>exact hx ac σ H s e s' I hq
 |ok fl =>
  cases fl with
  |ret u=>exact I.after hq
  |next=>exact UJ hq
  |brk=>exact UJ hq
  |cont=>exact UJ hq
theorem Gb(F:e7 X.prog X.w X.K X.mg X.base CX k f fd ps sp)(hr:dH k X.A)(hg:Gl X x)(hm:X.mg x=some (.ref f))(hk:PySem.W.keepIn X.K (.ref f)=true)(hb:Binds X.K fd ps ds)(hd:Vals GN ds)(hx:Passes CX X E)
  (ha:PA X (e::es) t) (hdb:(x==("__debug__" : Str))=false:=by decide) (he:starEach (e::es) X.env=(false,eval e X.env)::starEach es X.env:=by rfl) (hpl:(backTo pos (starEach es X.env)).any (·.1)=false:=by rfl) :
  PE X (.Call (.Name x p) (e::es) [] pos) (kW sp GN E t):=by
 intro ac s σ H Q I h;refine wpAny_Call_Name_kw (je I hg hm ?_ hdb);refine PySem.W.callWith_K (h₀:=X.base) I.ok.mod.EV hk (bJ (ha pos ac s σ H _ I h) λus s1 ⟨vs,H1,I1,r,q⟩=>⟨I1.i0,?_⟩) he hpl;exact CN F hr hb hd hx I1 r q
end
structure av(N P:List Str)(sc:Scope):Prop where
 kind:sc.kind=.function
 co:sc.isCoroutine=false
 gen:sc.isGenerator=false
 nd:N.Nodup
 pre:N.take P.length=P
 par:∀x∈P,sc.names.lookup x=some .local\/sc.names.lookup x=some .cell
 Kc:∀y∈sc.names,y.2≠ .free
theorem rA{kindOf:Str->Option NameKind}{x:Str}:∀{binds:List (Str×Value)}{m:Str->Option Value},(∀v,(x,v)∉binds)->bindL kindOf binds m x=m x
 |[],_,_=>rfl
 | (n,v)::r,m,h=>by
  unfold bindL;rw[rA λw hw=>h w (Uc _ hw)];split
  ·have:x≠n:=by rintro rfl;exact h v Uy
   simp[this]
  ·rfl
theorem rF{kindOf:Str->Option NameKind}{x:Str}:∀{binds:List (Str×Value)}{m:Str->Option Value},(∀v,(x,v)∉binds)->bindC kindOf binds m x=m x
 |[],_,_=>rfl
 | (n,v)::r,m,h=>by
  unfold bindC;rw[rF λw hw=>h w (Uc _ hw)];split
  ·rfl
  ·have:x≠n:=by rintro rfl;exact h v Uy
   simp[this]
theorem rT{kindOf:Str->Option NameKind}{x:Str}{v:Value}:∀{P:List Str}{vs:List Value}{i:Nat}{m:Str->Option Value},P.Nodup->P[i]? = some x->vs[i]? = some v->kindOf x=some .local->
  bindL kindOf (P.zip vs) m x=some v
 |[],_,_,_,_,h,_,_=>by simp at h
 |_::_,[],_,_,_,_,h,_=>by simp at h
 |p::P,w::vs,0,m,nd,h1,h2,hk=>by simp at h1 h2;subst h1;subst h2;show bindL kindOf ((p,w)::P.zip vs) m p=_;unfold bindL;rw[rA λv hv=>(List.nodup_cons.mp nd).1 (List.of_mem_zip hv).1,UE hk];simp
 |p::P,w::vs,i+1,m,nd,h1,h2,hk=>by show bindL kindOf ((p,w)::P.zip vs) m x=_;unfold bindL;exact rT (i:=i) (List.nodup_cons.mp nd).2 (by simpa using h1) (by simpa using h2) hk
theorem rE{kindOf:Str->Option NameKind}{x:Str}{v:Value}:∀{P:List Str}{vs:List Value}{i:Nat}{m:Str->Option Value},P.Nodup->P[i]? = some x->vs[i]? = some v->kindOf x≠some .local->
  bindC kindOf (P.zip vs) m x=some v
 |[],_,_,_,_,h,_,_=>by simp at h
 |_::_,[],_,_,_,_,h,_=>by simp at h
 |p::P,w::vs,0,m,nd,h1,h2,hk=>by simp at h1 h2;subst h1;subst h2;show bindC kindOf ((p,w)::P.zip vs) m p=_;unfold bindC;rw[rF λv hv=>(List.nodup_cons.mp nd).1 (List.of_mem_zip hv).1,UD hk];simp
 |p::P,w::vs,i+1,m,nd,h1,h2,hk=>by show bindC kindOf ((p,w)::P.zip vs) m x=_;unfold bindC;exact rE (i:=i) (List.nodup_cons.mp nd).2 (by simpa using h1) (by simpa using h2) hk
def start(N:List Str)(vs:List V):St:=vs.map some++List.replicate (N.length-vs.length) none
def oA(CX:rb)(P:Program)(w:World)(K:UX)(mg:Str->Option Value)(base:Heap)(N:List Str)(qual:Str)(scope:Scope)(f:Addr)(cd:Value)(A:Around)(outer:List Env)(s:Shared)(H:Hp)(E:XK):Cx where
 prog:=P
 w:=w
 K:=K
 mg:=mg
 base:=base
 A:=A.deeper (envOfC qual scope s.heap.objs.size f cd)
 N:=N
 s₀:=s
 H₀:=H
 env:=envOfC qual scope s.heap.objs.size f cd
 outer:=outer
 stack:=envOfC qual scope s.heap.objs.size f cd::outer
 ex:=[]
 calm:=true
 fn:=λ_=>true
 pn:=[]
 xe:=λe s'=>wpAny (model P w) (A.deeper (envOfC qual scope s.heap.objs.size f cd)) (leaving (envOfC qual scope s.heap.objs.size f cd) e) (λ_ s''=>CX outer H s E e s'') (λe' s''=>CX outer H s E e' s'') s'
theorem uZ{sc:Scope}{n:Nat}{x:Str}(h:sc.names.lookup x=some .cell):∃c,(cellsFrom n sc.names []).lookup x=some c:=by have q:=PySem.W.cellsFrom_some sc.names n [] (.inl h);exact Option.isSome_iff_exists.mp q
theorem rY{CX:rb}{P:Program}{w:World}{K:UX}{mg:Str->Option Value}{base:Heap}{N ps:List Str}{qual:Str}{scope:Scope}{f:Addr}{cd:Value}{A:Around}{outer:List Env}{s s1:Shared}{H:Hp}{E:XK}{us:List Value}{vs:List V}
  (S:av N ps scope) (hd:A.handled=none) (e0:sX P w K mg base A outer s H) (hl:vs.length=ps.length) (r:Vals vs us)
  (x:InCallC s s.heap.objs.size (bindL (envOfC qual scope s.heap.objs.size f cd).kindOf (ps.zip us) λ_=>none) (cellsFrom (s.heap.objs.size+1) scope.names []) (bindC (envOfC qual scope s.heap.objs.size f cd).kindOf (ps.zip us) λ_=>none) s1) :
  Inv (oA CX P w K mg base N qual scope f cd A outer s H E) [] (start N vs) H s1:=by
 have hpl:ps.length<=N.length:=by have:=congrArg List.length S.pre;rw[Ut]at this;omega
 obtain⟨h1,tk,rfl,hk⟩:=x.done;have KD:∀b:Addr,b∉(oA CX P w K mg base N qual scope f cd A outer s H E).ex:=λb z=>UC (show b∈([]:List Addr) from z) (by simp);refine⟨⟨e0.mod,S.kind,rfl,rfl,TU _,λy z c h1 h2=>?_,λy hy=>?_,λy c _ h=>?_,λ_=>hd,Around.frames_deeper e0.frames,.inr ⟨rfl,rfl⟩,λb z=>UC z (KD b),e0.bs,e0.Au,λb _ _=>KD b,λb z=>UC z (KD b),e0.lx,e0.Ek⟩,
  rfl,e0.bare,Un.kept hk,⟨_,x.toInCall.ns,λi y v h1 h2 h3=>?_⟩,λy c h=>⟨_,x.cell y c h⟩,e0.hok.fresh (TU _),λy c h=>?_,λp hp=>UC (show p∈([]:List (Addr×Obj)) from hp) (by simp),e0.hok.kept hk,?_⟩
 ·exact name_of_addr x.apart (PySem.mem_of_lookup h1) (PySem.mem_of_lookup h2)
 ·have hy:scope.names.lookup y=some .cell\/scope.names.lookup y=some .free:=hy;rcases hy with hy|hy
  ·exact uZ hy
  ·exact UC rfl (S.Kc _ (PySem.mem_of_lookup hy))
 ·exact Nat.le_of_lt (x.above y c (PySem.mem_of_lookup h))
 ·have hi:i<vs.length:=by
   unfold start at h2;by_cases hi:i<vs.length
   ·exact hi
   ·rw[Uq (by simpa using hi)]at h2;rw[List.getElem?_replicate]at h2;split at h2<;>cases h2
  have ha:vs[i]? = some v:=by
   unfold start at h2;rw[Ur (by simpa using hi),Us]at h2;cases e:vs[i]? with
   |none=>rw[e]at h2;cases h2
   |some a=>rw[e]at h2;cases h2;rfl
  obtain⟨u,hu,rv⟩:=r.get ha;have hp:ps[i]? = some y:=by rw[←S.pre,List.getElem?_take_of_lt (by omega)];exact h1
  have P1:ps.Nodup:=by rw[←S.pre];exact S.nd.sublist (List.take_sublist _ _)
  refine⟨u,rv,?_⟩;rcases S.par y (Ub hp)with k|k
  ·exact .inl ⟨k,rT P1 hp hu k⟩
  ·obtain⟨c,e⟩:=uZ (n:=s.heap.objs.size+1) k;refine .inr ⟨.inl k,c,e,?_⟩;have q:=x.cell y c e;rw[rE P1 hp hu (by show scope.names.lookup y≠_;rw[k];decide)]at q;exact q
 ·exact e0.hok.fresh (Nat.le_of_lt (x.above y c (PySem.mem_of_lookup h)))
 ·unfold start;show _=N.length;rw[T1,TZ,List.length_replicate];omega
theorem Ho{CX:rb}{P:Program}{w:World}{K:UX}{mg:Str->Option Value}{base:Heap}{k:Nat}{f:Addr}{name qual:Str}{params:Arguments}{body:List Stmt}{scope:Scope}{dV kV doc pm cdv ct oc:Value}{an od:Option Addr}
  {osl:Array (Option Value)} {N ps:List Str} {sp:Sp} (lk:K.lookup f=some ⟨oc,od,.func (PySem.W.fnOf name qual params body scope dV kV doc pm an cdv ct),osl⟩) (hcd:PySem.W.codeIn K cdv qual=true) (S:av N ps scope)
  (len:∀vs H Q E,sp vs H Q E->vs.length=ps.length)
  (hbody:∀(A:Around)(outer:List Env)(s:Shared)(H:Hp)(vs:List V)(Q:VK)(E:XK),dH k (A.deeper (envOfC qual scope s.heap.objs.size f cdv))->sp vs H Q E->
   ∃t,pb (oA CX P w K mg base N qual scope f cdv A outer s H E) body t/\t {nx:=λ_ H'=>Q .non H',rt:=Q} (start N vs) H) :
  e7 P w K mg base CX (k+1) f (PySem.W.fnOf name qual params body scope dV kV doc pm an cdv ct) ps sp:=by
 refine⟨len,λA outer s H args us vs Q E hr e0 hb r hsp=>?_⟩;have hl:=len _ _ _ _ hsp;have KX:K.In s.heap:=e0.mod.EV.keeps λb o e=>(e0.bs b o e).1;have lim:s.heap.NoLimit:=e0.mod.nolimit.keeps λb o e=>(e0.bs b o e).1;have hkind:∀y∈ps.zip us,scope.names.lookup y.1=some .local\/(scope.names.lookup y.1=some .cell/\((cellsFrom (s.heap.objs.size+1) scope.names []).lookup y.1).isSome=true):=λ⟨n,v⟩ hy=>by
  rcases S.par n (List.of_mem_zip hy).1 with q|q
  ·exact .inl q
  ·exact .inr ⟨q,PySem.W.cellsFrom_some _ _ _ (.inl q)⟩
 refine codeAny_call_function hr.depth (KX _ _ lk) rfl S.co S.gen rfl (PySem.W.codeRec_of KX hcd) (hb _ _ _ _ ?_);refine wpAny_newFunctionEnv_cells S.kind hkind λenv he s1 x=>?_;subst he;refine⟨lim.keeps x.toInCall.keep,codeAny_func ?_⟩;obtain⟨t,ht,hq⟩:=hbody A outer s H vs Q E (hr.deeper _) hsp;have I:Inv (oA CX P w K mg base N qual scope f cdv A outer s H E) [] (start N vs) H s1:=rY S hr.hd e0 hl r x;refine Uv (ht [] s1 (start N vs) H _ I hq) (λfl s' hs=>?_) λe s' hs=>hs;have fin:∀{σ':St}{H':Hp}{v:V}{u:Value},Inv (oA CX P w K mg base N qual scope f cdv A outer s H E) [] σ' H' s'->RelV v u->Q v H'->CE outer P w H s Q u s' :=
  λ{σ' H' v u} J rv q=>⟨v,H',J.os,J.bare,J.base,J.hok,rv,q⟩
 cases fl with
 |ret u =>obtain⟨v,σ',H',J,rv,q⟩:=hs;exact fin J rv q
 |next =>obtain⟨σ',H',J,q⟩:=hs;exact fin (v:=V.non) (u:=Value.none) J rfl q
 |brk =>obtain⟨_,_,_,q⟩:=hs;exact UJ q
 |cont =>obtain⟨_,_,_,q⟩:=hs;exact UJ q
section
variable{X:Cx}{x:Str}{p pos:Pos}{e:Expr}{es:List Expr}{t:TA}{id T:String}{r:List V->Hp->VK->Prop}
def N5(r:List V->Hp->VK->Prop)(t:TA):TE:=λσ H Q=>t σ H λvs H1=>r vs H1 Q
theorem aN(hc:e_ X (.builtin id) r)(hg:Gl X x)(hm:X.mg x=none)(hv:bootBuiltins x=some (.builtin id))(ha:PA X (e::es) t)(hn:x≠"__name__":=by decide)(hdb:(x==("__debug__" : Str))=false:=by decide)
  (he:starEach (e::es) X.env=(false,eval e X.env)::starEach es X.env:=by rfl) (hpl:(backTo pos (starEach es X.env)).any (·.1)=false:=by rfl):PE X (.Call (.Name x p) (e::es) [] pos) (N5 r t):=by
 intro ac s σ H Q I h;refine wpAny_Call_Name_kw (iY I hg hm hv ?_ hn hdb);exact PyProof.Rows.callWith_builtin1 (bJ (ha pos ac s σ H _ I h) λus s1 ⟨vs,H1,I1,r1,q1⟩=>hc ac s1 σ H1 vs us Q I1 r1 q1) he hpl
theorem bN(hc:e_ X (.type T) r)(hg:Gl X x)(hm:X.mg x=none)(hv:bootBuiltins x=some (.type T))(ha:PA X (e::es) t)(hn:x≠"__name__":=by decide)(hdb:(x==("__debug__" : Str))=false:=by decide)
  (he:starEach (e::es) X.env=(false,eval e X.env)::starEach es X.env:=by rfl) (hpl:(backTo pos (starEach es X.env)).any (·.1)=false:=by rfl):PE X (.Call (.Name x p) (e::es) [] pos) (N5 r t):=by
 intro ac s σ H Q I h;refine wpAny_Call_Name_kw (iY I hg hm hv ?_ hn hdb);exact PyProof.Rows.callWith_type1 (bJ (ha pos ac s σ H _ I h) λus s1 ⟨vs,H1,I1,r1,q1⟩=>hc ac s1 σ H1 vs us Q I1 r1 q1) he hpl
end
end L2
namespace HT
open PySem PyProof.Rows
section
variable{prog:Program}{w:World}{A:Around}{E:Value->Shared->Prop}{s:Shared}
theorem F7{t b:Addr}{vs ws:List Value}{Q:Value->Shared->Prop}(ht:IsTup s.heap t vs.toArray)(hb:IsTup s.heap b ws.toArray)(hv:vs≠[])
  (h1:ws=[]->Q (.ref t) s) (h2:ws≠[]->Q (.ref s.heap.objs.size) {s with heap:=s.heap.push {cls:=.type "tuple",data:=.seq (vs++ws).toArray}})
  (hsz:vs.length+ws.length<=sizeLine):wpAny (model prog w) A (binaryOp .Add (.ref t) (.ref b)) Q E s:=by
 obtain⟨⟨cls,dd,data,sl⟩,ho,hc,n,hd⟩:=id ht;obtain⟨⟨cls2,dd2,data2,sl2⟩,ho2,hc2,n2,hd2⟩:=id hb;simp only at hc hd hc2 hd2;subst hc hd hc2 hd2;have e:vs.toArray++ws.toArray=(vs++ws).toArray:=by simp
 by_cases hw:ws=[]
 ·exact concat_meets ⟨_,ho,rfl⟩ ⟨_,ho2,rfl⟩ noFill_tuple_add seq_tuple_add PySem.F.slot_tuple_add PySem.F.entry_tuple_add (PySem.F.args_tuple_add_2 _ _)
   (tuple_addW1 t b vs.toArray ws.toArray n n2 dd dd2 sl sl2 (by simpa using hv) (by simp[hw])) ⟨ho,ho2,h1 hw⟩
 ·refine concat_meets ⟨_,ho,rfl⟩ ⟨_,ho2,rfl⟩ noFill_tuple_add seq_tuple_add PySem.F.slot_tuple_add PySem.F.entry_tuple_add (PySem.F.args_tuple_add_2 _ _)
   (tuple_addW2 t b vs.toArray ws.toArray n n2 dd dd2 sl sl2 (by simpa using hv) (by simpa using hw) (by rw[Ue,Ue];exact hsz)) ⟨ho,ho2,?_⟩
  rw[e];exact h2 hw
def dy(n d:Nat):Option Int->Nat
 |none=>d
 |some v=>if v<0 then(v+(n:Int)).toNat else min v.toNat n
theorem uH(n d:Nat):dy n d none=d:=rfl
theorem yM(n d k:Nat):dy n d (some (k:Int))=min k n:=by show(if(k:Int)<0 then((k:Int)+(n:Int)).toNat else min (k:Int).toNat n)=min k n;rw[UD (by omega),Int.toNat_natCast]
theorem IP(n d:Nat)(hd:d<=n)(o:Option Int):dy n d o<=n:=by
 cases o with
 |none=>exact hd
 |some v =>
  show(if v<0 then(v+(n:Int)).toNat else min v.toNat n)<=n;by_cases hv:v<0
  ·rw[UE hv];omega
  ·rw[UD hv];exact Nat.min_le_right _ _
theorem yR(v:Int)(n d:Nat):(if v<0 then max (v+(n:Int)) 0 else min v (n:Int))=((dy n d (some v):Nat):Int):=by
 show(if v<0 then max (v+(n:Int)) 0 else min v (n:Int))=(((if v<0 then(v+(n:Int)).toNat else min v.toNat n):Nat):Int);by_cases hv:v<0
 ·simp only[UE hv];omega
 ·simp only[UD hv];omega
theorem xn(lo hi:Option Int)(n:Nat):Builtin.Slice.sliceAdjust lo hi 1 (n:Int)=(((dy n 0 lo:Nat):Int),((dy n n hi:Nat):Int)):=by
 have h1:¬((1:Int)<0):=by omega
 unfold Builtin.Slice.sliceAdjust;simp only[h1,if_false];refine Prod.ext ?_ ?_
 ·cases lo with
  |none=>rfl
  |some v=>exact yR v n 0
 ·cases hi with
  |none=>rfl
  |some v=>exact yR v n n
theorem xq(i j:Nat):Builtin.Slice.slicePlaces (i:Int) (j:Int) 1=j-i:=by
 unfold Builtin.Slice.slicePlaces;have h1:(1:Int) > 0:=by omega
 simp only[h1,if_true,Int.ediv_one];split<;>omega
theorem qu{v:Value}{o:Option Int}{Q:Option Int->Shared->Prop}(p:IsPart v o)(h:Q o s):wpAny (model prog w) A (Builtin.Slice.slicePartIndex v) Q E s:=by
 cases p with
 |none=>exact slicePart_none h
 |int i t=>exact slicePart_int h
theorem iI{sl:Addr}{vl vu:Value}{lo hi:Option Int}{n:Nat}{Q:Int×Int×Nat->Shared->Prop}(hs:s.heap.IsSliceOf sl vl vu .none)(pl:IsPart vl lo)(pu:IsPart vu hi)
  (h:Q (((dy n 0 lo:Nat):Int),1,dy n n hi-dy n 0 lo) s):wpAny (model prog w) A (Builtin.Slice.sliceApplied (.ref sl) (pure (n:Int))) Q E s:=by
 obtain⟨os,hos,hcs,hds⟩:=id hs;unfold Builtin.Slice.sliceApplied Builtin.Slice.sliceFields;refine TK (TK (wpAny_field hos hds (x:=vl) rfl (TK (wpAny_field hos hds (x:=vu) rfl (TK (wpAny_field hos hds (x:=.none) rfl (TM ?_)))))));refine TK (slicePart_none ?_);show wpAny _ _ (if((1:Int)==0)=true then _ else _) _ _ s;rw[UD (by decide)];refine TK (qu pl (TK (qu pu (TK (TM ?_)))));show wpAny _ _ (match Builtin.Slice.sliceAdjust lo hi 1 (n:Int)with | (lo,hi)=>pure (lo,(1:Int),Builtin.Slice.slicePlaces lo hi 1)) _ _ s;rw[xn lo hi n];show wpAny _ _ (pure (((dy n 0 lo:Nat):Int),(1:Int),Builtin.Slice.slicePlaces ((dy n 0 lo:Nat):Int) ((dy n n hi:Nat):Int) 1)) _ _ s;rw[xq];exact TM h
theorem DR(xs:Array Value)(i k:Nat):((List.range k).filterMap λ(m:Nat)=>xs[((i:Int)+(m:Int)*1).toNat]?).toArray=((xs.toList.drop i).take k).toArray:=by
 have e:(λ(m:Nat)=>xs[((i:Int)+(m:Int)*1).toNat]?) = λm=>xs[i+m]?:=by
  funext m;have:((i:Int)+(m:Int)*1).toNat=i+m:=by omega
  rw[this]
 rw[e];have:=pick_run xs i k;rw[List.filterMap_map]at this;have e2:((λx=>xs[x]?)∘ λx=>i+x) = λm=>xs[i+m]?:=rfl;rw[e2]at this;rw[this]
theorem mm{t sl:Addr}{items:Array Value}{vl vu:Value}{lo hi:Option Int}{Q:Value->Shared->Prop}(ht:IsTup s.heap t items)(hs:s.heap.IsSliceOf sl vl vu .none)(pl:IsPart vl lo)(pu:IsPart vu hi)
  (hw:¬(dy items.size 0 lo=0/\dy items.size items.size hi=items.size))
  (h:Q (.ref s.heap.objs.size) {s with heap:=s.heap.push {cls:=.type "tuple",data:=.seq ((items.toList.drop (dy items.size 0 lo)).take (dy items.size items.size hi-dy items.size 0 lo)).toArray}})
  (hsz:items.size<=sizeLine):wpAny (model prog w) A (getItem (.ref t) (.ref sl)) Q E s:=by
 have zo:sizeOk (.seq ((items.toList.drop (dy items.size 0 lo)).take (dy items.size items.size hi-dy items.size 0 lo)).toArray):=by show((items.toList.drop (dy items.size 0 lo)).take (dy items.size items.size hi-dy items.size 0 lo)).toArray.size<=sizeLine;rw[Ue,Ut,List.length_drop,US];omega
 have hj:dy items.size items.size hi<=items.size:=IP _ _ (TU _) hi;obtain⟨os,hos,hcs,hds⟩:=id hs;have hTs:s.TypeIs (.ref sl) "slice":=⟨os,hos,hcs⟩;unfold getItem;try with_reducible refine Uw ?_
 first|refine TK (TM ?_)|skip
 refine TK (wpAny_sequenceKey ht.typeIs (by decide) ?_);refine TK (wpAny_callSpecial?_slot (name:=Str.ofString "__getitem__") ht.typeIs PyProof.Rows.slot_tuple_getitem
  (UO PyProof.Rows.slot_tuple_getitem ht.typeIs entry_tuple_getitem ?_ (args_tuple_getitem _ _)))
 show wpAny _ _ (Builtin.Tuple.tupleItemsOf (.ref t) >>= _) _ _ s;refine TK (tupleItemsOf_ ht ?_);refine TK (wpAny_typeOf hTs ?_);rw[UE (by decide)];refine TK (iI hs pl pu ?_);have hno:¬((((dy items.size 0 lo:Nat):Int)==0&&(1:Int)==1&&(dy items.size items.size hi-dy items.size 0 lo)==items.size)=true):=by intro q;rw[UA,UA]at q;have q1:((dy items.size 0 lo:Nat):Int)=0:=eq_of_beq q.1.1;have q2:dy items.size items.size hi-dy items.size 0 lo=items.size:=eq_of_beq q.2;exact hw ⟨by omega,by omega⟩
 show wpAny _ _ (if(((dy items.size 0 lo:Nat):Int)==0&&(1:Int)==1&&(dy items.size items.size hi-dy items.size 0 lo)==items.size)=true then _ else _) _ _ s;rw[UD hno,DR];first
  |exact TK (m:=Builtin.Tuple.tupleExact _) (Ux (TM ⟨_,rfl,TM h⟩) zo)
  |exact TK (m:=Builtin.Tuple.tupleExact _) (Ux (TK (TM (TM ⟨_,rfl,TM h⟩))) zo)
  |exact TK (TK (m:=Builtin.Tuple.tupleExact _) (Ux (TM (TM ⟨_,rfl,TM h⟩)) zo))
  |exact TK (TK (m:=Builtin.Tuple.tupleExact _) (Ux (TM ⟨_,rfl,TM h⟩) zo))
end
end HT
namespace L2
open PySem PySem.Spec PyProof.Rows
abbrev TO:=St->Hp->(Option Int->Hp->Prop)->Prop
def PO(X:Cx)(e:Option Expr)(t:TO):Prop :=
 ∀(ac:List (Addr×Obj))(s:Shared)(σ:St)(H:Hp)(Q:Option Int->Hp->Prop),Inv X ac σ H s->t σ H Q->
  wpAny (model X.prog X.w) X.A (evalPart e X.env) (λu s'=>∃o H',Inv X ac σ H' s'/\IsPart u o/\Q o H') X.xe s
def Gv:TO:=λ_ H Q=>Q none H
def KP(t:TE):TO:=λσ H Q=>t σ H λx H1=>∃i,x=.int i/\Q (some i) H1
section
variable{X:Cx}{e:Expr}{te:TE}{lo hi:Option Expr}{tl th:TO}{pos p2:Pos}
theorem eL:PO X none Gv:=by intro ac s σ H Q I h;rw[evalPart_none];exact TM ⟨none,H,I,.none,h⟩
theorem cU(h:PE X e te):PO X (some e) (KP te):=by intro ac s σ H Q I hw;rw[evalPart_some];refine bJ (h ac s σ H _ I hw) λu s1 zz=>?_;obtain⟨x,H1,I1,r1,q1⟩:=zz;obtain⟨i,rfl,q⟩:=q1;obtain⟨t,rfl⟩:=r1;exact⟨some i,H1,I1,.int i t,q⟩
def Eo(X:Cx)(r:V->Option Int->Option Int->Hp->VK->Prop):Prop :=
 ∀(ac:List (Addr×Obj))(s:Shared)(σ:St)(H:Hp)(x:V)(v vl vu:Value)(lo hi:Option Int)(sl:Addr)(Q:VK),Inv X ac σ H s->RelV x v->s.heap.IsSliceOf sl vl vu .none->IsPart vl lo->IsPart vu hi->r x lo hi H Q->
  ∃T id,typeLookup (.type T) "__getitem__"=pure (some (.builtin id))/\s.TypeIs v T/\wpAny (model X.prog X.w) X.A (getItem v (.ref sl)) (EP X ac σ Q) X.xe s
theorem Eo.or{r r':V->Option Int->Option Int->Hp->VK->Prop}(h:Eo X r)(h':Eo X r'):Eo X (λx lo hi H Q=>r x lo hi H Q\/r' x lo hi H Q):=by
 intro ac s σ H x v vl vu lo hi sl Q I rx hs pl pu q;rcases q with q|q
 ·exact h ac s σ H x v vl vu lo hi sl Q I rx hs pl pu q
 ·exact h' ac s σ H x v vl vu lo hi sl Q I rx hs pl pu q
def RO(r:V->Option Int->Option Int->Hp->VK->Prop)(te:TE)(tl th:TO):TE:=λσ H Q=>te σ H λx H1=>tl σ H1 λl H2=>th σ H2 λu H3=>r x l u H3 Q
theorem cR{r:V->Option Int->Option Int->Hp->VK->Prop}(hr:Eo X r)(he:PE X e te)(hl:PO X lo tl)(hu:PO X hi th):PE X (.Subscript e (.Slice lo hi none p2) pos) (RO r te tl th):=by intro ac s σ H Q I h;refine Subscript_ (bJ (he ac s σ H _ I h) λv s1 zz=>?_);obtain⟨x,H1,I1,r1,q1⟩:=zz;refine wpAny_Slice (bJ (hl ac s1 σ H1 _ I1 q1) λvl s2 ⟨l,H2,I2,pl,q2⟩=>bJ (hu ac s2 σ H2 _ I2 q2) λvu s3 zz=>?_);obtain⟨u,H3,I3,pu,q3⟩:=zz;rw[evalPart_none];refine TM ?_;have I4:Inv X ac σ H3 {s3 with heap:=s3.heap.push {cls:=.type "slice",data:=.fields #[vl,vu,.none]}}:=I3.kept (t':=s3.toks) λb ob q=>TN _ q;obtain⟨T,id,hT,ht,hg⟩:=hr ac {s3 with heap:=s3.heap.push {cls:=.type "slice",data:=.fields #[vl,vu,.none]}} σ H3 x v vl vu l u s3.heap.objs.size Q I4 r1 (Heap.IsSliceOf.new ..) pl pu q3;show wpAny (model X.prog X.w) X.A (subscriptTail e (.Slice lo hi none p2) v (.ref s3.heap.objs.size)) (EP X ac σ Q) X.xe {s3 with heap:=s3.heap.push {cls:=.type "slice",data:=.fields #[vl,vu,.none]}};exact tail_any (ops:=[.ref s3.heap.objs.size,v]) ht hT hg (by with_unfolding_all rfl)
def e6(xs:List V)(lo hi:Option Int):List V:=(xs.drop (HT.dy xs.length 0 lo)).take (HT.dy xs.length xs.length hi-HT.dy xs.length 0 lo)
theorem n8(xs:List V)(lo hi:Option Int):(e6 xs lo hi).length<=xs.length:=by unfold e6;rw[Ut,List.length_drop];omega
def K5(K:UX):V->Option Int->Option Int->Hp->VK->Prop:=λx lo hi H Q=>∃a xs,x=.ref a/\aY K H a xs/\
 ¬(HT.dy xs.length 0 lo=0/\HT.dy xs.length xs.length hi=xs.length)/\∀p,H p=none->Q (.ref p) (upd H p (.tup (e6 xs lo hi)))
theorem Kg:Eo X (K5 X.K):=by
 intro ac s σ H x v vl vu lo hi sl Q I rx hs pl pu h;obtain⟨a,xs,rfl,hx,hw,q⟩:=h;cases rx;obtain⟨its,r,ht,hz⟩:=I.tuple hx;have hlen:its.toArray.size=xs.length:=by rw[Ue];exact r.length.symm
 refine⟨"tuple",_,PyProof.Rows.slot_tuple_getitem.lookup,ht.typeIs,?_⟩;refine HT.mm ht hs pl pu (by rw[hlen];exact hw) ?_ (by rw[hlen];exact hz);rw[hlen];refine⟨.ref s.heap.objs.size,_,I.laid (t':=s.toks) (o:=.tup (e6 xs lo hi)) (λb ob q=>TN _ q) (TU _) ?_,rfl,q _ (I.hok.fresh (TU _))⟩;exact⟨TV (n8 xs lo hi) hz,_,(r.drop (HT.dy xs.length 0 lo)).take (HT.dy xs.length xs.length hi-HT.dy xs.length 0 lo),iS.new _ _⟩
def LD(K:UX):R2:=λx y H Q=>∃a b xs ys,x=.ref a/\y=.ref b/\aY K H a xs/\aY K H b ys/\xs≠[]/\xs.length+ys.length<=sizeLine/\
 (ys=[]->Q (.ref a) H)/\(ys≠[]->∀p,H p=none->Q (.ref p) (upd H p (.tup (xs++ys))))
theorem Vals.tI{xs:List V}{us:List Value}(r:Vals xs us):us=[]↔xs=[]:=by
 cases r with
 |nil=>simp
 |cons _ _=>simp
theorem y8:jl X (binaryOp .Add) (LD X.K):=by intro ac s σ H x y v u Q I rx ry h;obtain⟨a,b,xs,ys,rfl,rfl,ha,hb,hx,hz,q1,q2⟩:=h;cases rx;cases ry;obtain⟨its,r1,p1,_⟩:=I.tuple ha;obtain⟨its2,r2,p2,_⟩:=I.tuple hb;refine HT.F7 p1 p2 (λz=>hx (r1.tI.mp z)) (λz=>⟨.ref a,H,I,rfl,q1 (r2.tI.mp z)⟩) (λz=>?_) (by rw[←r1.length,←r2.length];exact hz);refine⟨.ref s.heap.objs.size,_,I.laid (t':=s.toks) (o:=.tup (xs++ys)) (λb ob q=>TN _ q) (TU _) ?_,rfl,q2 (λw=>z (r2.tI.mpr w)) _ (I.hok.fresh (TU _))⟩;exact⟨by rw[T1];exact hz,_,r1.append r2,iS.new _ _⟩
end
def F3(n:Nat)(i:Int):Option Nat:=if 0<=i then(if i<n then some i.toNat else none)else if -(n:Int)<=i then some (i+n).toNat else none
def y0{α:Type}(xs:List α)(i:Int):Option α:=(F3 xs.length i).bind λj=>xs[j]?
theorem yq{n:Nat}{i:Int}{j:Nat}(h:F3 n i=some j):seqIndex? i n=some j/\j<n/\-(n:Int)<=i/\i<n:=by
 unfold F3 at h;by_cases h0:0<=i
 ·rw[UE h0]at h;by_cases h1:i<n
  ·rw[UE h1]at h;have e:i.toNat=j:=Up h;exact⟨by rw[seqIndex_of h0 h1,e],by omega,by omega,h1⟩
  ·rw[UD h1]at h;cases h
 ·rw[UD h0]at h;by_cases h1:-(n:Int)<=i
  ·rw[UE h1]at h;have e:(i+n).toNat=j:=Up h;exact⟨by rw[seqIndex_neg (by omega) h1,e],by omega,h1,by omega⟩
  ·rw[UD h1]at h;cases h
theorem ze{α:Type}{xs:List α}{i:Int}{v:α}(h:y0 xs i=some v):∃j,seqIndex? i xs.length=some j/\xs[j]? = some v/\j<xs.length/\-(xs.length:Int)<=i/\i<xs.length:=by
 unfold y0 at h;cases e:F3 xs.length i with
 |none=>rw[e]at h;cases h
 |some j =>rw[e]at h;obtain⟨h1,h2,h3,h4⟩:=yq e;exact⟨j,h1,h,h2,h3,h4⟩
theorem aP{α:Type}{xs:List α}{j:Nat}{v:α}(h:xs[j]? = some v):y0 xs (j:Int)=some v:=by
 have hj:j<xs.length:=(Ug.mp h).1;have e:F3 xs.length (j:Int)=some j:=by unfold F3;rw[UE (by omega),UE (by omega)];simp
 unfold y0;rw[e];exact h
def oZ(b:Expr):Prop:=∀o i,subscripted b false o i=operate [o,i] (getItem o i)
def LY(X:Cx)(r:R2):Prop :=
 ∀(value slice:Expr)(ac:List (Addr×Obj))(s:Shared)(σ:St)(H:Hp)(x y:V)(v u:Value)(Q:VK),Inv X ac σ H s->RelV x v->RelV y u->r x y H Q->
  subscripted slice false v u=operate [v,u] (getItem v u)->wpAny (model X.prog X.w) X.A (subscriptTail value slice v u) (EP X ac σ Q) X.xe s
def PJ(X:Cx)(id:String)(r:V->List V->Hp->VK->Prop):Prop :=
 ∀(ac:List (Addr×Obj))(s:Shared)(σ:St)(H:Hp)(x:V)(xs:List V)(v:Value)(us:List Value)(Q:VK),Inv X ac σ H s->RelV x v->Vals xs us->r x xs H Q->
  wpAny (model X.prog X.w) X.A (call (.builtin id) (v::us)) (EP X ac σ Q) X.xe s
section
variable{X:Cx}{a b:Expr}{ta tb:TE}{pos:Pos}
theorem iE{r:R2}(hr:LY X r)(ha:PE X a ta)(hb:PE X b tb)(hs:oZ b):PE X (.Subscript a b pos) (fQ r ta tb):=by intro ac s σ H Q I h;exact Subscript_ (Jt ha hb I h λv u s2 x y H2 I2 rx ry q=>hr a b ac s2 σ H2 x y v u Q I2 rx ry q (hs _ _))
def lP(K:UX):R2:=λx y H Q=>∃p xs i v,x=.ref p/\y=.int i/\bj K H p xs/\y0 xs i=some v/\Q v H
def qo(K:UX):R2:=λx y H Q=>∃p xs i v,x=.ref p/\y=.int i/\aY K H p xs/\y0 xs i=some v/\Q v H
theorem eE:LY X (lP X.K):=by
 intro value slice ac s σ H x y v u Q I rx ry h hs;obtain⟨p,xs,i,z,rfl,rfl,hq,he,q⟩:=h;cases rx;obtain⟨t,rfl⟩:=ry;obtain⟨its,r,pl,hz⟩:=I.list hq;obtain⟨j,h1,h2,h3,h4,h5⟩:=ze he;obtain⟨w,ew,ow⟩:=r.get h2;have hl:=r.length;have hn:=pU;have fin:EP X ac σ Q w s:=⟨z,H,I,ow,q⟩;by_cases h0:0<=i
 ·have hj:i.toNat=j:=by rw[seqIndex_of h0 h5]at h1;exact Up h1
  exact item_listR pl.isList h0 (by omega) (by rw[hj];simpa using ew) fin hs
 ·have hj:(i+(its.toArray.size:Int)).toNat=j:=by rw[seqIndex_neg (by omega) h4]at h1;rw[Ue,←hl];exact Up h1
  exact subscriptTail_builtinR (x:=w) pl.isList.typeIs slot_list_getitem.lookup
   (wpAny_getItem_list_neg (Q:=λr s'=>r=w/\EP X ac σ Q r s') pl.isList (by omega) (by rw[Ue]<;>omega) (by omega) (by rw[hj];simpa using ew) ⟨rfl,fin⟩) hs
theorem xf:LY X (qo X.K):=by
 intro value slice ac s σ H x y v u Q I rx ry h hs;obtain⟨p,xs,i,z,rfl,rfl,hq,he,q⟩:=h;cases rx;obtain⟨t,rfl⟩:=ry;obtain⟨its,r,pl,hz⟩:=I.tuple hq;obtain⟨j,h1,h2,h3,h4,h5⟩:=ze he;obtain⟨w,ew,ow⟩:=r.get h2;have hl:=r.length;have hn:=pU;have fin:EP X ac σ Q w s:=⟨z,H,I,ow,q⟩;exact subscriptTail_builtinR (x:=w) pl.typeIs slot_tuple_getitem.lookup
  (getItem_tuple (j:=j) (Q:=λr s'=>r=w/\EP X ac σ Q r s') pl (by omega) (by omega) (by rw[Ue,←hl];exact h1) (by simpa using ew) ⟨rfl,fin⟩) hs
theorem wH(its:List Value)(n j:Nat)(u:Value):Obj.mapSeq (·.setIfInBounds j u) {cls:=.type "list",data:=.seq its.toArray n} ={cls:=.type "list",data:=.seq (its.set j u).toArray n}:=by simp[Obj.mapSeq]
theorem Inv.lst{ac:List (Addr×Obj)}{σ:St}{H:Hp}{s:Shared}{p:Addr}{xs:List V}(I:Inv X ac σ H s)(h:H p=some (.lst xs)) :
  ∃(its:List Value)(n:Nat),Vals xs its/\s.heap.get? p=some {cls:=.type "list",data:=.seq its.toArray n}/\xs.length<=sizeLine:=by
 obtain⟨z,its,n,r,e⟩:=I.hok p _ h;exact⟨its,n,r,e,z⟩
theorem Inv.Ig{ac:List (Addr×Obj)}{σ:St}{H:Hp}{s:Shared}{p:Addr}{xs ys:List V}{its its':List Value}{n n':Nat}{f:Obj->Obj}(I:Inv X ac σ H s)(h:H p=some (.lst xs))
  (ho:s.heap.get? p=some {cls:=.type "list",data:=.seq its.toArray n}) (hf:f {cls:=.type "list",data:=.seq its.toArray n} ={cls:=.type "list",data:=.seq its'.toArray n'}) (r:Vals ys its') (hz:ys.length<=sizeLine) (t:Nat) :
  Inv X ac σ (upd H p (.lst ys)) {s with heap:=s.heap.update p f,toks:=t}:=by
 have e:(s.heap.update p f).get? p=some {cls:=.type "list",data:=.seq its'.toArray n'}:=by rw[Heap.get?_update_self f ho (by rw[hf]<;>rfl),hf]
 refine I.write (x:=p) (e:=p) (by rw[h];trivial) (.inl rfl) (λb u hb q=>(Heap.get?_update_other _ _ (Ne.symm hb)).trans q) ⟨_,e⟩ ?_;exact⟨hz,its',n',r,e⟩
def MT:V->V->V->Hp->(Hp->Prop)->Prop:=λo i v H Q=>∃p xs k j,o=.ref p/\i=.int k/\H p=some (.lst xs)/\F3 xs.length k=some j/\Q (upd H p (.lst (xs.set j v)))
theorem set_list:Ls X MT:=by
 intro ac s σ H o i v ov iv u Q I ro ri rv h;obtain⟨p,xs,k,j,rfl,rfl,hp,hj,q⟩:=h;cases ro;obtain⟨t,rfl⟩:=ri;obtain⟨its,n,r,ho,hz⟩:=I.lst hp;obtain⟨h1,h2,h3,h4⟩:=yq hj;have hl:=r.length;have hn:=pU;have I':Inv X ac σ (upd H p (.lst (xs.set j v))) {s with heap:=s.heap.update p (Obj.mapSeq (·.setIfInBounds j u))} :=
  I.Ig hp ho (wH its n j u) (r.set rv j) (by rw[List.length_set];exact hz) s.toks
 by_cases h0:0<=k
 ·have hk:k.toNat=j:=by rw[seqIndex_of h0 h4]at h1;exact Up h1
  exact PySem.W.ki_setAt ho h0 (by omega) (by rw[Ue,←hl];exact h4) (by rw[hk];exact⟨_,I',q⟩)
 ·have hk:(k+(its.toArray.size:Int)).toNat=j:=by rw[seqIndex_neg (by omega) h3]at h1;rw[Ue,←hl];exact Up h1
  exact PySem.W.ki_setBack ho (by omega) (by rw[Ue,←hl];exact h3) (by omega) (by rw[hk];exact⟨_,I',q⟩)
theorem tH(lo hi:Option Int)(n:Nat):(sliceBounds lo hi none n).1=((HT.dy n 0 lo:Nat):Int)/\(sliceBounds lo hi none n).2.1=((HT.dy n n hi:Nat):Int)/\(sliceBounds lo hi none n).2.2=1:=by
 refine⟨?_,?_,rfl⟩
 ·cases lo with
  |none=>simp[sliceBounds,HT.dy]
  |some i =>
   simp only[sliceBounds,HT.dy,Option.getD_none,show(1:Int) > 0 by decide,if_true];by_cases h:i<0
   ·simp only[h,if_true]<;>omega
   ·simp only[h,if_false]<;>omega
 ·cases hi with
  |none=>simp[sliceBounds,HT.dy]
  |some i =>
   simp only[sliceBounds,HT.dy,Option.getD_none,show(1:Int) > 0 by decide,if_true];by_cases h:i<0
   ·simp only[h,if_true]<;>omega
   ·simp only[h,if_false]<;>omega
theorem rj(its:List Value)(lo hi:Option Int):slicePick its.toArray lo hi none=((its.drop (HT.dy its.length 0 lo)).take (HT.dy its.length its.length hi-HT.dy its.length 0 lo)).toArray:=by obtain⟨h1,h2,h3⟩:=tH lo hi its.toArray.size;unfold slicePick;rw[h1,h2,h3];simp only[sliceRange_one,pick_run,Ue]<;>rfl
def JU(K:UX):V->Option Int->Option Int->Hp->VK->Prop:=λx lo hi H Q=>∃a xs,x=.ref a/\bj K H a xs/\∀p,H p=none->Q (.ref p) (upd H p (.lst (e6 xs lo hi)))
theorem yQ:Eo X (JU X.K):=by intro ac s σ H x v vl vu lo hi sl Q I rx hs pl pu h;obtain⟨a,xs,rfl,hx,q⟩:=h;cases rx;obtain⟨its,r,ht,hz⟩:=I.list hx;have hlen:=r.length;refine⟨"list",_,slot_list_getitem.lookup,ht.isList.typeIs,?_⟩;refine wpAny_getItem_list_slice ht.isList hs pl pu .none (by simp) ?_ (by rw[Ue]<;>omega);rw[rj,←hlen];refine⟨.ref s.heap.objs.size,_,I.laid (t':=s.toks) (o:=.lst (e6 xs lo hi)) (λb ob q=>TN _ q) (TU _) ?_,rfl,q _ (I.hok.fresh (TU _))⟩;exact⟨TV (n8 xs lo hi) hz,_,0,(r.drop (HT.dy xs.length 0 lo)).take (HT.dy xs.length xs.length hi-HT.dy xs.length 0 lo),TR _ rfl⟩
def jY:V->Bool
 | .non=>true
 | .bl _=>true
 | .int _=>true
 | .str _=>true
 |_=>false
def FC:V->V->Bool
 | .non,.non=>true
 | .bl a,.bl b=>a==b
 | .bl a,.int b=>(if a then 1 else 0)==b
 | .int a,.bl b=>a==(if b then 1 else 0)
 | .int a,.int b=>a==b
 | .str a,.str b=>a==b
 |_,_=>false
theorem JQ{A:Around}{s:Shared}{y x:V}{u v:Value}(ry:RelV y u)(rx:RelV x v)(fy:jY y=true)(fx:jY x=true):SeqAt.EqAt A s u v (FC y x):=by
 cases y with
 |non =>
  cases ry;cases x with
  |non=>cases rx;exact SeqAt.EqAt.same _
  |bl b=>cases rx;exact SeqAt.EqAt.none_bool b
  |int b=>obtain⟨t,rfl⟩:=rx;exact SeqAt.EqAt.none_int b t
  |str b=>obtain⟨t,rfl⟩:=rx;exact SeqAt.EqAt.none_str b t
  |_=>exact UC (show false=true from fx) Ud
 |bl a =>
  cases ry;cases x with
  |non=>cases rx;exact SeqAt.EqAt.bool_none a
  |bl b=>cases rx;exact SeqAt.EqAt.bool_bool a b
  |int b=>obtain⟨t,rfl⟩:=rx;exact SeqAt.EqAt.bool_int a b t
  |str b=>obtain⟨t,rfl⟩:=rx;exact SeqAt.EqAt.bool_str a b t
  |_=>exact UC (show false=true from fx) Ud
 |int a =>
  obtain⟨t',rfl⟩:=ry;cases x with
  |non=>cases rx;exact SeqAt.EqAt.int_none a t'
  |bl b=>cases rx;exact SeqAt.EqAt.int_bool a t' b
  |int b=>obtain⟨t,rfl⟩:=rx;exact SeqAt.EqAt.int_int a t' b t
  |str b=>obtain⟨t,rfl⟩:=rx;exact SeqAt.EqAt.int_str a t' b t
  |_=>exact UC (show false=true from fx) Ud
 |str a =>
  obtain⟨t',rfl⟩:=ry;cases x with
  |non=>cases rx;exact SeqAt.EqAt.str_none a t'
  |bl b=>cases rx;exact SeqAt.EqAt.str_bool a t' b
  |int b=>obtain⟨t,rfl⟩:=rx;exact SeqAt.EqAt.str_int a t' b t
  |str b=>obtain⟨t,rfl⟩:=rx;exact SeqAt.EqAt.str_str a t' b t
  |_=>exact UC (show false=true from fx) Ud
 |_=>exact UC (show false=true from fy) Ud
def vf(x:V)(u:Value):Bool:=match u with
 | .none=>FC .non x
 | .bool b=>FC (.bl b) x
 | .int i _=>FC (.int i) x
 | .str z _=>FC (.str z) x
 |_=>false
theorem xK{x y:V}{u:Value}(r:RelV y u)(f:jY y=true):vf x u=FC y x:=by
 cases y with
 |non=>cases r;rfl
 |bl b=>cases r;rfl
 |int i=>obtain⟨t,rfl⟩:=r;rfl
 |str z=>obtain⟨t,rfl⟩:=r;rfl
 |_=>exact UC (show false=true from f) Ud
theorem l6{x:V}:∀{xs:List V}{us:List Value},Vals xs us->xs.all jY=true->us.any (vf x)=xs.any λy=>FC y x
 |_,_,.nil,_=>rfl
 |y::xs,u::us,.cons r t,f=>by rw[List.all_cons,UA]at f;rw[UT,UT,xK r f.1,l6 t f.2]
theorem iQ{A:Around}{s:Shared}{x:V}{v:Value}(rx:RelV x v)(fx:jY x=true):∀{xs:List V}{us:List Value},Vals xs us->xs.all jY=true->∀u∈us,SeqAt.EqAt A s u v (vf x u)
 |_,_,.nil,_=>λu hu=>by cases hu
 |y::xs,u::us,.cons r t,f=>λu' hu=>by
  rw[List.all_cons,UA]at f;rcases Uj.mp hu with rfl|hu
  ·rw[xK r f.1];exact JQ r rx f.1 fx
  ·exact iQ rx fx t f.2 u' hu
def inV(x:V)(xs:List V):Bool:=xs.any λy=>FC y x
def GP(K:UX)(neg:Bool):R2:=λx y H Q=>∃p xs,y=.ref p/\(bj K H p xs\/aY K H p xs)/\jY x=true/\xs.all jY=true/\Q (.bl (if neg then !inV x xs else inV x xs)) H
theorem ez:jl X (compareOp .In) (GP X.K false):=by
 intro ac s σ H x y v u Q I rx ry h;obtain⟨p,xs,rfl,hq,fx,fs,q⟩:=h;cases ry;rcases hq with hq|hq
 ·obtain⟨its,r,pl,hz⟩:=I.list hq;refine SeqAt.in_listAt (vf x) pl.isList (λw hw=>iQ rx fx r fs w (by simpa using hw)) ⟨.bl _,H,I,rfl,?_⟩;rw[show its.toArray.any (vf x)=its.any (vf x) by simp,l6 r fs];exact q
 ·obtain⟨its,r,pl,hz⟩:=I.tuple hq;refine SeqAt.in_tupleAt (vf x) pl (λw hw=>iQ rx fx r fs w (by simpa using hw)) ⟨.bl _,H,I,rfl,?_⟩;rw[show its.toArray.any (vf x)=its.any (vf x) by simp,l6 r fs];exact q
theorem mM:jl X (compareOp .NotIn) (GP X.K true):=by
 intro ac s σ H x y v u Q I rx ry h;obtain⟨p,xs,rfl,hq,fx,fs,q⟩:=h;cases ry;rcases hq with hq|hq
 ·obtain⟨its,r,pl,hz⟩:=I.list hq;refine SeqAt.notIn_listAt (vf x) pl.isList (λw hw=>iQ rx fx r fs w (by simpa using hw)) ⟨.bl _,H,I,rfl,?_⟩;rw[show its.toArray.any (vf x)=its.any (vf x) by simp,l6 r fs];exact q
 ·obtain⟨its,r,pl,hz⟩:=I.tuple hq;refine SeqAt.notIn_tupleAt (vf x) pl (λw hw=>iQ rx fx r fs w (by simpa using hw)) ⟨.bl _,H,I,rfl,?_⟩;rw[show its.toArray.any (vf x)=its.any (vf x) by simp,l6 r fs];exact q
theorem aU:e_ X (.builtin "len") (λxs H Q=>∃p ys,xs=[.ref p]/\(bj X.K H p ys\/aY X.K H p ys)/\Q (.int ys.length) H):=by
 intro ac s σ H xs us Q I r h;obtain⟨p,ys,rfl,hq,q⟩:=h;obtain⟨u,rfl,rx⟩:=vals1 r;cases rx;have hn:=pU;rcases hq with hq|hq
 ·obtain⟨its,r',pl,hz⟩:=I.list hq;have hlen:=r'.length;exact Calls.call_len_list pl.isList (by simp only[Ue]<;>omega) ⟨.int ys.length,H,I.tok _,⟨s.toks+1,by rw[Ue,hlen]⟩,q⟩
 ·obtain⟨its,r',pl,hz⟩:=I.tuple hq;have hlen:=r'.length;exact len_tuple pl (by simp only[Ue]<;>omega) ⟨.int ys.length,H,I.tok _,⟨s.toks+1,by rw[Ue,hlen]⟩,q⟩
theorem bt:e_ X (.type "tuple") (λxs H Q=>∃p ys,xs=[.ref p]/\((bj X.K H p ys/\∀l,H l=none->Q (.ref l) (upd H l (.tup ys)))\/(aY X.K H p ys/\Q (.ref p) H))):=by
 intro ac s σ H xs us Q I r h;obtain⟨p,ys,rfl,h⟩:=h;obtain⟨u,rfl,rx⟩:=vals1 r;cases rx;rcases h with⟨hq,q⟩|⟨hq,q⟩
 ·obtain⟨its,r',pl,hz⟩:=I.list hq;have hlen:=r'.length;refine call_tuple_list pl.isList (λh' kp=>?_) (by simp only[Ue]<;>omega);have I1:Inv X ac σ H {s with heap:=h'}:=I.kept (t':=s.toks) kp;have I2:Inv X ac σ (upd H h'.objs.size (.tup ys)) {s with heap:=h'.push {cls:=.type "tuple",data:=.seq its.toArray}} :=
   I1.laid (t':=s.toks) (λb o e=>TN _ e) (TU _) (show cc X.prog X.w _ _ _ (.tup ys) from⟨hz,its,r',iS.new _ _⟩)
  exact⟨.ref h'.objs.size,_,I2,rfl,q _ (I1.hok.fresh (TU _))⟩
 ·obtain⟨its,r',pl,hz⟩:=I.tuple hq;exact call_tuple_same pl ⟨.ref p,H,I,rfl,q⟩
def Qd(K:UX)(T:String)(x:V)(H:Hp):Prop:=match x with
 | .str _=>T="str"
 | .int _=>T="int"
 | .ref p=>(T="list"/\∃xs,bj K H p xs)\/(T="tuple"/\∃o,K.lookup p=some o/\o.cls=.type "tuple"/\o.dict=none)\/
   (T="dict"/\((∃kvs,H p=some (.dK kvs))\/∃kvs,H p=some (.dT kvs)))\/(T="set"/\∃S n,H p=some (.set S n))
 |_=>False
theorem Jx{ac:List (Addr×Obj)}{σ:St}{H:Hp}{s:Shared}{T:String}{x:V}{v:Value}(I:Inv X ac σ H s)(r:RelV x v)(ty:Qd X.K T x H) :
  s.TypeIs v T/\∀a,v=.ref a->∃ob,s.heap.get? a=some ob/\ob.dict=none:=by
 cases x with
 |str z =>obtain⟨t,rfl⟩:=r;cases(show T="str" from ty);exact⟨typeIs_str s z t,λ_ e=>nomatch e⟩
 |int i =>obtain⟨t,rfl⟩:=r;cases(show T="int" from ty);exact⟨typeIs_int s i t,λ_ e=>nomatch e⟩
 |ref p =>
  cases r;rcases ty with⟨rfl,xs,hq⟩|⟨rfl,o,hk,hc,hd⟩|⟨rfl,hk⟩|⟨rfl,S,n,hk⟩
  ·obtain⟨its,_,pl,_⟩:=I.list hq;refine⟨pl.isList.typeIs,λa e=>?_⟩;cases e;obtain⟨o,n,e,c,hd,_⟩:=pl;exact⟨o,e,hd⟩
  ·refine⟨⟨o,I.i0 p o hk,hc⟩,λa e=>?_⟩;cases e;exact⟨o,I.i0 _ o hk,hd⟩
  ·have z:∃o,s.heap.get? p=some o/\o.ExactDict:=by
    rcases hk with⟨kvs,hk⟩|⟨kvs,hk⟩
    ·obtain⟨_,_,_,_,o,_,_,e,ex,_⟩:=I.hok p _ hk;exact⟨o,e,ex⟩
    ·obtain⟨_,_,_,_,o,_,_,e,ex,_⟩:=I.hok p _ hk;exact⟨o,e,ex⟩
   obtain⟨o,e,ex⟩:=z;refine⟨⟨o,e,ex.1⟩,λa e2=>?_⟩;cases e2;exact⟨o,e,ex.2.1⟩
  ·obtain⟨o,_,_,_,e,ex,_⟩:=I.hok p _ hk;refine⟨⟨o,e,ex.1⟩,λa e2=>?_⟩;cases e2;exact⟨o,e,ex.2.1⟩
 |_=>exact UJ ty
def Q5(K:UX)(T:String)(r:V->List V->Hp->VK->Prop)(to:TE)(t:TA):TE:=λσ H Q=>to σ H λx H1=>Qd K T x H1/\t σ H1 λxs H2=>r x xs H2 Q
variable{o e:Expr}{es:List Expr}{to:TE}{t:TA}{name:Str}{apos cpos:Pos}{T id:String}{r:V->List V->Hp->VK->Prop}
theorem jU(pa:PlainAttrs T)(slot:Slot T name id)(hty:typeOf (.builtin id)=pure (.type "method_descriptor"))(hm:PJ X id r)(ho:PE X o to)(ha:PA X (e::es) t)
  (hbase:attributeBase o name X.env (eval o X.env)=eval o X.env:=by rfl)
  (hfew:((backTo cpos (starEach (e::es) X.env)).all (λx=>!x.1)&&(backToKw cpos (keywordEach [] X.env)).all (λx=>x.1.isSome)
   && decide ((e::es).length+([]:List Keyword).length+(if([]:List Keyword).isEmpty then 0 else 1)<30))=true:=by rfl)
  (hline:(apos.endLine==cpos.line)=true:=by rfl) (hs:starEach (e::es) X.env=(false,eval e X.env)::starEach es X.env:=by rfl) (hplain:(backTo cpos (starEach es X.env)).any (·.1)=false:=by rfl) :
  PE X (.Call (.Attribute o name apos) (e::es) [] cpos) (Q5 X.K T r to t):=by
 intro ac s σ H Q I h;refine wpAny_Call_method_late hbase hfew hline rfl (bJ (ho ac s σ H _ I h) λv s1 zz=>?_);obtain⟨x,H1,I1,r1,ty,q1⟩:=zz;obtain⟨h1,h2⟩:=Jx I1 r1 ty;refine⟨T,id,pa,slot,hty,h1,h2,?_⟩;have hA:=ha cpos ac s1 σ H1 _ I1 q1;rw[hs]at hA⊢;refine Calls.callWith_builtin (by show(false||(backTo cpos (starEach es X.env)).any (·.1))=false;rw[hplain]<;>rfl) (Calls.evalArgs_plain ?_);exact bJ hA λus s2 ⟨vs,H2,I2,r2,q2⟩=>hm ac s2 σ H2 x vs v us Q I2 r1 r2 q2
end
def PD(X:Cx)(id:String)(r:V->List V->Hp->VK->Prop):Prop :=
 ∀(ac:List (Addr×Obj))(s:Shared)(σ:St)(H:Hp)(x:V)(xs:List V)(v:Value)(us:List Value)(Q:VK),Inv X ac σ H s->RelV x v->Vals xs us->r x xs H Q->
  wpAny (model X.prog X.w) X.A (call (.builtin id) (v::us)) (EP X ac σ Q) X.xe s
theorem Vals.one{x:V}{us:List Value}(h:Vals [x] us):∃u,us=[u]/\RelV x u:=by
 cases h with
 |cons r t=>cases t;exact⟨_,rfl,r⟩
theorem Vals.eraseIdx:∀{xs:List V}{us:List Value}(i:Nat),Vals xs us->Vals (xs.eraseIdx i) (us.eraseIdx i)
 |_,_,_,.nil=>.nil
 |_,_,0,.cons _ t=>t
 |_,_,i+1,.cons r t=>.cons r (Vals.eraseIdx i t)
theorem rD{α:Type}:∀(l:List α)(i:Nat),(l.eraseIdx i).length<=l.length
 |[],_=>TU _
 |_::_,0=>Nat.le_succ _
 |_::r,i+1=>Nat.succ_le_succ (rD r i)
section
variable{X:Cx}{ac:List (Addr×Obj)}{σ:St}{H:Hp}{s:Shared}{l b:Addr}{xs ys zs:List V}
theorem Inv.MM{its its':List Value}{n:Nat}{f:Array Value->Array Value}{t':Nat}(I:Inv X ac σ H s)(hH:H l=some (.lst xs))
  (e:s.heap.get? l=some {cls:=.type "list",data:=.seq its.toArray n}) (hf:f its.toArray=its'.toArray) (hv:Vals ys its') (hz:ys.length<=sizeLine) :
  Inv X ac σ (upd H l (.lst ys)) {s with heap:=s.heap.update l (Obj.mapSeq f),toks:=t'}:=by
 have q:=PySem.IsL.update e f;rw[hf]at q;refine I.write (x:=l) (e:=l) (by rw[hH];exact trivial) (.inl rfl) (λb' u hb hu=>(Heap.get?_update_other s.heap (Obj.mapSeq f) (Ne.symm hb)).trans hu) ⟨_,q⟩ ?_;exact⟨hz,its',_,hv,q⟩
theorem Inv.OX{its:List Value}{t':Nat}(I:Inv X ac σ H s)(hv:Vals ys its)(hz:ys.length<=sizeLine) :
  Inv X ac σ (upd H s.heap.objs.size (.lst ys)) {s with heap:=s.heap.push {cls:=.type "list",data:=.seq its.toArray},toks:=t'} :=
 I.laid (λ_ _ q=>TN _ q) (TU _) ⟨hz,its,0,hv,TR _ rfl⟩
theorem Inv.fresh(I:Inv X ac σ H s):H s.heap.objs.size=none:=I.hok.fresh (TU _)
theorem Inv.EL(I:Inv X ac σ H s)(hH:H l=some (.lst xs)):xs.length<=sizeLine/\∃(its:List Value)(n:Nat),Vals xs its/\xs.length=its.length/\s.heap.get? l=some {cls:=.type "list",data:=.seq its.toArray n}:=by obtain⟨z,its,n,r,e⟩:=I.hok l _ hH;exact⟨z,its,n,r,r.length,e⟩
end
section
variable{X:Cx}
def oQ:V->List V->Hp->VK->Prop:=λx vs H Q=>∃l xs y,x=.ref l/\vs=[y]/\H l=some (.lst xs)/\xs.length<sizeLine/\Q .non (upd H l (.lst (xs++[y])))
theorem cw:PD X "list.append" oQ:=by intro ac s σ H x vs v us Q I rx rv h;obtain⟨l,xs,y,rfl,rfl,hH,hz,q⟩:=h;cases rx;obtain⟨u,rfl,ru⟩:=rv.one;obtain⟨z,its,n,r,hl,e⟩:=I.EL hH;refine call_meets F.slot_list_append ⟨_,e,rfl⟩ F.entry_list_append (F.args_list_append_2 _ _) (PySem.list_append l its.toArray n u (by rw[Ue];omega)) ⟨e,?_⟩;refine⟨.non,_,I.MM (its':=its++[u]) hH e (by simp) (r.append (.cons ru .nil)) ?_,rfl,q⟩;rw[T1,List.length_singleton];omega
def IY:V->List V->Hp->VK->Prop:=λx vs H Q=>∃l xs i k y,x=.ref l/\vs=[.int i]/\H l=some (.lst xs)/\-(2 ^ 63)<=i/\i<2 ^ 63/\seqIndex? i xs.length=some k/\xs[k]? = some y/\Q y (upd H l (.lst (xs.eraseIdx k)))
theorem CA:PD X "list.pop" IY:=by
 intro ac s σ H x vs v us Q I rx rv h;obtain⟨l,xs,i,k,y,rfl,rfl,hH,h1,h2,hk,hy,q⟩:=h;cases rx;obtain⟨u,rfl,ru⟩:=rv.one;obtain⟨t,rfl⟩:=ru;obtain⟨z,its,n,r,hl,e⟩:=I.EL hH;obtain⟨w,hw,ow⟩:=r.get hy;refine call_meets F.slot_list_pop ⟨_,e,rfl⟩ F.entry_list_pop (F.args_list_pop_2 _ _)
  (MeetsSeq.list_pop_at l its.toArray n i t k w (fitsIndex_both h1 h2) (by rw[Ue,←hl];exact hk) (by rw[←Array.getElem?_toList];exact hw) (by rw[Ue];omega)) ⟨e,?_⟩
 refine⟨y,_,I.MM (its':=its.eraseIdx k) hH e ?_ (r.eraseIdx k) ?_,ow,q⟩
 ·show its.toArray.eraseIdxIfInBounds k=(its.eraseIdx k).toArray;rw[List.eraseIdxIfInBounds_toArray]
 ·have:=rD xs k;omega
def Lo:R2:=λx y H Q=>∃l b xs zs,x=.ref l/\y=.ref b/\H l=some (.lst xs)/\H b=some (.lst zs)/\xs.length+zs.length<=sizeLine/\∀p,H p=none->Q (.ref p) (upd H p (.lst (xs++zs)))
theorem pA:jl X (binaryOp .Add) Lo:=by
 intro ac s σ H x y v u Q I rx ry h;obtain⟨l,b,xs,zs,rfl,rfl,hH,hB,hz,q⟩:=h;cases rx;cases ry;obtain⟨z,its,n,r,hl,e⟩:=I.EL hH;obtain⟨z2,its2,n2,r2,hl2,e2⟩:=I.EL hB;refine PySem.P.add_list e e2 ?_ (by rw[Ue,Ue];omega);have ea:its.toArray++its2.toArray=(its++its2).toArray:=by simp
 rw[ea];exact⟨.ref _,_,I.OX (t':=s.toks) (r.append r2) (by rw[T1];omega),rfl,q _ I.fresh⟩
end
end L2
namespace Att
open PySem PySem.W PySem.Calls PyProof.Rows
theorem oO{P:Params}{h:Heap}:∀(ns:List Int)(vs:List Value),WellAll P h vs (ns.map WData.int)->IntsAre vs ns:=by
 intro ns;induction ns with
 |nil =>intro vs w;rw[List.map_nil]at w;cases w;exact .nil
 |cons n ns ih =>
  intro vs w;rw[UR]at w;cases w with
  |cons a b =>cases a;exact .cons _ _ (ih _ b)
theorem Ao{l:OpenLaw}{n:Nat}(hn:l.most=some n){P:Params}{h:Heap}{args:List WData}{vals:List Value}
  (hpre:l.row.toRowW.claim.pre args=true) (hwl:WellAll P h vals args) :
  ∃a vs ns,vals=[Value.ref a]/\args=[WData.list (ns.map WData.int)]/\h.get? a=some {cls:=.type "list",data:=.seq vs.toArray}/\IntsAre vs ns/\ns.length<=n:=by
 have hsh:WShape.hasAll [] args [.list .int]=true:=(pre_splitW hpre).1;have hc:l.pre.holds [] {args:=args}=true:=(pre_splitW hpre).2;obtain⟨d,r,rfl,h1,h2⟩:=hasAllW_cons hsh;obtain rfl:=hasAllW_nil h2;obtain⟨xs,rfl,h3⟩:=hasW_list h1;obtain⟨ns,rfl⟩:=items_int h3;have hlen:ns.length<=n:=by
  unfold OpenLaw.pre at hc;have h4:(WTm.not (.lt (.lit (.int (n:Int))) (.len (.arg 0)))).holds [] {args:=[.list (ns.map .int)]}=true:=by have h4:=(holds_andW hc).1;rw[hn]at h4;exact h4
  have h5:=condW_of h4 (w_not (w_lt w_lit (w_len_list (w_arg rfl))));rw[TZ]at h5;refine Nat.le_of_not_lt λq=>?_;have q':(n:Int)<((ns.length:Nat):Int):=by omega
  first
   | (rw[TY q']at h5;exact UC h5 (by decide))
   | (simp at h5;omega)
 cases hwl with
 |cons w1 w2 =>
  cases w2;cases w1 with
  |list ho hall=>exact⟨_,_,ns,rfl,rfl,ho,oO ns _ hall,hlen⟩
theorem zv(l:OpenLaw)(args:List WData):l.row.toRowW.claim.post args (.bool true) args=true :=
 postW_of (r:=l.row.toRowW) (X:=(true==true))
  (show WShape.has [] (.bool true) .bool=true by first|rfl|decide|simp[WShape.has,WShape.arms,WShape.armsAll])
  (show(WTm.eq .res (.lit (.bool true))).value [] {args:=args,res:=some (.bool true),after:=args}=some (.bool (true==true)) from w_eq_bool (w_res rfl) w_lit) rfl
theorem vR{l:OpenLaw}{n:Nat}{q:Program}{loose:List Str}{XP:(Str->Option Value)->Heap->Prop}{YP:World->Heap->Prop}{d:DefRec}
  (hn:l.most=some n) (hdf:d.params.defaults=[])
  (call:∀(w:World)(s₀ s₁:Shared)(mg mb:Str->Option Value)(fa:Addr)(o:Obj)(pm cd doc:Value)(a:Addr)(vs:List Value)(ns:List Int),
   Ground q loose [] XP w s₀ mg mb s₁.heap->YP w s₁.heap->
   s₁.heap.get? fa=some o->o.data=.func (docDef d.name d.params d.body d.scope pm cd doc)->s₁.heap.CodeRec cd d.name->mg d.name=some (.ref fa)->
   s₁.heap.get? a=some {cls:=.type "list",data:=.seq vs.toArray}->IntsAre vs ns->ns.length<=n->s₁.gens = #[]->
   codeAny (model l.prog w) callerA (.call (.ref fa) ⟨[.ref a],[]⟩) (λr s'=>r=.ok (.ret (.bool true))/\OldK s₁.heap s'.heap/\s'.os=s₁.os/\AllBare s'.gens) s₁) :
  WalkO q loose XP YP l.row.toRowW d [] (λf vs=>PySem.call f vs):=by
 intro w s₀ s₁ mg mb G Y fa o pm cd doc dV kV ho hd hcd hD hmg hg args vals as hpre hlay hrd hwl hlo;obtain rfl:dV=.none:=Dflts.none hD hdf;obtain rfl:kV=.none:=Dflts.noKw hD;obtain⟨a,vs,ns,rfl,rfl,hobj,hints,hlen⟩:=Ao hn hpre hwl;refine enter_call (codeAny_mono (call w s₀ s₁ mg mb fa o pm cd doc a vs ns G Y ho (fd_plain hd) hcd hmg hobj hints hlen hg) λr s' hq=>?_);obtain⟨rfl,h2,h3,h4⟩:=hq;exact⟨.inl ⟨.bool true,.bool true,[],rfl,λ_=>rfl,.bool true,zv l _,λ_=>⟨List.Pairwise.nil,λ_ hm=>(nomatch hm)⟩⟩,h2,h3,h4⟩
end Att
namespace L2
open PySem PySem.Spec PyProof.Rows
theorem Ag{vs:List Value}{ns:List Int}(h:IntsAre vs ns):Vals (ns.map V.int) vs:=by
 induction h with
 |nil=>exact .nil
 |cons n t h ih=>exact .cons ⟨t,rfl⟩ ih
def Only(H:Hp):Prop:=∀b,H b=none\/∃o xs,H b=some (.xI o (.lst xs))
theorem B0{P:Program}{w:World}{K:UX}{mg mb:Str->Option Value}{CX:rb}{k:Nat}{fa a:Addr}{fd:FuncData}{x:Str}{sp:Sp}{s₁:Shared}{vs:List Value}{ns:List Int}
  (KX:K.In s₁.heap) (hns:s₁.heap.Ns mainGlobals mg) (hb:s₁.heap.Ns builtinsNs mb) (hbb:∀x:Str,x≠"__name__"->mb x=bootBuiltins x) (hlim:s₁.heap.NoLimit) (hg:s₁.gens = #[])
  (ha:s₁.heap.get? a=some {cls:=.type "list",data:=.seq vs.toArray}) (hi:IntsAre vs ns) (hl:ns.length<=sizeLine) (hr:dH k callerA)
  (F:∀base:Heap,K.In base->base.Ns mainGlobals mg->e7 P w K mg base CX k fa fd [x] sp) (hbind:∀(s:Shared)(u:Value),BindsTo s fd ⟨[u],[]⟩ [(x,u)])
  (hsp:∀H:Hp,Only H->bj K H a (ns.map V.int)->sp [.ref a] H (λv _=>v=.bl true) λ_ _ _=>False)
  (Of:∀H e s',CX [] H s₁ (λ_ _ _=>False) e s'->False) :
  codeAny (model P w) callerA (.call (.ref fa) ⟨[.ref a],[]⟩) (λr s'=>r=.ok (.ret (.bool true))/\OldK s₁.heap s'.heap/\s'.os=s₁.os/\AllBare s'.gens) s₁:=by
 have rv:=Ag hi;have lenV:=hi.length;have core:∀H:Hp,Only H->bj K H a (ns.map V.int)->jq P w H s₁.heap->(∀b,H b≠none->b=a)->(H a≠none->K.lookup a=none)->
   codeAny (model P w) callerA (.call (.ref fa) ⟨[.ref a],[]⟩) (λr s'=>r=.ok (.ret (.bool true))/\OldK s₁.heap s'.heap/\s'.os=s₁.os/\AllBare s'.gens) s₁:=by
  intro H hO hS hok hA hK;have y9:∀{b:Addr}{o:Obj},s₁.heap.get? b=some o->H b=none->(tD s₁.heap H).get? b=some o:=λe n=>Bs e n;have KD:∀{b:Addr}{o:Obj}{es:Array DictEntry}{ep:Nat},s₁.heap.get? b=some o->o.data=.dict es ep->H b=none:=λ{b o es ep} e d=>by
   cases q:H b with
   |none=>rfl
   |some u =>have e':b=a:=hA b (by rw[q];simp);subst e';rw[ha]at e;cases e;have d':Data.seq vs.toArray _=Data.dict es ep:=d;cases d'
  have M5:∀{b:Addr}{m:Str->Option Value},s₁.heap.Ns b m->(tD s₁.heap H).Ns b m:=λ{b m} ⟨o,es,ep,e,d,r⟩=>⟨o,es,ep,y9 e (KD e d),d,r⟩;have O9:K.In (tD s₁.heap H):=λb o e=>y9 (KX b o e) (by
   cases q:H b with
   |none=>rfl
   |some u =>have e':b=a:=hA b (by rw[q];simp);subst e';rw[hK (by rw[q];simp)]at e;cases e)
  have hM:Mod K mg (tD s₁.heap H):=⟨O9,M5 hns,⟨mb,M5 hb,hbb⟩,let ⟨mc,h1,h2⟩:=hlim;⟨mc,M5 h1,h2⟩⟩;have e0:sX P w K mg (tD s₁.heap H) callerA [] s₁ H:=⟨rfl,hM,λb o e=>Ey e,UP (AV _ _),trivial,λb hb=>UC (show b∈([]:List Addr) from hb) (by simp),hok,.of_eq hg⟩;refine codeAny_mono ((F _ O9 (M5 hns)).run callerA [] s₁ H ⟨[.ref a],[]⟩ [.ref a] [.ref a] _ _ hr e0 (hbind s₁ (.ref a)) (.cons rfl .nil) (hsp H hO hS)) λr s' h=>?_;cases r with
  |error e=>exact(Of H e s' h).elim
  |ok fl =>
   cases fl with
   |next=>exact UJ h
   |brk=>exact UJ h
   |cont=>exact UJ h
   |ret u =>
    obtain⟨v,H',os,bare,un,hok',r',q⟩:=h;have q':v=.bl true:=q;subst q';obtain rfl:u=Value.bool true:=r';refine⟨rfl,OldK.of_keep λb o e=>?_,os,bare⟩;cases q:H b with
    |none=>exact un.keep b o e q (by intro z;exact UC (show b∈([]:List Addr) from z) (by simp)) (by simp)
    |some u =>
     rcases hO b with z|⟨ob,xs,z⟩
     ·rw[q]at z;cases z
     ·have z2:=un.qa b ob _ z;obtain⟨e1,_⟩:=hok b _ z;obtain⟨e2,_⟩:=hok' b _ z2;rw[e]at e1;cases e1;exact e2
 cases hk:K.lookup a with
 |some o =>have e:=KX a o hk;rw[ha]at e;cases e;refine core (λ_=>none) (λ_=>.inl rfl) (.inr ⟨_,vs.toArray,_,hk,rfl,rfl,rfl,by rw[Ue,lenV];exact hl,by simpa using rv⟩) (λb u z=>by have z':(none:Option HO)=some u:=z;cases z') (λb z=>UC rfl z) λz=>UC rfl z
 |none =>
  refine core (λb=>if b=a then some (.xI {cls:=.type "list",data:=.seq vs.toArray} (.lst (ns.map V.int)))else none) (λb=>?_) (.inl (.inr ⟨{cls:=.type "list",data:=.seq vs.toArray},UE rfl⟩)) (λb u z=>?_) (λb z=>?_) λ_=>hk
  ·by_cases hb:b=a
   ·exact .inr ⟨_,_,UE hb⟩
   ·exact .inl (UD hb)
  ·by_cases hb:b=a
   ·have z':=(UE hb).symm.trans z;cases z';subst hb;exact⟨ha,by rw[TZ];exact hl,vs,_,rv,ha⟩
   ·have z':=(UD hb).symm.trans z;cases z'
  ·by_cases hb:b=a
   ·exact hb
   ·exact UC (UD hb) z
theorem En{l:PySem.W.OpenLaw}{n k:Nat}{q:Program}{loose:List Str}{XP:(Str->Option Value)->Heap->Prop}{YP:World->Heap->Prop}{d:DefRec}{K:Params->UX}{CX:World->rb}{sp:World->Sp}{x:Str}
  (hn:l.most=some n) (hn2:n<=sizeLine) (hdf:d.params.defaults=[]) (hr:dH k callerA)
  (hY:∀(w:World)(h:Heap),YP w h->(K w.params).In h)
  (F:∀(w:World)(mg:Str->Option Value)(fa:Addr)(h:Heap),(K w.params).In h->h.Ns mainGlobals mg->mg d.name=some (.ref fa)->
   ∃fd:FuncData,(∀(s:Shared)(u:Value),BindsTo s fd ⟨[u],[]⟩ [(x,u)])/\
    ∀base:Heap,(K w.params).In base->base.Ns mainGlobals mg->e7 l.prog w (K w.params) mg base (CX w) k fa fd [x] (sp w))
  (hsp:∀(w:World)(H:Hp)(a:Addr)(ns:List Int),ns.length<=n->Only H->bj (K w.params) H a (ns.map V.int)->sp w [.ref a] H (λv _=>v=.bl true) λ_ _ _=>False)
  (Of:∀(w:World)(H:Hp)(s:Shared)(e:Value)(s':Shared),CX w [] H s (λ_ _ _=>False) e s'->False) :
  PySem.W.WalkO q loose XP YP l.row.toRowW d [] (λf vs=>PySem.call f vs):=by
 refine Att.vR hn hdf λw s₀ s₁ mg mb fa o pm cd doc a vs ns G Y ho hd hcd hmg hobj hints hlen hg=>?_;have KX:=hY w _ Y;obtain⟨fd,hb,hF⟩:=F w mg fa _ KX G.T.g hmg;exact B0 KX G.T.g G.T.b G.T.builtins G.T.nolimit hg hobj hints (TV hlen hn2) hr hF hb (λH hO hS=>hsp w H a ns hlen hO hS) λH e s'=>Of w H s₁ e s'
def dk(s:Stmt):Arguments:=match s with
 | .FunctionDef _ a _ _ _ _ _ _ _ _=>a
 |_=>{posonlyargs:=[],args:=[],vararg:=none,kwonlyargs:=[],kw_defaults:=[],kwarg:=none,defaults:=[]}
def cC(s:Stmt):List Stmt:=match s with
 | .FunctionDef _ _ b _ _ _ _ _ _ _=>b
 |_=>[]
def ao(s:Stmt):Scope:=match s with
 | .FunctionDef _ _ _ _ _ _ sc _ _ _=>sc
 |_=>{kind:=.function,names:=[],isGenerator:=false,isCoroutine:=false}
abbrev bx:rb:=λ_ _ _ _ _ _=>False
abbrev E0:XK:=λ_ _ _=>False
theorem rG{X:Cx}:Passes bx X E0:=λ_ _ _ _ _ _ _ h=>h.elim
structure Bb(K:UX)(x qual:Str)(st:Stmt)(f:Addr)(fd:FuncData):Prop where
 ex:∃(oc:Value)(od:Option Addr)(kV doc pm:Value)(an:Option Addr)(cdv ct:Value)(osl:Array (Option Value)),
  fd=PySem.W.fnOf x qual (dk st) (cC st) (ao st) .none kV doc pm an cdv ct/\K.lookup f=some ⟨oc,od,.func fd,osl⟩/\PySem.W.codeIn K cdv qual=true
 kp:PySem.W.keepIn K (.ref f)=true
section
variable{P:Program}{w:World}{K:UX}{mg:Str->Option Value}{base:Heap}
theorem Bb.ok{x qual:Str}{st:Stmt}{f:Addr}{fd:FuncData}{N ps:List Str}{k:Nat}{sp:Sp}(F:Bb K x qual st f fd)(S:av N ps (ao st))(len:∀vs H Q E,sp vs H Q E->vs.length=ps.length)
  (hbody:∀(cdv:Value)(A:Around)(outer:List Env)(s:Shared)(H:Hp)(vs:List V)(Q:VK)(E:XK),dH k (A.deeper (envOfC qual (ao st) s.heap.objs.size f cdv))->sp vs H Q E->
   ∃t,pb (oA bx P w K mg base N qual (ao st) f cdv A outer s H E).yC (cC st) t/\t {nx:=λ_ H'=>Q .non H',rt:=Q} (start N vs) H):e7 P w K mg base bx (k+1) f fd ps sp:=by
 obtain⟨oc,od,kV,doc,pm,an,cdv,ct,osl,rfl,lk,hcd⟩:=F.ex;refine Ho lk hcd S len λA outer s H vs Q E hr hsp=>?_;obtain⟨t,h,q⟩:=hbody cdv A outer s H vs Q E hr hsp;exact⟨t,h.yC,q⟩
theorem Bb.binds{x qual:Str}{st:Stmt}{f:Addr}{fd:FuncData}{ps:List Str}(F:Bb K x qual st f fd)
  (h:∀(kV doc pm:Value)(an:Option Addr)(cdv ct:Value)(us:List Value),us.length=ps.length->bindArgs (PySem.W.fnOf x qual (dk st) (cC st) (ao st) .none kV doc pm an cdv ct) ⟨us,[]⟩=pure (ps.zip us)):Binds K fd ps []:=by
 obtain⟨oc,od,kV,doc,pm,an,cdv,ct,osl,rfl,lk,hcd⟩:=F.ex;exact .all (h kV doc pm an cdv ct)
theorem wX{x qual:Str}{st:Stmt}{f:Addr}{oc:Value}{od an:Option Addr}{osl:Array (Option Value)}{kV doc pm cdv ct:Value}(l:K.lookup f=some ⟨oc,od,.func (PySem.W.fnOf x qual (dk st) (cC st) (ao st) .none kV doc pm an cdv ct),osl⟩)
  (c:PySem.W.codeIn K cdv qual=true) (k:PySem.W.keepIn K (.ref f)=true):Bb K x qual st f (PySem.W.fnOf x qual (dk st) (cC st) (ao st) .none kV doc pm an cdv ct):=⟨⟨oc,od,kV,doc,pm,an,cdv,ct,osl,rfl,l,c⟩,k⟩
end
theorem kS{A:Around}{k:Nat}(hr:dH k A):A.units+1<cLine:=T8 (Nat.add_le_add_left (by decide:1<=64) _) hr.units
section
variable{X:Cx}
theorem pv(i:Nat){x:Str}{pos:Pos}(hN:X.N[i]? = some x:=by rfl)(hv:NY X.env.scope x:=by first|exact UH rfl|exact Or.inr (UH rfl)|exact Or.inr (Or.inr rfl))(hd:(x==("__debug__" : Str))=false:=by decide)
  (hcd:(x==("__classdict__" : Str))=false:=by decide):PE X (.Name x pos) (bF i):=xM hN hv hd hcd
end
theorem cV{A B:Prop}(h:B):if false=true then A else B:=by rw[UD Ud];exact h
theorem dX{A B:Prop}(h:A):if true=true then A else B:=by rw[UE rfl];exact h
theorem fw{c A B:Prop} [Decidable c](h1:c->A)(h2:¬c->B):if c then A else B:=by
 by_cases h:c
 ·rw[UE h];exact h1 h
 ·rw[UD h];exact h2 h
def aG(H H':Hp):Prop:=∀b o,H b=some o->H' b=some o
theorem aG.refl(H:Hp):aG H H:=λ_ _ h=>h
theorem aG.trans{H H1 H2:Hp}(a:aG H H1)(b:aG H1 H2):aG H H2:=λc o h=>b c o (a c o h)
def bq(cells:List (Str×Addr)):List (Str×NameKind)->List (Str×Addr)->List (Str×Addr)
 |[],acc=>acc
 | (n,k)::r,acc=>bq cells r (if(k==NameKind.free)=true then(n,(cells.lookup n).getD 0)::acc else acc)
theorem rO{cells:List (Str×Addr)}{x:Str}{c:Addr}:∀{ns:List (Str×NameKind)}{acc:List (Str×Addr)},(x,c)∈bq cells ns acc->((x,NameKind.free)∈ns/\c=(cells.lookup x).getD 0)\/(x,c)∈acc
 |[],_,h=>.inr h
 | (n,k)::r,acc,h=>by
  have q:=rO (ns:=r) h;rcases q with⟨q1,q2⟩|q
  ·exact .inl ⟨Uc _ q1,q2⟩
  ·by_cases hk:(k==NameKind.free)=true
   ·rw[UE hk]at q;have ek:k=NameKind.free:=by simpa using hk
    rcases Uj.mp q with e|q
    ·cases e;subst ek;exact .inl ⟨Uy,rfl⟩
    ·exact .inr q
   ·rw[UD hk]at q;exact .inr q
theorem r6{cells:List (Str×Addr)}{p:Str×Addr}:∀{ns:List (Str×NameKind)}{acc:List (Str×Addr)},p∈acc->p∈bq cells ns acc
 |[],_,h=>h
 | (n,k)::r,acc,h=>by
  refine r6 (ns:=r) ?_;split
  ·exact Uc _ h
  ·exact h
theorem rW{cells:List (Str×Addr)}{x:Str}:∀{ns:List (Str×NameKind)}{acc:List (Str×Addr)},(x,NameKind.free)∈ns->(x,(cells.lookup x).getD 0)∈bq cells ns acc
 | (n,k)::r,acc,h=>by
  rcases Uj.mp h with e|h
  ·cases e;refine r6 (ns:=r) ?_;rw[UE (by rfl)];exact Uy
  ·exact rW (ns:=r) h
theorem la{x:Str}{c:Addr}:∀{l:List (Str×Addr)},(x,c)∈l->∃c',l.lookup x=some c'
 | (n,d)::r,h=>by
  rw[UQ];cases e:x==n with
  |true=>exact⟨d,rfl⟩
  |false =>
   rcases Uj.mp h with q|q
   ·cases q;simp at e
   ·exact la q
theorem rP{env:Env}(f:(Str×NameKind)->List (Str×Addr)->Sem (ForInStep (List (Str×Addr))))(hf1:∀n acc c,env.cells.lookup n=some c->f (n,.free) acc=pure (.yield ((n,c)::acc)))
  (hf2:∀n k acc,(k==NameKind.free)=false->f (n,k) acc=pure (.yield acc)):∀(ns:List (Str×NameKind))(acc:List (Str×Addr)),(∀y∈ns,y.2=.free->∃c,env.cells.lookup y.1=some c)->forIn ns acc f=pure (bq env.cells ns acc)
 |[],_,_=>rfl
 | (n,k)::r,acc,h=>by
  have ih:=λacc'=>rP f hf1 hf2 r acc' λy hy=>h y (Uc _ hy);rw[List.forIn_cons];cases hk:k==NameKind.free with
  |true =>
   have ek:k=NameKind.free:=by simpa using hk
   subst ek;obtain⟨c,e⟩:=h (n,.free) Uy rfl;have e':env.cells.lookup n=some c:=e;rw[hf1 n acc c e];show forIn r ((n,c)::acc) f=_;rw[ih];show _=pure (bq env.cells r (if(NameKind.free==NameKind.free)=true then(n,(env.cells.lookup n).getD 0)::acc else acc));rw[UE (by rfl),e'];rfl
  |false =>rw[hf2 n k acc hk];show forIn r acc f=_;rw[ih];show _=pure (bq env.cells r (if(k==NameKind.free)=true then(n,(env.cells.lookup n).getD 0)::acc else acc));rw[UD (by rw[hk];decide)]
theorem cB{scope:Scope}{env:Env}(h:∀y∈scope.names,y.2=.free->∃c,env.cells.lookup y.1=some c):closureFor scope env=pure (bq env.cells scope.names []):=by
 unfold closureFor;show(forIn scope.names [] _ >>= _)=_;rw[rP (env:=env) _ ?_ ?_ scope.names [] h]
 ·rfl
 ·intro n acc c e;show(if(NameKind.free==NameKind.free)=true then _ else _)=_;rw[UE (by rfl)];unfold cellOf;rw[e];first|rfl|skip
 ·intro n k acc hk;show(if(k==NameKind.free)=true then _ else _)=_;rw[UD (by rw[hk];decide)]
abbrev aD(X:Cx)(N':List Str)(sc:Scope)(cl:List (Str×Addr))(C:Addr)(s:Shared)(H:Hp)(fp:List Addr):Cx :=
 {X with N:=N',s₀:=s,H₀:=H,env:=compEnvC sc cl C X.env,outer:=X.stack,stack:=X.stack,ex:=fp,fn:=λx=>sc.names.lookup x==some NameKind.local,pn:=[],xe:=λ_ _=>False}
structure bh(Ed:Scope)(ON N':List Str)(src:List (Option Nat))(sc:Scope):Prop where
 kind:sc.kind=.function
 Ql:Ed.kind=.function
 uniq:∀y∈sc.names,sc.names.lookup y.1=some y.2
 nH:∀y∈sc.names,y.2≠ .cell
 free:∀y∈sc.names,y.2=.free->Ed.names.lookup y.1=some .cell\/Ed.names.lookup y.1=some .free
 len:src.length=N'.length
 src:∀(i:Nat)(x:Str)(j:Nat),N'[i]? = some x->src[i]? = some (some j)->ON[j]? = some x/\sc.names.lookup x=some .free
def iW(src:List (Option Nat))(σ:St):St:=src.map λo=>o.bind λj=>(σ[j]?).bind id
theorem Cr{src:List (Option Nat)}{σ:St}{i:Nat}{v:V}(h:(iW src σ)[i]? = some (some v)):∃j,src[i]? = some (some j)/\σ[j]? = some (some v):=by
 unfold iW at h;rw[Us]at h;cases e:src[i]? with
 |none=>rw[e]at h;cases h
 |some o =>
  rw[e]at h;cases o with
  |none=>cases h
  |some j =>
   have h':(σ[j]?).bind id=some v:=Up h;cases e2:σ[j]? with
   |none=>rw[e2]at h';cases h'
   |some w =>rw[e2]at h';have h'':w=some v:=h';exact⟨j,rfl,by rw[e2,h'']⟩
def iF(X:Cx)(ifs:List Expr)(t:TT):Prop :=
 ∀(ac:List (Addr×Obj))(s:Shared)(σ:St)(H:Hp)(Q:Bool->Hp->Prop),Inv X ac σ H s->t σ H Q->
  wpAny (model X.prog X.w) X.A (forIn ifs true λc r=>if r=true then do let ok←isTrue c X.env (eval c X.env);pure (ForInStep.yield ok)else pure (ForInStep.yield r)) (TP X ac σ Q) X.xe s
def Bj:TT:=λ_ H Q=>Q true H
theorem bp{X:Cx}:iF X [] Bj:=λ_ _ _ H _ I h=>wpAny_tests_nil ⟨H,I,h⟩
theorem iN{X:Cx}{c:Expr}{t:TT}(h:PT X c t):iF X [c] t:=λac s σ H Q I q=>wpAny_tests_one (h ac s σ H Q I q)
def oi(J:It)(g:TG)(tc:TT)(te:TE)(D:Addr)(Q:VK)(W:Nat->Nat->St->List V->Hp->Prop):Prop :=
 ∀i m σ ys H,W i m σ ys H->H D=some (.lst ys)/\((J.stop i H/\Q (.ref D) H)\/(J.go i H/\ys.length<sizeLine/\∃N:St->List V->Hp->Prop,(∀σ' ys' H',N σ' ys' H'->∃m',m'<m/\W (i+1) m' σ' ys' H')/\
  ∀x H',J.Ci i H x H'->g x σ H' λcD H2=>tc cD H2 λb H3 =>
   if b=true then te cD H3 λv H4=>H4 D=some (.lst ys)/\N cD (ys++[v]) (upd H4 D (.lst (ys++[v])))else N cD ys H3))
def D8(src:List (Option Nat))(wi:TI)(g:TG)(tc:TT)(te:TE):TE:=λσ H Q=>wi σ H λJ H1=>∀D,H1 D=none->
 ∃W:Nat->Nat->St->List V->Hp->Prop,(∃m,W 0 m (iW src σ) [] (upd H1 D (.lst [])))/\oi J g tc te D Q W
section
variable{X:Cx}{elt target iter:Expr}{ifs:List Expr}{sc:Scope}{pos:Pos}{wi:TI}{g:TG}{tc:TT}{te:TE}{N':List Str}{src:List (Option Nat)}
theorem Ab{it acc:Value}{env:Env}{prog:Program}{w:World}{A:Around}{s:Shared}{R:Result->Shared->Prop}(Iv:Nat->Shared->Prop)
  (turn:∀n s,Iv n s->wpAny (model prog w) A (pyNext it) (λr s₁=>match r with
   |none=>R (.ok .next) s₁
   |some v=>wpAny (model prog w) A (letOwnedTupleGo target it v) (λ_ s₁'=>wpAny (model prog w) A (assign target env v) (λ_ s₂ =>
     wpAny (model prog w) A (forIn ifs true λc r=>if r=true then do let ok←isTrue c env (eval c env);pure (ForInStep.yield ok)else pure (ForInStep.yield r)) (λok s₃ =>
      if ok=true then wpAny (model prog w) A (eval elt env) (λx s₄ =>
       wpAny (model prog w) A (call (.builtin "list.append") [acc,x]) (λ_ s₅=>∃m,m<n/\Iv m s₅) (λ_ _=>False) s₄) (λ_ _=>False) s₃
      else∃m,m<n/\Iv m s₃) (λ_ _=>False) s₂) (λ_ _=>False) s₁') (λ_ _=>False) s₁) (λ_ _=>False) s)
  (n:Nat) (h:Iv n s) :
  codeAny (model prog w) A (.compLoop (.ListComp elt [⟨target,iter,ifs,0⟩] sc pos) 0 it acc env) R s:=by
 refine codeAny_loop rfl Iv (λn s hI=>?_) n h;show wpAny _ A ((compTurn (.ListComp elt [⟨target,iter,ifs,0⟩] sc pos) 0 it acc env).onRaise (λx=>do noteFrame x env;theTreesLotGoes x)) _ _ s;refine wpAny_noted ?_;rw[compTurn_list];refine TK (wpAny_standAt (TK (Uv (turn n s hI) (λr s₁ h₁=>?_) λ_ _ h'=>h'.elim)));cases r with
 |none=>exact TM h₁
 |some v =>
  refine TK (Uv h₁ (λ_ s₁' h₁'=>TK (Uv h₁' (λ_ s₂ h₂=>TK (Uv h₂ (λok s₃ h₃=>?_) λ_ _ h'=>h'.elim)) λ_ _ h'=>h'.elim)) λ_ _ h'=>h'.elim);cases ok with
  |false=>exact TM ⟨rfl,h₃⟩
  |true =>exact TK (TK (Uv h₃ (λx s₄ h₄=>TK (Uv h₄ (λ_ s₅ h₅=>TM (TM ⟨rfl,h₅⟩)) λ_ _ h'=>h'.elim)) λ_ _ h'=>h'.elim))
theorem gy{ac:List (Addr×Obj)}{σ:St}{H:Hp}{s:Shared}{h1:Heap}{fp:List Addr}(S:bh X.env.scope X.N N' src sc)(I:Inv X ac σ H s)(f2:∀b∈fp,cS X ac H b)(o2:∀b∈fp,b<s.heap.objs.size)
  (ns:h1.Ns s.heap.objs.size λx=>(([]:List (Str×Value)).reverse.lookup x)) (sb:Heap.SameBut s.heap.objs.size (s.heap.push {cls:=.type "dict",data:=.dict #[]}) h1) {tk:Nat} :
  Inv (aD X N' sc (bq X.env.cells sc.names []) s.heap.objs.size s H fp) [] (iW src σ) H {s with heap:=h1,toks:=tk}:=by
 have old:∀b o,s.heap.get? b=some o->h1.get? b=some o:=λb o e=>(sb.2 b (Um (TQ e))).trans (TN _ e);have clo:∀x c,(bq X.env.cells sc.names []).lookup x=some c->X.env.cells.lookup x=some c/\sc.names.lookup x=some .free:=λx c e=>by
  rcases rO (mem_of_lookup e)with⟨m,q⟩|z
  ·obtain⟨c',e'⟩:=I.ok.has x (S.free _ m rfl);rw[e']at q;exact⟨by rw[e',q];rfl,S.uniq _ m⟩
  ·cases z
 have IE:∀x,sc.names.lookup x=some .free->∃c,(bq X.env.cells sc.names []).lookup x=some c:=λx e=>la (rW (mem_of_lookup e));have kinds:∀(x:Str)(k:NameKind),(relabel sc X.env).names.lookup x=some k->(k=.cell\/k=.free)->sc.names.lookup x=some .free:=λx k e hk=>by
  have gen:∀ns:List (Str×NameKind),(∀y∈ns,y.2≠ .cell)->(ns.map λ(n,k)=>if(k==NameKind.free&&X.env.scope.kind == .function&&X.env.kindOf n==some .cell)then(n,NameKind.cell)else(n,k)).lookup x=some k->ns.lookup x=some .free:=by
   intro ns;induction ns with
   |nil=>intro _ h;cases h
   |cons y r ih =>
    obtain⟨n,k1⟩:=y;intro hn h;rw[UR]at h;dsimp only at h;by_cases hc:(k1==NameKind.free&&X.env.scope.kind == .function&&X.env.kindOf n==some .cell)=true
    ·rw[UE hc,UQ]at h;rw[UQ];cases hx:x==n with
     |true =>
      have:k1=NameKind.free:=by
       cases hk1:k1==NameKind.free with
       |true=>simpa using hk1
       |false=>rw[hk1]at hc;simp at hc
      rw[this]
     |false=>rw[hx]at h;exact ih (λy hy=>hn y (Uc _ hy)) h
    ·rw[UD hc,UQ]at h;rw[UQ];cases hx:x==n with
     |true =>
      rw[hx]at h;have h':k1=k:=Up h;rcases hk with hk|hk
      ·exact UC (h'.trans hk) (hn (n,k1) Uy)
      ·show some k1=_;rw[h',hk]
     |false=>rw[hx]at h;exact ih (λy hy=>hn y (Uc _ hy)) h
  exact gen sc.names S.nH e
 have Mw:∀x,sc.names.lookup x=some .free->(relabel sc X.env).names.lookup x=some .cell\/(relabel sc X.env).names.lookup x=some .free:=λx e=>by
  have gen:∀ns:List (Str×NameKind),ns.lookup x=some .free->(ns.map λ(n,k)=>if(k==NameKind.free&&X.env.scope.kind == .function&&X.env.kindOf n==some .cell)then(n,NameKind.cell)else(n,k)).lookup x=some .cell\/
    (ns.map λ(n,k)=>if(k==NameKind.free&&X.env.scope.kind == .function&&X.env.kindOf n==some .cell)then(n,NameKind.cell)else(n,k)).lookup x=some .free:=by
   intro ns;induction ns with
   |nil=>intro h;cases h
   |cons y r ih =>
    obtain⟨n,k1⟩:=y;intro h;rw[UR];dsimp only;rw[UQ]at h;by_cases hc:(k1==NameKind.free&&X.env.scope.kind == .function&&X.env.kindOf n==some .cell)=true
    ·rw[UE hc,UQ];cases hx:x==n with
     |true=>exact .inl rfl
     |false=>rw[hx]at h;exact ih h
    ·rw[UD hc,UQ];cases hx:x==n with
     |true =>rw[hx]at h;exact .inr h
     |false=>rw[hx]at h;exact ih h
  exact gen sc.names e
 refine⟨⟨I.mod,?_,I.ok.glob,I.ok.blt,TU _,λx y c h1 h2=>I.ok.inj x y c (clo x c h1).1 (clo y c h2).1,λx hx=>?_,λx c hf h=>?_,I.ok.hd,I.ok.frames,.inl rfl,λb hb=>⟨?_,λx c h=>?_⟩,I.bs,?_,λb o e hb=>?_,λb hb hs=>?_,I.stack,I.lU⟩,
  rfl,I.bare,Un.kept old,⟨_,ns,λi x v h1 h2 h3=>?_⟩,λx c h=>?_,I.hok.fresh (TU _),λx c h=>I.gE x c (clo x c h).1,λp hp=>UC (show p∈([]:List (Addr×Obj)) from hp) (by simp),I.hok.kept old,?_⟩
 ·show(relabel sc X.env).kind=.function;exact S.kind
 ·obtain hx|hx:=hx
  ·exact IE x (kinds x _ hx (.inl rfl))
  ·exact IE x (kinds x _ hx (.inr rfl))
 ·have e2:=(clo x c h).2;have hf':(sc.names.lookup x==some NameKind.local)=true:=hf;rw[e2]at hf';cases hf'
 ·exact Um (o2 b hb)
 ·exact(f2 b hb).2.2.2.2.1 x c (clo x c h).1
 ·exact TV I.ok.Au I.sz
 ·rcases(f2 b hb).2.2.2.1 with z|z
  ·exact I.ok.vj b o e z
  ·exact UC (T9 (TQ e) (TV I.ok.Au z)) (Nat.lt_irrefl _)
 ·rcases Uj.mp (I.yc b hs)with z|z
  ·exact(f2 b hb).2.1 z
  ·exact(f2 b hb).2.2.1 z
 ·obtain⟨j,e1,e2⟩:=Cr h2;obtain⟨e3,e4⟩:=S.src i x j h1 e1;obtain⟨m,hn,hl⟩:=I.loc;have kx:=S.free _ (mem_of_lookup e4) rfl;obtain⟨u,ru,l⟩:=hl j x v e3 e2 (.inr kx);refine⟨u,ru,.inr ⟨Mw x e4,?_⟩⟩;obtain⟨c,hc⟩:=IE x e4;refine⟨c,hc,?_⟩;have hc':=(clo x c hc).1;rcases l with⟨lk,_⟩|⟨_,c',lc,z⟩
  ·have Pz:X.env.scope.names.lookup x=some .local:=lk;rcases kx with q|q
   ·have q':X.env.scope.names.lookup x=some .cell:=q;rw[Pz]at q';cases q'
   ·have q':X.env.scope.names.lookup x=some .free:=q;rw[Pz]at q';cases q'
  ·rw[hc']at lc;cases lc;obtain⟨o,ho,hd⟩:=z;exact⟨o,old _ _ ho,hd⟩
 ·obtain⟨v,o,ho,hd⟩:=I.cell x c (clo x c h).1;exact⟨v,o,old _ _ ho,hd⟩
 ·show(iW src σ).length=N'.length;unfold iW;rw[TZ];exact S.len
theorem p_{ac:List (Addr×Obj)}{σ:St}{H2:Hp}{s2:Shared}{it:Addr}{fp:List Addr}{tn:Nat->Heap->Prop}{J:It}{Q:VK}{E:Value->Shared->Prop}{RR:Value->Addr->Result->Shared->Prop}
  (hc:X.calm=true) (S:bh X.env.scope X.N N' src sc)
  (hg:∀cl C s H fp,PG (aD X N' sc cl C s H fp) target g) (ht:∀cl C s H fp,iF (aD X N' sc cl C s H fp) ifs tc) (he:∀cl C s H fp,PE (aD X N' sc cl C s H fp) elt te)
  (I2:Inv X ac σ H2 s2) (T:Turn X.prog X.w X.K target J fp it tn) (st2:tn 0 s2.heap) (f2:∀b∈fp,cS X ac H2 b)
  (hW:∀D,H2 D=none->∃W:Nat->Nat->St->List V->Hp->Prop,(∃m,W 0 m (iW src σ) [] (upd H2 D (.lst [])))/\oi J g tc te D Q W)
  (hRR:∀D C s5 H' m,Inv X ac σ H' s5->s5.heap.Ns C m->cS X ac H' C->Q (.ref D) H'->RR (.ref D) C (.ok .next) s5) :
  wpAny (model X.prog X.w) X.A (newList []) (λacc s₃=>wpAny (model X.prog X.w) X.A (newFunctionEnv sc X.env.globals (bq X.env.cells sc.names []) [] X.env.qual none .none (some X.env)) (λcenv s₄ =>
   codeAny (model X.prog X.w) X.A (.compStart (.ListComp elt [⟨target,iter,ifs,0⟩] sc pos) 0 (.ref it) acc {cenv with scope:=relabel sc X.env}) (RR acc cenv.locals) s₄) E s₃) E s2:=by
 have o2:∀b∈fp,b<s2.heap.objs.size:=λb hb=>by obtain⟨o,e,_⟩:=T.obj 0 _ st2 b hb;exact TQ e
 refine Ux ?_;have EY:H2 s2.heap.objs.size=none:=I2.hok.fresh (TU _);obtain⟨W,⟨m0,w0⟩,turn⟩:=hW s2.heap.objs.size EY;have I3:Inv X ac σ (upd H2 s2.heap.objs.size (.lst [])) {s2 with heap:=s2.heap.push {cls:=.type "list",dict:=none,data:=.seq ([]:List Value).toArray}} :=
  I2.laid (t':=s2.toks) (λb u e=>TN _ e) (TU _) ⟨Uo _,[],0,.nil,TR _ rfl⟩
 have st3:tn 0 (s2.heap.push {cls:=.type "list",dict:=none,data:=.seq ([]:List Value).toArray}):=T.keep 0 _ _ st2 λb hb o e=>TN _ e;generalize hs3:({s2 with heap:=s2.heap.push {cls:=.type "list",dict:=none,data:=.seq ([]:List Value).toArray}}:Shared)=s3 at I3;have hh3:s3.heap=s2.heap.push {cls:=.type "list",dict:=none,data:=.seq ([]:List Value).toArray}:=by rw[←hs3]
 have Be:s2.heap.objs.size<s3.heap.objs.size:=by rw[hh3,Heap.size_push];exact Nat.lt_succ_self _
 have o3:∀b∈fp,b<s3.heap.objs.size:=λb hb=>Nat.lt_trans (o2 b hb) Be;have f3:∀b∈fp,cS X ac (upd H2 s2.heap.objs.size (.lst [])) b:=λb hb=>⟨by rw[aI (Um (o2 b hb))];exact(f2 b hb).1,(f2 b hb).2⟩;rw[←hh3]at st3;refine wpAny_newFunctionEnv S.nH (by intro y hy;simp at hy) (λh1 hns hsb=>?_) S.kind;have hsb':Heap.SameBut s3.heap.objs.size (s3.heap.push {cls:=.type "dict",data:=.dict #[]}) h1:=hsb;have I4:Inv (aD X N' sc (bq X.env.cells sc.names []) s3.heap.objs.size s3 (upd H2 s2.heap.objs.size (.lst [])) fp) [] (iW src σ) (upd H2 s2.heap.objs.size (.lst [])) {s3 with heap:=h1,toks:=s3.toks+([]:List (Str×Value)).length} :=
  gy S I3 f3 o3 hns hsb'
 have yX:tn 0 h1:=T.keep 0 _ _ st3 λb hb o e=>(hsb'.2 b (Um (o3 b hb))).trans (TN _ e);have fC:∀(H':Hp),H' s3.heap.objs.size=none->cS X ac H' s3.heap.objs.size:=λH' hn=>I3.nC (TU _) hn;have loop:codeAny (model X.prog X.w) X.A (.compLoop (.ListComp elt [⟨target,iter,ifs,0⟩] sc pos) 0 (.ref it) (.ref s2.heap.objs.size) (compEnvC sc (bq X.env.cells sc.names []) s3.heap.objs.size X.env))
   (RR (.ref s2.heap.objs.size) s3.heap.objs.size) {s3 with heap:=h1,toks:=s3.toks+([]:List (Str×Value)).length}:=by
  have stat:∀{H':Hp},(∀b∈fp,H' b=none)->∀b∈fp,cS (aD X N' sc (bq X.env.cells sc.names []) s3.heap.objs.size s3 (upd H2 s2.heap.objs.size (.lst [])) fp) [] H' b:=λhn b hb =>
   ⟨hn b hb,(I4.ok.xh b hb).1,I4.ok.oC b hb,.inl hb,(I4.ok.xh b hb).2,λp hp=>UC (show p∈([]:List (Addr×Obj)) from hp) (by simp)⟩
  refine Ab (λn s'=>∃i σ' ys H',Inv (aD X N' sc (bq X.env.cells sc.names []) s3.heap.objs.size s3 (upd H2 s2.heap.objs.size (.lst [])) fp) [] σ' H' s'/\tn i s'.heap/\(∀b∈fp,H' b=none)/\W i n σ' ys H') ?_ m0
   ⟨0,_,[],_,I4,yX,λb hb=>(f3 b hb).1,w0⟩
  rintro n s5 ⟨i,mj,ys,H5,I5,qN,sF,w5⟩;obtain⟨hD,alt⟩:=turn i n mj ys H5 w5;rcases alt with⟨stop,qn⟩|⟨go,hsz,N,hN,step⟩
  ·refine bJ (T.done (aD X N' sc (bq X.env.cells sc.names []) s3.heap.objs.size s3 (upd H2 s2.heap.objs.size (.lst [])) fp) rfl rfl rfl hc i [] s5 mj H5 _ I5 (stat sF) qN stop) λr s6 zz=>?_;obtain⟨hr,I6⟩:=zz;subst hr;obtain⟨m6,n6,_⟩:=id I6.loc;refine hRR _ _ s6 H5 m6 (I3.call' I6.os I6.base I6.hok I6.bare λb hb=>⟨(f3 b hb).2.2.2.1,(f3 b hb).2.1,(f3 b hb).2.2.2.2.1,(f3 b hb).2.2.2.2.2⟩) n6 (fC _ I6.free) qn
  ·refine bJ (T.item (aD X N' sc (bq X.env.cells sc.names []) s3.heap.objs.size s3 (upd H2 s2.heap.objs.size (.lst [])) fp) rfl rfl rfl hc i [] s5 mj H5 _ I5 (stat sF) qN go) λr s6 zz=>?_;obtain⟨u,hr,h6⟩:=zz;subst hr;refine bJ h6 λ_ s7 zz=>?_;obtain⟨x,H7,I7,r7,y7,pf,Dw⟩:=zz;have Bm:=I7.pinned (stat Dw) (T.obj _ _ pf);refine bJ (hg _ _ _ _ _ _ s7 mj H7 x u _ Bm r7 (step x H7 y7)) λ_ s8 zz=>?_;obtain⟨qD,H8,I8,q8⟩:=zz;refine bJ (ht _ _ _ _ _ _ s8 qD H8 _ I8 q8) λb s9 zz=>?_;obtain⟨H9,I9,q9⟩:=zz;have again:∀{σ':St}{H':Hp}{s':Shared}{ys':List V}{m':Nat},Inv (aD X N' sc (bq X.env.cells sc.names []) s3.heap.objs.size s3 (upd H2 s2.heap.objs.size (.lst [])) fp) ([]++jg fp s7.heap) σ' H' s'->m'<n->W (i+1) m' σ' ys' H'->
     ∃m,m<n/\∃i σ' ys H',Inv (aD X N' sc (bq X.env.cells sc.names []) s3.heap.objs.size s3 (upd H2 s2.heap.objs.size (.lst [])) fp) [] σ' H' s'/\tn i s'.heap/\(∀b∈fp,H' b=none)/\W i m σ' ys H':=λ{σ' H' s' ys' m'} I' hm w'=>by
    refine⟨m',hm,i+1,σ',ys',H',I'.fD,T.keep _ _ _ pf λb hb o e=>(I'.pin (b,o) (Ua _ (Ua _ (b9 hb e)))).1,λb hb=>?_,w'⟩;obtain⟨o,e,d⟩:=T.obj _ _ pf b hb;exact(I'.pin (b,o) (Ua _ (Ua _ (b9 hb e)))).2.1
   cases b with
   |false =>rw[UD Ud]at q9⊢;obtain⟨m',hm,w'⟩:=hN _ _ _ q9;exact again I9 hm w'
   |true =>rw[UE rfl]at q9⊢;refine bJ (he _ _ _ _ _ _ s9 qD H9 _ I9 q9) λxv qC zz=>?_;obtain⟨v,xJ,JV,r10,D0,w10⟩:=zz;obtain⟨m',hm,w'⟩:=hN _ _ _ w10;have IL:oQ (.ref s2.heap.objs.size) [v] xJ λ_ H'=>H'=upd xJ s2.heap.objs.size (.lst (ys++[v])):=⟨_,ys,v,rfl,rfl,D0,hsz,rfl⟩;refine bJ (cw _ qC qD xJ _ _ _ _ _ JV (show RelV (.ref s2.heap.objs.size) (.ref s2.heap.objs.size) from rfl) (.cons r10 .nil) IL) λ_ Ml zz=>?_;obtain⟨_,Gw,Eg,_,LP⟩:=zz;rw[LP]at Eg;exact again Eg hm w'
 exact codeAny_compStart_list loop (T.self _ 0 _ _ _ yX loop)
theorem bU(hc:X.calm=true)(S:bh X.env.scope X.N N' src sc)(hi:PI X target iter wi)
  (hg:∀cl C s H fp,PG (aD X N' sc cl C s H fp) target g) (ht:∀cl C s H fp,iF (aD X N' sc cl C s H fp) ifs tc) (he:∀cl C s H fp,PE (aD X N' sc cl C s H fp) elt te)
  (hs:∀x,foldedSetIterable iter X.env x=pure x:=by intro _;rfl) :
  PE X (.ListComp elt [⟨target,iter,ifs,0⟩] sc pos) (D8 src wi g tc te):=by
 intro ac s σ H Q I h;rw[eval_ListComp];refine wpAny_comprehension_free (use:=none) rfl hs (cB λy hy hk=>I.ok.has y.1 (S.free y hy hk)) S.kind (λy hy hl=>by rw[←hl];exact S.uniq y hy) ?_;refine bJ (hi ac s σ H _ I h) λv s1 h1=>bJ h1 λitv s2 h2=>?_;obtain⟨it,fp,tn,J,H2,e,I2,T,st2,f2,hW⟩:=h2;subst e;refine p_ (Q:=Q) (RR:=λacc C=>compPost (model X.prog X.w) X.A X.xe none (EP X ac σ Q) acc C) hc S hg ht he I2 T st2 f2 hW ?_;intro D C s5 H' m I5 n5 fC q;refine⟨m,n5,λh' sb=>⟨.ref D,H',?_,rfl,q⟩⟩;exact I5.turned (t':=s5.toks) (λb o hb e=>(sb.2 b hb).trans e) fC.1 fC.2.1 fC.2.2.2.1 fC.2.2.2.2.1 fC.2.2.2.2.2
theorem fo{i:Nat}{x:Str}{pos' spos:Pos}(hN:X.N.Nodup)(hi':X.N[i]? = some x)(hx:Loc X.env.scope x)(hsw:swapsWith (.ListComp elt [⟨target,iter,ifs,0⟩] sc pos) (some (.Name x pos')) spos.line X.env=pure true)
  (hc:X.calm=true) (S:bh X.env.scope X.N N' src sc) (hi:PI X target iter wi)
  (hg:∀cl C s H fp,PG (aD X N' sc cl C s H fp) target g) (ht:∀cl C s H fp,iF (aD X N' sc cl C s H fp) ifs tc) (he:∀cl C s H fp,PE (aD X N' sc cl C s H fp) elt te)
  (hf:X.fn x=true\/X.env.scope.names.lookup x=some .local:=by first|exact .inl rfl|exact .inr rfl|assumption)
  (hs:∀x,foldedSetIterable iter X.env x=pure x:=by intro _;rfl) :
  PS X (.Assign [.Name x pos'] (.ListComp elt [⟨target,iter,ifs,0⟩] sc pos) spos) (DD (D8 src wi g tc te) (bW i)):=by
 intro ac s σ H D I h;rw[exec_Assign_Name_used _ _ _ _ hsw];refine TK (wpAny_standAt (TK ?_));show wpAny _ _ (comprehension _ _ _ _ _ _ _ _ >>= _) _ _ s;refine TK (wpAny_comprehension_free (use:=some (assign (.Name x pos') X.env)) rfl hs (cB λy hy hk=>I.ok.has y.1 (S.free y hy hk)) S.kind (λy hy hl=>by rw[←hl];exact S.uniq y hy) ?_);refine bJ (hi ac s σ H _ I h) λv s1 h1=>bJ h1 λitv s2 h2=>?_;obtain⟨it,fp,tn,J,H2,e,I2,T,st2,f2,hW⟩:=h2;subst e;refine p_ (Q:=λy H'=>D.nx (σ.set i (some y)) H') (RR:=λacc C=>compPost (model X.prog X.w) X.A X.xe (some (assign (.Name x pos') X.env)) _ acc C) hc S hg ht he I2 T st2 f2 hW ?_;intro D' C s5 H' m I5 n5 fC q;refine wpAny_assign_Name (nt I5 hN hi' hx (show RelV (.ref D') (.ref D') from rfl) (λs6 I6 hsb=>?_) hf);obtain⟨a,sb,ha⟩:=hsb;have N8:C≠a:=by
  rcases ha with z|z
  ·rw[z];exact fC.2.1
  ·exact λe=>fC.2.2.2.2.1 x a z e.symm
 refine⟨m,n5.sameBut sb N8,λh' NN=>?_⟩;refine TM (TM ?_);exact⟨_,H',I6.turned (t':=s6.toks) (λb o hb e=>(NN.2 b hb).trans e) fC.1 fC.2.1 fC.2.2.2.1 fC.2.2.2.2.1 fC.2.2.2.2.2,q⟩
end
def yG(Ed:Scope)(ON N':List Str)(src:List (Option Nat))(sc:Scope):Bool :=
 sc.kind == .function&&Ed.kind == .function&&sc.names.all (λy=>sc.names.lookup y.1==some y.2&&y.2 != .cell&&(y.2 != .free||Ed.names.lookup y.1==some .cell||Ed.names.lookup y.1==some .free)) &&
 src.length==N'.length&&(N'.zip src).all λy=>match y.2 with|none=>true|some j=>ON[j]? == some y.1&&sc.names.lookup y.1==some .free
theorem bh.lJ{Ed:Scope}{ON N':List Str}{src:List (Option Nat)}{sc:Scope}(h:yG Ed ON N' src sc=true):bh Ed ON N' src sc:=by
 unfold yG at h;simp only[UA]at h;obtain⟨⟨⟨⟨h1,h2⟩,h3⟩,h4⟩,h5⟩:=h;have h3':=List.all_eq_true.mp h3;have SR:=List.all_eq_true.mp h5;refine⟨by simpa using h1,by simpa using h2,λy hy=>?_,λy hy=>?_,λy hy hf=>?_,by simpa using h4,λi x j e1 e2=>?_⟩
 ·have:=h3' y hy;simp only[UA]at this;simpa using this.1.1
 ·have:=h3' y hy;simp only[UA]at this;simpa using this.1.2
 ·have:=h3' y hy;simp only[UA,Bool.or_eq_true]at this;rcases this.2 with(z|z)|z
  ·rw[hf]at z;exact UC z (by decide)
  ·exact .inl (by simpa using z)
  ·exact .inr (by simpa using z)
 ·have m:(x,some j)∈N'.zip src:=by refine Ub (i:=i) ?_;rw[List.getElem?_zip_eq_some];exact⟨e1,e2⟩
  have:=SR _ m;simp only[UA]at this;exact⟨by simpa using this.1,by simpa using this.2⟩
section
variable{g:TG}{tc:TT}{te:TE}{D:Addr}{Q:VK}{rV:St}{H0:Hp}
theorem fc{lo:Int}{n:Nat}(Pv:Nat->St->List V->Hp->Prop)(h0:Pv 0 rV [] H0)(hD:∀i σ ys H,i<=n->Pv i σ ys H->H D=some (.lst ys)/\ys.length<=i)(hz:n<=sizeLine)
  (hs:∀i σ ys H,i<n->Pv i σ ys H->g (.int (lo+i)) σ H λcD H2=>tc cD H2 λb H3=>if b=true then te cD H3 λv H4=>H4 D=some (.lst ys)/\Pv (i+1) cD (ys++[v]) (upd H4 D (.lst (ys++[v])))else Pv (i+1) cD ys H3)
  (hd:∀σ ys H,Pv n σ ys H->Q (.ref D) H):∃W:Nat->Nat->St->List V->Hp->Prop,(∃m,W 0 m rV [] H0)/\oi (Hf lo n) g tc te D Q W:=by
 refine⟨λi m σ ys H=>m=n-i/\i<=n/\Pv i σ ys H,⟨n,by simp,Uo _,h0⟩,?_⟩;rintro i m σ ys H ⟨rfl,hi,p⟩;refine⟨(hD i σ ys H hi p).1,?_⟩;by_cases hlt:i<n
 ·refine .inr ⟨hlt,T8 (hD i σ ys H hi p).2 (T9 hlt hz),Pv (i+1),λσ' ys' H' p'=>⟨n-(i+1),by omega,rfl,hlt,p'⟩,λx H' y=>?_⟩;obtain⟨e,y⟩:=y;subst e y;exact hs i σ ys _ hlt p
 ·have e:i=n:=by omega
  subst e;exact .inl ⟨TU _,hd σ ys H p⟩
theorem fe{K:UX}{a:Addr}{xs:List V}(Pv:Nat->St->List V->Hp->Prop)(h0:Pv 0 rV [] H0)(hD:∀i σ ys H,i<=xs.length->Pv i σ ys H->H D=some (.lst ys)/\ys.length<=i)(hl:∀i σ ys H,i<=xs.length->Pv i σ ys H->bj K H a xs)(hz:xs.length<=sizeLine)
  (hs:∀i x σ ys H,xs[i]? = some x->Pv i σ ys H->g x σ H λcD H2=>tc cD H2 λb H3=>if b=true then te cD H3 λv H4=>H4 D=some (.lst ys)/\Pv (i+1) cD (ys++[v]) (upd H4 D (.lst (ys++[v])))else Pv (i+1) cD ys H3)
  (hd:∀σ ys H,Pv xs.length σ ys H->Q (.ref D) H):∃W:Nat->Nat->St->List V->Hp->Prop,(∃m,W 0 m rV [] H0)/\oi (Gy K a) g tc te D Q W:=by
 refine⟨λi m σ ys H=>m=xs.length-i/\i<=xs.length/\Pv i σ ys H,⟨xs.length,by simp,Uo _,h0⟩,?_⟩;rintro i m σ ys H ⟨rfl,hi,p⟩;have q:=hl i σ ys H hi p;refine⟨(hD i σ ys H hi p).1,?_⟩;by_cases hlt:i<xs.length
 ·refine .inr ⟨⟨xs,xs[i],q,by simp[hlt]⟩,T8 (hD i σ ys H hi p).2 (T9 hlt hz),Pv (i+1),λσ' ys' H' p'=>⟨xs.length-(i+1),by omega,rfl,hlt,p'⟩,λx H' y=>?_⟩;obtain⟨e,y⟩:=y;subst e;exact hs i x σ ys _ (y xs q) p
 ·have e:i=xs.length:=by omega
  subst e;exact .inl ⟨⟨xs,q,TU _⟩,hd σ ys H p⟩
theorem cX{K:UX}{a:Addr}{xs:List V}(Pv:Nat->St->List V->Hp->Prop)(h0:Pv 0 rV [] H0)(hD:∀i σ ys H,i<=xs.length->Pv i σ ys H->H D=some (.lst ys)/\ys.length<=i)(hl:∀i σ ys H,i<=xs.length->Pv i σ ys H->aY K H a xs)(hz:xs.length<=sizeLine)
  (hs:∀i x σ ys H,xs[i]? = some x->Pv i σ ys H->g x σ H λcD H2=>tc cD H2 λb H3=>if b=true then te cD H3 λv H4=>H4 D=some (.lst ys)/\Pv (i+1) cD (ys++[v]) (upd H4 D (.lst (ys++[v])))else Pv (i+1) cD ys H3)
  (hd:∀σ ys H,Pv xs.length σ ys H->Q (.ref D) H):∃W:Nat->Nat->St->List V->Hp->Prop,(∃m,W 0 m rV [] H0)/\oi (Ei K a) g tc te D Q W:=by
 refine⟨λi m σ ys H=>m=xs.length-i/\i<=xs.length/\Pv i σ ys H,⟨xs.length,by simp,Uo _,h0⟩,?_⟩;rintro i m σ ys H ⟨rfl,hi,p⟩;have q:=hl i σ ys H hi p;refine⟨(hD i σ ys H hi p).1,?_⟩;by_cases hlt:i<xs.length
 ·refine .inr ⟨⟨xs,xs[i],q,by simp[hlt]⟩,T8 (hD i σ ys H hi p).2 (T9 hlt hz),Pv (i+1),λσ' ys' H' p'=>⟨xs.length-(i+1),by omega,rfl,hlt,p'⟩,λx H' y=>?_⟩;obtain⟨e,y⟩:=y;subst e;exact hs i x σ ys _ (y xs q) p
 ·have e:i=xs.length:=by omega
  subst e;exact .inl ⟨⟨xs,q,TU _⟩,hd σ ys H p⟩
end
section
variable{X:Cx}{N':List Str}{sc:Scope}{cl:List (Str×Addr)}{C:Addr}{s:Shared}{H:Hp}{fp:List Addr}
theorem tG{env:Env}{x:Str}(e:sc.names.lookup x=some .free):(relabel sc env).names.lookup x=some .cell\/(relabel sc env).names.lookup x=some .free:=by
 have gen:∀ns:List (Str×NameKind),ns.lookup x=some .free->(ns.map λ(n,k)=>if(k==NameKind.free&&env.scope.kind == .function&&env.kindOf n==some .cell)then(n,NameKind.cell)else(n,k)).lookup x=some .cell\/
   (ns.map λ(n,k)=>if(k==NameKind.free&&env.scope.kind == .function&&env.kindOf n==some .cell)then(n,NameKind.cell)else(n,k)).lookup x=some .free:=by
  intro ns;induction ns with
  |nil=>intro h;cases h
  |cons y r ih =>
   obtain⟨n,k1⟩:=y;intro h;rw[UR];dsimp only;rw[UQ]at h;by_cases hc:(k1==NameKind.free&&env.scope.kind == .function&&env.kindOf n==some .cell)=true
   ·rw[UE hc,UQ];cases hx:x==n with
    |true=>exact .inl rfl
    |false=>rw[hx]at h;exact ih h
   ·rw[UD hc,UQ];cases hx:x==n with
    |true =>rw[hx]at h;exact .inr h
    |false=>rw[hx]at h;exact ih h
 exact gen sc.names e
theorem fu{env:Env}{x:Str}{k:NameKind}(hk:(k==NameKind.free)=false)(e:sc.names.lookup x=some k):(relabel sc env).names.lookup x=some k:=by
 have gen:∀ns:List (Str×NameKind),ns.lookup x=some k->(ns.map λ(n,k)=>if(k==NameKind.free&&env.scope.kind == .function&&env.kindOf n==some .cell)then(n,NameKind.cell)else(n,k)).lookup x=some k:=by
  intro ns;induction ns with
  |nil=>intro h;cases h
  |cons y r ih =>
   obtain⟨n,k1⟩:=y;intro h;rw[UR];dsimp only;rw[UQ]at h;cases hx:x==n with
   |true =>rw[hx]at h;have h':k1=k:=Up h;subst h';rw[UD (by rw[hk];simp),UQ,hx]
   |false =>
    rw[hx]at h;split
    ·rw[UQ,hx];exact ih h
    ·rw[UQ,hx];exact ih h
 exact gen sc.names e
theorem ug(i:Nat){x:Str}{pos:Pos}(hN:N'[i]? = some x:=by rfl)(hv:sc.names.lookup x=some .free:=by rfl)(hd:(x==("__debug__" : Str))=false:=by decide)(hcd:(x==("__classdict__" : Str))=false:=by decide) :
  PE (aD X N' sc cl C s H fp) (.Name x pos) (bF i):=xM (X:=aD X N' sc cl C s H fp) hN (.inr (tG hv)) hd hcd
theorem i3(i:Nat){x:Str}{pos:Pos}(hN:N'[i]? = some x:=by rfl)(hv:sc.names.lookup x=some .local:=by rfl)(hd:(x==("__debug__" : Str))=false:=by decide)(hcd:(x==("__classdict__" : Str))=false:=by decide) :
  PE (aD X N' sc cl C s H fp) (.Name x pos) (bF i):=xM (X:=aD X N' sc cl C s H fp) hN (.inl (fu rfl hv)) hd hcd
theorem fX{i:Nat}{x:Str}{pos:Pos}(hn:N'.Nodup:=by decide +kernel)(hN:N'[i]? = some x:=by rfl)(hv:sc.names.lookup x=some .local:=by rfl) :
  PG (aD X N' sc cl C s H fp) (.Name x pos) (bW i):=aM (X:=aD X N' sc cl C s H fp) hn hN (.inl (fu rfl hv)) (.inr (fu rfl hv))
theorem Hj{x:Str}(hv:sc.names.lookup x=some .globalImplicit:=by rfl):Gl (aD X N' sc cl C s H fp) x:=fu (env:=X.env) rfl hv
end
section
variable{X:Cx}
theorem tS:e_ X (.builtin "divmod") (λxs H Q=>∃i j,xs=[.int i,.int j]/\(0<j/\j.natAbs.log2<9000)/\∀p,H p=none->Q (.ref p) (upd H p (.tup [.int (i / j),.int (i % j)]))):=by intro ac s σ H xs us Q I r h;obtain⟨i,j,rfl,⟨h1,h2⟩,q⟩:=h;obtain⟨u,w',rfl,⟨t,rfl⟩,⟨t',rfl⟩⟩:=vals2 r;refine divmod_int (by omega) ?_ (.inl (PyProof.noPylong_of_log2 h2));rw[Int.fdiv_eq_ediv_of_nonneg i (by omega),Int.fmod_eq_emod_of_nonneg i (by omega)];have hn:H s.heap.objs.size=none:=I.hok.fresh (TU _);refine⟨.ref s.heap.objs.size,_,?_,rfl,q _ hn⟩;refine I.laid (λb o e=>TN _ e) (TU _) ⟨by simp only[Uz,List.length_nil];rw[sizeLine_eq];decide,[.int (i / j) s.toks,.int (i % j) (s.toks+1)],.cons ⟨_,rfl⟩ (.cons ⟨_,rfl⟩ .nil),?_⟩;exact⟨_,TR s.heap rfl,rfl,⟨0,rfl⟩,rfl⟩
end
def dz(H:Hp)(p:Addr):Prop:=∃a b:Int,H p=some (.lst [.int a,.int b])/\0<=a/\0<=b/\b<=2147483647
structure ba(p:Addr)(H H':Hp):Prop where
 keep:∀b o,b≠p->H b=some o->H' b=some o
 cy:dz H' p
theorem ba.refl{p:Addr}{H:Hp}(h:dz H p):ba p H H:=⟨λ_ _ _ e=>e,h⟩
theorem ba.trans{p:Addr}{H H1 H2:Hp}(a:ba p H H1)(b:ba p H1 H2):ba p H H2:=⟨λc o n e=>b.keep c o n (a.keep c o n e),b.cy⟩
theorem ba.same{p:Addr}{H H1:Hp}(h:dz H p)(s:aG H H1):ba p H H1:=⟨λc o _ e=>s c o e,let ⟨a,b,e,r⟩:=h;⟨a,b,s _ _ e,r⟩⟩
theorem ag{H:Hp}{p:Addr}(h:H p=none)(o:HO):aG H (upd H p o):=λb u q=>by rw[aI (a_ q h)];exact q
theorem ba.new{p q:Addr}{H H1:Hp}{o:HO}(a:ba p H H1)(h:H1 q=none):ba p H (upd H1 q o):=a.trans (.same a.cy (ag h o))
def D4(K:UX):Sp:=λvs H Q _=>∃(a:Addr)(ns:List Int)(k:Int),vs=[.ref a,.int k]/\bj K H a (ns.map V.int)/\0<=k/\∀n,Q (.int n) H
def HC(K:UX):Sp:=λvs H Q _=>∃(a:Addr)(ns:List Int)(k:Int),vs=[.ref a,.int k]/\bj K H a (ns.map V.int)/\0<=k/\k<=1000/\∀p H',H p=none->aG H H'->dz H' p->Q (.ref p) H'
def fm:Sp:=λvs H Q _=>∃(p:Addr)(m:Int),vs=[.ref p,.int m]/\dz H p/\0<m/\m.natAbs.log2<9000/\∀d H',ba p H H'->0<=d->d<m->Q (.int d) H'
theorem J7{n:Nat}{i:Int}(h0:0<=i)(h1:i<n):F3 n i=some i.toNat:=by unfold F3;rw[UE h0,UE h1]
theorem ib{xs:List V}{i:Int}(h0:0<=i)(h1:i<xs.length):∃v,y0 xs i=some v/\xs[i.toNat]? = some v:=by
 have e:=J7 h0 h1;have hj:i.toNat<xs.length:=by omega
 refine⟨xs[i.toNat],?_,by simp[hj]⟩;unfold y0;rw[e];show xs[i.toNat]? = _;simp[hj]
theorem ba.put{p D:Addr}{H H3 H4:Hp}{o:HO}(g3:ba p H H3)(hD:H3 D=none)(n:D≠p)(g4:ba p H H4):ba p H (upd H4 D o):=by
 refine⟨λb u nb e=>?_,?_⟩
 ·by_cases hb:b=D
  ·subst hb;exact UC (g3.keep b u n e) (by rw[hD];simp)
  ·rw[aI hb];exact g4.keep b u nb e
 ·obtain⟨x,y,e,r⟩:=g4.cy;exact⟨x,y,by rw[aI (Ne.symm n)];exact e,r⟩
theorem ba.ne{p D:Addr}{H H3:Hp}(g3:ba p H H3)(hD:H3 D=none):D≠p:=λe=>by subst e;obtain⟨_,_,z,_⟩:=g3.cy;rw[z]at hD;cases hD
section
variable{X:Cx}{x:Str}{pos:Pos}{c:Addr}{n:String}{a b:Expr}{ta tb:TE}
theorem kg(hg:Gl X x)(hm:X.mg x=some (.ref c))(hd:(x==("__debug__" : Str))=false:=by decide):PE X (.Name x pos) (tC (.ref c)):=cu hg hm (show RelV (.ref c) (.ref c) from rfl) hd
theorem x3(hg:Gl X x)(hm:X.mg x=none)(hv:bootBuiltins x=some (.type n))(hn:x≠"__name__":=by decide)(hd:(x==("__debug__" : Str))=false:=by decide):PE X (.Name x pos) (tC (.ty n)):=Gf hg hm hv (show RelV (.ty n) (.type n) from rfl) hn hd
end
end L2
namespace PySem
open Sem (wp)
section
variable{prog:Program}{w:World}{A:Around}{E:Value->Shared->Prop}{h:Heap}{g:Array GenState}{d:Drawn}{t:Nat}{os:OsState}
variable{nm q:Str}{C N:Addr}{bs bm bmB:List Value}{hdct:Bool}{sn:List Str}{sub:List Value}{ab:Bool}{col:Option Bool}{dd:Option Addr}{k0 k1 k2 k3 k5:Option Value}{B newId initId:String}
theorem kJ(F:ExcBaseFacts B newId initId bmB)(T:OwnTail h bmB bm){mN:Str->Option Value}{rest:List Value}{fI:Addr}{oI:Obj}{Q:Fin->Shared->Prop}
  (hC:h.get? C=some (excClassObj nm q C N bs bm hdct sn sub ab col dd k0 k1 k2 k3 k5 newId)) (hn:h.Ns N mN) (hi:mN "__init__"=some (.ref fI))
  (hfI:h.get? fI=some oI) (hfc:oI.cls=.type "function")
  (hq:∀h' e,Heap.MadeExcOf h h' e (.ref C) rest->
   wpAny (model prog w) A (call (.ref fI) (.ref e::rest)) (λr s'=>r=.none/\Q (.done (.ret (.ref e))) s') E ⟨h',g,d,t,os⟩) (hrest:rest.length<=sizeLine:=by size_fits) :
  wpAny (model prog w) A (Builtin.«type.__call__» ⟨.ref C::rest,[]⟩) Q E ⟨h,g,d,t,os⟩:=by
 repeat (first|with_reducible refine wpAny_loadPart_at hC ?_|with_reducible refine wpAny_madeBy_exc hC ?_|wp_step)
 refine codeAny_call_builtin_code (Code.quiet_builtin _ F.quiet) (wpAny_check_new_subT F T hC ?_);refine codeAny_exc_new_subT F T hC ?_ hrest;show wpAny _ _ _ _ _ _;have hC₁:=TN {cls:=.ref C,data:=.fields #[.ref h.objs.size,.none,.none,.none,.bool false,.none]}
  (TN {cls:=.type "tuple",data:=.seq rest.toArray} hC)
 have hfI₁:=TN {cls:=.ref C,data:=.fields #[.ref h.objs.size,.none,.none,.none,.bool false,.none]}
  (TN {cls:=.type "tuple",data:=.seq rest.toArray} hfI)
 have hn₁:((h.push {cls:=.type "tuple",data:=.seq rest.toArray}).push {cls:=.ref C,data:=.fields #[.ref h.objs.size,.none,.none,.none,.bool false,.none]}).Ns N mN :=
  let ⟨o,es,ep,e,r⟩:=hn;⟨o,es,ep,TN _ (TN _ e),r⟩
 have hget:((h.push {cls:=.type "tuple",data:=.seq rest.toArray}).push
   {cls:=.ref C,data:=.fields #[.ref h.objs.size,.none,.none,.none,.bool false,.none]}).get? (h.objs.size+1)=some
   {cls:=.ref C,data:=.fields #[.ref h.objs.size,.none,.none,.none,.bool false,.none]}:=by heap_get
 have hcC:(Value.ref C::bm).contains (.ref C)=true:=by simp
 have T₁:=T.keeps (h':=(h.push {cls:=.type "tuple",data:=.seq rest.toArray}).push {cls:=.ref C,data:=.fields #[.ref h.objs.size,.none,.none,.none,.bool false,.none]})
  λb o e=>TN _ (TN _ e)
 unfold isInstance;repeat (first|with_reducible refine wpAny_loadPart_at hget ?_ | (with_reducible refine wpAny_isSubtype_exc hC₁ ?_;rw[hcC])|wp_step)
 show wpAny _ _ (typeLookup (.ref C) _) _ _ _;refine wpAny_typeLookup_tail hC₁ hn₁ T₁ F.mroIs F.init.lookup ?_;rw[hi];refine Uw (TK ?_);unfold bindSpecial;refine TK (wpAny_typeOf (T:="function") ⟨_,hfI₁,hfc⟩ ?_);rw[UE (by decide)];refine TM (TK (Uv (hq _ (h.objs.size+1) ⟨λb o hb=>TN _ (TN _ hb),Heap.get?_none_of_le (Nat.le_succ _),h.objs.size,hget,Heap.get?_none_of_le (TU _),?_⟩) (λr s' hr=>?_) λ_ _ x=>x))
 ·exact TN _ (Heap.get?_push_at rfl rfl)
 ·obtain⟨rfl,hQ⟩:=hr
  wp_walk
  exact hQ
theorem pk(F:ExcBaseFacts B newId initId bmB)(T:OwnTail h bmB bm){mN:Str->Option Value}{rest:List Value}{fI:Addr}{oI:Obj}{Q:Value->Shared->Prop}
  (hC:h.get? C=some (excClassObj nm q C N bs bm hdct sn sub ab col dd k0 k1 k2 k3 k5 newId)) (hn:h.Ns N mN) (hi:mN "__init__"=some (.ref fI))
  (hfI:h.get? fI=some oI) (hfc:oI.cls=.type "function")
  (hq:∀h' e,Heap.MadeExcOf h h' e (.ref C) rest->
   wpAny (model prog w) (A.under (.builtin "type.__call__" ⟨.ref C::rest,[]⟩)) (call (.ref fI) (.ref e::rest)) (λr s'=>r=.none/\Q (.ref e) s') E ⟨h',g,d,t,os⟩) (hrest:rest.length<=sizeLine:=by size_fits) :
  wpAny (model prog w) A (call (.ref C) rest) Q E ⟨h,g,d,t,os⟩:=by
 have f1:=tc_lookup;have f2:=tc_bind (.ref C);have hT:(⟨h,g,d,t,os⟩ : Shared).TypeIs (.ref C) "type":=⟨_,hC,rfl⟩;refine wpAny_call (codeAny_of_tree ?_);show wpAny _ _ (callAny (.ref C) _) _ _ _;repeat (any_goals (first|assumption|with_reducible refine wpAny_loadPart_at hC ?_|wp_step))
 refine⟨rfl,?_⟩;refine codeAny_call_builtin_at (Code.quiet_builtin _ (by decide +kernel)) entry_typeCall (wpAny_check_type_call_sub hC (kJ (hrest:=hrest) F T hC hn hi hfI hfc λh' e hm=>?_));exact hq h' e hm
end
end PySem
namespace L2
open PySem PySem.Spec PyProof.Rows
abbrev ua:List Value:=[.type "ValueError",.type "Exception",.type "BaseException",.type "object"]
abbrev xO(a C:Addr)(od:Option Addr):HO:=.ext λh=>∃fl sl,h.get? a=some {cls:=.ref C,dict:=od,data:=.fields fl,slots:=sl}
abbrev xD(d:Addr)(fs:List (Str×V)):HO:=.ext λh=>∃mA,h.Ns1 d mA/\∀f,iD (fs.lookup f) (mA f)
section
variable{P:Program}{w:World}{H:Hp}{h h':Heap}{a C d:Addr}{od:Option Addr}{fs:List (Str×V)}{o:HO}
theorem CO{fl:Array Value}{sl:Array (Option Value)}(e:h.get? a=some {cls:=.ref C,dict:=od,data:=.fields fl,slots:=sl}):cc P w H h a (xO a C od) :=
 ⟨⟨fl,sl,e⟩,⟨_,e⟩,λ_ _ ⟨fl,sl,e⟩ k=>⟨fl,sl,k _ e⟩⟩
theorem DW{mA:Str->Option Value}(n:h.Ns1 d mA)(r:∀f,iD (fs.lookup f) (mA f)):cc P w H h d (xD d fs) :=
 ⟨⟨mA,n,r⟩,(let ⟨o,_,_,e,_⟩:=n;⟨o,e⟩),λ_ _ ⟨mA,⟨o,es,ep,e,rest⟩,r⟩ k=>⟨mA,⟨o,es,ep,k _ e,rest⟩,r⟩⟩
theorem cc.there(x:cc P w H h a o):∃u,h.get? a=some u:=by
 cases o with
 |lst xs=>obtain⟨_,_,_,_,e⟩:=x;exact⟨_,e⟩
 |tup xs=>obtain⟨_,_,_,p⟩:=x;obtain⟨o,e,_⟩:=p;exact⟨_,e⟩
 |dK kvs=>obtain⟨_,_,_,_,o,_,_,e,_⟩:=x;exact⟨_,e⟩
 |dT kvs=>obtain⟨_,_,_,_,o,_,_,e,_⟩:=x;exact⟨_,e⟩
 |set S n=>obtain⟨o,_,_,_,e,_⟩:=x;exact⟨_,e⟩
 |ins C dx fs=>obtain⟨_,_,_,e,_⟩:=x;exact⟨_,e⟩
 |own y=>obtain⟨_,e⟩:=x;exact⟨_,e⟩
 |xd fs=>obtain⟨_,⟨_,_,_,e,_⟩,_⟩:=x;exact⟨_,e⟩
 |A3 lo hi=>obtain⟨_,_,_,e⟩:=x;exact⟨_,e⟩
 |xI ob u=>obtain⟨e,_⟩:=x;exact⟨_,e⟩
 |GL ps=>exact⟨_,(show h.get? a=some _ from x)⟩
 |met f y=>exact⟨_,(show h.get? a=some _ from x)⟩
 |ext φ=>obtain⟨_,⟨_,e⟩,_⟩:=x;exact⟨_,e⟩
theorem jq.none_of(x:jq P w H h)(e:h.get? a=none):H a=none:=by
 cases q:H a with
 |none=>rfl
 |some u =>obtain⟨v,z⟩:=(x a u q).there;rw[e]at z;cases z
theorem jq.laidN(x:jq P w H h)(k:∀b u,h.get? b=some u->h'.get? b=some u)(hp:h.get? a=none)(new:cc P w (upd H a o) h' a o):jq P w (upd H a o) h':=λb u e=>by
 have hn:=x.none_of hp;by_cases hb:b=a
 ·subst hb;rw[ae]at e;cases e;exact new
 ·rw[aI hb]at e;exact(x b u e).stay (λc v _ q=>k c v q) (λc q=>by rw[aI (a_ q hn)];exact q) λc xs q=>by rw[aI (a_ q hn)];exact q
theorem Un.laidN{fs ex:List Addr}(k:∀b u,h.get? b=some u->h'.get? b=some u)(hp:h.get? a=none)(hn:H a=none):Un fs ex H (upd H a o) h h' where
 keep:=λb u q _ _ _=>k b u q
 slot:=λb u q _ _ _=>⟨u.slots,k b u q⟩
 free:=λb u q n _=>by rw[aI (λe=>by rw[e,hp]at q;cases q)];exact n
 there:=λb u q _=>⟨u,k b u q⟩
 tups:=λb xs q=>by rw[aI (a_ q hn)];exact q
 qa:=λb u xs q=>by rw[aI (a_ q hn)];exact q
 rd:=λb ps q=>⟨#[],by rw[aI (a_ q hn),q];simp⟩
end
structure jo(K:UX)(C:Addr):Prop where
 cls:∃cd PE,PySem.W.clsIn K C=some cd/\cd.mro=.ref C :: .ref PE::ua/\cd.hasDict=true
 mo:PySem.W.mroIn K C (.type "object")=some true
 sa:PySem.W.findIn K (.ref C) "__setattr__"=some (some (.builtin "object.__setattr__"))
 ga:PySem.W.findIn K (.ref C) "__getattribute__"=some (some (.builtin "BaseException.__getattribute__"))
 gh:PySem.W.findIn K (.ref C) "__getattr__"=some none
 mb:PySem.W.mroIn K C (.type "BaseException")=some true
 ca:PySem.W.findIn K (.ref C) "__class__"=some (some (.builtin "object.__class__"))
 cg:PySem.W.specialIn K (.builtin "object.__class__") "__get__"=some (some (.builtin "getset_descriptor.__get__"))
 ct:PySem.W.takesIn K (.builtin "object.__class__")=some true
theorem jo.hd{K:UX}{C:Addr}(c:jo K C):PySem.W.hasDictIn K C=true:=by obtain⟨cd,PE,e,_,h⟩:=c.cls;unfold PySem.W.hasDictIn;rw[e];exact h
section
variable{prog:Program}{w:World}{A:Around}{E:Value->Shared->Prop}{R:Result->Shared->Prop}{s:Shared}{K:UX}{x C:Addr}{ox:Obj}{od:Option Obj}{name:Str}{tk:Tok}{v:Value}
theorem rm(c:jo K C)(X:K.In s.heap)(I:PySem.W.InstAt s.heap x ox C od)(ht:PySem.W.findIn K (.ref C) name=some none)
  (h:∀b,wpAny (model prog w) A.in1 (Builtin.ObjectAttr.storeInOwnDict (.ref x) (.ref C) (.str name tk) name v b)
   (λfin s'=>match fin with | .done f=>R (.ok f) s' | .again c'=>c'.quiet=true/\codeAny (model prog w) A c' R s') (λe s'=>R (.error e) s') s) :
  codeAny (model prog w) A (.call (.builtin "object.__setattr__") ⟨[.ref x,.str name tk,v],[]⟩) R s:=by
 have SF:=PySem.F.store_object;obtain⟨cd,PE,hc,hmro,_⟩:=c.cls;have sub:PySem.W.Looks (model prog w) s.heap (isInstance (.ref x) (.type "object")) true:=I.type.andThen (PySem.W.looks_mroIn X c.mo);refine codeAny_call_builtin SF.slot.plain SF.entry (@PySem.W.check_slot (model prog w) _ _ s "object.__setattr__" "object" "__setattr__" (.ref x) [.str name tk,v] [] _ SF.kind SF.split sub (SF.args (.ref x) (.str name tk) v) ?_);have hm:PySem.W.Looks (model prog w) s.heap (mroOf (.ref C)) cd.mro:=(PySem.W.looks_clsIn X hc).andThen .now;have L3:PySem.W.Looks (model prog w) s.heap (Builtin.ObjectAttr.storeTaker? none) none:=.now;rw[PySem.W.osa_eq,refuse_eq];refine TK (TK (I.type.here (TK (hm.here ?_))));rw[hmro,refuseLoop_ref,refuseLoop_ref,PySem.F.store_ValueError.passes];refine TM (TK (I.type.here (TK ((PySem.W.looks_findIn X ht).here (TK (L3.here ?_))))));exact h _
theorem Aq{Q:Fin->Shared->Prop}{r:Builtin.ObjectAttr.Found}(X:K.In s.heap)(I:PySem.W.InstAt s.heap x ox C od)(hf:PySem.W.findObj K C od name=some r)
  (h:wpAny (model prog w) A (match r with | .value v=>ret v | .bind g a=>Builtin.ObjectAttr.bindTo g a (.ref x) (.ref C) | .missing=>Builtin.ObjectAttr.noSuchAttribute (.ref x) name) Q E s) :
  wpAny (model prog w) A (Builtin.«object.__getattribute__» ⟨[.ref x,.str name tk],[]⟩) Q E s:=by
 obtain⟨hh',g,d,t,os⟩:=s;have L0:=I.type (M:=model prog w);have L1:=PySem.W.looks_find (M:=model prog w) X I hf;unfold Builtin.«object.__getattribute__»;refine TK (TM ?_);refine TK (TM (TK (L0.at (TK (L1.at ?_)))));cases r with
 |value v=>exact h
 |bind g a=>exact h
 |missing=>exact h
theorem Bt{fill expr:Bool}{Q:Value->Shared->Prop}{r:Builtin.ObjectAttr.Found}(c:jo K C)(X:K.In s.heap)(I:PySem.W.InstAt s.heap x ox C od)(hf:PySem.W.findObj K C od name=some r)
  (h:codeAny (model prog w) A (.call (.builtin "BaseException.__getattribute__") ⟨[.ref x,.str name tk],[]⟩) (λr s'=>match r with | .ok (.ret v)=>wpAny (model prog w) A (handedOut v) Q E s'|_=>False) s) :
  wpAny (model prog w) A (getAttrBy (.ref x) (.str name tk) fill expr) Q E s:=by
 obtain⟨hh',g,d,t,os⟩:=s;have L0:=I.type (M:=model prog w);have L1:=PySem.W.looks_findIn (M:=model prog w) X c.ga;have LH:=PySem.W.looks_hook (M:=model prog w) (mc:=.ref C) (r:=none) X (by show PySem.W.findIn K (.ref C) "__getattr__"=_;exact c.gh);have hx2:(Value.builtin "BaseException.__getattribute__"==Value.builtin "object.__getattribute__")=false:=by decide +kernel
 have hx1:(onTheHeap (Value.ref C)&&Value.builtin "BaseException.__getattribute__"==Value.builtin "object.__getattribute__")=false:=by rw[hx2];rfl
 have hx0:(expr&&onTheHeap (Value.builtin "BaseException.__getattribute__"))=false:=by cases expr<;>rfl
 unfold getAttrBy;refine Uw (TK (L0.at (TK (L1.at ?_))));show wpAny _ _ (if(onTheHeap (Value.ref C)&&Value.builtin "BaseException.__getattribute__"==Value.builtin "object.__getattribute__")=true then _ else _) _ _ _;rw[UD (by rw[hx1];exact Ud)];unfold getAttrByItsOwn;refine TK (LH.at (TK (wpAny_attempt (Uw ?_))));unfold callGetattribute;rw[UD (by rw[hx0];exact Ud)];unfold boundAndCalled;rw[PySem.F.excAttr_ValueError.ga.bind];refine TK (TM (wpAny_call (codeAny_mono h λr s' z=>?_)));rcases r with e | (v|_|_|_)<;>first|exact z|exact z.elim
theorem uK{r:Builtin.ObjectAttr.Found}(c:jo K C)(X:K.In s.heap)(I:PySem.W.InstAt s.heap x ox C od)(hf:PySem.W.findObj K C od name=some r)
  (h:wpAny (model prog w) A.in1 (match r with | .value v=>ret v | .bind g a=>Builtin.ObjectAttr.bindTo g a (.ref x) (.ref C) | .missing=>Builtin.ObjectAttr.noSuchAttribute (.ref x) name)
   (λfin s'=>match fin with | .done f=>R (.ok f) s' | .again c'=>c'.quiet=true/\codeAny (model prog w) A c' R s') (λe s'=>R (.error e) s') s) :
  codeAny (model prog w) A (.call (.builtin "BaseException.__getattribute__") ⟨[.ref x,.str name tk],[]⟩) R s:=by
 have sub:PySem.W.Looks (model prog w) s.heap (isInstance (.ref x) (.type "BaseException")) true:=I.type.andThen (PySem.W.looks_mroIn X c.mb);exact codeAny_call_builtin PySem.F.excAttr_ValueError.ga.plain PySem.F.entry_bexc_ga (@PySem.W.check_slot (model prog w) _ _ s "BaseException.__getattribute__" "BaseException" "__getattribute__" (.ref x) [.str name tk] [] _ (by decide +kernel) (by decide +kernel) sub (PySem.F.args_bexc_ga _ _) (Aq X I hf h))
theorem wb{expr:Bool}{Q:Value->Shared->Prop}(c:jo K C)(X:K.In s.heap)(I:PySem.W.InstAt s.heap x ox C od)(hf:PySem.W.findObj K C od name=some (.value v))(hh:PySem.W.handedIn v=true)(h:Q v {s with toks:=s.toks+1}) :
  wpAny (model prog w) A (getAttr (.ref x) name expr) Q E s:=by
 unfold getAttr;refine TK (wpAny_mkText (Bt (s:={s with toks:=s.toks+1}) c X I hf (uK (s:={s with toks:=s.toks+1}) c X I hf (TM ?_))));show wpAny _ _ (handedOut v) _ _ _;rw[PySem.W.handedOut_of hh];exact TM h
theorem x5{Q:Option Value->Shared->Prop}(c:jo K C)(X:K.In s.heap)(I:PySem.W.InstAt s.heap x ox C od)(hf:PySem.W.findObj K C od "__class__"=some (.bind (.builtin "getset_descriptor.__get__") (.builtin "object.__class__")))
  (h:Q (some (.ref C)) {s with toks:=s.toks+1}):wpAny (model prog w) A (getAttr? (.ref x) "__class__") Q E s:=by
 unfold getAttr? getAttrBy?;refine TK (wpAny_mkText (TK (wpAny_attempt (Bt (s:={s with toks:=s.toks+1}) c X I hf (uK (s:={s with toks:=s.toks+1}) c X I hf ?_)))));show wpAny _ _ (holding [Value.builtin "object.__class__"] (call (.builtin "getset_descriptor.__get__") [.builtin "object.__class__",.ref x,.ref C]) >>= ret) _ _ _;refine TK (Uw (wpAny_call (PySem.W.class_get (s:={s with toks:=s.toks+1}) (ox:=ox) (od:=od) X I c.mo (TM ?_))));show wpAny _ _ (handedOut (.ref C)) _ _ _;rw[PySem.W.handedOut_of rfl];exact TM (TM h)
end
section
variable{X:Cx}{ac:List (Addr×Obj)}{σ:St}{H:Hp}{s:Shared}{a C dx:Addr}{fs:List (Str×V)}{f:Str}{v y:V}{u:Value}{A:Around}{E:Value->Shared->Prop}
theorem Gq{b:Bool}{Q:Value->Shared->Prop}(I:Inv X ac σ H s)(e:H a=some (xO a C (some dx)))(ed:H dx=some (xD dx fs))(c:jo X.K C)(n:jh X.K C f)(l:fs.lookup f=some v)
  (h:∀u s',Inv X ac σ H s'->RelV v u->Q u s'):wpAny (model X.prog X.w) A (getAttr (.ref a) f b) Q E s:=by
 obtain⟨⟨fl,sl,ha⟩,_⟩:=I.hok a _ e;obtain⟨⟨mA,ns,r⟩,_⟩:=I.hok dx _ ed;obtain⟨od,ho,hl⟩:=nh ns;have J:PySem.W.InstAt s.heap a {cls:=.ref C,dict:=some dx,data:=.fields fl,slots:=sl} C (some od):=⟨ha,rfl,rfl,ho⟩;have rf:=r f;rw[l]at rf;obtain⟨u,eu,ru⟩:=iD.some_of rf;exact wb c I.i0 J (PySem.W.findObj_own c.hd n rfl (by rw[hl,eu])) (Aw ru) (h _ _ (I.tok _) ru)
theorem rC{mA:Str->Option Value}(r:∀f,iD (fs.lookup f) (mA f)):PySem.Within mA (fs.map (·.1)):=by
 intro g hg;have rg:=r g;cases e:fs.lookup g with
 |none=>rw[e]at rg;exact UC (iD.none_of rg) hg
 |some z =>
  clear rg r hg;induction fs with
  |nil=>cases e
  |cons p t ih =>
   obtain⟨k,w⟩:=p;rw[UQ]at e;cases hk:g==k with
   |true =>
    have:g=k:=by simpa using hk
    subst this;exact Uy
   |false=>rw[hk]at e;exact Uc _ (ih e)
end
def iR(K:UX)(C:Addr)(bmB:List Value)(newId:String)(ini:Option Value):Bool:=match K.lookup C with
 |some o=>o.cls == .type "type"&&(match o.data with
  | .cls cd=>cd.mro.head? == some (.ref C)&&o.slots.size==6&&o.slots[4]? == some (some (.builtin newId)) && !cd.hasDel&&PySem.W.tailIn K bmB cd.mro.tail&&PySem.W.nsOkIn K cd.ns&&PySem.W.nsIn K cd.ns "__init__"==some ini
  |_=>false)
 |none=>false
theorem rh{α:Type}{l:List α}{n:Nat}(h:l.length=n+1):∃a m,l=a::m/\m.length=n:=by
 cases l with
 |nil=>cases h
 |cons a m=>exact⟨a,m,rfl,Nat.succ.inj h⟩
theorem LQ{K:UX}{h:Heap}{N:Addr}{mg:Str->Option Value}{n:Str}{r:Option Value}(X:K.In h)(G:h.Ns N mg)(e:PySem.W.nsIn K N n=some r):mg n=r:=by
 cases r with
 |none=>exact PySem.W.ns_none_of X G e
 |some v =>
  obtain⟨o,es,ep,ho,hd,_,hf⟩:=G;unfold PySem.W.nsIn at e;split at e
  ·rename_i c d es' n' sl q;have:=X _ _ q;rw[ho]at this;cases this;cases hd;split at e
   ·rename_i en he;cases e;rw[←hf];unfold nsFind findBy;rw[←Array.find?_toList,he];rfl
   ·split at e<;>cases e
  ·cases e
theorem mR{K:UX}{h:Heap}{C:Addr}{bmB:List Value}{newId:String}{ini:Option Value}(X:K.In h)(q:iR K C bmB newId ini=true) :
  ∃bm N nm q bs hdct sn sub ab col dd k0 k1 k2 k3 k5 mN,h.get? C=some (excClassObj nm q C N bs bm hdct sn sub ab col dd k0 k1 k2 k3 k5 newId)/\h.Ns N mN/\mN "__init__"=ini/\OwnTail h bmB bm:=by
 unfold iR at q;cases ho:K.lookup C with
 |none=>rw[ho]at q;cases q
 |some o =>
  rw[ho]at q;obtain⟨cl,dd,dat,sl⟩:=o;cases dat with
  |cls cd =>
   simp only[UA,beq_iff_eq,Bool.not_eq_true']at q;obtain⟨rfl,⟨⟨⟨⟨⟨hm,hz⟩,hs⟩,hdel⟩,ht⟩,hok⟩,hni⟩:=q;obtain⟨nm,bs,mro,ns,qn,hd,sn,sub,ab,col,del⟩:=cd;dsimp only at hm hdel hok hni ht;subst hdel;obtain⟨l⟩:=sl;obtain⟨k0,l,rfl,z0⟩:=rh (show l.length=5+1 from hz);obtain⟨k1,l,rfl,z1⟩:=rh (n:=4) z0;obtain⟨k2,l,rfl,z2⟩:=rh (n:=3) z1;obtain⟨k3,l,rfl,z3⟩:=rh (n:=2) z2;obtain⟨k4,l,rfl,z4⟩:=rh (n:=1) z3;obtain⟨k5,l,rfl,z5⟩:=rh (n:=0) z4;cases List.length_eq_zero_iff.mp z5;cases(show some k4=_ from hs);cases mro with
   |nil=>cases hm
   |cons c bm =>cases hm;exact⟨bm,ns,nm,qn,bs,hd,sn,sub,ab,col,dd,k0,k1,k2,k3,k5,_,X _ _ ho,.of_isNs (PySem.W.isNs_of_in X hok),LQ X (.of_isNs (PySem.W.isNs_of_in X hok)) hni,PySem.W.tail_of_in X ht⟩
  |_=>exact UC ((UA _ _).mp q).2 Ud
section
variable{X:Cx}{CX:rb}{k:Nat}{f C:Addr}{fd:FuncData}{ps:List Str}{sp:Sp}{E:XK}{x:Str}{p pos:Pos}{e:Expr}{es:List Expr}{t:TA}
theorem Inv.NX{ac:List (Addr×Obj)}{σ:St}{H:Hp}{s:Shared}{h':Heap}{a:Addr}{rest:List Value}(I:Inv X ac σ H s)(m:Heap.MadeExcOf s.heap h' a (.ref C) rest):H a=none/\Inv X ac σ (upd H a (xO a C none)) {s with heap:=h'}:=by obtain⟨t,et,_,_⟩:=m.there;have hn:=I.hok.none_of m.new;exact⟨hn,I.un (t':=s.toks) (Un.laidN m.keeps m.new hn) (I.hok.laidN m.keeps m.new (CO et))⟩
end
section
variable{X:Cx}{o value:Expr}{ta tv:TE}{f:Str}{pos pos':Pos}
def Hh(K:UX)(ta:TE)(f:Str):TE:=λσ H Q=>ta σ H λx H1=>∃a C dx fs v,x=.ref a/\H1 a=some (xO a C (some dx))/\H1 dx=some (xD dx fs)/\jo K C/\jh K C f/\fs.lookup f=some v/\Q v H1
theorem FJ(he:PE X o ta)(hb:attributeBase o f X.env (eval o X.env)=eval o X.env):PE X (.Attribute o f pos) (Hh X.K ta f):=by intro ac s σ H Q I h;refine Er hb (bJ (he ac s σ H _ I h) λu s1 zz=>?_);obtain⟨x,H1,I1,rx,a,C,dx,fs,v,ex,ea,ed,c,n,l,q⟩:=zz;subst ex;obtain rfl:u=Value.ref a:=rx;exact Gq I1 ea ed c n l λu' s2 I2 ru=>⟨v,H1,I2,ru,q⟩
end
def Bf(K:UX)(H:Hp)(a C:Addr):Prop:=jo K C/\(H a=some (xO a C none)\/∃dx fs,H a=some (xO a C (some dx))/\H dx=some (xD dx fs))
theorem vG{K:UX}{x D:Addr}(c:jo K D):PySem.W.KitX K (.ref x) (.ref D) (λh=>∃ox od,PySem.W.InstAt h x ox D od) where
 ty:=λ_ _ _ ⟨ox,od,I⟩=>I.type
 it:=λ_ _ X _=>by
  obtain⟨cdD,hcD,_⟩:=PySem.W.any_some c.hd;unfold PySem.W.clsIn at hcD;split at hcD
  ·rename_i c' d' cd' sl' ho;intro A' Q' E' s' k q;unfold isType loadHead;exact TK (wpAny_loadPart (k _ _ (X _ _ ho)) (TM q))
  ·cases hcD
 ne:=λh tp dd its n sl X htp=>by
  obtain⟨cdD,hcD,_⟩:=PySem.W.any_some c.hd;refine Uk.mpr λq=>?_;have e:D=tp:=Value.ref.inj (beq_iff_eq.mp q);subst e;unfold PySem.W.clsIn at hcD;split at hcD
  ·rename_i c' d' cd' sl' ho;have z:=(X _ _ ho).symm.trans htp;cases z
  ·cases hcD
 ca:=λ{prog w A E Q s} X I h=>by
  obtain⟨ox,od,I⟩:=I;have hf:PySem.W.findObj K D od "__class__"=some (.bind (.builtin "getset_descriptor.__get__") (.builtin "object.__class__")):=by obtain⟨cd,PE,hc,_⟩:=c.cls;unfold PySem.W.findObj;rw[hc,Option.bind_some,c.ca,Option.bind_some];simp[c.cg,c.ct]
  exact x5 c X I hf h
section
variable{X:Cx}
def P6:V->Value->Prop
 | .ref a,u=>u=.ref a
 | .ty n,u=>u=.type n
 |_,_=>False
theorem vy:e_ X (.builtin "isinstance") (λxs H Q=>∃x cv t c b,xs=[x,cv]/\P6 cv c/\(kN X.K H x t\/∃a C,x=.ref a/\t=.ref C/\Bf X.K H a C)/\PySem.W.kitOne X.K t c=some b/\Q (.bl b) H):=by
 intro ac s σ H xs us Q I r h;obtain⟨x,cv,t,c,b,rfl,hc,ty,e,q⟩:=h;obtain⟨u,w',rfl,r1,r2⟩:=vals2 r;have e2:w'=c:=by
  cases cv with
  |ref a=>cases(show c=_ from hc);exact r2
  |ty n=>cases(show c=_ from hc);exact r2
  |_=>exact hc.elim
 subst e2;rcases ty with ty|⟨a,C,rfl,rfl,cx,hx⟩
 ·exact rN I r1 ty e λtk=>⟨.bl b,H,I.tok _,rfl,q⟩
 ·cases(show u=Value.ref a from r1);have J:∃ox od,PySem.W.InstAt s.heap a ox C od:=by
   rcases hx with ea|⟨dx,fs,ea,ed⟩
   ·obtain⟨⟨fl,sl,ha⟩,_⟩:=I.hok a _ ea;exact⟨_,none,ha,rfl,rfl,True.intro⟩
   ·obtain⟨⟨fl,sl,ha⟩,_⟩:=I.hok a _ ea;obtain⟨⟨mA,⟨od,_,_,ho,_⟩,_⟩,_⟩:=I.hok dx _ ed;exact⟨_,some od,ha,rfl,rfl,ho⟩
  exact PySem.W.kia_one (vG cx) I.i0 J e (λz=>nomatch z) λtk=>⟨.bl b,H,I.tok _,rfl,q⟩
end
theorem Bl{H:Hp}{a:Addr}{o:HO}(h:H a=some o):upd H a o=H:=by
 funext b;unfold upd;by_cases e:b=a
 ·rw[UE e,e,h]
 ·rw[UD e]
structure Top(X:Cx)(L:Addr):Prop where
 ex:∃e0 r,X.stack=e0::r/\e0.frame=some L
 fr:X.env.frame=some L
structure Jz(X:Cx)(H:Hp)(h:Heap)(T:Addr):Prop where
 free:H T=none
 new:X.s₀.heap.objs.size<=T
 pn:∀p∈X.pn,p.1≠T
 obj:∃oT ts,h.get? T=some oT/\oT.data=.fields ts/\3<ts.size
structure Ov(X:Cx)(H:Hp)(h:Heap)(e C:Addr)(od:Option Addr):Prop where
 at_:H e=some (xO e C od)
 obj:∃vs sl,h.get? e=some {cls:=.ref C,dict:=od,data:=.fields vs,slots:=sl}/\(vs[1]? = some .none\/∃T,vs[1]? = some (.ref T)/\Jz X H h T)
structure qz(X:Cx)(H:Hp)(h:Heap)(e C:Addr)(od:Option Addr)(T:Addr):Prop where
 at_:H e=some (xO e C od)
 obj:∃vs sl,h.get? e=some {cls:=.ref C,dict:=od,data:=.fields vs,slots:=sl}/\vs[1]? = some (.ref T)
 tb:Jz X H h T
section
variable{X:Cx}{ac:List (Addr×Obj)}{σ:St}{H:Hp}{s:Shared}{e C T L:Addr}{od:Option Addr}
theorem qz.PM{h:Heap}(f:qz X H h e C od T):Ov X H h e C od:=⟨f.at_,let ⟨vs,sl,h1,h2⟩:=f.obj;⟨vs,sl,h1,.inr ⟨T,h2,f.tb⟩⟩⟩
theorem Inv.Oo(I:Inv X [] σ H s)(t:Jz X H s.heap T):T≠X.env.locals/\(∀x c,X.env.cells.lookup x=some c->c≠T)/\∀p∈X.pn++[],p.1≠T:=by
 obtain⟨oT,ts,h1,h2,_⟩:=t.obj;refine⟨λz=>?_,λx c hc z=>?_,λp hp=>t.pn p (by simpa using hp)⟩
 ·obtain⟨m,⟨o',es,ep,ho',hd',_⟩,_⟩:=I.loc;rw[←z,h1]at ho';cases ho';rw[hd']at h2;cases h2
 ·obtain⟨v,o,ho,hd⟩:=I.cell x c hc;rw[z,h1]at ho;cases ho;rw[hd]at h2;cases h2
theorem Inv.mark(I:Inv X [] σ H s)(f:qz X H s.heap e C od T)(x:Value) :
  Inv X [] σ H {s with heap:=s.heap.update T (Obj.mapFields (·.setIfInBounds 3 x))}/\qz X H (s.heap.update T (Obj.mapFields (·.setIfInBounds 3 x))) e C od T:=by
 obtain⟨n1,n2,n3⟩:=I.Oo f.tb;obtain⟨oT,ts,h1,h2,h3⟩:=f.tb.obj;have keep:∀b o,b≠T->s.heap.get? b=some o->(s.heap.update T (Obj.mapFields (·.setIfInBounds 3 x))).get? b=some o:=λb o hb q=>(Heap.get?_update_other _ _ (Ne.symm hb)).trans q;have neT:e≠T:=λz=>by have:=f.at_;rw[z,f.tb.free]at this;cases this
 obtain⟨vs,sl,g1,g2⟩:=f.obj;have hd':=Obj.data_mapFields h2 (·.setIfInBounds 3 x);refine⟨I.turned (t':=s.toks) (it:=T) keep f.tb.free n1 (.inr f.tb.new) n2 n3,f.at_,⟨vs,sl,keep _ _ neT g1,g2⟩,f.tb.free,f.tb.new,f.tb.pn,_,_,Heap.get?_update_self _ h1 (Obj.isFreed_of_fields hd'),hd',by simpa using h3⟩
theorem f_{M:Model}{A:Around}{E:Value->Shared->Prop}{Q:Unit->Shared->Prop}(I:Inv X [] σ H s)(f:qz X H s.heap e C od T)(fr:Option Addr)
  (q:∀s',Inv X [] σ H s'->qz X H s'.heap e C od T->Q () s'):wpAny M A (setFlight (.ref e) fr) Q E s:=by
 obtain⟨vs,sl,g1,g2⟩:=f.obj;obtain⟨oT,ts,h1,h2,h3⟩:=f.tb.obj;unfold setFlight;refine TK (wpAny_field g1 rfl g2 ?_);have ne:(Value.ref T != Value.none)=true:=by simp
 rw[UE ne];have z:=I.mark f (fr.elim .none λf=>rawInt f);exact wpAny_setField h1 h2 h3 (q _ z.1 z.2)
theorem DQ{M:Model}{A:Around}{E:Value->Shared->Prop}{Q:Value->Shared->Prop}{env':Env}(hA:A.frames=some X.stack)(tp:Top X L)(hf:env'.frame=some L)(I:Inv X [] σ H s)
  (q:∀h',Inv X [] σ H {s with heap:=h'}->Heap.SlotsOnly (frs X.stack) s.heap h'->Q (.ref L) {s with heap:=h'}):wpAny M A (PySem.frameOf env') Q E s:=by
 obtain⟨e0,r,hst,h0⟩:=tp.ex;have hl:=I.stack;rw[hst]at hA hl;have dw:((e0::r).dropWhile λx=>x.frame != env'.frame)=e0::r:=by rw[hf];simp[List.dropWhile,h0]
 unfold PySem.frameOf;refine TK (wpAny_frameEnvs hA ?_);rw[dw];unfold frameObject;refine TK (TK (wpAny_readyFrames_fun hl λh1 hs1=>TM ?_));rw[h0];have e1:(e0::r).filterMap (·.frame)=frs X.stack:=by rw[hst];rfl
 rw[e1]at hs1;refine TM (q h1 ?_ hs1);refine I.call (g':=s.gens) (t':=s.toks) (d':=s.drawn) (ch:=[]) ⟨λb o hb _ hf _=>(hs1.2.1 b hf).trans hb,λb o hb _ _ _=>hs1.2.2 b o hb,λ_ _ _ n _=>n,λb o hb _=>let ⟨sl,z⟩:=hs1.2.2 b o hb;⟨_,z⟩,λ_ _ z=>z,λ_ _ _ z=>z,λb ps z=>⟨#[],by rw[z];simp⟩⟩ (λb u hb=>?_) I.bare λb hb=>UC hb (by simp);have nf:∀c v,H c=some v->c∉frs X.stack:=λc v hc hm=>by rw[I.lU c hm]at hc;cases hc
 refine(I.hok b u hb).stay (λc v hc z=>(hs1.2.1 c ?_).trans z) (λ_ z=>z) λ_ _ z=>z;rcases hc with rfl|hc
 ·exact nf c u hb
 ·exact nf c _ hc
theorem vI{M:Model}{A:Around}{E:Value->Shared->Prop}{Q:Unit->Shared->Prop}{env':Env}{head:Value}{hadNext:Bool}{vs:Array Value}{sl:Array (Option Value)}(hA:A.frames=some X.stack)(tp:Top X L)(hf:env'.frame=some L)(I:Inv X [] σ H s)
  (at_:H e=some (xO e C od)) (ho:s.heap.get? e=some {cls:=.ref C,dict:=od,data:=.fields vs,slots:=sl}) (h1:1<vs.size)
  (q:∀s' T,Inv X [] σ H s'->qz X H s'.heap e C od T->Q () s') :
  wpAny M A (do let a←PySem.frameOf env';let pl←entryPlaceOf L hadNext;let b←EntryCells.newEntry head a .none (rawInt L) .none pl;setField (.ref e) 1 b) Q E s:=by
 refine TK (DQ hA tp hf I λh2 I2 hs2=>?_);refine TK (wpAny_entryPlaceOf λpl hpl=>?_);unfold EntryCells.newEntry newFields;refine TK (Ux ?_ (hpl.sizeOk5 _ _ _ _ _));have ne:e∉frs X.stack:=λhm=>by rw[I.lU e hm]at at_;cases at_
 have ho2:h2.get? e=some {cls:=.ref C,dict:=od,data:=.fields vs,slots:=sl}:=(hs2.2.1 e ne).trans ho;generalize hTb:({cls:=.type "traceback",data:=.fields ([head,.ref L,.none,rawInt L,.none]++(if pl.isEmpty then List.replicate 6 Value.none else pl)).toArray}:Obj)=tb;have hTd:tb.data=.fields ([head,.ref L,.none,rawInt L,.none]++(if pl.isEmpty then List.replicate 6 Value.none else pl)).toArray:=by rw[←hTb]
 have hnf:tb.isFreed=false:=by rw[←hTb];rfl
 have I3:Inv X [] σ H {s with heap:=h2.push tb}:=I2.kept (t':=s.toks) λb o z=>TN _ z;have PN:(h2.push tb).get? e=some {cls:=.ref C,dict:=od,data:=.fields vs,slots:=sl}:=TN _ ho2;have MW:(h2.push tb).get? h2.objs.size=some tb:=TR _ hnf;have Oz:H h2.objs.size=none:=I2.hok.fresh (TU _);have neT:h2.objs.size≠e:=λz=>by rw[z]at Oz;rw[Oz]at at_;cases at_
 have Q4:∀p∈X.pn,p.1≠h2.objs.size:=λp hp z=>by have:=(I2.pin p (List.mem_append_left _ hp)).1;exact UC (TQ this) (by rw[z];exact Nat.lt_irrefl _)
 refine wpAny_setField PN rfl h1 ?_;have Qo:(Obj.mapFields (·.setIfInBounds 1 (Value.ref h2.objs.size)) {cls:=.ref C,dict:=od,data:=.fields vs,slots:=sl}) ={cls:=.ref C,dict:=od,data:=.fields (vs.setIfInBounds 1 (Value.ref h2.objs.size)),slots:=sl}:=rfl;have Ko:=Heap.get?_update_self (Obj.mapFields (·.setIfInBounds 1 (Value.ref h2.objs.size))) PN (by rw[Qo];rfl);rw[Qo]at Ko;have Hn:∀b o,b≠e->(h2.push tb).get? b=some o->((h2.push tb).update e (Obj.mapFields (·.setIfInBounds 1 (Value.ref h2.objs.size)))).get? b=some o:=λb o hb z=>(Heap.get?_update_other _ _ (Ne.symm hb)).trans z;have I4:=I3.write (h':=(h2.push tb).update e (Obj.mapFields (·.setIfInBounds 1 (Value.ref h2.objs.size)))) (t':=s.toks) (x:=e) (e:=e) (o:=xO e C od) (by rw[at_];trivial) (.inl rfl) Hn ⟨_,Ko⟩ (CO Ko);rw[Bl at_]at I4;refine q _ h2.objs.size I4 ⟨at_,⟨_,sl,Ko,by simp[h1]⟩,Oz,TV I2.sz (TU _),Q4,tb,_,Hn _ _ neT MW,hTd,?_⟩;simp only[Ue,T1,Uz,List.length_nil];omega
theorem oX{M:Model}{A:Around}{E:Value->Shared->Prop}{Q:Unit->Shared->Prop}{env':Env}(hA:A.frames=some X.stack)(tp:Top X L)(hf:env'.frame=some L)(I:Inv X [] σ H s)(f:Ov X H s.heap e C od)
  (q:∀s' T,Inv X [] σ H s'->qz X H s'.heap e C od T->Q () s'):wpAny M A (noteFrame (.ref e) env') Q E s:=by
 obtain⟨vs,sl,ho,alt⟩:=f.obj;unfold noteFrame;simp only[hf];rcases alt with h1|⟨T,h1,tb⟩
 ·refine TK (wpAny_field ho rfl h1 ?_);rw[UD (by decide)];exact vI hA tp hf I f.at_ ho (Array.getElem?_eq_some_iff.mp h1).1 q
 ·have fT:qz X H s.heap e C od T:=⟨f.at_,⟨vs,sl,ho,h1⟩,tb⟩;obtain⟨oT,ts,hT,hdT,h3⟩:=tb.obj;refine TK (wpAny_field ho rfl h1 ?_);have ne:(Value.ref T != Value.none)=true:=by simp
  rw[UE ne];refine TK (wpAny_field hT hdT (Uu h3) ?_);by_cases hm:(ts[3]==rawInt L)=true
  ·rw[UE hm];exact TM (q s T I fT)
  ·rw[UD hm];have z:=I.mark fT .none;refine TK (wpAny_setField hT hdT h3 ?_);obtain⟨vs',sl',ho',h1'⟩:=z.2.obj;exact vI hA tp hf z.1 f.at_ ho' (Array.getElem?_eq_some_iff.mp h1').1 q
end
def XE(X:Cx)(E:XK):Value->Shared->Prop:=λev s'=>∃e C od σ' H',ev=.ref e/\Inv X [] σ' H' s'/\Ov X H' s'.heap e C od/\E (.ref C) (some e) H'
abbrev Cx.xs(X:Cx)(E:XK):Cx:=X.wish (XE X E)
def vc(P:Program)(w:World):rb:=λouter H s E ev s'=>∃e C od H',ev=.ref e/\s'.os=s.os/\AllBare s'.gens/\Un (frs outer) [] H H' s.heap s'.heap/\jq P w H' s'.heap/\E (.ref C) (some e) H'/\H' e=some (xO e C od)/\
 ∃vs sl T oT ts,s'.heap.get? e=some {cls:=.ref C,dict:=od,data:=.fields vs,slots:=sl}/\vs[1]? = some (.ref T)/\H' T=none/\s.heap.objs.size<=T/\s'.heap.get? T=some oT/\oT.data=.fields ts/\3<ts.size
theorem MQ{P:Program}{w:World}{X:Cx}:Passes (vc P w) X E0:=λ_ _ _ _ _ _ _ h=>by obtain⟨_,_,_,_,_,_,_,_,_,f,_⟩:=h;exact f.elim
theorem uR{X:Cx}{E:XK}:Passes (vc X.prog X.w) (X.xs E) E:=by intro ac σ H s ev s' I h;obtain⟨e,C,od,H',rfl,os,bare,un,hok,hE,at_,vs,sl,T,oT,ts,ho,h1,hT,hn,hoT,hd,h3⟩:=h;have I':Inv (X.xs E) ac σ H' s':=I.call' (ch:=[]) os un hok bare λb z=>UC z (by simp);have I2:Inv X [] σ H' s':=(I'.gV (pins':=[]) λp hp=>UC hp (by simp)).cQ;refine⟨e,C,od,σ,H',rfl,I2,⟨at_,vs,sl,ho,.inr ⟨T,h1,hT,TV I.sz hn,λp hp z=>?_,oT,ts,hoT,hd,h3⟩⟩,hE⟩;have:=(I.pin p (List.mem_append_left _ hp)).1;exact UC (T9 (TQ this) hn) (by rw[z];exact Nat.lt_irrefl _)
theorem wF{X:Cx}{E:XK}{L:Addr}(tp:Top X L):PassesOwn (model X.prog X.w) X.A X.env (XE X E):=by
 intro ev s' h;obtain⟨e,C,od,σ,H,rfl,I,f,hE⟩:=h;refine oX I.ok.frames tp tp.fr I f λs2 T I2 f2=>?_;obtain⟨vs,sl,g1,g2⟩:=f2.obj;show wpAny _ _ (field (.ref e) 1 >>= _) _ _ s2;refine TK (wpAny_field g1 rfl g2 ?_);have ne:¬((Value.ref T==Value.none)=true):=by simp
 rw[UD ne];have fin:=f_ (M:=model X.prog X.w) (A:=X.A) (E:=XE X E) (Q:=λ_ s3=>XE X E (.ref e) s3) I2 f2 X.env.frame λs3 I3 f3=>⟨e,C,od,σ,H,rfl,I3,f3.PM,hE⟩;first
  |exact fin
  |exact TK (TM fin)
theorem D6{X:Cx}{E:XK}{L:Addr}{ev:Value}{s':Shared}{Q:Unit->Shared->Prop}{E2:Value->Shared->Prop}(tp:Top X L)(h:XE X E ev s')(q:∀e C od σ H s2 T,ev=.ref e->Inv X [] σ H s2->qz X H s2.heap e C od T->E (.ref C) (some e) H->Q () s2) :
  wpAny (model X.prog X.w) X.A (leaving X.env ev) Q E2 s':=by
 obtain⟨e,C,od,σ,H,rfl,I,f,hE⟩:=h;unfold leaving;exact TK (oX I.ok.frames tp tp.fr I f λs2 T I2 f2=>f_ I2 f2 none λs3 I3 f3=>q e C od σ H s3 T rfl I3 f3 hE)
section
variable{P:Program}{w:World}{K:UX}{mg:Str->Option Value}{base:Heap}
theorem pB{CX:rb}{N:List Str}{qual:Str}{sc:Scope}{f:Addr}{cd:Value}{A:Around}{outer:List Env}{s:Shared}{H:Hp}{E:XK}:Top (oA CX P w K mg base N qual sc f cd A outer s H E) s.heap.objs.size:=⟨⟨_,_,rfl,rfl⟩,rfl⟩
theorem Bb.Ie{x qual:Str}{st:Stmt}{f:Addr}{fd:FuncData}{N ps:List Str}{k:Nat}{sp:Sp}(F:Bb K x qual st f fd)(S:av N ps (ao st))(len:∀vs H Q E,sp vs H Q E->vs.length=ps.length)
  (hbody:∀(cdv:Value)(A:Around)(outer:List Env)(s:Shared)(H:Hp)(vs:List V)(Q:VK)(E:XK),dH k (A.deeper (envOfC qual (ao st) s.heap.objs.size f cdv))->sp vs H Q E->
   ∃t,pb ((oA (vc P w) P w K mg base N qual (ao st) f cdv A outer s H E).xs E) (cC st) t/\t {nx:=λ_ H'=>Q .non H',rt:=Q} (start N vs) H):e7 P w K mg base (vc P w) (k+1) f fd ps sp:=by
 obtain⟨oc,od,kV,doc,pm,an,cdv,ct,osl,rfl,lk,hcd⟩:=F.ex;refine Ho lk hcd S len λA outer s H vs Q E hr hsp=>?_;obtain⟨t,h,q⟩:=hbody cdv A outer s H vs Q E hr hsp;refine⟨t,λac s1 σ H1 D I hw=>?_,q⟩;refine Uv (h ac s1 σ H1 D (I.wish _) hw) (λ_ _ z=>z.cQ) λev s2 hx=>?_;refine D6 pB hx λe C od cD H2 s3 T ee I3 f3 hE=>?_;subst ee;obtain⟨Ro,Td,g1,g2⟩:=f3.obj;obtain⟨oT,ts,t1,t2,t3⟩:=f3.tb.obj;exact⟨e,C,od,H2,rfl,I3.os,I3.bare,I3.base,I3.hok,hE,f3.at_,Ro,Td,T,oT,ts,g1,g2,f3.tb.free,f3.tb.new,t1,t2,t3⟩
end
def J_(C:Addr)(E:XK)(t:TA):TS:=λ_ σ H=>t σ H λvs H1=>vs.length<=sizeLine/\∀a,H1 a=none->E (.ref C) (some a) (upd H1 a (xO a C none))
theorem DH{X:Cx}{E:XK}{C:Addr}{x:Str}{np cpos pos:Pos}{e:Expr}{es:List Expr}{t:TA}(hc:X.calm=true)(hx:iR X.K C ua "ValueError.__new__" none=true)(hg:Gl (X.xs E) x)(hm:X.mg x=some (.ref C))(ha:PA (X.xs E) (e::es) t)
  (hdb:(x==("__debug__" : Str))=false:=by decide) (he:starEach (e::es) X.env=(false,eval e X.env)::starEach es X.env:=by rfl) (hpl:(backTo cpos (starEach es X.env)).any (·.1)=false:=by rfl) :
  PS (X.xs E) (.Raise (some (.Call (.Name x np) (e::es) [] cpos)) none pos) (J_ C E t):=by
 intro ac s σ H D I h;obtain⟨bm,N,nm,q',bs,hd,sn,sub,ab,col,dd,k0,k1,k2,k3,k5,mN,hC,hN,hni,T⟩:=mR I.ok.mod.EV hx;have hall:(backTo cpos (starEach (e::es) X.env)).any (·.1)=false:=by rw[he];show(false||(backTo cpos (starEach es X.env)).any (·.1))=false;rw[hpl];rfl
 refine wpAny_Raise_call_subT (C:=C) (nm:=nm) (q:=q') (N:=N) (bs:=bs) (bm:=bm) (hdct:=hd) (sn:=sn) (sub:=sub) (ab:=ab) (col:=col) (dd:=dd) (k0:=k0) (k1:=k1) (k2:=k2) (k3:=k3) (k5:=k5)
  PySem.F.excBase_ValueError (mN:=mN) (T.hasType PySem.F.excBase_ValueError.hasBase) (I.ok.hd hc) hall hni (je I hg hm ⟨rfl,?_⟩ hdb)
 have hA:=ha cpos ac s σ H _ I h;rw[show starEach (e::es) (X.xs E).env=(false,eval e X.env)::starEach es X.env from he]at hA;rw[show starEach (e::es) (X.xs E).env=(false,eval e X.env)::starEach es X.env from he];refine Calls.evalArgs_plain (bJ hA λus s1 zz=>?_);obtain⟨vs,H1,I1,r,hz,q⟩:=zz;refine⟨rfl,by show us.length<=sizeLine;rw[←r.length];exact hz,I1.bk _ _ hC,hN.keeps I1.bk,T.keeps I1.bk,λh' a m=>?_⟩;obtain⟨tt,et,_,_⟩:=m.there;obtain⟨hn,I2⟩:=I1.NX m;have I3:=(I2.gV (pins':=[]) λp hp=>UC hp (by simp)).cQ;exact⟨a,C,none,σ,upd H1 a (xO a C none),rfl,I3,⟨ae,_,_,et,.inl rfl⟩,q a hn⟩
end L2
namespace L2
open PySem PyProof.Rows
theorem fs{N P:List Str}{sc:Scope}(h1:sc.kind=.function:=by rfl)(h2:sc.isCoroutine=false:=by rfl)(h3:sc.isGenerator=false:=by rfl)(h4:N.Nodup:=by decide +kernel)(h5:N.take P.length=P:=by rfl)
  (h6:∀x∈P,sc.names.lookup x=some .local\/sc.names.lookup x=some .cell:=by decide +kernel) (h7:∀y∈sc.names,y.2≠ .free:=by decide +kernel):av N P sc:=⟨h1,h2,h3,h4,h5,h6,h7⟩
theorem lenS{P:List Value->Prop}{n:Nat}(h:∀a,∀l:List Value,l.length=n->P (a::l)):∀us:List Value,us.length=n+1->P us:=by
 intro us hl;cases us with
 |nil=>cases hl
 |cons a l=>exact h a l (Nat.succ.inj hl)
theorem len0{P:List Value->Prop}(h:P []):∀us:List Value,us.length=0->P us:=by
 intro us hl;cases us with
 |nil=>exact h
 |cons a l=>cases hl
theorem Et{P:List Value->Prop}(h:∀a0,P [a0]):∀us:List Value,us.length=1->P us:=lenS λa=>len0 (P:=λl=>P (a::l)) (h a)
theorem HR{P:List Value->Prop}(h:∀a0 a1,P [a0,a1]):∀us:List Value,us.length=2->P us:=lenS λa=>Et (P:=λl=>P (a::l)) (h a)
theorem Gn{P:List Value->Prop}(h:∀a0 a1 a2,P [a0,a1,a2]):∀us:List Value,us.length=3->P us:=lenS λa=>HR (P:=λl=>P (a::l)) (h a)
theorem HK{P:List Value->Prop}(h:∀a0 a1 a2 a3,P [a0,a1,a2,a3]):∀us:List Value,us.length=4->P us:=lenS λa=>Gn (P:=λl=>P (a::l)) (h a)
theorem Ka{P:List Value->Prop}(h:∀a0 a1 a2 a3 a4,P [a0,a1,a2,a3,a4]):∀us:List Value,us.length=5->P us:=lenS λa=>HK (P:=λl=>P (a::l)) (h a)
structure FA(K:UX)(mg:Str->Option Value)(x:Str)(st:Stmt):Prop where
 ex:∃f fd,Bb K x x st f fd/\mg x=some (.ref f)
structure bA(CX:rb)(P:Program)(w:World)(K:UX)(mg:Str->Option Value)(base:Heap)(k:Nat)(x:Str)(ps:List Str)(sp:Sp):Prop where
 ex:∃f fd,e7 P w K mg base CX k f fd ps sp/\Binds K fd ps []/\PySem.W.keepIn K (.ref f)=true/\mg x=some (.ref f)
def FnAt(P:Program)(w:World)(K:UX)(mg:Str->Option Value)(base:Heap)(k:Nat)(f:Addr)(ps:List Str)(sp:Sp):Prop :=
 ∃fd,e7 P w K mg base bx k f fd ps sp/\Binds K fd ps []/\PySem.W.keepIn K (.ref f)=true
section
variable{CX:rb}{P:Program}{w:World}{K:UX}{mg:Str->Option Value}{base:Heap}{x:Str}{st:Stmt}{ps N:List Str}{sp:Sp}{j k:Nat}
theorem bA.m(G:bA CX P w K mg base j x ps sp)(h:j<=k:=by decide):bA CX P w K mg base k x ps sp:=by obtain⟨f,fd,h1,h2⟩:=G.ex;exact⟨f,fd,h1.mono h,h2⟩
theorem bA.at{f:Addr}(G:bA bx P w K mg base k x ps sp)(h:mg x=some (.ref f)):FnAt P w K mg base k f ps sp:=by obtain⟨g,fd,h1,h2,h3,h4⟩:=G.ex;cases h4.symm.trans h;exact⟨fd,h1,h2,h3⟩
theorem FA.cal(F:FA K mg x st)(ok:∀f fd,Bb K x x st f fd->e7 P w K mg base CX k f fd ps sp)
  (hb:∀(kV doc pm:Value)(an:Option Addr)(cdv ct:Value)(us:List Value),us.length=ps.length->bindArgs (PySem.W.fnOf x x (dk st) (cC st) (ao st) .none kV doc pm an cdv ct) ⟨us,[]⟩=pure (ps.zip us):=by first
   | (intro _ _ _ _ _ _;refine L2.Et ?_;intro _;rfl)
   | (intro _ _ _ _ _ _;refine L2.HR ?_;intro _ _;rfl)
   | (intro _ _ _ _ _ _;refine L2.Gn ?_;intro _ _ _;rfl)
   | (intro _ _ _ _ _ _;refine L2.HK ?_;intro _ _ _ _;rfl)
   | (intro _ _ _ _ _ _;refine L2.Ka ?_;intro _ _ _ _ _;rfl)):bA CX P w K mg base k x ps sp:=by
 obtain⟨f,fd,h1,h2⟩:=F.ex;exact⟨f,fd,ok f fd h1,h1.binds hb,h1.kp,h2⟩
theorem FA.ok(F:FA K mg x st)(S:av N ps (ao st))
  (hbody:∀(f:Addr)(cdv:Value)(A:Around)(outer:List Env)(s:Shared)(H:Hp)(vs:List V)(Q:VK)(E:XK),dH k (A.deeper (envOfC x (ao st) s.heap.objs.size f cdv))->sp vs H Q E->
   ∃t,pb (oA bx P w K mg base N x (ao st) f cdv A outer s H E).yC (cC st) t/\t {nx:=λ_ H'=>Q .non H',rt:=Q} (start N vs) H)
  (len:∀vs H Q E,sp vs H Q E->vs.length=ps.length:=by
   intro vs H Q E h;first
   |exact UJ h
   | (obtain⟨_,rfl,_⟩:=h;rfl)
   | (obtain⟨_,_,rfl,_⟩:=h;rfl)
   | (obtain⟨_,_,_,rfl,_⟩:=h;rfl)
   | (obtain⟨_,_,_,_,rfl,_⟩:=h;rfl)
   | (obtain⟨_,_,_,_,_,rfl,_⟩:=h;rfl)
   | (obtain⟨_,_,_,_,_,_,rfl,_⟩:=h;rfl)
   | (obtain⟨_,_,_,_,_,_,_,rfl,_⟩:=h;rfl)
   | (obtain⟨_,_,_,_,_,_,_,_,rfl,_⟩:=h;rfl)
   | (obtain⟨_,_,_,_,_,_,_,_,_,rfl,_⟩:=h;rfl)
   | (obtain⟨_,_,_,_,_,_,_,_,_,_,rfl,_⟩:=h;rfl)
   | (obtain⟨_,_,_,_,_,_,_,_,_,_,_,rfl,_⟩:=h;rfl))
  (hb:∀(kV doc pm:Value)(an:Option Addr)(cdv ct:Value)(us:List Value),us.length=ps.length->bindArgs (PySem.W.fnOf x x (dk st) (cC st) (ao st) .none kV doc pm an cdv ct) ⟨us,[]⟩=pure (ps.zip us):=by first
   | (intro _ _ _ _ _ _;refine L2.Et ?_;intro _;rfl)
   | (intro _ _ _ _ _ _;refine L2.HR ?_;intro _ _;rfl)
   | (intro _ _ _ _ _ _;refine L2.Gn ?_;intro _ _ _;rfl)
   | (intro _ _ _ _ _ _;refine L2.HK ?_;intro _ _ _ _;rfl)
   | (intro _ _ _ _ _ _;refine L2.Ka ?_;intro _ _ _ _ _;rfl)):bA bx P w K mg base (k+1) x ps sp :=
 F.cal (λf fd h1=>h1.ok S len λcdv A outer s H vs Q E=>hbody f cdv A outer s H vs Q E) hb
theorem FA.Ie(F:FA K mg x st)(S:av N ps (ao st))
  (hbody:∀(f:Addr)(cdv:Value)(A:Around)(outer:List Env)(s:Shared)(H:Hp)(vs:List V)(Q:VK)(E:XK),dH k (A.deeper (envOfC x (ao st) s.heap.objs.size f cdv))->sp vs H Q E->
   ∃t,pb ((oA (vc P w) P w K mg base N x (ao st) f cdv A outer s H E).xs E) (cC st) t/\t {nx:=λ_ H'=>Q .non H',rt:=Q} (start N vs) H)
  (len:∀vs H Q E,sp vs H Q E->vs.length=ps.length:=by
   intro vs H Q E h;first
   |exact UJ h
   | (obtain⟨_,rfl,_⟩:=h;rfl)
   | (obtain⟨_,_,rfl,_⟩:=h;rfl)
   | (obtain⟨_,_,_,rfl,_⟩:=h;rfl)
   | (obtain⟨_,_,_,_,rfl,_⟩:=h;rfl)
   | (obtain⟨_,_,_,_,_,rfl,_⟩:=h;rfl)
   | (obtain⟨_,_,_,_,_,_,rfl,_⟩:=h;rfl)
   | (obtain⟨_,_,_,_,_,_,_,rfl,_⟩:=h;rfl)
   | (obtain⟨_,_,_,_,_,_,_,_,rfl,_⟩:=h;rfl)
   | (obtain⟨_,_,_,_,_,_,_,_,_,rfl,_⟩:=h;rfl)
   | (obtain⟨_,_,_,_,_,_,_,_,_,_,rfl,_⟩:=h;rfl)
   | (obtain⟨_,_,_,_,_,_,_,_,_,_,_,rfl,_⟩:=h;rfl))
  (hb:∀(kV doc pm:Value)(an:Option Addr)(cdv ct:Value)(us:List Value),us.length=ps.length->bindArgs (PySem.W.fnOf x x (dk st) (cC st) (ao st) .none kV doc pm an cdv ct) ⟨us,[]⟩=pure (ps.zip us):=by first
   | (intro _ _ _ _ _ _;refine L2.Et ?_;intro _;rfl)
   | (intro _ _ _ _ _ _;refine L2.HR ?_;intro _ _;rfl)
   | (intro _ _ _ _ _ _;refine L2.Gn ?_;intro _ _ _;rfl)
   | (intro _ _ _ _ _ _;refine L2.HK ?_;intro _ _ _ _;rfl)
   | (intro _ _ _ _ _ _;refine L2.Ka ?_;intro _ _ _ _ _;rfl)):bA (vc P w) P w K mg base (k+1) x ps sp :=
 F.cal (λf fd h1=>h1.Ie S len λcdv A outer s H vs Q E=>hbody f cdv A outer s H vs Q E) hb
end
section
variable{X:Cx}{CX:rb}{x:Str}{ps:List Str}{sp:Sp}{j k:Nat}{E:XK}{e:Expr}{es:List Expr}{t:TA}{p pos:Pos}
theorem ql(G:bA CX X.prog X.w X.K X.mg X.base j x ps sp)(hr:dH k X.A)(hg:Gl X x)(hx:Passes CX X E)(ha:PA X (e::es) t)(hl:j<=k:=by omega)
  (hdb:(x==("__debug__" : Str))=false:=by decide) (he:starEach (e::es) X.env=(false,eval e X.env)::starEach es X.env:=by rfl) (hpl:(backTo pos (starEach es X.env)).any (·.1)=false:=by rfl) :
  PE X (.Call (.Name x p) (e::es) [] pos) (kW sp [] E t):=by
 obtain⟨f,fd,h1,h2,h3,h4⟩:=G.ex;exact Gb (h1.mono hl) hr hg h4 h3 h2 .nil hx ha hdb he hpl
end
section
variable{X:Cx}{a b e:Expr}{ta tb te:TE}{pos p pos2:Pos}{es:List Expr}{t:TA}
theorem aX(K:UX)(ha:PE X a ta)(hb:PE X b tb)(e:X.K=K:=by rfl)(hs:oZ b:=by exact λ_ _=>rfl):PE X (.Subscript a b pos) (fQ (qo K) ta tb):=by subst e;exact iE xf ha hb hs
theorem bM(K:UX)(ha:PE X a ta)(hb:PE X b tb)(e:X.K=K:=by rfl)(hs:oZ b:=by exact λ_ _=>rfl):PE X (.Subscript a b pos) (fQ (lP K) ta tb):=by subst e;exact iE eE ha hb hs
theorem bg{op:CmpOp}{r:R2}(ho:jl X (compareOp op) r)(ha:PE X a ta)(hb:PE X b tb)(hm:behindInMarks op b=false:=by exact B1 _):PT X (.Compare a [op] [b] pos) (kY (fQ r ta tb)):=fR ho ha hb hm
theorem jL{op:CmpOp}{r:R2}(ho:jl X (compareOp op) r)(ha:PE X a ta)(hb:PE X b tb)(hm:behindInMarks op b=false:=by exact B1 _):PE X (.Compare a [op] [b] pos) (fQ r ta tb):=km ho ha hb hm
theorem aL{x:Str}{ps:List Str}{sp:Sp}{j k:Nat}(G:bA bx X.prog X.w X.K X.mg X.base j x ps sp)(hr:dH k X.A)(ha:PA X (e::es) t)(hg:Gl X x:=by rfl)(hl:j<=k:=by omega)
  (hdb:(x==("__debug__" : Str))=false:=by decide) (he:starEach (e::es) X.env=(false,eval e X.env)::starEach es X.env:=by rfl) (hpl:(backTo pos (starEach es X.env)).any (·.1)=false:=by rfl) :
  PE X (.Call (.Name x p) (e::es) [] pos) (kW sp [] E0 t):=ql G hr hg rG ha hl hdb he hpl
theorem ax(he:PE X e te):pb X [.Return (some e) pos] (F0 te):=b_ (JM he)
theorem bu{c:Expr}{tc:TT}{u:TS}{rest:List Stmt}(hc:PT X c tc)(he:PE X e te)(hr:pb X rest u):pb X (.If c [.Return (some e) pos] [] pos2::rest) (xN (E4 tc (F0 te) uu) u):=aq (jv hc (ax he) fv) hr
end
theorem iH{A:Around}{k:Nat}(hr:dH k A):A.units+8<cLine:=by have:=hr.un;omega
theorem m_:0<=sizeLine:=by decide
theorem cN:1<=sizeLine:=by decide
theorem cn:2<=sizeLine:=by decide
theorem cm:3<=sizeLine:=by decide
theorem zU:4<=sizeLine:=by decide
theorem Lv:5<=sizeLine:=by decide
def FK(K:UX)(x:Str)(st:Stmt)(f:Addr):Prop:=PySem.W.nsIn K mainGlobals x=some (some (.ref f))/\∃fd,Bb K x x st f fd
theorem FK.fa{K:UX}{h:Heap}{mg:Str->Option Value}{x:Str}{st:Stmt}{f:Addr}(F:FK K x st f)(X:K.In h)(G:h.Ns mainGlobals mg):FA K mg x st:=by obtain⟨h1,fd,h2⟩:=F;exact⟨f,fd,h2,UW X G h1⟩
theorem FK.h{K:UX}{h:Heap}{mg:Str->Option Value}{x:Str}{st:Stmt}{f:Addr}(F:FK K x st f)(X:K.In h)(G:h.Ns mainGlobals mg):mg x=some (.ref f):=UW X G F.1
theorem MN{K:UX}{x:Str}{st:Stmt}{f:Addr}{oc:Value}{od an:Option Addr}{osl:Array (Option Value)}{kV doc pm cdv ct:Value}(a:PySem.W.nsIn K mainGlobals x=some (some (.ref f)))
  (l:K.lookup f=some ⟨oc,od,.func (PySem.W.fnOf x x (dk st) (cC st) (ao st) .none kV doc pm an cdv ct),osl⟩) (c:PySem.W.codeIn K cdv x=true) (k:PySem.W.keepIn K (.ref f)=true):FK K x st f :=
 ⟨a,_,wX l c k⟩
end L2
namespace L2
open PySem PySem.Spec PyProof.Rows
section
variable{X:Cx}{ac:List (Addr×Obj)}{σ:St}{H:Hp}{s:Shared}
theorem yn{xs:List V}{its:List Value}(r:Vals xs its){j:Nat}(h:j<its.toArray.size):∃x,xs[j]? = some x/\RelV x its.toArray[j]:=by
 have hj:j<its.length:=by simpa using h
 have hx:j<xs.length:=by rw[r.length];exact hj
 refine⟨xs[j],by simp[hx],?_⟩;obtain⟨u,e,ru⟩:=r.get (i:=j) (x:=xs[j]) (by simp[hx]);have e':its[j]=u:=by rw[T_ hj]at e;exact Up e
 show RelV xs[j] its[j];rw[e'];exact ru
end
section
variable{X:Cx}
theorem uL{bs:List Bool}{its:List Value}(r:Vals (bs.map V.bl) its){i:Nat}{v:Value}(h:its.toArray[i]? = some v):∃b,bs[i]? = some b/\v=.bool b:=by
 have h':its[i]? = some v:=by simpa using h
 have hi:=(Ug.mp h').1;have hb:i<bs.length:=by have:=r.length;rw[TZ]at this;omega
 obtain⟨u,e,ru⟩:=r.get (i:=i) (x:=.bl bs[i]) (by rw[Us,T_ hb];rfl);rw[h']at e;cases e;exact⟨bs[i],T_ hb,ru⟩
theorem range_all(bs:List Bool):(List.range bs.length).all (λi=>bs.getD i true)=bs.all id:=by
 induction bs with
 |nil=>rfl
 |cons b r ih =>rw[Uz,List.range_succ_eq_map,List.all_cons,List.all_map,List.all_cons];show(b&&_)=(b&&_);rw[←ih];rfl
theorem range_any(bs:List Bool):(List.range bs.length).any (λi=>bs.getD i true)=bs.any id:=by
 induction bs with
 |nil=>rfl
 |cons b r ih =>rw[Uz,List.range_succ_eq_map,UT,List.any_map,UT];show(b||_)=(b||_);rw[←ih];rfl
theorem iL(hc:X.calm=true):e_ X (.builtin "all") (λxs H Q=>∃(p:Addr)(bs:List Bool),xs=[.ref p]/\bj X.K H p (bs.map V.bl)/\Q (.bl (bs.all id)) H):=by
 intro ac s σ H xs us Q I r h;obtain⟨p,bs,rfl,hS,q⟩:=h;obtain⟨u,rfl,ru⟩:=vals1 r;cases ru;obtain⟨its,rv,pl,hz⟩:=I.list hS;have hp:p<s.heap.objs.size:=by obtain⟨o,e,_⟩:=pl.isList;exact TQ e
 have hl:its.toArray.size=bs.length:=by have:=rv.length;rw[TZ]at this;simp[this]
 refine call_all_walk (wpAny_pyIter_list pl.isList ?_);refine⟨s.heap.objs.size,_,_,_,_,_,λi=>bs.getD i true,rfl,Walks.list (A:=X.A.in1) (I.ok.hd hc) _ p (Um hp) its.toArray,⟨⟨_,TR _ rfl,rfl,rfl⟩,?_⟩,?_,λh' tk hk=>?_⟩
 ·obtain⟨o,e,z⟩:=pl.isList;exact⟨o,TN _ e,z⟩
 ·intro i v s' Q' E' hv hq;obtain⟨b,e,rfl⟩:=uL rv hv;refine wpAny_truthy_bool ?_;have:bs.getD i true=b:=by rw[List.getD_eq_getElem?_getD,e];rfl
  rw[←this];exact hq
 ·rw[hl,range_all];have I1:Inv X ac σ H {s with heap:=s.heap.push {cls:=.type "list_iterator",data:=.fields #[.ref p,.int 0 0]}}:=I.kept (t':=s.toks) λb o e=>TN _ e;have f:=I.nC (b:=s.heap.objs.size) (H':=H) (TU _) (I.hok.fresh (TU _));exact⟨.bl _,H,I1.turned (λb o hb e=>hk b o (by simpa using hb) e) f.1 f.2.1 f.2.2.2.1 f.2.2.2.2.1 f.2.2.2.2.2,rfl,q⟩
theorem nQ(hc:X.calm=true):e_ X (.builtin "any") (λxs H Q=>∃(p:Addr)(bs:List Bool),xs=[.ref p]/\bj X.K H p (bs.map V.bl)/\Q (.bl (bs.any id)) H):=by
 intro ac s σ H xs us Q I r h;obtain⟨p,bs,rfl,hS,q⟩:=h;obtain⟨u,rfl,ru⟩:=vals1 r;cases ru;obtain⟨its,rv,pl,hz⟩:=I.list hS;have hp:p<s.heap.objs.size:=by obtain⟨o,e,_⟩:=pl.isList;exact TQ e
 have hl:its.toArray.size=bs.length:=by have:=rv.length;rw[TZ]at this;simp[this]
 refine call_any_walk (wpAny_pyIter_list pl.isList ?_);refine⟨s.heap.objs.size,_,_,_,_,_,λi=>bs.getD i true,rfl,Walks.list (A:=X.A.in1) (I.ok.hd hc) _ p (Um hp) its.toArray,⟨⟨_,TR _ rfl,rfl,rfl⟩,?_⟩,?_,λh' tk hk=>?_⟩
 ·obtain⟨o,e,z⟩:=pl.isList;exact⟨o,TN _ e,z⟩
 ·intro i v s' Q' E' hv hq;obtain⟨b,e,rfl⟩:=uL rv hv;refine wpAny_truthy_bool ?_;have:bs.getD i true=b:=by rw[List.getD_eq_getElem?_getD,e];rfl
  rw[←this];exact hq
 ·rw[hl,range_any];have I1:Inv X ac σ H {s with heap:=s.heap.push {cls:=.type "list_iterator",data:=.fields #[.ref p,.int 0 0]}}:=I.kept (t':=s.toks) λb o e=>TN _ e;have f:=I.nC (b:=s.heap.objs.size) (H':=H) (TU _) (I.hok.fresh (TU _));exact⟨.bl _,H,I1.turned (λb o hb e=>hk b o (by simpa using hb) e) f.1 f.2.1 f.2.2.2.1 f.2.2.2.2.1 f.2.2.2.2.2,rfl,q⟩
end
section
variable{elt t1 i1 t2 i2:Expr}{f1 f2:List Expr}{sc:Scope}{pos:Pos}
abbrev qL(elt t1 i1:Expr)(f1:List Expr)(t2 i2:Expr)(f2:List Expr)(sc:Scope)(pos:Pos):Expr:=.ListComp elt [⟨t1,i1,f1,0⟩,⟨t2,i2,f2,0⟩] sc pos
theorem pL(it acc:Value)(env:Env) :
  compTurn (qL elt t1 i1 f1 t2 i2 f2 sc pos) 0 it acc env=(do
   standAt i1.pos
   match←pyNext it with
   |none=>pure (.done .next)
   |some v =>
    letOwnedTupleGo t1 it v
    assign t1 env v
    let mut ok:=true
    for c in f1 do
     if ok then ok←isTrue c env (eval c env)
    if ok then
     let x←eval i2 env
     standAt i2.pos
     let x←foldedSetIterable i2 env x
     let _←runOwn (.compStart (qL elt t1 i1 f1 t2 i2 f2 sc pos) 1 (←holding [x] (pyIter x)) acc env) env
    again (.compLoop (qL elt t1 i1 f1 t2 i2 f2 sc pos) 0 it acc env)):=by rfl
theorem pP(it acc:Value)(env:Env) :
  compTurn (qL elt t1 i1 f1 t2 i2 f2 sc pos) 1 it acc env=(do
   standAt i2.pos
   match←pyNext it with
   |none=>pure (.done .next)
   |some v =>
    letOwnedTupleGo t2 it v
    assign t2 env v
    let mut ok:=true
    for c in f2 do
     if ok then ok←isTrue c env (eval c env)
    if ok then
     (do let _←call (.builtin "list.append") [acc,←eval elt env])
    again (.compLoop (qL elt t1 i1 f1 t2 i2 f2 sc pos) 1 it acc env)):=by rfl
section
variable{it acc:Value}{env:Env}{prog:Program}{w:World}{A:Around}{s:Shared}{R:Result->Shared->Prop}
theorem t_(Iv:Nat->Shared->Prop)
  (turn:∀n s,Iv n s->wpAny (model prog w) A (pyNext it) (λr s₁=>match r with
   |none=>R (.ok .next) s₁
   |some v=>wpAny (model prog w) A (letOwnedTupleGo t2 it v) (λ_ s₁'=>wpAny (model prog w) A (assign t2 env v) (λ_ s₂ =>
     wpAny (model prog w) A (forIn f2 true λc r=>if r=true then do let ok←isTrue c env (eval c env);pure (ForInStep.yield ok)else pure (ForInStep.yield r)) (λok s₃ =>
      if ok=true then wpAny (model prog w) A (eval elt env) (λx s₄ =>
       wpAny (model prog w) A (call (.builtin "list.append") [acc,x]) (λ_ s₅=>∃m,m<n/\Iv m s₅) (λ_ _=>False) s₄) (λ_ _=>False) s₃
      else∃m,m<n/\Iv m s₃) (λ_ _=>False) s₂) (λ_ _=>False) s₁') (λ_ _=>False) s₁) (λ_ _=>False) s)
  (n:Nat) (h:Iv n s) :
  codeAny (model prog w) A (.compLoop (qL elt t1 i1 f1 t2 i2 f2 sc pos) 1 it acc env) R s:=by
 refine codeAny_loop rfl Iv (λn s hI=>?_) n h;show wpAny _ A ((compTurn (qL elt t1 i1 f1 t2 i2 f2 sc pos) 1 it acc env).onRaise (λx=>do noteFrame x env;theTreesLotGoes x)) _ _ s;refine wpAny_noted ?_;rw[pP];refine TK (wpAny_standAt (TK (Uv (turn n s hI) (λr s₁ h₁=>?_) λ_ _ h'=>h'.elim)));cases r with
 |none=>exact TM h₁
 |some v =>
  refine TK (Uv h₁ (λ_ s₁' h₁'=>TK (Uv h₁' (λ_ s₂ h₂=>TK (Uv h₂ (λok s₃ h₃=>?_) λ_ _ h'=>h'.elim)) λ_ _ h'=>h'.elim)) λ_ _ h'=>h'.elim);cases ok with
  |false=>exact TM ⟨rfl,h₃⟩
  |true =>exact TK (TK (Uv h₃ (λx s₄ h₄=>TK (Uv h₄ (λ_ s₅ h₅=>TM (TM ⟨rfl,h₅⟩)) λ_ _ h'=>h'.elim)) λ_ _ h'=>h'.elim))
theorem qQ(hs:∀x,foldedSetIterable i2 env x=pure x)(Iv:Nat->Shared->Prop)
  (turn:∀n s,Iv n s->wpAny (model prog w) A (pyNext it) (λr s₁=>match r with
   |none=>R (.ok .next) s₁
   |some v=>wpAny (model prog w) A (letOwnedTupleGo t1 it v) (λ_ s₁'=>wpAny (model prog w) A (assign t1 env v) (λ_ s₂ =>
     wpAny (model prog w) A (forIn f1 true λc r=>if r=true then do let ok←isTrue c env (eval c env);pure (ForInStep.yield ok)else pure (ForInStep.yield r)) (λok s₃ =>
      if ok=true then wpAny (model prog w) A (eval i2 env) (λx s₄=>wpAny (model prog w) A (pyIter x) (λPq s₅ =>
       codeAny (model prog w) A (.compStart (qL elt t1 i1 f1 t2 i2 f2 sc pos) 1 Pq acc env) (λr s'=>match r with | .ok _=>∃m,m<n/\Iv m s' | .error _=>False) s₅) (λ_ _=>False) s₄) (λ_ _=>False) s₃
      else∃m,m<n/\Iv m s₃) (λ_ _=>False) s₂) (λ_ _=>False) s₁') (λ_ _=>False) s₁) (λ_ _=>False) s)
  (n:Nat) (h:Iv n s) :
  codeAny (model prog w) A (.compLoop (qL elt t1 i1 f1 t2 i2 f2 sc pos) 0 it acc env) R s:=by
 refine codeAny_loop rfl Iv (λn s hI=>?_) n h;show wpAny _ A ((compTurn (qL elt t1 i1 f1 t2 i2 f2 sc pos) 0 it acc env).onRaise (λx=>do noteFrame x env;theTreesLotGoes x)) _ _ s;refine wpAny_noted ?_;rw[pL];refine TK (wpAny_standAt (TK (Uv (turn n s hI) (λr s₁ h₁=>?_) λ_ _ h'=>h'.elim)));cases r with
 |none=>exact TM h₁
 |some v =>
  refine TK (Uv h₁ (λ_ s₁' h₁'=>TK (Uv h₁' (λ_ s₂ h₂=>TK (Uv h₂ (λok s₃ h₃=>?_) λ_ _ h'=>h'.elim)) λ_ _ h'=>h'.elim)) λ_ _ h'=>h'.elim);cases ok with
  |false=>exact TM ⟨rfl,h₃⟩
  |true =>
   refine TK (Uv h₃ (λx s₄ h₄=>?_) λ_ _ h'=>h'.elim);refine TK (wpAny_standAt (TK (wpAny_of_eq (hs x) ?_)));refine TK (Uw (Uv h₄ (λPq s₅ h₅=>?_) λ_ _ h'=>h'.elim));refine TK (wpAny_runOwn (codeAny_mono h₅ λr s' hr=>?_));cases r with
   |ok f=>exact TM ⟨rfl,hr⟩
   |error x=>exact hr.elim
theorem jH
  (h0:codeAny (model prog w) A (.compLoop (qL elt t1 i1 f1 t2 i2 f2 sc pos) 1 it acc env) R s)
  (h:wpAny (model prog w) A (pyIter it) (λit' s'=>codeAny (model prog w) A (.compLoop (qL elt t1 i1 f1 t2 i2 f2 sc pos) 1 it' acc env) R s')
   (notedBy (model prog w) A env λx s'=>R (.error x) s') s) :
  codeAny (model prog w) A (.compStart (qL elt t1 i1 f1 t2 i2 f2 sc pos) 1 it acc env) R s:=by
 refine codeAny_of_tree ?_;show wpAny _ _ ((compStart (qL elt t1 i1 f1 t2 i2 f2 sc pos) 1 it acc env).onRaise (λx=>do noteFrame x env;standAt theWindowsPlace)) _ _ s;refine wpAny_notedAt ?_;unfold compStart;show wpAny _ _ (ask >>= _) _ _ s;refine TK (wpAny_askSetting (wpAny_ite ?_));split
 ·first
   |exact TK (TM (TM (And.intro rfl h0)))
   |exact TM (And.intro rfl h0)
 ·first
   |exact TK (wpAny_rule (TK (wpAny_standAt (TK (Uv h (λit' s' h'=>TM (And.intro rfl h')) λ_ _ x=>x)))))
   | (refine TK (wpAny_rule ?_);show wpAny _ _ (standAt i2.pos >>= _) _ _ s;exact TK (wpAny_standAt (TK (Uv h (λit' s' h'=>TM (And.intro rfl h')) λ_ _ x=>x))))
end
end
def qm(J:It)(g:TG)(tc:TT)(te:TE)(D:Addr)(N:St->List V->Hp->Prop)(W:Nat->Nat->St->List V->Hp->Prop):Prop :=
 ∀i m σ ys H,W i m σ ys H->H D=some (.lst ys)/\((J.stop i H/\N σ ys H)\/(J.go i H/\ys.length<sizeLine/\∃N2:St->List V->Hp->Prop,(∀σ' ys' H',N2 σ' ys' H'->∃m',m'<m/\W (i+1) m' σ' ys' H')/\
  ∀x H',J.Ci i H x H'->g x σ H' λcD H2=>tc cD H2 λb H3 =>
   if b=true then te cD H3 λv H4=>H4 D=some (.lst ys)/\N2 cD (ys++[v]) (upd H4 D (.lst (ys++[v])))else N2 cD ys H3))
def sH(J:It)(g:TG)(tc:TT)(wi2:TI)(g2:TG)(sk:TT)(te:TE)(D:Addr)(Q:VK)(W:Nat->Nat->St->List V->Hp->Prop):Prop :=
 ∀i m σ ys H,W i m σ ys H->H D=some (.lst ys)/\((J.stop i H/\Q (.ref D) H)\/(J.go i H/\∃N:St->List V->Hp->Prop,(∀σ' ys' H',N σ' ys' H'->∃m',m'<m/\W (i+1) m' σ' ys' H')/\
  ∀x H',J.Ci i H x H'->g x σ H' λcD H2=>tc cD H2 λb H3 =>
   if b=true then wi2 cD H3 λJ2 H4=>∃W2:Nat->Nat->St->List V->Hp->Prop,(∃m,W2 0 m cD ys H4)/\qm J2 g2 sk te D N W2 else N cD ys H3))
def Cu(src:List (Option Nat))(wi:TI)(g:TG)(tc:TT)(wi2:TI)(g2:TG)(sk:TT)(te:TE):TE:=λσ H Q=>wi σ H λJ H1=>∀D,H1 D=none->
 ∃W:Nat->Nat->St->List V->Hp->Prop,(∃m,W 0 m (iW src σ) [] (upd H1 D (.lst [])))/\sH J g tc wi2 g2 sk te D Q W
section
variable{X:Cx}{elt t1 i1 t2 i2:Expr}{f1 f2:List Expr}{sc:Scope}{pos:Pos}{wi wi2:TI}{g g2:TG}{tc sk:TT}{te:TE}{N':List Str}{src:List (Option Nat)}
theorem wq{Y:Cx}(hc:Y.calm=true)(MY:Y.xe = λ_ _=>False)(hg:PG Y t2 g2)(ht:iF Y f2 sk)(he:PE Y elt te)
  {ac:List (Addr×Obj)} {σ:St} {H:Hp} {s:Shared} {ys:List V} {it D:Addr} {fp:List Addr} {tn:Nat->Heap->Prop} {J:It} {N:St->List V->Hp->Prop} {R:Result->Shared->Prop}
  (I:Inv Y ac σ H s) (T:Turn Y.prog Y.w Y.K t2 J fp it tn) (st:tn 0 s.heap) (ff:∀b∈fp,cS Y ac H b) {W:Nat->Nat->St->List V->Hp->Prop} {m:Nat} (w0:W 0 m σ ys H) (hW:qm J g2 sk te D N W)
  (hR:∀σ' ys' H' s',Inv Y ac σ' H' s'->N σ' ys' H'->R (.ok .next) s') :
  codeAny (model Y.prog Y.w) Y.A (.compStart (qL elt t1 i1 f1 t2 i2 f2 sc pos) 1 (.ref it) (.ref D) Y.env) R s:=by
 have stat:∀{H':Hp},(∀b∈fp,H' b=none)->∀b∈fp,cS Y ac H' b:=λhn b hb=>⟨hn b hb,(ff b hb).2⟩;have loop:codeAny (model Y.prog Y.w) Y.A (.compLoop (qL elt t1 i1 f1 t2 i2 f2 sc pos) 1 (.ref it) (.ref D) Y.env) R s:=by
  refine t_ (λn s'=>∃i σ' ys H',Inv Y ac σ' H' s'/\tn i s'.heap/\(∀b∈fp,H' b=none)/\W i n σ' ys H') ?_ m ⟨0,_,_,_,I,st,λb hb=>(ff b hb).1,w0⟩;rintro n s5 ⟨i,mj,ys,H5,I5,qN,sF,w5⟩;obtain⟨hD,alt⟩:=hW i n mj ys H5 w5;rcases alt with⟨stop,qn⟩|⟨go,hsz,N2,hN,step⟩
  ·refine bJ (T.done Y rfl rfl rfl hc i ac s5 mj H5 _ I5 (stat sF) qN stop) λr s6 zz=>?_;obtain⟨hr,I6⟩:=zz;subst hr;exact hR _ _ _ _ I6 qn
  ·refine bJ (T.item Y rfl rfl rfl hc i ac s5 mj H5 _ I5 (stat sF) qN go) λr s6 zz=>?_;obtain⟨u,hr,h6⟩:=zz;subst hr;refine bJ h6 λ_ s7 zz=>?_;obtain⟨x,H7,I7,r7,y7,pf,Dw⟩:=zz;have Bm:=I7.pinned (stat Dw) (T.obj _ _ pf);have hg':=hg _ s7 mj H7 x u _ Bm r7 (step x H7 y7);rw[MY]at hg';refine bJ hg' λ_ s8 zz=>?_;obtain⟨qD,H8,I8,q8⟩:=zz;have ht':=ht _ s8 qD H8 _ I8 q8;rw[MY]at ht';refine bJ ht' λb s9 zz=>?_;obtain⟨H9,I9,q9⟩:=zz;have again:∀{σ':St}{H':Hp}{s':Shared}{ys':List V}{m':Nat},Inv Y (ac++jg fp s7.heap) σ' H' s'->m'<n->W (i+1) m' σ' ys' H'->
     ∃m,m<n/\∃i σ' ys H',Inv Y ac σ' H' s'/\tn i s'.heap/\(∀b∈fp,H' b=none)/\W i m σ' ys H':=λ{σ' H' s' ys' m'} I' hm w'=>by
    refine⟨m',hm,i+1,σ',ys',H',I'.fD,T.keep _ _ _ pf λb hb o e=>(I'.pin (b,o) (Ua _ (Ua _ (b9 hb e)))).1,λb hb=>?_,w'⟩;obtain⟨o,e,d⟩:=T.obj _ _ pf b hb;exact(I'.pin (b,o) (Ua _ (Ua _ (b9 hb e)))).2.1
   cases b with
   |false =>rw[UD Ud]at q9⊢;obtain⟨m',hm,w'⟩:=hN _ _ _ q9;exact again I9 hm w'
   |true =>rw[UE rfl]at q9⊢;have he':=he _ s9 qD H9 _ I9 q9;rw[MY]at he';refine bJ he' λxv qC zz=>?_;obtain⟨v,xJ,JV,r10,D0,w10⟩:=zz;obtain⟨m',hm,w'⟩:=hN _ _ _ w10;have IL:oQ (.ref D) [v] xJ λ_ H'=>H'=upd xJ D (.lst (ys++[v])):=⟨_,ys,v,rfl,rfl,D0,hsz,rfl⟩;have ha':=cw _ qC qD xJ _ _ _ _ _ JV (show RelV (.ref D) (.ref D) from rfl) (.cons r10 .nil) IL;rw[MY]at ha';refine bJ ha' λ_ Ml zz=>?_;obtain⟨_,Gw,Eg,_,LP⟩:=zz;rw[LP]at Eg;exact again Eg hm w'
 exact jH loop (T.self _ 0 _ _ _ st loop)
theorem n0{ac:List (Addr×Obj)}{σ:St}{H2:Hp}{s2:Shared}{it:Addr}{fp:List Addr}{tn:Nat->Heap->Prop}{J:It}{Q:VK}{E:Value->Shared->Prop}{RR:Value->Addr->Result->Shared->Prop}
  (hc:X.calm=true) (S:bh X.env.scope X.N N' src sc)
  (hg:∀cl C s H fp,PG (aD X N' sc cl C s H fp) t1 g) (ht:∀cl C s H fp,iF (aD X N' sc cl C s H fp) f1 tc)
  (hi2:∀cl C s H fp,PI (aD X N' sc cl C s H fp) t2 i2 wi2) (hg2:∀cl C s H fp,PG (aD X N' sc cl C s H fp) t2 g2) (sD:∀cl C s H fp,iF (aD X N' sc cl C s H fp) f2 sk)
  (he:∀cl C s H fp,PE (aD X N' sc cl C s H fp) elt te) (hs2:∀(env:Env) x,foldedSetIterable i2 env x=pure x)
  (I2:Inv X ac σ H2 s2) (T:Turn X.prog X.w X.K t1 J fp it tn) (st2:tn 0 s2.heap) (Gi:∀b∈fp,cS X ac H2 b)
  (hW:∀D,H2 D=none->∃W:Nat->Nat->St->List V->Hp->Prop,(∃m,W 0 m (iW src σ) [] (upd H2 D (.lst [])))/\sH J g tc wi2 g2 sk te D Q W)
  (hRR:∀D C s5 H' m,Inv X ac σ H' s5->s5.heap.Ns C m->cS X ac H' C->Q (.ref D) H'->RR (.ref D) C (.ok .next) s5) :
  wpAny (model X.prog X.w) X.A (newList []) (λacc s₃=>wpAny (model X.prog X.w) X.A (newFunctionEnv sc X.env.globals (bq X.env.cells sc.names []) [] X.env.qual none .none (some X.env)) (λcenv s₄ =>
   codeAny (model X.prog X.w) X.A (.compStart (qL elt t1 i1 f1 t2 i2 f2 sc pos) 0 (.ref it) acc {cenv with scope:=relabel sc X.env}) (RR acc cenv.locals) s₄) E s₃) E s2:=by
 have o2:∀b∈fp,b<s2.heap.objs.size:=λb hb=>by obtain⟨o,e,_⟩:=T.obj 0 _ st2 b hb;exact TQ e
 refine Ux ?_;have EY:H2 s2.heap.objs.size=none:=I2.hok.fresh (TU _);obtain⟨W,⟨m0,w0⟩,turn⟩:=hW s2.heap.objs.size EY;have I3:Inv X ac σ (upd H2 s2.heap.objs.size (.lst [])) {s2 with heap:=s2.heap.push {cls:=.type "list",dict:=none,data:=.seq ([]:List Value).toArray}} :=
  I2.laid (t':=s2.toks) (λb u e=>TN _ e) (TU _) ⟨Uo _,[],0,.nil,TR _ rfl⟩
 have st3:tn 0 (s2.heap.push {cls:=.type "list",dict:=none,data:=.seq ([]:List Value).toArray}):=T.keep 0 _ _ st2 λb hb o e=>TN _ e;generalize hs3:({s2 with heap:=s2.heap.push {cls:=.type "list",dict:=none,data:=.seq ([]:List Value).toArray}}:Shared)=s3 at I3;have hh3:s3.heap=s2.heap.push {cls:=.type "list",dict:=none,data:=.seq ([]:List Value).toArray}:=by rw[←hs3]
 have Be:s2.heap.objs.size<s3.heap.objs.size:=by rw[hh3,Heap.size_push];exact Nat.lt_succ_self _
 have o3:∀b∈fp,b<s3.heap.objs.size:=λb hb=>Nat.lt_trans (o2 b hb) Be;have f3:∀b∈fp,cS X ac (upd H2 s2.heap.objs.size (.lst [])) b:=λb hb=>⟨by rw[aI (Um (o2 b hb))];exact(Gi b hb).1,(Gi b hb).2⟩;rw[←hh3]at st3;refine wpAny_newFunctionEnv S.nH (by intro y hy;simp at hy) (λh1 hns hsb=>?_) S.kind;have hsb':Heap.SameBut s3.heap.objs.size (s3.heap.push {cls:=.type "dict",data:=.dict #[]}) h1:=hsb;have I4:Inv (aD X N' sc (bq X.env.cells sc.names []) s3.heap.objs.size s3 (upd H2 s2.heap.objs.size (.lst [])) fp) [] (iW src σ) (upd H2 s2.heap.objs.size (.lst [])) {s3 with heap:=h1,toks:=s3.toks+([]:List (Str×Value)).length} :=
  gy S I3 f3 o3 hns hsb'
 have yX:tn 0 h1:=T.keep 0 _ _ st3 λb hb o e=>(hsb'.2 b (Um (o3 b hb))).trans (TN _ e);have fC:∀(H':Hp),H' s3.heap.objs.size=none->cS X ac H' s3.heap.objs.size:=λH' hn=>I3.nC (TU _) hn;have loop:codeAny (model X.prog X.w) X.A (.compLoop (qL elt t1 i1 f1 t2 i2 f2 sc pos) 0 (.ref it) (.ref s2.heap.objs.size) (compEnvC sc (bq X.env.cells sc.names []) s3.heap.objs.size X.env))
   (RR (.ref s2.heap.objs.size) s3.heap.objs.size) {s3 with heap:=h1,toks:=s3.toks+([]:List (Str×Value)).length}:=by
  have stat:∀{H':Hp},(∀b∈fp,H' b=none)->∀b∈fp,cS (aD X N' sc (bq X.env.cells sc.names []) s3.heap.objs.size s3 (upd H2 s2.heap.objs.size (.lst [])) fp) [] H' b:=λhn b hb =>
   ⟨hn b hb,(I4.ok.xh b hb).1,I4.ok.oC b hb,.inl hb,(I4.ok.xh b hb).2,λp hp=>UC (show p∈([]:List (Addr×Obj)) from hp) (by simp)⟩
  refine qQ (hs2 _) (λn s'=>∃i σ' ys H',Inv (aD X N' sc (bq X.env.cells sc.names []) s3.heap.objs.size s3 (upd H2 s2.heap.objs.size (.lst [])) fp) [] σ' H' s'/\tn i s'.heap/\(∀b∈fp,H' b=none)/\W i n σ' ys H') ?_ m0
   ⟨0,_,[],_,I4,yX,λb hb=>(f3 b hb).1,w0⟩
  rintro n s5 ⟨i,mj,ys,H5,I5,qN,sF,w5⟩;obtain⟨hD,alt⟩:=turn i n mj ys H5 w5;rcases alt with⟨stop,qn⟩|⟨go,N,hN,step⟩
  ·refine bJ (T.done (aD X N' sc (bq X.env.cells sc.names []) s3.heap.objs.size s3 (upd H2 s2.heap.objs.size (.lst [])) fp) rfl rfl rfl hc i [] s5 mj H5 _ I5 (stat sF) qN stop) λr s6 zz=>?_;obtain⟨hr,I6⟩:=zz;subst hr;obtain⟨m6,n6,_⟩:=id I6.loc;refine hRR _ _ s6 H5 m6 (I3.call' I6.os I6.base I6.hok I6.bare λb hb=>⟨(f3 b hb).2.2.2.1,(f3 b hb).2.1,(f3 b hb).2.2.2.2.1,(f3 b hb).2.2.2.2.2⟩) n6 (fC _ I6.free) qn
  ·refine bJ (T.item (aD X N' sc (bq X.env.cells sc.names []) s3.heap.objs.size s3 (upd H2 s2.heap.objs.size (.lst [])) fp) rfl rfl rfl hc i [] s5 mj H5 _ I5 (stat sF) qN go) λr s6 zz=>?_;obtain⟨u,hr,h6⟩:=zz;subst hr;refine bJ h6 λ_ s7 zz=>?_;obtain⟨x,H7,I7,r7,y7,pf,Dw⟩:=zz;have Bm:=I7.pinned (stat Dw) (T.obj _ _ pf);refine bJ (hg _ _ _ _ _ _ s7 mj H7 x u _ Bm r7 (step x H7 y7)) λ_ s8 zz=>?_;obtain⟨qD,H8,I8,q8⟩:=zz;refine bJ (ht _ _ _ _ _ _ s8 qD H8 _ I8 q8) λb s9 zz=>?_;obtain⟨H9,I9,q9⟩:=zz;have again:∀{σ':St}{H':Hp}{s':Shared}{ys':List V}{m':Nat},Inv (aD X N' sc (bq X.env.cells sc.names []) s3.heap.objs.size s3 (upd H2 s2.heap.objs.size (.lst [])) fp) ([]++jg fp s7.heap) σ' H' s'->m'<n->W (i+1) m' σ' ys' H'->
     ∃m,m<n/\∃i σ' ys H',Inv (aD X N' sc (bq X.env.cells sc.names []) s3.heap.objs.size s3 (upd H2 s2.heap.objs.size (.lst [])) fp) [] σ' H' s'/\tn i s'.heap/\(∀b∈fp,H' b=none)/\W i m σ' ys H':=λ{σ' H' s' ys' m'} I' hm w'=>by
    refine⟨m',hm,i+1,σ',ys',H',I'.fD,T.keep _ _ _ pf λb hb o e=>(I'.pin (b,o) (Ua _ (Ua _ (b9 hb e)))).1,λb hb=>?_,w'⟩;obtain⟨o,e,d⟩:=T.obj _ _ pf b hb;exact(I'.pin (b,o) (Ua _ (Ua _ (b9 hb e)))).2.1
   cases b with
   |false =>rw[UD Ud]at q9⊢;obtain⟨m',hm,w'⟩:=hN _ _ _ q9;exact again I9 hm w'
   |true =>rw[UE rfl]at q9⊢;refine bJ (hi2 _ _ _ _ _ _ s9 qD H9 _ I9 q9) λv sA hA=>bJ hA λitv sB hB=>?_;obtain⟨TF,TH,Tw,JB,HB,eB,IB,TB,Sh,fB,WB,⟨mB,wB⟩,Rj⟩:=hB;subst eB;refine wq (Y:=aD X N' sc (bq X.env.cells sc.names []) s3.heap.objs.size s3 (upd H2 s2.heap.objs.size (.lst [])) fp) hc rfl (hg2 _ _ _ _ _) (sD _ _ _ _ _) (he _ _ _ _ _) IB TB Sh fB wB Rj ?_;intro σ' ys' H' s' I' hn;obtain⟨m',hm,w'⟩:=hN _ _ _ hn;exact again I' hm w'
 exact codeAny_compStart_list loop (T.self _ 0 _ _ _ yX loop)
theorem rJ(hc:X.calm=true)(S:bh X.env.scope X.N N' src sc)(hi:PI X t1 i1 wi)
  (hg:∀cl C s H fp,PG (aD X N' sc cl C s H fp) t1 g) (ht:∀cl C s H fp,iF (aD X N' sc cl C s H fp) f1 tc)
  (hi2:∀cl C s H fp,PI (aD X N' sc cl C s H fp) t2 i2 wi2) (hg2:∀cl C s H fp,PG (aD X N' sc cl C s H fp) t2 g2) (sD:∀cl C s H fp,iF (aD X N' sc cl C s H fp) f2 sk)
  (he:∀cl C s H fp,PE (aD X N' sc cl C s H fp) elt te) (hs:∀x,foldedSetIterable i1 X.env x=pure x:=by intro _;rfl) (hs2:∀(env:Env) x,foldedSetIterable i2 env x=pure x:=by intro _ _;rfl) :
  PE X (qL elt t1 i1 f1 t2 i2 f2 sc pos) (Cu src wi g tc wi2 g2 sk te):=by
 intro ac s σ H Q I h;rw[eval_ListComp];refine wpAny_comprehension_free (use:=none) rfl hs (cB λy hy hk=>I.ok.has y.1 (S.free y hy hk)) S.kind (λy hy hl=>by rw[←hl];exact S.uniq y hy) ?_;refine bJ (hi ac s σ H _ I h) λv s1 h1=>bJ h1 λitv s2 h2=>?_;obtain⟨it,fp,tn,J,H2,e,I2,T,st2,Gi,hW⟩:=h2;subst e;refine n0 (Q:=Q) (RR:=λacc C=>compPost (model X.prog X.w) X.A X.xe none (EP X ac σ Q) acc C) hc S hg ht hi2 hg2 sD he hs2 I2 T st2 Gi hW ?_;intro D C s5 H' m I5 n5 fC q;refine⟨m,n5,λh' sb=>⟨.ref D,H',?_,rfl,q⟩⟩;exact I5.turned (t':=s5.toks) (λb o hb e=>(sb.2 b hb).trans e) fC.1 fC.2.1 fC.2.2.2.1 fC.2.2.2.2.1 fC.2.2.2.2.2
end
end L2
namespace HT
open PySem PyProof.Rows
open PySem.AutoSeq1 (wpAny_loadPart')
theorem tuple_addW0(l b:Addr)(items items2:Array Value)(n n2:Nat)(dd dd2:Option Addr)(sl sl2:Array (Option Value))(hc0:items.isEmpty=true) :
  Meets (Builtin.«tuple.__add__» ⟨[.ref l,.ref b],[]⟩) (λ_ R s=>s.heap.get? l=some {cls:=.type "tuple",dict:=dd,data:=.seq items n,slots:=sl}/\s.heap.get? b=some {cls:=.type "tuple",dict:=dd2,data:=.seq items2 n2,slots:=sl2}/\R (.ok (.ret (Value.ref b))) {s with heap:=s.heap,toks:=s.toks}) :=
 .of_wp λprog w A R s h=>by
  obtain⟨hp,g,d,tk,os⟩:=s;obtain⟨hl,hb,h⟩:=h;have f1:=AutoSeq1.idx_int;have f2:=AutoSeq1.sub_tuple_tuple;have f3:=AutoSeq1.sub_list_list;have f4:=AutoSeq1.sub_tuple_list;have f5:=AutoSeq1.sub_list_tuple
  wp_walk using wpAny_loadPart' hl,wpAny_loadPart' hb
  exact⟨_,rfl,h⟩
section
variable{prog:Program}{w:World}{A:Around}{E:Value->Shared->Prop}{s:Shared}
theorem By{t b:Addr}{ws:List Value}{Q:Value->Shared->Prop}(ht:IsTup s.heap t #[])(hb:IsTup s.heap b ws.toArray)(h1:Q (.ref b) s):wpAny (model prog w) A (binaryOp .Add (.ref t) (.ref b)) Q E s:=by
 obtain⟨⟨cls,dd,data,sl⟩,ho,hc,n,hd⟩:=id ht;obtain⟨⟨cls2,dd2,data2,sl2⟩,ho2,hc2,n2,hd2⟩:=id hb;simp only at hc hd hc2 hd2;subst hc hd hc2 hd2;exact concat_meets ⟨_,ho,rfl⟩ ⟨_,ho2,rfl⟩ noFill_tuple_add seq_tuple_add PySem.F.slot_tuple_add PySem.F.entry_tuple_add (PySem.F.args_tuple_add_2 _ _)
   (tuple_addW0 t b #[] ws.toArray n n2 dd dd2 sl sl2 rfl) ⟨ho,ho2,h1⟩
theorem kL{t sl:Addr}{items:Array Value}{vl vu:Value}{lo hi:Option Int}{Q:Value->Shared->Prop}(ht:IsTup s.heap t items)(hs:s.heap.IsSliceOf sl vl vu .none)(pl:IsPart vl lo)(pu:IsPart vu hi)
  (hw:dy items.size 0 lo=0/\dy items.size items.size hi=items.size)
  (h:Q (.ref t) s):wpAny (model prog w) A (getItem (.ref t) (.ref sl)) Q E s:=by
 obtain⟨os,hos,hcs,hds⟩:=id hs;have hTs:s.TypeIs (.ref sl) "slice":=⟨os,hos,hcs⟩;unfold getItem;try with_reducible refine Uw ?_
 first|refine TK (TM ?_)|skip
 refine TK (wpAny_sequenceKey ht.typeIs (by decide) ?_);refine TK (wpAny_callSpecial?_slot (name:=Str.ofString "__getitem__") ht.typeIs PyProof.Rows.slot_tuple_getitem
  (UO PyProof.Rows.slot_tuple_getitem ht.typeIs entry_tuple_getitem ?_ (args_tuple_getitem _ _)))
 show wpAny _ _ (Builtin.Tuple.tupleItemsOf (.ref t) >>= _) _ _ s;refine TK (tupleItemsOf_ ht ?_);refine TK (wpAny_typeOf hTs ?_);rw[UE (by decide)];refine TK (iI hs pl pu ?_);have hno:(((dy items.size 0 lo:Nat):Int)==0&&(1:Int)==1&&(dy items.size items.size hi-dy items.size 0 lo)==items.size)=true:=by rw[hw.1,hw.2];simp
 show wpAny _ _ (if(((dy items.size 0 lo:Nat):Int)==0&&(1:Int)==1&&(dy items.size items.size hi-dy items.size 0 lo)==items.size)=true then _ else _) _ _ s;rw[UE hno];refine TK (m:=Builtin.Tuple.tupleIsExact _) ?_;unfold Builtin.Tuple.tupleIsExact;refine TK (wpAny_typeOf ht.typeIs (TM ?_));show wpAny _ _ (if((Value.type "tuple")==(Value.type "tuple"))=true then _ else _) _ _ s;rw[UE (by decide)];exact TK (wpAny_rule (TM ⟨_,rfl,TM h⟩))
end
end HT
namespace L2
open PySem PySem.Spec PyProof.Rows
section
variable{X:Cx}
theorem B7(hu:X.A.units<cLine):jl X (compareOp .Eq) (λx y H Q=>∃a b xs ys,x=.ref a/\y=.ref b/\bj X.K H a xs/\bj X.K H b ys/\xs.length≠ys.length/\Q (.bl false) H):=by intro ac s σ H x y v u Q I rx ry h;obtain⟨a,b,xs,ys,rfl,rfl,ha,hb,hl,q⟩:=h;cases rx;cases ry;obtain⟨its,r1,p1,_⟩:=I.list ha;obtain⟨its',r2,p2,_⟩:=I.list hb;exact SeqAt.eq_list_lengthsAt p1.isList p2.isList (by simp[←r1.length,←r2.length,hl]) hu ⟨.bl false,H,I,rfl,q⟩
theorem Eb(hu:X.A.units<cLine):jl X (compareOp .NotEq) (λx y H Q=>∃a b xs ys,x=.ref a/\y=.ref b/\bj X.K H a xs/\bj X.K H b ys/\xs.length≠ys.length/\Q (.bl true) H):=by intro ac s σ H x y v u Q I rx ry h;obtain⟨a,b,xs,ys,rfl,rfl,ha,hb,hl,q⟩:=h;cases rx;cases ry;obtain⟨its,r1,p1,_⟩:=I.list ha;obtain⟨its',r2,p2,_⟩:=I.list hb;exact SeqAt.RcNeAt.lists_lengths p1.isList p2.isList (by simp[←r1.length,←r2.length,hl]) hu _ _ _ _ ⟨.bl true,H,I,rfl,q⟩
theorem vX:jl X (binaryOp .Add) (λx y H Q=>∃a b ys,x=.ref a/\y=.ref b/\aY X.K H a []/\aY X.K H b ys/\Q (.ref b) H):=by intro ac s σ H x y v u Q I rx ry h;obtain⟨a,b,ys,rfl,rfl,ha,hb,q⟩:=h;cases rx;cases ry;obtain⟨its,r1,p1,_⟩:=I.tuple ha;obtain⟨its2,r2,p2,_⟩:=I.tuple hb;cases r1;exact HT.By p1 p2 ⟨.ref b,H,I,rfl,q⟩
def HG(K:UX):V->Option Int->Option Int->Hp->VK->Prop:=λx lo hi H Q=>∃a xs,x=.ref a/\aY K H a xs/\
 (HT.dy xs.length 0 lo=0/\HT.dy xs.length xs.length hi=xs.length)/\Q (.ref a) H
theorem ES:Eo X (HG X.K):=by
 intro ac s σ H x v vl vu lo hi sl Q I rx hs pl pu h;obtain⟨a,xs,rfl,hx,hw,q⟩:=h;cases rx;obtain⟨its,r,ht,hz⟩:=I.tuple hx;have hlen:its.toArray.size=xs.length:=by rw[Ue];exact r.length.symm
 refine⟨"tuple",_,PyProof.Rows.slot_tuple_getitem.lookup,ht.typeIs,?_⟩;exact HT.kL ht hs pl pu (by rw[hlen];exact hw) ⟨.ref a,H,I,rfl,q⟩
theorem E8{x:V}{lo hi:Option Int}{H:Hp}{Q:VK}{a:Addr}{xs:List V}{K:UX}(e:x=.ref a)(h:aY K H a xs)(q1:e6 xs lo hi=xs->Q (.ref a) H)(q2:∀p,H p=none->Q (.ref p) (upd H p (.tup (e6 xs lo hi)))):K5 K x lo hi H Q\/HG K x lo hi H Q:=by
 by_cases hw:HT.dy xs.length 0 lo=0/\HT.dy xs.length xs.length hi=xs.length
 ·refine .inr ⟨a,xs,e,h,hw,q1 ?_⟩;unfold e6;rw[hw.1,hw.2];simp
 ·exact .inl ⟨a,xs,e,h,hw,q2⟩
end
inductive D where
 |int (i:Int)|str (x:Str)|non|bl (b:Bool)|tup (ds:List D)|lst (ds:List D)
deriving Inhabited
mutual
def aV(K:UX)(H:Hp):D->V->Prop
 | .int i,v=>v=.int i
 | .str x,v=>v=.str x
 | .non,v=>v=.non
 | .bl b,v=>v=.bl b
 | .tup ds,v=>∃a vs,v=.ref a/\aY K H a vs/\aK K H ds vs
 | .lst ds,v=>∃a vs,v=.ref a/\H a=some (.lst vs)/\aK K H ds vs
def aK(K:UX)(H:Hp):List D->List V->Prop
 |[],vs=>vs=[]
 |d::ds,vs=>∃v r,vs=v::r/\aV K H d v/\aK K H ds r
end
mutual
def D.depth:D->Nat
 | .tup ds=>1+cT ds
 | .lst ds=>1+cT ds
 |_=>0
def cT:List D->Nat
 |[]=>0
 |d::ds=>max d.depth (cT ds)
end
def bI(b:Bool):Int:=if b then 1 else 0
mutual
def cK:D->D->Bool
 | .int i,.int j=>i==j
 | .int i,.bl b=>i==bI b
 | .bl b,.int j=>bI b==j
 | .bl b,.bl c=>b==c
 | .str x,.str y=>x==y
 | .non,.non=>true
 | .tup ds,.tup es=>fL ds es
 | .lst ds,.lst es=>fL ds es
 |_,_=>false
def fL:List D->List D->Bool
 |[],[]=>true
 |d::ds,e::es=>cK d e&&fL ds es
 |_,_=>false
end
mutual
theorem lS:∀d:D,cK d d=true
 | .int i=>by simp[cK]
 | .str x=>by simp[cK]
 | .non=>by simp[cK]
 | .bl b=>by simp[cK]
 | .tup ds=>by rw[cK];exact iM ds
 | .lst ds=>by rw[cK];exact iM ds
theorem iM:∀ds:List D,fL ds ds=true
 |[]=>by simp[fL]
 |d::ds=>by rw[fL,lS d,iM ds];rfl
end
section
variable{K:UX}{H:Hp}
theorem aK.length:∀{ds:List D}{vs:List V},aK K H ds vs->ds.length=vs.length
 |[],vs,h=>by rw[aK]at h;rw[h];rfl
 |d::ds,vs,h=>by rw[aK]at h;obtain⟨v,r,rfl,_,h⟩:=h;rw[Uz,Uz,aK.length h]
theorem aK.get:∀{ds:List D}{vs:List V}{i:Nat}{v:V},aK K H ds vs->vs[i]? = some v->∃d,ds[i]? = some d/\aV K H d v
 |[],vs,i,v,h,e=>by rw[aK]at h;rw[h]at e;cases e
 |d::ds,vs,i,v,h,e=>by
  rw[aK]at h;obtain⟨u,r,rfl,h1,h2⟩:=h;cases i with
  |zero=>cases e;exact⟨d,rfl,h1⟩
  |succ i=>obtain⟨d',e1,e2⟩:=aK.get (i:=i) h2 e;exact⟨d',e1,e2⟩
theorem aK.of:∀{ds:List D}{vs:List V},ds.length=vs.length->(∀(i:Nat) d v,ds[i]? = some d->vs[i]? = some v->aV K H d v)->aK K H ds vs
 |[],[],_,_=>by rw[aK]
 |[],v::vs,h,_=>by cases h
 |d::ds,[],h,_=>by cases h
 |d::ds,v::vs,h,k=>by rw[aK];exact⟨v,vs,rfl,k 0 d v rfl rfl,aK.of (by simpa using h) λi d v e1 e2=>k (i+1) d v e1 e2⟩
theorem aK.cons{d:D}{v:V}{ds:List D}{vs:List V}(h1:aV K H d v)(h2:aK K H ds vs):aK K H (d::ds) (v::vs):=by rw[aK];exact⟨v,vs,rfl,h1,h2⟩
theorem aK.nil:aK K H [] []:=by rw[aK]
theorem aK.append:∀{ds es:List D}{vs ws:List V},aK K H ds vs->aK K H es ws->aK K H (ds++es) (vs++ws)
 |[],es,vs,ws,h,h'=>by rw[aK]at h;rw[h];exact h'
 |d::ds,es,vs,ws,h,h'=>by rw[aK]at h;obtain⟨u,r,rfl,h1,h2⟩:=h;exact aK.cons h1 (aK.append h2 h')
mutual
theorem aV.mono{H':Hp}(s:∀a xs,aY K H a xs->aY K H' a xs)(t:∀a xs,H a=some (.lst xs)->H' a=some (.lst xs)):∀{d:D}{v:V},aV K H d v->aV K H' d v
 | .int _,v,h=>by rw[aV]at h⊢;exact h
 | .str _,v,h=>by rw[aV]at h⊢;exact h
 | .non,v,h=>by rw[aV]at h⊢;exact h
 | .bl _,v,h=>by rw[aV]at h⊢;exact h
 | .tup ds,v,h=>by rw[aV]at h⊢;obtain⟨a,vs,e,q,h⟩:=h;exact⟨a,vs,e,s a vs q,aK.mono s t h⟩
 | .lst ds,v,h=>by rw[aV]at h⊢;obtain⟨a,vs,e,q,h⟩:=h;exact⟨a,vs,e,t a vs q,aK.mono s t h⟩
theorem aK.mono{H':Hp}(s:∀a xs,aY K H a xs->aY K H' a xs)(t:∀a xs,H a=some (.lst xs)->H' a=some (.lst xs)):∀{ds:List D}{vs:List V},aK K H ds vs->aK K H' ds vs
 |[],vs,h=>by rw[aK]at h⊢;exact h
 |d::ds,vs,h=>by rw[aK]at h⊢;obtain⟨u,r,e,h1,h2⟩:=h;exact⟨u,r,e,aV.mono s t h1,aK.mono s t h2⟩
end
end
theorem p6:∀{ds es:List D},ds.length≠es.length->fL ds es=false
 |[],[],h=>UC rfl h
 |[],_::_,_=>by rw[fL];all_goals simp
 |_::_,[],_=>by rw[fL];all_goals simp
 |d::ds,e::es,h=>by rw[fL,p6 (by simpa using h),Bool.and_false]
theorem pN:∀{ds es:List D},ds.length=es.length->(List.range ds.length).all (λj=>cK (ds.getD j .non) (es.getD j .non))=fL ds es
 |[],[],_=>by rw[fL];rfl
 |d::ds,e::es,h=>by rw[fL,Uz,List.range_succ_eq_map,List.all_cons,List.all_map,←pN (by simpa using h)];rfl
 |[],_::_,h=>by cases h
 |_::_,[],h=>by cases h
theorem DJ{ds es:List D}:((List.range (min ds.length es.length)).all (λj=>cK (ds.getD j .non) (es.getD j .non))&&ds.length==es.length)=fL ds es:=by
 by_cases h:ds.length=es.length
 ·rw[←pN h,h,Nat.min_self];simp
 ·rw[p6 h,beq_eq_false_iff_ne.mpr h,Bool.and_false]
theorem p9:∀{ds:List D}{i:Nat}{d:D},ds[i]? = some d->d.depth<=cT ds
 |[],i,d,e=>by cases e
 |d'::ds,0,d,e=>by cases e;rw[cT];exact Nat.le_max_left _ _
 |d'::ds,i+1,d,e=>by rw[cT];exact TV (p9 (i:=i) (by simpa using e)) (Nat.le_max_right _ _)
section
variable{X:Cx}{ac:List (Addr×Obj)}{σ:St}{H:Hp}{s:Shared}
theorem yZ{ds:List D}{j:Nat}{d:D}(h:ds[j]? = some d):ds.getD j .non=d:=by rw[List.getD_eq_getElem?_getD,h];rfl
def both(A:Around)(s:Shared)(u v:Value)(b:Bool):Prop:=SeqAt.EqAt A s u v b/\SeqAt.RcAt A s u v b/\SeqAt.RcNeAt A s u v (!b)
def seqs:D->D->Bool
 | .tup _,.tup _=>true
 | .lst _,.lst _=>true
 |_,_=>false
theorem p7(I:Inv X ac σ H s){A:Around}(hu:A.units<cLine):∀{d e:D}{x y:V}{u v:Value},seqs d e=false->aV X.K H d x->aV X.K H e y->RelV x u->RelV y v->both A s u v (cK d e)
 | .int i,.int j,x,y,u,v,hs,h1,h2,r1,r2=>by rw[aV]at h1;subst h1;obtain⟨t,rfl⟩:=r1;rw[aV]at h2;subst h2;obtain⟨w,rfl⟩:=r2;rw[cK];exact⟨.int_int i t j w,.int_int i t j w,.int_int i t j w⟩
 | .int i,.str j,x,y,u,v,hs,h1,h2,r1,r2=>by rw[aV]at h1;subst h1;obtain⟨t,rfl⟩:=r1;rw[aV]at h2;subst h2;obtain⟨w,rfl⟩:=r2;rw[show cK (.int i) (.str j)=false by simp[cK]];exact⟨.int_str i t j w,.int_str i t j w,.int_str i t j w⟩
 | .int i,.non,x,y,u,v,hs,h1,h2,r1,r2=>by rw[aV]at h1;subst h1;obtain⟨t,rfl⟩:=r1;rw[aV]at h2;subst h2;cases r2;rw[show cK (.int i) (.non)=false by simp[cK]];exact⟨.int_none i t,.int_none i t,.int_none i t⟩
 | .int i,.bl j,x,y,u,v,hs,h1,h2,r1,r2=>by rw[aV]at h1;subst h1;obtain⟨t,rfl⟩:=r1;rw[aV]at h2;subst h2;cases r2;rw[cK];exact⟨.int_bool i t j,.int_bool i t j,.int_bool i t j⟩
 | .int i,.tup j,x,y,u,v,hs,h1,h2,r1,r2=>by rw[aV]at h1;subst h1;obtain⟨t,rfl⟩:=r1;rw[aV]at h2;obtain⟨aw,Ep,rfl,q2,_⟩:=h2;cases r2;obtain⟨sI,Fv,pw,_⟩:=I.tuple q2;rw[show cK (.int i) (.tup j)=false by simp[cK]];exact⟨.int_tuple i t pw hu,.int_tuple i t pw hu,.int_tuple i t pw hu⟩
 | .int i,.lst j,x,y,u,v,hs,h1,h2,r1,r2=>by
  rw[aV]at h1;subst h1;obtain⟨t,rfl⟩:=r1;rw[aV]at h2;obtain⟨aw,Ep,rfl,q2,_⟩:=h2;cases r2;obtain⟨sI,Fv,Gp,_⟩:=I.list (bj.of q2);have pw:=Gp.isList
  rw[show cK (.int i) (.lst j)=false by simp[cK]];exact⟨.int_list i t pw hu,.int_list i t pw hu,.int_list i t pw hu⟩
 | .str i,.int j,x,y,u,v,hs,h1,h2,r1,r2=>by rw[aV]at h1;subst h1;obtain⟨t,rfl⟩:=r1;rw[aV]at h2;subst h2;obtain⟨w,rfl⟩:=r2;rw[show cK (.str i) (.int j)=false by simp[cK]];exact⟨.str_int i t j w,.str_int i t j w,.str_int i t j w⟩
 | .str i,.str j,x,y,u,v,hs,h1,h2,r1,r2=>by rw[aV]at h1;subst h1;obtain⟨t,rfl⟩:=r1;rw[aV]at h2;subst h2;obtain⟨w,rfl⟩:=r2;rw[cK];exact⟨.str_str i t j w,.str_str i t j w,.str_str i t j w⟩
 | .str i,.non,x,y,u,v,hs,h1,h2,r1,r2=>by rw[aV]at h1;subst h1;obtain⟨t,rfl⟩:=r1;rw[aV]at h2;subst h2;cases r2;rw[show cK (.str i) (.non)=false by simp[cK]];exact⟨.str_none i t,.str_none i t,.str_none i t⟩
 | .str i,.bl j,x,y,u,v,hs,h1,h2,r1,r2=>by rw[aV]at h1;subst h1;obtain⟨t,rfl⟩:=r1;rw[aV]at h2;subst h2;cases r2;rw[show cK (.str i) (.bl j)=false by simp[cK]];exact⟨.str_bool i t j,.str_bool i t j,.str_bool i t j⟩
 | .str i,.tup j,x,y,u,v,hs,h1,h2,r1,r2=>by rw[aV]at h1;subst h1;obtain⟨t,rfl⟩:=r1;rw[aV]at h2;obtain⟨aw,Ep,rfl,q2,_⟩:=h2;cases r2;obtain⟨sI,Fv,pw,_⟩:=I.tuple q2;rw[show cK (.str i) (.tup j)=false by simp[cK]];exact⟨.str_tuple i t pw hu,.str_tuple i t pw hu,.str_tuple i t pw hu⟩
 | .str i,.lst j,x,y,u,v,hs,h1,h2,r1,r2=>by
  rw[aV]at h1;subst h1;obtain⟨t,rfl⟩:=r1;rw[aV]at h2;obtain⟨aw,Ep,rfl,q2,_⟩:=h2;cases r2;obtain⟨sI,Fv,Gp,_⟩:=I.list (bj.of q2);have pw:=Gp.isList
  rw[show cK (.str i) (.lst j)=false by simp[cK]];exact⟨.str_list i t pw hu,.str_list i t pw hu,.str_list i t pw hu⟩
 | .non,.int j,x,y,u,v,hs,h1,h2,r1,r2=>by rw[aV]at h1;subst h1;cases r1;rw[aV]at h2;subst h2;obtain⟨w,rfl⟩:=r2;rw[show cK (.non) (.int j)=false by simp[cK]];exact⟨.none_int j w,.none_int j w,.none_int j w⟩
 | .non,.str j,x,y,u,v,hs,h1,h2,r1,r2=>by rw[aV]at h1;subst h1;cases r1;rw[aV]at h2;subst h2;obtain⟨w,rfl⟩:=r2;rw[show cK (.non) (.str j)=false by simp[cK]];exact⟨.none_str j w,.none_str j w,.none_str j w⟩
 | .non,.non,x,y,u,v,hs,h1,h2,r1,r2=>by rw[aV]at h1;subst h1;cases r1;rw[aV]at h2;subst h2;cases r2;rw[cK];exact⟨.same _,.none_none,.none_none⟩
 | .non,.bl j,x,y,u,v,hs,h1,h2,r1,r2=>by rw[aV]at h1;subst h1;cases r1;rw[aV]at h2;subst h2;cases r2;rw[show cK (.non) (.bl j)=false by simp[cK]];exact⟨.none_bool j,.none_bool j,.none_bool j⟩
 | .non,.tup j,x,y,u,v,hs,h1,h2,r1,r2=>by rw[aV]at h1;subst h1;cases r1;rw[aV]at h2;obtain⟨aw,Ep,rfl,q2,_⟩:=h2;cases r2;obtain⟨sI,Fv,pw,_⟩:=I.tuple q2;rw[show cK (.non) (.tup j)=false by simp[cK]];exact⟨.none_tuple pw hu,.none_tuple pw hu,.none_tuple pw hu⟩
 | .non,.lst j,x,y,u,v,hs,h1,h2,r1,r2=>by
  rw[aV]at h1;subst h1;cases r1;rw[aV]at h2;obtain⟨aw,Ep,rfl,q2,_⟩:=h2;cases r2;obtain⟨sI,Fv,Gp,_⟩:=I.list (bj.of q2);have pw:=Gp.isList
  rw[show cK (.non) (.lst j)=false by simp[cK]];exact⟨.none_list pw hu,.none_list pw hu,.none_list pw hu⟩
 | .bl i,.int j,x,y,u,v,hs,h1,h2,r1,r2=>by rw[aV]at h1;subst h1;cases r1;rw[aV]at h2;subst h2;obtain⟨w,rfl⟩:=r2;rw[cK];exact⟨.bool_int i j w,.bool_int i j w,.bool_int i j w⟩
 | .bl i,.str j,x,y,u,v,hs,h1,h2,r1,r2=>by rw[aV]at h1;subst h1;cases r1;rw[aV]at h2;subst h2;obtain⟨w,rfl⟩:=r2;rw[show cK (.bl i) (.str j)=false by simp[cK]];exact⟨.bool_str i j w,.bool_str i j w,.bool_str i j w⟩
 | .bl i,.non,x,y,u,v,hs,h1,h2,r1,r2=>by rw[aV]at h1;subst h1;cases r1;rw[aV]at h2;subst h2;cases r2;rw[show cK (.bl i) (.non)=false by simp[cK]];exact⟨.bool_none i,.bool_none i,.bool_none i⟩
 | .bl i,.bl j,x,y,u,v,hs,h1,h2,r1,r2=>by rw[aV]at h1;subst h1;cases r1;rw[aV]at h2;subst h2;cases r2;rw[cK];exact⟨.bool_bool i j,.bool_bool i j,.bool_bool i j⟩
 | .bl i,.tup j,x,y,u,v,hs,h1,h2,r1,r2=>by rw[aV]at h1;subst h1;cases r1;rw[aV]at h2;obtain⟨aw,Ep,rfl,q2,_⟩:=h2;cases r2;obtain⟨sI,Fv,pw,_⟩:=I.tuple q2;rw[show cK (.bl i) (.tup j)=false by simp[cK]];exact⟨.bool_tuple i pw hu,.bool_tuple i pw hu,.bool_tuple i pw hu⟩
 | .bl i,.lst j,x,y,u,v,hs,h1,h2,r1,r2=>by
  rw[aV]at h1;subst h1;cases r1;rw[aV]at h2;obtain⟨aw,Ep,rfl,q2,_⟩:=h2;cases r2;obtain⟨sI,Fv,Gp,_⟩:=I.list (bj.of q2);have pw:=Gp.isList
  rw[show cK (.bl i) (.lst j)=false by simp[cK]];exact⟨.bool_list i pw hu,.bool_list i pw hu,.bool_list i pw hu⟩
 | .tup i,.int j,x,y,u,v,hs,h1,h2,r1,r2=>by rw[aV]at h1;obtain⟨E7,ET,rfl,q1,_⟩:=h1;cases r1;obtain⟨tF,FF,pt,_⟩:=I.tuple q1;rw[aV]at h2;subst h2;obtain⟨w,rfl⟩:=r2;rw[show cK (.tup i) (.int j)=false by simp[cK]];exact⟨.tuple_int j w pt hu,.tuple_int j w pt hu,.tuple_int j w pt hu⟩
 | .tup i,.str j,x,y,u,v,hs,h1,h2,r1,r2=>by rw[aV]at h1;obtain⟨E7,ET,rfl,q1,_⟩:=h1;cases r1;obtain⟨tF,FF,pt,_⟩:=I.tuple q1;rw[aV]at h2;subst h2;obtain⟨w,rfl⟩:=r2;rw[show cK (.tup i) (.str j)=false by simp[cK]];exact⟨.tuple_str j w pt hu,.tuple_str j w pt hu,.tuple_str j w pt hu⟩
 | .tup i,.non,x,y,u,v,hs,h1,h2,r1,r2=>by rw[aV]at h1;obtain⟨E7,ET,rfl,q1,_⟩:=h1;cases r1;obtain⟨tF,FF,pt,_⟩:=I.tuple q1;rw[aV]at h2;subst h2;cases r2;rw[show cK (.tup i) (.non)=false by simp[cK]];exact⟨.tuple_none pt hu,.tuple_none pt hu,.tuple_none pt hu⟩
 | .tup i,.bl j,x,y,u,v,hs,h1,h2,r1,r2=>by rw[aV]at h1;obtain⟨E7,ET,rfl,q1,_⟩:=h1;cases r1;obtain⟨tF,FF,pt,_⟩:=I.tuple q1;rw[aV]at h2;subst h2;cases r2;rw[show cK (.tup i) (.bl j)=false by simp[cK]];exact⟨.tuple_bool j pt hu,.tuple_bool j pt hu,.tuple_bool j pt hu⟩
 | .tup ds,.tup es,x,y,u,v,hs,h1,h2,r1,r2=>by cases hs
 | .tup i,.lst j,x,y,u,v,hs,h1,h2,r1,r2=>by
  rw[aV]at h1;obtain⟨E7,ET,rfl,q1,_⟩:=h1;cases r1;obtain⟨tF,FF,pt,_⟩:=I.tuple q1;rw[aV]at h2;obtain⟨aw,Ep,rfl,q2,_⟩:=h2;cases r2;obtain⟨sI,Fv,Gp,_⟩:=I.list (bj.of q2);have pw:=Gp.isList
  rw[show cK (.tup i) (.lst j)=false by simp[cK]];exact⟨.tuple_list pt pw hu,.tuple_list pt pw hu,.tuple_list pt pw hu⟩
 | .lst i,.int j,x,y,u,v,hs,h1,h2,r1,r2=>by
  rw[aV]at h1;obtain⟨E7,ET,rfl,q1,_⟩:=h1;cases r1;obtain⟨tF,FF,E9,_⟩:=I.list (bj.of q1);have pt:=E9.isList
  rw[aV]at h2;subst h2;obtain⟨w,rfl⟩:=r2;rw[show cK (.lst i) (.int j)=false by simp[cK]];exact⟨.list_int j w pt hu,.list_int j w pt hu,.list_int j w pt hu⟩
 | .lst i,.str j,x,y,u,v,hs,h1,h2,r1,r2=>by
  rw[aV]at h1;obtain⟨E7,ET,rfl,q1,_⟩:=h1;cases r1;obtain⟨tF,FF,E9,_⟩:=I.list (bj.of q1);have pt:=E9.isList
  rw[aV]at h2;subst h2;obtain⟨w,rfl⟩:=r2;rw[show cK (.lst i) (.str j)=false by simp[cK]];exact⟨.list_str j w pt hu,.list_str j w pt hu,.list_str j w pt hu⟩
 | .lst i,.non,x,y,u,v,hs,h1,h2,r1,r2=>by
  rw[aV]at h1;obtain⟨E7,ET,rfl,q1,_⟩:=h1;cases r1;obtain⟨tF,FF,E9,_⟩:=I.list (bj.of q1);have pt:=E9.isList
  rw[aV]at h2;subst h2;cases r2;rw[show cK (.lst i) (.non)=false by simp[cK]];exact⟨.list_none pt hu,.list_none pt hu,.list_none pt hu⟩
 | .lst i,.bl j,x,y,u,v,hs,h1,h2,r1,r2=>by
  rw[aV]at h1;obtain⟨E7,ET,rfl,q1,_⟩:=h1;cases r1;obtain⟨tF,FF,E9,_⟩:=I.list (bj.of q1);have pt:=E9.isList
  rw[aV]at h2;subst h2;cases r2;rw[show cK (.lst i) (.bl j)=false by simp[cK]];exact⟨.list_bool j pt hu,.list_bool j pt hu,.list_bool j pt hu⟩
 | .lst i,.tup j,x,y,u,v,hs,h1,h2,r1,r2=>by
  rw[aV]at h1;obtain⟨E7,ET,rfl,q1,_⟩:=h1;cases r1;obtain⟨tF,FF,E9,_⟩:=I.list (bj.of q1);have pt:=E9.isList
  rw[aV]at h2;obtain⟨aw,Ep,rfl,q2,_⟩:=h2;cases r2;obtain⟨sI,Fv,pw,_⟩:=I.tuple q2;rw[show cK (.lst i) (.tup j)=false by simp[cK]];exact⟨.list_tuple pt pw hu,.list_tuple pt pw hu,.list_tuple pt pw hu⟩
 | .lst ds,.lst es,x,y,u,v,hs,h1,h2,r1,r2=>by cases hs
theorem nX(I:Inv X ac σ H s){a:Addr}{xs ys:List V}(h:bj X.K H a xs)(h':aY X.K H a ys):False:=by obtain⟨_,_,p,_⟩:=I.list h;obtain⟨_,_,p',_⟩:=I.tuple h';exact SeqAt.ne_of_list_tuple p.isList p' rfl
mutual
theorem aV.inj(I:Inv X ac σ H s):∀{d e:D}{v:V},aV X.K H d v->aV X.K H e v->d=e
 | .int i,.int j,v,h1,h2=>by rw[aV]at h1;rw[aV]at h2;subst h1;injection h2 with h2;rw[h2]
 | .int i,.str j,v,h1,h2=>by rw[aV]at h1;rw[aV]at h2;subst h1;cases h2
 | .int i,.non,v,h1,h2=>by rw[aV]at h1;rw[aV]at h2;subst h1;cases h2
 | .int i,.bl j,v,h1,h2=>by rw[aV]at h1;rw[aV]at h2;subst h1;cases h2
 | .int i,.tup j,v,h1,h2=>by rw[aV]at h1;rw[aV]at h2;obtain⟨a,vs,rfl,q,g⟩:=h2;cases h1
 | .int i,.lst j,v,h1,h2=>by rw[aV]at h1;rw[aV]at h2;obtain⟨a,vs,rfl,q,g⟩:=h2;cases h1
 | .str i,.int j,v,h1,h2=>by rw[aV]at h1;rw[aV]at h2;subst h1;cases h2
 | .str i,.str j,v,h1,h2=>by rw[aV]at h1;rw[aV]at h2;subst h1;injection h2 with h2;rw[h2]
 | .str i,.non,v,h1,h2=>by rw[aV]at h1;rw[aV]at h2;subst h1;cases h2
 | .str i,.bl j,v,h1,h2=>by rw[aV]at h1;rw[aV]at h2;subst h1;cases h2
 | .str i,.tup j,v,h1,h2=>by rw[aV]at h1;rw[aV]at h2;obtain⟨a,vs,rfl,q,g⟩:=h2;cases h1
 | .str i,.lst j,v,h1,h2=>by rw[aV]at h1;rw[aV]at h2;obtain⟨a,vs,rfl,q,g⟩:=h2;cases h1
 | .non,.int j,v,h1,h2=>by rw[aV]at h1;rw[aV]at h2;subst h1;cases h2
 | .non,.str j,v,h1,h2=>by rw[aV]at h1;rw[aV]at h2;subst h1;cases h2
 | .non,.non,v,h1,h2=>rfl
 | .non,.bl j,v,h1,h2=>by rw[aV]at h1;rw[aV]at h2;subst h1;cases h2
 | .non,.tup j,v,h1,h2=>by rw[aV]at h1;rw[aV]at h2;obtain⟨a,vs,rfl,q,g⟩:=h2;cases h1
 | .non,.lst j,v,h1,h2=>by rw[aV]at h1;rw[aV]at h2;obtain⟨a,vs,rfl,q,g⟩:=h2;cases h1
 | .bl i,.int j,v,h1,h2=>by rw[aV]at h1;rw[aV]at h2;subst h1;cases h2
 | .bl i,.str j,v,h1,h2=>by rw[aV]at h1;rw[aV]at h2;subst h1;cases h2
 | .bl i,.non,v,h1,h2=>by rw[aV]at h1;rw[aV]at h2;subst h1;cases h2
 | .bl i,.bl j,v,h1,h2=>by rw[aV]at h1;rw[aV]at h2;subst h1;injection h2 with h2;rw[h2]
 | .bl i,.tup j,v,h1,h2=>by rw[aV]at h1;rw[aV]at h2;obtain⟨a,vs,rfl,q,g⟩:=h2;cases h1
 | .bl i,.lst j,v,h1,h2=>by rw[aV]at h1;rw[aV]at h2;obtain⟨a,vs,rfl,q,g⟩:=h2;cases h1
 | .tup i,.int j,v,h1,h2=>by rw[aV]at h1;rw[aV]at h2;obtain⟨a,vs,rfl,q,g⟩:=h1;cases h2
 | .tup i,.str j,v,h1,h2=>by rw[aV]at h1;rw[aV]at h2;obtain⟨a,vs,rfl,q,g⟩:=h1;cases h2
 | .tup i,.non,v,h1,h2=>by rw[aV]at h1;rw[aV]at h2;obtain⟨a,vs,rfl,q,g⟩:=h1;cases h2
 | .tup i,.bl j,v,h1,h2=>by rw[aV]at h1;rw[aV]at h2;obtain⟨a,vs,rfl,q,g⟩:=h1;cases h2
 | .tup i,.tup j,v,h1,h2=>by rw[aV]at h1;rw[aV]at h2;obtain⟨a,vs,rfl,q,g⟩:=h1;obtain⟨b,ws,e,q',g'⟩:=h2;cases e;rw[I.mU q' q]at g';rw[aK.inj I g g']
 | .tup i,.lst j,v,h1,h2=>by rw[aV]at h1;rw[aV]at h2;obtain⟨a,vs,rfl,q,g⟩:=h1;obtain⟨b,ws,e,q',g'⟩:=h2;cases e;exact(nX I (bj.of q') q).elim
 | .lst i,.int j,v,h1,h2=>by rw[aV]at h1;rw[aV]at h2;obtain⟨a,vs,rfl,q,g⟩:=h1;cases h2
 | .lst i,.str j,v,h1,h2=>by rw[aV]at h1;rw[aV]at h2;obtain⟨a,vs,rfl,q,g⟩:=h1;cases h2
 | .lst i,.non,v,h1,h2=>by rw[aV]at h1;rw[aV]at h2;obtain⟨a,vs,rfl,q,g⟩:=h1;cases h2
 | .lst i,.bl j,v,h1,h2=>by rw[aV]at h1;rw[aV]at h2;obtain⟨a,vs,rfl,q,g⟩:=h1;cases h2
 | .lst i,.tup j,v,h1,h2=>by rw[aV]at h1;rw[aV]at h2;obtain⟨a,vs,rfl,q,g⟩:=h1;obtain⟨b,ws,e,q',g'⟩:=h2;cases e;exact(nX I (bj.of q) q').elim
 | .lst i,.lst j,v,h1,h2=>by rw[aV]at h1;rw[aV]at h2;obtain⟨a,vs,rfl,q,g⟩:=h1;obtain⟨b,ws,e,q',g'⟩:=h2;cases e;rw[q]at q';cases q';rw[aK.inj I g g']
theorem aK.inj(I:Inv X ac σ H s):∀{ds es:List D}{vs:List V},aK X.K H ds vs->aK X.K H es vs->ds=es
 |[],[],vs,h1,h2=>rfl
 |[],e::es,vs,h1,h2=>by rw[aK]at h1;rw[aK]at h2;obtain⟨v,r,rfl,_⟩:=h2;cases h1
 |d::ds,[],vs,h1,h2=>by rw[aK]at h1;rw[aK]at h2;obtain⟨v,r,rfl,_⟩:=h1;cases h2
 |d::ds,e::es,vs,h1,h2=>by rw[aK]at h1;rw[aK]at h2;obtain⟨v,r,rfl,a1,a2⟩:=h1;obtain⟨v',r',z,b1,b2⟩:=h2;injection z with z1 z2;rw[←z1]at b1;rw[←z2]at b2;rw[aV.inj I a1 b1,aK.inj I a2 b2]
end
theorem Bv(I:Inv X ac σ H s):∀(n:Nat){A:Around}{d e:D}{x y:V}{u v:Value},d.depth<=n->A.units+n<cLine->aV X.K H d x->aV X.K H e y->RelV x u->RelV y v->both A s u v (cK d e):=by
 intro n;induction n with
 |zero =>intro A d e x y u v hd hu h1 h2 r1 r2;refine p7 I (by omega) ?_ h1 h2 r1 r2;cases d<;>cases e<;>first|rfl | (rw[D.depth]at hd;omega)
 |succ n ih =>
  intro A d e x y u v hd hu h1 h2 r1 r2;cases hs:seqs d e with
  |false=>exact p7 I (by omega) hs h1 h2 r1 r2
  |true =>
   have items:∀{ds es:List D}{vs ws:List V}{its its':List Value},1+cT ds<=n+1->aK X.K H ds vs->aK X.K H es ws->Vals vs its->Vals ws its'->∀j (h1:j<its.toArray.size) (h2:j<its'.toArray.size),SeqAt.EqAt A.in1 s its.toArray[j] its'.toArray[j] (cK (ds.getD j .non) (es.getD j .non)):=by intro ds es vs ws its its' hdd g g' rv ow j j1 j2;obtain⟨x,e1,rx⟩:=yn rv j1;obtain⟨y,e2,ry⟩:=yn ow j2;obtain⟨d,ed,gd⟩:=g.get e1;obtain⟨e,ee,ge⟩:=g'.get e2;rw[yZ ed,yZ ee];have:=p9 ed;exact(ih (by omega) (by show A.units+1+n<cLine;omega) gd ge rx ry).1
   cases d<;>cases e<;>first|cases hs|skip
   ·rename_i ds es;rw[D.depth]at hd;have g1:=h1;have g2:=h2;rw[aV]at h1;rw[aV]at h2;obtain⟨a,vs,rfl,q,g⟩:=h1;obtain⟨b,ws,rfl,q',g'⟩:=h2;cases r1;cases r2;obtain⟨its,rv,p,_⟩:=I.tuple q;obtain⟨its',ow,p',_⟩:=I.tuple q';have l1:its.toArray.size=ds.length:=by simp[←rv.length,g.length]
    have l2:its'.toArray.size=es.length:=by simp[←ow.length,g'.length]
    have z1:=SeqAt.RcAt.tuples p p' (by omega) (items hd g g' rv ow);have z2:=SeqAt.RcNeAt.tuples p p' (by omega) (items hd g g' rv ow);rw[l1,l2,DJ]at z1 z2;rw[cK];refine⟨?_,z1,z2⟩;by_cases hab:a=b
    ·subst hab;have e:=aV.inj I g1 g2;injection e with e;rw[e,iM];exact .same _
    ·exact .of_refs hab z1
   ·rename_i ds es;rw[D.depth]at hd;have g1:=h1;have g2:=h2;rw[aV]at h1;rw[aV]at h2;obtain⟨a,vs,rfl,q,g⟩:=h1;obtain⟨b,ws,rfl,q',g'⟩:=h2;cases r1;cases r2;obtain⟨its,rv,p,_⟩:=I.list (bj.of q);obtain⟨its',ow,p',_⟩:=I.list (bj.of q');have l1:its.toArray.size=ds.length:=by simp[←rv.length,g.length]
    have l2:its'.toArray.size=es.length:=by simp[←ow.length,g'.length]
    have zz:SeqAt.RcAt A s (.ref a) (.ref b) (fL ds es)/\SeqAt.RcNeAt A s (.ref a) (.ref b) (!fL ds es):=by
     by_cases hl:ds.length=es.length
     ·have z1:=SeqAt.RcAt.lists p.isList p'.isList (by rw[l1,l2,hl]) (by omega) (items hd g g' rv ow);have z2:=SeqAt.RcNeAt.lists p.isList p'.isList (by rw[l1,l2,hl]) (by omega) (items hd g g' rv ow);rw[l1,pN hl]at z1 z2;exact⟨z1,z2⟩
     ·rw[p6 hl];exact⟨SeqAt.RcAt.lists_lengths p.isList p'.isList (by rw[l1,l2];simpa using hl) (by omega),SeqAt.RcNeAt.lists_lengths p.isList p'.isList (by rw[l1,l2];simpa using hl) (by omega)⟩
    rw[cK];refine⟨?_,zz.1,zz.2⟩;by_cases hab:a=b
    ·subst hab;have e:=aV.inj I g1 g2;injection e with e;rw[e,iM];exact .same _
    ·exact .of_refs hab zz.1
def NQ(K:UX)(A:Around):R2:=λx y H Q=>∃d e,aV K H d x/\aV K H e y/\A.units+d.depth<cLine/\Q (.bl (cK d e)) H
def Lx(K:UX)(A:Around):R2:=λx y H Q=>∃d e,aV K H d x/\aV K H e y/\A.units+d.depth<cLine/\Q (.bl (!cK d e)) H
theorem wc:jl X (compareOp .Eq) (NQ X.K X.A):=by intro ac s σ H x y v u Q I rx ry h;obtain⟨d,e,h1,h2,hu,q⟩:=h;exact(Bv I d.depth (TU _) hu h1 h2 rx ry).2.1 _ _ _ _ ⟨.bl _,H,I,rfl,q⟩
theorem jI:jl X (compareOp .NotEq) (Lx X.K X.A):=by intro ac s σ H x y v u Q I rx ry h;obtain⟨d,e,h1,h2,hu,q⟩:=h;exact(Bv I d.depth (TU _) hu h1 h2 rx ry).2.2 _ _ _ _ ⟨.bl _,H,I,rfl,q⟩
end
section
variable{K:UX}{H H':Hp}{a:Addr}
theorem aG.gG{xs:List V}(e:aG H H')(h:aY K H a xs):aY K H' a xs:=by
 rcases h with h|h
 ·rcases h with h|⟨o,h⟩
  ·exact .inl (.inl (e _ _ h))
  ·exact .inl (.inr ⟨o,e _ _ h⟩)
 ·exact .inr h
theorem aV.same(s:aG H H'){d:D}{v:V}(h:aV K H d v):aV K H' d v:=h.mono (λ_ _ q=>s.gG q) (λ_ _ q=>s _ _ q)
theorem aK.same(s:aG H H'){d:List D}{v:List V}(h:aK K H d v):aK K H' d v:=h.mono (λ_ _ q=>s.gG q) (λ_ _ q=>s _ _ q)
theorem sN:aV K H .non .non:=by rw[aV]
theorem lT(x:Int):aV K H (.int x) (.int x):=by rw[aV]
theorem bY(x:Str):aV K H (.str x) (.str x):=by rw[aV]
theorem tq(x:Bool):aV K H (.bl x) (.bl x):=by rw[aV]
theorem bL{vs:List V}{ds:List D}(h:H a=some (.tup vs))(g:aK K H ds vs):aV K H (.tup ds) (.ref a):=by rw[aV];exact⟨a,vs,rfl,aY.of h,g⟩
theorem o_{vs:List V}{ds:List D}(h:H a=some (.lst vs))(g:aK K H ds vs):aV K H (.lst ds) (.ref a):=by rw[aV];exact⟨a,vs,rfl,h,g⟩
end
def CT(xs:Array Nat):Prop:=xs.toList.Pairwise (· < ·)
theorem CT.lt{xs:Array Nat}(h:CT xs){i j a b:Nat}(hij:i<j)(ha:xs[i]? = some a)(hb:xs[j]? = some b):a<b:=by rw[←Array.getElem?_toList]at ha hb;obtain⟨h1,e1⟩:=Ug.mp ha;obtain⟨h2,e2⟩:=Ug.mp hb;rw[←e1,←e2];exact List.pairwise_iff_getElem.mp h i j h1 h2 hij
theorem qk{xs:Array Nat}(h:CT xs)(j:Nat):∀(fuel lo hi:Nat),hi<=xs.size->lo<=hi->hi-lo<=fuel->(∀i a,i<lo->xs[i]? = some a->a<j)->(∀i a,hi<=i->xs[i]? = some a->j<=a)->
  SetTable.below.go xs j fuel lo hi<=xs.size/\(∀i a,i<SetTable.below.go xs j fuel lo hi->xs[i]? = some a->a<j)/\∀i a,SetTable.below.go xs j fuel lo hi<=i->xs[i]? = some a->j<=a
 | 0,lo,hi,h1,h2,h3,h4,h5=>by
  have e:lo=hi:=by omega
  subst e;exact⟨h1,h4,h5⟩
 |fuel+1,lo,hi,h1,h2,h3,h4,h5=>by
  unfold SetTable.below.go;by_cases hlt:lo<hi
  ·rw[UE hlt];have hm:(lo+hi) / 2<xs.size:=by omega
   have eg:xs[(lo+hi) / 2]? = some xs[(lo+hi) / 2]:=Uu hm;have ed:xs.getD ((lo+hi) / 2) j=xs[(lo+hi) / 2]:=by simp[Array.getD,hm]
   dsimp only;rw[ed];by_cases hc:xs[(lo+hi) / 2]<j
   ·rw[UE hc];refine qk h j fuel _ hi h1 (by omega) (by omega) (λi a hi' e=>?_) h5;by_cases q:i=(lo+hi) / 2
    ·subst q;rw[eg]at e;cases e;exact hc
    ·exact Nat.lt_trans (h.lt (by omega) e eg) hc
   ·rw[UD hc];refine qk h j fuel lo _ (by omega) (by omega) (by omega) h4 λi a hi' e=>?_;by_cases q:i=(lo+hi) / 2
    ·subst q;rw[eg]at e;cases e;omega
    ·have:=h.lt (show(lo+hi) / 2<i by omega) eg e;omega
  ·rw[UD hlt];have e:lo=hi:=by omega
   subst e;exact⟨h1,h4,h5⟩
theorem lI{xs:Array Nat}(h:CT xs)(j:Nat):SetTable.below xs j<=xs.size/\(∀i a,i<SetTable.below xs j->xs[i]? = some a->a<j)/\∀i a,SetTable.below xs j<=i->xs[i]? = some a->j<=a :=
 qk h j xs.size 0 xs.size (TU _) (Uo _) (by omega) (λi a hi=>UC hi (by omega)) λi a hi e=>by rw[Array.getElem?_eq_none hi]at e;cases e
theorem wY{xs:Array Nat}(h:CT xs){j:Nat}(hn:xs[SetTable.below xs j]?≠some j):CT (SetTable.insertAt xs (SetTable.below xs j) j):=by
 obtain⟨h1,h2,h3⟩:=lI h j;unfold CT;rw[SetTable.toList_insertAt];have hl:∀a∈xs.toList.take (SetTable.below xs j),a<j:=λa ha=>by
  obtain⟨i,hi⟩:=List.mem_iff_getElem?.mp ha;rw[List.getElem?_take]at hi;split at hi
  ·rename_i hlt;exact h2 i a hlt (by rw[←Array.getElem?_toList];exact hi)
  ·cases hi
 have hr:∀a∈xs.toList.drop (SetTable.below xs j),j<a:=λa ha=>by
  obtain⟨i,hi⟩:=List.mem_iff_getElem?.mp ha;rw[List.getElem?_drop,Array.getElem?_toList]at hi;have q:=h3 _ a (Nat.le_add_right _ i) hi;rcases Nat.lt_or_eq_of_le q with q|q
  ·exact q
  ·exfalso;subst q;cases i with
   |zero=>exact hn hi
   |succ i =>
    have hb:SetTable.below xs j<xs.size:=by have:=(Array.getElem?_eq_some_iff.mp hi).1;omega
    have e0:xs[SetTable.below xs j]? = some xs[SetTable.below xs j]:=Uu hb;have l1:=h3 _ _ (TU _) e0;have l2:=h.lt (show SetTable.below xs j<SetTable.below xs j+(i+1) by omega) e0 hi;omega
 have hp:(xs.toList.take (SetTable.below xs j)++xs.toList.drop (SetTable.below xs j)).Pairwise (· < ·):=by rw[List.take_append_drop];exact h
 rw[List.pairwise_append]at hp;first
 | (rw[List.pairwise_append]
    refine⟨hp.1,?_,λa ha b hb=>?_⟩
    ·exact List.pairwise_cons.mpr ⟨hr,hp.2.1⟩
    ·rcases Uj.mp hb with e|hb
     ·subst e;exact hl a ha
     ·exact hp.2.2 a ha b hb)
 |skip
structure TabOk(t:SetTable)(b:Bool):Prop where
 Ob:CT t.place
 NL:t.dummies = #[]
 led:t.led=b
theorem zf(j:Nat):SetTable.has #[] j=false:=by simp[SetTable.has]
theorem nZ{t:SetTable}(hd:t.dummies = #[]){f:Nat->Int}{h:Int}(hf:∀i,(f i==h)=false):∀(fuel:Nat)(p:SetTable.Probe)(j:Nat)(d:Option Nat),p.dummy=none->SetTable.probe.go t f h fuel p=some (.empty j d)->
  d=none/\t.slot j=.empty
 | 0,p,j,d,_,e=>by unfold SetTable.probe.go at e;cases e
 |fuel+1,p,j,d,hp,e=>by
  have Th:∀p:SetTable.Probe,p.dummy=none->(t.advance p).dummy=none:=λp hp=>by
   unfold SetTable.advance;split
   ·exact hp
   ·exact hp
  unfold SetTable.probe.go at e;split at e
  ·rename_i hs;cases e;exact⟨hp,hs⟩
  ·rename_i hs;unfold SetTable.slot at hs;dsimp only at hs;rw[hd,zf]at hs;split at hs<;>cases hs
  ·rename_i i hs;rw[hf i]at e;exact nZ hd hf fuel _ j d (Th p hp) e
theorem xk{t:SetTable}{j:Nat}(h:t.slot j=.empty):t.place[SetTable.below t.place j]?≠some j:=λe=>by unfold SetTable.slot at h;dsimp only at h;rw[e]at h;rw[UE (by simp)]at h;cases h
theorem AA(n:Nat):CT (Array.range n):=by unfold CT;rw[Array.toList_range];exact List.pairwise_lt_range
theorem ja{t:SetTable}{b:Bool}(h:TabOk t b)(n:Nat):TabOk (t.standIn n) b:=⟨AA n,rfl,h.led⟩
theorem AZ{t:SetTable}{b:Bool}(ok:TabOk t b)(es:Array (Int×Value))(h:Int)(x:Value):TabOk (layNew t es h x).2.1 b:=by
 unfold layNew;split
 ·rename_i slot wd e;have hs:t.slot slot=.empty:=by
   unfold SetTable.freeSlot at e;split at e
   ·rename_i j d e2;unfold SetTable.probe at e2;obtain⟨q1,q2⟩:=nZ ok.NL (λ_=>by simp;omega) _ _ _ _ rfl e2;subst q1;cases e;exact q2
   ·cases e
  have o2:TabOk (t.put slot).1 b:=by unfold SetTable.put;refine⟨wY ok.Ob (xk hs),?_,ok.led⟩;show(if SetTable.has t.dummies slot=true then _ else t.dummies) = #[];rw[ok.NL,zf];rfl
  dsimp only;unfold SetTable.orStandIn;split
  ·exact o2
  ·exact ja o2 _
 ·exact ja ok _
theorem qJ{α:Type}(f:Nat->Option α)(n:Nat):(((List.range n).filterMap λj=>(f j).map (j,·)).map (·.1)).Pairwise (· < ·):=by
 have e:(((List.range n).filterMap λj=>(f j).map (j,·)).map (·.1))=(List.range n).filter λj=>(f j).isSome:=by rw[List.map_filterMap,←List.filterMap_eq_filter];congr 1;funext j;cases hf:f j<;>simp[Option.guard,hf]
 rw[e];exact List.Pairwise.filter _ List.pairwise_lt_range
theorem vi{t:SetTable}{b:Bool}(ok:TabOk t b)(es:Array (Int×Value))(n:Nat):TabOk (relayAll t es n).2.1 b:=by
 unfold relayAll;split
 ·rename_i t' order e;have o2:TabOk t' b:=by unfold SetTable.relaid SetTable.laid at e;simp only[bind,Option.bind_eq_some_iff]at e;obtain⟨owner,_,e⟩:=e;cases e;exact⟨qJ _ _,rfl,ok.led⟩
  dsimp only;split
  ·exact o2
  ·exact ja ok _
 ·exact ja ok _
section
variable{prog:Program}{w:World}{A:Around}{E:Value->Shared->Prop}{s:Shared}
def bX(w:World):Bool:=w.params.followText "set-order"
def Bd:Value->Key
 | .int i _=>.inl i
 | .str x _=>.inr x
 |_=>.inl 0
theorem wI{k:Key}{v:Value}(h:gz k v=true):Bd v=k:=by rcases bB h with⟨i,t,rfl,rfl⟩|⟨x,t,rfl,rfl⟩<;>rfl
structure fA(prog:Program)(w:World)(h:Heap)(a:Addr)(ks:List Key)(es:Array (Int×Value))(ep:Nat)(t:SetTable):Prop where
 obj:h.get? a=some {cls:=.type "set",dict:=none,data:=.set es ep t,slots:=#[]}
 els:ElemsOf (bC prog w) es.toList
 few:es.size<scanBound
 fits:t.fits es.size=true
 tab:TabOk t (!bX w)
 Nc:ks.Nodup
 keys:(es.toList.map λe=>Bd e.2).Perm ks
theorem fA.keep{h h':Heap}{a:Addr}{ks:List Key}{es:Array (Int×Value)}{ep:Nat}{t:SetTable}(r:fA prog w h a ks es ep t)(k:∀o,h.get? a=some o->h'.get? a=some o):fA prog w h' a ks es ep t :=
 ⟨k _ r.obj,r.els,r.few,r.fits,r.tab,r.Nc,r.keys⟩
theorem fA.mem{h:Heap}{a:Addr}{ks:List Key}{es:Array (Int×Value)}{ep:Nat}{t:SetTable}(r:fA prog w h a ks es ep t){k:Key}:(∃e∈es.toList,(bC prog w).is k e.2=true)↔k∈ks:=by
 constructor
 ·rintro⟨e,he,hk⟩;refine r.keys.mem_iff.mp (Ui.mpr ⟨e,he,wI hk⟩)
 ·intro hk;obtain⟨e,he,q⟩:=Ui.mp (r.keys.mem_iff.mpr hk);obtain⟨⟨k',hk',_⟩,_⟩:=r.els e he;refine⟨e,he,?_⟩;have:Bd e.2=k':=wI hk';rw[←q,this];exact hk'
open Classical in
noncomputable def mJ (ks:List Key) (k:Key):List Key:=if k∈ks then ks else ks++[k]
theorem yH{h:Heap}{a:Addr}{es:Array (Int×Value)}{ep:Nat}{t:SetTable}(ho:h.get? a=some {cls:=.type "set",dict:=none,data:=.set es ep t,slots:=#[]})(es':Array (Int×Value))(t':SetTable) :
  (h.update a (Obj.putSet es' t')).get? a=some {cls:=.type "set",dict:=none,data:=.set es' (ep+1) t',slots:=#[]}:=by
 have:=Heap.get?_update_self (Obj.putSet es' t') ho (by rw[putSet_of es' t' rfl];rfl);rw[putSet_of es' t' rfl]at this;exact this
theorem ui{g:Bool->Sem Unit}(hg:∀(b:Bool)(s₁:Shared)(Q':Unit->Shared->Prop),Q' () s₁->wpAny (model prog w) A (g b) Q' E s₁)
  {a:Addr} {es:Array (Int×Value)} {ep:Nat} {t:SetTable} (ho:s.heap.get? a=some {cls:=.type "set",dict:=none,data:=.set es ep t,slots:=#[]})
  {es1:Array (Int×Value)} {t2:SetTable} {ks:List Key} (he:ElemsOf (bC prog w) es1.toList) (hb:es1.size<scanBound) (hf:t2.fits es1.size=true) (ht:TabOk t2 (!bX w)) (hn:ks.Nodup) (hk:(es1.toList.map λe=>Bd e.2).Perm ks)
  {wasDummy:Bool} {R:Option Bool->Shared->Prop}
  (h:∀h' es' ep' t',Heap.SameBut a s.heap h'->fA prog w h' a ks es' ep' t'->R (some true) {s with heap:=h'}) :
  wpAny (model prog w) A (do
    storeSet a es1 t2
    if(!wasDummy&&t2.tooFull)=true then do
      g (relayAll t2 es1 (SetTable.grown es1.size)).2.2
      storeSet a (relayAll t2 es1 (SetTable.grown es1.size)).1 (relayAll t2 es1 (SetTable.grown es1.size)).2.1
      pure (some true)
     else pure (some true)) R E s:=by
 refine TK (wpAny_storeSet_of ho rfl ?_ (fits_of_scanBound hb));have ho1:=yH ho es1 t2;have P0:=Heap.SameBut.update s.heap a (Obj.putSet es1 t2);split
 ·have hp:=relayAll_perm t2 es1 (SetTable.grown es1.size);have hfr:=relayAll_fits t2 es1 (SetTable.grown es1.size);have hto:=vi ht es1 (SetTable.grown es1.size);generalize hRl:relayAll t2 es1 (SetTable.grown es1.size)=Rl at hp hfr hto⊢;obtain⟨es2,t3,gave2⟩:=Rl;dsimp only at hp hfr hto⊢;have hsz:es2.size=es1.size:=by rw[←US,hp.length_eq,US]
  have hb2:es2.size<scanBound:=by rw[hsz];exact hb
  refine TK (hg _ _ _ ?_);refine TK (wpAny_storeSet_of ho1 rfl ?_ (fits_of_scanBound hb2));exact TM (h _ es2 _ t3 (P0.trans (Heap.SameBut.update _ a _)) ⟨yH ho1 es2 t3,he.perm hp,hb2,hfr,hto,hn,(hp.map _).trans hk⟩)
 ·exact TM (h _ es1 _ t2 P0 ⟨ho1,he,hb,hf,ht,hn,hk⟩)
theorem xj{a:Addr}{ks:List Key}{es:Array (Int×Value)}{ep:Nat}{t:SetTable}{k:Key}{x:Value}{Q:Bool->Shared->Prop}(hkey:gz k x=true)(hsc:x.scannable=true)(hS:fA prog w s.heap a ks es ep t)
  (hroom:ks.length+1<scanBound)
  (h:∀b h' es' ep' t',Heap.SameBut a s.heap h'->fA prog w h' a (mJ ks k) es' ep' t'->Q b {s with heap:=h'}) :
  wpAny (model prog w) A (setAddHashed a x ((bC prog w).hash k)) Q E s:=by
 have yt:es.size=ks.length:=by rw[←hS.keys.length_eq,TZ,US]
 have hkey':(bC prog w).is k x=true:=hkey;have hel:=hS.els;unfold setAddHashed setAddHashedIn;refine Uw (TK (wpAny_setState_of hS.obj rfl hS.fits ?_));dsimp only;rw[byScan_of hsc hS.few hel];simp only[↓reduceIte];unfold setAddByScan;refine TK ?_;refine TK (wpAny_rule ?_);refine TK (wpAny_setScan_of hkey' hS.obj rfl hS.fits hel ?_);cases hr:List.findIdx? (λe=>(bC prog w).is k e.2) es.toList with
 |some j =>
  dsimp only;obtain⟨hj,hpj,_⟩:=List.findIdx?_eq_some_iff_getElem.mp hr;have hin:k∈ks:=hS.mem.mp ⟨es.toList[j],List.getElem_mem hj,hpj⟩;refine TM (TM ?_);have e:s ={s with heap:=s.heap}:=by cases s;rfl
  have:=h false s.heap es ep t (Heap.SameBut.refl a s.heap) (by unfold mJ;rw[UE hin];exact hS);rw[e];exact this
 |none =>
  dsimp only;have hout:k∉ks:=λhin=>by obtain⟨e,he,hp⟩:=hS.mem.mpr hin;have:=List.findIdx?_eq_none_iff.mp hr e he;rw[hp]at this;exact Bool.noConfusion this
  have hgw:∀(b:Bool){s₁:Shared}{Q':Unit->Shared->Prop},Q' () s₁->wpAny (model prog w) A (match b with|true=>rule "set.scan.the-table-gave-way"|false=>pure ()) Q' E s₁ :=
   λb s₁ Q' hq=>by cases b<;>first|exact TM hq|exact wpAny_rule hq
  have hperm:=layNew_perm t es ((bC prog w).hash k) x;have hfits:=layNew_fits t es ((bC prog w).hash k) x;have htab:=AZ hS.tab es ((bC prog w).hash k) x;generalize hL:layNew t es ((bC prog w).hash k) x=L at hperm hfits htab⊢;obtain⟨es1,t1,wasDummy,gave⟩:=L;dsimp only at hperm hfits htab⊢;rw[Array.toList_push]at hperm;have hel1:ElemsOf (bC prog w) es1.toList:=(hel.push hkey' hsc).perm hperm;have hb1':es1.size<scanBound:=by rw[←US,hperm.length_eq,T1,US,yt];simpa using hroom
  have PZ:mJ ks k=ks++[k]:=by unfold mJ;rw[UD hout]
  have zM:(mJ ks k).Nodup:=by rw[PZ,List.nodup_append];exact⟨hS.Nc,by simp,λx hx y hy e=>by simp at hy;subst hy;subst e;exact hout hx⟩
  have hkeys:(es1.toList.map λe=>Bd e.2).Perm (mJ ks k):=by rw[PZ];refine(hperm.map _).trans ?_;rw[T4];refine hS.keys.append ?_;show [Bd x].Perm [k];rw[wI hkey]
  refine TK (hgw _ ?_);split
  ·refine TK ?_;rw[hashByValue_scannable 8 hsc];refine TM ?_;refine ui (ks:=mJ ks k) ?_ hS.obj hel1 hb1' ?_ ?_ zM hkeys ?_
   ·intro b s₁ Q' hq;cases b<;>first|exact TM hq|exact wpAny_rule hq
   ·split
    ·exact hfits
    ·exact SetTable.fits_plain_off hfits
   ·split
    ·exact htab
    ·exact⟨htab.Ob,htab.NL,htab.led⟩
   ·intro h' es' ep' t' hsb hS';dsimp only;exact TM (h true h' es' ep' t' hsb hS')
  ·refine TK (TM ?_);simp only[↓reduceIte];refine ui (ks:=mJ ks k) ?_ hS.obj hel1 hb1' hfits htab zM hkeys ?_
   ·intro b s₁ Q' hq;cases b<;>first|exact TM hq|exact wpAny_rule hq
   ·intro h' es' ep' t' hsb hS';dsimp only;exact TM (h true h' es' ep' t' hsb hS')
noncomputable def lN (key:Nat->Key):Nat->List Key
 | 0=>[]
 |i+1=>mJ (lN key i) (key i)
theorem Bh(ks:List Key)(k:Key):(mJ ks k).length<=ks.length+1:=by
 unfold mJ;split
 ·omega
 ·simp
theorem pI(key:Nat->Key):∀i,(lN key i).length<=i
 | 0=>TU _
 |i+1=>TV (Bh _ _) (Nat.succ_le_succ (pI key i))
theorem CH{ks:List Key}{k x:Key}:x∈mJ ks k↔x∈ks\/x=k:=by
 unfold mJ;split
 ·rename_i h;exact⟨.inl,λq=>q.elim id λe=>e▸h⟩
 ·simp
theorem uS{key:Nat->Key}{x:Key}:∀{i:Nat},x∈lN key i↔∃j,j<i/\key j=x
 | 0=>by simp[lN]
 |i+1=>by
  show x∈mJ (lN key i) (key i)↔_;rw[CH,uS];constructor
  ·rintro(⟨j,hj,e⟩|e)
   ·exact⟨j,Nat.lt_succ_of_lt hj,e⟩
   ·exact⟨i,Nat.lt_succ_self _,e.symm⟩
  ·rintro⟨j,hj,e⟩;rcases Nat.lt_succ_iff_lt_or_eq.mp hj with q|q
   ·exact .inl ⟨j,q,e⟩
   ·exact .inr (by rw[←e,q])
end
section
variable{prog:Program}{w:World}{A:Around}{R:Result->Shared->Prop}{I:Addr}{fp wr:List Addr}{G:Array GenState->Array GenState->Prop}{n:Nat}{P:Nat->Value->Prop}{St:Nat->Shared->Prop}
theorem BU(W:WalksS prog w A.in1 I fp wr G n P St)(S:Addr)(hSf:S∉fp)(key:Nat->Key)(hval:∀i v,P i v->gz (key i) v=true/\v.scannable=true)(hb:n+1<scanBound) :
  ∀(k i:Nat)(s:Shared)(es:Array (Int×Value))(ep:Nat)(t:SetTable),n-i=k->i<=n->St i s->fA prog w s.heap S (lN key i) es ep t->
   (∀s' es' ep' t',Moved (S::wr) G s s'->fA prog w s'.heap S (lN key n) es' ep' t'->R (.ok (.ret .none)) s')->
   codeAny (model prog w) A (.builtin "set.update.loop" ⟨[.ref S,.ref I],[]⟩) R s:=by
 have hSw:S∉wr:=λh=>hSf (W.sub _ h);have hsub:∀b∈wr,b∈S::wr:=λb hb=>Uc _ hb;intro k;induction k with
 |zero =>
  intro i s es ep t hk hi hst hS hR;have hin:i=n:=by omega
  subst hin;refine codeAny_builtin F.entry_set_update_loop ?_;rw[Around.under_plainId F.plain_set_update_loop _];show wpAny _ A.in1 (pyNext (.ref I) >>= _) _ _ s;refine TK (W.done s _ _ hst λs' hm=>?_);show wpAny _ A.in1 (ret Value.none) _ _ s';exact TM (hR s' es ep t (hm.mono hsub) (hS.keep λo e=>hm.heap S o hSw e))
 |succ k ih =>
  intro i s es ep t hk hi hst hS hR;have hlt:i<n:=by omega
  refine codeAny_builtin F.entry_set_update_loop ?_;rw[Around.under_plainId F.plain_set_update_loop _];show wpAny _ A.in1 (pyNext (.ref I) >>= _) _ _ s;refine TK (W.item i s _ _ hlt hst λv s' hP hst' hm=>?_);obtain⟨hv1,hv2⟩:=hval i v hP;have hS':=hS.keep (h':=s'.heap) λo e=>hm.heap S o hSw e;show wpAny _ A.in1 (holding [v] (setAdd S v) >>= _) _ _ s';refine TK (Uw ?_);unfold setAdd;refine Uw ?_;refine TK ((bC prog w).pyHash (k:=key i) hv1 ?_);have hroom:(lN key i).length+1<scanBound:=by have:=pI key i;omega
  refine xj (s:={s' with toks:=s'.toks+1}) hv1 hv2 hS' hroom λb h' es' ep' t' hsb hS2=>?_;refine TM ⟨plainId_quiet F.plain_set_update_loop _,ih (i+1) _ es' ep' t' (by omega) hlt (W.frame _ s' _ _ hst' (Nat.le_succ _) λb hb o e=>?_) hS2 λs'' es2 QV t2 hm'' hS''=>?_⟩
  ·rw[hsb.2 b (λh:b=S=>hSf (by rw[←h];exact hb))];exact e
  ·refine hR s'' es2 QV t2 (Moved.trans W.gtrans ((hm.mono hsub).then_heap (Nat.le_succ _) λb o hb e=>?_) hm'') hS'';rw[hsb.2 b (λh:b=S=>hb (by rw[h];exact Uy))];exact e
end
section
variable{prog:Program}{w:World}{A:Around}{E:Value->Shared->Prop}{s:Shared}
theorem vD(a:Value){Q₁:Value->Shared->Prop}
  (h:Q₁ (.ref s.heap.objs.size) {s with heap:=s.heap.push {cls:=.type "set",dict:=none,data:=.set #[] 0 (.fresh 0 0 (!bX w))}}) :
  codeAny (model prog w) A (.call (.builtin "set.__new__") ⟨[.type "set",a],[]⟩) (wants Q₁ E) s:=by
 refine codeAny_of_tree ?_;show wpAny _ A.in1 (do checkBuiltinCall "set.__new__" ⟨[.type "set",a],[]⟩;again (.builtin "set.__new__" ⟨[.type "set",a],[]⟩)) _ _ s;refine TK (wpAny_of_eq (F.newCall_set_1 a) (TM ⟨plainId_quiet F.plain_set_new _,codeAny_builtin F.entry_set_new ?_⟩));rw[Around.under_plainId F.plain_set_new _];unfold Builtin.«set.__new__» Builtin.Frozenset.newClass;have hsub:=sub_set_self;obtain⟨hp,g,d,tk,os⟩:=s;dsimp only
 wp_walk
 refine wpAny_askSetting (TM ?_);dsimp only;simp only[newObj];refine TK (wpAny_alloc (TM ?_));exact TM h
end
theorem sub_tuple_set:isSubtype (.type "tuple") (.type "set")=pure false:=by rw[isSubtype_type];kernel_rfl
theorem sub_tuple_frozenset:isSubtype (.type "tuple") (.type "frozenset")=pure false:=by rw[isSubtype_type];kernel_rfl
structure tU(prog:Program)(w:World)(T:String)(l:Addr)(items:Array Value):Prop where
 JX:isSubtype (.type T) (.type "set")=pure false
 JI:isSubtype (.type T) (.type "frozenset")=pure false
 nd:(Value.type T==Value.type "dict")=false
 it:∀(A:Around)(s:Shared)(o:Obj),A.handled=none->s.heap.get? l=some o->o.cls=.type T->(∃n,o.data=.seq items n)->∃(oI:Obj)(St:Nat->Heap->Prop),
  (∀(E:Value->Shared->Prop)(Q:Value->Shared->Prop),Q (.ref s.heap.objs.size) {s with heap:=s.heap.push oI}->wpAny (model prog w) A (pyIter (.ref l)) Q E s)/\
  Walks prog w A s.heap.objs.size [s.heap.objs.size,l] [s.heap.objs.size] items.size (λi v=>items[i]? = some v) St/\St 0 (s.heap.push oI)
theorem src_list{prog:Program}{w:World}{l:Addr}{items:Array Value}:tU prog w "list" l items where
 JX:=F.sub_list_set
 JI:=F.sub_list_frozenset
 nd:=by decide
 it:=λA s o hh ho hc hd=>by have hl:s.heap.IsList l items:=⟨o,ho,hc,hd⟩;refine⟨_,_,λE Q q=>wpAny_pyIter_list hl q,Walks.list hh _ l (Um (TQ ho)) items,⟨_,TR _ rfl,rfl,rfl⟩,hl.push _⟩
theorem EZ{prog:Program}{w:World}{l:Addr}{items:Array Value}:tU prog w "tuple" l items where
 JX:=sub_tuple_set
 JI:=sub_tuple_frozenset
 nd:=by decide
 it:=λA s o hh ho hc hd=>by have hl:s.heap.IsTuple l items:=⟨o,ho,hc,hd⟩;refine⟨_,_,λE Q q=>wpAny_pyIter_tuple hl q,Walks.tuple hh _ l (Um (TQ ho)) items,⟨_,TR _ rfl,rfl,rfl⟩,hl.push _⟩
section
variable{prog:Program}{w:World}{A:Around}{E:Value->Shared->Prop}{s:Shared}
theorem uv{T:String}{l:Addr}{items:Array Value}{o:Obj}{key:Nat->Key}{Q:Value->Shared->Prop}(src:tU prog w T l items)
  (hh:A.handled=none) (ho:s.heap.get? l=some o) (hc:o.cls=.type T) (hdt:∃n,o.data=.seq items n) (hi:∀i v,items[i]? = some v->gz (key i) v=true/\v.scannable=true) (hb:items.size+1<scanBound)
  (h:∀(h':Heap)(tk:Nat) es ep t,fA prog w h' s.heap.objs.size (lN key items.size) es ep t->(∀b o,s.heap.get? b=some o->h'.get? b=some o)->Q (.ref s.heap.objs.size) {s with heap:=h',toks:=tk}) :
  wpAny (model prog w) A (call (.type "set") [.ref l]) Q E s:=by
 obtain⟨c,tl,hmro⟩:=F.called_set.mro;have hmade:=F.called_set.made;have hsub:=F.called_set.sub;refine wpAny_call (codeAny_of_tree ?_);show wpAny _ _ (callAny (.type "set") _) _ _ _;refine TM ⟨Code.quiet_builtin _ (by decide +kernel),codeAny_builtin F.entry_type_call ?_⟩;rw[Around.under_plain (weight_type_call_type "set" [.ref l] []) rfl];have h1:=F.called_set.notType;have h2:=F.called_set.canCreate;have hct:=F.typeCall_set_1 (.ref l);repeat (any_goals (first|assumption|wp_step))
 refine codeAny_mono (vD (.ref l) (E:=E) (Q₁:=λobj s₁=>obj=.ref s.heap.objs.size/\s₁ ={s with heap:=s.heap.push {cls:=.type "set",dict:=none,data:=.set #[] 0 (.fresh 0 0 (!bX w))}}) ⟨rfl,rfl⟩) λr s₁ hr=>?_;cases r with
 |error e=>exact hr
 |ok fl =>
  cases fl with
  |ret obj =>
   obtain⟨rfl,rfl⟩:=hr;have hS:(s.heap.push {cls:=.type "set",dict:=none,data:=.set #[] 0 (.fresh 0 0 (!bX w))}).get? s.heap.objs.size=some {cls:=.type "set",dict:=none,data:=.set #[] 0 (.fresh 0 0 (!bX w))}:=TR _ rfl;have hT:Shared.TypeIs {s with heap:=s.heap.push {cls:=.type "set",dict:=none,data:=.set #[] 0 (.fresh 0 0 (!bX w))}} (.ref s.heap.objs.size) "set":=⟨_,hS,rfl⟩;have hli:=F.called_set.init.lookup;have hbi:=F.called_set.init.bind (.ref s.heap.objs.size);repeat (any_goals (first|assumption|wp_step))
   refine codeAny_mono (codeAny_call_builtin (R:=wants (λr s₂=>r=.none/\∃h' tk es ep t,s₂ ={s with heap:=h',toks:=tk}/\
     fA prog w h' s.heap.objs.size (lN key items.size) es ep t/\(∀b o,s.heap.get? b=some o->h'.get? b=some o)) E) F.called_set.init.plain F.entry_set_init (check_set_init_1 hT ?_)) λr₂ s₂ hr₂=>?_
   ·have ho':(s.heap.push {cls:=.type "set",dict:=none,data:=.set #[] 0 (.fresh 0 0 (!bX w))}).get? l=some o:=TN _ ho;have Tz:Shared.TypeIs {s with heap:=s.heap.push {cls:=.type "set",dict:=none,data:=.set #[] 0 (.fresh 0 0 (!bX w))}} (.ref l) T:=⟨_,ho',hc⟩;have hsls:=src.JX;have hslf:=src.JI;have hne:=src.nd;obtain⟨oI,St,hit,W,st⟩:=src.it A.in1.in1.in1 {s with heap:=s.heap.push {cls:=.type "set",dict:=none,data:=.set #[] 0 (.fresh 0 0 (!bX w))}} o (by simpa using hh) ho' hc hdt;unfold Builtin.«set.__init__» noKeywords Builtin.Frozenset.updateFrom;generalize hPI:pyIter=PI
    wp_walk
    subst hPI;refine wpAny_of_in1 (hit _ _ ?_);refine TK (wpAny_runValue ?_);have hlS:l<s.heap.objs.size:=TQ ho;have hsz:(s.heap.push {cls:=.type "set",dict:=none,data:=.set #[] 0 (.fresh 0 0 (!bX w))}).objs.size=s.heap.objs.size+1:=Heap.size_push _ _;have hSf:s.heap.objs.size∉[(s.heap.push {cls:=.type "set",dict:=none,data:=.set #[] 0 (.fresh 0 0 (!bX w))}).objs.size,l]:=by rw[hsz];simp only[Uj,UG,or_false,not_or];exact⟨Um (Nat.lt_succ_self _),Nat.ne_of_gt hlS⟩
    refine BU W.toS s.heap.objs.size hSf key (λi v hv=>hi i v hv) hb (items.size-0) 0 _ #[] 0 (SetTable.fresh 0 0 (!bX w)) (by omega) (Uo _) st ?hS0 ?hR
    case hS0 =>have hget:=TN oI hS;exact⟨hget,λe he=>UC he (by simp),by unfold scanBound;decide,by simp[SetTable.fits,SetTable.fresh,SetTable.fill],⟨List.Pairwise.nil,rfl,rfl⟩,List.nodup_nil,by simp[lN]⟩
    case hR =>
     intro s' es' ep' t' hm hS';obtain⟨h',g',d',tk',os'⟩:=s';have eg:g'=s.gens:=hm.gens;have ed:d'=s.drawn:=hm.drawn;have eo:os'=s.os:=hm.os;subst eg;subst ed;subst eo;show wpAny _ _ _ _ _ _;refine TM ?_;show wpAny _ _ (ret Value.none) _ _ _;refine TM ⟨rfl,h',tk',es',ep',t',rfl,hS',λb o e=>?_⟩;have hb1:b≠s.heap.objs.size:=Um (TQ e);have hb2:b≠(s.heap.push {cls:=.type "set",dict:=none,data:=.set #[] 0 (.fresh 0 0 (!bX w))}).objs.size:=by rw[hsz];exact Um (Nat.lt_succ_of_lt (TQ e))
     exact hm.heap b o (by simp only[Uj,UG,or_false,not_or];exact⟨hb1,hb2⟩) (TN _ (TN _ e))
   ·cases r₂ with
    |error e=>exact hr₂
    |ok fl₂ =>
     cases fl₂ with
     |ret r =>
      obtain⟨rfl,h',tk,es,ep,t,rfl,hS',hk'⟩:=hr₂;repeat (any_goals (first|assumption|wp_step))
      exact h _ _ es ep t hS' hk'
     |_=>exact hr₂.elim
  |_=>exact hr.elim
end
theorem oN:entryFor table "set.__iter__"=some Builtin.«frozenset.__iter__» :=
 entryFor_alias (id':="frozenset.__iter__") (by kernel_rfl) rfl (by decide +kernel) (by kernel_rfl)
theorem eW:Slot "set_iterator" "__next__" "set_iterator.__next__" :=
 .of (owner:="set_iterator") (n:="__next__") (by rw[typeLookup_type,builtinLookup_eq_fast];kernel_rfl) (by decide +kernel) (by decide +kernel) (by decide +kernel)
  (by first|exact .inl (by decide +kernel)|exact .inr (by decide +kernel)) (by rw[isSubtype_type];kernel_rfl)
theorem qP:entryFor table "set_iterator.__next__"=some Builtin.«set_iterator.__next__»:=entryFor_of_fast (by kernel_rfl)
theorem tZ(a:Value):argsOk "set_iterator.__next__" ⟨[a],[]⟩:=by unfold argsOk;kernel_rfl
section
variable{prog:Program}{w:World}{A:Around}{E:Value->Shared->Prop}{s:Shared}
theorem zY{src:Source}{n:Nat}{Q:Nat->Shared->Prop}(hn:n≠0)(h:∀k d,k<n->Q k {s with drawn:=d}):wpAny (model prog w) A (choose src n) Q E s:=λ_ _ _ =>
 ⟨hn,h _ _ (Nat.mod_lt _ (Nat.pos_of_ne_zero hn))⟩
theorem hU{α:Type}:∀{xs:List α}{i:Nat}{x:α},xs[i]? = some x->(x::xs.eraseIdx i).Perm xs
 |[],i,x,h=>by simp at h
 |y::ys,0,x,h=>by
  have e:y=x:=by simpa using h
  subst e;exact List.Perm.refl _
 |y::ys,i+1,x,h=>by
  have h':ys[i]? = some x:=by simpa using h
  exact(List.Perm.swap _ _ _).trans ((hU h').cons y)
theorem mD{α:Type}:∀(n:Nat)(xs:List α)(s:Shared){Q:List α->Shared->Prop},xs.length=n->(∀ys d,ys.Perm xs->Q ys {s with drawn:=d})->wpAny (model prog w) A (drawOrder n xs) Q E s
 | 0,xs,s,Q,e,h=>by have:xs=[]:=List.length_eq_zero_iff.mp e;subst this;unfold drawOrder;exact TM (h [] s.drawn (List.Perm.refl _))
 |n+1,[],s,Q,e,h=>by cases e
 |n+1,x::xs,s,Q,e,h=>by unfold drawOrder;refine TK (zY (by simp) λk d hk=>?_);have hk':(x::xs)[k]? = some (x::xs)[k]:=T_ hk;rw[hk'];dsimp only;refine TK (mD n _ _ (by rw[List.length_eraseIdx_of_lt hk,e];rfl) λys d' hp=>?_);exact TM (h _ d' ((hp.cons _).trans (hU hk')))
abbrev e8(first:Value)(i:Nat)(S:Addr)(n ep:Nat):Obj:={cls:=.type "set_iterator",data:=.fields #[first,.int i 0,.ref S,.int n 0,.int ep 0]}
def nj(es:Array (Int×Value))(t:SetTable):Bool:=!t.plain&&decide (es.size > 1)
theorem BO{S:Addr}{ks:List Key}{es:Array (Int×Value)}{ep:Nat}{t:SetTable}{Q:Value->Shared->Prop}(hS:fA prog w s.heap S ks es ep t)
  (h1:(!bX w&&nj es t)=false->Q (.ref s.heap.objs.size) {s with heap:=s.heap.push (e8 (.int 0 0) 0 S es.size ep)})
  (h2:(!bX w&&nj es t)=true->∀(d:Drawn)(ps:List Nat),ps.Perm (List.range es.size)->Q (.ref (s.heap.objs.size+1)) {s with heap:=(s.heap.push {cls:=.type "tuple",data:=.seq (ps.map λ(i:Nat)=>Value.int i 0).toArray}).push (e8 (.ref s.heap.objs.size) 0 S es.size ep),drawn:=d}) :
  wpAny (model prog w) A (pyIter (.ref S)) Q E s:=by
 have hT:s.TypeIs (.ref S) "set":=⟨_,hS.obj,rfl⟩;have hz:es.size<=sizeLine:=fits_of_scanBound hS.few;refine wpAny_pyIter_slot hT F.slot_set_iter (UO F.slot_set_iter hT oN ?_ (F.args_set_iter_1 _));unfold Builtin.«frozenset.__iter__» Builtin.Frozenset.slot0 slotArgs;simp only[List.isEmpty_nil,Bool.not_true,Bool.false_eq_true,↓reduceIte,bind_assoc,List.length_nil,bne_self_eq_false];unfold Builtin.Frozenset.addrOf Builtin.Frozenset.sizeOf;refine TK (TM ?_);try dsimp only
 refine TK (TM ?_);refine TK (TK (wpAny_setEntries_of hS.obj rfl hS.fits (TM ?_)));unfold setDrawn setsByText;refine TK (TK (wpAny_setState_of hS.obj rfl hS.fits (TK (TK (wpAny_askSetting (TM (TM ?_)))))));show wpAny _ _ (if(!bX w&&nj es t)=true then _ else _) _ _ _;cases hb:(!bX w&&nj es t)
 ·rw[UD (by simp)];refine TK (TM ?_);refine TK (wpAny_setEpoch_of hS.obj rfl hS.fits ?_);refine TK (Ux (TM ⟨_,rfl,"set_iterator",_,⟨_,TR _ rfl,rfl⟩,eW.lookup,?_⟩));exact h1 hb
 ·rw[UE rfl];refine TK (mD es.size (List.range es.size) s (by simp) λps d hp=>?_);have hl:ps.length=es.size:=by rw[hp.length_eq];simp
  refine TK (wpAny_newTuple ?_ (by rw[TZ,hl];exact hz));have hS2:=hS.keep (h':=s.heap.push {cls:=.type "tuple",data:=.seq (ps.map λ(i:Nat)=>rawInt i).toArray}) λo e=>TN _ e;refine TK (wpAny_setEpoch_of hS2.obj rfl hS2.fits ?_);refine TK (Ux (TM ⟨_,rfl,"set_iterator",_,⟨_,TR _ rfl,rfl⟩,eW.lookup,?_⟩));have:=h2 hb d ps hp;rw[size_push'];exact this
theorem my{I S:Addr}{first:Value}{i n ep:Nat}{Q:Option Value->Shared->Prop}(hI:s.heap.get? I=some (e8 first i S n ep))
  (h:wpAny (model prog w) A.in1 (Builtin.«set_iterator.__next__» ⟨[.ref I],[]⟩) (λfin s'=>∃r,fin=.done (.ret r)/\Q (some r) s') (λe s'=>wpAny (model prog w) A (do if←isInstance e (.type "StopIteration")then pure none else throw e) Q E s') s) :
  wpAny (model prog w) A (pyNext (.ref I)) Q E s:=by
 have hT:s.TypeIs (.ref I) "set_iterator":=⟨_,hI,rfl⟩;unfold pyNext;refine TK (wpAny_attempt (wpAny_callSpecial?_slot (name:=Str.ofString "__next__") hT eW (UO eW hT qP ?_ (tZ _))));refine Uv h (λfin s' q=>?_) λe s' q=>?_
 ·obtain⟨r,rfl,q⟩:=q;exact⟨_,rfl,TM q⟩
 ·exact q
theorem mI{I S:Addr}{first:Value}{i n ep:Nat}(hI:s.heap.get? I=some (e8 first i S n ep)){first':Value}{i':Nat}{fs:Array Value}(k:Nat)(v:Value)(hk:k<5)(e:(#[first,.int i 0,.ref S,.int n 0,.int ep 0]:Array Value).setIfInBounds k v=fs) :
  (s.heap.update I (Obj.mapFields (·.setIfInBounds k v))).get? I=some {cls:=.type "set_iterator",data:=.fields fs}:=by
 have:=Heap.get?_update_self (Obj.mapFields (·.setIfInBounds k v)) hI (Obj.isFreed_of_fields (Obj.data_mapFields (o:=e8 first i S n ep) rfl _));rw[this,←e];rfl
end
section
variable{prog:Program}{w:World}{A:Around}{E:Value->Shared->Prop}{s:Shared}
theorem va{Q:Option Value->Shared->Prop}{h0:Heap}{I:Addr}(hh:A.handled=none)(hQ:∀h',Heap.ExtBut I h0 h'->Q none {s with heap:=h'})(hs:Heap.ExtBut I h0 s.heap) :
  wpAny (model prog w) A.in1 (newExc (.type "StopIteration") [] >>= λe=>(raiseNew e:Sem Fin)) (λfin s'=>∃r,fin=.done (.ret r)/\Q (some r) s') (λe s'=>wpAny (model prog w) A (do if←isInstance e (.type "StopIteration")then pure none else throw e) Q E s') s:=by
 refine TK ?_;simp only[newExc,newTuple];refine TK (Ux ?_ (by size_fits));refine TK (m:=firstArgMember _ _) (wpAny_of_eq (a:=Value.none) (by first|rfl | (simp only[firstArgMember];rfl)) ?_);refine Ux ?_ (by size_fits);simp only[raiseNew];refine TK (wpAny_handled ?_);rw[show A.in1.handled=none from hh];refine TK (TM (wpAny_throw ?_));refine TK (wpAny_isInstance (T:="StopIteration") (b:=true) ⟨_,TR _ rfl,rfl⟩ isSubtype_stop ?_);exact TM (hQ _ ((hs.push _).push _))
theorem oU{I S:Addr}{ks:List Key}{es:Array (Int×Value)}{i ep:Nat}{t:SetTable}{first:Value}{R:Fin->Shared->Prop}{F:Value->Shared->Prop}(hI:s.heap.get? I=some (e8 first i S es.size ep))(hS:fA prog w s.heap S ks es ep t)
  (h:wpAny (model prog w) A (if let .int slot _:=first then do
    match←setNext S slot.toNat i ep with
    |some (x,next) =>
     setField (.ref I) 0 (rawInt next)
     setField (.ref I) 1 (rawInt (i+1))
     ret x
    |none=>setField (.ref I) 2 .none;raiseNew (←newExc (.type "StopIteration") [])
   else do
    let some places←seqItems? first|unsupported "internal:set_iterator"
    match places[i]? with
    |some (.int place _) =>
     let x←setNextDrawn S place.toNat ep
     setField (.ref I) 1 (rawInt (i+1))
     ret x
    |some _=>unsupported "internal:set_iterator"
    |none=>setField (.ref I) 0 (rawInt 0);setField (.ref I) 2 .none;raiseNew (←newExc (.type "StopIteration") [])) R F s) :
  wpAny (model prog w) A (Builtin.«set_iterator.__next__» ⟨[.ref I],[]⟩) R F s:=by
 unfold Builtin.«set_iterator.__next__» slotArgs;simp only[List.isEmpty_nil,Bool.not_true,Bool.false_eq_true,↓reduceIte,bind_assoc,List.length_nil,bne_self_eq_false];refine TK (TM ?_);try dsimp only
 refine TK (wpAny_fieldsOf hI rfl ?_);dsimp only;refine TK (wpAny_setEntries_of hS.obj rfl hS.fits ?_);rw[UD (by simp)];exact h
theorem FE{I S:Addr}{ks:List Key}{es:Array (Int×Value)}{i ep slot next:Nat}{t:SetTable}{v:Value}{Q:Option Value->Shared->Prop}(hI:s.heap.get? I=some (e8 (.int slot 0) i S es.size ep))(hS:fA prog w s.heap S ks es ep t)
  (hn:∀(Q:Option (Value×Nat)->Shared->Prop)(E:Value->Shared->Prop),Q (some (v,next)) s->wpAny (model prog w) A.in1 (setNext S slot i ep) Q E s)
  (hQ:∀h',h'.get? I=some (e8 (.int next 0) (i+1) S es.size ep)->(∀b,b≠I->h'.get? b=s.heap.get? b)->Q (some v) {s with heap:=h'}):wpAny (model prog w) A (pyNext (.ref I)) Q E s:=by
 refine my hI (oU hI hS ?_);dsimp only;refine TK (hn _ _ ?_);dsimp only;refine TK (wpAny_setField hI rfl (by simp) ?_);have h1:=mI (s:=s) hI (first':=.none) (i':=0) (fs:=#[.int next 0,.int i 0,.ref S,.int es.size 0,.int ep 0]) 0 (rawInt next) (by decide) (by simp[rawInt]);refine TK (wpAny_setField h1 rfl (by simp) ?_);have h2:=mI (s:={s with heap:=s.heap.update I (Obj.mapFields (·.setIfInBounds 0 (rawInt next)))}) (first:=.int next 0) (i:=i) (S:=S) (n:=es.size) (ep:=ep) h1 (first':=.none) (i':=0) (fs:=#[.int next 0,.int ((i+1:Nat):Int) 0,.ref S,.int es.size 0,.int ep 0]) 1 (rawInt ((i:Int)+1)) (by decide) (by simp[rawInt]);refine TM ⟨_,rfl,hQ _ h2 λb hb=>?_⟩;exact((Heap.SameBut.update _ I _).2 b hb).trans ((Heap.SameBut.update _ I _).2 b hb)
theorem JH{I S:Addr}{ks:List Key}{es:Array (Int×Value)}{i ep slot:Nat}{t:SetTable}{Q:Option Value->Shared->Prop}(hh:A.handled=none)(hI:s.heap.get? I=some (e8 (.int slot 0) i S es.size ep))(hS:fA prog w s.heap S ks es ep t)
  (hn:∀(Q:Option (Value×Nat)->Shared->Prop)(E:Value->Shared->Prop),Q none s->wpAny (model prog w) A.in1 (setNext S slot i ep) Q E s)
  (hQ:∀h',Heap.ExtBut I s.heap h'->Q none {s with heap:=h'}):wpAny (model prog w) A (pyNext (.ref I)) Q E s:=by
 refine my hI (oU hI hS ?_);dsimp only;refine TK (hn _ _ ?_);dsimp only;refine TK (wpAny_setField hI rfl (by simp) ?_);exact va (s:={s with heap:=s.heap.update I (Obj.mapFields (·.setIfInBounds 2 .none))}) (I:=I) (h0:=s.heap) hh hQ (Heap.SameBut.update ..).extBut
theorem Fd{I S T:Addr}{ks:List Key}{es:Array (Int×Value)}{i ep p:Nat}{t:SetTable}{ps:Array Value}{hv:Int}{v:Value}{Q:Option Value->Shared->Prop}(hI:s.heap.get? I=some (e8 (.ref T) i S es.size ep))(hS:fA prog w s.heap S ks es ep t)
  (hT:s.heap.get? T=some {cls:=.type "tuple",data:=.seq ps}) (hp:ps[i]? = some (.int p 0)) (he:es[p]? = some (hv,v))
  (hQ:∀h',h'.get? I=some (e8 (.ref T) (i+1) S es.size ep)->(∀b,b≠I->h'.get? b=s.heap.get? b)->Q (some v) {s with heap:=h'}):wpAny (model prog w) A (pyNext (.ref I)) Q E s:=by
 refine my hI (oU hI hS ?_);dsimp only;unfold seqItems?;refine TK (TK (wpAny_load hT (TM ?_)));dsimp only;rw[hp];dsimp only;unfold setNextDrawn;refine TK (TK (wpAny_setState_of hS.obj rfl hS.fits ?_));dsimp only;rw[UD (by simp)];rw[show es[(p:Int).toNat]? = some (hv,v) from he];refine TM ?_;refine TK (wpAny_setField hI rfl (by simp) ?_);have h2:=mI (s:=s) hI (first':=.none) (i':=0) (fs:=#[.ref T,.int ((i+1:Nat):Int) 0,.ref S,.int es.size 0,.int ep 0]) 1 (rawInt ((i:Int)+1)) (by decide) (by simp[rawInt]);exact TM ⟨_,rfl,hQ _ h2 λb hb=>(Heap.SameBut.update _ I _).2 b hb⟩
theorem ID{I S T:Addr}{ks:List Key}{es:Array (Int×Value)}{i ep:Nat}{t:SetTable}{ps:Array Value}{Q:Option Value->Shared->Prop}(hh:A.handled=none)(hI:s.heap.get? I=some (e8 (.ref T) i S es.size ep))(hS:fA prog w s.heap S ks es ep t)
  (hT:s.heap.get? T=some {cls:=.type "tuple",data:=.seq ps}) (hp:ps[i]? = none)
  (hQ:∀h',Heap.ExtBut I s.heap h'->Q none {s with heap:=h'}):wpAny (model prog w) A (pyNext (.ref I)) Q E s:=by
 refine my hI (oU hI hS ?_);dsimp only;unfold seqItems?;refine TK (TK (wpAny_load hT (TM ?_)));dsimp only;rw[hp];dsimp only;refine TK (wpAny_setField hI rfl (by simp) ?_);have h1:=mI (s:=s) hI (first':=.none) (i':=0) (fs:=#[.int 0 0,.int i 0,.ref S,.int es.size 0,.int ep 0]) 0 (rawInt 0) (by decide) (by simp[rawInt]);refine TK (wpAny_setField h1 rfl (by simp) ?_);refine va (s:={s with heap:=(s.heap.update I (Obj.mapFields (·.setIfInBounds 0 (rawInt 0)))).update I (Obj.mapFields (·.setIfInBounds 2 .none))}) (I:=I) (h0:=s.heap) hh hQ ?_;exact((Heap.SameBut.update s.heap I _).trans (Heap.SameBut.update _ I _)).extBut
end
theorem yT{α:Type}(next:Nat->Nat):∀(fuel k:Nat)(left:List α)(out:Array α),left.length=fuel->(pickOrder.go next fuel k left out).toList.Perm (out.toList++left)
 | 0,k,left,out,e=>by have:left=[]:=List.length_eq_zero_iff.mp e;subst this;unfold pickOrder.go;simp
 |fuel+1,k,left,out,e=>by
  unfold pickOrder.go;have hlt:next k % left.length<left.length:=Nat.mod_lt _ (by omega)
  have hg:left[next k % left.length]? = some left[next k % left.length]:=T_ hlt;rw[hg];dsimp only;refine(yT next fuel (k+1) _ _ (by rw[List.length_eraseIdx_of_lt hlt,e];rfl)).trans ?_;rw[Array.toList_push,List.append_assoc];refine List.Perm.append_left _ ?_;exact hU hg
theorem rX{α:Type}(next:Nat->Nat)(xs:Array α):(pickOrder next xs).toList.Perm xs.toList:=by
 unfold pickOrder;have:=yT next xs.size 0 xs.toList #[] (by simp)
 simpa using this
def Gx(place:Array Nat):Nat->Nat
 | 0=>0
 |i+1=>(place[i]?.getD 0)+1
theorem xB{place:Array Nat}(h:CT place):∀{i:Nat},i<=place.size->SetTable.below place (Gx place i)=i
 | 0,_=>by
  obtain⟨h1,h2,h3⟩:=lI h 0;show SetTable.below place 0=0;rcases Nat.eq_zero_or_pos (SetTable.below place 0)with q|q
  ·exact q
  ·have hz:0<place.size:=by omega
   have:=h2 0 _ q (Uu hz);omega
 |i+1,hi=>by
  have hlt:i<place.size:=hi;have eg:place[i]? = some place[i]:=Uu hlt;have es:Gx place (i+1)=place[i]+1:=by show(place[i]?.getD 0)+1=_;rw[eg];rfl
  rw[es];obtain⟨h1,h2,h3⟩:=lI h (place[i]+1);rcases Nat.lt_trichotomy (SetTable.below place (place[i]+1)) (i+1)with q|q|q
  ·have:=h3 i _ (by omega) eg;omega
  ·exact q
  ·have hlt2:i+1<place.size:=by omega
   have e2:place[i+1]? = some place[i+1]:=Uu hlt2;have a:=h2 (i+1) _ q e2;have b:=h.lt (Nat.lt_succ_self i) eg e2;omega
section
variable{prog:Program}{w:World}
def Nx(prog:Program)(w:World)(S:Addr)(ks:List Key)(es:Array (Int×Value))(ep:Nat)(t:SetTable)(sl:Nat->Nat)(vs:List Value):Prop :=
 ∀(i:Nat)(s:Shared)(A:Around)(E:Value->Shared->Prop)(Q:Option (Value×Nat)->Shared->Prop),fA prog w s.heap S ks es ep t->i<=es.size->Q ((vs[i]?).map λv=>(v,sl (i+1))) s->wpAny (model prog w) A (setNext S (sl i) i ep) Q E s
theorem F8{S:Addr}{ks:List Key}{es:Array (Int×Value)}{ep:Nat}{t:SetTable}(hb:bX w=true):Nx prog w S ks es ep t (λ_=>0) ((pickOrder (w.params.setOrder S ep) es).toList.map (·.2)):=by intro i s A E Q hS hi q;unfold setNext setsByText;refine TK (wpAny_setState_of hS.obj rfl hS.fits ?_);dsimp only;refine TK (TK (wpAny_askSetting (TM ?_)));rw[UE (show(model prog w).w.params.followText "set-order"=true from hb),UD (by simp)];unfold setWalk setsByText;refine TK (TK (wpAny_setState_of hS.obj rfl hS.fits ?_));dsimp only;refine TK (TK (wpAny_askSetting (TM ?_)));rw[UE (show(model prog w).w.params.followText "set-order"=true from hb)];refine TK (wpAny_askSetting (TM (TM ?_)));rw[Us,Option.map_map,Array.getElem?_toList]at q;exact q
theorem Ce{S:Addr}{ks:List Key}{es:Array (Int×Value)}{ep:Nat}{t:SetTable}(hb:bX w=false)(hd:nj es t=false):Nx prog w S ks es ep t (Gx t.place) (es.toList.map (·.2)):=by
 intro i s A E Q hS hi q;have hps:t.place.size=es.size:=by have:=hS.fits;simp[SetTable.fits]at this;exact this.1
 unfold setNext setsByText;refine TK (wpAny_setState_of hS.obj rfl hS.fits ?_);dsimp only;refine TK (TK (wpAny_askSetting (TM ?_)));rw[UD (show¬(model prog w).w.params.followText "set-order"=true by show¬bX w=true;rw[hb];decide)];have N3:t.led=true:=by rw[hS.tab.led,hb];rfl
 show wpAny _ _ (if nj es t=true then _ else _) _ _ _;rw[UD (by rw[hd];decide)];show wpAny _ _ ((if(!t.led && !es.isEmpty)=true then unsupported _ else pure ()) >>= _) _ _ _;rw[UD (by rw[N3];simp)];refine TK (TM (TM ?_));rw[xB hS.tab.Ob (by rw[hps];exact hi)];rw[Us,Option.map_map,Array.getElem?_toList]at q;by_cases hlt:i<es.size
 ·rw[Uu hlt]at q⊢;have hp2:i<t.place.size:=by rw[hps];exact hlt
  have e2:Gx t.place (i+1)=t.place[i]+1:=by show(t.place[i]?.getD 0)+1=_;rw[Uu hp2];rfl
  rw[Uu hp2];dsimp only[Option.map_some,Function.comp]at q⊢;rw[e2]at q;exact q
 ·rw[Array.getElem?_eq_none (by omega)]at q⊢;exact q
theorem lW:Slot "set_iterator" "__iter__" "set_iterator.__iter__" :=
 .of (owner:="set_iterator") (n:="__iter__") (by rw[typeLookup_type,builtinLookup_eq_fast];kernel_rfl) (by decide +kernel) (by decide +kernel) (by decide +kernel)
  (by first|exact .inl (by decide +kernel)|exact .inr (by decide +kernel)) (by rw[isSubtype_type];kernel_rfl)
theorem qV:entryFor table "set_iterator.__iter__"=some Builtin.«dict_keyiterator.__iter__» :=
 entryFor_alias (id':="dict_keyiterator.__iter__") (by kernel_rfl) rfl (by decide +kernel) (by kernel_rfl)
theorem tJ(a:Value):argsOk "set_iterator.__iter__" ⟨[a],[]⟩:=by unfold argsOk;kernel_rfl
theorem yE{A:Around}{E:Value->Shared->Prop}{s:Shared}{I S:Addr}{first:Value}{i n ep:Nat}{Q:Value->Shared->Prop}(hI:s.heap.get? I=some (e8 first i S n ep))(h:Q (.ref I) s):wpAny (model prog w) A (pyIter (.ref I)) Q E s:=by have hT:s.TypeIs (.ref I) "set_iterator":=⟨_,hI,rfl⟩;refine wpAny_pyIter_slot hT lW (UO lW hT qV ?_ (tJ _));show wpAny _ _ (ret (.ref I)) _ _ s;exact TM ⟨_,rfl,"set_iterator",_,hT,eW.lookup,h⟩
theorem DM{A:Around}(hh:A.handled=none){I S:Addr}(hne:S≠I){ks:List Key}{es:Array (Int×Value)}{ep:Nat}{t:SetTable}{sl:Nat->Nat}{vs:List Value}(hv:vs.length=es.size)(hn:Nx prog w S ks es ep t sl vs) :
  Walks prog w A I [I,S] [I] es.size (λi v=>vs[i]? = some v) (λi h=>h.get? I=some (e8 (.int (sl i) 0) i S es.size ep)/\fA prog w h S ks es ep t) where
 sub:=λb hb=>by simp at hb;simp[hb]
 frame:=λ_ _ _ st hk=>⟨hk I (by simp) _ st.1,st.2.keep λo e=>hk S (by simp) o e⟩
 item:=λi s Q E hi st hQ=>by have e:vs[i]? = some (vs[i]'(by omega)):=T_ (by omega);refine FE (v:=vs[i]'(by omega)) (next:=sl (i+1)) st.1 st.2 (λQ E q=>hn i s _ E Q st.2 (Nat.le_of_lt hi) (by rw[e];exact q)) λh' h1 h2=>?_;exact hQ _ h' s.toks e ⟨h1,st.2.keep λo q=>(h2 S hne).trans q⟩ λb o hb q=>(h2 b (by simpa using hb)).trans q
 done:=λs Q E st hQ=>JH hh st.1 st.2 (λQ E q=>hn es.size s _ E Q st.2 (TU _) (by rw[List.getElem?_eq_none (by omega)];exact q)) λh' he=>hQ h' s.toks λb o hb e=>he b o (λh=>hb (by simp[h])) e
 self:=λi s Q E st hQ=>yE st.1 hQ
theorem xp{A:Around}(hh:A.handled=none){I S T:Addr}(hne:S≠I)(hnt:T≠I){ks:List Key}{es:Array (Int×Value)}{ep:Nat}{t:SetTable}{ps:List Nat}(hp:ps.Perm (List.range es.size)) :
  Walks prog w A I [I,S,T] [I] es.size (λi v=>(ps.filterMap λj=>(es[j]?).map (·.2))[i]? = some v) (λi h=>h.get? I=some (e8 (.ref T) i S es.size ep)/\fA prog w h S ks es ep t/\h.get? T=some {cls:=.type "tuple",data:=.seq (ps.map λ(i:Nat)=>Value.int i 0).toArray}) where
 sub:=λb hb=>by simp at hb;simp[hb]
 frame:=λ_ _ _ st hk=>⟨hk I (by simp) _ st.1,st.2.1.keep λo e=>hk S (by simp) o e,hk T (by simp) _ st.2.2⟩
 item:=λi s Q E hi st hQ=>by
  have hl:ps.length=es.size:=by rw[hp.length_eq];simp
  have hlt:i<ps.length:=by omega
  have hpi:ps[i]<es.size:=List.mem_range.mp (hp.mem_iff.mp (List.getElem_mem hlt));have em:(ps.filterMap λj=>(es[j]?).map (·.2))=ps.map λj=>(es.getD j (0,.none)).2:=by
   have gen:∀l:List Nat,(∀j∈l,j<es.size)->(l.filterMap λj=>(es[j]?).map (·.2))=l.map λj=>(es.getD j (0,.none)).2:=by
    intro l;induction l with
    |nil=>intro _;rfl
    |cons a l ih =>intro hl;have ha:=hl a Uy;rw[List.filterMap_cons,ih λj hj=>hl j (Uc _ hj)];simp[Array.getD,ha]
   exact gen ps λj hj=>List.mem_range.mp (hp.mem_iff.mp hj)
  refine Fd (p:=ps[i]) (hv:=es[ps[i]].1) (v:=es[ps[i]].2) st.1 st.2.1 st.2.2 (by simp[hlt]) (by rw[Uu hpi]) λh' h1 h2=>?_;refine hQ _ h' s.toks ?_ ⟨h1,st.2.1.keep λo q=>(h2 S hne).trans q,(h2 T hnt).trans st.2.2⟩ λb o hb q=>(h2 b (by simpa using hb)).trans q;rw[em,Us,T_ hlt];simp[Array.getD,hpi]
 done:=λs Q E st hQ=>by
  have hl:ps.length=es.size:=by rw[hp.length_eq];simp
  exact ID hh st.1 st.2.1 st.2.2 (by simp[hl]) λh' he=>hQ h' s.toks λb o hb e=>he b o (λh=>hb (by simp[h])) e
 self:=λi s Q E st hQ=>yE st.1 hQ
end
section
variable{prog:Program}{w:World}{A:Around}{E:Value->Shared->Prop}{s:Shared}
theorem BN(hh:A.handled=none){S:Addr}{ks:List Key}{es:Array (Int×Value)}{ep:Nat}{t:SetTable}{Q:Value->Shared->Prop}(hS:fA prog w s.heap S ks es ep t)
  (h:∀(I:Addr)(h1:Heap)(d:Drawn)(fp:List Addr)(vs:List Value)(St:Nat->Heap->Prop),(∀b o,s.heap.get? b=some o->h1.get? b=some o)->s.heap.objs.size<=I->(∀b∈fp,b=S\/s.heap.objs.size<=b)->
   Walks prog w A I fp [I] es.size (λi v=>vs[i]? = some v) St->St 0 h1->vs.length=es.size->vs.Perm (es.toList.map (·.2))->Q (.ref I) {s with heap:=h1,drawn:=d}) :
  wpAny (model prog w) A (pyIter (.ref S)) Q E s:=by
 have hlt:S<s.heap.objs.size:=TQ hS.obj;refine BO hS (λhb=>?_) λhb d ps hp=>?_
 ·have key:∀sl vs,sl 0=0->vs.length=es.size->vs.Perm (es.toList.map (·.2))->Nx prog w S ks es ep t sl vs->Q (.ref s.heap.objs.size) {s with heap:=s.heap.push (e8 (.int 0 0) 0 S es.size ep)}:=λsl vs h0 hl hpm hn=>by
   have W:=DM (A:=A) hh (I:=s.heap.objs.size) (S:=S) (Um hlt) hl hn;have:=h s.heap.objs.size (s.heap.push (e8 (.int 0 0) 0 S es.size ep)) s.drawn _ vs _ (λb o e=>TN _ e) (TU _) (λb hb=>?_) W ⟨?_,hS.keep λo e=>TN _ e⟩ hl hpm
   ·exact this
   ·simp only[Uj,UG,or_false]at hb;rcases hb with rfl|rfl
    ·exact .inr (TU _)
    ·exact .inl rfl
   ·rw[h0];exact TR _ rfl
  cases hbt:bX w with
  |true=>exact key _ _ rfl (by rw[TZ,(rX _ _).length_eq,US]) ((rX _ _).map _) (F8 hbt)
  |false =>rw[hbt]at hb;exact key _ _ rfl (by rw[TZ,US]) (List.Perm.refl _) (Ce hbt (by simpa using hb))
 ·have hl:ps.length=es.size:=by rw[hp.length_eq];simp
  have W:=xp (prog:=prog) (w:=w) (A:=A) hh (I:=s.heap.objs.size+1) (S:=S) (T:=s.heap.objs.size) (Um (Nat.lt_succ_of_lt hlt)) (Um (Nat.lt_succ_self _)) (ks:=ks) (es:=es) (ep:=ep) (t:=t) hp;have pm:(ps.filterMap λj=>(es[j]?).map (·.2)).Perm (es.toList.map (·.2)):=by refine(hp.filterMap _).trans ?_;rw[←List.map_filterMap];rw[filterMap_getElem?_range]
  refine h (s.heap.objs.size+1) _ d _ _ _ (λb o e=>TN _ (TN _ e)) (Nat.le_succ _) (λb hb=>?_) W ⟨?_,hS.keep λo e=>TN _ (TN _ e),TN _ (TR _ rfl)⟩ (by rw[pm.length_eq,TZ,US]) pm
  ·simp only[Uj,UG,or_false]at hb;rcases hb with rfl|rfl|rfl
   ·exact .inr (Nat.le_succ _)
   ·exact .inl rfl
   ·exact .inr (TU _)
  ·have:=TR (s.heap.push {cls:=.type "tuple",data:=.seq (ps.map λ(i:Nat)=>Value.int i 0).toArray}) (o:=e8 (.ref s.heap.objs.size) 0 S es.size ep) rfl;rw[size_push']at this;exact this
theorem B6{r:Addr}{Q:Bool->Shared->Prop}(hT:s.TypeIs (.ref r) "set")(h:Q false s):wpAny (model prog w) A (Builtin.List.listLengthHint (.ref r)) Q E s:=by
 unfold Builtin.List.listLengthHint;refine TK (wpAny_specialOf hT PySem.F.slot_set_len.lookup ?_);generalize hid:("set.__len__" : String)=id0
 wp_delta
 rw[show splitId id0=some ("set","__len__") from by subst hid;decide +kernel];subst hid;refine TK (wpAny_isInstance (T:="set") (b:=true) hT (by rw[isSubtype_type];kernel_rfl) ?_);refine wpAny_ite_split (λhab=>UC hab (by decide)) (λ_=>?_);refine wpAny_ite_split (λ_=>?_) (λhab=>UC (by decide +kernel) hab);refine TK (wpAny_typeOf hT ?_);exact TM h
theorem xP{S L:Addr}{ks:List Key}{es:Array (Int×Value)}{ep:Nat}{t:SetTable}{R:Result->Shared->Prop}(hh:A.handled=none)(hS:fA prog w s.heap S ks es ep t)(Qk:L≠S)(res:Value)(c₀:Nat)(hL:s.heap.get? L=some {cls:=.type "list",data:=.seq #[] c₀})
  (hR:∀h' tk d acc' c',(∀b o,b≠L->s.heap.get? b=some o->h'.get? b=some o)->h'.get? L=some {cls:=.type "list",dict:=none,data:=.seq acc' c',slots:=#[]}->acc'.toList.Perm (es.toList.map (·.2))->R (.ok (.ret res)) {s with heap:=h',toks:=tk,drawn:=d}) :
  wpAny (model prog w) A.in1 (Builtin.List.listExtendWith (.ref L) (.ref S) res)
   (λfin s'=>match fin with | .done f=>R (.ok f) s' | .again c'=>c'.quiet=true/\codeAny (model prog w) A c' R s') (λe s'=>R (.error e) s') s:=by
 have hT:s.TypeIs (.ref S) "set":=⟨_,hS.obj,rfl⟩;have hz:es.size<=sizeLine:=fits_of_scanBound hS.few;unfold Builtin.List.listExtendWith;refine TK (wpAny_typeOf hT ?_);have h1:Builtin.List.listSameRef (.ref L) (.ref S)=false:=by simp[Builtin.List.listSameRef,Qk]
 have h2:(Value.type "set"==Value.type "list")=false:=by decide
 have h3:(Value.type "set"==Value.type "tuple")=false:=by decide
 simp only[h1,h2,h3,Bool.or_false,Bool.false_eq_true,if_false];refine TK (BN (A:=A.in1) hh hS λI h1 d fp vs St hk hI hfp W st hvl hpm=>?_);have hLlt:L<s.heap.objs.size:=TQ hL;have hLI:L≠I:=Um (T9 hLlt hI);have hLf:L∉fp:=λhb=>by
  rcases hfp L hb with e|e
  ·exact Qk e
  ·exact UC hLlt (Nat.not_lt.mpr e)
 have key:∀(h:Heap)(c₁ tk:Nat),St 0 h->(∀b o,b≠L->s.heap.get? b=some o->h.get? b=some o)->
   h.get? L=some {cls:=.type "list",data:=.seq #[] c₁}->codeAny (model prog w) A (.builtin "list.extend.loop" ⟨[.ref L,.ref I,res],[]⟩) R {s with heap:=h,toks:=tk,drawn:=d}:=by
  intro h c₁ tk hst hkk hS₁;refine codeAny_extend_loopS W.toS hz L hLf res es.size 0 _ #[] c₁ rfl (Uo _) hst hS₁ (ItemsOf.nil _) λs' acc' c' hm hS' hacc=>?_;rw[Moved.eq_with hm];refine hR s'.heap s'.toks d acc' c' (λb o hb e=>hm.heap b o (λhmem=>?_) (hkk b o hb e)) hS' ?_
  ·rcases Uj.mp hmem with e'|hmem
   ·exact hb e'
   ·have:=Uh.mp hmem;subst this;exact UC (TQ e) (Nat.not_lt.mpr hI)
  ·have ev:acc'.toList=vs:=by
    refine List.ext_getElem? λi=>?_;rw[Array.getElem?_toList];by_cases hlt:i<es.size
    ·have:i<acc'.size:=by rw[hacc.1];exact hlt
     rw[Uu this];exact(hacc.2 i _ (Uu this)).symm
    ·rw[Array.getElem?_eq_none (by rw[hacc.1];omega),List.getElem?_eq_none (by omega)]
   rw[ev];exact hpm
 have hS₁:h1.get? L=some {cls:=.type "list",data:=.seq #[] c₀}:=hk _ _ hL;refine TK (Uw (B6 (s:={s with heap:=h1,drawn:=d}) ⟨_,hk _ _ hS.obj,rfl⟩ ?_));refine wpAny_ite_split (λ_=>?_) (λ_=>TM ⟨plainId_quiet PySem.F.plain_extend_loop _,key _ c₀ _ st (λb o _ e=>hk b o e) hS₁⟩);refine TK (wpAny_rule ?_);refine TK ?_;show wpAny _ _ (updateSeq L (·.push .none) >>= λ_=>updateSeq L (·.pop)) _ _ _;refine TK (wpAny_updateSeq hS₁ rfl ?_);have hS₂:=Heap.get?_update_self (Obj.mapSeq (·.push Value.none)) hS₁ rfl;refine wpAny_updateSeq (hz:=by seq_fits) hS₂ rfl ?_;have hS₃:=Heap.get?_update_self (Obj.mapSeq (·.pop)) hS₂ rfl;refine TM ⟨plainId_quiet PySem.F.plain_extend_loop _,key _ _ _ ?_ (λb o hb e=>?_) hS₃⟩
 ·refine W.frame 0 _ _ st λb hb o e=>?_;have hbS:b≠L:=λh=>hLf (h▸hb);exact(Heap.get?_update_other _ _ (Ne.symm hbS)).trans ((Heap.get?_update_other _ _ (Ne.symm hbS)).trans e)
 ·exact(Heap.get?_update_other _ _ (Ne.symm hb)).trans ((Heap.get?_update_other _ _ (Ne.symm hb)).trans (hk _ _ e))
theorem uG{S:Addr}{ks:List Key}{es:Array (Int×Value)}{ep:Nat}{t:SetTable}{R:List Value->Shared->Prop}(hh:A.handled=none)(hS:fA prog w s.heap S ks es ep t)
  (h:∀(h':Heap)(tk:Nat)(d:Drawn)(vs:List Value),s.heap.objs.size<=h'.objs.size->(∀b o,s.heap.get? b=some o->h'.get? b=some o)->vs.Perm (es.toList.map (·.2))->R vs {s with heap:=h',toks:=tk,drawn:=d}) :
  wpAny (model prog w) A (collect (.ref S)) R E s:=by
 have hlt:S<s.heap.objs.size:=TQ hS.obj;unfold collect;refine TK (wpAny_runValue (codeAny_builtin entry_proto_collect' ?_));rw[Around.under_plainId PySem.F.plain_proto_collect _];show wpAny _ A.in1 (newList [] >>= λl=>again (.builtin "list.__iadd__" ⟨[l,.ref S],[]⟩)) _ _ s;refine TK (Ux ?_);refine TM ⟨plainId_quiet PySem.F.plain_list_iadd _,codeAny_builtin entry_list_iadd' ?_⟩;rw[Around.under_plainId PySem.F.plain_list_iadd _];have hL:(s.heap.push {cls:=.type "list",data:=.seq ([]:List Value).toArray}).get? s.heap.objs.size=some {cls:=.type "list",data:=.seq #[]}:=TR _ rfl;show wpAny _ A.in1 (Builtin.List.listExtendWith (.ref s.heap.objs.size) (.ref S) (.ref s.heap.objs.size)) _ _ _;have key:=xP (A:=A) (s:={s with heap:=s.heap.push {cls:=.type "list",data:=.seq ([]:List Value).toArray}})
  (R:=λ(q:Result) (s':Shared)=>∃(h':Heap)(tk:Nat)(d:Drawn)(acc':Array Value)(c':Nat),q=.ok (.ret (.ref s.heap.objs.size))/\s' ={s with heap:=h',toks:=tk,drawn:=d}/\
   (∀b o,s.heap.get? b=some o->h'.get? b=some o)/\h'.get? s.heap.objs.size=some {cls:=.type "list",dict:=none,data:=.seq acc' c',slots:=#[]}/\acc'.toList.Perm (es.toList.map (·.2)))
  hh (hS.keep λo e=>TN _ e) (Nat.ne_of_gt hlt) (.ref s.heap.objs.size) 0 hL
  (λh' tk d acc' c' hk hS' hacc=>⟨h',tk,d,acc',c',rfl,rfl,λb o e=>hk b o (Um (TQ e)) (TN _ e),hS',hacc⟩)
 refine Uv key (λfin s' x=>?_) λe s' x=>?_
 ·cases fin with
  |done f =>obtain⟨h',tk,d,acc',c',e,rfl,hk,hS',hacc⟩:=x;cases e;show wpAny _ A (load s.heap.objs.size >>= _) _ _ _;refine TK (wpAny_load hS' ?_);exact TM (h h' tk d acc'.toList (Nat.le_of_lt (TQ hS')) hk hacc)
  |again c₁ =>refine⟨x.1,codeAny_mono x.2 λq s₂ y=>?_⟩;obtain⟨h',tk,d,acc',c',rfl,rfl,hk,hS',hacc⟩:=y;show wpAny _ A (load s.heap.objs.size >>= _) _ _ _;refine TK (wpAny_load hS' ?_);exact TM (h h' tk d acc'.toList (Nat.le_of_lt (TQ hS')) hk hacc)
 ·obtain⟨_,_,_,_,_,e',_⟩:=x;cases e'
theorem wt{S:Addr}{ks:List Key}{es:Array (Int×Value)}{ep:Nat}{t:SetTable}{Q:Value->Shared->Prop}(hh:A.handled=none)(hS:fA prog w s.heap S ks es ep t)
  (h:∀(h':Heap)(tk:Nat)(d:Drawn)(vs:List Value),s.heap.objs.size<=h'.objs.size->(∀b o,s.heap.get? b=some o->h'.get? b=some o)->vs.Perm (es.toList.map (·.2))->
   wpAny (model prog w) A.in1 (call (.builtin "list.sort") [.ref h'.objs.size]) (λ_ s'=>Q (.ref h'.objs.size) s') E {s with heap:=h'.push (seqObj "list" vs.toArray 0),toks:=tk,drawn:=d}) :
  wpAny (model prog w) A (call (.builtin "sorted") [.ref S]) Q E s:=by
 refine Calls.call_function_entry kind_sorted plain_sorted entry_sorted (args_sorted1 _) ?_;unfold Builtin.«sorted»;refine TK (m:=checkCount "sorted" 1 1 _) (TM ?_);refine TK (uG (A:=A.in1) hh hS λh' tk d vs hz hk hp=>?_);have hl:vs.length<=sizeLine:=by rw[hp.length_eq,TZ,US];exact fits_of_scanBound hS.few
 refine TK (wpAny_newList ?_ hl);refine TK (Uw (Uv (h h' tk d vs hz hk hp) (λ_ s' x=>?_) λ_ _ e=>e));exact TM ⟨_,rfl,x⟩
end
def LA(x y:Str):Prop:=x.cps.toList<y.cps.toList
theorem AJ:bootBuiltins "set"=some (.type "set"):=by kernel_rfl
theorem IW{x y:Str}(h:¬y.cps.toList<x.cps.toList)(n:x≠y):LA x y:=by unfold LA;have hle:x.cps.toList<=y.cps.toList:=List.not_lt.mp h;refine Decidable.byContradiction λh2=>n ?_;have NI:y.cps.toList<=x.cps.toList:=List.not_lt.mp h2;have e:=List.le_antisymm hle NI;cases x;cases y;simp at e;subst e;rfl
theorem Gj{vs:List Value}{ss:List Str}(hS:StrsAre vs ss){xs:Array Keyed}(hp:xs.Perm (pairsOf vs))(hs:SortedToK strKind xs (pairsOf vs).size) :
  ∃ss',StrsAre (xs.map (·.2)).toList ss'/\ss'.Perm ss/\ss'.Pairwise λa b=>¬b.cps.toList<a.cps.toList:=by
 have hl:xs.toList.Perm (vs.zip vs):=by rw[←pairsOf_toList];exact Array.perm_iff_toList_perm.mp hp
 have hmem:∀p,p∈xs.toList->p.1=p.2/\p.1∈vs:=λp hp'=>mem_zip_self (hl.mem_iff.mp hp');refine⟨xs.toList.map (λp=>strOf p.1),?_,?_,?_⟩
 ·have e:(xs.map (·.2)).toList=xs.toList.map (·.1):=by rw[Array.toList_map];exact List.map_congr_left λp hp'=>(hmem p hp').1.symm
  rw[e];have h1:=strsAre_map (xs.toList.map (·.1)) (by intro v hv;obtain⟨p,hp',rfl⟩:=Ui.mp hv;exact hS.all _ (hmem p hp').2)
  rwa[List.map_map]at h1
 ·have h1:=hl.map (λp=>strOf p.1);have e2:(vs.zip vs).map (λp=>strOf p.1)=ss:=by
   have:(vs.zip vs).map (λp=>strOf p.1)=((vs.zip vs).map Prod.fst).map strOf:=by rw[List.map_map];rfl
   rw[this,List.map_fst_zip (TU _),hS.strs]
  rwa[e2]at h1
 ·rw[List.pairwise_iff_getElem];intro i j hi hj hij;have hi':i<xs.size:=by simpa using hi
  have hj':j<xs.size:=by simpa using hj
  have h1:=hs i j (Nat.le_of_lt hij) (by rw[←hp.size_eq];exact hj');obtain⟨x,t,ex⟩:=hS.all _ (hmem xs[i] (by simp)).2;obtain⟨y,u,ey⟩:=hS.all _ (hmem xs[j] (by simp)).2;rw[KK_str hi' (x:=x) (t:=t) (q:=xs[i].2) (Prod.ext ex rfl),KK_str hj' (x:=y) (t:=u) (q:=xs[j].2) (Prod.ext ey rfl)]at h1;change decide (y.cps.toList<x.cps.toList)=false at h1;simp only[List.getElem_map,Array.getElem_toList];rw[show strOf xs[i].1=x by rw[ex];rfl,show strOf xs[j].1=y by rw[ey];rfl];exact of_decide_eq_false h1
section
variable{prog:Program}{w:World}{A:Around}{E:Value->Shared->Prop}{s:Shared}
theorem A4{a:Addr}{vs:List Value}{ns:List Int}{Q:Value->Shared->Prop}(ho:s.heap.get? a=some (seqObj "list" vs.toArray 0))(hI:IntsAre vs ns)(h64:vs.length<64)
  (h:∀(out:Array Value)(ns':List Int),IntsAre out.toList ns'->ns'.Perm ns->ns'.Pairwise (·<=·)->Q .none {s with heap:=sortedHeap s.heap a vs out}):wpAny (model prog w) A (call (.builtin "list.sort") [.ref a]) Q E s :=
 UO slot_list_sort ⟨_,ho,rfl⟩ entry_list_sort (list_sort_tree ho hI h64 λout ns' a1 a2 a3=>⟨_,rfl,h out ns' a1 a2 a3⟩) (args_list_sort _)
theorem zK{a:Addr}{vs:List Value}{ss:List Str}{Q:Value->Shared->Prop}(ho:s.heap.get? a=some (seqObj "list" vs.toArray 0))(hS:StrsAre vs ss)(h64:vs.length<64)
  (h:∀(out:Array Value)(ss':List Str),StrsAre out.toList ss'->ss'.Perm ss->(ss'.Pairwise λa b=>¬b.cps.toList<a.cps.toList)->Q .none {s with heap:=sortedHeap s.heap a vs out}):wpAny (model prog w) A (call (.builtin "list.sort") [.ref a]) Q E s :=
 UO slot_list_sort ⟨_,ho,rfl⟩ entry_list_sort (list_sort_treeK strKind_oneLt ho hS.keysOf (λv₁ v₂ rest e=>keyKind_strs (by rw[←e];exact hS)) h64 λst' hp hs=>⟨_,rfl,by obtain⟨ss',h1,h2,h3⟩:=Gj hS hp hs;exact h _ ss' h1 h2 h3⟩) (args_list_sort _)
end
def pe(xs ys:List V):Prop :=
 (∃ns ms:List Int,xs=ns.map V.int/\ys=ms.map V.int/\ms.Pairwise (· < ·)/\∀n,n∈ms↔n∈ns)\/∃ns ms:List Str,xs=ns.map V.str/\ys=ms.map V.str/\ms.Pairwise LA/\∀n,n∈ms↔n∈ns
def BL(K:UX)(te:TE):TE:=λσ H Q=>te σ H λx H1=>∃a xs,x=.ref a/\(bj K H1 a xs\/aY K H1 a xs)/\xs.length<64/\((∃ns:List Int,xs=ns.map V.int)\/∃ss:List Str,xs=ss.map V.str)/\
 ∀p ys,H1 p=none->pe xs ys->Q (.ref p) (upd H1 p (.lst ys))
theorem Jy{ms ms':List Int}(h:ms.Pairwise (·<=·))(n:ms.Nodup):ms.Pairwise (· < ·):=by rw[List.pairwise_iff_getElem]at h⊢;intro i j hi hj hij;have h1:=h i j hi hj hij;have h2:=List.pairwise_iff_getElem.mp n i j hi hj hij;omega
theorem wD{ns:List Int}:∀{us:List Value},IntsAre us ns->Vals (ns.map V.int) us:=by
 induction ns with
 |nil=>intro us r;cases r;exact .nil
 |cons y ys ih=>intro us r;cases r with|cons _ t r=>exact .cons ⟨t,rfl⟩ (ih r)
theorem wm{ns:List Str}:∀{us:List Value},StrsAre us ns->Vals (ns.map V.str) us:=by
 induction ns with
 |nil=>intro us r;cases r;exact .nil
 |cons y ys ih=>intro us r;cases r with|cons _ t r=>exact .cons ⟨t,rfl⟩ (ih r)
def keyV:V->Key
 | .int n=>.inl n
 | .str x=>.inr x
 |_=>.inl 0
def jO(xs:List V)(i:Nat):Key:=((xs[i]?).map keyV).getD (.inl 0)
theorem ku{xs:List V}{k:Key}:k∈lN (jO xs) xs.length↔∃x∈xs,keyV x=k:=by
 rw[uS];constructor
 ·rintro⟨j,hj,e⟩;refine⟨xs[j],List.getElem_mem hj,?_⟩;unfold jO at e;rw[T_ hj]at e;exact e
 ·rintro⟨x,hx,e⟩;obtain⟨j,hj,rfl⟩:=List.mem_iff_getElem.mp hx;refine⟨j,hj,?_⟩;unfold jO;rw[T_ hj];exact e
theorem Dx{xs:List V}{its:List Value}(r:Vals xs its)(hx:∀x∈xs,(∃n,x=.int n)\/∃y,x=.str y)(i:Nat)(v:Value)(e:its.toArray[i]? = some v):gz (jO xs i) v=true/\v.scannable=true:=by
 have e':its[i]? = some v:=by simpa using e
 have hl:=r.length;have hi:i<xs.length:=by rw[hl];exact(Ug.mp e').1
 obtain⟨u,hu,ru⟩:=r.get (T_ hi);rw[e']at hu;cases hu;have ek:jO xs i=keyV xs[i]:=by unfold jO;rw[T_ hi];rfl
 rw[ek];rcases hx xs[i] (List.getElem_mem hi)with⟨n,q⟩|⟨y,q⟩
 ·rw[q]at ru⊢;obtain⟨t,rfl⟩:=ru;exact⟨nI n t,rfl⟩
 ·rw[q]at ru⊢;obtain⟨t,rfl⟩:=ru;exact⟨nk y t,rfl⟩
section
variable{X:Cx}{e:Expr}{te:TE}{p1 p2 pos pos2:Pos}
theorem uy{ac:List (Addr×Obj)}{σ:St}{H:Hp}{s:Shared}{Q:VK}{S:Addr}{xs:List V}{es:Array (Int×Value)}{ep:Nat}{t:SetTable}(hc:X.calm=true)(I:Inv X ac σ H s)(hS:fA X.prog X.w s.heap S (lN (jO xs) xs.length) es ep t)(h64:xs.length<64)
  (hx:(∃ns:List Int,xs=ns.map V.int)\/∃ss:List Str,xs=ss.map V.str) (q:∀p ys,H p=none->pe xs ys->Q (.ref p) (upd H p (.lst ys))) :
  wpAny (model X.prog X.w) X.A (call (.builtin "sorted") [.ref S]) (EP X ac σ Q) X.xe s:=by
 refine wt (I.ok.hd hc) hS λh' tk d vs hz hk hp=>?_;have hn:H h'.objs.size=none:=I.hok.fresh hz;have hperm:(vs.map Bd).Perm (lN (jO xs) xs.length):=by refine(hp.map Bd).trans ?_;rw[List.map_map];exact hS.keys
 have hlen:vs.length<64:=by have h1:=hperm.length_eq;have h2:=pI (jO xs) xs.length;rw[TZ]at h1;omega
 have hel:∀v∈vs,∃k,gz k v=true/\k∈lN (jO xs) xs.length:=λv hv=>by obtain⟨e,he,rfl⟩:=Ui.mp (hp.mem_iff.mp hv);obtain⟨⟨k,hk',_⟩,_⟩:=hS.els e he;exact⟨k,hk',hS.mem.mp ⟨e,he,hk'⟩⟩
 have hob:(h'.push (seqObj "list" vs.toArray 0)).get? h'.objs.size=some (seqObj "list" vs.toArray 0):=TR _ rfl;have fin:∀(ys:List V)(out:Array Value),Vals ys out.toList->ys.length<64->pe xs ys->EP X ac σ Q (.ref h'.objs.size) {s with heap:=sortedHeap (h'.push (seqObj "list" vs.toArray 0)) h'.objs.size vs out,toks:=tk,drawn:=d}:=λys out r hl so=>by
  have keep:∀b o,s.heap.get? b=some o->(sortedHeap (h'.push (seqObj "list" vs.toArray 0)) h'.objs.size vs out).get? b=some o:=λb o e=>by have hb:=hk b o e;have hlt:=TQ hb;rw[sortedHeap_old (Um hlt) (by rw[size_push'];exact Nat.lt_succ_of_lt hlt)];exact TN _ hb
  obtain⟨c,hat⟩ :∃c,(sortedHeap (h'.push (seqObj "list" vs.toArray 0)) h'.objs.size vs out).get? h'.objs.size=some (seqObj "list" out c):=sortedHeap_at hob;have hobj:cc X.prog X.w (upd H h'.objs.size (.lst ys)) (sortedHeap (h'.push (seqObj "list" vs.toArray 0)) h'.objs.size vs out) h'.objs.size (.lst ys):=⟨by rw[sizeLine_eq];omega,out.toList,c,r,by rw[hat]⟩;refine⟨.ref h'.objs.size,upd H h'.objs.size (.lst ys),?_,rfl,q _ _ hn so⟩;exact I.call' (s':={s with heap:=sortedHeap (h'.push (seqObj "list" vs.toArray 0)) h'.objs.size vs out,toks:=tk,drawn:=d}) (ch:=[]) rfl (Un.laid keep hz hn) (I.hok.laid keep hz hobj) I.bare λb hb=>UC hb (by simp)
 rcases hx with⟨ns,rfl⟩|⟨ss,rfl⟩
 ·have hint:∀v∈vs,∃n t,v=Value.int n t:=λv hv=>by
   obtain⟨k,hk1,hk2⟩:=hel v hv;obtain⟨x,hx,e⟩:=ku.mp hk2;obtain⟨n,hn',rfl⟩:=Ui.mp hx;subst e;rcases bB hk1 with⟨i,t,e1,e2⟩|⟨y,t,e1,e2⟩
   ·exact⟨i,t,e2⟩
   ·cases e1
  have hI:=intsAre_map vs hint;refine A4 hob hI hlen λout ns' a1 a2 a3=>?_;have ek:vs.map Bd=(vs.map numOf).map Sum.inl:=by rw[List.map_map];refine List.map_congr_left λv hv=>?_;obtain⟨n,t,rfl⟩:=hint v hv;rfl
  have zM:ns'.Nodup:=by refine a2.nodup_iff.mpr ?_;have h1:=hperm.nodup_iff.mpr hS.Nc;rw[ek]at h1;exact(List.pairwise_map.mp h1).imp λhne e=>hne (congrArg _ e)
  refine fin (ns'.map V.int) out (wD a1) (by rw[TZ,a2.length_eq,TZ];exact hlen) (.inl ⟨ns,ns',rfl,rfl,Jy (ms':=[]) a3 zM,λn=>?_⟩);rw[a2.mem_iff];have:n∈vs.map numOf↔(Sum.inl n:Key)∈vs.map Bd:=by
   rw[ek];constructor
   ·exact λh=>Ui.mpr ⟨n,h,rfl⟩
   ·intro h;obtain⟨m,hm,e⟩:=Ui.mp h;cases e;exact hm
  rw[this,hperm.mem_iff,ku];constructor
  ·rintro⟨x,hx,e⟩;obtain⟨m,hm,rfl⟩:=Ui.mp hx;cases e;exact hm
  ·exact λh=>⟨.int n,Ui.mpr ⟨n,h,rfl⟩,rfl⟩
 ·have hstr:∀v∈vs,∃n t,v=Value.str n t:=λv hv=>by
   obtain⟨k,hk1,hk2⟩:=hel v hv;obtain⟨x,hx,e⟩:=ku.mp hk2;obtain⟨n,hn',rfl⟩:=Ui.mp hx;subst e;rcases bB hk1 with⟨i,t,e1,e2⟩|⟨y,t,e1,e2⟩
   ·cases e1
   ·exact⟨y,t,e2⟩
  have hI:=strsAre_map vs hstr;refine zK hob hI hlen λout ns' a1 a2 a3=>?_;have ek:vs.map Bd=(vs.map strOf).map Sum.inr:=by rw[List.map_map];refine List.map_congr_left λv hv=>?_;obtain⟨n,t,rfl⟩:=hstr v hv;rfl
  have zM:ns'.Nodup:=by refine a2.nodup_iff.mpr ?_;have h1:=hperm.nodup_iff.mpr hS.Nc;rw[ek]at h1;exact(List.pairwise_map.mp h1).imp λhne e=>hne (congrArg _ e)
  refine fin (ns'.map V.str) out (wm a1) (by rw[TZ,a2.length_eq,TZ];exact hlen) (.inr ⟨ss,ns',rfl,rfl,?_,λn=>?_⟩)
  ·rw[List.pairwise_iff_getElem]at a3⊢;intro i j hi hj hij;exact IW (a3 i j hi hj hij) (List.pairwise_iff_getElem.mp zM i j hi hj hij)
  rw[a2.mem_iff];have:n∈vs.map strOf↔(Sum.inr n:Key)∈vs.map Bd:=by
   rw[ek];constructor
   ·exact λh=>Ui.mpr ⟨n,h,rfl⟩
   ·intro h;obtain⟨m,hm,e⟩:=Ui.mp h;cases e;exact hm
  rw[this,hperm.mem_iff,ku];constructor
  ·rintro⟨x,hx,e⟩;obtain⟨m,hm,rfl⟩:=Ui.mp hx;cases e;exact hm
  ·exact λh=>⟨.str n,Ui.mpr ⟨n,h,rfl⟩,rfl⟩
theorem xC(hc:X.calm=true)(hg1:Gl X "sorted")(hm1:X.mg "sorted"=none)(hg2:Gl X "set")(hm2:X.mg "set"=none)(he:PE X e te)(hs1:starEach [e] X.env=[(false,eval e X.env)]:=by rfl)
  (hs2:starEach [Expr.Call (.Name "set" p2) [e] [] pos2] X.env=[(false,eval (.Call (.Name "set" p2) [e] [] pos2) X.env)]:=by rfl) :
  PE X (.Call (.Name "sorted" p1) [.Call (.Name "set" p2) [e] [] pos2] [] pos) (BL X.K te):=by
 intro ac s σ H Q I h;refine wpAny_Call_Name_kw (iY I hg1 hm1 boot_sorted ?_ (by decide) (by decide));refine PyProof.Rows.callWith_builtin1 ?_ hs2 rfl;rw[hs2];refine Calls.spliced_cons ?_;refine wpAny_Call_Name_kw (iY I hg2 hm2 AJ ?_ (by decide) (by decide));refine PyProof.Rows.callWith_type1 ?_ hs1 rfl;rw[hs1];refine Calls.spliced_cons (bJ (he ac s σ H _ I h) λu s1 zz=>?_);obtain⟨x,H1,I1,r1,a,xs,ex,Lz,h64,hx,q⟩:=zz;refine Calls.spliced_nil ?_;subst ex;cases r1;have hx':∀x∈xs,(∃n,x=.int n)\/∃y,x=.str y:=λx P8=>by
  rcases hx with⟨ns,rfl⟩|⟨ss,rfl⟩
  ·obtain⟨n,_,rfl⟩:=Ui.mp P8;exact .inl ⟨n,rfl⟩
  ·obtain⟨n,_,rfl⟩:=Ui.mp P8;exact .inr ⟨n,rfl⟩
 have go:∀{T:String}{its:List Value}{o:Obj},tU X.prog X.w T a its.toArray->Vals xs its->s1.heap.get? a=some o->o.cls=.type T->(∃n,o.data=.seq its.toArray n)->
   wpAny (model X.prog X.w) X.A (call (.type "set") [.ref a]) (λv s2=>wpAny (model X.prog X.w) X.A (spliced []) (λvs s3=>wpAny (model X.prog X.w) X.A (call (.builtin "sorted") (v::vs)) (EP X ac σ Q) X.xe s3) X.xe s2) X.xe s1:=λ{T its o} src r ho hcl hd=>by
  have hl:=r.length;refine uv (key:=jO xs) src (I1.ok.hd hc) ho hcl hd (Dx r hx') (by simp[scanBound];omega) λh' tk es ep t hS hk=>?_;refine Calls.spliced_nil ?_;have SX:its.toArray.size=xs.length:=by rw[Ue,hl]
  rw[SX]at hS;exact uy hc (I1.kept (t':=tk) hk) hS h64 hx q
 rcases Lz with Lz|Lz
 ·obtain⟨its,r,pl,_⟩:=I1.list Lz;obtain⟨o,ho,hcl,hd⟩:=pl.isList;exact go src_list r ho hcl hd
 ·obtain⟨its,r,pl,_⟩:=I1.tuple Lz;obtain⟨o,ho,hcl,hd⟩:=pl;exact go EZ r ho hcl hd
end
end L2
namespace L2
open PySem
mutual
def Gg:D->Bool
 | .tup ds=>oz ds
 | .lst _=>false
 |_=>true
def oz:List D->Bool
 |[]=>true
 |d::ds=>Gg d&&oz ds
end
mutual
theorem aV.cE{K:UX}{H H':Hp}(k:∀a xs,aY K H a xs->aY K H' a xs):∀{d:D}{v:V},Gg d=true->aV K H d v->aV K H' d v
 | .int _,v,_,h=>by rw[aV]at h⊢;exact h
 | .str _,v,_,h=>by rw[aV]at h⊢;exact h
 | .non,v,_,h=>by rw[aV]at h⊢;exact h
 | .bl _,v,_,h=>by rw[aV]at h⊢;exact h
 | .tup ds,v,n,h=>by rw[aV]at h⊢;obtain⟨a,vs,e,h1,h2⟩:=h;exact⟨a,vs,e,k a vs h1,aK.cE k (by simpa[Gg] using n) h2⟩
 | .lst ds,v,n,h=>by simp[Gg]at n
theorem aK.cE{K:UX}{H H':Hp}(k:∀a xs,aY K H a xs->aY K H' a xs):∀{ds:List D}{vs:List V},oz ds=true->aK K H ds vs->aK K H' ds vs
 |[],vs,_,h=>by rw[aK]at h⊢;exact h
 |d::ds,vs,n,h=>by rw[oz,UA]at n;rw[aK]at h⊢;obtain⟨v,r,e,h1,h2⟩:=h;exact⟨v,r,e,aV.cE k n.1 h1,aK.cE k n.2 h2⟩
end
theorem ba.gG{K:UX}{p a:Addr}{H H1:Hp}{xs:List V}(hP:dz H p)(g:ba p H H1)(h:aY K H a xs):aY K H1 a xs:=by
 obtain⟨x,y,e,_⟩:=hP;rcases h with(h|⟨o,h⟩)|h
 ·exact .inl (.inl (g.keep _ _ (λz=>by rw[z,e]at h;cases h) h))
 ·exact .inl (.inr ⟨o,g.keep _ _ (λz=>by rw[z,e]at h;cases h) h⟩)
 ·exact .inr h
theorem aV.grow{K:UX}{p:Addr}{H H1:Hp}{d:D}{v:V}(hP:dz H p)(g:ba p H H1)(n:Gg d=true)(h:aV K H d v):aV K H1 d v:=h.cE (λ_ _ q=>g.gG hP q) n
theorem aK.grow{K:UX}{p:Addr}{H H1:Hp}{d:List D}{v:List V}(hP:dz H p)(g:ba p H H1)(n:oz d=true)(h:aK K H d v):aK K H1 d v:=h.cE (λ_ _ q=>g.gG hP q) n
theorem jR{ds:List D}:oz ds=true↔∀d∈ds,Gg d=true:=by
 induction ds with
 |nil=>simp[oz]
 |cons d ds ih=>rw[oz,UA,ih];simp
end L2
namespace My
open PySem L2
def top(i:Nat):Stmt:=PySem.Challenge.pw_rowpipes_k74_facts_refused.main.body.getD i (.Pass ⟨0,0,0,0⟩)
abbrev B5:Stmt:=top 80
abbrev Ke:Stmt:=top 81
abbrev Dy:Stmt:=top 82
abbrev K2:List Str:=["_law_script","_law_k"]
abbrev Nw:List Str:=["_law_script","_law_k","_law_cell"]
abbrev ME:List Str:=["_law_pot_here","_law_many","_law_digit"]
theorem Kb:av K2 ["_law_script","_law_k"] (ao B5):=fs
theorem GZ:av Nw ["_law_script","_law_k"] (ao Ke):=fs
theorem BI:av ME ["_law_pot_here","_law_many"] (ao Dy):=fs
structure j7(mg:Str->Option Value):Prop where
 len:mg "len"=none
 max:mg "max"=none
 abs:mg "abs"=none
 divmod:mg "divmod"=none
 range:mg "range"=none
 tuple:mg "tuple"=none
 list:mg "list"=none
 isinstance:mg "isinstance"=none
variable{P:Program}{w:World}{K:UX}{mg:Str->Option Value}{base:Heap}
theorem EF(B:j7 mg)(F:FA K mg "_law_cell_at" B5) :
  bA bx P w K mg base 1 "_law_cell_at" ["_law_script","_law_k"] (D4 K):=by
 refine F.ok Kb λf cdv A outer s H vs Q E hr h=>?_;obtain⟨a,ns,k,rfl,hS,h0,q⟩:=h;refine⟨_,aq (jv (bg D5 (pv 1) (aN aU rfl B.len UU (aa (pv 0) ah))) (ax (iE eE (pv 0) (pv 1) (λ_ _=>rfl))) fv)
  (ax ai),?_⟩
 refine⟨_,rfl,_,rfl,a,_,rfl,.inl hS,_,_,rfl,rfl,_,rfl,?_⟩;refine fw (λc=>?_) (λc=>?_)
 ·have c':k<(((ns.map V.int).length:Nat):Int):=UB c;obtain⟨v,hv,hg⟩:=ib h0 c';rw[Us]at hg;cases e:ns[k.toNat]? with
  |none=>rw[e]at hg;cases hg
  |some n =>rw[e]at hg;have hg':V.int n=v:=Up hg;subst hg';exact⟨_,rfl,_,rfl,a,_,_,_,rfl,rfl,hS,hv,q n⟩
 ·exact q 0
theorem IA(B:j7 mg)(F:FA K mg "_law_pot" Ke)(G:bA bx P w K mg base 1 "_law_cell_at" ["_law_script","_law_k"] (D4 K)) :
  bA bx P w K mg base 2 "_law_pot" ["_law_script","_law_k"] (HC K):=by
 refine F.ok GZ λf cdv A outer s H vs Q E hr h=>?_;obtain⟨a,ns,k,rfl,hS,h0,h1,q⟩:=h;refine⟨_,aq (bc (i:=2) GZ.nd rfl (UH rfl) (aL G hr (aa (pv 0) (aa (pv 1) ah))))
  (ax (bZ (aa (aN (rz rfl) rfl B.max PyProof.Rows.boot_max (aa ai (aa (aQ ck (pv 2) (aQ w_ ai ai)) ah)))
   (aa (aQ cb (aQ pX (aQ cb (aQ cb (aN Ca rfl B.abs PyProof.Rows.boot_abs (aa (pv 2) ah)) (aQ xy ai (pv 1))) ai) ai) ai) ah)))),?_⟩
 refine⟨_,rfl,_,rfl,a,ns,k,rfl,hS,h0,λn=>?_⟩;refine⟨_,rfl,_,_,rfl,rfl,⟨by decide,by decide,by decide⟩,_,_,rfl,rfl,_,_,rfl,?_⟩;refine⟨_,rfl,_,rfl,_,rfl,_,_,rfl,rfl,.inl ⟨by decide,by decide⟩,_,_,rfl,rfl,_,_,rfl,rfl,_,_,rfl,rfl,(by show(0:Int)<2147483629;decide),_,_,rfl,rfl,cn,λp hp=>?_⟩;refine q p _ hp (ag hp _) ⟨_,_,ae,?_,?_,?_⟩
 ·split<;>omega
 ·have:=Int.emod_nonneg ((if n<0 then -n else n)+7919*k+3) (show(2147483629:Int)≠0 by decide);omega
 ·have:=Int.emod_lt_of_pos ((if n<0 then -n else n)+7919*k+3) (show(0:Int)<2147483629 by decide);omega
theorem Fe(B:j7 mg)(F:FA K mg "_law_draw" Dy) :
  bA bx P w K mg base 1 "_law_draw" ["_law_pot_here","_law_many"] fm:=by
 refine F.ok BI λf cdv A outer s H vs Q E hr h=>?_;obtain⟨p,m,rfl,⟨a,b,hp,ha,hb,hb'⟩,hm,hm',q⟩:=h;refine⟨_,aq (jv (bg Dr (iE eE (pv 0) ai (λ_ _=>rfl)) ai)
   (aq (d0 (aN tS rfl B.divmod PyProof.Rows.boot_divmod (aa (iE eE (pv 0) ai (λ_ _=>rfl)) (aa (pv 1) ah)))
    (bS rfl (ar (DL (pv 0) ai set_list) (ar (aM (i:=2) BI.nd rfl (UH rfl)) bw))))
   (ax (pv 2))) fv)
  (aq (d0 (aQ pX (aQ cb (aQ xy (iE eE (pv 0) ai (λ_ _=>rfl)) ai) ai) ai) (DL (pv 0) ai set_list))
  (ax (aQ pX (aQ F_ (aQ pX (aQ xy (iE eE (pv 0) ai (λ_ _=>rfl)) (iE eE (pv 0) ai (λ_ _=>rfl))) ai) ai) (pv 1)))),?_⟩
 refine⟨_,rfl,p,_,_,_,rfl,rfl,bj.of hp,rfl,_,_,rfl,rfl,_,rfl,?_⟩;refine fw (λc=>?_) (λc=>?_)
 ·refine⟨_,rfl,p,_,_,_,rfl,rfl,bj.of hp,rfl,_,rfl,_,_,rfl,⟨hm,hm'⟩,λt ht=>?_⟩;have np:p≠t:=a_ hp ht;refine⟨t,_,rfl,aY.of ae,rfl,_,_,rfl,_,rfl,p,_,_,0,rfl,rfl,(by rw[aI np];exact hp),rfl,_,_,rfl,rfl,?_⟩;refine⟨_,rfl,q _ _ ⟨λc o nc e=>?_,_,_,ae,Int.ediv_nonneg ha (by omega),hb,hb'⟩ (Int.emod_nonneg _ (by omega)) (Int.emod_lt_of_pos _ hm)⟩;rw[aI nc,aI (a_ e ht)];exact e
 ·have h1:=Int.emod_nonneg (b*48271+11) (show(2147483647:Int)≠0 by decide);have h2:=Int.emod_lt_of_pos (b*48271+11) (show(0:Int)<2147483647 by decide);refine⟨_,rfl,p,_,_,_,rfl,rfl,bj.of hp,rfl,_,_,rfl,rfl,.inr ⟨by decide,by decide⟩,_,_,rfl,rfl,_,_,rfl,rfl,(by show(0:Int)<2147483647;decide),_,rfl,p,_,_,1,rfl,rfl,hp,rfl,?_⟩;refine⟨_,rfl,p,_,_,_,rfl,rfl,bj.of ae,rfl,_,rfl,p,_,_,_,rfl,rfl,bj.of ae,rfl,_,_,rfl,rfl,.inl ⟨?_,?_⟩,_,_,rfl,rfl,(by show(0:Int)<2147483629;decide),_,_,rfl,rfl,⟨by decide,by decide⟩,_,rfl,_,_,rfl,rfl,hm,?_⟩
  ·have e:((2:Int) ^ 64)=18446744073709551616:=by decide
   rw[e];omega
  ·have e:((2:Int) ^ 64)=18446744073709551616:=by decide
   rw[e];omega
  ·exact q _ _ ⟨λc o nc e=>by rw[aI nc];exact e,_,_,ae,ha,h1,by omega⟩ (Int.emod_nonneg _ (by omega)) (Int.emod_lt_of_pos _ hm)
structure tR(mg:Str->Option Value):Prop where
 int:mg "int"=none
 min:mg "min"=none
 all:mg "all"=none
 sorted:mg "sorted"=none
 set:mg "set"=none
def kQ(v:V):Prop:=(∃n,v=.int n)\/∃x,v=.str x
theorem cG{m:Int}(h0:0<m)(h1:m<=1000):m.natAbs.log2<9000:=T8 (Nat.log2_le_self _) (by omega)
theorem kR{j:Int}(h:0<=j)(h1:j<=1000):-(2 ^ 62)<=j/\j<2 ^ 62:=by
 have e:((2:Int) ^ 62)=4611686018427387904:=by decide
 rw[e];omega
theorem iG{p a:Addr}{H H':Hp}{xs:List V}(hP:dz H p)(g:ba p H H')(e:H a=some (.tup xs)):H' a=some (.tup xs):=g.keep _ _ (λz=>by obtain⟨x,y,e2,_⟩:=hP;rw[z,e2]at e;cases e) e
def aJ(H H':Hp):Prop:=∀a xs,H a=some (.tup xs)->H' a=some (.tup xs)
theorem aJ.of{H H':Hp}(s:aG H H'):aJ H H':=λ_ _ e=>s _ _ e
theorem aJ.grow{p:Addr}{H H':Hp}(hP:dz H p)(g:ba p H H'):aJ H H':=λa xs e=>iG hP g e
abbrev Hd:=List Str
theorem aj{i:Nat}{v:V}{σ:St}{H:Hp}{k:St->Hp->Prop}(h:k (σ.set i (some v)) H):bW i v σ H k:=h
theorem rK{K:UX}{H:Hp}:∀ws:List Str,aK K H (ws.map D.str) (ws.map V.str)
 |[]=>aK.nil
 |w::ws=>aK.cons (bY w) (rK ws)
theorem bo{H H':Hp}{D:Addr}{o:HO}(hD:H D=none)(s:aG H H'):aG H (upd H' D o):=λb u e=>by rw[aI (a_ e hD)];exact s _ _ e
theorem take_one{α:Type}{ws:List α}{i:Nat}{w:α}(h:ws[i]? = some w):ws.take (i+1)=ws.take i++[w]:=by rw[List.take_add_one,h];rfl
theorem bD{D:Ends}{σ:St}{H:Hp}(h:D.nx σ H):uu D σ H:=h
def sW:V->Str
 | .str _=>"w"
 |_=>"n"
def bz(hd:Hd)(c:Int):Str:=hd.getD (c-1).toNat ""
inductive W1 where
 |keep (c:Int) (t:Str)
 |same (c d:Int)
 |cut (cs:List Int)
 |turn (c:Int) (ps:List (V×V))
 |must (c:Int) (ps:List (V×V))
 |walk (c:Int) (mv:List V)
 |sort (cs:List (Int×Bool))
 |apart
 |count (cs:List Int)
 |sum (cs:List Int) (c:Int)
 |number
 |first (n:Int)
inductive Wk where
 |one (x:W1)
 |both (p q:List Wk)
 |meet (c d:Int) (p q:List Wk)
def W1.nm:W1->Str
 | .keep ..=>"keep"
 | .same ..=>"same"
 | .cut ..=>"cut"
 | .turn ..=>"turn"
 | .must ..=>"must"
 | .walk ..=>"walk"
 | .sort ..=>"sort"
 | .apart=>"apart"
 | .count ..=>"count"
 | .sum ..=>"sum"
 | .number=>"number"
 | .first ..=>"first"
def Wk.nm:Wk->Str
 | .one x=>x.nm
 | .both ..=>"both"
 | .meet ..=>"meet"
structure bE{α:Type}(At:Hp->Addr->α->Prop)(H:Hp)(p:Addr)(bs:List Addr)(xs:List α):Prop where
 tup:H p=some (.tup (bs.map V.ref))
 len:bs.length=xs.length
 at_:∀(i:Nat) a x,bs[i]? = some a->xs[i]? = some x->At H a x
theorem bE.keep{α:Type}{At:Hp->Addr->α->Prop}{H H':Hp}{p:Addr}{bs:List Addr}{xs:List α}(k:aJ H H')(kA:∀a x,At H a x->At H' a x)(h:bE At H p bs xs):bE At H' p bs xs:=⟨k _ _ h.tup,h.len,λi a x e1 e2=>kA _ _ (h.at_ i a x e1 e2)⟩
theorem bE.get{α:Type}{At:Hp->Addr->α->Prop}{H:Hp}{p:Addr}{bs:List Addr}{xs:List α}(h:bE At H p bs xs){i:Nat}{x:V}(hx:(bs.map V.ref)[i]? = some x):∃(a:Addr)(y:α),x=.ref a/\xs[i]? = some y/\At H a y:=by
 rw[Us]at hx;cases e:bs[i]? with
 |none=>rw[e]at hx;cases hx
 |some b =>
  rw[e]at hx;have hx':V.ref b=x:=Up hx;subst hx';have hi:i<xs.length:=by rw[←h.len];exact(Ug.mp e).1
  have er:xs[i]? = some xs[i]:=T_ hi;exact⟨b,xs[i],rfl,er,h.at_ i b _ e er⟩
abbrev sC(H:Hp)(a:Addr)(p:V×V):Prop:=H a=some (.tup [p.1,p.2])
def FW(H:Hp)(a:Addr)(v:V):Prop:=∃s t,H a=some (.tup [.str s,v,.str t])
abbrev FZ(H:Hp)(a:Addr)(e:Int×Bool):Prop:=H a=some (.tup [.int e.1,.bl e.2])
def du(H:Hp)(a:Addr):W1->Prop
 | .keep c t=>∃s xs,H a=some (.tup [.str "keep",.int c,.ref s])/\H s=some (.tup (.str t::xs))
 | .same c d=>H a=some (.tup [.str "same",.int c,.int d])
 | .cut cs=>∃t,H a=some (.tup [.str "cut",.ref t])/\H t=some (.tup (cs.map V.int))
 | .turn c ps=>∃t bs,H a=some (.tup [.str "turn",.int c,.ref t])/\bE sC H t bs ps
 | .must c ps=>∃t bs,H a=some (.tup [.str "must",.int c,.ref t])/\bE sC H t bs ps
 | .walk c mv=>∃s t bs,H a=some (.tup [.str "walk",.int c,.str s,.ref t])/\bE FW H t bs mv
 | .sort cs=>∃t bs,H a=some (.tup [.str "sort",.ref t])/\bE FZ H t bs cs
 | .apart=>H a=some (.tup [.str "apart"])
 | .count cs=>∃t,H a=some (.tup [.str "count",.ref t])/\H t=some (.tup (cs.map V.int))
 | .sum cs c=>∃t,H a=some (.tup [.str "sum",.ref t,.int c])/\H t=some (.tup (cs.map V.int))
 | .number=>H a=some (.tup [.str "number"])
 | .first n=>H a=some (.tup [.str "first",.int n])
theorem FW.keep{H H':Hp}(k:aJ H H'){a:Addr}{v:V}(h:FW H a v):FW H' a v:=by obtain⟨s,t,h⟩:=h;exact⟨s,t,k _ _ h⟩
theorem du.keep{H H':Hp}{a:Addr}{x:W1}(k:aJ H H')(h:du H a x):du H' a x:=by
 cases x with
 |keep c t=>obtain⟨s,xs,h1,h2⟩:=h;exact⟨s,xs,k _ _ h1,k _ _ h2⟩
 |same c d=>exact k _ _ h
 |cut cs=>obtain⟨t,h1,h2⟩:=h;exact⟨t,k _ _ h1,k _ _ h2⟩
 |turn c ps=>obtain⟨t,bs,h1,h2⟩:=h;exact⟨t,bs,k _ _ h1,h2.keep k λ_ _ z=>k _ _ z⟩
 |must c ps=>obtain⟨t,bs,h1,h2⟩:=h;exact⟨t,bs,k _ _ h1,h2.keep k λ_ _ z=>k _ _ z⟩
 |walk c mv=>obtain⟨s,t,bs,h1,h2⟩:=h;exact⟨s,t,bs,k _ _ h1,h2.keep k λ_ _ z=>z.keep k⟩
 |sort cs=>obtain⟨t,bs,h1,h2⟩:=h;exact⟨t,bs,k _ _ h1,h2.keep k λ_ _ z=>k _ _ z⟩
 |apart=>exact k _ _ h
 |count cs=>obtain⟨t,h1,h2⟩:=h;exact⟨t,k _ _ h1,k _ _ h2⟩
 |sum cs c=>obtain⟨t,h1,h2⟩:=h;exact⟨t,k _ _ h1,k _ _ h2⟩
 |number=>exact k _ _ h
 |first n=>exact k _ _ h
theorem du.first{H:Hp}{a:Addr}{x:W1}(h:du H a x):∃xs,H a=some (.tup (.str x.nm::xs)):=by
 cases x with
 |keep c t=>obtain⟨s,xs,h1,h2⟩:=h;exact⟨_,h1⟩
 |same c d=>exact⟨_,h⟩
 |cut cs=>obtain⟨t,h1,h2⟩:=h;exact⟨_,h1⟩
 |turn c ps=>obtain⟨t,bs,h1,h2⟩:=h;exact⟨_,h1⟩
 |must c ps=>obtain⟨t,bs,h1,h2⟩:=h;exact⟨_,h1⟩
 |walk c mv=>obtain⟨s,t,bs,h1,h2⟩:=h;exact⟨_,h1⟩
 |sort cs=>obtain⟨t,bs,h1,h2⟩:=h;exact⟨_,h1⟩
 |apart=>exact⟨_,h⟩
 |count cs=>obtain⟨t,h1,h2⟩:=h;exact⟨_,h1⟩
 |sum cs c=>obtain⟨t,h1,h2⟩:=h;exact⟨_,h1⟩
 |number=>exact⟨_,h⟩
 |first n=>exact⟨_,h⟩
def gN:Nat->Hp->Addr->Wk->Prop
 |_,H,a,.one x=>du H a x
 | 0,_,_,_=>False
 |n+1,H,a,.both p q=>∃b c bs cs,H a=some (.tup [.str "both",.ref b,.ref c])/\bE (gN n) H b bs p/\bE (gN n) H c cs q
 |n+1,H,a,.meet c d p q=>∃b e bs es,H a=some (.tup [.str "meet",.int c,.int d,.ref b,.ref e])/\bE (gN n) H b bs p/\bE (gN n) H e es q
abbrev l_(n:Nat)(H:Hp)(p:Addr)(ws:List Wk):Prop:=∃bs,bE (gN n) H p bs ws
theorem gN.keep{H H':Hp}(k:aJ H H'):∀{n:Nat}{a:Addr}{x:Wk},gN n H a x->gN n H' a x
 | 0,a,.one x,h=>du.keep k h
 |n+1,a,.one x,h=>du.keep k h
 |n+1,a,.both p q,h=>by obtain⟨b,c,bs,cs,h1,h2,h3⟩:=h;exact⟨b,c,bs,cs,k _ _ h1,h2.keep k λ_ _ z=>z.keep k,h3.keep k λ_ _ z=>z.keep k⟩
 |n+1,a,.meet c d p q,h=>by obtain⟨b,e,bs,es,h1,h2,h3⟩:=h;exact⟨b,e,bs,es,k _ _ h1,h2.keep k λ_ _ z=>z.keep k,h3.keep k λ_ _ z=>z.keep k⟩
theorem gN.first{H:Hp}:∀{n:Nat}{a:Addr}{x:Wk},gN n H a x->∃xs,H a=some (.tup (.str x.nm::xs))
 | 0,a,.one x,h=>du.first h
 |n+1,a,.one x,h=>du.first h
 |n+1,a,.both p q,h=>by obtain⟨b,c,bs,cs,h1,_⟩:=h;exact⟨_,h1⟩
 |n+1,a,.meet c d p q,h=>by obtain⟨b,e,bs,es,h1,_⟩:=h;exact⟨_,h1⟩
theorem l_.keep{n:Nat}{H H':Hp}{p:Addr}{ws:List Wk}(k:aJ H H')(h:l_ n H p ws):l_ n H' p ws:=by obtain⟨bs,h⟩:=h;exact⟨bs,h.keep k λ_ _ z=>z.keep k⟩
abbrev gD(H:Hp)(a:Addr)(h:Hd):Prop:=H a=some (.tup (h.map V.str))
structure mw(H:Hp)(l:Addr)(as:List Addr)(hs:List Hd):Prop where
 lst:H l=some (.lst (as.map V.ref))
 len:as.length=hs.length
 at_:∀(i:Nat) a h,as[i]? = some a->hs[i]? = some h->gD H a h
theorem mw.same{H H':Hp}{l:Addr}{as:List Addr}{hs:List Hd}(s:aG H H')(h:mw H l as hs):mw H' l as hs:=⟨s _ _ h.lst,h.len,λi a r e1 e2=>s _ _ (h.at_ i a r e1 e2)⟩
theorem mw.nth{H:Hp}{l:Addr}{as:List Addr}{hs:List Hd}{i:Nat}{h:Hd}(x:mw H l as hs)(e:hs[i]? = some h):∃a,(as.map V.ref)[i]? = some (.ref a)/\gD H a h:=by
 have hi:i<as.length:=by rw[x.len];exact(Ug.mp e).1
 exact⟨as[i],by rw[Us,T_ hi];rfl,x.at_ i _ _ (T_ hi) e⟩
theorem fG{hd:List Str}{c:Int}(h:1<=c/\c<=hd.length):y0 (hd.map V.str) (c-1)=some (.str (bz hd c)):=by
 have hi:(c-1).toNat<hd.length:=by omega
 have e:(((c-1).toNat:Nat):Int)=c-1:=by omega
 have:=aP (xs:=hd.map V.str) (j:=(c-1).toNat) (v:=.str (bz hd c)) (by rw[Us,T_ hi];unfold bz;rw[List.getD_eq_getElem?_getD,T_ hi];rfl)
 rw[e]at this;exact this
def cZ:W1->List Int
 | .keep c _=>[c]
 | .same c d=>[c,d]
 | .cut cs=>cs
 | .turn c _=>[c]
 | .must c _=>[c]
 | .walk c _=>[c]
 | .sort cs=>cs.map λe=>e.1
 | .count cs=>cs
 | .sum cs c=>cs++[c]
 |_=>[]
def iq:W1->Prop
 | .cut cs=>cs.length<=1000
 | .sort cs=>cs.length<=1000
 | .count cs=>cs.length<=1000
 | .sum cs _=>cs.length<=1000
 | .turn _ ps=>ps.length<=1000
 | .must _ ps=>ps.length<=1000
 | .walk _ mv=>mv.length<=1000
 |_=>True
def GY:W1->Prop
 | .turn _ ps=>∀p∈ps,kQ p.1/\kQ p.2
 | .must _ ps=>∀p∈ps,kQ p.1/\kQ p.2
 | .walk _ mv=>∀v∈mv,v=.non\/kQ v
 |_=>True
end My
namespace L2
open PySem
def Oc(K:UX):List V->Hp->VK->Prop:=λxs H Q=>∃p ys,xs=[.ref p]/\(bj K H p ys\/aY K H p ys)/\Q (.int ys.length) H
variable{X:Cx}
end L2
namespace L2
open PySem PySem.Spec PyProof.Rows
variable{X:Cx}
def OH(K:UX)(n:String):List V->Hp->VK->Prop:=λxs H Q=>∃x t b,xs=[x,.ty n]/\kN K H x t/\PySem.W.kitOne K t (.type n)=some b/\Q (.bl b) H
theorem u0{n:String}:e_ X (.builtin "isinstance") (OH X.K n):=by intro ac s σ H xs us Q I r h;obtain⟨x,t,b,rfl,ty,e,q⟩:=h;obtain⟨u,w',rfl,r1,r2⟩:=vals2 r;cases(show w'=Value.type n from r2);exact rN I r1 ty e λtk=>⟨.bl b,H,I.tok _,rfl,q⟩
def NA(K:UX)(ta tb:TE):TE:=λσ H Q=>ta σ H λx H1=>∃k,Mi K x H1 k/\if k=true then Q x H1 else tb σ H1 Q
theorem IX{a b:Expr}{ta tb:TE}{pos:Pos}(ha:PE X a ta)(hb:PE X b tb):PE X (.BoolOp .Or [a,b] pos) (NA X.K ta tb):=by
 intro ac s σ H Q I h;refine BoolOp_or (bJ (ha ac s σ H _ I h) λv s1 zz=>?_);obtain⟨x,H1,I1,r1,k,hk,q1⟩:=zz;refine bJ (JE ac s1 σ H1 x v (λb H2=>b=k/\H2=H1) I1 r1 ⟨k,hk,rfl,rfl⟩) λb s2 zz=>?_;obtain⟨H2,I2,e1,e2⟩:=zz;subst e1 e2;cases b with
 |false=>exact nR hb ac s2 σ _ Q I2 q1
 |true=>exact⟨x,_,I2,r1,q1⟩
end L2
namespace L2
open PySem
def Dd:R2:=λx y H Q=>∃a b xs ys,x=.ref a/\y=.ref b/\H a=some (.tup xs)/\H b=some (.tup ys)/\xs.length+ys.length<=sizeLine/\∀t H',aG H H'->H' t=some (.tup (xs++ys))->Q (.ref t) H'
theorem cq{X:Cx}:jl X (binaryOp .Add) Dd:=by
 intro ac s σ H x y v u Q I rx ry h;obtain⟨a,b,xs,ys,rfl,rfl,ha,hb,hz,q⟩:=h;by_cases hx:xs=[]
 ·subst hx;exact vX ac s σ H _ _ v u Q I rx ry ⟨a,b,ys,rfl,rfl,aY.of ha,aY.of hb,q b H (aG.refl _) hb⟩
 ·exact y8 ac s σ H _ _ v u Q I rx ry ⟨a,b,xs,ys,rfl,rfl,aY.of ha,aY.of hb,hx,hz,λz=>q a H (aG.refl _) (by rw[z,UN];exact ha),λ_ p hp=>q p _ (λb' u' e=>by rw[aI (a_ e hp)];exact e) ae⟩
def O0:V->Option Int->Option Int->Hp->VK->Prop:=λx lo hi H Q=>∃a xs,x=.ref a/\H a=some (.tup xs)/\∀t H',aG H H'->H' t=some (.tup (e6 xs lo hi))->Q (.ref t) H'
theorem eV{X:Cx}:Eo X O0:=by intro ac s σ H x v vl vu lo hi sl Q I rx hs pl pu h;obtain⟨a,xs,rfl,hx,q⟩:=h;exact(Kg.or ES) ac s σ H _ v vl vu lo hi sl Q I rx hs pl pu (E8 rfl (aY.of hx) (λz=>q a H (aG.refl _) (by rw[z];exact hx)) λp hp=>q p _ (λb' u' e=>by rw[aI (a_ e hp)];exact e) ae)
theorem pQ{xs:List V}{n:Nat}(h:n<=xs.length):e6 xs none (some (n:Int))=xs.take n:=by unfold e6;rw[HT.yM,HT.uH];simp[Nat.min_eq_left h]
theorem pV{xs:List V}{n:Nat}(h:n<=xs.length):e6 xs (some (n:Int)) none=xs.drop n:=by unfold e6;rw[HT.yM,HT.uH,Nat.min_eq_left h];exact List.take_of_length_le (by rw[List.length_drop];exact TU _)
structure EO(X:Cx)(e:Expr)(t:TE):Prop where
 h:PE X e t
structure AO(X:Cx)(es:List Expr)(t:TA):Prop where
 h:PA X es t
structure SO(X:Cx)(sts:List Stmt)(t:TS):Prop where
 h:pb X sts t
section
variable{X:Cx}{a b e:Expr}{es:List Expr}{ta tb te:TE}{t:TA}{pos pos':Pos}
theorem aE:AO X [] kK:=⟨ah⟩
theorem ak(ha:EO X e te)(hr:AO X es t)(hs:starEach (e::es) X.env=(false,eval e X.env)::starEach es X.env:=by rfl):AO X (e::es) (eD te t):=⟨aa ha.h hr.h hs⟩
theorem yd(h:AO X es t):EO X (.List es pos) (Gu t):=⟨bZ h.h⟩
theorem aH{x1}(h:AO X es t):EO X (.Tuple es x1 pos) (AW t):=⟨aW h.h⟩
theorem rq{r:R2}(hr:LY X r)(ha:EO X a ta)(hb:EO X b tb)(hs:oZ b):EO X (.Subscript a b pos) (fQ r ta tb):=⟨iE hr ha.h hb.h hs⟩
theorem JA{i:Nat}{x:Str}{rest:List Stmt}{u:TS}(hN:X.N.Nodup)(hi:X.N[i]? = some x)(hx:Loc X.env.scope x)(he:EO X e te)(h2:SO X rest u)(hs:swapsWith e (some (.Name x pos')) pos.line X.env=pure false:=by rfl)(hf:X.fn x=true\/X.env.scope.names.lookup x=some .local:=by first|exact .inl rfl|exact .inr rfl|assumption) :
  SO X (.Assign [.Name x pos'] e pos::rest) (xN (DD te (bW i)) u):=⟨aq (bc hN hi hx he.h hs hf) h2.h⟩
end
theorem rQ{X:Cx}{sts:List Stmt}{t:TS}{R:TS->Prop}(h:SO X sts t)(r:R t):∃t,pb X sts t/\R t:=⟨t,h.h,r⟩
theorem nY{t u:TT}{σ:St}{H:Hp}{Q:Bool->Hp->Prop}(h:t σ H λc H1=>if c=true then Q true H1 else u σ H1 Q):Qv t u σ H Q:=h
end L2
namespace L2
open PySem PySem.Spec PyProof.Rows
def cz(K:UX)(d:Addr)(key:Str)(f:Addr):Prop :=
 ∃(es:Array DictEntry)(ep:Nat)(i:Nat)(x:Int)(t:Tok),K.lookup d=some ⟨.type "dict",none,.dict es ep,#[]⟩/\es.all (λe=>isExactStrKey e.key)=true/\es.findIdx? (λe=>e.key.isStr key)=some i/\es[i]? = some ⟨x,.str key t,.ref f⟩
def DA(K:UX):R2:=λx y H Q=>∃d k f,x=.ref d/\y=.str k/\cz K d k f/\Q (.ref f) H
section
variable{X:Cx}
theorem me:LY X (DA X.K):=by
 intro value slice ac s σ H x y v u Q I rx ry h hs;obtain⟨d,k,f,rfl,rfl,⟨es,ep,i,hx,te,lk,ha,hi,he⟩,q⟩:=h;cases rx;obtain⟨t,rfl⟩:=ry;have ho:s.heap.get? d=some ⟨.type "dict",none,.dict es ep,#[]⟩:=I.i0 _ _ lk;have hT:s.TypeIs (.ref d) "dict":=⟨_,ho,rfl⟩;have fin:EP X ac σ Q (.ref f) {s with toks:=s.toks+1}:=⟨.ref f,H,I.kept (h':=s.heap) (t':=s.toks+1) λ_ _ e=>e,rfl,q⟩;refine subscriptTail_builtinR (x:=.ref f) hT slot_dict_getitem.lookup ?_ hs;unfold getItem;try with_reducible refine Uw ?_
 refine TK (wpAny_sequenceKey hT (by decide) ?_);refine TK (wpAny_callSpecial?_slot (name:=Str.ofString "__getitem__") hT slot_dict_getitem
  (UO slot_dict_getitem hT entry_dict_getitem ?_ (args_dict_getitem _ _)))
 show wpAny _ _ (dictGet d (.str k t) >>= _) _ _ s;refine TK ?_;unfold dictGet;try with_reducible refine Uw ?_
 refine TK (wpAny_pyHash_str ?_);unfold dictFind;refine TK ?_;try with_reducible refine Uw ?_
 refine TK (wpAny_dictEntries (s:={s with toks:=s.toks+1}) ho rfl ?_);dsimp only;rw[UE ha];unfold foundByValue;rw[hi];dsimp only;rw[he];dsimp only;refine TK (wpAny_dictEpoch (s:={s with toks:=s.toks+1}) ho rfl ?_);refine TK (wpAny_eqBool_str ?_);refine TK (wpAny_dictEpoch (s:={s with toks:=s.toks+1}) ho rfl ?_);rw[UD (by simp),TY rfl];refine TK (wpAny_rule (TM ?_));refine TK (wpAny_dictEntries (s:={s with toks:=s.toks+1}) ho rfl (TM ?_));rw[he];refine TM ⟨.ref f,rfl,TM ⟨rfl,fin⟩⟩
def Jo(X:Cx)(CX:rb)(k:Nat)(E:XK)(te:TE)(t:TA):TE:=λσ H Q=>te σ H λv H1=>∃f fd ps sp,v=.ref f/\e7 X.prog X.w X.K X.mg X.base CX k f fd ps sp/\PySem.W.keepIn X.K (.ref f)=true/\Binds X.K fd ps []/\t σ H1 λvs H2=>sp vs H2 Q E
variable{CX:rb}{k:Nat}{E:XK}{x:Str}{p pos:Pos}{e:Expr}{es:List Expr}{te:TE}{t:TA}
theorem mK(hn:PE X (.Name x p) te)(hr:dH k X.A)(hx:Passes CX X E)(ha:PA X (e::es) t)
  (he:starEach (e::es) X.env=(false,eval e X.env)::starEach es X.env:=by rfl) (hpl:(backTo pos (starEach es X.env)).any (·.1)=false:=by rfl) :
  PE X (.Call (.Name x p) (e::es) [] pos) (Jo X CX k E te t):=by
 intro ac s σ H Q I h;refine wpAny_Call_Name_kw (bJ (hn ac s σ H _ I h) λu s1 zz=>?_);obtain⟨v,H1,I1,rv,f,fd,ps,sp,ev,F,hk,hb,q⟩:=zz;subst ev;cases rv;refine PySem.W.callWith_K (h₀:=X.base) I1.ok.mod.EV hk (bJ (ha pos ac s1 σ H1 _ I1 q) λus s2 ⟨vs,H2,I2,r,q2⟩=>⟨I2.i0,?_⟩) he hpl;exact CN F hr hb .nil hx I2 r (by rw[UN];exact q2)
end
end L2
namespace My
open PySem L2
structure BQ(mg:Str->Option Value):Prop where
 str:mg "str"=none
 any:mg "any"=none
 zip:mg "zip"=none
 enumerate:mg "enumerate"=none
theorem um{K:UX}{t:Value}(h:(t==t)=true):PySem.W.kitOne K t t=some true:=by unfold PySem.W.kitOne;exact UE h
def gv:Sp:=λvs H Q _=>∃v,vs=[v]/\kQ v/\Q (.str (sW v)) H
abbrev nG:Stmt:=top 14
theorem wx:av ["cell"] ["cell"] (ao nG):=fs
variable{P:Program}{w:World}{K:UX}{mg:Str->Option Value}{base:Heap}
theorem AF(B:j7 mg)(B3:BQ mg)(Ki:PySem.W.kitOne K (.type "int") (.type "str")=some false)(F:FA K mg "sort_of" nG) :
  bA bx P w K mg base 1 "sort_of" ["cell"] gv:=by
 refine F.ok wx λf cdv A outer s H vs Q E hr h=>?_;obtain⟨v,rfl,hv,q⟩:=h;refine⟨_,(ax (mq (fh (aN (u0 (n:="str")) rfl B.isinstance PyProof.Rows.boot_isinstance (aa (pv 0) (aa (x3 (n:="str") rfl B3.str (by decide +kernel)) ah)))) au au)),?_⟩;rcases hv with⟨n,rfl⟩|⟨x,rfl⟩
 ·exact⟨_,rfl,_,_,false,rfl,.int n,Ki,_,rfl,cV q⟩
 ·exact⟨_,rfl,_,_,true,rfl,.str x,um (by decide),_,rfl,dX q⟩
def eY(ok:W1->Prop):Sp:=λvs H Q _=>∃(a:Addr)(x:W1),vs=[.ref a]/\du H a x/\ok x/\iq x/\∀(u:Addr)(H':Hp),aG H H'->H' u=some (.tup ((cZ x).map V.int))->Q (.ref u) H'
def OZ(x:W1):Prop:=x=.apart\/x=.number\/∃n,x=.first n
def yj:Sp:=λvs H Q _=>∃v,vs=[v]/\∀(u:Addr)(H':Hp),aG H H'->H' u=some (.tup [])->Q (.ref u) H'
abbrev iX:Stmt:=top 18
theorem qS:av ["worker"] ["worker"] (ao iX):=fs
theorem Af(F:FA K mg "no_columns" iX) :
  bA bx P w K mg base 1 "no_columns" ["worker"] yj:=by
 refine F.ok qS λf cdv A outer s H vs Q E hr h=>?_;have hu:=iH hr;obtain⟨v,rfl,q⟩:=h;refine⟨_,(ax (aW ah)),?_⟩;exact⟨Uo _,λu hu=>q u _ (ag hu _) ae⟩
theorem Bn:∀vs H Q E,eY OZ vs H Q E->yj vs H Q E:=by rintro vs H Q E ⟨a,x,rfl,_,ho,_,q⟩;refine⟨_,rfl,λu H' s hu=>q u H' s ?_⟩;rw[hu];rcases ho with rfl|rfl|⟨n,rfl⟩<;>rfl
def zg(x:W1):Prop:=∃c,(∃t,x=.keep c t)\/(∃ps,x=.turn c ps)\/(∃ps,x=.must c ps)\/∃mv,x=.walk c mv
theorem zg.at_{x:W1}{H:Hp}{a:Addr}(h:zg x)(ha:du H a x):∃c y ys,H a=some (.tup (y :: .int c::ys))/\cZ x=[c]:=by
 obtain⟨c,⟨t,rfl⟩|⟨ps,rfl⟩|⟨ps,rfl⟩|⟨mv,rfl⟩⟩:=h
 ·obtain⟨s,xs,h1,h2⟩:=ha;exact⟨c,_,_,h1,rfl⟩
 ·obtain⟨t,bs,h1,h2⟩:=ha;exact⟨c,_,_,h1,rfl⟩
 ·obtain⟨t,bs,h1,h2⟩:=ha;exact⟨c,_,_,h1,rfl⟩
 ·obtain⟨s,t,bs,h1,h2⟩:=ha;exact⟨c,_,_,h1,rfl⟩
abbrev iT:Stmt:=top 19
theorem qK:av ["worker"] ["worker"] (ao iT):=fs
theorem zJ(F:FA K mg "one_column" iT) :
  bA bx P w K mg base 1 "one_column" ["worker"] (eY zg):=by
 refine F.ok qK λf cdv A outer s H vs Q E hr h=>?_;have hu:=iH hr;obtain⟨a,x,rfl,ha,ho,hs,q⟩:=h;refine⟨_,(ax (aW (aa (aX K (pv 0) ai) ah))),?_⟩;obtain⟨c,y,ys,h1,hc⟩:=ho.at_ ha;refine⟨_,rfl,a,_,1,_,rfl,rfl,aY.of h1,aP (j:=1) rfl,cN,λu hu=>q u _ (ag hu _) ?_⟩;rw[ae,hc];rfl
def GU(x:W1):Prop:=∃c d,x=.same c d
abbrev ij:Stmt:=top 20
theorem qq:av ["worker"] ["worker"] (ao ij):=fs
theorem wW(F:FA K mg "two_columns" ij) :
  bA bx P w K mg base 1 "two_columns" ["worker"] (eY GU):=by
 refine F.ok qq λf cdv A outer s H vs Q E hr h=>?_;obtain⟨a,x,rfl,ha,ho,hs,q⟩:=h;refine⟨_,(ax (cR eV (pv 0) (cU ai) (cU ai))),?_⟩;obtain⟨c,d,rfl⟩:=ho;have h1:H a=some (.tup [.str "same",.int c,.int d]):=ha;exact⟨_,rfl,_,rfl,_,rfl,a,_,rfl,h1,λt H' s' ht=>q t H' s' (by rw[ht];rfl)⟩
def CU(x:W1):Prop:=∃cs,x=.cut cs\/x=.count cs
abbrev fq:Stmt:=top 21
theorem mO:av ["worker"] ["worker"] (ao fq):=fs
theorem vH(F:FA K mg "listed_columns" fq) :
  bA bx P w K mg base 1 "listed_columns" ["worker"] (eY CU):=by
 refine F.ok mO λf cdv A outer s H vs Q E hr h=>?_;obtain⟨a,x,rfl,ha,ho,hs,q⟩:=h;refine⟨_,(ax (aX K (pv 0) ai)),?_⟩;obtain⟨cs,rfl|rfl⟩:=ho
 ·obtain⟨t,h1,h2⟩:=ha;exact⟨_,rfl,a,_,1,_,rfl,rfl,aY.of h1,rfl,q t H (aG.refl _) h2⟩
 ·obtain⟨t,h1,h2⟩:=ha;exact⟨_,rfl,a,_,1,_,rfl,rfl,aY.of h1,rfl,q t H (aG.refl _) h2⟩
def sj(x:W1):Prop:=∃cs,x=.sort cs
abbrev gI:Stmt:=top 22
theorem ou:av ["worker"] ["worker"] (ao gI):=fs
theorem uX(B:j7 mg)(F:FA K mg "sort_columns" gI) :
  bA bx P w K mg base 1 "sort_columns" ["worker"] (eY sj):=by
 refine F.ok ou λf cdv A outer s H vs Q E hr h=>?_;have hu:=iH hr;obtain⟨a,x,rfl,ha,ho,hs,q⟩:=h;refine⟨_,(ax (bN bt rfl B.tuple UL (aa (bU (N':=["column","greatest_first"]) (src:=[none,none]) rfl (bh.lJ (by kernel_rfl)) (cF (aX K (pv 0) ai)) (g:=(oJ K 2 (cI (bW 0) (cI (bW 1) oH)))) (λcl C s H fp=>(bS rfl (ar (fX (i:=0)) (ar (fX (i:=1)) bw)))) (λcl C s H fp=>bp) (te:=(bF 0)) (λcl C s H fp=>(i3 0))) ah))),?_⟩;obtain⟨cs,rfl⟩:=ho;obtain⟨t,bs,h1,hI⟩:=ha;have hs:cs.length<=1000:=hs;have hl:(bs.map V.ref).length=cs.length:=by rw[TZ,hI.len]
 refine⟨_,rfl,a,_,1,_,rfl,rfl,aY.of h1,rfl,t,rfl,⟨_,aY.of hI.tup⟩,λD hD=>?_⟩;refine cX (xs:=bs.map V.ref) (λi σ ys H'=>(∃o1 o2,σ=[o1,o2])/\ys=((cs.take i).map λe=>e.1).map V.int/\ys.length=i/\H' D=some (.lst ys)/\aG H H') ⟨⟨none,none,rfl⟩,rfl,rfl,ae,ag hD _⟩ ?_ ?_ ?_ ?_ ?_
 ·rintro i σ ys H' _ ⟨_,_,hi,h,_⟩;exact⟨h,UP hi⟩
 ·rintro i σ ys H' _ ⟨_,_,_,_,sm⟩;exact aY.of (sm _ _ hI.tup)
 ·rw[hl];exact TV hs (by decide)
 ·rintro i x σ ys H' hx ⟨⟨o1,o2,rfl⟩,rfl,hi,h,sm⟩;obtain⟨b,c,rfl,ec,hb⟩:=hI.get hx;refine⟨b,_,rfl,aY.of (sm _ _ hb),rfl,_,_,rfl,aj ⟨_,_,rfl,aj ⟨rfl,?_⟩⟩⟩;refine⟨_,rfl,h,⟨_,_,rfl⟩,?_,?_,ae,bo hD sm⟩
  ·rw[List.take_add_one,ec,T4,T4];rfl
  ·rw[T1,hi];rfl
 ·rintro σ ys H' ⟨_,rfl,_,h,sm⟩;rw[hl,UI]at h;exact⟨D,_,rfl,.inl ⟨bj.of h,λu hu=>q u _ (sm.trans (ag hu _)) ae⟩⟩
def G_(x:W1):Prop:=∃cs c,x=.sum cs c
abbrev iy:Stmt:=top 23
theorem qj:av ["worker"] ["worker"] (ao iy):=fs
theorem xo(F:FA K mg "sum_columns" iy) :
  bA bx P w K mg base 1 "sum_columns" ["worker"] (eY G_):=by
 refine F.ok qj λf cdv A outer s H vs Q E hr h=>?_;have hu:=iH hr;obtain⟨a,x,rfl,ha,ho,hs,q⟩:=h;refine⟨_,(ax (aQ cq (aX K (pv 0) ai) (aW (aa (aX K (pv 0) ai) ah)))),?_⟩;obtain⟨cs,c,rfl⟩:=ho;obtain⟨t,h1,h2⟩:=ha;have hs:cs.length<=1000:=hs;refine⟨_,rfl,a,_,1,_,rfl,rfl,aY.of h1,rfl,_,rfl,a,_,2,_,rfl,rfl,aY.of h1,rfl,cN,λu hu=>?_⟩;have su:=ag hu (.tup [.int c]);refine⟨t,u,_,_,rfl,rfl,su _ _ h2,ae,?_,λt' H' s' ht'=>q t' H' (su.trans s') ?_⟩
 ·rw[TZ];exact TV (show cs.length+1<=1001 by omega) (by decide)
 ·rw[ht'];show _=some (HO.tup ((cs++[c]).map V.int));rw[T4];rfl
def there(c:Int)(h:Hd):Bool:=decide (1<=c)&&decide (c<=(h.length:Nat))
def sR:Sp:=λvs H Q _=>∃(c:Int)(a:Addr)(h:Hd),vs=[.int c,.ref a]/\gD H a h/\Q (.bl (there c h)) H
abbrev lu:Stmt:=top 25
theorem vm:av ["column","head"] ["column","head"] (ao lu):=fs
theorem DU(B:j7 mg)(F:FA K mg "is_there" lu) :
  bA bx P w K mg base 1 "is_there" ["column","head"] sR:=by
 refine F.ok vm λf cdv A outer s H vs Q E hr h=>?_;obtain⟨c,a,h,rfl,ha,q⟩:=h;refine⟨_,(ax (Bk Cz Cz ai (pv 0) (aN aU rfl B.len UU (aa (pv 1) ah)))),?_⟩;refine⟨_,rfl,_,_,rfl,rfl,_,rfl,?_⟩;unfold there at q;refine fw (λk=>?_) (λk=>?_)
 ·rw[k]at q;refine⟨_,rfl,a,_,rfl,.inr (aY.of ha),_,_,rfl,rfl,?_⟩;rw[TZ];rw[Bool.true_and]at q;exact q
 ·rw[Uk.mpr k]at q;exact q
def eQ:Wk->List Hd->Bool
 | .one x,hs=>(cZ x).all λc=>there c (hs.headD [])
 | .both ..,_=>true
 | .meet c d _ _,hs=>there c (hs.headD [])&&there d (hs.getD 1 [])
def B4:Wk->Nat
 | .one _=>1
 |_=>2
def pM:Wk->Prop
 | .one x=>iq x
 |_=>True
def df(n:Nat)(F:Wk->List Hd->Bool)(ok:Wk->List Hd->Prop):Sp:=λvs H Q _=>∃(a l:Addr)(x:Wk)(as:List Addr)(hs:List Hd),vs=[.ref a,.ref l]/\gN n H a x/\mw H l as hs/\hs.length=B4 x/\pM x/\ok x hs/\∀H',aG H H'->Q (.bl (F x hs)) H'
def He(P:Program)(w:World)(K:UX)(mg:Str->Option Value)(base:Heap)(aR:Addr)(L:Nat)(x:W1):Prop :=
 ∃(f:Addr)(fd:FuncData),cz K aR x.nm f/\e7 P w K mg base bx L f fd ["worker"] (eY λy=>y=x)/\PySem.W.keepIn K (.ref f)=true/\Binds K fd ["worker"] []
theorem cj{ok ok':W1->Prop}(h:∀x,ok' x->ok x):∀vs H Q E,eY ok' vs H Q E->eY ok vs H Q E:=by rintro vs H Q E ⟨a,x,h1,h2,h3,h4⟩;exact⟨a,x,h1,h2,h x h3,h4⟩
theorem Ay{aR:Addr}{f1 f2 f3 f4 f5 f6:Addr}
  (tk:cz K aR "keep" f2) (ts:cz K aR "same" f3) (tc:cz K aR "cut" f4) (tt:cz K aR "turn" f2) (tm:cz K aR "must" f2) (tw:cz K aR "walk" f2) (to:cz K aR "sort" f5) (ta:cz K aR "apart" f1) (tn:cz K aR "count" f4) (tu:cz K aR "sum" f6) (tb:cz K aR "number" f1) (tf:cz K aR "first" f1)
  (G0:FnAt P w K mg base 1 f1 ["worker"] yj) (G2:FnAt P w K mg base 1 f2 ["worker"] (eY zg)) (G3:FnAt P w K mg base 1 f3 ["worker"] (eY GU)) (G4:FnAt P w K mg base 1 f4 ["worker"] (eY CU)) (G5:FnAt P w K mg base 1 f5 ["worker"] (eY sj)) (G6:FnAt P w K mg base 1 f6 ["worker"] (eY G_)):∀x,He P w K mg base aR 1 x:=by
 obtain⟨d1,G0,b1,k1⟩:=G0;obtain⟨d2,G2,b2,k2⟩:=G2;obtain⟨d3,G3,b3,k3⟩:=G3;obtain⟨d4,G4,b4,k4⟩:=G4;obtain⟨d5,G5,b5,k5⟩:=G5;obtain⟨d6,G6,b6,k6⟩:=G6;have G1:=G0.imp Bn;intro x;cases x with
 |keep c t=>exact⟨f2,d2,tk,G2.imp (cj λ_ e=>⟨c,.inl ⟨t,e⟩⟩),k2,b2⟩
 |same c d=>exact⟨f3,d3,ts,G3.imp (cj λ_ e=>⟨c,d,e⟩),k3,b3⟩
 |cut cs=>exact⟨f4,d4,tc,G4.imp (cj λ_ e=>⟨cs,.inl e⟩),k4,b4⟩
 |turn c ps=>exact⟨f2,d2,tt,G2.imp (cj λ_ e=>⟨c,.inr (.inl ⟨ps,e⟩)⟩),k2,b2⟩
 |must c ps=>exact⟨f2,d2,tm,G2.imp (cj λ_ e=>⟨c,.inr (.inr (.inl ⟨ps,e⟩))⟩),k2,b2⟩
 |walk c mv=>exact⟨f2,d2,tw,G2.imp (cj λ_ e=>⟨c,.inr (.inr (.inr ⟨mv,e⟩))⟩),k2,b2⟩
 |sort cs=>exact⟨f5,d5,to,G5.imp (cj λ_ e=>⟨cs,e⟩),k5,b5⟩
 |apart=>exact⟨f1,d1,ta,G1.imp (cj λ_ e=>.inl e),k1,b1⟩
 |count cs=>exact⟨f4,d4,tn,G4.imp (cj λ_ e=>⟨cs,.inr e⟩),k4,b4⟩
 |sum cs c=>exact⟨f6,d6,tu,G6.imp (cj λ_ e=>⟨cs,c,e⟩),k6,b6⟩
 |number=>exact⟨f1,d1,tb,G1.imp (cj λ_ e=>.inr (.inl e)),k1,b1⟩
 |first n=>exact⟨f1,d1,tf,G1.imp (cj λ_ e=>.inr (.inr ⟨n,e⟩)),k1,b1⟩
theorem cY{x:W1}{hs:List Hd}(h:hs.length=B4 (.one x)):∃hd,hs=[hd]:=by
 cases hs with
 |nil=>cases h
 |cons hd r =>
  cases r with
  |nil=>exact⟨hd,rfl⟩
  |cons _ _=>cases h
theorem kh{hs:List Hd}(h:hs.length=2):∃h1 h2,hs=[h1,h2]:=by
 match hs,h with
 |[h1,h2],_=>exact⟨h1,h2,rfl⟩
theorem zQ{x:W1}(h:iq x):(cZ x).length<=1001:=by cases x<;>simp only[cZ,T1,Uz,List.length_nil,TZ]<;>first|omega | (simp only[iq]at h;omega)
theorem Li{x:W1}:x.nm≠"meet"/\x.nm≠"both":=by cases x<;>(simp only[W1.nm];decide +kernel)
def rZ:Wk->List Int
 | .one x=>cZ x
 |_=>[]
def y6(n:Nat)(x:Wk):Sp:=λvs H Q _=>∃(a:Addr),vs=[.ref a]/\gN n H a x/\pM x/\∀(u:Addr)(H':Hp),aG H H'->H' u=some (.tup ((rZ x).map V.int))->Q (.ref u) H'
def DC(P:Program)(w:World)(K:UX)(mg:Str->Option Value)(base:Heap)(aR:Addr)(n:Nat)(x:Wk):Prop :=
 ∃(f:Addr)(fd:FuncData),cz K aR x.nm f/\e7 P w K mg base bx 1 f fd ["worker"] (y6 n x)/\PySem.W.keepIn K (.ref f)=true/\Binds K fd ["worker"] []
theorem dm{n:Nat}{H:Hp}{a:Addr}{x:W1}:gN n H a (.one x)↔du H a x:=by cases n<;>exact Iff.rfl
theorem Ir{P:Program}{w:World}{K:UX}{mg:Str->Option Value}{base:Heap}{aR f:Addr}{n:Nat}(h:∀x,He P w K mg base aR 1 x)(tb:cz K aR "both" f)(G:FnAt P w K mg base 1 f ["worker"] yj) :
  ∀x:Wk,x.nm≠"meet"->DC P w K mg base aR n x:=by
 obtain⟨fd,G,b,k⟩:=G;intro x hx;cases x with
 |one x =>obtain⟨g,gd,h1,h2,h3⟩:=h x;refine⟨g,gd,h1,h2.imp ?_,h3⟩;rintro vs H Q E ⟨a,rfl,ha,hs,q⟩;exact⟨a,x,rfl,dm.mp ha,rfl,hs,q⟩
 |both p q =>refine⟨f,fd,tb,G.imp ?_,k,b⟩;rintro vs H Q E ⟨a,rfl,ha,hs,q⟩;exact⟨_,rfl,q⟩
 |meet c d p q=>exact UC rfl hx
theorem Ai{x:Wk}(h:pM x):(rZ x).length<=1001:=by
 cases x with
 |one x=>exact zQ h
 |both p q=>exact Uo _
 |meet c d p q=>exact Uo _
abbrev ic:Stmt:=top 26
theorem ka:av ["worker","heads","columns_of"] ["worker","heads"] (ao ic):=fs
theorem zt{n:Nat}{aC:Addr}(B:j7 mg)(B2:tR mg)(mC:mg "COLUMNS_OF"=some (.ref aC))(GC:∀x:Wk,x.nm≠"meet"->DC P w K mg base aC n x)(F:FA K mg "columns_fit" ic)
  (lC:bA bx P w K mg base 1 "is_there" ["column","head"] sR) :
  bA bx P w K mg base 2 "columns_fit" ["worker","heads"] (df n eQ (λ_ _=>True)):=by
 refine F.ok ka λf cdv A outer s H vs Q E hr h=>?_;have hu:=iH hr;have hu1:=kS hr;obtain⟨a,l,x,as,hs,rfl,ha,hL,hn,hsm,Ts,q⟩:=h;refine⟨_,(bu (bg bO (aX K (pv 0) ai) au) (tX (aL lC hr (aa (aX K (pv 0) ai) (aa (bM K (pv 1) ai) ah))) (nR (aL lC hr (aa (aX K (pv 0) ai) (aa (bM K (pv 1) ai) ah)))))
   (aq (bc (i:=2) ka.nd rfl (UH rfl) (iE (r:=DA K) me (cu rfl mC (show RelV (.ref aC) (.ref aC) from rfl)) (aX K (pv 0) ai) (λ_ _=>rfl)))
   (ax (aN (iL rfl) rfl B2.all PyProof.Rows.boot_all (aa (bU (N':=["column","heads"]) (src:=[none,some 1]) rfl (bh.lJ (by kernel_rfl)) (cF (mK (k:=1) (pv 2) hr rG (aa (pv 0) ah))) (λcl C s H fp=>(fX (i:=0))) (λcl C s H fp=>bp) (te:=(kW sR [] E0 (eD (bF 0) (eD (fQ (lP K) (bF 1) (tC (.int 0))) kK)))) (λcl C s H fp=>(aL (hg:=Hj) lC hr (aa (i3 0) (aa (bM K (ug 1) ai) ah))))) ah))))),?_⟩
 obtain⟨xs,h1⟩:=ha.first;refine⟨_,rfl,a,_,0,_,rfl,rfl,aY.of h1,aP (j:=0) rfl,rfl,_,rfl,fw (λk=>?_) (λk=>bD ?_)⟩
 ·have k:V.str x.nm=V.str "meet":=UB k;injection k with k;cases x with
  |one x=>exact UC k Li.1
  |both p q=>exact UC k (by show("both" : Str)≠"meet";decide +kernel)
  |meet c d p q' =>
  obtain⟨h0,h2,rfl⟩:=kh hn;obtain⟨a0,e0,jQ⟩:=hL.nth (i:=0) rfl;obtain⟨a1,e1,GK⟩:=hL.nth (i:=1) rfl;cases n with
  |zero=>exact UJ ha
  |succ n =>
  obtain⟨b,e,bs,es,h1,_⟩:=ha;refine⟨_,rfl,a,_,1,_,rfl,rfl,aY.of h1,rfl,_,rfl,l,_,0,_,rfl,rfl,bj.of hL.lst,aP (j:=0) e0,c,a0,h0,rfl,jQ,_,rfl,?_⟩;have q:=q H (aG.refl _);have q:Q (.bl (there c h0&&there d h2)) H:=q;refine fw (λk=>?_) (λk=>?_)
  ·rw[k,Bool.true_and]at q;exact⟨_,rfl,a,_,2,_,rfl,rfl,aY.of h1,rfl,_,rfl,l,_,1,_,rfl,rfl,bj.of hL.lst,aP (j:=1) e1,d,a1,h2,rfl,GK,q⟩
  ·rw[Uk.mpr k]at q;exact q
 ·have hx:x.nm≠"meet":=λe=>k (TY (by rw[e]));obtain⟨g,gd,Ef,FG,kG,bG⟩:=GC x hx;refine⟨_,rfl,a,_,0,_,rfl,rfl,aY.of h1,aP (j:=0) rfl,aC,x.nm,g,rfl,rfl,Ef,aj ?_⟩;dsimp only;refine⟨_,rfl,g,gd,_,y6 n x,rfl,FG,kG,bG,_,rfl,a,rfl,ha,hsm,λu H1 s1 hu1=>⟨u,rfl,⟨_,aY.of hu1⟩,λD hD=>?_⟩⟩;have hh:∃h0,hs[0]? = some h0/\hs.headD []=h0:=by
   cases hs with
   |nil=>cases x<;>cases hn
   |cons h0 r=>exact⟨h0,rfl,rfl⟩
  obtain⟨h0,RS,eh⟩:=hh;obtain⟨a0,e0,jQ⟩:=hL.nth RS;refine cX (xs:=(rZ x).map V.int) (λi σ ys H'=>(∃o,σ=[o,some (.ref l)])/\ys=(((rZ x).take i).map λc=>there c h0).map V.bl/\ys.length=i/\H' D=some (.lst ys)/\aG H1 H') ⟨⟨none,rfl⟩,rfl,rfl,ae,ag hD _⟩ ?_ ?_ ?_ ?_ ?_
  ·rintro i σ ys H' _ ⟨_,_,hi,h,_⟩;exact⟨h,UP hi⟩
  ·rintro i σ ys H' _ ⟨_,_,_,_,sm⟩;exact aY.of (sm _ _ hu1)
  ·rw[TZ];exact TV (Ai hsm) (by decide)
  ·rintro i v σ ys H' hv ⟨⟨o,rfl⟩,rfl,hi,h,sm⟩;rw[Us]at hv;cases ec:(rZ x)[i]? with
   |none=>rw[ec]at hv;cases hv
   |some c =>
    rw[ec]at hv;have hv:V.int c=v:=Up hv;subst hv;have s2:=s1.trans sm;refine⟨_,rfl,_,rfl,l,_,0,_,rfl,rfl,bj.of (s2 _ _ hL.lst),aP (j:=0) e0,c,a0,h0,rfl,s2 _ _ jQ,h,⟨_,rfl⟩,?_,?_,ae,bo hD sm⟩
    ·rw[take_one ec,T4,T4];rfl
    ·rw[T1,hi];rfl
  ·rintro σ ys H' ⟨_,rfl,_,h,sm⟩;rw[TZ,UI]at h;refine⟨D,_,rfl,bj.of h,?_⟩;have e:eQ x hs=((rZ x).map λc=>there c h0).all id:=by
    cases x with
    |one x =>show(cZ x).all (λc=>there c (hs.headD []))=_;rw[eh,List.all_map];rfl
    |both p q=>rfl
    |meet c d p q=>exact UC rfl hx
   rw[←e];exact q H' (s1.trans sm)
end My
namespace L2
open PySem
section
variable{g g2:TG}{tc sk:TT}{te:TE}{wi2:TI}{D:Addr}{Q:VK}{N:St->List V->Hp->Prop}{rV:St}{H0:Hp}{NT:List V}{K:UX}{a:Addr}{xs:List V}
theorem x8(Pv:Nat->St->List V->Hp->Prop)(h0:Pv 0 rV [] H0)(hD:∀i σ ys H,i<=xs.length->Pv i σ ys H->H D=some (.lst ys))(hl:∀i σ ys H,i<=xs.length->Pv i σ ys H->bj K H a xs)
  (hs:∀i x σ ys H,xs[i]? = some x->Pv i σ ys H->g x σ H λcD H2=>tc cD H2 λb H3=>if b=true then wi2 cD H3 λJ2 H4=>∃W2:Nat->Nat->St->List V->Hp->Prop,(∃m,W2 0 m cD ys H4)/\qm J2 g2 sk te D (Pv (i+1)) W2 else Pv (i+1) cD ys H3)
  (hd:∀σ ys H,Pv xs.length σ ys H->Q (.ref D) H):∃W:Nat->Nat->St->List V->Hp->Prop,(∃m,W 0 m rV [] H0)/\sH (Gy K a) g tc wi2 g2 sk te D Q W:=by
 refine⟨λi m σ ys H=>m=xs.length-i/\i<=xs.length/\Pv i σ ys H,⟨xs.length,by simp,Uo _,h0⟩,?_⟩;rintro i m σ ys H ⟨rfl,hi,p⟩;have q:=hl i σ ys H hi p;refine⟨hD i σ ys H hi p,?_⟩;by_cases hlt:i<xs.length
 ·refine .inr ⟨⟨xs,xs[i],q,by simp[hlt]⟩,Pv (i+1),λσ' ys' H' p'=>⟨xs.length-(i+1),by omega,rfl,hlt,p'⟩,λx H' y=>?_⟩;obtain⟨e,y⟩:=y;subst e;exact hs i x σ ys _ (y xs q) p
 ·have e:i=xs.length:=by omega
  subst e;exact .inl ⟨⟨xs,q,TU _⟩,hd σ ys H p⟩
end
end L2
namespace My
open PySem L2
def alike(s t:Str):Bool:=decide (s=t) && !decide (s="t")
def ub:Sp:=λvs H Q _=>∃s t:Str,vs=[.str s,.str t]/\Q (.bl (alike s t)) H
theorem f9(s t:Str):decide (V.str s=V.str t)=decide (s=t):=by
 by_cases e:s=t
 ·rw[e];simp
 ·rw[TX e,TX (λz=>e (V.str.inj z))]
abbrev fN:Stmt:=top 27
theorem nz:av ["one","other"] ["one","other"] (ao fN):=fs
variable{P:Program}{w:World}{K:UX}{mg:Str->Option Value}{base:Heap}
theorem Cj{tk:Tok}(mT:mg "TALLY"=some (.str "t" tk))(F:FA K mg "are_same_sort" fN) :
  bA bx P w K mg base 1 "are_same_sort" ["one","other"] ub:=by
 refine F.ok nz λf cdv A outer s H vs Q E hr h=>?_;obtain⟨s1,t1,rfl,q⟩:=h;refine⟨_,(ax (tX (jL bO (pv 0) (pv 1)) (nR (jL uo (pv 0) (cu (v:=.str "t") rfl mT ⟨_,rfl⟩))))),?_⟩;unfold alike at q;refine⟨_,rfl,_,rfl,rfl,_,rfl,?_⟩;rw[f9];refine fw (λk=>?_) (λk=>?_)
 ·rw[k,Bool.true_and,←f9]at q;exact⟨_,rfl,rfl,q⟩
 ·rw[Uk.mpr k]at q;exact q
def gW(vs:List V)(t:Str):Bool:=!decide (t="t")&&vs.all λv=>decide (sW v=t)
def i4:Sp:=λvs H Q _=>∃(l:Addr)(us:List V)(t:Str),vs=[.ref l,.str t]/\H l=some (.lst us)/\us.length<=100000/\(∀v∈us,kQ v)/\∀H',aG H H'->Q (.bl (gW us t)) H'
abbrev jK:Stmt:=top 28
theorem tx:av ["cells","column_sort"] ["cells","column_sort"] (ao jK):=fs
theorem uh{tk:Tok}(B2:tR mg)(mT:mg "TALLY"=some (.str "t" tk))(F:FA K mg "cells_fit" jK)
  (iJ:bA bx P w K mg base 1 "sort_of" ["cell"] gv) :
  bA bx P w K mg base 2 "cells_fit" ["cells","column_sort"] i4:=by
 refine F.ok tx λf cdv A outer s H vs Q E hr h=>?_;obtain⟨l,us,t,rfl,hl,hz,hc,q⟩:=h;refine⟨_,(ax (tX (jL uo (pv 1) (cu (v:=.str "t") rfl mT ⟨_,rfl⟩)) (nR (aN (iL rfl) rfl B2.all PyProof.Rows.boot_all (aa (bU (N':=["cell","column_sort"]) (src:=[none,some 1]) rfl (bh.lJ (by kernel_rfl)) (eU (pv 0)) (λcl C s H fp=>(fX (i:=0))) (λcl C s H fp=>bp) (te:=(fQ M0 (kW gv [] E0 (eD (bF 0) kK)) (bF 1))) (λcl C s H fp=>(jL bO (aL (hg:=Hj) iJ hr (aa (i3 0) ah)) (ug 1)))) ah))))),?_⟩;unfold gW at q;refine⟨_,rfl,rfl,_,rfl,?_⟩;rw[f9];refine fw (λk=>?_) (λk=>?_)
 ·rw[k,Bool.true_and]at q;refine⟨_,rfl,l,rfl,⟨_,bj.of hl⟩,λD hD=>?_⟩;refine fe (xs:=us) (λi σ ys H'=>(∃o,σ=[o,some (.str t)])/\ys=((us.take i).map λv=>decide (sW v=t)).map V.bl/\ys.length=i/\H' D=some (.lst ys)/\aG H H') ⟨⟨none,rfl⟩,rfl,rfl,ae,ag hD _⟩ ?_ ?_ ?_ ?_ ?_
  ·rintro i σ ys H' _ ⟨_,_,hi,h,_⟩;exact⟨h,UP hi⟩
  ·rintro i σ ys H' _ ⟨_,_,_,_,sm⟩;exact bj.of (sm _ _ hl)
  ·exact TV hz (by decide)
  ·rintro i v σ ys H' hv ⟨⟨o,rfl⟩,rfl,hi,h,sm⟩;refine⟨_,rfl,v,rfl,hc v (Ub hv),_,rfl,rfl,h,⟨_,rfl⟩,?_,?_,ae,bo hD sm⟩
   ·rw[take_one hv,T4,T4,f9];rfl
   ·rw[T1,hi];rfl
  ·rintro σ ys H' ⟨_,rfl,_,h,sm⟩;rw[UI]at h;refine⟨D,_,rfl,bj.of h,?_⟩;have e:(us.all λv=>decide (sW v=t))=(us.map λv=>decide (sW v=t)).all id:=by rw[List.all_map];rfl
   rw[←e];exact q H' sm
 ·rw[Uk.mpr k]at q;exact q H (aG.refl _)
def goodW:Wk->Prop
 | .one x=>GY x
 |_=>True
def gS(ss:List Str):Bool:=ss.all λs=>decide (s=ss.headD "")
def cE(t:Str):Str:=if t="t" then "n" else t
def bK:Wk->List Hd->Bool
 | .one (.keep c t),hs=>decide (t=cE (bz (hs.headD []) c))
 | .one (.same c d),hs=>alike (bz (hs.headD []) c) (bz (hs.headD []) d)
 | .one (.turn c ps),hs=>gW (ps.flatMap λp=>[p.1,p.2]) (bz (hs.headD []) c)
 | .one (.must c ps),hs=>gS (ps.map λp=>sW p.2)&&gW (ps.map λp=>p.1) (bz (hs.headD []) c)
 | .one (.walk c mv),hs=>gW (mv.filter λv=>!decide (v=.non)) (bz (hs.headD []) c)
 | .one (.sum _ c),hs=>!decide (bz (hs.headD []) c="w")
 | .both ..,hs=>decide (hs.headD []=hs.getD 1 [])
 | .meet c d _ _,hs=>alike (bz (hs.headD []) c) (bz (hs.getD 1 []) d)
 |_,_=>true
def qE(k:Wk->Prop)(x:Wk)(hs:List Hd):Prop:=k x/\eQ x hs=true/\goodW x
theorem kz{c:Int}{h:Hd}(e:there c h=true):1<=c/\c<=h.length:=by unfold there at e;simp only[UA,decide_eq_true_eq]at e;exact e
theorem dU{x:W1}{h:Hd}{c:Int}(e:eQ (.one x) [h]=true)(hc:c∈cZ x):1<=c/\c<=h.length:=kz (List.all_eq_true.mp e c hc)
abbrev jw:Stmt:=top 29
theorem mi:av ["worker","heads","column_sort"] ["worker","heads"] (ao jw):=fs
theorem uM{n:Nat}{tk:Tok}(mT:mg "TALLY"=some (.str "t" tk))(F:FA K mg "keep_fits" jw) :
  bA bx P w K mg base 1 "keep_fits" ["worker","heads"] (df n bK (qE λx=>∃c t,x=.one (.keep c t))):=by
 refine F.ok mi λf cdv A outer s H vs Q E hr h=>?_;obtain⟨a,l,x,as,hs,rfl,ha,hL,hn,hsm,ho,q⟩:=h;refine⟨_,(aq (bc (i:=2) mi.nd rfl (UH rfl) (aX K (bM K (pv 1) ai) (aQ ck (aX K (pv 0) ai) ai)))
   (ax (jL bO (aX K (aX K (pv 0) ai) ai) (mq (bg bO (pv 2) (cu (v:=.str "t") rfl mT ⟨_,rfl⟩)) au (pv 2))))),?_⟩
 obtain⟨⟨c,t,rfl⟩,hf,hg⟩:=ho;obtain⟨hd,rfl⟩:=cY hn;obtain⟨a0,e0,jQ⟩:=hL.nth (i:=0) rfl;obtain⟨st,xs,h1,h2⟩:=dm.mp ha;have hc:=dU hf (c:=c) (by simp[cZ]);refine⟨_,rfl,l,_,0,_,rfl,rfl,bj.of hL.lst,aP (j:=0) e0,_,rfl,a,_,1,_,rfl,rfl,aY.of h1,rfl,_,_,rfl,rfl,a0,_,_,_,rfl,rfl,aY.of jQ,fG hc,aj ?_⟩;dsimp only;refine⟨_,rfl,a,_,2,_,rfl,rfl,aY.of h1,rfl,st,_,0,_,rfl,rfl,aY.of h2,aP (j:=0) rfl,_,rfl,rfl,_,rfl,?_⟩;have q:=q H (aG.refl _);have q:Q (.bl (decide (t=cE (bz hd c)))) H:=q;unfold cE at q;rw[f9];refine fw (λk=>?_) (λk=>?_)
 ·rw[UE (UB k),←f9]at q;exact⟨rfl,q⟩
 ·rw[UD (λe=>k (TY e)),←f9]at q;exact⟨_,rfl,rfl,q⟩
abbrev j8:Stmt:=top 30
theorem ud:av ["worker","heads"] ["worker","heads"] (ao j8):=fs
theorem uO{n:Nat}(F:FA K mg "same_fits" j8)
  (fK:bA bx P w K mg base 1 "are_same_sort" ["one","other"] ub) :
  bA bx P w K mg base 2 "same_fits" ["worker","heads"] (df n bK (qE λx=>∃c d,x=.one (.same c d))):=by
 refine F.ok ud λf cdv A outer s H vs Q E hr h=>?_;obtain⟨a,l,x,as,hs,rfl,ha,hL,hn,hsm,ho,q⟩:=h;refine⟨_,(ax (aL fK hr (aa (aX K (bM K (pv 1) ai) (aQ ck (aX K (pv 0) ai) ai)) (aa (aX K (bM K (pv 1) ai) (aQ ck (aX K (pv 0) ai) ai)) ah)))),?_⟩;obtain⟨⟨c,d,rfl⟩,hf,hg⟩:=ho;obtain⟨hd,rfl⟩:=cY hn;obtain⟨a0,e0,jQ⟩:=hL.nth (i:=0) rfl;have h1:H a=some (.tup [.str "same",.int c,.int d]):=dm.mp ha;have hc:=dU hf (c:=c) (by simp[cZ]);have hc2:=dU hf (c:=d) (by simp[cZ]);refine⟨_,rfl,l,_,0,_,rfl,rfl,bj.of hL.lst,aP (j:=0) e0,_,rfl,a,_,1,_,rfl,rfl,aY.of h1,rfl,_,_,rfl,rfl,a0,_,_,_,rfl,rfl,aY.of jQ,fG hc,?_⟩;exact⟨_,rfl,l,_,0,_,rfl,rfl,bj.of hL.lst,aP (j:=0) e0,_,rfl,a,_,2,_,rfl,rfl,aY.of h1,rfl,_,_,rfl,rfl,a0,_,_,_,rfl,rfl,aY.of jQ,fG hc2,_,_,rfl,q H (aG.refl _)⟩
abbrev lh:Stmt:=top 34
theorem uj:av ["worker","heads"] ["worker","heads"] (ao lh):=fs
theorem xZ{n:Nat}(F:FA K mg "sum_fits" lh) :
  bA bx P w K mg base 1 "sum_fits" ["worker","heads"] (df n bK (qE λx=>∃cs c,x=.one (.sum cs c))):=by
 refine F.ok uj λf cdv A outer s H vs Q E hr h=>?_;obtain⟨a,l,x,as,hs,rfl,ha,hL,hn,hsm,ho,q⟩:=h;refine⟨_,(ax (jL uo (aX K (bM K (pv 1) ai) (aQ ck (aX K (pv 0) ai) ai)) au)),?_⟩;obtain⟨⟨cs,c,rfl⟩,hf,hg⟩:=ho;obtain⟨hd,rfl⟩:=cY hn;obtain⟨a0,e0,jQ⟩:=hL.nth (i:=0) rfl;obtain⟨t,h1,h2⟩:=dm.mp ha;have hc:=dU hf (c:=c) (by simp[cZ]);have q:=q H (aG.refl _);have q:Q (.bl (!decide (bz hd c="w"))) H:=q;rw[←f9]at q;exact⟨_,rfl,l,_,0,_,rfl,rfl,bj.of hL.lst,aP (j:=0) e0,_,rfl,a,_,2,_,rfl,rfl,aY.of h1,rfl,_,_,rfl,rfl,a0,_,_,_,rfl,rfl,aY.of jQ,fG hc,rfl,q⟩
abbrev jX:Stmt:=top 36
theorem sq:av ["worker","heads"] ["worker","heads"] (ao jX):=fs
theorem vC{n:Nat}(F:FA K mg "meet_fits" jX)
  (fK:bA bx P w K mg base 1 "are_same_sort" ["one","other"] ub) :
  bA bx P w K mg base 2 "meet_fits" ["worker","heads"] (df n bK (qE λx=>∃c d p q,x=.meet c d p q)):=by
 refine F.ok sq λf cdv A outer s H vs Q E hr h=>?_;obtain⟨a,l,x,as,hs,rfl,ha,hL,hn,hsm,ho,q⟩:=h;refine⟨_,(ax (aL fK hr (aa (aX K (bM K (pv 1) ai) (aQ ck (aX K (pv 0) ai) ai)) (aa (aX K (bM K (pv 1) ai) (aQ ck (aX K (pv 0) ai) ai)) ah)))),?_⟩;obtain⟨⟨c,d,p1,p2,rfl⟩,hf,hg⟩:=ho;obtain⟨h0,h2,rfl⟩:=kh hn;obtain⟨a0,e0,jQ⟩:=hL.nth (i:=0) rfl;obtain⟨a1,e1,GK⟩:=hL.nth (i:=1) rfl;cases n with
 |zero=>exact UJ ha
 |succ n =>
 obtain⟨b,e,bs,es,h1,_⟩:=ha;have hf:(there c h0&&there d h2)=true:=hf;rw[UA]at hf;refine⟨_,rfl,l,_,0,_,rfl,rfl,bj.of hL.lst,aP (j:=0) e0,_,rfl,a,_,1,_,rfl,rfl,aY.of h1,rfl,_,_,rfl,rfl,a0,_,_,_,rfl,rfl,aY.of jQ,fG (kz hf.1),?_⟩;exact⟨_,rfl,l,_,1,_,rfl,rfl,bj.of hL.lst,aP (j:=1) e1,_,rfl,a,_,2,_,rfl,rfl,aY.of h1,rfl,_,_,rfl,rfl,a1,_,_,_,rfl,rfl,aY.of GK,fG (kz hf.2),_,_,rfl,q H (aG.refl _)⟩
theorem Cm(s t:List Str):cK (.tup (s.map D.str)) (.tup (t.map D.str))=decide (s=t):=by
 have gen:∀s t:List Str,fL (s.map D.str) (t.map D.str)=decide (s=t):=by
  intro s;induction s with
  |nil=>intro t;cases t<;>simp[fL]
  |cons x s ih =>
   intro t;cases t with
   |nil=>simp[fL]
   |cons y t =>rw[UR,UR,fL,ih t];by_cases e1:x=y<;>by_cases e2:s=t<;>simp[cK,e1,e2]
 rw[cK,gen]
theorem GG{K:UX}{H:Hp}{a:Addr}{h:Hd}(e:gD H a h):aV K H (.tup (h.map D.str)) (.ref a):=bL e (rK h)
theorem wR(h:List Str):(D.tup (h.map D.str)).depth<=1:=by
 rw[D.depth];have:cT (h.map D.str)<=0:=by
  induction h with
  |nil=>rw[List.map_nil,cT];exact TU _
  |cons x h ih=>rw[UR,cT];exact Nat.max_le.mpr ⟨by simp[D.depth],ih⟩
 omega
abbrev jZ:Stmt:=top 35
theorem sZ:av ["worker","heads"] ["worker","heads"] (ao jZ):=fs
theorem uP{n:Nat}(F:FA K mg "both_fits" jZ) :
  bA bx P w K mg base 1 "both_fits" ["worker","heads"] (df n bK (qE λx=>∃p q,x=.both p q)):=by
 refine F.ok sZ λf cdv A outer s H vs Q E hr h=>?_;have hu:=iH hr;obtain⟨a,l,x,as,hs,rfl,ha,hL,hn,hsm,ho,q⟩:=h;refine⟨_,(ax (jL wc (bM K (pv 1) ai) (bM K (pv 1) ai))),?_⟩;obtain⟨⟨p1,p2,rfl⟩,hf,hg⟩:=ho;obtain⟨h0,h2,rfl⟩:=kh hn;obtain⟨a0,e0,jQ⟩:=hL.nth (i:=0) rfl;obtain⟨a1,e1,GK⟩:=hL.nth (i:=1) rfl;refine⟨_,rfl,l,_,0,_,rfl,rfl,bj.of hL.lst,aP (j:=0) e0,_,rfl,l,_,1,_,rfl,rfl,bj.of hL.lst,aP (j:=1) e1,_,_,GG jQ,GG GK,?_,?_⟩
 ·exact T8 (Nat.add_le_add_left (TV (wR h0) (by decide:1<=8)) _) hu
 ·rw[Cm];exact q H (aG.refl _)
end My
namespace L2
open PySem
section
variable{g g2:TG}{tc sk:TT}{te:TE}{wi2:TI}{D:Addr}{Q:VK}{N:St->List V->Hp->Prop}{rV:St}{H0:Hp}{NT:List V}{K:UX}{a:Addr}{xs:List V}
theorem rR(Pv:Nat->St->List V->Hp->Prop)(h0:Pv 0 rV [] H0)(hD:∀i σ ys H,i<=xs.length->Pv i σ ys H->H D=some (.lst ys))(hl:∀i σ ys H,i<=xs.length->Pv i σ ys H->aY K H a xs)
  (hs:∀i x σ ys H,xs[i]? = some x->Pv i σ ys H->g x σ H λcD H2=>tc cD H2 λb H3=>if b=true then wi2 cD H3 λJ2 H4=>∃W2:Nat->Nat->St->List V->Hp->Prop,(∃m,W2 0 m cD ys H4)/\qm J2 g2 sk te D (Pv (i+1)) W2 else Pv (i+1) cD ys H3)
  (hd:∀σ ys H,Pv xs.length σ ys H->Q (.ref D) H):∃W:Nat->Nat->St->List V->Hp->Prop,(∃m,W 0 m rV [] H0)/\sH (Ei K a) g tc wi2 g2 sk te D Q W:=by
 refine⟨λi m σ ys H=>m=xs.length-i/\i<=xs.length/\Pv i σ ys H,⟨xs.length,by simp,Uo _,h0⟩,?_⟩;rintro i m σ ys H ⟨rfl,hi,p⟩;have q:=hl i σ ys H hi p;refine⟨hD i σ ys H hi p,?_⟩;by_cases hlt:i<xs.length
 ·refine .inr ⟨⟨xs,xs[i],q,by simp[hlt]⟩,Pv (i+1),λσ' ys' H' p'=>⟨xs.length-(i+1),by omega,rfl,hlt,p'⟩,λx H' y=>?_⟩;obtain⟨e,y⟩:=y;subst e;exact hs i x σ ys _ (y xs q) p
 ·have e:i=xs.length:=by omega
  subst e;exact .inl ⟨⟨xs,q,TU _⟩,hd σ ys H p⟩
theorem ni(Pv:Nat->St->List V->Hp->Prop)(h0:Pv 0 rV NT H0)(hD:∀i σ ys H,i<=xs.length->Pv i σ ys H->H D=some (.lst ys)/\(i<xs.length->ys.length<sizeLine))(hl:∀i σ ys H,i<=xs.length->Pv i σ ys H->aY K H a xs)
  (hs:∀i x σ ys H,xs[i]? = some x->Pv i σ ys H->g x σ H λcD H2=>tc cD H2 λb H3=>if b=true then te cD H3 λv H4=>H4 D=some (.lst ys)/\Pv (i+1) cD (ys++[v]) (upd H4 D (.lst (ys++[v])))else Pv (i+1) cD ys H3)
  (hd:∀σ ys H,Pv xs.length σ ys H->N σ ys H):∃W:Nat->Nat->St->List V->Hp->Prop,(∃m,W 0 m rV NT H0)/\qm (Ei K a) g tc te D N W:=by
 refine⟨λi m σ ys H=>m=xs.length-i/\i<=xs.length/\Pv i σ ys H,⟨xs.length,by simp,Uo _,h0⟩,?_⟩;rintro i m σ ys H ⟨rfl,hi,p⟩;have q:=hl i σ ys H hi p;refine⟨(hD i σ ys H hi p).1,?_⟩;by_cases hlt:i<xs.length
 ·refine .inr ⟨⟨xs,xs[i],q,by simp[hlt]⟩,(hD i σ ys H hi p).2 hlt,Pv (i+1),λσ' ys' H' p'=>⟨xs.length-(i+1),by omega,rfl,hlt,p'⟩,λx H' y=>?_⟩;obtain⟨e,y⟩:=y;subst e;exact hs i x σ ys _ (y xs q) p
 ·have e:i=xs.length:=by omega
  subst e;exact .inl ⟨⟨xs,q,TU _⟩,hd σ ys H p⟩
end
end L2
namespace My
open PySem L2
abbrev jJ:Stmt:=top 31
theorem sh:av ["worker","heads"] ["worker","heads"] (ao jJ):=fs
variable{P:Program}{w:World}{K:UX}{mg:Str->Option Value}{base:Heap}
theorem uU{n:Nat}(F:FA K mg "turn_fits" jJ)
  (fz:bA bx P w K mg base 2 "cells_fit" ["cells","column_sort"] i4) :
  bA bx P w K mg base 3 "turn_fits" ["worker","heads"] (df n bK (qE λx=>∃c ps,x=.one (.turn c ps))):=by
 refine F.ok sh λf cdv A outer s H vs Q E hr h=>?_;have hu:=iH hr;obtain⟨a,l,x,as,hs,rfl,ha,hL,hn,hsm,ho,q⟩:=h;refine⟨_,(ax (aL fz hr (aa (rJ (N':=["pair","cell"]) (src:=[none,none]) rfl (bh.lJ (by kernel_rfl)) (cF (aX K (pv 0) ai)) (λcl C s H fp=>(fX (i:=0))) (λcl C s H fp=>bp) (wi2:=(FO K (bF 0))) (λcl C s H fp=>(cF (i3 0))) (λcl C s H fp=>(fX (i:=1))) (λcl C s H fp=>bp) (te:=(bF 1)) (λcl C s H fp=>(i3 1))) (aa (aX K (bM K (pv 1) ai) (aQ ck (aX K (pv 0) ai) ai)) ah)))),?_⟩;obtain⟨⟨c,ps,rfl⟩,hf,hg⟩:=ho;obtain⟨hd,rfl⟩:=cY hn;obtain⟨a0,e0,jQ⟩:=hL.nth (i:=0) rfl;obtain⟨t,bs,h1,hI⟩:=dm.mp ha;have hc:=dU hf (c:=c) (by simp[cZ]);have hz:ps.length<=1000:=hsm;have hg:∀p∈ps,kQ p.1/\kQ p.2:=hg;have hlb:(bs.map V.ref).length=ps.length:=by rw[TZ,hI.len]
 refine⟨_,rfl,a,_,2,_,rfl,rfl,aY.of h1,rfl,t,rfl,⟨_,aY.of hI.tup⟩,λD hD=>?_⟩;refine rR (xs:=bs.map V.ref) (λi σ ys H'=>(∃o1 o2,σ=[o1,o2])/\ys=(ps.take i).flatMap (λp=>[p.1,p.2])/\ys.length=2*i/\H' D=some (.lst ys)/\aG H H') ⟨⟨none,none,rfl⟩,rfl,rfl,ae,ag hD _⟩ ?_ ?_ ?_ ?_
 ·rintro i σ ys H' _ ⟨_,_,_,h,_⟩;exact h
 ·rintro i σ ys H' _ ⟨_,_,_,_,sm⟩;exact aY.of (sm _ _ hI.tup)
 ·rintro i v σ ys H' hv ⟨⟨o1,o2,rfl⟩,rfl,hi,h,sm⟩;obtain⟨b,p,rfl,ep,hb⟩:=hI.get hv;have hib:i<1000:=by have:=(Ug.mp ep).1;omega
  refine aj ⟨_,rfl,b,rfl,⟨_,aY.of (sm _ _ hb)⟩,?_⟩;refine ni (xs:=[p.1,p.2]) (λj σ zs H2=>(∃o,σ=[some (.ref b),o])/\zs=(ps.take i).flatMap (λp=>[p.1,p.2])++[p.1,p.2].take j/\zs.length=2*i+j/\H2 D=some (.lst zs)/\aG H H2) ⟨⟨o2,rfl⟩,by rw[List.take_zero,UN],hi,h,sm⟩ ?_ ?_ ?_ ?_
  ·rintro j σ zs H2 hj ⟨_,_,LS,h2,_⟩;refine⟨h2,λ_=>?_⟩;rw[LS];exact T8 (show 2*i+j<=3000 by have:j<=2:=hj;omega) (by decide)
  ·rintro j σ zs H2 _ ⟨_,_,_,_,s2⟩;exact aY.of (s2 _ _ hb)
  ·rintro j u σ zs H2 hu' ⟨⟨o,rfl⟩,rfl,LS,h2,s2⟩;refine aj ⟨_,rfl,h2,⟨_,rfl⟩,?_,?_,ae,bo hD s2⟩
   ·rw[take_one hu',List.append_assoc]
   ·rw[T1,LS];rfl
  ·rintro σ zs H2 ⟨⟨o,rfl⟩,rfl,LS,h2,s2⟩;refine⟨⟨_,_,rfl⟩,?_,by rw[LS];show 2*i+2=_;omega,h2,s2⟩;rw[take_one ep,List.flatMap_append];rfl
 ·rintro σ ys H1 ⟨_,rfl,hyl,h,sm⟩;rw[hlb,UI]at h hyl;refine⟨_,rfl,l,_,0,_,rfl,rfl,bj.of (sm _ _ hL.lst),aP (j:=0) e0,_,rfl,a,_,1,_,rfl,rfl,aY.of (sm _ _ h1),rfl,_,_,rfl,rfl,a0,_,_,_,rfl,rfl,aY.of (sm _ _ jQ),fG hc,?_⟩;refine⟨D,_,_,rfl,h,by omega,λv hv=>?_,λH' s'=>q H' (sm.trans s')⟩;obtain⟨p,hp,hv⟩:=List.mem_flatMap.mp hv;simp only[Uj,UG,or_false]at hv;rcases hv with rfl|rfl
  ·exact(hg p hp).1
  ·exact(hg p hp).2
abbrev j5:Stmt:=top 33
theorem l8:av ["worker","heads","cells"] ["worker","heads"] (ao j5):=fs
theorem vE{n:Nat}(F:FA K mg "walk_fits" j5)
  (fz:bA bx P w K mg base 2 "cells_fit" ["cells","column_sort"] i4) :
  bA bx P w K mg base 3 "walk_fits" ["worker","heads"] (df n bK (qE λx=>∃c mv,x=.one (.walk c mv))):=by
 refine F.ok l8 λf cdv A outer s H vs Q E hr h=>?_;obtain⟨a,l,x,as,hs,rfl,ha,hL,hn,hsm,ho,q⟩:=h;refine⟨_,(aq (fo (i:=2) (N':=["state","cell","after"]) (src:=[none,none,none]) l8.nd rfl (UH rfl) rfl rfl (bh.lJ (by kernel_rfl)) (cF (aX K (pv 0) ai)) (g:=(oJ K 3 (cI (bW 0) (cI (bW 1) (cI (bW 2) oH))))) (λcl C s H fp=>(bS rfl (ar (fX (i:=0)) (ar (fX (i:=1)) (ar (fX (i:=2)) bw))))) (tc:=(kY (fQ (λx y H Q=>y=.non/\Q (.bl (!decide (x=.non))) H) (bF 1) (tC .non)))) (λcl C s H fp=>iN (bg yD (i3 1) gc)) (te:=(bF 1)) (λcl C s H fp=>(i3 1)))
   (ax (aL fz hr (aa (pv 2) (aa (aX K (bM K (pv 1) ai) (aQ ck (aX K (pv 0) ai) ai)) ah))))),?_⟩
 obtain⟨⟨c,mv,rfl⟩,hf,hg⟩:=ho;obtain⟨hd,rfl⟩:=cY hn;obtain⟨a0,e0,jQ⟩:=hL.nth (i:=0) rfl;obtain⟨st,t,bs,h1,hI⟩:=dm.mp ha;have hc:=dU hf (c:=c) (by simp[cZ]);have hz:mv.length<=1000:=hsm;have hg:∀v∈mv,v=.non\/kQ v:=hg;have hlb:(bs.map V.ref).length=mv.length:=by rw[TZ,hI.len]
 refine⟨_,rfl,a,_,3,_,rfl,rfl,aY.of h1,rfl,t,rfl,⟨_,aY.of hI.tup⟩,λD hD=>?_⟩;refine cX (xs:=bs.map V.ref) (λi σ ys H'=>(∃o1 o2 o3,σ=[o1,o2,o3])/\ys=(mv.take i).filter (λv=>!decide (v=.non))/\ys.length<=i/\H' D=some (.lst ys)/\aG H H') ⟨⟨none,none,none,rfl⟩,rfl,TU _,ae,ag hD _⟩ ?_ ?_ ?_ ?_ ?_
 ·rintro i σ ys H' _ ⟨_,_,hi,h,_⟩;exact⟨h,hi⟩
 ·rintro i σ ys H' _ ⟨_,_,_,_,sm⟩;exact aY.of (sm _ _ hI.tup)
 ·rw[hlb];exact TV hz (by decide)
 ·rintro i v σ ys H' hv ⟨⟨o1,o2,o3,rfl⟩,rfl,hi,h,sm⟩;obtain⟨b,u,rfl,eu,s1,t1,hb⟩:=hI.get hv;refine⟨b,_,rfl,aY.of (sm _ _ hb),rfl,_,_,rfl,aj ⟨_,_,rfl,aj ⟨_,_,rfl,aj ⟨rfl,?_⟩⟩⟩⟩;refine⟨_,rfl,rfl,_,rfl,?_⟩;refine fw (λk=>?_) (λk=>?_)
  ·refine⟨_,rfl,h,⟨_,_,_,rfl⟩,?_,by rw[T1];simp only[List.length_singleton];omega,ae,bo hD sm⟩;rw[take_one eu,List.filter_append,List.filter_cons,UE k];rfl
  ·refine⟨⟨_,_,_,rfl⟩,?_,by omega,h,sm⟩;rw[take_one eu,List.filter_append,List.filter_cons,UD k];simp
 ·rintro σ ys H1 ⟨_,rfl,hyl,h,sm⟩;rw[hlb,UI]at h hyl;refine aj ?_;dsimp only;refine⟨_,rfl,_,rfl,l,_,0,_,rfl,rfl,bj.of (sm _ _ hL.lst),aP (j:=0) e0,_,rfl,a,_,1,_,rfl,rfl,aY.of (sm _ _ h1),rfl,_,_,rfl,rfl,a0,_,_,_,rfl,rfl,aY.of (sm _ _ jQ),fG hc,?_⟩;refine⟨D,_,_,rfl,h,by omega,λv hv=>?_,λH' s'=>q H' (sm.trans s')⟩;obtain⟨hm,hk⟩:=List.mem_filter.mp hv;rcases hg v hm with rfl|z
  ·simp at hk
  ·exact z
end My
namespace L2
open PySem PySem.Spec PyProof.Rows
open Classical in
noncomputable def ml (ks:List Key) (k:Key):Bool:=decide (k∈ks)
open Classical in
theorem gp{ks:List Key}{k:Key}:ml ks k=true↔k∈ks:=by unfold ml;exact decide_eq_true_iff
noncomputable def fZ (ks:List Key) (k:Key):List Key:=if ml ks k=true then ks else ks++[k]
theorem Dh(ks:List Key)(k k':Key):ml (fZ ks k) k'=(ml ks k'||decide (k'=k)):=by
 rw[Bool.eq_iff_iff,Bool.or_eq_true,decide_eq_true_eq,gp,gp];unfold fZ;by_cases h:ml ks k=true
 ·rw[UE h];exact⟨.inl,λz=>z.elim id λe=>by rw[e];exact gp.mp h⟩
 ·rw[UD h,Ul,Uh]
def xX(J:It)(g:TG)(te:TE)(Q:VK)(W:Nat->Nat->St->List Key->Hp->Prop):Prop :=
 ∀i m σ ks H,W i m σ ks H->ks.length+1<scanBound/\((J.stop i H/\Q (.int (ks.length:Nat)) H)\/(J.go i H/\∃N:St->List Key->Hp->Prop,(∀σ' ks' H',N σ' ks' H'->∃m',m'<m/\W (i+1) m' σ' ks' H')/\
  ∀x H',J.Ci i H x H'->g x σ H' λcD H2=>te cD H2 λv H3=>∃k,v=kV k/\N cD (fZ ks k) H3))
def E1(src:List (Option Nat))(wi:TI)(g:TG)(te:TE):TE:=λσ H Q=>wi σ H λJ H1=>∃W:Nat->Nat->St->List Key->Hp->Prop,(∃m,W 0 m (iW src σ) [] H1)/\xX J g te Q W
section
variable{prog:Program}{w:World}{A:Around}{s:Shared}{R:Result->Shared->Prop}{elt target iter:Expr}{sc:Scope}{pos:Pos}{it acc:Value}{env:Env}
theorem z_:compTurn (.SetComp elt [⟨target,iter,[],0⟩] sc pos) 0 it acc env=(standAt iter.pos >>= λ_=>pyNext it >>= λr=>match r with
   |none=>pure (.done .next)
   |some v=>letOwnedTupleGo target it v >>= λ_=>assign target env v >>= λ_=>(eval elt env >>= λx=>standAt elt.pos >>= λ_=>call (.builtin "set.add") [acc,x] >>= λ_=>pure ()) >>= λ_=>again (.compLoop (.SetComp elt [⟨target,iter,[],0⟩] sc pos) 0 it acc env)):=by rfl
theorem wM(h0:codeAny (model prog w) A (.compLoop (.SetComp elt [⟨target,iter,[],0⟩] sc pos) 0 it acc env) R s)
  (h:wpAny (model prog w) A (pyIter it) (λit' s'=>codeAny (model prog w) A (.compLoop (.SetComp elt [⟨target,iter,[],0⟩] sc pos) 0 it' acc env) R s') (notedBy (model prog w) A env λx s'=>R (.error x) s') s) :
  codeAny (model prog w) A (.compStart (.SetComp elt [⟨target,iter,[],0⟩] sc pos) 0 it acc env) R s:=by
 refine codeAny_of_tree (show wpAny _ _ ((compStart (.SetComp elt [⟨target,iter,[],0⟩] sc pos) 0 it acc env).onRaise (λx=>do noteFrame x env;standAt theWindowsPlace)) _ _ s from wpAny_notedAt ?_);unfold compStart;refine show wpAny _ _ (ask >>= _) _ _ s from TK (wpAny_askSetting (wpAny_ite ?_))
 split
 ·first|exact TK (TM (TM ⟨rfl,h0⟩))|exact TM ⟨rfl,h0⟩
 ·refine TK (wpAny_rule (show wpAny _ _ (standAt iter.pos >>= _) _ _ s from ?_));exact TK (wpAny_standAt (TK (bJ h λit' s' h'=>TM ⟨rfl,h'⟩)))
theorem A7(Iv:Nat->Shared->Prop)
  (turn:∀n s,Iv n s->wpAny (model prog w) A (pyNext it) (λr s₁=>match r with
   |none=>R (.ok .next) s₁
   |some v=>wpAny (model prog w) A (letOwnedTupleGo target it v) (λ_ s₁'=>wpAny (model prog w) A (assign target env v) (λ_ s₂=>wpAny (model prog w) A (eval elt env) (λx s₄ =>
       wpAny (model prog w) A (call (.builtin "set.add") [acc,x]) (λ_ s₅=>∃m,m<n/\Iv m s₅) (λ_ _=>False) s₄) (λ_ _=>False) s₂) (λ_ _=>False) s₁') (λ_ _=>False) s₁) (λ_ _=>False) s)
  (n:Nat) (h:Iv n s):codeAny (model prog w) A (.compLoop (.SetComp elt [⟨target,iter,[],0⟩] sc pos) 0 it acc env) R s:=by
 refine codeAny_loop rfl Iv (λn s hI=>?_) n h;show wpAny _ A ((compTurn (.SetComp elt [⟨target,iter,[],0⟩] sc pos) 0 it acc env).onRaise (λx=>do noteFrame x env;theTreesLotGoes x)) _ _ s;refine wpAny_noted ?_;rw[z_];refine TK (wpAny_standAt (TK (Uv (turn n s hI) (λr s₁ h₁=>?_) λ_ _ h'=>h'.elim)));cases r with
 |none=>exact TM h₁
 |some v =>refine TK (Uv h₁ (λ_ s₁' h₁'=>TK (Uv h₁' (λ_ s₂ h₂=>?_) λ_ _ h'=>h'.elim)) λ_ _ h'=>h'.elim);exact TK (TK (Uv h₂ (λx s₄ h₄=>TK (wpAny_standAt (TK (Uv h₄ (λ_ s₅ h₅=>TM (TM ⟨rfl,h₅⟩)) λ_ _ h'=>h'.elim)))) λ_ _ h'=>h'.elim))
end
theorem IZ{k:Key}{u:Value}(r:RelV (kV k) u):gz k u=true/\u.scannable=true:=by
 cases k with
 |inl i=>obtain⟨t,rfl⟩:=r;exact⟨nI _ _,rfl⟩
 |inr x=>obtain⟨t,rfl⟩:=r;exact⟨nk _ _,rfl⟩
section
variable{X:Cx}{elt target iter:Expr}{sc:Scope}{pos:Pos}{wi:TI}{g:TG}{te:TE}{N':List Str}{src:List (Option Nat)}
abbrev s_(h:Heap)(prog:Program)(w:World)(S:Addr)(ks:List Key):Prop:=h.SetOf (bC prog w) S (λk=>ml ks k) ks.length
theorem CG{h:Heap}{prog:Program}{w:World}{S:Addr}{ks:List Key}(x:s_ h prog w S ks):∃o,h.get? S=some o/\∀v,o.data≠ .cell v:=by obtain⟨o,es,ep,t,ho,_,hd,_⟩:=x;exact⟨o,ho,λv z=>by rw[hd]at z;cases z⟩
theorem kl{h h':Heap}{prog:Program}{w:World}{S:Addr}{ks:List Key}(x:s_ h prog w S ks)(k:∀o,h.get? S=some o->h'.get? S=some o):s_ h' prog w S ks:=by obtain⟨o,es,ep,t,ho,z⟩:=x;exact⟨o,es,ep,t,k _ ho,z⟩
theorem xT{ac:List (Addr×Obj)}{σ:St}{H2:Hp}{s2:Shared}{it:Addr}{fp:List Addr}{tn:Nat->Heap->Prop}{J:It}{Q:VK}{E:Value->Shared->Prop}{RR:Value->Addr->Result->Shared->Prop}
  (hc:X.calm=true) (S:bh X.env.scope X.N N' src sc)
  (hg:∀cl C s H fp,PG (aD X N' sc cl C s H fp) target g) (he:∀cl C s H fp,PE (aD X N' sc cl C s H fp) elt te)
  (I2:Inv X ac σ H2 s2) (T:Turn X.prog X.w X.K target J fp it tn) (st2:tn 0 s2.heap) (f2:∀b∈fp,cS X ac H2 b)
  (hW:∃W:Nat->Nat->St->List Key->Hp->Prop,(∃m,W 0 m (iW src σ) [] H2)/\xX J g te Q W)
  (hRR:∀D C s5 H' m ks,Inv X ac σ H' s5->s5.heap.Ns C m->cS X ac H' C->C≠D->s_ s5.heap X.prog X.w D ks->Q (.int (ks.length:Nat)) H'->RR (.ref D) C (.ok .next) s5) :
  wpAny (model X.prog X.w) X.A (newSet (.type "set")) (λacc s₃=>wpAny (model X.prog X.w) X.A (newFunctionEnv sc X.env.globals (bq X.env.cells sc.names []) [] X.env.qual none .none (some X.env)) (λcenv s₄ =>
   codeAny (model X.prog X.w) X.A (.compStart (.SetComp elt [⟨target,iter,[],0⟩] sc pos) 0 (.ref it) acc {cenv with scope:=relabel sc X.env}) (RR acc cenv.locals) s₄) E s₃) E s2:=by
 have o2:∀b∈fp,b<s2.heap.objs.size:=λb hb=>by obtain⟨o,e,_⟩:=T.obj 0 _ st2 b hb;exact TQ e
 refine wpAny_newSet_of (knd:=bC X.prog X.w) λled hS=>?_;have EY:H2 s2.heap.objs.size=none:=I2.hok.fresh (TU _);obtain⟨W,⟨m0,w0⟩,turn⟩:=hW;have HF:∀b o,s2.heap.get? b=some o->(s2.heap.push {cls:=.type "set",dict:=none,data:=.set #[] 0 (.fresh 0 0 led)}).get? b=some o:=λb o e=>TN _ e;have I3:Inv X ac σ H2 {s2 with heap:=s2.heap.push {cls:=.type "set",dict:=none,data:=.set #[] 0 (.fresh 0 0 led)}}:=I2.kept (t':=s2.toks) HF;have fS:cS X ac H2 s2.heap.objs.size:=I2.nC (TU _) EY;have st3:tn 0 (s2.heap.push {cls:=.type "set",dict:=none,data:=.set #[] 0 (.fresh 0 0 led)}):=T.keep 0 _ _ st2 λb hb o e=>HF b o e;generalize hs3:({s2 with heap:=s2.heap.push {cls:=.type "set",dict:=none,data:=.set #[] 0 (.fresh 0 0 led)}}:Shared)=s3 at I3;have hh3:s3.heap=s2.heap.push {cls:=.type "set",dict:=none,data:=.set #[] 0 (.fresh 0 0 led)}:=by rw[←hs3]
 have Be:s2.heap.objs.size<s3.heap.objs.size:=by rw[hh3,Heap.size_push];exact Nat.lt_succ_self _
 generalize TC:s2.heap.objs.size=Sa at *;have o3:∀b∈Sa::fp,b<s3.heap.objs.size:=λb hb=>by
  rcases Uj.mp hb with rfl|hb
  ·exact Be
  ·exact Nat.lt_trans (o2 b hb) Be
 have nS:∀b∈fp,b≠Sa:=λb hb=>Um (o2 b hb);have f3:∀b∈Sa::fp,cS X ac H2 b:=λb hb=>by
  rcases Uj.mp hb with rfl|hb
  ·exact fS
  ·exact f2 b hb
 rw[←hh3]at st3 hS;refine wpAny_newFunctionEnv S.nH (by intro y hy;simp at hy) (λh1 hns hsb=>?_) S.kind;have hsb':Heap.SameBut s3.heap.objs.size (s3.heap.push {cls:=.type "dict",data:=.dict #[]}) h1:=hsb;have I4:Inv (aD X N' sc (bq X.env.cells sc.names []) s3.heap.objs.size s3 H2 (Sa::fp)) [] (iW src σ) H2 {s3 with heap:=h1,toks:=s3.toks+([]:List (Str×Value)).length} :=
  gy S I3 f3 o3 hns hsb'
 have k4:∀b o,b<s3.heap.objs.size->s3.heap.get? b=some o->h1.get? b=some o:=λb o hb e=>(hsb'.2 b (Um hb)).trans (TN _ e);have yX:tn 0 h1:=T.keep 0 _ _ st3 λb hb o e=>k4 b o (o3 b (Uc _ hb)) e;have e0:(λk:Key=>ml [] k) = λ_=>false:=by funext k;exact Uk.mpr λz=>by cases gp.mp z
 have Rg:s_ s3.heap X.prog X.w Sa []:=by show Heap.SetOf _ _ _ (λk=>ml [] k) _;rw[e0];exact hS
 have SH:s_ h1 X.prog X.w Sa []:=kl Rg λo e=>k4 _ o Be e;have fC:∀(H':Hp),H' s3.heap.objs.size=none->cS X ac H' s3.heap.objs.size:=λH' hn=>I3.nC (TU _) hn;generalize hY:aD X N' sc (bq X.env.cells sc.names []) s3.heap.objs.size s3 H2 (Sa::fp)=Y at I4;have M9:Y.prog=X.prog:=by rw[←hY]
 have Ni:Y.w=X.w:=by rw[←hY]
 have Qt:Y.K=X.K:=by rw[←hY]
 have Pu:Y.calm=X.calm:=by rw[←hY]
 have Nh:Y.A=X.A:=by rw[←hY]
 have Pj:Y.env=compEnvC sc (bq X.env.cells sc.names []) s3.heap.objs.size X.env:=by rw[←hY]
 have Nm:Y.ex=Sa::fp:=by rw[←hY]
 have Qs:Y.xe = λ_ _=>False:=by rw[←hY]
 have So:Y.pn=[]:=by rw[←hY]
 have N9:PG Y target g:=by rw[←hY];exact hg _ _ _ _ _
 have Oj:PE Y elt te:=by rw[←hY];exact he _ _ _ _ _
 have stat:∀{pl:List (Addr×Obj)}{H':Hp}{b:Addr},H' b=none->b∈Sa::fp->(∀p∈pl,p.1≠b)->cS Y pl H' b:=λ{pl H' b} hn hb hp =>
  ⟨hn,(I4.ok.xh b (by rw[Nm];exact hb)).1,I4.ok.oC b (by rw[Nm];exact hb),.inl (by rw[Nm];exact hb),(I4.ok.xh b (by rw[Nm];exact hb)).2,λp h=>hp p (by rw[So]at h;exact h)⟩
 have LZ:∀{σ':St}{H':Hp}{s':Shared}{pl:List (Addr×Obj)}{o:Obj},Inv Y pl σ' H' s'->s'.heap.get? Sa=some o->(∀v,o.data≠ .cell v)->H' Sa=none->Inv Y [(Sa,o)] σ' H' s':=λ{σ' H' s' pl o} J e d hn =>
  J.gV λp hp=>by
   have:p=(Sa,o):=by simpa using hp
   subst this;exact⟨e,hn,(stat (pl:=[]) hn Uy λ_ z=>nomatch z).2.1,(stat (pl:=[]) hn Uy λ_ z=>nomatch z).2.2.1,d⟩
 have loop:codeAny (model X.prog X.w) X.A (.compLoop (.SetComp elt [⟨target,iter,[],0⟩] sc pos) 0 (.ref it) (.ref Sa) (compEnvC sc (bq X.env.cells sc.names []) s3.heap.objs.size X.env))
   (RR (.ref Sa) s3.heap.objs.size) {s3 with heap:=h1,toks:=s3.toks+([]:List (Str×Value)).length}:=by
  refine A7 (λn s'=>∃i σ' ks H',Inv Y [] σ' H' s'/\tn i s'.heap/\(∀b∈Sa::fp,H' b=none)/\s_ s'.heap X.prog X.w Sa ks/\W i n σ' ks H') ?_ m0
   ⟨0,_,[],_,I4,yX,λb hb=>(f3 b hb).1,SH,w0⟩
  rintro n s5 ⟨i,mj,ks,H5,I5,qN,sF,N7,w5⟩;obtain⟨hroom,alt⟩:=turn i n mj ks H5 w5;obtain⟨oS,eS,dS⟩:=CG N7;have Qh:=LZ I5 eS dS (sF _ Uy);have DT:∀{H':Hp},(∀b∈fp,H' b=none)->∀b∈fp,cS Y [(Sa,oS)] H' b:=λhn b hb=>stat (hn b hb) (Uc _ hb) λp hp=>by
   have:p=(Sa,oS):=by simpa using hp
   subst this;exact(nS b hb).symm
  have Pl:∀b∈fp,H5 b=none:=λb hb=>sF b (Uc _ hb);rcases alt with⟨stop,qn⟩|⟨go,N,hN,step⟩
  ·have:=T.done Y M9 Ni Qt (by rw[Pu];exact hc) i [(Sa,oS)] s5 mj H5 (λ_ _=>False) Qh (DT Pl) qN stop;rw[Nh]at this;refine bJ this λr s6 zz=>?_;obtain⟨hr,I6⟩:=zz;subst hr;have S5:s_ s6.heap X.prog X.w Sa ks:=kl N7 λo e=>by rw[eS]at e;cases e;exact(I6.pin (Sa,oS) (Ua _ (.head _))).1
   subst hY;obtain⟨m6,n6,_⟩:=id I6.loc;exact hRR _ _ s6 H5 m6 ks (I3.call' I6.os I6.base I6.hok I6.bare λb hb=>⟨(f3 b hb).2.2.2.1,(f3 b hb).2.1,(f3 b hb).2.2.2.2.1,(f3 b hb).2.2.2.2.2⟩) n6 (fC _ I6.free) (Nat.ne_of_gt Be) S5 qn
  ·have:=T.item Y M9 Ni Qt (by rw[Pu];exact hc) i [(Sa,oS)] s5 mj H5 (λ_ _=>False) Qh (DT Pl) qN go;rw[Nh]at this;refine bJ this λr s6 zz=>?_;obtain⟨u,hr,h6⟩:=zz;subst hr;refine bJ h6 λ_ s7 zz=>?_;obtain⟨x,H7,I7,r7,y7,pf,Dw⟩:=zz;have Bm:=I7.pinned (DT Dw) (T.obj _ _ pf);have M6:=N9 _ s7 mj H7 x u _ Bm r7 (step x H7 y7);rw[M9,Ni,Nh,Pj,Qs]at M6;refine bJ M6 λ_ s8 zz=>?_;obtain⟨qD,H8,I8,q8⟩:=zz;have Pn:=Oj _ s8 qD H8 _ I8 q8;rw[M9,Ni,Nh,Pj,Qs]at Pn;refine bJ Pn λxv s9 zz=>?_;obtain⟨v,H9,I9,r9,k,ek,w9⟩:=zz;subst ek;obtain⟨hk1,hk2⟩:=IZ r9;have pS:=I9.pin (Sa,oS) (Ua _ (List.mem_append_left _ (.head _)));have RZ:s_ s9.heap X.prog X.w Sa ks:=kl N7 λo e=>by rw[eS]at e;cases e;exact pS.1
   refine call_set_add (knd:=bC X.prog X.w) (k:=k) hk1 hk2 RZ hroom λh' hsb hS'=>?_;obtain⟨m',hm,w'⟩:=hN _ _ _ w9;have Ht:∀b∈fp,∀o,s7.heap.get? b=some o->s9.heap.get? b=some o/\H9 b=none:=λb hb o e=>by have:=I9.pin (b,o) (Ua _ (Ua _ (b9 hb e)));exact⟨this.1,this.2.1⟩
   have Te:Inv Y [] qD H9 s9:=I9.gV λp hp=>nomatch hp
   have Ma:=stat (pl:=[]) (H':=H9) (b:=Sa) pS.2.1 Uy λ_ z=>nomatch z
   refine⟨m',hm,i+1,qD,fZ ks k,H9,Te.turned (t':=s9.toks+1) (λb o hb e=>(hsb.2 b hb).trans e) Ma.1 Ma.2.1 Ma.2.2.2.1 Ma.2.2.2.2.1 Ma.2.2.2.2.2,T.keep _ _ _ pf λb hb o e=>(hsb.2 b (nS b hb)).trans (Ht b hb o e).1,λb hb=>?_,?_,w'⟩
   ·rcases Uj.mp hb with rfl|hb
    ·exact pS.2.1
    ·obtain⟨o,e,_⟩:=T.obj _ _ pf b hb;exact(Ht b hb o e).2
   ·have e1:(λk'=>ml ks k'||decide (k'=k)) = λk'=>ml (fZ ks k) k':=by funext k';exact(Dh ks k k').symm
    have e2:(if ml ks k=true then ks.length else ks.length+1)=(fZ ks k).length:=by
     unfold fZ;by_cases h:ml ks k=true
     ·rw[UE h,UE h]
     ·rw[UD h,UD h,T1];rfl
    show h'.SetOf (bC X.prog X.w) Sa (λk'=>ml (fZ ks k) k') (fZ ks k).length;rw[←e1,←e2];exact hS'
 exact wM loop (T.self _ 0 _ _ _ yX loop)
theorem wA{np lp:Pos}(hc:X.calm=true)(RT:Gl X "len")(O7:X.mg "len"=none)(S:bh X.env.scope X.N N' src sc)(hi:PI X target iter wi)
  (hg:∀cl C s H fp,PG (aD X N' sc cl C s H fp) target g) (he:∀cl C s H fp,PE (aD X N' sc cl C s H fp) elt te)
  (hs:∀x,foldedSetIterable iter X.env x=pure x:=by intro _;rfl) (hs1:starEach [Expr.SetComp elt [⟨target,iter,[],0⟩] sc pos] X.env=[(false,eval (.SetComp elt [⟨target,iter,[],0⟩] sc pos) X.env)]:=by rfl) :
  PE X (.Call (.Name "len" np) [.SetComp elt [⟨target,iter,[],0⟩] sc pos] [] lp) (E1 src wi g te):=by
 intro ac s σ H Q I h;refine wpAny_Call_Name_kw (iY I RT O7 UU ?_ (by decide) (by decide));refine PyProof.Rows.callWith_builtin1 ?_ hs1 rfl;rw[hs1];refine Calls.spliced_cons ?_;rw[arm_eval_SetComp];refine wpAny_comprehension_free (use:=none) (e:=.SetComp elt [⟨target,iter,[],0⟩] sc pos) (g:=⟨target,iter,[],0⟩) (gs:=[]) rfl hs (cB λy hy hk=>I.ok.has y.1 (S.free y hy hk)) S.kind (λy hy hl=>by rw[←hl];exact S.uniq y hy) ?_;refine bJ (hi ac s σ H _ I h) λv s1 h1=>bJ h1 λitv s2 h2=>?_;obtain⟨it,fp,tn,J,H2,e,I2,T,st2,f2,hW⟩:=h2;subst e;refine xT (Q:=Q) (RR:=λacc C=>compPost (model X.prog X.w) X.A X.xe none (λv s2=>wpAny (model X.prog X.w) X.A (spliced []) (λvs s3=>wpAny (model X.prog X.w) X.A (call (.builtin "len") (v::vs)) (EP X ac σ Q) X.xe s3) X.xe s2) acc C) hc S hg he I2 T st2 f2 hW ?_;intro D C s5 H' m ks I5 n5 fC hCD hS q;refine⟨m,n5,λh' sb=>Calls.spliced_nil ?_⟩;have I6:=I5.turned (t':=s5.toks) (λb o hb e=>(sb.2 b hb).trans e) fC.1 fC.2.1 fC.2.2.2.1 fC.2.2.2.2.1 fC.2.2.2.2.2;obtain⟨o,es,ep,t,ho,hex,hd,hel,_,hb,hf,hn⟩:=kl (h':=h') hS λo e=>(sb.2 _ hCD.symm).trans e;have hsc:(scanBound:Int)<2 ^ 63:=by decide
 have hlt:((es.size:Nat):Int)<2 ^ 63:=Int.lt_trans (Int.ofNat_lt.mpr hb) hsc;refine call_len_set (s:={s5 with heap:=h',toks:=s5.toks}) ho hex hd hf hlt ?_;exact⟨.int (ks.length:Nat),H',I6.kept (h':=h') (t':=s5.toks+1+1) λ_ _ e=>e,⟨_,by rw[hn]⟩,q⟩
end
end L2
namespace L2
open PySem
theorem xH{K:UX}{a:Addr}{xs:List V}{g:TG}{te:TE}{Q:VK}{rV:St}{H0:Hp}(Pv:Nat->St->List Key->Hp->Prop)(h0:Pv 0 rV [] H0)(hb:∀i σ ks H,i<=xs.length->Pv i σ ks H->ks.length+1<scanBound)(hl:∀i σ ks H,i<=xs.length->Pv i σ ks H->aY K H a xs)
  (hs:∀i x σ ks H,xs[i]? = some x->Pv i σ ks H->g x σ H λcD H2=>te cD H2 λv H3=>∃k,v=kV k/\Pv (i+1) cD (fZ ks k) H3)
  (hd:∀σ ks H,Pv xs.length σ ks H->Q (.int (ks.length:Nat)) H):∃W:Nat->Nat->St->List Key->Hp->Prop,(∃m,W 0 m rV [] H0)/\xX (Ei K a) g te Q W:=by
 refine⟨λi m σ ks H=>m=xs.length-i/\i<=xs.length/\Pv i σ ks H,⟨xs.length,by simp,Uo _,h0⟩,?_⟩;rintro i m σ ks H ⟨rfl,hi,p⟩;have q:=hl i σ ks H hi p;refine⟨hb i σ ks H hi p,?_⟩;by_cases hlt:i<xs.length
 ·refine .inr ⟨⟨xs,xs[i],q,by simp[hlt]⟩,Pv (i+1),λσ' ks' H' p'=>⟨xs.length-(i+1),by omega,rfl,hlt,p'⟩,λx H' y=>?_⟩;obtain⟨e,y⟩:=y;subst e;exact hs i x σ ks _ (y xs q) p
 ·have e:i=xs.length:=by omega
  subst e;exact .inl ⟨⟨xs,q,TU _⟩,hd σ ks H p⟩
theorem CK(ks:List Key)(k:Key):ks.length<=(fZ ks k).length/\(fZ ks k).length<=ks.length+1:=by
 unfold fZ;split
 ·exact⟨TU _,Nat.le_succ _⟩
 ·rw[T1];simp
end L2
namespace My
open PySem L2
noncomputable def gQ (acc:List Key) (ss:List Str):List Key:=ss.foldl (λacc s=>fZ acc (.inr s)) acc
theorem pG:∀(ss:List Str)(acc:List Key),acc.length<=(gQ acc ss).length/\(gQ acc ss).length<=acc.length+ss.length
 |[],acc=>⟨TU _,TU _⟩
 |s::ss,acc=>by have h1:=pG ss (fZ acc (.inr s));have h2:=CK acc (.inr s);show acc.length<=(gQ (fZ acc (.inr s)) ss).length/\(gQ (fZ acc (.inr s)) ss).length<=acc.length+(ss.length+1);omega
theorem vV(s0:Str):∀ss:List Str,((gQ [.inr s0] ss).length > 1) =¬(∀s∈ss,s=s0)
 |[]=>by simp[gQ]
 |s::ss=>by
  by_cases e:s=s0
  ·have:gQ [.inr s0] (s::ss)=gQ [.inr s0] ss:=by show gQ (fZ [.inr s0] (.inr s)) ss=_;unfold fZ;rw[UE (gp.mpr (by rw[e];exact Uh.mpr rfl))]
   rw[this,vV s0 ss];simp[e]
  ·have:gQ [.inr s0] (s::ss)=gQ [.inr s0,.inr s] ss:=by show gQ (fZ [.inr s0] (.inr s)) ss=_;unfold fZ;rw[UD (λz=>e (by have:=Uh.mp (gp.mp z);injection this))];rfl
   have hl:=(pG ss [.inr s0,.inr s]).1;rw[this];simp only[Uz,List.length_nil]at hl;simp[e];omega
theorem zq(ss:List Str):decide ((1:Int)<((gQ [] ss).length:Nat)) = !gS ss:=by
 cases ss with
 |nil=>simp[gQ,gS]
 |cons s ss =>
  have:gQ [] (s::ss)=gQ [.inr s] ss:=by show gQ (fZ [] (.inr s)) ss=_;unfold fZ;rw[UD (λz=>by cases gp.mp z)];rfl
  rw[this];have h:=vV s ss;have e:gS (s::ss)=decide (∀x∈ss,x=s):=by
   unfold gS;rw[Bool.eq_iff_iff,List.all_eq_true,decide_eq_true_eq];constructor
   ·intro z x hx;exact UB (z x (Uc _ hx))
   ·intro z x hx;rcases Uj.mp hx with rfl|hx
    ·exact TY rfl
    ·exact TY (z x hx)
  rw[e,←decide_not,decide_eq_decide];constructor
  ·intro z;have:(gQ [.inr s] ss).length > 1:=by omega
   rwa[h]at this
  ·intro z;rw[←h]at z;omega
theorem zD{ss:List Str}{i:Nat}{s:Str}(h:ss[i]? = some s):gQ [] (ss.take (i+1))=fZ (gQ [] (ss.take i)) (.inr s):=by unfold gQ;rw[take_one h,List.foldl_append];rfl
abbrev j6:Stmt:=top 32
theorem sQ:av ["worker","heads"] ["worker","heads"] (ao j6):=fs
variable{P:Program}{w:World}{K:UX}{mg:Str->Option Value}{base:Heap}
theorem uC{n:Nat}(B:j7 mg)(F:FA K mg "must_fits" j6)
  (iJ:bA bx P w K mg base 1 "sort_of" ["cell"] gv)
  (fz:bA bx P w K mg base 2 "cells_fit" ["cells","column_sort"] i4) :
  bA bx P w K mg base 3 "must_fits" ["worker","heads"] (df n bK (qE λx=>∃c ps,x=.one (.must c ps))):=by
 refine F.ok sQ λf cdv A outer s H vs Q E hr h=>?_;obtain⟨a,l,x,as,hs,rfl,ha,hL,hn,hsm,ho,q⟩:=h;refine⟨_,(bu (bg Dr (wA (N':=["old","new"]) (src:=[none,none]) rfl rfl B.len (bh.lJ (by kernel_rfl)) (cF (aX K (pv 0) ai)) (g:=oJ K 2 (cI (bW 0) (cI (bW 1) oH))) (λcl C s H fp=>(bS rfl (ar (fX (i:=0)) (ar (fX (i:=1)) bw)))) (te:=(kW gv [] E0 (eD (bF 1) kK))) (λcl C s H fp=>(aL (hg:=Hj) iJ hr (aa (i3 1) ah)))) ai) c0
   (ax (aL fz hr (aa (bU (N':=["old","new"]) (src:=[none,none]) rfl (bh.lJ (by kernel_rfl)) (cF (aX K (pv 0) ai)) (g:=(oJ K 2 (cI (bW 0) (cI (bW 1) oH)))) (λcl C s H fp=>(bS rfl (ar (fX (i:=0)) (ar (fX (i:=1)) bw)))) (λcl C s H fp=>bp) (te:=(bF 0)) (λcl C s H fp=>(i3 0))) (aa (aX K (bM K (pv 1) ai) (aQ ck (aX K (pv 0) ai) ai)) ah))))),?_⟩
 obtain⟨⟨c,ps,rfl⟩,hf,hg⟩:=ho;obtain⟨hd,rfl⟩:=cY hn;obtain⟨a0,e0,jQ⟩:=hL.nth (i:=0) rfl;obtain⟨t,bs,h1,hI⟩:=dm.mp ha;have hc:=dU hf (c:=c) (by simp[cZ]);have hz:ps.length<=1000:=hsm;have hg:∀p∈ps,kQ p.1/\kQ p.2:=hg;have hlb:(bs.map V.ref).length=ps.length:=by rw[TZ,hI.len]
 have hls:(ps.map λp=>sW p.2).length=ps.length:=TZ _;refine⟨_,rfl,a,_,2,_,rfl,rfl,aY.of h1,rfl,t,rfl,⟨_,aY.of hI.tup⟩,?_⟩;refine xH (xs:=bs.map V.ref) (λi σ ks H'=>(∃o1 o2,σ=[o1,o2])/\ks=gQ [] ((ps.map λp=>sW p.2).take i)/\H'=H) ⟨⟨none,none,rfl⟩,rfl,rfl⟩ ?_ ?_ ?_ ?_
 ·rintro i σ ks H' hi ⟨_,rfl,_⟩;have:=(pG ((ps.map λp=>sW p.2).take i) []).2;rw[Ut,List.length_nil]at this;exact T8 (show _<=1001 by omega) (by decide)
 ·rintro i σ ks H' _ ⟨_,_,rfl⟩;exact aY.of hI.tup
 ·rintro i v σ ks H' hv ⟨⟨o1,o2,rfl⟩,rfl,rfl⟩;obtain⟨b,p,rfl,ep,hb⟩:=hI.get hv;refine⟨b,_,rfl,aY.of hb,rfl,_,_,rfl,aj ⟨_,_,rfl,aj ⟨rfl,?_⟩⟩⟩;refine⟨_,rfl,p.2,rfl,(hg p (Ub ep)).2,.inr (sW p.2),rfl,⟨_,_,rfl⟩,?_,rfl⟩;rw[zD (by rw[Us,ep];rfl)]
 ·rintro σ ks H' ⟨_,rfl,rfl⟩;rw[hlb,←hls,UI];refine⟨_,_,rfl,rfl,_,rfl,?_⟩;have q:∀Ba,aG H' Ba->Q (.bl (gS (ps.map λp=>sW p.2)&&gW (ps.map λp=>p.1) (bz hd c))) Ba:=q;rw[zq];cases hO:gS (ps.map λp=>sW p.2)with
  |false =>rw[hO]at q;exact dX (q H' (aG.refl _))
  |true =>
   rw[hO]at q;refine cV (bD ⟨_,rfl,a,_,2,_,rfl,rfl,aY.of h1,rfl,t,rfl,⟨_,aY.of hI.tup⟩,λD hD=>?_⟩);refine cX (xs:=bs.map V.ref) (λi σ ys H2=>(∃o1 o2,σ=[o1,o2])/\ys=(ps.take i).map (λp=>p.1)/\ys.length=i/\H2 D=some (.lst ys)/\aG H' H2) ⟨⟨none,none,rfl⟩,rfl,rfl,ae,ag hD _⟩ ?_ ?_ ?_ ?_ ?_
   ·rintro i σ ys H2 _ ⟨_,_,hi,h,_⟩;exact⟨h,UP hi⟩
   ·rintro i σ ys H2 _ ⟨_,_,_,_,sm⟩;exact aY.of (sm _ _ hI.tup)
   ·rw[hlb];exact TV hz (by decide)
   ·rintro i v σ ys H2 hv ⟨⟨o1,o2,rfl⟩,rfl,hi,h,sm⟩;obtain⟨b,p,rfl,ep,hb⟩:=hI.get hv;refine⟨b,_,rfl,aY.of (sm _ _ hb),rfl,_,_,rfl,aj ⟨_,_,rfl,aj ⟨rfl,?_⟩⟩⟩;refine⟨_,rfl,h,⟨_,_,rfl⟩,?_,?_,ae,bo hD sm⟩
    ·rw[take_one ep,T4];rfl
    ·rw[T1,hi];rfl
   ·rintro σ ys H2 ⟨_,rfl,hyl,h,sm⟩;rw[hlb,UI]at h hyl;refine⟨_,rfl,l,_,0,_,rfl,rfl,bj.of (sm _ _ hL.lst),aP (j:=0) e0,_,rfl,a,_,1,_,rfl,rfl,aY.of (sm _ _ h1),rfl,_,_,rfl,rfl,a0,_,_,_,rfl,rfl,aY.of (sm _ _ jQ),fG hc,?_⟩;refine⟨D,_,_,rfl,h,by omega,λv hv=>?_,λH3 s'=>q H3 (sm.trans s')⟩;obtain⟨p,hp,rfl⟩:=Ui.mp hv;exact(hg p hp).1
end My
namespace L2
open PySem PySem.Spec PyProof.Rows
def jd(K:UX)(d:Addr)(key:Str):Prop :=
 (d==sysModules)=false/\∃(es:Array DictEntry)(ep:Nat),K.lookup d=some ⟨.type "dict",none,.dict es ep,#[]⟩/\es.all (λe=>isExactStrKey e.key)=true/\es.findIdx? (λe=>e.key.isStr key)=none
def Ew(K:UX):R2:=λx y H Q=>∃d k,x=.str k/\y=.ref d/\(((∃f,cz K d k f)/\Q (.bl false) H)\/(jd K d k/\Q (.bl true) H))
section
variable{X:Cx}
theorem nE:jl X (compareOp .NotIn) (Ew X.K):=by
 intro ac s σ H x y v u Q I rx ry h;obtain⟨d,k,rfl,rfl,h⟩:=h;cases ry;obtain⟨t,rfl⟩:=rx;rcases h with⟨⟨f,es,ep,i,hx,te,lk,ha,hi,he⟩,q⟩|⟨⟨hd,es,ep,lk,ha,hi⟩,q⟩
 ·have ho:s.heap.get? d=some ⟨.type "dict",none,.dict es ep,#[]⟩:=I.i0 _ _ lk;have hT:s.TypeIs (.ref d) "dict":=⟨_,ho,rfl⟩;have fin:EP X ac σ Q (.bool false) {s with toks:=s.toks+1}:=⟨.bl false,H,I.kept (h':=s.heap) (t':=s.toks+1) λ_ _ e=>e,rfl,q⟩;show wpAny _ _ (do return Value.bool (!(←contains (.ref d) (.str k t)))) (EP X ac σ Q) X.xe s;refine TK (wpAny_contains_slot hT slot_dict_contains (UO slot_dict_contains hT entry_dict_contains ?_ (args_dict_contains _ _)));show wpAny _ _ (dictGet d (.str k t) >>= _) _ _ s;refine TK ?_;unfold dictGet;try with_reducible refine Uw ?_
  refine TK (wpAny_pyHash_str ?_);unfold dictFind;refine TK ?_;try with_reducible refine Uw ?_
  refine TK (wpAny_dictEntries (s:={s with toks:=s.toks+1}) ho rfl ?_);dsimp only;rw[UE ha];unfold foundByValue;rw[hi];dsimp only;rw[he];dsimp only;refine TK (wpAny_dictEpoch (s:={s with toks:=s.toks+1}) ho rfl ?_);refine TK (wpAny_eqBool_str ?_);refine TK (wpAny_dictEpoch (s:={s with toks:=s.toks+1}) ho rfl ?_);rw[UD (by simp),TY rfl];refine TK (wpAny_rule (TM ?_));refine TK (wpAny_dictEntries (s:={s with toks:=s.toks+1}) ho rfl (TM ?_));rw[he];show wpAny _ _ (ret (.bool true)) _ _ _;exact TM ⟨_,rfl,wpAny_truthy_bool (TM fin)⟩
 ·have ho:s.heap.get? d=some ⟨.type "dict",none,.dict es ep,#[]⟩:=I.i0 _ _ lk;have hT:s.TypeIs (.ref d) "dict":=⟨_,ho,rfl⟩;have fin:EP X ac σ Q (.bool true) {s with toks:=s.toks+1}:=⟨.bl true,H,I.kept (h':=s.heap) (t':=s.toks+1) λ_ _ e=>e,rfl,q⟩;show wpAny _ _ (do return Value.bool (!(←contains (.ref d) (.str k t)))) (EP X ac σ Q) X.xe s;refine TK (wpAny_contains_slot hT slot_dict_contains (UO slot_dict_contains hT entry_dict_contains ?_ (args_dict_contains _ _)));show wpAny _ _ (dictGet d (.str k t) >>= _) _ _ s;refine TK ?_;unfold dictGet;try with_reducible refine Uw ?_
  refine TK (wpAny_pyHash_str ?_);unfold dictFind;refine TK ?_;try with_reducible refine Uw ?_
  refine TK (wpAny_dictEntries (s:={s with toks:=s.toks+1}) ho rfl ?_);dsimp only;rw[UE ha];unfold foundByValue;rw[hi];dsimp only;refine TM ?_;show wpAny _ _ (pure none) _ _ _;refine TM ?_;show wpAny _ _ (Builtin.Dict.pendingKey? d _ >>= _) _ _ _;exact TK (wpAny_pendingKey_other hd (TM ⟨_,rfl,wpAny_truthy_bool (TM fin)⟩))
end
end L2
namespace My
open PySem L2
def Hq(P:Program)(w:World)(K:UX)(mg:Str->Option Value)(base:Heap)(aS:Addr)(n:Nat)(x:Wk):Prop :=
 (∃(f:Addr)(fd:FuncData),cz K aS x.nm f/\e7 P w K mg base bx 3 f fd ["worker","heads"] (df n bK (qE λy=>y=x))/\PySem.W.keepIn K (.ref f)=true/\Binds K fd ["worker","heads"] [])\/(jd K aS x.nm/\∀hs,bK x hs=true)
theorem eC{n:Nat}{F:Wk->List Hd->Bool}{k k':Wk->Prop}(h:∀x,k' x->k x):∀vs H Q E,df n F (qE k') vs H Q E->df n F (qE k) vs H Q E:=by rintro vs H Q E ⟨a,l,x,as,hs,h1,h2,h3,h4,h5,⟨h6,h7⟩,h8⟩;exact⟨a,l,x,as,hs,h1,h2,h3,h4,h5,⟨h x h6,h7⟩,h8⟩
variable{P:Program}{w:World}{K:UX}{mg:Str->Option Value}{base:Heap}
theorem A5{n:Nat}{aS:Addr}{f1 f2 f3 f4 f5 f6 f7 f8:Addr}
  (t1:cz K aS "keep" f1) (t2:cz K aS "same" f2) (t3:cz K aS "turn" f3) (t4:cz K aS "must" f4) (t5:cz K aS "walk" f5) (t6:cz K aS "sum" f6) (t7:cz K aS "both" f7) (t8:cz K aS "meet" f8)
  (u1:jd K aS "cut") (u2:jd K aS "sort") (u3:jd K aS "apart") (u4:jd K aS "count") (u5:jd K aS "number") (u6:jd K aS "first")
  (G1:FnAt P w K mg base 1 f1 ["worker","heads"] (df n bK (qE λx=>∃c t,x=.one (.keep c t)))) (G2:FnAt P w K mg base 2 f2 ["worker","heads"] (df n bK (qE λx=>∃c d,x=.one (.same c d)))) (G3:FnAt P w K mg base 3 f3 ["worker","heads"] (df n bK (qE λx=>∃c ps,x=.one (.turn c ps)))) (G4:FnAt P w K mg base 3 f4 ["worker","heads"] (df n bK (qE λx=>∃c ps,x=.one (.must c ps))))
  (G5:FnAt P w K mg base 3 f5 ["worker","heads"] (df n bK (qE λx=>∃c mv,x=.one (.walk c mv)))) (G6:FnAt P w K mg base 1 f6 ["worker","heads"] (df n bK (qE λx=>∃cs c,x=.one (.sum cs c)))) (G7:FnAt P w K mg base 1 f7 ["worker","heads"] (df n bK (qE λx=>∃p q,x=.both p q))) (G8:FnAt P w K mg base 2 f8 ["worker","heads"] (df n bK (qE λx=>∃c d p q,x=.meet c d p q))):∀x,Hq P w K mg base aS n x:=by
 obtain⟨d1,G1,b1,k1⟩:=G1;obtain⟨d2,G2,b2,k2⟩:=G2;obtain⟨d3,G3,b3,k3⟩:=G3;obtain⟨d4,G4,b4,k4⟩:=G4;obtain⟨d5,G5,b5,k5⟩:=G5;obtain⟨d6,G6,b6,k6⟩:=G6;obtain⟨d7,G7,b7,k7⟩:=G7;obtain⟨d8,G8,b8,k8⟩:=G8;intro x;match x with
 | .one (.keep c t)=>exact .inl ⟨f1,d1,t1,(G1.imp (eC λ_ e=>⟨c,t,e⟩)).mono (by omega),k1,b1⟩
 | .one (.same c d)=>exact .inl ⟨f2,d2,t2,(G2.imp (eC λ_ e=>⟨c,d,e⟩)).mono (by omega),k2,b2⟩
 | .one (.turn c ps)=>exact .inl ⟨f3,d3,t3,G3.imp (eC λ_ e=>⟨c,ps,e⟩),k3,b3⟩
 | .one (.must c ps)=>exact .inl ⟨f4,d4,t4,G4.imp (eC λ_ e=>⟨c,ps,e⟩),k4,b4⟩
 | .one (.walk c mv)=>exact .inl ⟨f5,d5,t5,G5.imp (eC λ_ e=>⟨c,mv,e⟩),k5,b5⟩
 | .one (.sum cs c)=>exact .inl ⟨f6,d6,t6,(G6.imp (eC λ_ e=>⟨cs,c,e⟩)).mono (by omega),k6,b6⟩
 | .both p q=>exact .inl ⟨f7,d7,t7,(G7.imp (eC λ_ e=>⟨p,q,e⟩)).mono (by omega),k7,b7⟩
 | .meet c d p q=>exact .inl ⟨f8,d8,t8,(G8.imp (eC λ_ e=>⟨c,d,p,q,e⟩)).mono (by omega),k8,b8⟩
 | .one (.cut _)=>exact .inr ⟨u1,λ_=>rfl⟩
 | .one (.sort _)=>exact .inr ⟨u2,λ_=>rfl⟩
 | .one .apart=>exact .inr ⟨u3,λ_=>rfl⟩
 | .one (.count _)=>exact .inr ⟨u4,λ_=>rfl⟩
 | .one .number=>exact .inr ⟨u5,λ_=>rfl⟩
 | .one (.first _)=>exact .inr ⟨u6,λ_=>rfl⟩
abbrev j_:Stmt:=top 38
theorem lY:av ["worker","heads","fit"] ["worker","heads"] (ao j_):=fs
theorem vJ{n:Nat}{aS:Addr}(mS:mg "SORTS_FIT"=some (.ref aS))(GS:∀x:Wk,Hq P w K mg base aS n x)(F:FA K mg "sorts_fit" j_) :
  bA bx P w K mg base 4 "sorts_fit" ["worker","heads"] (df n bK (qE λ_=>True)):=by
 refine F.ok lY λf cdv A outer s H vs Q E hr h=>?_;obtain⟨a,l,x,as,hs,rfl,ha,hL,hn,hsm,ho,q⟩:=h;refine⟨_,(bu (fR nE (aX K (pv 0) ai) (cu rfl mS (show RelV (.ref aS) (.ref aS) from rfl)) rfl) c0
   (aq (bc (i:=2) lY.nd rfl (UH rfl) (iE (r:=DA K) me (cu rfl mS (show RelV (.ref aS) (.ref aS) from rfl)) (aX K (pv 0) ai) (λ_ _=>rfl)))
   (ax (mK (k:=3) (pv 2) hr rG (aa (pv 0) (aa (pv 1) ah)))))),?_⟩
 obtain⟨xs,h1⟩:=ha.first;obtain⟨_,hf,hg⟩:=ho;refine⟨_,rfl,a,_,0,_,rfl,rfl,aY.of h1,aP (j:=0) rfl,aS,x.nm,rfl,rfl,?_⟩;rcases GS x with⟨g,gd,Ef,FG,kG,bG⟩|⟨hno,he⟩
 ·refine .inl ⟨⟨g,Ef⟩,_,rfl,cV (bD ?_)⟩;refine⟨_,rfl,a,_,0,_,rfl,rfl,aY.of h1,aP (j:=0) rfl,aS,x.nm,g,rfl,rfl,Ef,aj ?_⟩;dsimp only;exact⟨_,rfl,g,gd,_,_,rfl,FG,kG,bG,_,rfl,_,rfl,a,l,x,as,hs,rfl,ha,hL,hn,hsm,⟨rfl,hf,hg⟩,q⟩
 ·refine .inr ⟨hno,_,rfl,dX ?_⟩;have q:=q H (aG.refl _);rw[he hs]at q;exact q
def BH(h:Hd)(cs:List Int):Prop:=∀c∈cs,1<=c/\c<=h.length
def qg:Sp:=λvs H Q _=>∃(a b:Addr)(h:Hd)(cs:List Int),vs=[.ref a,.ref b]/\gD H a h/\H b=some (.tup (cs.map V.int))/\cs.length<=1000/\BH h cs/\∀(u:Addr)(H':Hp),aG H H'->gD H' u (cs.map (bz h))->Q (.ref u) H'
abbrev pD:Stmt:=top 39
theorem AS:av ["head","columns"] ["head","columns"] (ao pD):=fs
theorem Ae(B:j7 mg)(F:FA K mg "picked" pD) :
  bA bx P w K mg base 1 "picked" ["head","columns"] qg:=by
 refine F.ok AS λf cdv A outer s H vs Q E hr h=>?_;have hu:=iH hr;obtain⟨a,b,h,cs,rfl,ha,hb,hz,ht,q⟩:=h;refine⟨_,(ax (bN bt rfl B.tuple UL (aa (bU (N':=["column","head"]) (src:=[none,some 0]) rfl (bh.lJ (by kernel_rfl)) (cF (pv 1)) (λcl C s H fp=>(fX (i:=0))) (λcl C s H fp=>bp) (te:=(fQ (qo K) (bF 1) (fQ (v7 λi j=>V.int (i-j)) (bF 0) (tC (.int 1))))) (λcl C s H fp=>(aX K (ug 1) (aQ ck (i3 0) ai)))) ah))),?_⟩;refine⟨_,rfl,b,rfl,⟨_,aY.of hb⟩,λD hD=>?_⟩;refine cX (xs:=cs.map V.int) (λi σ ys H'=>(∃o,σ=[o,some (.ref a)])/\ys=((cs.take i).map (bz h)).map V.str/\ys.length=i/\H' D=some (.lst ys)/\aG H H') ⟨⟨none,rfl⟩,rfl,rfl,ae,ag hD _⟩ ?_ ?_ ?_ ?_ ?_
 ·rintro i σ ys H' _ ⟨_,_,hi,h,_⟩;exact⟨h,UP hi⟩
 ·rintro i σ ys H' _ ⟨_,_,_,_,sm⟩;exact aY.of (sm _ _ hb)
 ·rw[TZ];exact TV hz (by decide)
 ·rintro i v σ ys H' hv ⟨⟨o,rfl⟩,rfl,hi,hh,sm⟩;rw[Us]at hv;cases ec:cs[i]? with
  |none=>rw[ec]at hv;cases hv
  |some c =>
   rw[ec]at hv;have hv:V.int c=v:=Up hv;subst hv;refine⟨_,rfl,_,rfl,_,_,rfl,rfl,a,_,_,_,rfl,rfl,aY.of (sm _ _ ha),fG (ht c (Ub ec)),hh,⟨_,rfl⟩,?_,?_,ae,bo hD sm⟩
   ·rw[take_one ec,T4,T4];rfl
   ·rw[T1,hi];rfl
 ·rintro σ ys H' ⟨_,rfl,_,hh,sm⟩;rw[TZ,UI]at hh;exact⟨D,_,rfl,.inl ⟨bj.of hh,λu hu=>q u _ (sm.trans (ag hu _)) ae⟩⟩
theorem yN{ts:List Str}{c:Int}(h1:1<=c)(h2:c<=ts.length):e6 (ts.map V.str) none (some (c-1))=(ts.take (c-1).toNat).map V.str:=by have:=pQ (xs:=ts.map V.str) (n:=(c-1).toNat) (by rw[TZ];omega);rw[show(((c-1).toNat:Nat):Int)=c-1 by omega]at this;rw[this,List.map_take]
theorem r_{ts:List Str}{c:Int}(h1:1<=c)(h2:c<=ts.length):e6 (ts.map V.str) (some c) none=(ts.drop c.toNat).map V.str:=by have:=pV (xs:=ts.map V.str) (n:=c.toNat) (by rw[TZ];omega);rw[show((c.toNat:Nat):Int)=c by omega]at this;rw[this,List.map_drop]
def bf:Wk->List Hd->Hd
 | .one (.cut cs),hs=>cs.map (bz (hs.headD []))
 | .one (.must c ps),hs=>(hs.headD []).take (c-1).toNat++(ps.take 1).map (λp=>sW p.2)++(hs.headD []).drop c.toNat
 | .one (.walk _ _),hs=>hs.headD []++(["w"]:Hd)
 | .one (.count cs),hs=>cs.map (bz (hs.headD []))++(["t"]:Hd)
 | .one (.sum cs _),hs=>cs.map (bz (hs.headD []))++(["t"]:Hd)
 | .one .number,hs=>hs.headD []++(["t"]:Hd)
 | .meet _ d _ _,hs=>hs.headD []++(hs.getD 1 []).take (d-1).toNat++(hs.getD 1 []).drop d.toNat
 |_,hs=>hs.headD []
def Ot:Wk->Prop
 | .one (.must _ ps)=>ps≠[]
 |_=>True
structure NC(k:Wk->Prop)(x:Wk)(hs:List Hd):Prop where
 k:k x
 fit:eQ x hs=true
 good:goodW x
 ne:Ot x
 sm:∀h∈hs,h.length<=1000
def c6(n:Nat)(k:Wk->Prop):Sp:=λvs H Q _=>∃(a l:Addr)(x:Wk)(as:List Addr)(hs:List Hd),vs=[.ref a,.ref l]/\gN n H a x/\mw H l as hs/\hs.length=B4 x/\pM x/\NC k x hs/\∀u H',aG H H'->gD H' u (bf x hs)->Q (.ref u) H'
theorem lD{a b:Addr}{xs ys:Hd}{H:Hp}{Q:VK}(h1:gD H a xs)(h2:gD H b ys)(hz:xs.length+ys.length<=100000)(q:∀t H',aG H H'->gD H' t (xs++ys)->Q (.ref t) H'):Dd (.ref a) (.ref b) H Q :=
 ⟨a,b,_,_,rfl,rfl,h1,h2,by rw[TZ,TZ];exact TV hz (by decide),λt H' s' ht=>q t H' s' (by rw[gD,T4];exact ht)⟩
abbrev gm:Stmt:=top 42
theorem oE:av ["worker","heads"] ["worker","heads"] (ao gm):=fs
theorem Dv{n:Nat}(F:FA K mg "head_of_walk" gm) :
  bA bx P w K mg base 1 "head_of_walk" ["worker","heads"] (c6 n (λx=>∃c mv,x=.one (.walk c mv))):=by
 refine F.ok oE λf cdv A outer s H vs Q E hr h=>?_;have hu:=iH hr;obtain⟨a,l,x,as,hs,rfl,ha,hL,hn,hsm,ho,q⟩:=h;refine⟨_,(ax (aQ cq (bM K (pv 1) ai) (aW (aa au ah)))),?_⟩;obtain⟨c,mv,rfl⟩:=ho.k;obtain⟨hd,rfl⟩:=cY hn;obtain⟨a0,e0,jQ⟩:=hL.nth (i:=0) rfl;have hz:=ho.sm hd (by simp);refine⟨_,rfl,l,_,0,_,rfl,rfl,bj.of hL.lst,aP (j:=0) e0,cN,λu hu=>?_⟩;have su:=ag hu (.tup [.str "w"]);exact lD (ys:=["w"]) (su _ _ jQ) ae (by show _+1<=_;omega) λt H' s' ht=>q t H' (su.trans s') ht
abbrev ft:Stmt:=top 44
theorem lX:av ["worker","heads"] ["worker","heads"] (ao ft):=fs
theorem ye{n:Nat}{tk:Tok}(mT:mg "TALLY"=some (.str "t" tk))(F:FA K mg "head_of_number" ft) :
  bA bx P w K mg base 1 "head_of_number" ["worker","heads"] (c6 n (λx=>x=.one .number)):=by
 refine F.ok lX λf cdv A outer s H vs Q E hr h=>?_;have hu:=iH hr;obtain⟨a,l,x,as,hs,rfl,ha,hL,hn,hsm,ho,q⟩:=h;refine⟨_,(ax (aQ cq (bM K (pv 1) ai) (aW (aa (cu (v:=.str "t") rfl mT ⟨_,rfl⟩) ah)))),?_⟩;cases ho.k;obtain⟨hd,rfl⟩:=cY hn;obtain⟨a0,e0,jQ⟩:=hL.nth (i:=0) rfl;have hz:=ho.sm hd (by simp);refine⟨_,rfl,l,_,0,_,rfl,rfl,bj.of hL.lst,aP (j:=0) e0,cN,λu hu=>?_⟩;have su:=ag hu (.tup [.str "t"]);exact lD (ys:=["t"]) (su _ _ jQ) ae (by show _+1<=_;omega) λt H' s' ht=>q t H' (su.trans s') ht
abbrev ik:Stmt:=top 40
theorem pC:av ["worker","heads"] ["worker","heads"] (ao ik):=fs
theorem FU{n:Nat}(F:FA K mg "head_of_cut" ik)
  (qv:bA bx P w K mg base 1 "picked" ["head","columns"] qg) :
  bA bx P w K mg base 2 "head_of_cut" ["worker","heads"] (c6 n (λx=>∃cs,x=.one (.cut cs))):=by
 refine F.ok pC λf cdv A outer s H vs Q E hr h=>?_;obtain⟨a,l,x,as,hs,rfl,ha,hL,hn,hsm,ho,q⟩:=h;refine⟨_,(ax (aL qv hr (aa (bM K (pv 1) ai) (aa (aX K (pv 0) ai) ah)))),?_⟩;obtain⟨cs,rfl⟩:=ho.k;obtain⟨hd,rfl⟩:=cY hn;obtain⟨a0,e0,jQ⟩:=hL.nth (i:=0) rfl;obtain⟨t,h1,h2⟩:=dm.mp ha;exact⟨_,rfl,l,_,0,_,rfl,rfl,bj.of hL.lst,aP (j:=0) e0,_,rfl,a,_,1,_,rfl,rfl,aY.of h1,rfl,a0,t,hd,cs,rfl,jQ,h2,hsm,λc hc=>dU ho.fit hc,q⟩
abbrev eI:Stmt:=top 43
theorem lj:av ["worker","heads"] ["worker","heads"] (ao eI):=fs
theorem C4{n:Nat}{tk:Tok}(mT:mg "TALLY"=some (.str "t" tk))(F:FA K mg "head_of_tallied" eI)
  (qv:bA bx P w K mg base 1 "picked" ["head","columns"] qg) :
  bA bx P w K mg base 2 "head_of_tallied" ["worker","heads"] (c6 n (λx=>∃cs,x=.one (.count cs)\/∃c,x=.one (.sum cs c))):=by
 refine F.ok lj λf cdv A outer s H vs Q E hr h=>?_;have hu:=iH hr;have hu1:=kS hr;obtain⟨a,l,x,as,hs,rfl,ha,hL,hn,hsm,ho,q⟩:=h;refine⟨_,(ax (aQ cq (aL qv hr (aa (bM K (pv 1) ai) (aa (aX K (pv 0) ai) ah))) (aW (aa (cu (v:=.str "t") rfl mT ⟨_,rfl⟩) ah)))),?_⟩;have key:∃(cs:List Int)(hd:Hd)(t y:Addr)(v:V)(vs:List V),hs=[hd]/\H a=some (.tup (v :: .ref t::vs))/\H t=some (.tup (cs.map V.int))/\cs.length<=1000/\BH hd cs/\bf x hs=cs.map (bz hd)++(["t"]:Hd):=by
  obtain⟨cs,rfl|⟨c,rfl⟩⟩:=ho.k
  ·obtain⟨hd,rfl⟩:=cY hn;obtain⟨t,h1,h2⟩:=dm.mp ha;exact⟨cs,hd,t,t,_,_,rfl,h1,h2,hsm,λc hc=>dU ho.fit hc,rfl⟩
  ·obtain⟨hd,rfl⟩:=cY hn;obtain⟨t,h1,h2⟩:=dm.mp ha;exact⟨cs,hd,t,t,_,_,rfl,h1,h2,hsm,λc hc=>dU ho.fit (List.mem_append_left _ hc),rfl⟩
 obtain⟨cs,hd,t,_,v,vs,rfl,h1,h2,hz,hth,eh⟩:=key;obtain⟨a0,e0,jQ⟩:=hL.nth (i:=0) rfl;refine⟨_,rfl,l,_,0,_,rfl,rfl,bj.of hL.lst,aP (j:=0) e0,_,rfl,a,_,1,_,rfl,rfl,aY.of h1,aP (j:=1) rfl,a0,t,hd,cs,rfl,jQ,h2,hz,hth,λu1 H1 s1 hu1=>?_⟩;refine⟨cN,λu hu=>?_⟩;have su:=ag hu (.tup [.str "t"]);refine lD (ys:=["t"]) (su _ _ hu1) ae ?_ λt' H' s' ht=>q t' H' (s1.trans (su.trans s')) (by rw[eh];exact ht);rw[TZ];show _+1<=_;omega
abbrev gq:Stmt:=top 45
theorem oF:av ["worker","heads"] ["worker","heads"] (ao gq):=fs
theorem Br{n:Nat}(F:FA K mg "head_of_meet" gq) :
  bA bx P w K mg base 1 "head_of_meet" ["worker","heads"] (c6 n (λx=>∃c d p q,x=.meet c d p q)):=by
 refine F.ok oF λf cdv A outer s H vs Q E hr h=>?_;obtain⟨a,l,x,as,hs,rfl,ha,hL,hn,hsm,ho,q⟩:=h;refine⟨_,(ax (aQ cq (aQ cq (bM K (pv 1) ai) (cR eV (bM K (pv 1) ai) eL (cU (aQ ck (aX K (pv 0) ai) ai)))) (cR eV (bM K (pv 1) ai) (cU (aX K (pv 0) ai)) eL))),?_⟩;obtain⟨c,d,p,q',rfl⟩:=ho.k;obtain⟨h0,h2,rfl⟩:=kh hn;obtain⟨a0,e0,jQ⟩:=hL.nth (i:=0) rfl;obtain⟨a1,e1,GK⟩:=hL.nth (i:=1) rfl;have hz0:=ho.sm h0 (by simp);have hz1:=ho.sm h2 (by simp);have hf:(there c h0&&there d h2)=true:=ho.fit;rw[UA]at hf;obtain⟨d1,d2⟩:=kz hf.2;cases n with
 |zero=>exact UJ ha
 |succ n =>
 obtain⟨b,e,bs,es,h1,_⟩:=ha;refine⟨_,rfl,l,_,0,_,rfl,rfl,bj.of hL.lst,aP (j:=0) e0,_,rfl,l,_,1,_,rfl,rfl,bj.of hL.lst,aP (j:=1) e1,?_⟩;refine⟨_,rfl,a,_,2,_,rfl,rfl,aY.of h1,rfl,_,_,rfl,rfl,_,rfl,a1,_,rfl,GK,λt1 H1 s1 ht1=>?_⟩;rw[yN d1 d2]at ht1;refine lD (s1 _ _ jQ) ht1 (by rw[Ut];omega) λt2 H2 s2 sD=>?_;have s12:=s1.trans s2;refine⟨_,rfl,l,_,1,_,rfl,rfl,bj.of (s12 _ _ hL.lst),aP (j:=1) e1,_,rfl,a,_,2,_,rfl,rfl,aY.of (s12 _ _ h1),rfl,_,rfl,a1,_,rfl,s12 _ _ GK,λt3 H3 s3 LM=>?_⟩;rw[r_ d1 d2]at LM;refine lD (s3 _ _ sD) LM (by rw[T1,Ut,List.length_drop];omega) λt4 H4 s4 Og=>q t4 H4 (s12.trans (s3.trans s4)) Og
abbrev gi:Stmt:=top 41
theorem fJ:av ["worker","heads","column","pairs","told"] ["worker","heads"] (ao gi):=fs
theorem D1{n:Nat}(B:j7 mg)(F:FA K mg "head_of_must" gi)
  (iJ:bA bx P w K mg base 1 "sort_of" ["cell"] gv) :
  bA bx P w K mg base 2 "head_of_must" ["worker","heads"] (c6 n (λx=>∃c ps,x=.one (.must c ps))):=by
 refine F.ok fJ λf cdv A outer s H vs Q E hr h=>?_;have hu:=iH hr;obtain⟨a,l,x,as,hs,rfl,ha,hL,hn,hsm,ho,q⟩:=h;refine⟨_,(aq (BM (i:=2) (j:=3) rfl fJ.nd rfl rfl (by decide) rfl rfl (aa (aX K (pv 0) ai) (aa (aX K (pv 0) ai) ah)) rfl)
   (aq (fo (i:=4) (N':=["old","new"]) (src:=[none,none]) fJ.nd rfl (UH rfl) rfl rfl (bh.lJ (by kernel_rfl)) (cF (cR eV (pv 3) eL (cU ai))) (g:=(oJ K 2 (cI (bW 0) (cI (bW 1) oH)))) (λcl C s H fp=>(bS rfl (ar (fX (i:=0)) (ar (fX (i:=1)) bw)))) (λcl C s H fp=>bp) (te:=(kW gv [] E0 (eD (bF 1) kK))) (λcl C s H fp=>(aL (hg:=Hj) iJ hr (aa (i3 1) ah))))
   (ax (aQ cq (aQ cq (cR eV (bM K (pv 1) ai) eL (cU (aQ ck (pv 2) ai))) (IX (bN bt rfl B.tuple UL (aa (pv 4) ah)) (cR eV (bM K (pv 1) ai) (cU (aQ ck (pv 2) ai)) (cU (pv 2))))) (cR eV (bM K (pv 1) ai) (cU (pv 2)) eL))))),?_⟩
 obtain⟨c,ps,rfl⟩:=ho.k;obtain⟨hd,rfl⟩:=cY hn;obtain⟨a0,e0,jQ⟩:=hL.nth (i:=0) rfl;obtain⟨t,bs,h1,hI⟩:=dm.mp ha;obtain⟨c1,c2⟩:=dU ho.fit (c:=c) (by simp[cZ]);have hz:=ho.sm hd (by simp);have hne:ps≠[]:=ho.ne;have hg:∀p∈ps,kQ p.1/\kQ p.2:=ho.good;have NB:e6 (bs.map V.ref) none (some 1)=(bs.take 1).map V.ref:=by have e:=pQ (xs:=bs.map V.ref) (n:=1) (by rw[TZ,hI.len];cases ps with|nil=>exact UC rfl hne|cons _ _=>simp);rw[List.map_take];exact e
 refine⟨_,rfl,a,_,1,_,rfl,rfl,aY.of h1,rfl,_,rfl,a,_,2,_,rfl,rfl,aY.of h1,rfl,_,_,rfl,?_⟩;dsimp only;refine⟨_,rfl,_,rfl,t,_,rfl,hI.tup,λt1 H1 s1 ht1=>?_⟩;rw[NB]at ht1;refine⟨t1,rfl,⟨_,aY.of ht1⟩,λD hD=>?_⟩;have hl1:((bs.take 1).map V.ref).length=1:=by rw[TZ,Ut,hI.len];cases ps with|nil=>exact UC rfl hne|cons _ _=>simp
 refine cX (xs:=(bs.take 1).map V.ref) (λi σ ys H'=>(∃o1 o2,σ=[o1,o2])/\ys=((ps.take i).map λp=>sW p.2).map V.str/\ys.length=i/\H' D=some (.lst ys)/\aG H1 H') ⟨⟨none,none,rfl⟩,rfl,rfl,ae,ag hD _⟩ ?_ ?_ ?_ ?_ ?_
 ·rintro i σ ys H' _ ⟨_,_,hi,h,_⟩;exact⟨h,UP hi⟩
 ·rintro i σ ys H' _ ⟨_,_,_,_,sm⟩;exact aY.of (sm _ _ ht1)
 ·rw[hl1];decide
 ·rintro i v σ ys H' hv ⟨⟨o1,o2,rfl⟩,rfl,hi,h,sm⟩;have hv':(bs.map V.ref)[i]? = some v:=by
   rw[List.map_take,List.getElem?_take]at hv;split at hv
   ·exact hv
   ·cases hv
  obtain⟨b,p,rfl,ep,hb⟩:=hI.get hv';refine⟨b,_,rfl,aY.of (sm _ _ (s1 _ _ hb)),rfl,_,_,rfl,aj ⟨_,_,rfl,aj ⟨rfl,?_⟩⟩⟩;refine⟨_,rfl,p.2,rfl,(hg p (Ub ep)).2,h,⟨_,_,rfl⟩,?_,?_,ae,bo hD sm⟩
  ·rw[take_one ep,T4,T4];rfl
  ·rw[T1,hi];rfl
 ·rintro σ ys H' ⟨_,rfl,hi,h,sm⟩;rw[hl1]at h hi;have s2:=s1.trans sm;refine aj ?_;dsimp only;refine⟨_,rfl,l,_,0,_,rfl,rfl,bj.of (s2 _ _ hL.lst),aP (j:=0) e0,_,rfl,_,_,rfl,rfl,_,rfl,a0,_,rfl,s2 _ _ jQ,λt3 H3 s3 LM=>?_⟩;rw[yN c1 c2]at LM;refine⟨_,rfl,D,_,rfl,.inl ⟨bj.of (s3 _ _ h),λu hu=>⟨true,.inr (.inl ⟨_,aY.of ae,?_⟩),dX ?_⟩⟩⟩
  ·cases ps with|nil=>exact UC rfl hne|cons _ _=>rfl
  have su:=ag hu (.tup (((ps.take 1).map λp=>sW p.2).map V.str));refine lD (su _ _ LM) ae (by rw[Ut,TZ,Ut];omega) λt4 H4 s4 Og=>?_;have s5:=s2.trans (s3.trans (su.trans s4));refine⟨_,rfl,l,_,0,_,rfl,rfl,bj.of (s5 _ _ hL.lst),aP (j:=0) e0,_,rfl,_,rfl,a0,_,rfl,s5 _ _ jQ,λt6 H6 s6 AM=>?_⟩;rw[r_ c1 c2]at AM;refine lD (s6 _ _ Og) AM (by rw[T1,Ut,TZ,Ut,List.length_drop];omega) λt7 H7 s7 Oi=>q t7 H7 (s5.trans (s6.trans s7)) Oi
def D9(P:Program)(w:World)(K:UX)(mg:Str->Option Value)(base:Heap)(aT:Addr)(n:Nat)(x:Wk):Prop :=
 (∃(f:Addr)(fd:FuncData),cz K aT x.nm f/\e7 P w K mg base bx 2 f fd ["worker","heads"] (c6 n λy=>y=x)/\PySem.W.keepIn K (.ref f)=true/\Binds K fd ["worker","heads"] [])\/(jd K aT x.nm/\∀hs,bf x hs=hs.headD [])
theorem dW{n:Nat}{k k':Wk->Prop}(h:∀x,k' x->k x):∀vs H Q E,c6 n k' vs H Q E->c6 n k vs H Q E:=by rintro vs H Q E ⟨a,l,x,as,hs,h1,h2,h3,h4,h5,⟨h6,h7,h8,h9,h10⟩,h11⟩;exact⟨a,l,x,as,hs,h1,h2,h3,h4,h5,⟨h x h6,h7,h8,h9,h10⟩,h11⟩
theorem wg{n:Nat}{aT:Addr}{f1 f2 f3 f4 f5 f6:Addr}
  (t1:cz K aT "cut" f1) (t2:cz K aT "must" f2) (t3:cz K aT "walk" f3) (t4:cz K aT "count" f4) (RV:cz K aT "sum" f4) (t5:cz K aT "number" f5) (t6:cz K aT "meet" f6)
  (u1:jd K aT "keep") (u2:jd K aT "same") (u3:jd K aT "turn") (u4:jd K aT "sort") (u5:jd K aT "apart") (u6:jd K aT "first") (u7:jd K aT "both")
  (G1:FnAt P w K mg base 2 f1 ["worker","heads"] (c6 n λx=>∃cs,x=.one (.cut cs))) (G2:FnAt P w K mg base 2 f2 ["worker","heads"] (c6 n λx=>∃c ps,x=.one (.must c ps))) (G3:FnAt P w K mg base 1 f3 ["worker","heads"] (c6 n λx=>∃c mv,x=.one (.walk c mv))) (G4:FnAt P w K mg base 2 f4 ["worker","heads"] (c6 n λx=>∃cs,x=.one (.count cs)\/∃c,x=.one (.sum cs c)))
  (G5:FnAt P w K mg base 1 f5 ["worker","heads"] (c6 n λx=>x=.one .number)) (G6:FnAt P w K mg base 1 f6 ["worker","heads"] (c6 n λx=>∃c d p q,x=.meet c d p q)):∀x,D9 P w K mg base aT n x:=by
 obtain⟨d1,G1,b1,k1⟩:=G1;obtain⟨d2,G2,b2,k2⟩:=G2;obtain⟨d3,G3,b3,k3⟩:=G3;obtain⟨d4,G4,b4,k4⟩:=G4;obtain⟨d5,G5,b5,k5⟩:=G5;obtain⟨d6,G6,b6,k6⟩:=G6;intro x;match x with
 | .one (.cut cs)=>exact .inl ⟨f1,d1,t1,G1.imp (dW λ_ e=>⟨cs,e⟩),k1,b1⟩
 | .one (.must c ps)=>exact .inl ⟨f2,d2,t2,G2.imp (dW λ_ e=>⟨c,ps,e⟩),k2,b2⟩
 | .one (.walk c mv)=>exact .inl ⟨f3,d3,t3,(G3.imp (dW λ_ e=>⟨c,mv,e⟩)).mono (by omega),k3,b3⟩
 | .one (.count cs)=>exact .inl ⟨f4,d4,t4,G4.imp (dW λ_ e=>⟨cs,.inl e⟩),k4,b4⟩
 | .one (.sum cs c)=>exact .inl ⟨f4,d4,RV,G4.imp (dW λ_ e=>⟨cs,.inr ⟨c,e⟩⟩),k4,b4⟩
 | .one .number=>exact .inl ⟨f5,d5,t5,(G5.imp (dW λ_ e=>e)).mono (by omega),k5,b5⟩
 | .meet c d p q=>exact .inl ⟨f6,d6,t6,(G6.imp (dW λ_ e=>⟨c,d,p,q,e⟩)).mono (by omega),k6,b6⟩
 | .one (.keep _ _)=>exact .inr ⟨u1,λ_=>rfl⟩
 | .one (.same _ _)=>exact .inr ⟨u2,λ_=>rfl⟩
 | .one (.turn _ _)=>exact .inr ⟨u3,λ_=>rfl⟩
 | .one (.sort _)=>exact .inr ⟨u4,λ_=>rfl⟩
 | .one .apart=>exact .inr ⟨u5,λ_=>rfl⟩
 | .one (.first _)=>exact .inr ⟨u6,λ_=>rfl⟩
 | .both _ _=>exact .inr ⟨u7,λ_=>rfl⟩
theorem BW{x:Wk}{hs:List Hd}(hn:hs.length=B4 x):∃h0,hs[0]? = some h0/\hs.headD []=h0:=by
 cases hs with
 |nil=>cases x<;>cases hn
 |cons h0 r=>exact⟨h0,rfl,rfl⟩
abbrev jy:Stmt:=top 47
theorem l3:av ["worker","heads","head_of_told"] ["worker","heads"] (ao jy):=fs
theorem vP{n:Nat}{aT:Addr}(mH:mg "HEADS_TOLD"=some (.ref aT))(GH:∀x:Wk,D9 P w K mg base aT n x)(F:FA K mg "head_told" jy) :
  bA bx P w K mg base 3 "head_told" ["worker","heads"] (c6 n (λ_=>True)):=by
 refine F.ok l3 λf cdv A outer s H vs Q E hr h=>?_;obtain⟨a,l,x,as,hs,rfl,ha,hL,hn,hsm,ho,q⟩:=h;refine⟨_,(bu (fR nE (aX K (pv 0) ai) (cu rfl mH (show RelV (.ref aT) (.ref aT) from rfl)) rfl) (bM K (pv 1) ai)
   (aq (bc (i:=2) l3.nd rfl (UH rfl) (iE (r:=DA K) me (cu rfl mH (show RelV (.ref aT) (.ref aT) from rfl)) (aX K (pv 0) ai) (λ_ _=>rfl)))
   (ax (mK (k:=2) (pv 2) hr rG (aa (pv 0) (aa (pv 1) ah)))))),?_⟩
 obtain⟨xs,h1⟩:=ha.first;refine⟨_,rfl,a,_,0,_,rfl,rfl,aY.of h1,aP (j:=0) rfl,aT,x.nm,rfl,rfl,?_⟩;rcases GH x with⟨g,gd,Ef,FG,kG,bG⟩|⟨hno,he⟩
 ·refine .inl ⟨⟨g,Ef⟩,_,rfl,cV (bD ?_)⟩;refine⟨_,rfl,a,_,0,_,rfl,rfl,aY.of h1,aP (j:=0) rfl,aT,x.nm,g,rfl,rfl,Ef,aj ?_⟩;dsimp only;exact⟨_,rfl,g,gd,_,_,rfl,FG,kG,bG,_,rfl,_,rfl,a,l,x,as,hs,rfl,ha,hL,hn,hsm,⟨rfl,ho.fit,ho.good,ho.ne,ho.sm⟩,q⟩
 ·refine .inr ⟨hno,_,rfl,dX ?_⟩;obtain⟨h0,e0,eh⟩:=BW hn;obtain⟨a0,e0,jQ⟩:=hL.nth e0;refine⟨_,rfl,l,_,0,_,rfl,rfl,bj.of hL.lst,aP (j:=0) e0,q a0 H (aG.refl _) ?_⟩;rw[he hs,eh];exact jQ
def gj:Wk->List (List Wk)
 | .one _=>[]
 | .both p q=>[p,q]
 | .meet _ _ p q=>[p,q]
def yv(n:Nat):Sp:=λvs H Q _=>∃(a:Addr)(x:Wk),vs=[.ref a]/\gN n H a x/\∀(u:Addr)(bs:List Addr)(H':Hp),aG H H'->bE (l_ (n-1)) H' u bs (gj x)->Q (.ref u) H'
def Mo:List V:=[.str "both",.str "meet"]
def Cy:List V:=[.str "keep",.str "same",.str "cut",.str "turn",.str "must"]
structure Ez(K:UX)(mg:Str->Option Value)(nm:Str)(a:Addr)(vs:List V):Prop where
 m:mg nm=some (.ref a)
 t:∀H,aY K H a vs
theorem yB{x y:Str}:FC (.str x) (.str y)=decide (y=x):=by
 show(x==y)=_;by_cases h:x=y
 ·rw[h];simp
 ·rw[TX (λe=>h e.symm)];exact beq_false_of_ne h
def fF:Wk->Bool
 | .one _=>false
 |_=>true
def cP(s:Str):Bool:=inV (.str s) Cy
theorem Lg{x:Wk}:inV (.str x.nm) Mo=fF x:=by
 cases x with
 |one x=>cases x<;>(simp only[Wk.nm,W1.nm,fF];decide +kernel)
 |both p q=>simp only[Wk.nm,fF];decide +kernel
 |meet c d p q=>simp only[Wk.nm,fF];decide +kernel
theorem vx{us:List V}{a b:V}:e6 (us++[a,b]) (some (-2)) none=[a,b]:=by
 unfold e6 HT.dy;have hl:(us++[a,b]).length=us.length+2:=by simp
 rw[hl];show List.take (us.length+2-(if(-2:Int)<0 then((-2:Int)+((us.length+2:Nat):Int)).toNat else _)) (List.drop (if(-2:Int)<0 then((-2:Int)+((us.length+2:Nat):Int)).toNat else _) (us++[a,b]))=_;rw[UE (by decide)];have:((-2:Int)+((us.length+2:Nat):Int)).toNat=us.length:=by omega
 rw[this,List.drop_left];simp
abbrev iu:Stmt:=top 2
theorem qb:av ["worker"] ["worker"] (ao iu):=fs
theorem JR{n:Nat}{aB:Addr}(Cb:Ez K mg "BRANCHED" aB Mo)(F:FA K mg "branches_of" iu) :
  bA bx P w K mg base 1 "branches_of" ["worker"] (yv n):=by
 refine F.ok qb λf cdv A outer s H vs Q E hr h=>?_;obtain⟨a,x,rfl,ha,q⟩:=h;refine⟨_,(ax (mq (fR ez (aX K (pv 0) ai) (cu (v:=.ref aB) rfl Cb.m rfl) rfl) (cR eV (pv 0) (cU (Di xY ai)) eL) (aW ah))),?_⟩;obtain⟨xs,h1⟩:=ha.first;refine⟨_,rfl,a,_,0,_,rfl,rfl,aY.of h1,aP (j:=0) rfl,aB,Mo,rfl,.inr (Cb.t _),rfl,rfl,_,rfl,?_⟩;show if inV (.str x.nm) Mo=true then _ else _
 rw[Lg];cases x with
 |one x =>refine cV ⟨m_,λp hp=>q p [] _ (ag hp _) ⟨ae,rfl,λi a x e=>by cases e⟩⟩
 |both p q' =>
  cases n with
  |zero=>exact UJ ha
  |succ n =>
  obtain⟨b,c,bs,cs,h1,h2,h3⟩:=ha;refine dX ⟨_,rfl,_,rfl,_,rfl,a,_,rfl,h1,λt H' s' ht=>?_⟩;rw[show [V.str "both",.ref b,.ref c]=[V.str "both"]++[.ref b,.ref c] from rfl,vx]at ht;refine q t [b,c] H' s' ⟨ht,rfl,λi a x e1 e2=>?_⟩;have k:=aJ.of s';match i with
  | 0=>cases e1;cases e2;exact l_.keep k ⟨bs,h2⟩
  | 1=>cases e1;cases e2;exact l_.keep k ⟨cs,h3⟩
  |i+2=>cases e1
 |meet c d p q' =>
  cases n with
  |zero=>exact UJ ha
  |succ n =>
  obtain⟨b,e,bs,es,h1,h2,h3⟩:=ha;refine dX ⟨_,rfl,_,rfl,_,rfl,a,_,rfl,h1,λt H' s' ht=>?_⟩;rw[show [V.str "meet",.int c,.int d,.ref b,.ref e]=[V.str "meet",.int c,.int d]++[.ref b,.ref e] from rfl,vx]at ht;refine q t [b,e] H' s' ⟨ht,rfl,λi a x e1 e2=>?_⟩;have k:=aJ.of s';match i with
  | 0=>cases e1;cases e2;exact l_.keep k ⟨bs,h2⟩
  | 1=>cases e1;cases e2;exact l_.keep k ⟨es,h3⟩
  |i+2=>cases e1
def bb:Wk->Str
 | .one (.first n)=>if n<=0 then "first 0" else "first"
 |x=>x.nm
def xR(n:Nat):Sp:=λvs H Q _=>∃(a:Addr)(x:Wk),vs=[.ref a]/\gN n H a x/\Q (.str (bb x)) H
theorem vo{x:Wk}(h:x.nm="first"):∃n,x=.one (.first n):=by
 revert h;cases x with
 |one x=>cases x<;>simp only[Wk.nm,W1.nm]<;>first | (intro h;exact⟨_,rfl⟩) | (intro h;exact UC h (by decide +kernel))
 |both p q=>simp only[Wk.nm];intro h;exact UC h (by decide +kernel)
 |meet c d p q=>simp only[Wk.nm];intro h;exact UC h (by decide +kernel)
theorem vq{x:Wk}(h:x.nm≠"first"):bb x=x.nm:=by
 cases x with
 |one x=>cases x<;>first|rfl|exact UC rfl h
 |both p q=>rfl
 |meet c d p q=>rfl
abbrev il:Stmt:=top 48
theorem qB:av ["worker"] ["worker"] (ao il):=fs
theorem FI{n:Nat}(F:FA K mg "name_passed" il) :
  bA bx P w K mg base 1 "name_passed" ["worker"] (xR n):=by
 refine F.ok qB λf cdv A outer s H vs Q E hr h=>?_;obtain⟨a,x,rfl,ha,q⟩:=h;refine⟨_,(bu (PW.pt (ix (bg bO (aX K (pv 0) ai) au) (gX (bg Cz (aX K (pv 0) ai) ai)))) au
   (ax (aX K (pv 0) ai))),?_⟩
 obtain⟨xs,h1⟩:=ha.first;refine⟨_,rfl,a,_,0,_,rfl,rfl,aY.of h1,aP (j:=0) rfl,rfl,_,rfl,?_⟩;rw[f9];by_cases e:x.nm="first"
 ·rw[TY e];obtain⟨m,rfl⟩:=vo e;have h1:H a=some (.tup [.str "first",.int m]):=dm.mp ha;refine dX ⟨_,rfl,a,_,1,_,rfl,rfl,aY.of h1,rfl,_,_,rfl,rfl,_,rfl,?_⟩;have q:Q (.str (if m<=0 then "first 0" else "first")) H:=q;refine fw (λk=>?_) (λk=>bD ?_)
  ·rw[UE (UB k)]at q;exact q
  ·rw[UD (λz=>k (TY z))]at q;exact⟨_,rfl,a,_,0,_,rfl,rfl,aY.of h1,rfl,q⟩
 ·rw[TX e];rw[vq e]at q;exact cV (cV (bD ⟨_,rfl,a,_,0,_,rfl,rfl,aY.of h1,aP (j:=0) rfl,q⟩))
structure Kn where
 hd:Hd
 ps:List Str
 lo:Bool
def gO(H:Hp)(a:Addr)(k:Kn):Prop:=∃h p,H a=some (.tup [.ref h,.ref p,.bl k.lo])/\gD H h k.hd/\gD H p k.ps
theorem gO.same{H H':Hp}{a:Addr}{k:Kn}(s:aG H H')(h:gO H a k):gO H' a k:=by obtain⟨u,p,h1,h2,h3⟩:=h;exact⟨u,p,s _ _ h1,s _ _ h2,s _ _ h3⟩
def ky:Wk->List Str->Bool
 | .one (.walk _ _),ps=>ps.all cP
 | .meet _ _ p q,_=>(p++q).all λw=>cP w.nm
 |_,_=>true
def Hk(x:Wk):Prop:=∀p∈gj x,p.length<=1000
def Dj(n:Nat):Sp:=λvs H Q _=>∃(a b:Addr)(x:Wk)(k:Kn),vs=[.ref a,.ref b]/\gN n H a x/\gO H b k/\k.ps.length<=1000/\Hk x/\∀H',aG H H'->Q (.bl (ky x k.ps)) H'
theorem Fc{x:Wk}(h:x.nm="walk"):∃c mv,x=.one (.walk c mv):=by
 revert h;cases x with
 |one x=>cases x<;>simp only[Wk.nm,W1.nm]<;>first | (intro h;exact⟨_,_,rfl⟩) | (intro h;exact UC h (by decide +kernel))
 |both p q=>simp only[Wk.nm];intro h;exact UC h (by decide +kernel)
 |meet c d p q=>simp only[Wk.nm];intro h;exact UC h (by decide +kernel)
theorem yY{x:Wk}(h:x.nm="meet"):∃c d p q,x=.meet c d p q:=by
 revert h;cases x with
 |one x=>cases x<;>simp only[Wk.nm,W1.nm]<;>(intro h;exact UC h (by decide +kernel))
 |both p q=>simp only[Wk.nm];intro h;exact UC h (by decide +kernel)
 |meet c d p q=>intro h;exact⟨_,_,_,_,rfl⟩
theorem Bq{x:Wk}{ps:List Str}(h:x.nm≠"walk")(h2:x.nm≠"meet"):ky x ps=true:=by
 cases x with
 |one x=>cases x<;>first|rfl|exact UC rfl h
 |both p q=>rfl
 |meet c d p q=>exact UC rfl h2
abbrev lG:Stmt:=top 49
theorem uD:av ["worker","known"] ["worker","known"] (ao lG):=fs
theorem wj{n:Nat}{aO:Addr}(B2:tR mg)(Co:Ez K mg "ONE_ROW" aO Cy)(F:FA K mg "rows_fit" lG)
  (dN:bA bx P w K mg base 1 "branches_of" ["worker"] (yv n)) :
  bA bx P w K mg base 2 "rows_fit" ["worker","known"] (Dj n):=by
 refine F.ok uD λf cdv A outer s H vs Q E hr h=>?_;have hu:=iH hr;obtain⟨a,b,x,k,rfl,ha,hk,hps,N0,q⟩:=h;refine⟨_,(bu (bg bO (aX K (pv 0) ai) au) (aN (iL rfl) rfl B2.all PyProof.Rows.boot_all (aa (bU (N':=["name"]) (src:=[none]) rfl (bh.lJ (by kernel_rfl)) (cF (aX K (pv 1) ai)) (λcl C s H fp=>(fX (i:=0))) (λcl C s H fp=>bp) (te:=(fQ (GP K false) (bF 0) (tC (.ref aO)))) (λcl C s H fp=>(km ez (i3 0) (cu (v:=.ref aO) Hj Co.m rfl) rfl))) ah))
   (bu (bg bO (aX K (pv 0) ai) au) (aN (iL rfl) rfl B2.all PyProof.Rows.boot_all (aa (rJ (N':=["branch","inner"]) (src:=[none,none]) rfl (bh.lJ (by kernel_rfl)) (cF (aL dN hr (aa (pv 0) ah))) (λcl C s H fp=>(fX (i:=0))) (λcl C s H fp=>bp) (wi2:=(FO K (bF 0))) (λcl C s H fp=>(cF (i3 0))) (λcl C s H fp=>(fX (i:=1))) (λcl C s H fp=>bp) (te:=(fQ (GP K false) (fQ (qo K) (bF 1) (tC (.int 0))) (tC (.ref aO)))) (λcl C s H fp=>(km ez (aX K (i3 1) ai) (cu (v:=.ref aO) Hj Co.m rfl) rfl))) ah))
   (ax c0))),?_⟩
 obtain⟨xs,h1⟩:=ha.first;refine⟨_,rfl,a,_,0,_,rfl,rfl,aY.of h1,aP (j:=0) rfl,rfl,_,rfl,?_⟩;rw[f9];by_cases e:x.nm="walk"
 ·rw[TY e];obtain⟨c,mv,rfl⟩:=Fc e;obtain⟨hh,p,hk1,hk2,hk3⟩:=hk;refine dX ⟨_,rfl,b,_,1,_,rfl,rfl,aY.of hk1,rfl,p,rfl,⟨_,aY.of hk3⟩,λD hD=>?_⟩;refine cX (xs:=k.ps.map V.str) (λi σ ys H'=>(∃o,σ=[o])/\ys=((k.ps.take i).map cP).map V.bl/\ys.length=i/\H' D=some (.lst ys)/\aG H H') ⟨⟨none,rfl⟩,rfl,rfl,ae,ag hD _⟩ ?_ ?_ ?_ ?_ ?_
  ·rintro i σ ys H' _ ⟨_,_,hi,h,_⟩;exact⟨h,UP hi⟩
  ·rintro i σ ys H' _ ⟨_,_,_,_,sm⟩;exact aY.of (sm _ _ hk3)
  ·rw[TZ];exact TV hps (by decide)
  ·rintro i v σ ys H' hv ⟨⟨o,rfl⟩,rfl,hi,h,sm⟩;rw[Us]at hv;cases ec:k.ps[i]? with
   |none=>rw[ec]at hv;cases hv
   |some s0 =>
    rw[ec]at hv;have hv:V.str s0=v:=Up hv;subst hv;refine⟨_,rfl,aO,Cy,rfl,.inr (Co.t _),rfl,rfl,h,⟨_,rfl⟩,?_,?_,ae,bo hD sm⟩
    ·rw[take_one ec,T4,T4];rfl
    ·rw[T1,hi];rfl
  ·rintro σ ys H' ⟨_,rfl,_,h,sm⟩;rw[TZ,UI]at h;refine⟨D,_,rfl,bj.of h,?_⟩;rw[show(k.ps.map cP).all id=k.ps.all cP by rw[List.all_map];rfl];exact q H' sm
 ·rw[TX e];refine cV (bD ⟨_,rfl,a,_,0,_,rfl,rfl,aY.of h1,aP (j:=0) rfl,rfl,_,rfl,?_⟩);rw[f9];by_cases e2:x.nm="meet"
  ·rw[TY e2];obtain⟨c,d,p1,p2,rfl⟩:=yY e2;refine dX ⟨_,rfl,a,_,rfl,ha,λu bs H1 s1 hI=>⟨u,rfl,⟨_,aY.of hI.tup⟩,λD hD=>?_⟩⟩;let ws:Nat->List Wk:=λi=>(([p1,p2]:List (List Wk)).take i).flatten
   have hw1:p1.length<=1000:=N0 p1 (by simp[gj]);have hw2:p2.length<=1000:=N0 p2 (by simp[gj]);have hlb:(bs.map V.ref).length=2:=by rw[TZ,hI.len];rfl
   have hws:∀i,(ws i).length<=2000:=by
    intro i;match i with
    | 0=>exact Uo _
    | 1=>show(p1++[]).length<=_;rw[UN];omega
    |i+2=>show((p1::p2::List.take i []).flatten).length<=_;rw[List.take_nil];show(p1++(p2++[])).length<=_;rw[UN,T1];omega
   refine rR (xs:=bs.map V.ref) (λi σ ys H'=>(∃o1 o2,σ=[o1,o2])/\ys=(ws i).map (λw=>V.bl (cP w.nm))/\H' D=some (.lst ys)/\aG H1 H') ⟨⟨none,none,rfl⟩,rfl,ae,ag hD _⟩ ?_ ?_ ?_ ?_
   ·rintro i σ ys H' _ ⟨_,_,h,_⟩;exact h
   ·rintro i σ ys H' _ ⟨_,_,_,sm⟩;exact aY.of (sm _ _ hI.tup)
   ·rintro i v σ ys H' hv ⟨⟨o1,o2,rfl⟩,rfl,h,sm⟩;obtain⟨b',pp,rfl,ep,cs,hJ⟩:=hI.get hv;have hpl:pp.length<=1000:=N0 pp (Ub ep);refine aj ⟨_,rfl,b',rfl,⟨_,aY.of (sm _ _ hJ.tup)⟩,?_⟩;refine ni (xs:=cs.map V.ref) (λj σ zs H2=>(∃o,σ=[some (.ref b'),o])/\zs=(ws i).map (λw=>V.bl (cP w.nm))++(pp.take j).map (λw=>V.bl (cP w.nm))/\H2 D=some (.lst zs)/\aG H1 H2) ⟨⟨o2,rfl⟩,by rw[List.take_zero,List.map_nil,UN],h,sm⟩ ?_ ?_ ?_ ?_
    ·rintro j σ zs H2 hj ⟨_,rfl,h2,_⟩;refine⟨h2,λ_=>?_⟩;rw[T1,TZ,TZ,Ut];have:=hws i;exact T8 (show _<=3000 by omega) (by decide)
    ·rintro j σ zs H2 _ ⟨_,_,_,s2⟩;exact aY.of (s2 _ _ hJ.tup)
    ·rintro j v2 σ zs H2 hu' ⟨⟨o,rfl⟩,rfl,h2,s2⟩;obtain⟨c',wk,rfl,ew,hW⟩:=hJ.get hu';obtain⟨ys',hW⟩:=hW.first;refine aj ⟨_,rfl,c',_,0,_,rfl,rfl,aY.of (s2 _ _ hW),aP (j:=0) rfl,aO,Cy,rfl,.inr (Co.t _),rfl,rfl,h2,⟨_,rfl⟩,?_,ae,bo hD s2⟩;rw[take_one ew,T4,List.append_assoc];rfl
    ·rintro σ zs H2 ⟨⟨o,rfl⟩,rfl,h2,s2⟩;refine⟨⟨_,_,rfl⟩,?_,h2,s2⟩;rw[TZ,hJ.len,UI,←T4];congr 1;show _=((gj (.meet c d p1 p2)).take (i+1)).flatten;rw[take_one ep,List.flatten_append];show _=_++(pp++[]);rw[UN];rfl
   ·rintro σ ys H' ⟨_,rfl,h,sm⟩;rw[hlb]at h;refine⟨D,(p1++p2).map λw=>cP w.nm,rfl,bj.of ?_,?_⟩
    ·rw[h,List.map_map];show some (HO.lst ((p1++(p2++[])).map _))=_;rw[UN];rfl
    ·rw[List.all_map];exact q H' (s1.trans sm)
  ·rw[TX e2];rw[Bq e e2]at q;exact cV (bD (q H (aG.refl _)))
theorem rl(ss:List Str):(ss.map V.str).all jY=true:=by rw[List.all_eq_true];intro v hv;obtain⟨s,_,rfl⟩:=Ui.mp hv;rfl
def lR(ps:List Str)(s:Str):Bool:=inV (.str s) (ps.map V.str)
theorem ED{ps:List Str}{s:Str}:lR ps s=true↔s∈ps:=by
 unfold lR inV;rw[List.any_eq_true];constructor
 ·rintro⟨v,hv,e⟩;obtain⟨t,ht,rfl⟩:=Ui.mp hv;rw[yB]at e;rw[UB e];exact ht
 ·intro h;exact⟨.str s,Ui.mpr ⟨s,h,rfl⟩,by rw[yB];exact TY rfl⟩
def fi:Wk->Kn->Bool
 | .one (.keep c _),k=>decide (bz k.hd c="t")
 | .one (.first n),k=>decide (¬n<=0)&&(lR k.ps "walk"||lR k.ps "both"||lR k.ps "meet")
 | .meet ..,k=>lR k.ps "walk"||lR k.ps "first"
 |_,_=>false
def keepIn(x:Wk)(h:Hd):Prop:=∀c t,x=.one (.keep c t)->1<=c/\c<=h.length
def yF(n:Nat):Sp:=λvs H Q _=>∃(a b:Addr)(x:Wk)(k:Kn),vs=[.ref a,.ref b]/\gN n H a x/\gO H b k/\keepIn x k.hd/\∀H',aG H H'->Q (.bl (fi x k)) H'
theorem F9{x:Wk}(h:x.nm="keep"):∃c t,x=.one (.keep c t):=by
 revert h;cases x with
 |one x=>cases x<;>simp only[Wk.nm,W1.nm]<;>first | (intro h;exact⟨_,_,rfl⟩) | (intro h;exact UC h (by decide +kernel))
 |both p q=>simp only[Wk.nm];intro h;exact UC h (by decide +kernel)
 |meet c d p q=>simp only[Wk.nm];intro h;exact UC h (by decide +kernel)
theorem pZ{x:Wk}:bb x="first"↔∃n,¬n<=(0:Int)/\x=.one (.first n):=by
 constructor
 ·intro h;by_cases e:x.nm="first"
  ·obtain⟨n,rfl⟩:=vo e;refine⟨n,λz=>?_,rfl⟩;have h:(if n<=0 then("first 0" : Str)else "first")="first":=h;rw[UE z]at h;exact UC h (by decide +kernel)
  ·rw[vq e]at h;exact UC h e
 ·rintro⟨n,h,rfl⟩;show(if n<=0 then("first 0" : Str)else "first")="first";rw[UD h]
theorem Ap{x:Wk}{k:Kn}(h1:x.nm≠"keep")(h2:bb x≠"first")(h3:x.nm≠"meet"):fi x k=false:=by
 match x with
 | .one (.keep _ _)=>exact UC rfl h1
 | .one (.first n) =>
  have:n<=0:=by
   by_cases z:n<=0
   ·exact z
   ·exact UC (pZ.mpr ⟨n,z,rfl⟩) h2
  show(decide (¬n<=0)&&_)=false;rw[TX (λz=>z this)];rfl
 | .meet ..=>exact UC rfl h3
 | .both ..=>rfl
 | .one (.same ..)=>rfl
 | .one (.cut ..)=>rfl
 | .one (.turn ..)=>rfl
 | .one (.must ..)=>rfl
 | .one (.walk ..)=>rfl
 | .one (.sort ..)=>rfl
 | .one .apart=>rfl
 | .one (.count ..)=>rfl
 | .one (.sum ..)=>rfl
 | .one .number=>rfl
abbrev iw:Stmt:=top 51
theorem eM:av ["worker","known","head","passed","loose"] ["worker","known"] (ao iw):=fs
theorem BV{n:Nat}{tk:Tok}(B3:BQ mg)(mT:mg "TALLY"=some (.str "t" tk))(F:FA K mg "makes_loose" iw)
  (ir:bA bx P w K mg base 1 "name_passed" ["worker"] (xR n)) :
  bA bx P w K mg base 2 "makes_loose" ["worker","known"] (yF n):=by
 refine F.ok eM λf cdv A outer s H vs Q E hr h=>?_;have hu:=iH hr;have hu1:=kS hr;obtain⟨a,b,x,k,rfl,ha,hk,hkp,q⟩:=h;refine⟨_,(aq (d0 (pv 1) (bS rfl (ar (aM (i:=2) eM.nd rfl (UH rfl)) (ar (aM (i:=3) eM.nd rfl (Or.inr rfl)) (ar (aM (i:=4) eM.nd rfl (UH rfl)) bw)))))
   (bu (bg bO (aX K (pv 0) ai) au) (jL bO (aX K (pv 2) (aQ ck (aX K (pv 0) ai) ai)) (cu (v:=.str "t") rfl mT ⟨_,rfl⟩))
   (bu (bg bO (aL ir hr (aa (pv 0) ah)) au) (aN (nQ rfl) rfl B3.any PyProof.Rows.boot_any (aa (bU (N':=["name","passed"]) (src:=[none,some 3]) rfl (bh.lJ (by kernel_rfl)) (cF (aW (aa au (aa au (aa au ah))))) (λcl C s H fp=>(fX (i:=0))) (λcl C s H fp=>bp) (te:=(fQ (GP K false) (bF 0) (bF 1))) (λcl C s H fp=>(km ez (i3 0) (ug 1) rfl))) ah))
   (bu (bg bO (aX K (pv 0) ai) au) (aN (nQ rfl) rfl B3.any PyProof.Rows.boot_any (aa (bU (N':=["name","passed"]) (src:=[none,some 3]) rfl (bh.lJ (by kernel_rfl)) (cF (aW (aa au (aa au ah)))) (λcl C s H fp=>(fX (i:=0))) (λcl C s H fp=>bp) (te:=(fQ (GP K false) (bF 0) (bF 1))) (λcl C s H fp=>(km ez (i3 0) (ug 1) rfl))) ah))
   (ax c0))))),?_⟩
 obtain⟨xs,h1⟩:=ha.first;obtain⟨hh,p,hk1,hk2,hk3⟩:=hk;refine⟨_,rfl,b,_,rfl,aY.of hk1,rfl,_,_,rfl,aj ⟨_,_,rfl,aj ⟨_,_,rfl,aj ⟨rfl,?_⟩⟩⟩⟩;dsimp only;refine⟨_,rfl,a,_,0,_,rfl,rfl,aY.of h1,aP (j:=0) rfl,rfl,_,rfl,?_⟩;rw[f9];by_cases e:x.nm="keep"
 ·rw[TY e];obtain⟨c,t,rfl⟩:=F9 e;obtain⟨st,ys,hx1,hx2⟩:=dm.mp ha;refine dX ⟨_,rfl,_,rfl,a,_,1,_,rfl,rfl,aY.of hx1,rfl,_,_,rfl,rfl,hh,_,_,_,rfl,rfl,aY.of hk2,fG (hkp c t rfl),rfl,?_⟩;rw[f9];exact q H (aG.refl _)
 rw[TX e];refine cV (bD ⟨_,rfl,a,x,rfl,ha,rfl,_,rfl,?_⟩);rw[f9];by_cases e2:bb x="first"
 ·rw[TY e2];obtain⟨m,hm,rfl⟩:=pZ.mp e2;refine dX ⟨cm,λu hu=>?_⟩;have su:=ag hu (.tup [V.str "walk",.str "both",.str "meet"]);have hu1:upd H u (.tup [V.str "walk",.str "both",.str "meet"]) u=_:=ae;revert su hu1;generalize upd H u (.tup [V.str "walk",.str "both",.str "meet"])=H1;intro su hu1;refine⟨u,rfl,⟨_,aY.of hu1⟩,λD hD=>?_⟩;refine cX (xs:=(["walk","both","meet"]:List Str).map V.str) (λi σ ys H'=>(∃o,σ=[o,some (.ref p)])/\ys=(((["walk","both","meet"]:List Str).take i).map (lR k.ps)).map V.bl/\ys.length=i/\H' D=some (.lst ys)/\aG H1 H') ⟨⟨none,rfl⟩,rfl,rfl,ae,ag hD _⟩ ?_ ?_ ?_ ?_ ?_
  ·rintro i σ ys H' _ ⟨_,_,hi,h,_⟩;exact⟨h,UP hi⟩
  ·rintro i σ ys H' _ ⟨_,_,_,_,sm⟩;exact aY.of (sm _ _ hu1)
  ·decide
  ·rintro i v σ ys H' hv ⟨⟨o,rfl⟩,rfl,hi,h,sm⟩;rw[Us]at hv;cases ec:(["walk","both","meet"]:List Str)[i]? with
   |none=>rw[ec]at hv;cases hv
   |some s0 =>
    rw[ec]at hv;have hv:V.str s0=v:=Up hv;subst hv;refine⟨_,rfl,_,rfl,p,_,rfl,.inr (aY.of (sm _ _ (su _ _ hk3))),rfl,rl _,h,⟨_,rfl⟩,?_,?_,ae,bo hD sm⟩
    ·rw[take_one ec,T4,T4];rfl
    ·rw[T1,hi];rfl
  ·rintro σ ys H' ⟨_,rfl,_,h,sm⟩;refine⟨D,_,rfl,bj.of h,?_⟩;have q:=q H' (su.trans sm);have q:Q (.bl (decide (¬m<=0)&&(lR k.ps "walk"||lR k.ps "both"||lR k.ps "meet"))) H':=q;rw[TY hm,Bool.true_and]at q;show Q (.bl (lR k.ps "walk"||(lR k.ps "both"||(lR k.ps "meet"||false)))) H';rw[Bool.or_false,←Bool.or_assoc];exact q
 rw[TX e2];refine cV (bD ⟨_,rfl,a,_,0,_,rfl,rfl,aY.of h1,aP (j:=0) rfl,rfl,_,rfl,?_⟩);rw[f9];by_cases e3:x.nm="meet"
 ·rw[TY e3];obtain⟨c,d,p1,p2,rfl⟩:=yY e3;refine dX ⟨cn,λu hu=>?_⟩;have su:=ag hu (.tup [V.str "walk",.str "first"]);have hu1:upd H u (.tup [V.str "walk",.str "first"]) u=_:=ae;revert su hu1;generalize upd H u (.tup [V.str "walk",.str "first"])=H1;intro su hu1;refine⟨u,rfl,⟨_,aY.of hu1⟩,λD hD=>?_⟩;refine cX (xs:=(["walk","first"]:List Str).map V.str) (λi σ ys H'=>(∃o,σ=[o,some (.ref p)])/\ys=(((["walk","first"]:List Str).take i).map (lR k.ps)).map V.bl/\ys.length=i/\H' D=some (.lst ys)/\aG H1 H') ⟨⟨none,rfl⟩,rfl,rfl,ae,ag hD _⟩ ?_ ?_ ?_ ?_ ?_
  ·rintro i σ ys H' _ ⟨_,_,hi,h,_⟩;exact⟨h,UP hi⟩
  ·rintro i σ ys H' _ ⟨_,_,_,_,sm⟩;exact aY.of (sm _ _ hu1)
  ·decide
  ·rintro i v σ ys H' hv ⟨⟨o,rfl⟩,rfl,hi,h,sm⟩;rw[Us]at hv;cases ec:(["walk","first"]:List Str)[i]? with
   |none=>rw[ec]at hv;cases hv
   |some s0 =>
    rw[ec]at hv;have hv:V.str s0=v:=Up hv;subst hv;refine⟨_,rfl,_,rfl,p,_,rfl,.inr (aY.of (sm _ _ (su _ _ hk3))),rfl,rl _,h,⟨_,rfl⟩,?_,?_,ae,bo hD sm⟩
    ·rw[take_one ec,T4,T4];rfl
    ·rw[T1,hi];rfl
  ·rintro σ ys H' ⟨_,rfl,_,h,sm⟩;refine⟨D,_,rfl,bj.of h,?_⟩;have q:=q H' (su.trans sm);have q:Q (.bl (lR k.ps "walk"||lR k.ps "first")) H':=q;show Q (.bl (lR k.ps "walk"||(lR k.ps "first"||false))) H';rw[Bool.or_false];exact q
 rw[TX e3];rw[Ap e e2 e3]at q;exact cV (bD (q H (aG.refl _)))
def eZ:Wk->Bool
 | .one (.must ..)=>true
 |_=>false
def sY(x:Wk)(k:Kn)(hs:List Hd):Option Str :=
 if eQ x hs=true then
  if bK x hs=true then
   if(bf x hs).length<=6 then
    if ky x k.ps=true then
     if(eZ x&&k.lo)=true then some "loose" else none
    else some "rows"
   else some "wide"
  else some "sort"
 else some "column"
def wV:Option Str->V
 |none=>.non
 |some s=>.str s
structure lL(x:Wk):Prop where
 sm:pM x
 good:goodW x
 ne:Ot x
 wide:Hk x
def GX(n:Nat):Sp:=λvs H Q _=>∃(a b l:Addr)(x:Wk)(k:Kn)(as:List Addr)(hs:List Hd),vs=[.ref a,.ref b,.ref l]/\gN n H a x/\gO H b k/\mw H l as hs/\hs.length=B4 x/\lL x/\k.ps.length<=1000/\(∀h∈hs,h.length<=1000)/\∀H',aG H H'->Q (wV (sY x k hs)) H'
theorem Gz{x:Wk}:decide (x.nm="must")=eZ x:=by
 cases x with
 |one x=>cases x<;>(simp only[Wk.nm,W1.nm,eZ];first|exact TY rfl|decide +kernel|exact TX (by decide +kernel))
 |both p q=>simp only[Wk.nm,eZ];exact TX (by decide +kernel)
 |meet c d p q=>simp only[Wk.nm,eZ];exact TX (by decide +kernel)
abbrev nq:Stmt:=top 50
theorem x_:av ["worker","known","heads"] ["worker","known","heads"] (ao nq):=fs
theorem Ak{n:Nat}(B:j7 mg){tw:Tok}(mW:mg "WIDEST_ROW"=some (.int 6 tw))(F:FA K mg "why_not" nq)
  (qH:bA bx P w K mg base 2 "columns_fit" ["worker","heads"] (df n eQ λ_ _=>True))
  (vb:bA bx P w K mg base 4 "sorts_fit" ["worker","heads"] (df n bK (qE λ_=>True)))
  (j4:bA bx P w K mg base 3 "head_told" ["worker","heads"] (c6 n λ_=>True))
  (wu:bA bx P w K mg base 2 "rows_fit" ["worker","known"] (Dj n)) :
  bA bx P w K mg base 5 "why_not" ["worker","known","heads"] (GX n):=by
 refine F.ok x_ λf cdv A outer s H vs Q E hr h=>?_;have hu:=iH hr;obtain⟨a,b,l,x,k,as,hs,rfl,ha,hk,hL,hn,hok,hps,RD,q⟩:=h;refine⟨_,(bu (m8 (fh (aL qH hr (aa (pv 0) (aa (pv 2) ah))))) au
   (bu (m8 (fh (aL vb hr (aa (pv 0) (aa (pv 2) ah))))) au
   (bu (bg Dr (aN aU rfl B.len UU (aa (aL j4 hr (aa (pv 0) (aa (pv 2) ah))) ah)) (cu (v:=.int 6) rfl mW ⟨_,rfl⟩)) au
   (bu (m8 (fh (aL wu hr (aa (pv 0) (aa (pv 1) ah))))) au
   (bu (PW.pt (ix (bg bO (aX K (pv 0) ai) au) (gX (fh (aX K (pv 1) ai))))) au
   (ax gc)))))),?_⟩
 unfold sY at q;refine⟨_,rfl,_,rfl,a,l,x,as,hs,rfl,ha,hL,hn,hok.sm,trivial,λH1 s1=>⟨_,rfl,?_⟩⟩;by_cases e1:eQ x hs=false
 ·rw[e1];rw[UD (by rw[e1];decide)]at q;exact dX (q H1 s1)
 have e1:eQ x hs=true:=by simpa using e1
 rw[e1];rw[UE e1]at q;have ha1:=ha.keep (aJ.of s1);refine cV (bD ⟨_,rfl,_,rfl,a,l,x,as,hs,rfl,ha1,hL.same s1,hn,hok.sm,⟨trivial,e1,hok.good⟩,λH2 s2=>⟨_,rfl,?_⟩⟩);have s12:=s1.trans s2;by_cases e2:bK x hs=false
 ·rw[e2];rw[UD (by rw[e2];decide)]at q;exact dX (q H2 s12)
 have e2:bK x hs=true:=by simpa using e2
 rw[e2];rw[UE e2]at q;have ha2:=ha.keep (aJ.of s12);refine cV (bD ⟨_,rfl,_,rfl,a,l,x,as,hs,rfl,ha2,hL.same s12,hn,hok.sm,⟨trivial,e1,hok.good,hok.ne,RD⟩,λu H3 s3 hu=>?_⟩);have v9:=s12.trans s3;refine⟨u,_,rfl,.inr (aY.of hu),_,_,rfl,rfl,_,rfl,?_⟩;rw[TZ];by_cases e3:¬(bf x hs).length<=6
 ·rw[UD e3]at q;rw[TY (show(6:Int)<((bf x hs).length:Nat) by omega)];exact dX (q H3 v9)
 have e3:(bf x hs).length<=6:=by omega
 rw[UE e3]at q;rw[TX (show¬(6:Int)<((bf x hs).length:Nat) by omega)];have ha3:=ha.keep (aJ.of v9);refine cV (bD ⟨_,rfl,_,rfl,a,b,x,k,rfl,ha3,hk.same v9,hps,hok.wide,λH4 s4=>⟨_,rfl,?_⟩⟩);have Ec:=v9.trans s4;by_cases e4:ky x k.ps=false
 ·rw[e4];rw[UD (by rw[e4];decide)]at q;exact dX (q H4 Ec)
 have e4:ky x k.ps=true:=by simpa using e4
 rw[e4];rw[UE e4]at q;have Q7:=ha.keep (aJ.of Ec);obtain⟨xs,h1⟩:=Q7.first;refine cV (bD ⟨_,rfl,a,_,0,_,rfl,rfl,aY.of h1,aP (j:=0) rfl,rfl,_,rfl,?_⟩);rw[f9,Gz];cases e5:eZ x with
 |false =>rw[e5]at q;exact cV (cV (bD (q H4 Ec)))
 |true =>
  rw[e5,Bool.true_and]at q;obtain⟨hh,p,hk1,_⟩:=hk.same Ec;refine dX ⟨_,rfl,b,_,2,_,rfl,rfl,aY.of hk1,rfl,_,rfl,?_⟩;refine fw (λz=>?_) (λz=>bD ?_)
  ·rw[UE z]at q;exact q H4 Ec
  ·rw[UD z]at q;exact q H4 Ec
end My
namespace L2
open PySem PySem.Spec PyProof.Rows
section
variable{X:Cx}{N':List Str}{src:List (Option Nat)}{sc:Scope}{elt t1 i1 t2 i2:Expr}{f1 f2:List Expr}{pos:Pos}{wi wi2:TI}{g g2:TG}{tc sk:TT}{te:TE}
theorem vU{i:Nat}{x:Str}{pos' spos:Pos}(hN:X.N.Nodup)(hi':X.N[i]? = some x)(hx:Loc X.env.scope x)(hsw:swapsWith (qL elt t1 i1 f1 t2 i2 f2 sc pos) (some (.Name x pos')) spos.line X.env=pure true)
  (hc:X.calm=true) (S:bh X.env.scope X.N N' src sc) (hi:PI X t1 i1 wi)
  (hg:∀cl C s H fp,PG (aD X N' sc cl C s H fp) t1 g) (ht:∀cl C s H fp,iF (aD X N' sc cl C s H fp) f1 tc)
  (hi2:∀cl C s H fp,PI (aD X N' sc cl C s H fp) t2 i2 wi2) (hg2:∀cl C s H fp,PG (aD X N' sc cl C s H fp) t2 g2) (sD:∀cl C s H fp,iF (aD X N' sc cl C s H fp) f2 sk)
  (he:∀cl C s H fp,PE (aD X N' sc cl C s H fp) elt te)
  (hf:X.fn x=true\/X.env.scope.names.lookup x=some .local:=by first|exact .inl rfl|exact .inr rfl|assumption)
  (hs:∀x,foldedSetIterable i1 X.env x=pure x:=by intro _;rfl) (hs2:∀(env:Env) x,foldedSetIterable i2 env x=pure x:=by intro _ _;rfl) :
  PS X (.Assign [.Name x pos'] (qL elt t1 i1 f1 t2 i2 f2 sc pos) spos) (DD (Cu src wi g tc wi2 g2 sk te) (bW i)):=by
 intro ac s σ H D I h;rw[exec_Assign_Name_used _ _ _ _ hsw];refine TK (wpAny_standAt (TK ?_));show wpAny _ _ (comprehension _ _ _ _ _ _ _ _ >>= _) _ _ s;refine TK (wpAny_comprehension_free (use:=some (assign (.Name x pos') X.env)) rfl hs (cB λy hy hk=>I.ok.has y.1 (S.free y hy hk)) S.kind (λy hy hl=>by rw[←hl];exact S.uniq y hy) ?_);refine bJ (hi ac s σ H _ I h) λv s1 h1=>bJ h1 λitv s2 h2=>?_;obtain⟨it,fp,tn,J,H2,e,I2,T,st2,Gi,hW⟩:=h2;subst e;refine n0 (Q:=λy H'=>D.nx (σ.set i (some y)) H') (RR:=λacc C=>compPost (model X.prog X.w) X.A X.xe (some (assign (.Name x pos') X.env)) _ acc C) hc S hg ht hi2 hg2 sD he hs2 I2 T st2 Gi hW ?_;intro D' C s5 H' m I5 n5 fC q;refine wpAny_assign_Name (nt I5 hN hi' hx (show RelV (.ref D') (.ref D') from rfl) (λs6 I6 hsb=>?_) hf);obtain⟨a,sb,ha⟩:=hsb;have N8:C≠a:=by
  rcases ha with z|z
  ·rw[z];exact fC.2.1
  ·exact λe=>fC.2.2.2.2.1 x a z e.symm
 refine⟨m,n5.sameBut sb N8,λh' NN=>?_⟩;refine TM (TM ?_);exact⟨_,H',I6.turned (t':=s6.toks) (λb o hb e=>(NN.2 b hb).trans e) fC.1 fC.2.1 fC.2.2.2.1 fC.2.2.2.2.1 fC.2.2.2.2.2,q⟩
end
end L2
namespace My
open PySem L2
structure js(H:Hp)(l:Addr)(as:List Addr)(ks:List Kn):Prop where
 lst:H l=some (.lst (as.map V.ref))
 len:as.length=ks.length
 at_:∀(i:Nat) a k,as[i]? = some a->ks[i]? = some k->gO H a k
theorem js.same{H H':Hp}{l:Addr}{as:List Addr}{ks:List Kn}(s:aG H H')(h:js H l as ks):js H' l as ks:=⟨s _ _ h.lst,h.len,λi a k e1 e2=>(h.at_ i a k e1 e2).same s⟩
theorem js.get{H:Hp}{l:Addr}{as:List Addr}{ks:List Kn}(h:js H l as ks){i:Nat}{x:V}(hx:(as.map V.ref)[i]? = some x):∃(a:Addr)(k:Kn),x=.ref a/\ks[i]? = some k/\gO H a k:=by
 rw[Us]at hx;cases e:as[i]? with
 |none=>rw[e]at hx;cases hx
 |some b =>
  rw[e]at hx;have hx':V.ref b=x:=Up hx;subst hx';have hi:i<ks.length:=by rw[←h.len];exact(Ug.mp e).1
  have er:ks[i]? = some ks[i]:=T_ hi;exact⟨b,ks[i],rfl,er,h.at_ i b _ e er⟩
def BP(ps ns:List Str):Prop:=ps.Pairwise LA/\∀s,s∈ps↔s∈ns
def kO(ks:List Kn):List Hd:=ks.map λk=>k.hd
structure OE(x:Wk)(k:Kn)(ks:List Kn):Prop where
 n:ks.length=B4 x
 ok:lL x
 fit:eQ x (kO ks)=true
 keep:keepIn x k.hd
 hd:∀k∈ks,k.hd.length<=1000
 ps:∀k∈ks,k.ps.length<=20
def vn(n:Nat):Sp:=λvs H Q _=>∃(a b l:Addr)(x:Wk)(k:Kn)(as:List Addr)(ks:List Kn),vs=[.ref a,.ref b,.ref l]/\gN n H a x/\gO H b k/\js H l as ks/\OE x k ks/\
 ∀(u:Addr)(k':Kn)(H':Hp),aG H H'->gO H' u k'->k'.hd=bf x (kO ks)->BP k'.ps (ks.flatMap (λk=>k.ps)++[bb x])->k'.lo=(fi x k||ks.any λk=>k.lo)->Q (.ref u) H'
theorem Bg{x:Wk}:B4 x<=2:=by cases x<;>simp[B4]
theorem DS{ks:List Kn}{m:Nat}(hl:ks.length<=m)(h:∀k∈ks,k.ps.length<=20):(ks.flatMap λk=>k.ps).length<=20*m:=by
 induction ks generalizing m with
 |nil=>exact Uo _
 |cons k ks ih =>rw[List.flatMap_cons,T1];have h1:=h k (by simp);have h2:=ih (m:=m-1) (by simp at hl;omega) λk hk=>h k (by simp[hk]);simp at hl;omega
theorem yg{H:Hp}{D:Addr}{ks:List Kn}{bs:List Addr}(h:H D=some (.lst (bs.map V.ref)))(hl:bs.length=ks.length)(ha:∀(i:Nat) a k,bs[i]? = some a->ks[i]? = some k->gD H a k.hd):mw H D bs (kO ks):=by
 refine⟨h,by rw[hl,kO,TZ],λi a r e1 e2=>?_⟩;rw[kO,Us]at e2;cases ek:ks[i]? with
 |none=>rw[ek]at e2;cases e2
 |some k =>rw[ek]at e2;cases e2;exact ha i a k e1 ek
abbrev gH:Stmt:=top 52
theorem jn:av ["worker","known","told","names"] ["worker","known","told"] (ao gH):=fs
variable{P:Program}{w:World}{K:UX}{mg:Str->Option Value}{base:Heap}
theorem zE{n:Nat}(B:j7 mg)(B2:tR mg)(B3:BQ mg)(F:FA K mg "known_behind" gH)
  (j4:bA bx P w K mg base 3 "head_told" ["worker","heads"] (c6 n λ_=>True))
  (ir:bA bx P w K mg base 1 "name_passed" ["worker"] (xR n))
  (qO:bA bx P w K mg base 2 "makes_loose" ["worker","known"] (yF n)) :
  bA bx P w K mg base 4 "known_behind" ["worker","known","told"] (vn n):=by
 refine F.ok jn λf cdv A outer s H vs Q E hr h=>?_;have hu:=iH hr;have hu1:=kS hr;obtain⟨a,b,l,x,k,as,ks,rfl,ha,hk,hL,ho,q⟩:=h;refine⟨_,(aq (vU (i:=3) (N':=["head","passed","loose","name"]) (src:=[none,none,none,none]) jn.nd rfl (UH rfl) rfl rfl (bh.lJ (by kernel_rfl)) (eU (pv 2)) (g:=(oJ K 3 (cI (bW 0) (cI (bW 1) (cI (bW 2) oH))))) (λcl C s H fp=>(bS rfl (ar (fX (i:=0)) (ar (fX (i:=1)) (ar (fX (i:=2)) bw))))) (λcl C s H fp=>bp) (wi2:=(FO K (bF 1))) (λcl C s H fp=>(cF (i3 1))) (λcl C s H fp=>(fX (i:=3))) (λcl C s H fp=>bp) (te:=(bF 3)) (λcl C s H fp=>(i3 3)))
   (ax (aW (aa (aL j4 hr (aa (pv 0) (aa (bU (N':=["head","passed","loose"]) (src:=[none,none,none]) rfl (bh.lJ (by kernel_rfl)) (eU (pv 2)) (g:=(oJ K 3 (cI (bW 0) (cI (bW 1) (cI (bW 2) oH))))) (λcl C s H fp=>(bS rfl (ar (fX (i:=0)) (ar (fX (i:=1)) (ar (fX (i:=2)) bw))))) (λcl C s H fp=>bp) (te:=(bF 0)) (λcl C s H fp=>(i3 0))) ah))) (aa (bN bt rfl B.tuple UL (aa (xC rfl rfl B2.sorted rfl B2.set (aQ pA (pv 3) (bZ (aa (aL ir hr (aa (pv 0) ah)) ah)))) ah)) (aa (Mp (aL qO hr (aa (pv 0) (aa (pv 1) ah))) (nR (aN (nQ rfl) rfl B3.any PyProof.Rows.boot_any (aa (bU (N':=["head","passed","loose"]) (src:=[none,none,none]) rfl (bh.lJ (by kernel_rfl)) (eU (pv 2)) (g:=(oJ K 3 (cI (bW 0) (cI (bW 1) (cI (bW 2) oH))))) (λcl C s H fp=>(bS rfl (ar (fX (i:=0)) (ar (fX (i:=1)) (ar (fX (i:=2)) bw))))) (λcl C s H fp=>bp) (te:=(bF 2)) (λcl C s H fp=>(i3 2))) ah)))) ah)))))),?_⟩
 have hn2:ks.length<=2:=by rw[ho.n];exact Bg
 have hla:(as.map V.ref).length=ks.length:=by rw[TZ,hL.len]
 refine⟨_,rfl,l,rfl,⟨_,bj.of hL.lst⟩,λD hD=>?_⟩;have hfl:∀i,((ks.take i).flatMap λk=>k.ps).length<=40:=λi=>DS (m:=2) (by rw[Ut];omega) λk hk=>ho.ps k (List.mem_of_mem_take hk);refine x8 (xs:=as.map V.ref) (λi σ ys H'=>(∃o1 o2 o3 o4,σ=[o1,o2,o3,o4])/\ys=((ks.take i).flatMap λk=>k.ps).map V.str/\H' D=some (.lst ys)/\aG H H') ⟨⟨none,none,none,none,rfl⟩,rfl,ae,ag hD _⟩ ?_ ?_ ?_ ?_
 ·rintro i σ ys H' _ ⟨_,_,h,_⟩;exact h
 ·rintro i σ ys H' _ ⟨_,_,_,sm⟩;exact bj.of (sm _ _ hL.lst)
 ·rintro i v σ ys H' hv ⟨⟨o1,o2,o3,o4,rfl⟩,rfl,h,sm⟩;obtain⟨b',k',rfl,ek,hh,p,hk1,hk2,hk3⟩:=hL.get hv;have hpl:k'.ps.length<=20:=ho.ps k' (Ub ek);refine⟨b',_,rfl,aY.of (sm _ _ hk1),rfl,_,_,rfl,aj ⟨_,_,rfl,aj ⟨_,_,rfl,aj ⟨rfl,?_⟩⟩⟩⟩;refine⟨_,rfl,p,rfl,⟨_,aY.of (sm _ _ hk3)⟩,?_⟩;refine ni (xs:=k'.ps.map V.str) (λj σ zs H2=>(∃o1 o2 o3 o4,σ=[o1,o2,o3,o4])/\zs=((ks.take i).flatMap λk=>k.ps).map V.str++(k'.ps.take j).map V.str/\H2 D=some (.lst zs)/\aG H H2) ⟨⟨_,_,_,_,rfl⟩,by rw[List.take_zero,List.map_nil,UN],h,sm⟩ ?_ ?_ ?_ ?_
  ·rintro j σ zs H2 hj ⟨_,rfl,h2,_⟩;refine⟨h2,λ_=>?_⟩;rw[T1,TZ,TZ,Ut];have:=hfl i;exact T8 (show _<=60 by omega) (by decide)
  ·rintro j σ zs H2 _ ⟨_,_,_,s2⟩;exact aY.of (s2 _ _ hk3)
  ·rintro j v2 σ zs H2 hu' ⟨⟨o1,o2,o3,o4,rfl⟩,rfl,h2,s2⟩;rw[Us]at hu';cases es:k'.ps[j]? with
   |none=>rw[es]at hu';cases hu'
   |some s0 =>rw[es]at hu';have hv2:V.str s0=v2:=Up hu';subst hv2;refine aj ⟨_,rfl,h2,⟨_,_,_,_,rfl⟩,?_,ae,bo hD s2⟩;rw[take_one es,T4,List.append_assoc];rfl
  ·rintro σ zs H2 ⟨⟨o1,o2,o3,o4,rfl⟩,rfl,h2,s2⟩;refine⟨⟨_,_,_,_,rfl⟩,?_,h2,s2⟩;rw[TZ,UI,←T4,take_one ek,List.flatMap_append];show _=(_++(k'.ps++[])).map V.str;rw[UN]
 ·rintro σ ys H1 ⟨_,rfl,h1,s1⟩;rw[hla,UI]at h1;have hfl:=hfl ks.length;rw[UI]at hfl;refine aj ?_;dsimp only;have hL1:=hL.same s1;refine⟨_,rfl,_,rfl,l,rfl,⟨_,bj.of hL1.lst⟩,λD2 hD2=>?_⟩;refine fe (xs:=as.map V.ref) (λi σ ys H'=>(∃o1 o2 o3,σ=[o1,o2,o3])/\(∃bs:List Addr,ys=bs.map V.ref/\bs.length=i/\∀(j:Nat) a k,bs[j]? = some a->ks[j]? = some k->gD H1 a k.hd)/\H' D2=some (.lst ys)/\aG H1 H') ⟨⟨none,none,none,rfl⟩,⟨[],rfl,rfl,λj a k e=>by cases e⟩,ae,ag hD2 _⟩ ?_ ?_ ?_ ?_ ?_
  ·rintro i σ ys H' _ ⟨_,⟨bs,rfl,hi,_⟩,h,_⟩;exact⟨h,by rw[TZ];exact UP hi⟩
  ·rintro i σ ys H' _ ⟨_,_,_,sm⟩;exact bj.of (sm _ _ hL1.lst)
  ·rw[hla];exact TV hn2 (by decide)
  ·rintro i v σ ys H' hv ⟨⟨o1,o2,o3,rfl⟩,⟨bs,rfl,hi,hb⟩,h,sm⟩;obtain⟨b',k',rfl,ek,hh,p,hk1,hk2,hk3⟩:=hL1.get hv;refine⟨b',_,rfl,aY.of (sm _ _ hk1),rfl,_,_,rfl,aj ⟨_,_,rfl,aj ⟨_,_,rfl,aj ⟨rfl,?_⟩⟩⟩⟩;refine⟨_,rfl,h,⟨_,_,_,rfl⟩,⟨bs++[hh],by rw[T4];rfl,by rw[T1,hi];rfl,λj a k e1 e2=>?_⟩,ae,bo hD2 sm⟩;by_cases hj:j<bs.length
   ·rw[Ur hj]at e1;exact hb j a k e1 e2
   ·have hj':j=bs.length:=by have:=(Ug.mp e1).1;rw[T1]at this;simp at this;omega
    rw[hj',Uq (TU _),Nat.sub_self]at e1;cases e1;rw[hj',hi,ek]at e2;cases e2;exact hk2
  ·rintro σ ys H2 ⟨_,⟨bs,rfl,hi,hb⟩,h2,s2⟩;rw[hla]at hi;have s12:=s1.trans s2;refine⟨a,D2,x,bs,kO ks,rfl,ha.keep (aJ.of s12),yg h2 hi (λi a k e1 e2=>s2 _ _ (hb i a k e1 e2)),by rw[kO,TZ,ho.n],ho.ok.sm,⟨trivial,ho.fit,ho.ok.good,ho.ok.ne,λh hh=>by obtain⟨k,hk,rfl⟩:=Ui.mp hh;exact ho.hd k hk⟩,λu1 H3 s3 hu1=>?_⟩;have v9:=s12.trans s3;refine⟨_,rfl,_,rfl,a,x,rfl,ha.keep (aJ.of v9),cN,λu2 hu2=>?_⟩;have s4:=ag hu2 (.lst [V.str (bb x)]);refine⟨D,u2,_,_,rfl,rfl,s4 _ _ (s3 _ _ (s2 _ _ h1)),ae,by rw[TZ];exact TV (show _+1<=41 by omega) (by decide),λu3 sG=>?_⟩;have s5:=ag sG (.lst (((ks.flatMap λk=>k.ps).map V.str)++[V.str (bb x)]));have hmap:(ks.flatMap λk=>k.ps).map V.str++[V.str (bb x)]=((ks.flatMap λk=>k.ps)++[bb x]).map V.str:=by rw[T4];rfl
   refine⟨u3,_,rfl,.inl (bj.of ae),?_,.inr ⟨_,hmap⟩,λu4 ys rL hS=>?_⟩
   ·rw[T1,TZ];show _+1<64;omega
   have s6:=ag rL (.lst ys);have hys:∃ms:List Str,ys=ms.map V.str/\BP ms ((ks.flatMap λk=>k.ps)++[bb x]):=by
    rcases hS with⟨ns,ms,e1,e2,_⟩|⟨ns,ms,e1,e2,e3,e4⟩
    ·rw[hmap]at e1;cases ns with
     |nil=>rw[T4]at e1;simp at e1
     |cons n ns =>
      exfalso;have:V.int n∈((ks.flatMap λk=>k.ps)++[bb x]).map V.str:=by rw[e1];simp
      obtain⟨s,_,e⟩:=Ui.mp this;cases e
    ·rw[hmap]at e1;have:ns=(ks.flatMap λk=>k.ps)++[bb x]:=(List.map_inj_right (f:=V.str) (λa b e=>V.str.inj e)).mp e1.symm;subst this;exact⟨ms,e2,e3,e4⟩
   obtain⟨ms,rfl,hms⟩:=hys;refine⟨u4,_,rfl,.inl ⟨bj.of ae,λu5 Iu=>?_⟩⟩;have s7:=ag Iu (.tup (ms.map V.str));have Np:=s4.trans (s5.trans (s6.trans s7));have JF:upd (upd (upd (upd H3 u2 (.lst [V.str (bb x)])) u3 (.lst (((ks.flatMap λk=>k.ps).map V.str)++[V.str (bb x)]))) u4 (.lst (ms.map V.str))) u5 (.tup (ms.map V.str)) u5=some (.tup (ms.map V.str)):=ae;revert Np JF;generalize upd (upd (upd (upd H3 u2 (.lst [V.str (bb x)])) u3 (.lst (((ks.flatMap λk=>k.ps).map V.str)++[V.str (bb x)]))) u4 (.lst (ms.map V.str))) u5 (.tup (ms.map V.str))=H4;intro Np JF;have Ec:=v9.trans Np;refine⟨_,rfl,_,rfl,a,b,x,k,rfl,ha.keep (aJ.of Ec),hk.same Ec,ho.keep,λH5 s8=>?_⟩;have P_:=Ec.trans s8;have fin:∀(v:Bool)(H6:Hp),aG H5 H6->v=(fi x k||ks.any λk=>k.lo)->∀u6,H6 u6=none->Q (.ref u6) (upd H6 u6 (.tup [.ref u1,.ref u5,.bl v])):=by intro v H6 s9 hv u6 MA;have qC:=ag MA (.tup [.ref u1,.ref u5,.bl v]);have L4:=(s8.trans s9).trans qC;exact q u6 ⟨bf x (kO ks),ms,v⟩ _ ((P_.trans s9).trans qC) ⟨u1,u5,ae,L4 _ _ (Np _ _ hu1),L4 _ _ JF⟩ rfl hms hv
   refine⟨_,rfl,fw (λe=>?_) (λe=>?_)⟩
   ·exact⟨cm,fin true H5 (aG.refl _) (by rw[e];rfl)⟩
   have Ou:=hL.same P_;refine⟨_,rfl,l,rfl,⟨_,bj.of Ou.lst⟩,λD3 yI=>?_⟩;refine fe (xs:=as.map V.ref) (λi σ ys H'=>(∃o1 o2 o3,σ=[o1,o2,o3])/\ys=((ks.take i).map λk=>k.lo).map V.bl/\ys.length=i/\H' D3=some (.lst ys)/\aG H5 H') ⟨⟨none,none,none,rfl⟩,rfl,rfl,ae,ag yI _⟩ ?_ ?_ ?_ ?_ ?_
   ·rintro i σ ys H' _ ⟨_,_,hi,h,_⟩;exact⟨h,UP hi⟩
   ·rintro i σ ys H' _ ⟨_,_,_,_,sm⟩;exact bj.of (sm _ _ Ou.lst)
   ·rw[hla];exact TV hn2 (by decide)
   ·rintro i v σ ys H' hv ⟨⟨o1,o2,o3,rfl⟩,rfl,hi,h,sm⟩;obtain⟨b',k',rfl,ek,hh,p,hk1,hk2,hk3⟩:=Ou.get hv;refine⟨b',_,rfl,aY.of (sm _ _ hk1),rfl,_,_,rfl,aj ⟨_,_,rfl,aj ⟨_,_,rfl,aj ⟨rfl,?_⟩⟩⟩⟩;refine⟨_,rfl,h,⟨_,_,_,rfl⟩,?_,?_,ae,bo yI sm⟩
    ·rw[take_one ek,T4,T4];rfl
    ·rw[T1,hi];rfl
   ·rintro σ ys H' ⟨_,rfl,_,h,sm⟩;rw[hla,UI]at h;refine⟨D3,_,rfl,bj.of h,cm,fin _ H' sm ?_⟩;rw[Uk.mpr e,Bool.false_or,List.any_map];rfl
end My
namespace L2
open PySem PySem.Spec PyProof.Rows
section
variable{X:Cx}{tg e:Expr}
theorem PG.yC{g:TG}(h:PG X.yC tg g):PG X tg g:=λac s σ H v u Q I r hw =>
 Uv (h ac s σ H v u Q (I.wish _) r hw) (λ_ _ ⟨σ',H',I',q⟩=>⟨σ',H',I'.cQ,q⟩) λ_ _ z=>UJ z
theorem iF.yC{ifs:List Expr}{t:TT}(h:iF X.yC ifs t):iF X ifs t:=λac s σ H Q I hw =>
 Uv (h ac s σ H Q (I.wish _) hw) (λ_ _ ⟨H',I',q⟩=>⟨H',I'.cQ,q⟩) λ_ _ z=>UJ z
end
section
variable{X:Cx}{elt target iter:Expr}{ifs:List Expr}{sc:Scope}{pos:Pos}{wi:TI}{g:TG}{tc:TT}{te:TE}{N':List Str}{src:List (Option Nat)}{E:XK}{L:Addr}
theorem xW{it acc:Value}{env:Env}{prog:Program}{w:World}{A:Around}{s:Shared}{R:Result->Shared->Prop}{F:Value->Shared->Prop}(hF:∀ev s',F ev s'->notedBy (model prog w) A env (λx s'=>R (.error x) s') ev s')(Iv:Nat->Shared->Prop)
  (turn:∀n s,Iv n s->wpAny (model prog w) A (pyNext it) (λr s₁=>match r with
   |none=>R (.ok .next) s₁
   |some v=>wpAny (model prog w) A (letOwnedTupleGo target it v) (λ_ s₁'=>wpAny (model prog w) A (assign target env v) (λ_ s₂ =>
     wpAny (model prog w) A (forIn ifs true λc r=>if r=true then do let ok←isTrue c env (eval c env);pure (ForInStep.yield ok)else pure (ForInStep.yield r)) (λok s₃ =>
      if ok=true then wpAny (model prog w) A (eval elt env) (λx s₄ =>
       wpAny (model prog w) A (call (.builtin "list.append") [acc,x]) (λ_ s₅=>∃m,m<n/\Iv m s₅) F s₄) F s₃
      else∃m,m<n/\Iv m s₃) F s₂) F s₁') F s₁) F s)
  (n:Nat) (h:Iv n s):codeAny (model prog w) A (.compLoop (.ListComp elt [⟨target,iter,ifs,0⟩] sc pos) 0 it acc env) R s:=by
 refine codeAny_loop rfl Iv (λn s hI=>?_) n h;show wpAny _ A ((compTurn (.ListComp elt [⟨target,iter,ifs,0⟩] sc pos) 0 it acc env).onRaise (λx=>do noteFrame x env;theTreesLotGoes x)) _ _ s;refine wpAny_noted ?_;rw[compTurn_list];refine Uv (E:=F) ?_ (λ_ _ z=>z) hF;refine TK (wpAny_standAt (TK (bJ (turn n s hI) λr s₁ h₁=>?_)));cases r with
 |none=>exact TM h₁
 |some v =>
  refine TK (bJ h₁ λ_ s₁' h₁'=>TK (bJ h₁' λ_ s₂ h₂=>TK (bJ h₂ λok s₃ h₃=>?_)));cases ok with
  |false=>exact TM ⟨rfl,h₃⟩
  |true=>exact TK (TK (bJ h₃ λx s₄ h₄=>TK (bJ h₄ λ_ s₅ h₅=>TM (TM ⟨rfl,h₅⟩))))
theorem xg{ac:List (Addr×Obj)}{σ:St}{H2:Hp}{s3:Shared}{fp:List Addr}{cl:List (Str×Addr)}{use:Option (Value->Sem Unit)}{QQ:Value->Shared->Prop}{acc:Value}{ev:Value}{s':Shared}(tp:Top X L)(I3:Inv X ac σ H2 s3)
  (f3:∀b∈fp,cS X ac H2 b) (h:XE (aD X N' sc cl s3.heap.objs.size s3 H2 fp) E ev s') :
  notedBy (model X.prog X.w) X.A (compEnvC sc cl s3.heap.objs.size X.env) (λx s''=>compPost (model X.prog X.w) X.A (XE X E) use QQ acc s3.heap.objs.size (.error x) s'') ev s':=by
 obtain⟨e,C,od,σ',H,rfl,I,f,hE⟩:=h;have Sx:Top (aD X N' sc cl s3.heap.objs.size s3 H2 fp) L:=⟨tp.ex,tp.fr⟩;refine oX (X:=aD X N' sc cl s3.heap.objs.size s3 H2 fp) I.ok.frames Sx tp.fr I f λs5 T I5 f5=>?_;obtain⟨m6,n6,_⟩:=id I5.loc;have fin:∃m,s5.heap.Ns s3.heap.objs.size m/\∀h',Heap.SameBut s3.heap.objs.size s5.heap h'->∀cenv:Env,cenv.locals=s3.heap.objs.size->wpAny (model X.prog X.w) X.A (PySem.passOn "comprehension.variables-let-go" (.ref e) cenv:Sem Value) (λ_ _=>False) (XE X E) {s5 with heap:=h'}:=by
  refine⟨m6,n6,λh' sb cenv hcl=>?_⟩;have J:Inv X [] σ H s5:=(I3.call' I5.os I5.base I5.hok I5.bare λb hb=>⟨(f3 b hb).2.2.2.1,(f3 b hb).2.1,(f3 b hb).2.2.2.2.1,(f3 b hb).2.2.2.2.2⟩).gV (pins':=[]) λp hp=>UC hp (by simp);have fC:cS X [] H s3.heap.objs.size:=by have z:=I3.nC (H':=H) (b:=s3.heap.objs.size) (TU _) I5.free;exact⟨z.1,z.2.1,z.2.2.1,z.2.2.2.1,z.2.2.2.2.1,λp hp=>z.2.2.2.2.2 p (List.mem_append_left _ (by simpa using hp))⟩
  have J2:Inv X [] σ H {s5 with heap:=h'}:=J.turned (t':=s5.toks) (λb o hb z=>(sb.2 b hb).trans z) fC.1 fC.2.1 fC.2.2.2.1 fC.2.2.2.2.1 fC.2.2.2.2.2;obtain⟨vs,sl,g1,g2⟩:=f5.obj;obtain⟨oT,ts,t1,t2,t3⟩:=f5.tb.obj;have Kp:∀b,H b≠none->b≠s3.heap.objs.size:=λb hb z=>hb (by rw[z];exact I5.free);have neT:T≠s3.heap.objs.size:=λz=>by obtain⟨o,es,ep,ho,hd,_⟩:=n6;have ho':s5.heap.get? s3.heap.objs.size=some o:=ho;rw[z,ho']at t1;cases t1;rw[hd]at t2;cases t2
  have f6:qz X H h' e C od T:=⟨f5.at_,⟨vs,sl,(sb.2 e (Kp e (by rw[f5.at_];simp))).trans g1,g2⟩,f5.tb.free,TV I3.sz f5.tb.new,λp hp z=>by have:=(I3.pin p (List.mem_append_left _ hp)).1;exact UC (T9 (TQ this) f5.tb.new) (by rw[z];exact Nat.lt_irrefl _),oT,ts,(sb.2 T neT).trans t1,t2,t3⟩
  obtain⟨vs',sl',R6,Ks⟩:=f6.obj;unfold PySem.passOn;refine TK (wpAny_field R6 rfl Ks ?_);have ne:¬((Value.ref T==Value.none)=true):=by simp
  rw[UD ne];have go:=f_ (M:=model X.prog X.w) (A:=X.A) (E:=XE X E) (Q:=λ_ s7=>wpAny (model X.prog X.w) X.A (throw (.ref e):Sem Value) (λ_ _=>False) (XE X E) s7) J2 f6 cenv.frame λs7 I7 f7=>wpAny_throw ⟨e,C,od,σ,H,rfl,I7,f7.PM,hE⟩;first
   |exact TK go
   |exact TK (TM (TK go))
 cases use<;>exact fin
theorem vd{ac:List (Addr×Obj)}{σ:St}{H2:Hp}{s2:Shared}{it:Addr}{fp:List Addr}{tn:Nat->Heap->Prop}{J:It}{Q:VK}{E2:Value->Shared->Prop}{use:Option (Value->Sem Unit)}{QQ:Value->Shared->Prop}
  (hc:X.calm=true) (tp:Top X L) (S:bh X.env.scope X.N N' src sc)
  (hg:∀cl C s H fp,PG ((aD X N' sc cl C s H fp).xs E) target g) (ht:∀cl C s H fp,iF ((aD X N' sc cl C s H fp).xs E) ifs tc) (he:∀cl C s H fp,PE ((aD X N' sc cl C s H fp).xs E) elt te)
  (I2:Inv X ac σ H2 s2) (T:Turn X.prog X.w X.K target J fp it tn) (st2:tn 0 s2.heap) (f2:∀b∈fp,cS X ac H2 b)
  (hW:∀D,H2 D=none->∃W:Nat->Nat->St->List V->Hp->Prop,(∃m,W 0 m (iW src σ) [] (upd H2 D (.lst [])))/\oi J g tc te D Q W)
  (hRR:∀D C s5 H' m,Inv X ac σ H' s5->s5.heap.Ns C m->cS X ac H' C->Q (.ref D) H'->compPost (model X.prog X.w) X.A (XE X E) use QQ (.ref D) C (.ok .next) s5) :
  wpAny (model X.prog X.w) X.A (newList []) (λacc s₃=>wpAny (model X.prog X.w) X.A (newFunctionEnv sc X.env.globals (bq X.env.cells sc.names []) [] X.env.qual none .none (some X.env)) (λcenv s₄ =>
   codeAny (model X.prog X.w) X.A (.compStart (.ListComp elt [⟨target,iter,ifs,0⟩] sc pos) 0 (.ref it) acc {cenv with scope:=relabel sc X.env}) (compPost (model X.prog X.w) X.A (XE X E) use QQ acc cenv.locals) s₄) E2 s₃) E2 s2:=by
 have o2:∀b∈fp,b<s2.heap.objs.size:=λb hb=>by obtain⟨o,z,_⟩:=T.obj 0 _ st2 b hb;exact TQ z
 refine Ux ?_;have EY:H2 s2.heap.objs.size=none:=I2.hok.fresh (TU _);obtain⟨W,⟨m0,w0⟩,turn⟩:=hW s2.heap.objs.size EY;have I3:Inv X ac σ (upd H2 s2.heap.objs.size (.lst [])) {s2 with heap:=s2.heap.push {cls:=.type "list",dict:=none,data:=.seq ([]:List Value).toArray}} :=
  I2.laid (t':=s2.toks) (λb u z=>TN _ z) (TU _) ⟨Uo _,[],0,.nil,TR _ rfl⟩
 have st3:tn 0 (s2.heap.push {cls:=.type "list",dict:=none,data:=.seq ([]:List Value).toArray}):=T.keep 0 _ _ st2 λb hb o z=>TN _ z;generalize hs3:({s2 with heap:=s2.heap.push {cls:=.type "list",dict:=none,data:=.seq ([]:List Value).toArray}}:Shared)=s3 at I3;have hh3:s3.heap=s2.heap.push {cls:=.type "list",dict:=none,data:=.seq ([]:List Value).toArray}:=by rw[←hs3]
 have Be:s2.heap.objs.size<s3.heap.objs.size:=by rw[hh3,Heap.size_push];exact Nat.lt_succ_self _
 have o3:∀b∈fp,b<s3.heap.objs.size:=λb hb=>Nat.lt_trans (o2 b hb) Be;have f3:∀b∈fp,cS X ac (upd H2 s2.heap.objs.size (.lst [])) b:=λb hb=>⟨by rw[aI (Um (o2 b hb))];exact(f2 b hb).1,(f2 b hb).2⟩;rw[←hh3]at st3;refine wpAny_newFunctionEnv S.nH (by intro y hy;simp at hy) (λh1 hns hsb=>?_) S.kind;have hsb':Heap.SameBut s3.heap.objs.size (s3.heap.push {cls:=.type "dict",data:=.dict #[]}) h1:=hsb;generalize hY:aD X N' sc (bq X.env.cells sc.names []) s3.heap.objs.size s3 (upd H2 s2.heap.objs.size (.lst [])) fp=Y;have I4:Inv Y [] (iW src σ) (upd H2 s2.heap.objs.size (.lst [])) {s3 with heap:=h1,toks:=s3.toks+([]:List (Str×Value)).length}:=by rw[←hY];exact gy S I3 f3 o3 hns hsb'
 have yX:tn 0 h1:=T.keep 0 _ _ st3 λb hb o z=>(hsb'.2 b (Um (o3 b hb))).trans (TN _ z);have fC:∀(H':Hp),H' s3.heap.objs.size=none->cS X ac H' s3.heap.objs.size:=λH' hn=>I3.nC (TU _) hn;have loop:codeAny (model X.prog X.w) X.A (.compLoop (.ListComp elt [⟨target,iter,ifs,0⟩] sc pos) 0 (.ref it) (.ref s2.heap.objs.size) (compEnvC sc (bq X.env.cells sc.names []) s3.heap.objs.size X.env))
   (compPost (model X.prog X.w) X.A (XE X E) use QQ (.ref s2.heap.objs.size) s3.heap.objs.size) {s3 with heap:=h1,toks:=s3.toks+([]:List (Str×Value)).length}:=by
  have stat:∀{H':Hp},(∀b∈fp,H' b=none)->∀b∈fp,cS (Y.xs E) [] H' b:=λhn b hb=>by have z:=I4.ok;subst hY;exact⟨hn b hb,(z.xh b hb).1,z.oC b hb,.inl hb,(z.xh b hb).2,λp hp=>UC (show p∈([]:List (Addr×Obj)) from hp) (by simp)⟩
  have N9:=hg (bq X.env.cells sc.names []) s3.heap.objs.size s3 (upd H2 s2.heap.objs.size (.lst [])) fp;have htY:=ht (bq X.env.cells sc.names []) s3.heap.objs.size s3 (upd H2 s2.heap.objs.size (.lst [])) fp;have Oj:=he (bq X.env.cells sc.names []) s3.heap.objs.size s3 (upd H2 s2.heap.objs.size (.lst [])) fp;refine xW (F:=XE Y E) (λev s' hx=>by subst hY;exact xg tp I3 f3 hx) (λn s'=>∃i σ' ys H',Inv (Y.xs E) [] σ' H' s'/\tn i s'.heap/\(∀b∈fp,H' b=none)/\W i n σ' ys H') ?_ m0
   ⟨0,_,[],_,I4.wish _,yX,λb hb=>(f3 b hb).1,w0⟩
  rintro n s5 ⟨i,mj,ys,H5,I5,qN,sF,w5⟩;obtain⟨hD,alt⟩:=turn i n mj ys H5 w5;subst hY;rcases alt with⟨stop,qn⟩|⟨go,hsz,N,hN,step⟩
  ·refine bJ (T.done ((aD X N' sc (bq X.env.cells sc.names []) s3.heap.objs.size s3 (upd H2 s2.heap.objs.size (.lst [])) fp).xs E) rfl rfl rfl hc i [] s5 mj H5 _ I5 (stat sF) qN stop) λr s6 zz=>?_;obtain⟨hr,I6⟩:=zz;subst hr;obtain⟨m6,n6,_⟩:=id I6.loc;exact hRR _ _ s6 H5 m6 (I3.call' I6.os I6.base I6.hok I6.bare λb hb=>⟨(f3 b hb).2.2.2.1,(f3 b hb).2.1,(f3 b hb).2.2.2.2.1,(f3 b hb).2.2.2.2.2⟩) n6 (fC _ I6.free) qn
  ·refine bJ (T.item ((aD X N' sc (bq X.env.cells sc.names []) s3.heap.objs.size s3 (upd H2 s2.heap.objs.size (.lst [])) fp).xs E) rfl rfl rfl hc i [] s5 mj H5 _ I5 (stat sF) qN go) λr s6 zz=>?_;obtain⟨u,hr,h6⟩:=zz;subst hr;refine bJ h6 λ_ s7 zz=>?_;obtain⟨x,H7,I7,r7,y7,pf,Dw⟩:=zz;have Bm:=I7.pinned (stat Dw) (T.obj _ _ pf);refine bJ (N9 _ s7 mj H7 x u _ Bm r7 (step x H7 y7)) λ_ s8 zz=>?_;obtain⟨qD,H8,I8,q8⟩:=zz;refine bJ (htY _ s8 qD H8 _ I8 q8) λb s9 zz=>?_;obtain⟨H9,I9,q9⟩:=zz;have again:∀{σ':St}{H':Hp}{s':Shared}{ys':List V}{m':Nat},Inv ((aD X N' sc (bq X.env.cells sc.names []) s3.heap.objs.size s3 (upd H2 s2.heap.objs.size (.lst [])) fp).xs E) ([]++jg fp s7.heap) σ' H' s'->m'<n->W (i+1) m' σ' ys' H'->
     ∃m,m<n/\∃i σ' ys H',Inv ((aD X N' sc (bq X.env.cells sc.names []) s3.heap.objs.size s3 (upd H2 s2.heap.objs.size (.lst [])) fp).xs E) [] σ' H' s'/\tn i s'.heap/\(∀b∈fp,H' b=none)/\W i m σ' ys H':=λ{σ' H' s' ys' m'} I' hm w'=>by
    refine⟨m',hm,i+1,σ',ys',H',I'.fD,T.keep _ _ _ pf λb hb o z=>(I'.pin (b,o) (Ua _ (Ua _ (b9 hb z)))).1,λb hb=>?_,w'⟩;obtain⟨o,z,d⟩:=T.obj _ _ pf b hb;exact(I'.pin (b,o) (Ua _ (Ua _ (b9 hb z)))).2.1
   cases b with
   |false =>rw[UD Ud]at q9⊢;obtain⟨m',hm,w'⟩:=hN _ _ _ q9;exact again I9 hm w'
   |true =>rw[UE rfl]at q9⊢;refine bJ (Oj _ s9 qD H9 _ I9 q9) λxv qC zz=>?_;obtain⟨v,xJ,JV,r10,D0,w10⟩:=zz;obtain⟨m',hm,w'⟩:=hN _ _ _ w10;have IL:oQ (.ref s2.heap.objs.size) [v] xJ λ_ H'=>H'=upd xJ s2.heap.objs.size (.lst (ys++[v])):=⟨_,ys,v,rfl,rfl,D0,hsz,rfl⟩;refine bJ (cw _ qC qD xJ _ _ _ _ _ JV (show RelV (.ref s2.heap.objs.size) (.ref s2.heap.objs.size) from rfl) (.cons r10 .nil) IL) λ_ Ml zz=>?_;obtain⟨_,Gw,Eg,_,LP⟩:=zz;rw[LP]at Eg;exact again Eg hm w'
 exact codeAny_compStart_list loop (T.self _ 0 _ _ _ yX loop)
theorem zr(hc:X.calm=true)(tp:Top X L)(S:bh X.env.scope X.N N' src sc)(hi:PI (X.xs E) target iter wi)
  (hg:∀cl C s H fp,PG ((aD X N' sc cl C s H fp).xs E) target g) (ht:∀cl C s H fp,iF ((aD X N' sc cl C s H fp).xs E) ifs tc) (he:∀cl C s H fp,PE ((aD X N' sc cl C s H fp).xs E) elt te)
  (hs:∀x,foldedSetIterable iter X.env x=pure x:=by intro _;rfl) :
  PE (X.xs E) (.ListComp elt [⟨target,iter,ifs,0⟩] sc pos) (D8 src wi g tc te):=by
 intro ac s σ H Q I h;rw[eval_ListComp];refine wpAny_comprehension_free (use:=none) rfl hs (cB λy hy hk=>I.ok.has y.1 (S.free y hy hk)) S.kind (λy hy hl=>by rw[←hl];exact S.uniq y hy) ?_;refine bJ (hi ac s σ H _ I h) λv s1 h1=>bJ h1 λitv s2 h2=>?_;obtain⟨it,fp,tn,J,H2,z,I2,T,st2,f2,hW⟩:=h2;subst z;refine vd (Q:=Q) (QQ:=EP (X.xs E) ac σ Q) (use:=none) hc tp S hg ht he I2.cQ T st2 f2 hW ?_;intro D C s5 H' m I5 n5 fC q;refine⟨m,n5,λh' sb=>⟨.ref D,H',?_,rfl,q⟩⟩;exact(I5.turned (t':=s5.toks) (λb o hb z=>(sb.2 b hb).trans z) fC.1 fC.2.1 fC.2.2.2.1 fC.2.2.2.2.1 fC.2.2.2.2.2).wish _
end
section
variable{X:Cx}{ac:List (Addr×Obj)}{σ:St}{H:Hp}{s:Shared}
theorem gU{M:Model}{A:Around}{E2:Value->Shared->Prop}{i:Nat}{n:Str}{pos:Pos}{Q:Unit->Shared->Prop}(I:Inv X ac σ H s)(hN:X.N.Nodup)(hi:X.N[i]? = some n)(hk:X.env.scope.names.lookup n=some .local)
  (q:∀s',Inv X ac (σ.set i none) H s'->Q () s'):wpAny M A (do bindName X.env n .none;unbindBehindTheSuite X.env n pos) Q E2 s:=by
 refine TK (wpAny_bindName (gu I hN hi (.inl hk) (show RelV .non .none from rfl) (λs1 I1=>?_) (.inr hk)));have Ck:i<σ.length:=by rw[I.len];exact(Ug.mp hi).1
 obtain⟨m,hn,hl⟩:=id I1.loc;obtain⟨u,ru,lk⟩:=hl i n .non hi (List.getElem?_set_self Ck) (.inl hk);have hv:m n=some u:=by
  rcases lk with⟨_,z⟩|⟨z,_⟩
  ·exact z
  ·have hk':X.env.kindOf n=some .local:=hk;rw[hk']at z;rcases z with z|z<;>cases z
 have hp:(X.env.scope.kind == .class||(X.env.scope.kind == .module&&X.env.locals != X.env.globals))=false:=by rw[I.ok.kind];rfl
 unfold unbindBehindTheSuite;refine wpAny_onRaise (wpAny_unbindName_local hk hn hv hp λh' u' hn' hs=>q _ ?_);obtain⟨oL,_,_,hoL,_⟩:=id hn;have below:∀b o,X.s₀.heap.get? b=some o->b≠X.env.locals:=λb o z=>Um (T9 (TQ z) I1.ok.above);refine⟨I1.ok,I1.os,I1.bare,⟨λb o z nn hb hx=>(hs.2 b (below b o z)).trans (I1.base.keep b o z nn hb hx),λb o z nn hb hx=>?_,I1.base.free,λb o z hx=>?_,I1.base.tups,I1.base.qa,I1.base.rd⟩,⟨_,hn',λj y v' e1 e2 e3=>?_⟩,λy c z=>?_,I1.free,I1.gE,λp hp'=>?_,λb ob z=>?_,by simpa using I.len⟩
 ·obtain⟨sl,z1⟩:=I1.base.slot b o z nn hb hx;exact⟨sl,(hs.2 b (below b o z)).trans z1⟩
 ·obtain⟨o',z1⟩:=I1.base.there b o z hx;exact⟨o',(hs.2 b (below b o z)).trans z1⟩
 ·have hj:j≠i:=λz=>by rw[z,List.getElem?_set_self Ck]at e2;cases e2
  rw[List.getElem?_set_ne (Ne.symm hj)]at e2;obtain⟨u2,r2,S6⟩:=hl j y v' e1 (by rw[List.getElem?_set_ne (Ne.symm hj)];exact e2) e3;refine⟨u2,r2,?_⟩;have QB:y≠n:=λz=>hj (p5 hN e1 (z▸hi));rcases S6 with⟨k,z⟩|⟨k,c,z1,z2⟩
  ·exact .inl ⟨k,by simp[QB,z]⟩
  ·exact .inr ⟨k,c,z1,z2.sameBut hs (I1.Fy y c z1)⟩
 ·obtain⟨w',z1⟩:=I1.cell y c z;exact⟨w',z1.sameBut hs (I1.Fy y c z)⟩
 ·obtain⟨z1,z2,z3,z4,z5⟩:=I1.pin p hp';exact⟨(hs.2 p.1 z3).trans z1,z2,z3,z4,z5⟩
 ·refine(I1.hok b ob z).stay (λc w' hc z1=>(hs.2 c ?_).trans z1) (λ_ z1=>z1) λ_ _ z1=>z1;rintro rfl;rcases hc with rfl|hc
  ·rw[I1.free]at z;cases z
  ·rw[I1.free]at hc;cases hc
end
abbrev Cx.bear(X:Cx)(ac:List (Addr×Obj)):Cx:={X with pn:=X.pn++ac}
abbrev Cx.r0(X:Cx)(e:Addr):Cx:={X with A:=X.A.mark (some (.ref e)),calm:=false,xe:=λ_ _=>False}
section
variable{X:Cx}{ac:List (Addr×Obj)}{σ:St}{H:Hp}{s:Shared}
theorem Inv.bear(I:Inv X ac σ H s):Inv (X.bear ac) [] σ H s :=
 ⟨⟨I.ok.mod,I.ok.kind,I.ok.glob,I.ok.blt,I.ok.above,I.ok.inj,I.ok.has,I.ok.cab,I.ok.hd,I.ok.frames,I.ok.Im,I.ok.xh,I.ok.bs,I.ok.Au,I.ok.vj,I.ok.oC,I.ok.lx,I.ok.Ek⟩,I.os,I.bare,I.base,I.loc,I.cell,I.free,I.gE,λp hp=>I.pin p (by simpa using hp),I.hok,I.len⟩
theorem Inv.lr(I:Inv (X.bear ac) [] σ H s):Inv X ac σ H s :=
 ⟨⟨I.ok.mod,I.ok.kind,I.ok.glob,I.ok.blt,I.ok.above,I.ok.inj,I.ok.has,I.ok.cab,I.ok.hd,I.ok.frames,I.ok.Im,I.ok.xh,I.ok.bs,I.ok.Au,I.ok.vj,I.ok.oC,I.ok.lx,I.ok.Ek⟩,I.os,I.bare,I.base,I.loc,I.cell,I.free,I.gE,λp hp=>I.pin p (by simpa using hp),I.hok,I.len⟩
theorem Inv.r0(I:Inv X ac σ H s)(e:Addr):Inv (X.r0 e) ac σ H s :=
 ⟨⟨I.ok.mod,I.ok.kind,I.ok.glob,I.ok.blt,I.ok.above,I.ok.inj,I.ok.has,I.ok.cab,(λz=>UC (show false=true from z) (by decide)),I.ok.frames,I.ok.Im,I.ok.xh,I.ok.bs,I.ok.Au,I.ok.vj,I.ok.oC,I.ok.lx,I.ok.Ek⟩,I.os,I.bare,I.base,I.loc,I.cell,I.free,I.gE,I.pin,I.hok,I.len⟩
theorem Inv.vT{e:Addr}(ok:X.Ok)(I:Inv (X.r0 e) ac σ H s):Inv X ac σ H s:=⟨ok,I.os,I.bare,I.base,I.loc,I.cell,I.free,I.gE,I.pin,I.hok,I.len⟩
end
abbrev Kq(t:Addr):Array Value:=#[.ref t,.none,.none,.none,.bool false,.none]
abbrev xF(a C:Addr)(od:Option Addr):HO:=.ext λh=>∃t sl,h.get? a=some {cls:=.ref C,dict:=od,data:=.fields (Kq t),slots:=sl}
section
variable{P:Program}{w:World}{H:Hp}{h h':Heap}{a C d:Addr}{od:Option Addr}{fs:List (Str×V)}{o:HO}
theorem GV{tt:Addr}{sl:Array (Option Value)}(e:h.get? a=some {cls:=.ref C,dict:=od,data:=.fields (Kq tt),slots:=sl}):cc P w H h a (xF a C od) :=
 ⟨⟨tt,sl,e⟩,⟨_,e⟩,λ_ _ ⟨tt,sl,e⟩ k=>⟨tt,sl,k _ e⟩⟩
end
section
variable{X:Cx}{ac:List (Addr×Obj)}{σ:St}{H:Hp}{s:Shared}{a C dx:Addr}{fs:List (Str×V)}{f:Str}{v y:V}{u:Value}{A:Around}{E:Value->Shared->Prop}
theorem HH{Q:Unit->Shared->Prop}(I:Inv X ac σ H s)(e:H a=some (xF a C (some dx)))(ed:H dx=some (xD dx fs))(c:jo X.K C)(n:jh X.K C f)(hz:fs.length<1000)(ry:RelV y u)
  (h:∀s',Inv X ac σ (upd H dx (xD dx (oK f y fs))) s'->Q () s'):wpAny (model X.prog X.w) A (setAttr (.ref a) f u) Q E s:=by
 obtain⟨⟨tt,sl,ha⟩,_⟩:=I.hok a _ e;obtain⟨⟨mA,ns,r⟩,_⟩:=I.hok dx _ ed;obtain⟨od,ho,hl⟩:=nh ns;have J:PySem.W.InstAt s.heap a {cls:=.ref C,dict:=some dx,data:=.fields (Kq tt),slots:=sl} C (some od):=⟨ha,rfl,rfl,ho⟩;have wi:=rC r;have ND:(fs.map (·.1)).length+1<=sizeLine:=by rw[TZ,sizeLine_eq];omega
 obtain⟨cd,PE,hc,_,hd'⟩:=c.cls;refine PySem.W.set_plain I.i0 J c.sa (rm (s:={s with toks:=s.toks+1}) c I.i0 J n λb=>?_);refine TK (TM (TK (TK (wpAny_loadPart ha (TK (PySem.W.Looks.here (s:={s with toks:=s.toks+1}) (PySem.W.looks_clsIn I.i0 hc) ?_))))));rw[hd'];refine TM (a:=some dx) (TK (TM (TK ?_)));refine wpAny_nsSet1 (s:={s with toks:=s.toks+1}) ns λh' hn2 hs2=>?_;obtain⟨oD,esD,epD,hoD,hdD,hcD⟩:=hn2.count (PySem.Within.cons f u wi);refine TK (wpAny_lookBehind hoD (by rw[hdD];exact pastItsLine_dict (TV hcD (by rw[Uz];exact Nat.le_succ_of_le ND))) ?_);refine TM (h _ ?_);refine I.write (x:=dx) (e:=dx) (by rw[ed];exact True.intro) (.inl rfl) (λb q hb z=>(hs2.2 b hb).trans z) ⟨_,hoD⟩ (DW hn2 λg=>?_);show iD ((oK f y fs).lookup g) (if g=f then some u else mA g);rw[eA];by_cases q:g=f
 ·rw[UE q,UE q];exact ry
 ·rw[UD q,UD q];exact r g
theorem IG{Q:Unit->Shared->Prop}(I:Inv X ac σ H s)(e:H a=some (xF a C none))(c:jo X.K C)(n:jh X.K C f)(ry:RelV y u)
  (h:∀dx s',H dx=none->Inv X ac σ (upd (upd (upd H dx (xD dx [])) a (xF a C (some dx))) dx (xD dx (oK f y []))) s'->Q () s'):wpAny (model X.prog X.w) A (setAttr (.ref a) f u) Q E s:=by
 obtain⟨⟨tt,sl,ha⟩,_⟩:=I.hok a _ e;have J:PySem.W.InstAt s.heap a {cls:=.ref C,dict:=none,data:=.fields (Kq tt),slots:=sl} C none:=⟨ha,rfl,rfl,True.intro⟩;obtain⟨cd,PE,hc,_,hd'⟩:=c.cls;refine PySem.W.set_plain I.i0 J c.sa (rm (s:={s with toks:=s.toks+1}) c I.i0 J n λb=>?_);refine TK (TM (TK (TK (wpAny_loadPart ha (TK (PySem.W.Looks.here (s:={s with toks:=s.toks+1}) (PySem.W.looks_clsIn I.i0 hc) ?_))))));rw[hd'];have na:a≠s.heap.objs.size:=Um (TQ ha);have fr:H s.heap.objs.size=none:=I.hok.fresh (TU _);have hgd:(s.heap.push {cls:=.type "dict",data:=.dict #[]}).get? s.heap.objs.size=some {cls:=.type "dict",data:=.dict #[]}:=TR _ rfl;have hn0:(s.heap.push {cls:=.type "dict",data:=.dict #[]}).Ns1 s.heap.objs.size (λ_=>none):=Heap.Ns1.of_empty ⟨_,#[],_,hgd,rfl,λe he=>UC he (by simp),λ_=>rfl⟩;have I1:Inv X ac σ (upd H s.heap.objs.size (xD s.heap.objs.size [])) {s with heap:=s.heap.push {cls:=.type "dict",data:=.dict #[]},toks:=s.toks+1} :=
  I.laid (λb u q=>TN _ q) (TU _) (DW hn0 λg=>True.intro)
 have ha1:(s.heap.push {cls:=.type "dict",data:=.dict #[]}).get? a=some {cls:=.ref C,dict:=none,data:=.fields (Kq tt),slots:=sl}:=TN _ ha;refine TK (wpAny_alloc' ?_);refine TK (wpAny_update' ha1 ?_);have ha2:((s.heap.push {cls:=.type "dict",data:=.dict #[]}).update a λo=>{cls:=o.cls,dict:=some s.heap.objs.size,data:=o.data,slots:=o.slots}).get? a=some {cls:=.ref C,dict:=some s.heap.objs.size,data:=.fields (Kq tt),slots:=sl}:=Heap.get?_update_self _ ha1 rfl;have I2:Inv X ac σ (upd (upd H s.heap.objs.size (xD s.heap.objs.size [])) a (xF a C (some s.heap.objs.size))) {s with heap:=(s.heap.push {cls:=.type "dict",data:=.dict #[]}).update a λo=>{cls:=o.cls,dict:=some s.heap.objs.size,data:=o.data,slots:=o.slots},toks:=s.toks+1} :=
  I1.write (x:=a) (e:=a) (by rw[aI na,e];exact True.intro) (.inl rfl) (λb q hb z=>(Heap.get?_update_ne _ _ _ _ hb).trans z) ⟨_,ha2⟩ (GV ha2)
 have hd2:=I2.hok s.heap.objs.size (xD s.heap.objs.size []) (by rw[aI (Ne.symm na)];exact ae);obtain⟨⟨mA,ns,r⟩,_⟩:=hd2;refine TM (TK (TM (TK ?_)));refine wpAny_nsSet1 (s:={s with heap:=(s.heap.push {cls:=.type "dict",data:=.dict #[]}).update a λo=>{cls:=o.cls,dict:=some s.heap.objs.size,data:=o.data,slots:=o.slots},toks:=s.toks+1}) ns λh' hn2 hs2=>?_;obtain⟨oD,esD,epD,hoD,hdD,hcD⟩:=hn2.count (PySem.Within.cons f u (rC r));refine TK (wpAny_lookBehind hoD (by rw[hdD];exact pastItsLine_dict (TV hcD (by show 1<=sizeLine+1;exact Nat.succ_le_succ (Uo _)))) ?_);refine TM (h s.heap.objs.size _ fr ?_);refine I2.write (x:=s.heap.objs.size) (e:=s.heap.objs.size) (by rw[aI (Ne.symm na),ae];exact True.intro) (.inl rfl) (λb q hb z=>(hs2.2 b hb).trans z) ⟨_,hoD⟩ (DW hn2 λg=>?_);show iD ((oK f y []).lookup g) (if g=f then some u else mA g);rw[eA];by_cases q:g=f
 ·rw[UE q,UE q];exact ry
 ·rw[UD q,UD q];exact r g
end
section
variable{X:Cx}{CX:rb}{k:Nat}{f C:Addr}{fd:FuncData}{ps:List Str}{sp:Sp}{E:XK}{x:Str}{p pos:Pos}{e:Expr}{es:List Expr}{t:TA}
theorem Inv.L_{ac:List (Addr×Obj)}{σ:St}{H:Hp}{s:Shared}{h':Heap}{a:Addr}{rest:List Value}(I:Inv X ac σ H s)(m:Heap.MadeExcOf s.heap h' a (.ref C) rest):H a=none/\Inv X ac σ (upd H a (xF a C none)) {s with heap:=h'}:=by obtain⟨t,et,_,_⟩:=m.there;have hn:=I.hok.none_of m.new;exact⟨hn,I.un (t':=s.toks) (Un.laidN m.keeps m.new hn) (I.hok.laidN m.keeps m.new (GV et))⟩
def Lr(C:Addr)(sp:Sp)(E:XK)(t:TA):TE:=λσ H Q=>t σ H λvs H1=>vs.length<=sizeLine/\∀a,H1 a=none->sp (.ref a::vs) (upd H1 a (xF a C none)) (λv H2=>v=.non/\Q (.ref a) H2) E
theorem FP(hx:iR X.K C ua "ValueError.__new__" (some (.ref f))=true)(hk:PySem.W.keepIn X.K (.ref C)=true)(hf:PySem.W.isFn X.K (.ref f)=true)(F:e7 X.prog X.w X.K X.mg X.base CX k f fd ps sp)(hr:dH (k+1) X.A)(hg:Gl X x)(hm:X.mg x=some (.ref C))
  (hb:Binds X.K fd ps []) (hpx:Passes CX X E) (ha:PA X (e::es) t)
  (hdb:(x==("__debug__" : Str))=false:=by decide) (he:starEach (e::es) X.env=(false,eval e X.env)::starEach es X.env:=by rfl) (hpl:(backTo pos (starEach es X.env)).any (·.1)=false:=by rfl) :
  PE X (.Call (.Name x p) (e::es) [] pos) (Lr C sp E t):=by
 intro ac s σ H Q I h;refine wpAny_Call_Name_kw (je I hg hm ?_ hdb);refine PySem.W.callWith_K (h₀:=X.base) I.ok.mod.EV hk (bJ (ha pos ac s σ H _ I h) λus s1 ⟨vs,H1,I1,r,hz,q⟩=>⟨I1.i0,?_⟩) he hpl;obtain⟨bm,N,nm,q',bs,hd,sn,sub,ab,col,dd,k0,k1,k2,k3,k5,mN,hC,hN,hni,T⟩:=mR I1.i0 hx;have hfn:∃oI,s1.heap.get? f=some oI/\oI.cls=.type "function":=by have z:PySem.W.typeIn X.K (.ref f)=some (.type "function"):=beq_iff_eq.mp hf;obtain⟨o,ho,hc⟩:=Option.map_eq_some_iff.mp (show(X.K.lookup f).map (·.cls)=some _ from z);exact⟨o,I1.i0 _ _ ho,hc⟩
 obtain⟨oI,hfI,hfc⟩:=hfn;obtain⟨hp,gs,dr,tk,os⟩:=s1;refine pk PySem.F.excBase_ValueError T hC hN hni hfI hfc (λh' a m=>?_) (by show us.length<=sizeLine;rw[←r.length];exact hz);obtain⟨hn,I2⟩:=I1.L_ m;have hq:=q a hn;have r2:Vals (V.ref a::vs) (Value.ref a::us):=.cons rfl r;have hl:(Value.ref a::us).length=ps.length:=by rw[←r2.length];exact F.len _ _ _ _ hq
 have hl':((Value.ref a::us)++([]:List Value)).length=ps.length:=by rw[UN];exact hl
 have hb':=hb _ (Value.ref a::us) I2.i0 hl';rw[UN]at hb';refine wpAny_call (codeAny_mono (F.run _ X.stack _ _ ⟨Value.ref a::us,[]⟩ (Value.ref a::us) _ _ E (hr.make C us []) (I2.env0.make C us []) hb' r2 hq) λr s' hq'=>?_);cases r with
 |error ee=>exact hpx ac σ _ _ ee s' I2 hq'
 |ok fl =>
  cases fl with
  |ret u =>obtain⟨v,H',I3,rv,ev,q3⟩:=I2.after hq';subst ev;exact⟨rv,⟨V.ref a,H',I3,rfl,q3⟩⟩
  |next=>exact UJ hq'
  |brk=>exact UJ hq'
  |cont=>exact UJ hq'
end
section
variable{X:Cx}{o value:Expr}{ta tv:TE}{f:Str}{pos pos':Pos}
def Jj(K:UX)(ta tv:TE)(f:Str):TS:=λD σ H=>tv σ H λy H1=>ta σ H1 λx H2=>∃a C,x=.ref a/\jo K C/\jh K C f/\
 ((H2 a=some (xF a C none)/\∀dx,H2 dx=none->D.nx σ (upd (upd (upd H2 dx (xD dx [])) a (xF a C (some dx))) dx (xD dx (oK f y []))))\/
  ∃dx fs,H2 a=some (xF a C (some dx))/\H2 dx=some (xD dx fs)/\fs.length<1000/\D.nx σ (upd H2 dx (xD dx (oK f y fs))))
theorem vw(ha:PE X o ta)(hv:PE X value tv)(hs:swapsWith value (some (.Attribute o f pos')) pos.line X.env=pure false):PS X (.Assign [.Attribute o f pos'] value pos) (Jj X.K ta tv f):=by
 intro ac s σ H D I h;refine plainObj_wpAny_Assign_Attribute (bJ (hv ac s σ H _ I h) λu s1 ⟨y,H1,I1,ry,q⟩=>bJ (ha ac s1 σ H1 _ I1 q) λov s2 zz=>?_) hs;obtain⟨x,H2,I2,rx,a,C,ex,c,n,q2⟩:=zz;subst ex;obtain rfl:ov=Value.ref a:=rx;rcases q2 with⟨ea,q3⟩|⟨dx,fs,ea,ed,l,q3⟩
 ·exact IG I2 ea c n ry λdx s3 hn I3=>⟨σ,_,I3,q3 dx hn⟩
 ·exact HH I2 ea ed c n l ry λs3 I3=>⟨σ,_,I3,q3⟩
end
end L2
namespace PySem
section
variable{M:Model}{A:Around}{E:Value->Shared->Prop}{env:Env}
variable{nm q:Str}{C N:Addr}{bs bm:List Value}{hdct:Bool}{sn:List Str}{sub:List Value}{ab:Bool}{col:Option Bool}{dd:Option Addr}{k0 k1 k2 k3 k5:Option Value}{newId:String}
theorem vY{s:Shared}{x:Sem Value}{Q:Flow->Shared->Prop}(hbase:bm.contains (.type "BaseException")=true)(hh:A.handled=none)
  (h:wpAny M A x (λv s₁=>∃e t od sl,v=.ref e/\s₁.heap.get? C=some (excClassObj nm q C N bs bm hdct sn sub ab col dd k0 k1 k2 k3 k5 newId)/\
   s₁.heap.get? e=some {cls:=.ref C,dict:=od,data:=.fields #[.ref t,.none,.none,.none,.bool false,.none],slots:=sl}/\E (.ref e) s₁) E s) :
  wpAny M A (raiseStmt env (some x) none) Q E s:=by
 have hcB:(Value.ref C::bm).contains (.type "BaseException")=true:=by rw[List.contains_cons,hbase,Bool.or_true]
 unfold raiseStmt;refine TK (Uv h (λv s₁ h₁=>?_) λ_ _ x=>x);obtain⟨e,t,od,sl,rfl,hC,he,hE⟩:=h₁;obtain⟨hp,g,d,tk,os⟩:=s₁;repeat (first|with_reducible refine wpAny_loadPart_at he ?_|with_reducible refine wpAny_loadPart_at hC ?_ | (with_reducible refine wpAny_isSubtype_exc hC ?_;rw[hcB])|wp_step)
 exact wpAny_raiseNew_none hh hE
end
end PySem
namespace L2
open PySem PySem.Spec PyProof.Rows
def FR(C:Addr)(E:XK)(te:TE):TS:=λ_ σ H=>te σ H λv H1=>∃a od,v=.ref a/\H1 a=some (xF a C od)/\E (.ref C) (some a) (upd H1 a (xO a C od))
theorem zV{X:Cx}{E:XK}{C:Addr}{pos:Pos}{e:Expr}{te:TE}{ini:Option Value}(hc:X.calm=true)(hx:iR X.K C ua "ValueError.__new__" ini=true)(he:PE (X.xs E) e te) :
  PS (X.xs E) (.Raise (some e) none pos) (FR C E te):=by
 intro ac s σ H D I h;obtain⟨bm,N,nm,q',bs,hd,sn,sub,ab,col,dd,k0,k1,k2,k3,k5,mN,hC,hN,hni,T⟩:=mR I.ok.mod.EV hx;rw[arm_exec_Raise];show wpAny _ _ (do standAt pos;raiseStmt X.env (some (do let v←eval e X.env;standAt pos;pure v)) none) _ _ s;refine TK (wpAny_standAt (vY (C:=C) (nm:=nm) (q:=q') (N:=N) (bs:=bs) (bm:=bm) (hdct:=hd) (sn:=sn) (sub:=sub) (ab:=ab) (col:=col) (dd:=dd) (k0:=k0) (k1:=k1) (k2:=k2) (k3:=k3) (k5:=k5) (newId:="ValueError.__new__") (T.hasType PySem.F.excBase_ValueError.hasBase) (I.ok.hd hc) ?_));refine TK (bJ (he ac s σ H _ I h) λu s1 ⟨v,H1,I1,rv,a,od,ev,ea,q⟩=>TK (wpAny_standAt (TM ?_)));subst ev;cases rv;obtain⟨⟨tt,sl,ha⟩,_⟩:=I1.hok a _ ea;refine⟨a,tt,od,sl,rfl,I1.bk _ _ hC,ha,?_⟩;have I2:=(I1.gV (pins':=[]) λp hp=>UC hp (by simp)).cQ;have I3:Inv X [] σ (upd H1 a (xO a C od)) s1:=by have:=I2.write (x:=a) (e:=a) (h':=s1.heap) (t':=s1.toks) (o:=xO a C od) (by rw[ea];exact True.intro) (.inl rfl) (λb q hb z=>z) ⟨_,ha⟩ (CO ha);exact this
 exact⟨a,C,od,σ,upd H1 a (xO a C od),rfl,I3,⟨ae,_,_,ha,.inl rfl⟩,q⟩
end L2
namespace My
open PySem L2
structure Fl where
 o:Bool
 j:Bool
 f:Bool
 w:Bool
 l:Bool
def pO(s:Str):Bool:=!cP s
def pJ(s:Str):Bool:=decide (s="walk")||decide (s="both")||decide (s="meet")
def pF(s:Str):Bool:=decide (s="first")
def pW(s:Str):Bool:=decide (s="walk")
def flagsOf(ps:List Str)(l:Bool):Fl:=⟨ps.any pO,ps.any pJ,ps.any pF,ps.any pW,l⟩
def Kn.fl(k:Kn):Fl:=flagsOf k.ps k.lo
def looseW:Wk->Hd->Fl->Bool
 | .one (.keep c _),h,_=>decide (bz h c="t")
 | .one (.first n),_,f=>decide (¬n<=0)&&f.j
 | .meet ..,_,f=>f.w||f.f
 |_,_,_=>false
def DZ:Wk->Fl->Bool
 | .one (.walk _ _),f=>!f.o
 | .meet _ _ p q,_=>(p++q).all λw=>cP w.nm
 |_,_=>true
def gR(x:Wk)(f:Fl)(hs:List Hd):Option Str :=
 if eQ x hs=true then
  if bK x hs=true then
   if(bf x hs).length<=6 then
    if DZ x f=true then
     if(eZ x&&f.l)=true then some "loose" else none
    else some "rows"
   else some "wide"
  else some "sort"
 else some "column"
theorem any_eq(ps:List Str)(s:Str):ps.any (λt=>decide (t=s))=lR ps s:=by
 apply Bool.eq_iff_iff.mpr;rw[ED,List.any_eq_true];constructor
 ·rintro⟨t,h,e⟩;rw[←UB e];exact h
 ·intro h;exact⟨s,h,TY rfl⟩
theorem De(ps:List Str)(p q:Str->Bool):ps.any (λs=>p s||q s)=(ps.any p||ps.any q):=by
 induction ps with
 |nil=>rfl
 |cons a ps ih=>rw[UT,UT,UT,ih];cases p a<;>cases q a<;>simp
theorem JO(ps:List Str):ps.any pJ=(lR ps "walk"||lR ps "both"||lR ps "meet"):=by unfold pJ;rw[De ps (λs=>decide (s="walk")||decide (s="both")) (λs=>decide (s="meet")),De,any_eq,any_eq,any_eq]
theorem Dt(x:Wk)(k:Kn):fi x k=looseW x k.hd k.fl:=by
 have e1:=JO k.ps;have e2:k.ps.any pF=lR k.ps "first":=any_eq _ _;have e3:k.ps.any pW=lR k.ps "walk":=any_eq _ _;cases x with
 |one x =>
  cases x<;>try rfl
  show(decide _&&(lR k.ps "walk"||lR k.ps "both"||lR k.ps "meet"))=(decide _&&k.ps.any pJ);rw[e1]
 |both p q=>rfl
 |meet c d p q =>show(lR k.ps "walk"||lR k.ps "first")=(k.ps.any pW||k.ps.any pF);rw[e2,e3]
theorem FY(x:Wk)(k:Kn):ky x k.ps=DZ x k.fl:=by
 cases x with
 |one x =>
  cases x<;>try rfl
  show k.ps.all cP = !(k.ps.any pO);rw[List.not_any_eq_all_not];congr 1;funext s;show _ = !(!cP s);rw[Bool.not_not]
 |both p q=>rfl
 |meet c d p q=>rfl
theorem HY(x:Wk)(k:Kn)(hs:List Hd):sY x k hs=gR x k.fl hs:=by unfold sY gR;rw[FY];rfl
def Hg(x:Wk)(h:Hd)(f:Fl)(fs:List Fl):Fl:=⟨fs.any (λg=>g.o)||pO (bb x),fs.any (λg=>g.j)||pJ (bb x),fs.any (λg=>g.f)||pF (bb x),fs.any (λg=>g.w)||pW (bb x),looseW x h f||fs.any λg=>g.l⟩
theorem FH{a b:List Str}{p:Str->Bool}(h:∀s,s∈a↔s∈b):a.any p=b.any p:=by
 apply Bool.eq_iff_iff.mpr;rw[List.any_eq_true,List.any_eq_true];constructor
 ·rintro⟨t,m,e⟩;exact⟨t,(h t).mp m,e⟩
 ·rintro⟨t,m,e⟩;exact⟨t,(h t).mpr m,e⟩
theorem se(ks:List Kn)(x:Wk)(p:Str->Bool){ps:List Str}(h:BP ps (ks.flatMap (λk=>k.ps)++[bb x])):ps.any p=((ks.any λk=>k.ps.any p)||p (bb x)):=by rw[FH h.2,List.any_append,List.any_flatMap];simp
theorem HD{x:Wk}{k k':Kn}{ks:List Kn}(h:BP k'.ps (ks.flatMap (λk=>k.ps)++[bb x]))(hl:k'.lo=(fi x k||ks.any λk=>k.lo)):k'.fl=Hg x k.hd k.fl (ks.map Kn.fl):=by unfold Kn.fl flagsOf Hg;rw[se ks x pO h,se ks x pJ h,se ks x pF h,se ks x pW h,hl,Dt,List.any_map,List.any_map,List.any_map,List.any_map,List.any_map];rfl
inductive Res where
 |ok (h:Hd) (f:Fl)
 |no (p:List Int) (s:Str)
def nv(x:Wk)(h:Hd)(f:Fl)(pl:List Int)(es:List (Hd×Fl)):Res:=match gR x f (es.map λe=>e.1)with
 |some s=>.no pl s
 |none=>.ok (bf x (es.map λe=>e.1)) (Hg x h f (es.map λe=>e.2))
def eT(r:Res)(g:Hd->Fl->Res):Res:=match r with
 | .ok h f=>g h f
 | .no a s=>.no a s
def putL(step:Hd->Fl->List Int->Wk->Res)(pl:List Int):Nat->Hd->Fl->List Wk->Res
 |_,h,f,[]=>.ok h f
 |i,h,f,x::ws=>eT (step h f (pl++[(i:Int)]) x) λh' f'=>putL step pl (i+1) h' f' ws
def C8(step:Hd->Fl->List Int->Wk->Res)(x:Wk)(h:Hd)(f:Fl)(pl:List Int):List (List Wk)->Nat->List (Hd×Fl)->Res
 |[],_,es=>nv x h f pl es
 |p::ps,j,es=>eT (putL step (pl++[(j:Int)]) 0 h f p) λh' f'=>C8 step x h f pl ps (j+1) (es++[(h',f')])
def bV:Nat->Hd->Fl->List Int->Wk->Res
 | 0,h,f,pl,x=>nv x h f pl [(h,f)]
 |n+1,h,f,pl,x=>match x with
  | .one _=>nv x h f pl [(h,f)]
  |_=>C8 (bV n) x h f pl (gj x) 0 []
def BG:List Str:=["keep","same","cut","turn","must","walk","sort","apart","count","sum","number","first","both","meet","first 0"]
theorem CZ(x:Wk):bb x∈BG:=by
 match x with
 | .one (.first n) =>show(if n<=0 then("first 0" : Str)else "first")∈BG;split<;>decide +kernel
 | .one (.keep ..) | .one (.same ..) | .one (.cut ..) | .one (.turn ..) | .one (.must ..) | .one (.walk ..) | .one (.sort ..) | .one .apart | .one (.count ..) | .one (.sum ..) | .one .number | .both .. | .meet ..=>exact List.mem_of_elem_eq_true (by simp only[bb,Wk.nm,W1.nm];decide +kernel)
theorem sub_len:∀{l m:List Str},l.Nodup->(∀s∈l,s∈m)->l.length<=m.length
 |[],m,_,_=>Uo _
 |a::l,m,hn,hs=>by
  rw[List.nodup_cons]at hn;have ha:a∈m:=hs a (by simp);have:=sub_len (l:=l) (m:=m.erase a) hn.2 λs h=>by
   have ne:s≠a:=by rintro rfl;exact hn.1 h
   exact(List.mem_erase_of_ne ne).mpr (hs s (by simp[h]))
  rw[List.length_erase_of_mem ha]at this;have hp:0<m.length:=List.length_pos_of_mem ha;rw[Uz];omega
theorem Fm{x:Str}:¬LA x x:=λh=>List.lt_irrefl _ h
structure oM(k:Kn):Prop where
 hd:k.hd.length<=6
 nd:k.ps.Nodup
 sub:∀s∈k.ps,s∈BG
theorem oM.few{k:Kn}(h:oM k):k.ps.length<=15:=sub_len h.nd h.sub
theorem oM.next{k':Kn}{ks:List Kn}{x:Wk}(hk:∀k∈ks,oM k)(hh:k'.hd.length<=6)(h:BP k'.ps (ks.flatMap (λk=>k.ps)++[bb x])):oM k':=by
 refine⟨hh,h.1.imp λ{a b} e z=>by subst z;exact Fm e,λs hs=>?_⟩;rcases Ul.mp ((h.2 s).mp hs)with z|z
 ·obtain⟨k,h1,h2⟩:=List.mem_flatMap.mp z;exact(hk k h1).sub s h2
 ·rw[Uh.mp z];exact CZ x
def inClass(s:Stmt)(i:Nat):Stmt:=match s with
 | .ClassDef _ _ _ body _ _ _ _ _ _ _=>body.getD i (.Pass ⟨0,0,0,0⟩)
 |_=>.Pass ⟨0,0,0,0⟩
abbrev nK:Stmt:=inClass (top 10) 0
theorem Fh:av ["self","place","why"] ["self","place","why"] (ao nK):=⟨rfl,rfl,rfl,by decide +kernel,rfl,by decide +kernel,by decide +kernel⟩
abbrev AG(pl wy:V):List (Str×V):=oK "why" wy (oK "place" pl [])
def zd(K:UX)(C:Addr):Sp:=λvs H Q _=>∃a v1 v2,vs=[.ref a,v1,v2]/\H a=some (xF a C none)/\jo K C/\jh K C "place"/\jh K C "why"/\
 ∀dx H',H dx=none->(∀b o,b≠a->H b=some o->H' b=some o)->H' a=some (xF a C (some dx))->H' dx=some (xD dx (AG v1 v2))->Q .non H'
structure Jn(K:UX)(mg:Str->Option Value)(C fI:Addr):Prop where
 xc:jo K C
 np:jh K C "place"
 nr:jh K C "why"
 Ng:iR K C ua "ValueError.__new__" (some (.ref fI))=true
 kp:PySem.W.keepIn K (.ref C)=true
 fn:PySem.W.isFn K (.ref fI)=true
 mf:mg "NoPipe"=some (.ref C)
section
variable{P:Program}{w:World}{K:UX}{mg:Str->Option Value}{base:Heap}{f C:Addr}{fd:FuncData}
theorem Bi(F:Bb K "__init__" "NoPipe.__init__" nK f fd):e7 P w K mg base bx 1 f fd ["self","place","why"] (zd K C):=by
 refine F.ok Fh (λvs H Q E h=>?_) (λcdv A outer s H vs Q E hr h=>?_)
 ·obtain⟨a,v1,v2,rfl,_⟩:=h;rfl
 obtain⟨a,v1,v2,rfl,ha,c,n1,n2,q⟩:=h;refine⟨_,aq (vw (pv 0) (pv 1) rfl) (b_ (vw (pv 0) (pv 2) rfl)),?_⟩;refine⟨_,rfl,_,rfl,a,C,rfl,c,n1,.inl ⟨ha,λdx hdx=>?_⟩⟩;have nd:a≠dx:=a_ ha hdx;refine⟨_,rfl,_,rfl,a,C,rfl,c,n2,.inr ⟨dx,_,by rw[aI nd];exact ae,ae,by show 1<1000;decide,?_⟩⟩;refine q dx _ hdx (λb o nb e=>?_) (by rw[aI nd,aI nd];exact ae) ae;have OF:b≠dx:=a_ e hdx;rw[aI OF,aI OF,aI nb,aI OF];exact e
end
abbrev Tr:=List (List Int×Hd×Bool)
def qw(r:Res)(g:Hd->Fl->Tr):Tr:=match r with
 | .ok h f=>g h f
 | .no _ _=>[]
def Om(st:Hd->Fl->List Int->Wk->Res)(tr:Hd->Fl->List Int->Wk->Tr)(pl:List Int):Nat->Hd->Fl->List Wk->Tr
 |i,h,f,[]=>[(pl++[(i:Int)],h,f.l)]
 |i,h,f,x::ws=>(pl++[(i:Int)],h,f.l)::(tr h f (pl++[(i:Int)]) x++qw (st h f (pl++[(i:Int)]) x) λh' f'=>Om st tr pl (i+1) h' f' ws)
def J0(st:Hd->Fl->List Int->Wk->Res)(tr:Hd->Fl->List Int->Wk->Tr)(h:Hd)(f:Fl)(pl:List Int):List (List Wk)->Nat->Tr
 |[],_=>[]
 |p::ps,j=>Om st tr (pl++[(j:Int)]) 0 h f p++qw (putL st (pl++[(j:Int)]) 0 h f p) λ_ _=>J0 st tr h f pl ps (j+1)
def GD:Nat->Hd->Fl->List Int->Wk->Tr
 | 0,_,_,_,_=>[]
 |n+1,h,f,pl,x=>J0 (bV n) (GD n) h f pl (gj x) 0
abbrev TL(n:Nat)(pl:List Int)(i:Nat)(h:Hd)(f:Fl)(ws:List Wk):Tr:=Om (bV n) (GD n) pl i h f ws
theorem tO{n:Nat}{pl:List Int}{i:Nat}{h:Hd}{f:Fl}{x:Wk}{ws:List Wk}:TL n pl i h f (x::ws)=(pl++[(i:Int)],h,f.l)::(GD n h f (pl++[(i:Int)]) x++qw (bV n h f (pl++[(i:Int)]) x) λh' f'=>TL n pl (i+1) h' f' ws):=rfl
theorem Ea{n:Nat}{h:Hd}{f:Fl}{pl:List Int}{p:List Wk}{ps:List (List Wk)}{j:Nat}:J0 (bV n) (GD n) h f pl (p::ps) j=TL n (pl++[(j:Int)]) 0 h f p++qw (putL (bV n) (pl++[(j:Int)]) 0 h f p) λ_ _=>J0 (bV n) (GD n) h f pl ps (j+1):=rfl
structure iO(H:Hp)(as:List Addr)(t:Tr):Prop where
 len:as.length=t.length
 at_:∀(i:Nat) a e,as[i]? = some a->t[i]? = some e->∃q hh,H a=some (.tup [.ref q,.ref hh,.bl e.2.2])/\H q=some (.tup (e.1.map V.int))/\gD H hh e.2.1
theorem iO.nil{H:Hp}:iO H [] []:=⟨rfl,λi a e h=>by cases h⟩
theorem iO.app{H:Hp}{as bs:List Addr}{t u:Tr}(h:iO H as t)(h':iO H bs u):iO H (as++bs) (t++u):=by
 refine⟨by rw[T1,T1,h.len,h'.len],λi a e e1 e2=>?_⟩;have hl:=h.len;by_cases hi:i<as.length
 ·rw[Ur hi]at e1;rw[Ur (by omega)]at e2;exact h.at_ i a e e1 e2
 ·rw[Uq (by omega)]at e1;rw[Uq (by omega),←hl]at e2;exact h'.at_ _ a e e1 e2
theorem iO.one{H:Hp}{a q hh:Addr}{p:List Int}{h:Hd}{b:Bool}(h1:H a=some (.tup [.ref q,.ref hh,.bl b]))(h2:H q=some (.tup (p.map V.int)))(h3:gD H hh h):iO H [a] [(p,h,b)] :=
 ⟨rfl,λi c e e1 e2=>by
  cases i with
  |zero=>cases e1;cases e2;exact⟨q,hh,h1,h2,h3⟩
  |succ i=>cases e1⟩
def Em(H:Hp)(xs ys:List V)(t:Tr):Prop:=∃as:List Addr,ys=xs++as.map V.ref/\iO H as t
theorem Em.app{H:Hp}{xs ys:List V}{t u:Tr}{bs:List Addr}(h:Em H xs ys t)(h':iO H bs u):Em H xs (ys++bs.map V.ref) (t++u):=by obtain⟨as,rfl,h1⟩:=h;exact⟨as++bs,by rw[T4,List.append_assoc],h1.app h'⟩
def KN:Nat->Hd->Fl->List Int->Wk->Nat->Tr
 | 0,_,_,_,_,_=>[]
 |n+1,h,f,pl,x,j=>J0 (bV n) (GD n) h f pl ((gj x).drop j) j
theorem L5{n:Nat}{h:Hd}{f:Fl}{pl:List Int}{x:Wk}:GD n h f pl x=KN n h f pl x 0:=by cases n<;>rfl
theorem Fq{n:Nat}{h:Hd}{f:Fl}{pl:List Int}{x:Wk}{j:Nat}(hj:(gj x).length<=j):KN n h f pl x j=[]:=by
 cases n with
 |zero=>rfl
 |succ n=>show J0 _ _ _ _ _ ((gj x).drop j) j=[];rw[List.drop_of_length_le hj];rfl
theorem Iz{m:Nat}{h h':Hd}{f f':Fl}{pl:List Int}{x:Wk}{j:Nat}{p:List Wk}(e:(gj x).drop j=p::(gj x).drop (j+1))(er:putL (bV m) (pl++[(j:Int)]) 0 h f p=.ok h' f'):KN (m+1) h f pl x j=TL m (pl++[(j:Int)]) 0 h f p++KN (m+1) h f pl x (j+1):=by show J0 _ _ _ _ _ ((gj x).drop j) j=_;rw[e,Ea,er];rfl
end My
namespace L2
open PySem PySem.Spec PyProof.Rows
section
variable{X:Cx}{ac:List (Addr×Obj)}{σ:List (Option V)}{H H':Hp}{s:Shared}{h':Heap}
theorem Inv.A9{t':Nat}{fp:List Addr}{T:Addr}{xs:List V}(I:Inv X ac σ H s)(hf:∀b∈fp,cS X ac H b)(k:∀b o,b∉fp->s.heap.get? b=some o->h'.get? b=some o)(hT:s.heap.objs.size<=T)
  (new:cc X.prog X.w (upd H T (.tup xs)) h' T (.tup xs)):Inv X ac σ (upd H T (.tup xs)) {s with heap:=h',toks:=t'}:=by
 have nT:H T=none:=I.hok.fresh hT;have Hm:∀b u,H b=some u->b∉fp:=λb u e z=>by rw[(hf b z).1]at e;cases e
 have RL:∀b o,s.heap.get? b=some o->b≠T:=λb o e z=>by have:=TQ e;rw[z]at this;exact UC (T9 this hT) (Nat.lt_irrefl _)
 refine I.step (g':=s.gens) (d':=s.drawn) (ch:=fp) (λb hb=>?_) (λb o _ _ hc e _=>k b o hc e) (λb o _ _ hc e _=>⟨o.slots,k b o hc e⟩) (λb o hc e n=>by rw[aI (RL b o e)];exact n)
  (λb o hc e=>⟨o,k b o hc e⟩) (λb ys e=>by rw[aI (a_ e nT)];exact e) (λb o u e=>by rw[aI (a_ e nT)];exact e) (λb ps e=>⟨#[],by rw[aI (a_ e nT),e];simp⟩) (λm hm=>?_) (λb u e=>?_) I.bare
 ·obtain⟨f0,f1,f2,f3,f4,f5⟩:=hf b hb;exact⟨f3,f1,f4,f5⟩
 ·obtain⟨o,es,ep,ho,r⟩:=hm;exact⟨o,es,ep,k _ o (λz=>(hf _ z).2.1 rfl) ho,r⟩
 ·by_cases hb:b=T
  ·subst hb;rw[ae]at e;cases e;exact new
  ·rw[aI hb]at e;refine(I.hok b u e).stay (λc v hc q=>k c v ?_ q) (λc q=>by rw[aI (a_ q nT)];exact q) λc ys q=>by rw[aI (a_ q nT)];exact q
   rcases hc with z|z
   ·rw[z];exact Hm b u e
   ·exact Hm c _ z
theorem Inv.xm{t':Nat}{fp:List Addr}(I:Inv X ac σ H s)(hf:∀b∈fp,cS X ac H b)(k:∀b o,b∉fp->s.heap.get? b=some o->h'.get? b=some o):Inv X ac σ H {s with heap:=h',toks:=t'}:=by
 have Hm:∀b u,H b=some u->b∉fp:=λb u e z=>by rw[(hf b z).1]at e;cases e
 refine I.step (g':=s.gens) (d':=s.drawn) (ch:=fp) (λb hb=>?_) (λb o _ _ hc e _=>k b o hc e) (λb o _ _ hc e _=>⟨o.slots,k b o hc e⟩) (λb o hc e n=>n)
  (λb o hc e=>⟨o,k b o hc e⟩) (λb ys e=>e) (λb o u e=>e) (λb ps e=>⟨#[],by rw[e];simp⟩) (λm hm=>?_) (λb u e=>?_) I.bare
 ·obtain⟨f0,f1,f2,f3,f4,f5⟩:=hf b hb;exact⟨f3,f1,f4,f5⟩
 ·obtain⟨o,es,ep,ho,r⟩:=hm;exact⟨o,es,ep,k _ o (λz=>(hf _ z).2.1 rfl) ho,r⟩
 ·refine(I.hok b u e).stay (λc v hc q=>k c v ?_ q) (λ_ q=>q) λ_ _ q=>q;rcases hc with z|z
  ·rw[z];exact Hm b u e
  ·exact Hm c _ z
end
section
variable{prog:Program}{w:World}{A:Around}{E:Value->Shared->Prop}{s:Shared}
theorem x4{it t:Addr}{i:Nat}{items:Array Value}{x:Value}{Q:Value->Shared->Prop}(hit:s.heap.IsTupleIter it t i)(ht:s.heap.IsTuple t items)(hx:items[i]? = some x)
  (hQ:∀h',h'.IsTupleIter it t (i+1)->Heap.SameBut it s.heap h'->Q x {s with heap:=h'}):wpAny (model prog w) A (Builtin.SmallTypes.nextOf (.ref it)) Q E s:=by
 obtain⟨o,ho,hc,hd⟩:=id hit;obtain⟨ol,hol,_,nl,hdl⟩:=ht;unfold Builtin.SmallTypes.nextOf;refine TK (wpAny_callSpecial?_slot (name:=Str.ofString "__next__") hit.typeIs F.slot_tuple_iterator_next (UO F.slot_tuple_iterator_next hit.typeIs F.entry_tuple_iterator_next ?_ (F.args_tuple_iterator_next_1 _)));show wpAny _ _ (field (.ref it) 0 >>= _) _ _ s;refine TK (wpAny_field ho hd (x:=.ref t) rfl ?_);show wpAny _ _ (if(Value.ref t==Value.none)=true then _ else _) _ _ s;rw[UD (show¬((Value.ref t==Value.none)=true) from Ud)];show wpAny _ _ (field (.ref it) 1 >>= _) _ _ s;refine TK (wpAny_field ho hd (x:=.int i 0) rfl ?_);show wpAny _ _ (seqItems? (.ref t) >>= _) _ _ s;refine TK (wpAny_seqItems hol hdl ?_);simp only[Int.toNat_natCast,hx];refine TK (wpAny_setField ho hd (by simp) (TM ⟨x,rfl,TM (hQ _ ?_ (Heap.SameBut.update ..))⟩));exact⟨_,Heap.get?_update_self _ ho (Obj.isFreed_of_fields (Obj.data_mapFields hd _)),(Obj.cls_mapFields ..).trans hc,by rw[Obj.data_mapFields hd];simp[rawInt]⟩
end
section
variable{prog:Program}{w:World}{A:Around}{E:Value->Shared->Prop}{s:Shared}
theorem jC{it t:Addr}{i:Nat}{items:Array Value}{Q:Value->Shared->Prop}(hh:A.handled=none)(hit:s.heap.IsTupleIter it t i)(ht:s.heap.IsTuple t items)(hx:items[i]? = none)
  (hE:∀h' e,Heap.ExtBut it s.heap h'->(∃o,h'.get? e=some o/\o.cls=.type "StopIteration")->E (.ref e) {s with heap:=h'}):wpAny (model prog w) A (Builtin.SmallTypes.nextOf (.ref it)) Q E s:=by
 obtain⟨o,ho,hc,hd⟩:=id hit;obtain⟨ol,hol,_,nl,hdl⟩:=ht;unfold Builtin.SmallTypes.nextOf;refine TK (wpAny_callSpecial?_slot (name:=Str.ofString "__next__") hit.typeIs F.slot_tuple_iterator_next (UO F.slot_tuple_iterator_next hit.typeIs F.entry_tuple_iterator_next ?_ (F.args_tuple_iterator_next_1 _)));show wpAny _ _ (field (.ref it) 0 >>= _) _ _ s;refine TK (wpAny_field ho hd (x:=.ref t) rfl ?_);show wpAny _ _ (if(Value.ref t==Value.none)=true then _ else _) _ _ s;rw[UD (show¬((Value.ref t==Value.none)=true) from Ud)];show wpAny _ _ (field (.ref it) 1 >>= _) _ _ s;refine TK (wpAny_field ho hd (x:=.int i 0) rfl ?_);show wpAny _ _ (seqItems? (.ref t) >>= _) _ _ s;refine TK (wpAny_seqItems hol hdl ?_);simp only[Int.toNat_natCast,hx];refine TK (wpAny_rule (TK (wpAny_setField ho hd (by simp) ?_)));show wpAny _ _ (newExc (.type "StopIteration") [] >>= _) _ _ _;refine TK ?_;simp only[newExc,newTuple];refine TK (Ux ?_ (by size_fits));refine TK (m:=firstArgMember _ _) (wpAny_of_eq (a:=Value.none) (by first|rfl | (simp only[firstArgMember];rfl)) ?_);refine Ux ?_ (by size_fits);simp only[raiseNew];refine TK (wpAny_handled ?_);first|rw[show A.in1.handled=none from hh]|rw[hh]
 refine TK (TM (wpAny_throw ?_));exact hE _ _ (((Heap.SameBut.update ..).extBut.push _).push _) ⟨_,TR _ rfl,rfl⟩
theorem tE{h h':Heap}{a b:Addr}{xs:Array Value}(x:h.IsTuple a xs)(hs:Heap.ExtBut b h h')(hab:a≠b):h'.IsTuple a xs:=let ⟨o,ho,r⟩:=x;⟨o,hs a o hab ho,r⟩
theorem Aj(hh:A.handled=none)(it t:Addr)(hne:t≠it)(items:Array Value):Draws prog w A it [it,t] items.size (λi v=>items[i]? = some v) (λi h=>h.IsTupleIter it t i/\h.IsTuple t items) where
 live:=λ_ _ st=>let ⟨o,ho,_⟩:=st.1;⟨o,ho⟩
 frame:=λ_ _ _ st hk=>⟨st.1.at λo e=>hk it (by simp) o e,let ⟨o,ho,r⟩:=st.2;⟨o,hk t (by simp) o ho,r⟩⟩
 item:=λi s Q E hi st hQ=>by refine x4 st.1 st.2 (x:=items[i]) (by simp[hi]) λh' hit' hs'=>?_;exact hQ _ h' s.toks (by simp[hi]) ⟨hit',tE st.2 hs'.extBut hne⟩ hs'
 done:=λs Q E st hE=>jC hh st.1 st.2 (by simp) hE
abbrev M1(h:Heap)(t:Addr):Heap:=h.push {cls:=.type "tuple_iterator",data:=.fields #[.ref t,.int 0 0]}
abbrev Qg(h:Heap)(t:Addr):Heap:=(M1 h t).push {cls:=.type "enumerate",data:=.fields #[.none,.bool false,.ref h.objs.size,rawInt 0,.none,.none]}
theorem vh(t:Addr)(items:Array Value)(n:Nat)(dct:Option Addr)(sl:Array (Option Value)) :
  Meets (Builtin.«enumerate.__new__» ⟨[.type "enumerate",.ref t],[]⟩) (λ_ R s=>s.heap.get? t=some {cls:=.type "tuple",dict:=dct,data:=.seq items n,slots:=sl}/\R (.ok (.ret (.ref (M1 s.heap t).objs.size))) {s with heap:=Qg s.heap t}) :=
 .of_wp λprog w A R s h=>by
  obtain⟨hp,g,d,tk,os⟩:=s;obtain⟨hl,h⟩:=h;have hsub:=sub_enumerate;have hL:Heap.IsTuple (Shared.heap ⟨hp,g,d,tk,os⟩) t items:=⟨_,hl,rfl,n,rfl⟩
  wp_walk using AutoSeq1.wpAny_loadPart' hl
  refine wpAny_stack_any λst=>TM ?_;split
  ·rename_i c _ _ _ _ _;cases(c==Value.type "enumerate")
   ·wp_walk using AutoSeq1.wpAny_loadPart' hl,wpAny_pyIter_tuple hL
    exact⟨_,rfl,h⟩
   ·wp_walk using AutoSeq1.wpAny_loadPart' hl,wpAny_pyIter_tuple hL
    exact⟨_,rfl,h⟩
  ·wp_walk using AutoSeq1.wpAny_loadPart' hl,wpAny_pyIter_tuple hL
   exact⟨_,rfl,h⟩
theorem wO{t:Addr}{items:Array Value}{Q:Value->Shared->Prop}(hL:s.heap.IsTuple t items)
  (h:∀h',IsEnum h' (s.heap.objs.size+1) s.heap.objs.size 0 .none->h'.IsTupleIter s.heap.objs.size t 0->h'.objs.size=s.heap.objs.size+2->(∀b o,s.heap.get? b=some o->h'.get? b=some o)->Q (.ref (s.heap.objs.size+1)) {s with heap:=h'}) :
  wpAny (model prog w) A (call (.type "enumerate") [.ref t]) Q E s:=by
 obtain⟨⟨c,dct,dt,sl⟩,hl,hc,n,hd⟩:=hL;replace hc:c=.type "tuple":=hc;replace hd:dt=.seq items n:=hd;subst hc hd;refine callType_new F.called_enumerate (by decide) (F.typeCall_enumerate_1 _) (F.newCall_enumerate_1 _) (λobj=>F.args_object_init_2 obj _) F.entry_enumerate_new (vh t items n dct sl) ⟨hl,?_⟩;have hz:(M1 s.heap t).objs.size=s.heap.objs.size+1:=Heap.size_push ..;show _/\_;have he:(Qg s.heap t).get? (M1 s.heap t).objs.size=some _:=TR _ rfl;rw[hz]at he;rw[hz];exact⟨⟨_,he,rfl⟩,h _ he ⟨_,TN _ (TR _ rfl),rfl,rfl⟩ (by rw[Heap.size_push,hz]) λb o x=>TN _ (TN _ x)⟩
end
def K8(K:UX)(a:Addr):It :=
 ⟨λi H=>∃xs x,aY K H a xs/\xs[i]? = some x,
   λi H v H'=>∃T x,v=.ref T/\H T=none/\H'=upd H T (.tup [.int (i:Nat),x])/\∀xs,aY K H a xs->xs[i]? = some x,
   λi H=>∃xs,aY K H a xs/\xs.length<=i⟩
theorem xE{P:Program}{w:World}{K:UX}{es:List Expr}{x1:Nat}{pos:Pos}(a e it:Addr)(hne:e≠it) :
  Turn P w K (.Tuple es x1 pos) (K8 K a) [e,it] e (λi h=>(∃old,IsEnum h e it (i:Nat) old)/\h.IsTupleIter it a i) where
 mem:=by simp
 obj:=λi h st c hc=>by
  obtain⟨⟨old,h1⟩,⟨o4,e4,c4,d4⟩⟩:=st;simp only[Uj,UG,or_false]at hc;rcases hc with rfl|rfl
  ·exact⟨_,h1,λv z=>by cases(show Data.fields _=Data.cell v from z)⟩
  ·exact⟨o4,e4,λv z=>by rw[d4]at z;cases z⟩
 keep:=λi h h' st k=>by obtain⟨⟨old,h1⟩,h4⟩:=st;exact⟨⟨old,k e (by simp) _ h1⟩,h4.at λo q=>k it (by simp) o q⟩
 item:=by
  intro X hP hw hK hc i ac s σ H E I hf st hg;subst hP hw hK;obtain⟨xs,x,hq,hx⟩:=hg;obtain⟨its,rv,p,hz⟩:=I.tuple hq;obtain⟨u,hu,ru⟩:=rv.get hx;obtain⟨⟨old,h1⟩,h4⟩:=st;have p':s.heap.IsTuple a its.toArray:=p;have Q3:e≠a:=λz=>by obtain⟨o,eo,co,_⟩:=p';rw[←z,h1]at eo;cases eo;exact UC (Value.type.inj co) (by decide)
  have SV:a≠it:=λz=>by obtain⟨o,eo,co,_⟩:=p';obtain⟨o4,e4,c4,_⟩:=h4;rw[z,e4]at eo;cases eo;exact UC (Value.type.inj (c4.symm.trans co)) (by decide)
  have hu':its.toArray[i]? = some u:=by simpa using hu
  have hlt:i<its.toArray.size:=by
   rcases Nat.lt_or_ge i its.toArray.size with z|z
   ·exact z
   ·rw[Array.getElem?_eq_none z]at hu';cases hu'
  refine wpAny_pyNext_enum_itemD (Aj (show X.A.in1.handled=none from I.ok.hd hc) it a SV its.toArray) h1 ⟨h4,p'⟩ hlt hne (by simp[hne,Q3]) λy h' tk hy g1 g2 g3 gs g6=>⟨_,rfl,?_⟩;have Sz:y=u:=by rw[hu']at hy;exact(Up hy).symm
  subst Sz;refine wpAny_letOwnedTupleGo_enum (show IsEnumOut h' e it ((i:Int)+1) y s.heap.objs.size from g1) λh'' f1 fs=>?_;have elt:e<s.heap.objs.size:=TQ h1;have To:s.heap.objs.size≠e:=Nat.ne_of_gt elt;have kk:∀c o,c∉[e,it]->s.heap.get? c=some o->h''.get? c=some o:=λc o hc q=>by simp only[Uj,UG,or_false,not_or]at hc;exact fs.extBut _ _ hc.1 (g6 c o hc.1 hc.2 q)
  have pT:=fs.extBut _ _ To g3;have I1:Inv X ac σ (upd H s.heap.objs.size (.tup [.int (i:Nat),x])) {s with heap:=h'',toks:=tk+1}:=I.A9 hf kk (TU _) ⟨by show 2<=sizeLine;decide,[.int (i:Nat) tk,y],.cons ⟨tk,rfl⟩ (.cons ru .nil),⟨_,pT,rfl,⟨_,rfl⟩,rfl⟩⟩;refine⟨.ref s.heap.objs.size,_,I1,rfl,⟨_,x,rfl,I.hok.fresh (TU _),rfl,λys hy'=>by rw[I.mU hy' hq];exact hx⟩,⟨⟨_,f1⟩,g2.1.extBut fs.extBut hne.symm⟩,λc hc=>?_⟩;have hn:=(hf c hc).1;have:c≠s.heap.objs.size:=by
   simp only[Uj,UG,or_false]at hc;obtain⟨o4,e4,_⟩:=h4;rcases hc with rfl|rfl
   ·exact Um elt
   ·exact Um (TQ e4)
  rw[aI this];exact hn
 done:=by
  intro X hP hw hK hc i ac s σ H E I hf st hg;subst hP hw hK;obtain⟨xs,hq,hx⟩:=hg;obtain⟨its,rv,p,hz⟩:=I.tuple hq;obtain⟨⟨old,h1⟩,h4⟩:=st;have hl:=rv.length;have hn:its.toArray[i]? = none:=by simp;omega
  unfold pyNext;have hT:s.TypeIs (.ref e) "enumerate":=⟨_,h1,rfl⟩;refine TK (wpAny_attempt (wpAny_callSpecial?_slot (name:=Str.ofString "__next__") hT F.slot_enumerate_next (UO F.slot_enumerate_next hT F.entry_enumerate_next ?_ (F.args_enumerate_next_1 _))));show wpAny _ _ (field (.ref e) 2 >>= _) _ _ _;refine TK (wpAny_field h1 rfl (x:=.ref it) rfl ?_);refine TK (jC (show X.A.in1.handled=none from I.ok.hd hc) h4 (show s.heap.IsTuple a its.toArray from p) hn λh' x he' hx'=>?_);obtain⟨o,ho,hco⟩:=hx';refine TK (wpAny_isInstance (T:="StopIteration") (b:=true) ⟨o,ho,hco⟩ isSubtype_stop ?_);refine TM ⟨rfl,I.xm (t':=s.toks) hf λc o hc q=>?_⟩;simp only[Uj,UG,or_false,not_or]at hc;exact he' c o hc.2 q
 self:=λ_ _ _ _ _ st h=>let ⟨⟨_,h1⟩,_⟩:=st;wpAny_pyIter_enum h1 h
section
variable{X:Cx}
def Mg(K:UX)(ta:TA):TI:=λσ H R=>ta σ H λvs H1=>∃a,vs=[.ref a]/\(∃xs,aY K H1 a xs)/\R (K8 K a) H1
theorem mr{es:List Expr}{x1:Nat}{tpos:Pos}{a:Expr}{ta:TA}{p pos:Pos}(hg:Gl X "enumerate")(hm:X.mg "enumerate"=none)(ha:PA X [a] ta)(hs:starEach [a] X.env=[(false,eval a X.env)]:=by rfl) :
  PI X (.Tuple es x1 tpos) (.Call (.Name "enumerate" p) [a] [] pos) (Mg X.K ta):=by
 intro ac s σ H R I h;refine Call_ (iY I hg hm (by decide +kernel:bootBuiltins "enumerate"=some (.type "enumerate")) (PyProof.Rows.callWith_type1 (bJ (ha pos ac s σ H _ I h) λus s1 zz=>?_) hs rfl));obtain⟨vs,H1,I1,r1,q1⟩:=zz;obtain⟨l1,e,⟨xs,hq1⟩,q⟩:=q1;subst e;cases r1 with
 |cons r rr =>
  cases rr;cases r;obtain⟨its,rv,p1,hz⟩:=I1.tuple hq1;refine wO p1 λh' he hi hsz hk=>?_;refine wpAny_pyIter_enum (show IsEnum h' _ _ _ _ from he) ?_;refine⟨_,[s1.heap.objs.size+1,s1.heap.objs.size],_,_,H1,rfl,I1.kept (t':=s1.toks) hk,xE _ _ _ (Nat.succ_ne_self _),⟨⟨_,he⟩,hi⟩,λc hc=>?_,q⟩;simp only[Uj,UG,or_false]at hc;have hle:s1.heap.objs.size<=c:=by rcases hc with rfl|rfl<;>first|exact TU _|exact Nat.le_add_right _ _
  exact I1.nC hle (I1.hok.fresh hle)
end
theorem kE{K:UX}{a:Addr}{xs:List V}{g:TG}{tb:TS}{D:Ends}{σ:St}{H:Hp}(Pv:Nat->St->Hp->Prop)(h0:Pv 0 σ H)(hl:∀i σ H,i<=xs.length->Pv i σ H->aY K H a xs)
  (hs:∀i x σ H T,xs[i]? = some x->Pv i σ H->H T=none->g (.ref T) σ (upd H T (.tup [.int (i:Nat),x])) λcD H2=>tb {D with nx:=Pv (i+1),ct:=Pv (i+1),bk:=D.nx} cD H2) (hd:∀σ H,Pv xs.length σ H->D.nx σ H) :
  ∃W:Nat->Nat->St->Hp->Prop,(∃m,W 0 m σ H)/\∀i m σ H,W i m σ H->
   ((K8 K a).stop i H/\D.nx σ H)\/((K8 K a).go i H/\∃N:St->Hp->Prop,(∀σ' H',N σ' H'->∃m',m'<m/\W (i+1) m' σ' H')/\∀x H',(K8 K a).Ci i H x H'->g x σ H' λcD H2=>tb {D with nx:=N,ct:=N,bk:=D.nx} cD H2):=by
 refine⟨λi m σ H=>m=xs.length-i/\i<=xs.length/\Pv i σ H,⟨xs.length,by simp,Uo _,h0⟩,?_⟩;rintro i m σ H ⟨rfl,hi,p⟩;have q:=hl i σ H hi p;by_cases hlt:i<xs.length
 ·refine .inr ⟨⟨xs,xs[i],q,by simp[hlt]⟩,Pv (i+1),λσ' H' p'=>⟨xs.length-(i+1),by omega,rfl,hlt,p'⟩,λv H' y=>?_⟩;obtain⟨T,x,rfl,hT,rfl,hx⟩:=y;exact hs i x σ H T (hx xs q) p hT
 ·have e:i=xs.length:=by omega
  subst e;exact .inl ⟨⟨xs,q,TU _⟩,hd σ H p⟩
end L2
namespace My
open PySem L2
section
variable{X:Cx}{N':List Str}{sc:Scope}{cl:List (Str×Addr)}{C:Addr}{s:Shared}{H:Hp}{fp:List Addr}{E:XK}
theorem HJ{i:Nat}{x:Str}{pos:Pos}(hn:N'.Nodup:=by decide +kernel)(hN:N'[i]? = some x:=by rfl)(hv:sc.names.lookup x=some .local:=by rfl):PG ((aD X N' sc cl C s H fp).xs E) (.Name x pos) (bW i):=PG.yC (fX (X:=X) (cl:=cl) (C:=C) (s:=s) (H:=H) (fp:=fp) (N':=N') hn hN hv)
theorem NP(i:Nat){x:Str}{pos:Pos}(hN:N'[i]? = some x:=by rfl)(hv:sc.names.lookup x=some .local:=by rfl)(hd:(x==("__debug__" : Str))=false:=by decide)(hcd:(x==("__classdict__" : Str))=false:=by decide):PE ((aD X N' sc cl C s H fp).xs E) (.Name x pos) (bF i):=PE.yC (i3 (X:=X) (cl:=cl) (C:=C) (s:=s) (H:=H) (fp:=fp) (N':=N') i hN hv hd hcd)
end
theorem oY{t1 t2:TS}{D:Ends}{σ:St}{H:Hp}(Pm:St->Hp->Prop)(h:∀T:St->Hp->Prop,(∀σ' H',Pm σ' H'->T σ' H')->t1 {D with nx:=T} σ H)(t:∀σ' H',Pm σ' H'->t2 D σ' H'):xN t1 t2 D σ H:=h _ t
theorem oW{α:Type}{l:List α}{i:Nat}{x:α}(h:l[i]? = some x):l.drop i=x::l.drop (i+1):=by obtain⟨hi,rfl⟩:=Ug.mp h;exact List.drop_eq_getElem_cons hi
def gM(fl:Addr)(H H':Hp):Prop:=∀b o,b≠fl->H b=some o->H' b=some o
theorem gM.of{fl:Addr}{H H':Hp}(s:aG H H'):gM fl H H':=λ_ _ _ e=>s _ _ e
theorem gM.trans{fl:Addr}{H H1 H2:Hp}(a:gM fl H H1)(b:gM fl H1 H2):gM fl H H2:=λ_ _ n e=>b _ _ n (a _ _ n e)
theorem gM.put{fl:Addr}{H H1:Hp}{o:HO}(a:gM fl H H1):gM fl H (upd H1 fl o):=λb u n e=>by rw[aI n];exact a _ _ n e
theorem gM.new{fl L:Addr}{H H1:Hp}{o:HO}(hL:H L=none)(a:gM fl H H1):gM fl H (upd H1 L o):=λb u n e=>by rw[aI (a_ e hL)];exact a _ _ n e
theorem gM.cE{fl:Addr}{H H':Hp}{xs:List V}(g:gM fl H H')(h:H fl=some (.lst xs)):aJ H H':=λa ys e=>g _ _ (λz=>by rw[z,h]at e;cases e) e
theorem gO.keep{H H':Hp}{a:Addr}{k:Kn}(s:aJ H H')(h:gO H a k):gO H' a k:=by obtain⟨u,p,h1,h2,h3⟩:=h;exact⟨u,p,s _ _ h1,s _ _ h2,s _ _ h3⟩
def uf:Nat->List Wk->Prop
 | 0,ws=>ws.length<=12/\∀x∈ws,lL x
 |n+1,ws=>ws.length<=12/\∀x∈ws,lL x/\∀p∈gj x,uf n p
theorem uf.len{n:Nat}{ws:List Wk}(h:uf n ws):ws.length<=12:=by cases n<;>exact h.1
theorem uf.ok{n:Nat}{ws:List Wk}(h:uf n ws){x:Wk}(hx:x∈ws):lL x:=by
 cases n with
 |zero=>exact h.2 x hx
 |succ n=>exact(h.2 x hx).1
def cW:Nat->Nat
 | 0=>1
 |n+1=>1+2*(12*cW n+1)
def bnd(n:Nat):Nat:=12*cW n+1
def QY(C fl:Addr)(H:Hp)(a:List Int)(s:Str)(E:XK):Prop:=∀(e dx q:Addr)(H':Hp),gM fl H H'->H' e=some (xO e C (some dx))->H' dx=some (xD dx (AG (.ref q) (.str s)))->H' q=some (.tup (a.map V.int))->E (.ref C) (some e) H'
theorem iO.keep{H H':Hp}{as:List Addr}{t:Tr}(s:aJ H H')(h:iO H as t):iO H' as t:=⟨h.len,λi a e e1 e2=>let ⟨q,hh,z1,z2,z3⟩:=h.at_ i a e e1 e2;⟨q,hh,s _ _ z1,s _ _ z2,s _ _ z3⟩⟩
structure Oh(n:Nat)(H:Hp)(p b pl fl:Addr)(ws:List Wk)(k:Kn)(pi:List Int)(xs:List V):Prop where
 pp:l_ n H p ws
 kn:gO H b k
 pl:H pl=some (.tup (pi.map V.int))
 fl:H fl=some (.lst xs)
 ok:uf n ws
 ko:oM k
 pz:pi.length+2*n<=100
 xz:xs.length+bnd n<=100000
def zj(C:Addr):Nat->Sp
 | 0=>λ_ _ _ _=>False
 |n+1=>λvs H Q E=>∃(p b pl fl:Addr)(ws:List Wk)(k:Kn)(pi:List Int)(xs:List V),vs=[.ref p,.ref b,.ref pl,.ref fl]/\Oh n H p b pl fl ws k pi xs/\
  (∀a s,putL (bV n) pi 0 k.hd k.fl ws=.no a s->QY C fl H a s E)/\
  (∀h f,putL (bV n) pi 0 k.hd k.fl ws=.ok h f->∀(u:Addr)(k':Kn)(H':Hp)(as:List Addr),gM fl H H'->gO H' u k'->oM k'->k'.hd=h->k'.fl=f->H' fl=some (.lst (xs++as.map V.ref))->as.length<=bnd n->iO H' as (TL n pi 0 k.hd k.fl ws)->Q (.ref u) H')
theorem mQ{x:Wk}(h:fF x=false):gj x=[]/\B4 x=1:=by cases x<;>first|exact⟨rfl,rfl⟩|cases h
theorem Fj{n:Nat}{x:Wk}{h:Hd}{f:Fl}{pl:List Int}(hx:fF x=false):bV n h f pl x=nv x h f pl [(h,f)]:=by
 cases x with
 |one x=>cases n<;>rfl
 |both p q=>cases hx
 |meet c d p q=>cases hx
theorem HZ{n:Nat}{x:Wk}{h:Hd}{f:Fl}{pl:List Int}(hx:fF x=true):bV (n+1) h f pl x=C8 (bV n) x h f pl (gj x) 0 []:=by
 cases x with
 |one x=>cases hx
 |both p q=>rfl
 |meet c d p q=>rfl
theorem qe{x:Wk}(hx:fF x=true):(gj x).length=2/\B4 x=2:=by cases x<;>first|exact⟨rfl,rfl⟩|cases hx
theorem NM{x:Wk}{H:Hp}{a:Addr}(h:gN 0 H a x):fF x=false:=by cases x<;>first|rfl|exact UJ h
def oB(ks:List Kn):List (Hd×Fl):=ks.map λk=>(k.hd,k.fl)
theorem Fo(ks:List Kn):(oB ks).map (λe=>e.1)=kO ks:=by rw[oB,List.map_map];rfl
theorem FV(ks:List Kn):(oB ks).map (λe=>e.2)=ks.map Kn.fl:=by rw[oB,List.map_map];rfl
theorem E_{x:Wk}{f:Fl}{hs:List Hd}(h:gR x f hs=none):eQ x hs=true/\(bf x hs).length<=6:=by
 unfold gR at h;split at h
 ·split at h
  ·split at h
   ·exact⟨by assumption,by assumption⟩
   ·cases h
  ·cases h
 ·cases h
theorem Ex{x:Wk}{k:Kn}{ks:List Kn}(hk:fF x=false->ks=[k])(h:eQ x (kO ks)=true):keepIn x k.hd:=by rintro c t rfl;rw[hk rfl]at h;exact dU h (by simp[cZ])
theorem IM(n:Nat):1<=cW n:=by
 cases n with
 |zero=>exact TU _
 |succ n=>show 1<=1+_;omega
theorem yK(n:Nat):cW (n+1)=1+2*bnd n:=rfl
theorem ux{H H':Hp}{L u:Addr}{as:List Addr}{ks:List Kn}{k:Kn}(h:js H L as ks)(g:∀a k,gO H a k->gO H' a k)(hk:gO H' u k)(hL:H' L=some (.lst ((as++[u]).map V.ref))):js H' L (as++[u]) (ks++[k]):=by
 refine⟨hL,by rw[T1,T1,h.len];rfl,λi a k' e1 e2=>?_⟩;by_cases hi:i<as.length
 ·rw[Ur hi]at e1;rw[Ur (by rw[←h.len];exact hi)]at e2;exact g _ _ (h.at_ i a k' e1 e2)
 ·have hi':i=as.length:=by have:=(Ug.mp e1).1;rw[T1]at this;simp at this;omega
  rw[hi',Uq (TU _),Nat.sub_self]at e1;rw[hi',h.len,Uq (TU _),Nat.sub_self]at e2;cases e1;cases e2;exact hk
theorem aJ.refl{H:Hp}:aJ H H:=λ_ _ e=>e
theorem aJ.trans{H H1 H2:Hp}(a:aJ H H1)(b:aJ H1 H2):aJ H H2:=λ_ _ e=>b _ _ (a _ _ e)
theorem aJ.iK{H H':Hp}{L:Addr}{xs:List V}{o:HO}(k:aJ H H')(h:H' L=some (.lst xs)):aJ H (upd H' L o):=λa ys e=>by have:=k _ _ e;rw[aI (λz=>by rw[z,h]at this;cases this)];exact this
theorem JN(pi:List Int)(i:Int):pi.map V.int++[V.int i]=(pi++[i]).map V.int:=by rw[T4];rfl
inductive Sd(a b c d e:V)(σ:St):Prop
 |mk (o5 o6 o7 o8 o9 qY lF:Option V) (h:σ=[some a,some b,some c,some d,some e,o5,o6,o7,o8,o9,qY,lF])
inductive KY(a b c d e f g h i:V)(σ:St):Prop
 |mk (o9 qY lF:Option V) (h:σ=[some a,some b,some c,some d,some e,some f,some g,some h,some i,o9,qY,lF])
inductive Tj(n:Nat)(p b pl fl:Addr)(H:Hp)(k:Kn)(ws:List Wk)(pi:List Int)(xs:List V)(i:Nat)(σ:St)(H':Hp):Prop
 |mk (kb:Addr) (ki:Kn) (ys:List V) (st:Sd (.ref p) (.ref b) (.ref pl) (.ref fl) (.ref kb) σ) (h1:gO H' kb ki) (h2:oM ki) (h3:gM fl H H') (h4:H' fl=some (.lst ys)) (h5:ys.length<=xs.length+i*cW n) (h6:putL (bV n) pi 0 k.hd k.fl ws=putL (bV n) pi i ki.hd ki.fl (ws.drop i)) (h7:∃t,Em H' xs ys t/\TL n pi 0 k.hd k.fl ws=t++TL n pi i ki.hd ki.fl (ws.drop i))
inductive RY(n:Nat)(p b pl fl kb:Addr)(i:Nat)(a u2 L:Addr)(H4:Hp)(x:Wk)(ki k:Kn)(ws:List Wk)(pi:List Int)(ys xs:List V)(σ:St)(H6:Hp):Prop
 |mk (as:List Addr) (ks:List Kn) (zs:List V) (st:KY (.ref p) (.ref b) (.ref pl) (.ref fl) (.ref kb) (.int (i:Nat)) (.ref a) (.ref u2) (.ref L) σ) (h1:js H6 L as ks) (h2:ks.length=(gj x).length) (h3:∀k∈ks,oM k) (h4:aJ H4 H6) (h5:gM fl H4 H6) (h6:H6 fl=some (.lst zs)) (h7:zs.length<=ys.length+cW n) (h8:fF x=true->bV n ki.hd ki.fl (pi++[(i:Int)]) x=nv x ki.hd ki.fl (pi++[(i:Int)]) (oB ks)) (h9:∃t,Em H6 xs zs t/\TL n pi 0 k.hd k.fl ws=t++qw (bV n ki.hd ki.fl (pi++[(i:Int)]) x) λh' f'=>TL n pi (i+1) h' f' (ws.drop (i+1)))
inductive S9(n:Nat)(p b pl fl kb:Addr)(i:Nat)(a u2 L:Addr)(H4:Hp)(H5:Hp)(x:Wk)(ki k:Kn)(ws:List Wk)(pi:List Int)(ys xs:List V)(j:Nat)(σ:St)(H6:Hp):Prop
 |mk (as:List Addr) (ks:List Kn) (zs:List V) (st:KY (.ref p) (.ref b) (.ref pl) (.ref fl) (.ref kb) (.int (i:Nat)) (.ref a) (.ref u2) (.ref L) σ) (h1:js H6 L as ks) (h2:ks.length=j) (h3:∀k∈ks,oM k) (h4:aJ H5 H6) (h5:gM fl H4 H6) (h6:H6 fl=some (.lst zs)) (h7:∀m,n=m+1->zs.length<=ys.length+1+j*bnd m) (h8:j=0->zs.length<=ys.length+1) (h9:∀m,n=m+1->fF x=true->bV n ki.hd ki.fl (pi++[(i:Int)]) x=C8 (bV m) x ki.hd ki.fl (pi++[(i:Int)]) ((gj x).drop j) j (oB ks)) (h10:∃t,Em H6 xs zs t/\TL n pi 0 k.hd k.fl ws=t++(KN n ki.hd ki.fl (pi++[(i:Int)]) x j++qw (bV n ki.hd ki.fl (pi++[(i:Int)]) x) λh' f'=>TL n pi (i+1) h' f' (ws.drop (i+1))))
inductive SU(n:Nat)(p b pl fl kb:Addr)(i:Nat)(a u2 L:Addr)(H4:Hp)(x:Wk)(ki k:Kn)(ws:List Wk)(pi:List Int)(zs xs:List V)(o9 qY lF:Option V)(σ:St)(H7:Hp):Prop
 |mk (as:List Addr) (ks:List Kn) (st:σ=[some (.ref p),some (.ref b),some (.ref pl),some (.ref fl),some (.ref kb),some (.int (i:Nat)),some (.ref a),some (.ref u2),some (.ref L),o9,qY,lF]) (h1:js H7 L as ks) (h2:ks.length=B4 x) (h3:∀k∈ks,oM k) (h4:fF x=false->ks=[ki]) (h5:aJ H4 H7) (h6:gM fl H4 H7) (h7:H7 fl=some (.lst zs)) (h8:bV n ki.hd ki.fl (pi++[(i:Int)]) x=nv x ki.hd ki.fl (pi++[(i:Int)]) (oB ks)) (h9:∃t,Em H7 xs zs t/\TL n pi 0 k.hd k.fl ws=t++qw (bV n ki.hd ki.fl (pi++[(i:Int)]) x) λh' f'=>TL n pi (i+1) h' f' (ws.drop (i+1)))
abbrev fV:Stmt:=top 53
theorem bQ:av ["pipe","begun","prefix","found","known","at","worker","place","told","side","branch","why"] ["pipe","begun","prefix","found"] (ao fV):=fs
variable{P:Program}{w:World}{K:UX}{mg:Str->Option Value}{base:Heap}
theorem Du{C fI:Addr}{d2:FuncData}{n L:Nat}(B:j7 mg)(mE:mg "enumerate"=none)(Cf:Jn K mg C fI)(F:FA K mg "go_through" fV)(GI:e7 P w K mg base bx 1 fI d2 ["self","place","why"] (zd K C))(bI:Binds K d2 ["self","place","why"] [])
  (dN:bA bx P w K mg base 1 "branches_of" ["worker"] (yv n))
  (i_:bA (vc P w) P w K mg base (L+5) "go_through" ["pipe","begun","prefix","found"] (zj C n))
  (AB:bA bx P w K mg base 5 "why_not" ["worker","known","heads"] (GX n))
  (qp:bA bx P w K mg base 4 "known_behind" ["worker","known","told"] (vn n)) :
  bA (vc P w) P w K mg base (L+6) "go_through" ["pipe","begun","prefix","found"] (zj C (n+1)):=by
 refine F.Ie bQ λf cdv A outer s H vs Q E hr h=>?_;have hu:=iH hr;have hu1:=kS hr;obtain⟨p,b,pl,fl,ws,k,pi,xs,rfl,hG,qx,q⟩:=h;refine⟨_,(aq (bc (i:=4) bQ.nd rfl (UH rfl) (pv 1))
   (aq (fj (wF pB) rfl (mr rfl mE (aa (pv 0) ah)) (bS rfl (ar (aM (i:=5) bQ.nd rfl (UH rfl)) (ar (aM (i:=6) bQ.nd rfl (UH rfl)) bw)))
    (aq (bc (i:=7) bQ.nd rfl (UH rfl) (aQ cq (pv 2) (aW (aa (pv 5) ah))))
     (aq (c7 (jU PySem.F.plainAttrs_list PySem.F.slot_list_append PySem.F.type_list_append cw (pv 3) (aa (aW (aa (pv 7) (aa (aX K (pv 4) ai) (aa (aX K (pv 4) ai) ah)))) ah)))
     (aq (bc (i:=8) bQ.nd rfl (UH rfl) (bZ ah))
     (aq (fj (wF pB) rfl (mr rfl mE (aa (aL dN hr (aa (pv 6) ah)) ah)) (bS rfl (ar (aM (i:=9) bQ.nd rfl (UH rfl)) (ar (aM (i:=10) bQ.nd rfl (UH rfl)) bw)))
      (b_ (c7 (jU PySem.F.plainAttrs_list PySem.F.slot_list_append PySem.F.type_list_append cw (pv 8) (aa (ql i_ hr rfl uR (aa (pv 10) (aa (pv 4) (aa (aQ cq (pv 7) (aW (aa (pv 9) ah))) (aa (pv 3) ah))))) ah)))))
     (aq (jv (bg bO (aN aU rfl B.len UU (aa (pv 8) ah)) ai)
      (b_ (c7 (jU PySem.F.plainAttrs_list PySem.F.slot_list_append PySem.F.type_list_append cw (pv 8) (aa (pv 4) ah))))
      fv)
     (aq (bc (i:=11) bQ.nd rfl (UH rfl) (aL AB hr (aa (pv 6) (aa (pv 4) (aa (zr (N':=["head","passed","loose"]) (src:=[none,none,none]) rfl pB (bh.lJ (by kernel_rfl)) (eU (pv 8)) (g:=(oJ K 3 (cI (bW 0) (cI (bW 1) (cI (bW 2) oH))))) (λcl C s H fp=>(bS rfl (ar (HJ (i:=0)) (ar (HJ (i:=1)) (ar (HJ (i:=2)) bw))))) (λcl C s H fp=>iF.yC bp) (te:=(bF 0)) (λcl C s H fp=>(NP 0))) ah)))))
     (aq (jv (bg yD (pv 11) gc)
      (b_ (zV rfl Cf.Ng (FP Cf.Ng Cf.kp Cf.fn (GI.mono (by omega)) hr rfl Cf.mf bI rG (aa (pv 7) (aa (pv 11) ah)))))
      fv)
     (b_ (bc (i:=4) bQ.nd rfl (UH rfl) (aL qp hr (aa (pv 6) (aa (pv 4) (aa (pv 8) ah))))))))))))))
   (aq (c7 (jU PySem.F.plainAttrs_list PySem.F.slot_list_append PySem.F.type_list_append cw (pv 3) (aa (aW (aa (aQ cq (pv 2) (aW (aa (aN aU rfl B.len UU (aa (pv 0) ah)) ah))) (aa (aX K (pv 4) ai) (aa (aX K (pv 4) ai) ah)))) ah)))
   (ax (pv 4))))),?_⟩
 obtain⟨⟨bs,hI⟩,hk,hpl,hfl,hok,hko,hpz,Tq⟩:=hG;have hlb:(bs.map V.ref).length=ws.length:=by rw[TZ,hI.len]
 have hcw:=IM n;have hw9:=hok.len;have hbn:bnd n=12*cW n+1:=rfl;refine⟨_,rfl,aj ?_⟩;dsimp only;refine⟨_,rfl,p,rfl,⟨_,aY.of hI.tup⟩,?_⟩;refine kE (xs:=bs.map V.ref) (Tj n p b pl fl H k ws pi xs)
  ⟨b,k,xs,⟨_,_,_,_,_,_,_,rfl⟩,hk,hko,gM.of (aG.refl _),hfl,Nat.le_add_right _ _,rfl,[],⟨[],(by simp),.nil⟩,rfl⟩ ?_ ?_ ?_
 ·rintro i σ H' _ ⟨kb,ki,ys,_,_,_,g,_⟩;exact aY.of (g.cE hfl _ _ hI.tup)
 ·rintro i v σ H' T hx ⟨kb,ki,ys,⟨o5,o6,o7,o8,o9,qY,lF,rfl⟩,hki,hoi,g,hfl',hyz,hrun,tr,hLs,htr⟩ hT;obtain⟨a,x,rfl,ex,ha⟩:=hI.get hx;have PL:i<12:=by have:=(Ug.mp ex).1;omega
  have hic:i*cW n+cW n<=12*cW n:=by have:=Nat.mul_le_mul_right (cW n) PL;rw[Nat.succ_mul]at this;exact this
  have PX:=hok.ok (Ub ex);rw[oW ex]at hrun htr;rw[tO]at htr;have hrun:putL (bV n) pi 0 k.hd k.fl ws=eT (bV n ki.hd ki.fl (pi++[(i:Int)]) x) λh' f'=>putL (bV n) pi (i+1) h' f' (ws.drop (i+1)):=hrun;have sT:=ag hT (.tup [.int (i:Nat),.ref a]);refine⟨T,_,rfl,aY.of ae,rfl,_,_,rfl,aj ⟨_,_,rfl,aj ⟨rfl,?_⟩⟩⟩;dsimp only;refine⟨_,rfl,_,rfl,cN,λu1 sf=>?_⟩;have sU:=ag sf (.tup [.int (i:Nat)]);refine⟨pl,u1,_,_,rfl,rfl,sU _ _ (sT _ _ (g.cE hfl _ _ hpl)),ae,by rw[TZ];exact TV (show _+1<=1000 by omega) (by decide),λu2 H2 IU hu2=>aj ?_⟩;rw[JN]at hu2;have s2:=sT.trans (sU.trans IU);dsimp only;obtain⟨hh,ph,hk1,hk2,hk3⟩:=hki;have hki:gO H' kb ki:=⟨hh,ph,hk1,hk2,hk3⟩;refine⟨_,rfl,.inl ⟨rfl,_,bj.of (s2 _ _ hfl')⟩,_,rfl,_,rfl,kb,_,0,_,rfl,rfl,aY.of (s2 _ _ hk1),aP (j:=0) rfl,_,rfl,kb,_,2,_,rfl,rfl,aY.of (s2 _ _ hk1),rfl,cm,λu3 sG=>?_⟩;have s3:=ag sG (.tup [.ref u2,.ref hh,.bl ki.lo]);refine⟨fl,_,_,rfl,rfl,s3 _ _ (s2 _ _ hfl'),T8 (show ys.length<=100000 by omega) (by decide),?_⟩;have g4:gM fl H' (upd (upd H2 u3 (.tup [.ref u2,.ref hh,.bl ki.lo])) fl (.lst (ys++[.ref u3]))):=(gM.of (s2.trans s3)).put;have AR:upd (upd H2 u3 (.tup [.ref u2,.ref hh,.bl ki.lo])) fl (.lst (ys++[.ref u3])) fl=some (.lst (ys++[.ref u3])):=ae;have rL:upd (upd H2 u3 (.tup [.ref u2,.ref hh,.bl ki.lo])) fl (.lst (ys++[.ref u3])) u2=some (.tup ((pi++[(i:Int)]).map V.int)):=by rw[aI (λz=>by have:=s2 _ _ hfl';rw[←z,hu2]at this;cases this)];exact s3 _ _ hu2
  have Jf:Em (upd (upd H2 u3 (.tup [.ref u2,.ref hh,.bl ki.lo])) fl (.lst (ys++[.ref u3]))) xs (ys++[.ref u3]) (tr++[(pi++[(i:Int)],ki.hd,ki.lo)]):=by
   obtain⟨as,ey,Kz⟩:=hLs;have n3:u3≠fl:=λz=>by have:=s2 _ _ hfl';rw[←z,sG]at this;cases this
   exact Em.app (bs:=[u3]) ⟨as,ey,Kz.keep (g4.cE hfl')⟩ (iO.one (by rw[aI n3];exact ae) rL (g4.cE hfl' _ _ hk2))
  revert g4 AR rL Jf;generalize upd (upd H2 u3 (.tup [.ref u2,.ref hh,.bl ki.lo])) fl (.lst (ys++[.ref u3]))=H4;intro g4 AR rL Jf;have Nd:aJ H' H4:=g4.cE hfl';have Qi:aJ H H4:=(g.cE hfl).trans Nd;refine⟨Uo _,λL hL=>aj ?_⟩;have NW:L≠fl:=λz=>by rw[z,AR]at hL;cases hL
  dsimp only;refine oY (RY n p b pl fl kb i a u2 L H4 x ki k ws pi ys xs) (λT2 hT2=>?_) ?_
  ·have sL:=ag hL (.lst []);refine⟨_,rfl,a,x,rfl,ha.keep (Qi.trans (aJ.of sL)),λu5 cs H5 s5 hJ=>⟨u5,rfl,⟨_,aY.of hJ.tup⟩,?_⟩⟩;have v5:(cs.map V.ref).length=(gj x).length:=by rw[TZ,hJ.len]
   refine kE (xs:=cs.map V.ref) (S9 n p b pl fl kb i a u2 L H4 H5 x ki k ws pi ys xs)
    ⟨[],[],ys++[.ref u3],⟨_,_,_,rfl⟩,⟨s5 _ _ ae,rfl,λi a k e=>by cases e⟩,rfl,λk hk=>(by cases hk),aJ.refl,(gM.of sL).trans (gM.of s5),s5 _ _ (sL _ _ AR),?_,?_,?_,tr++[(pi++[(i:Int)],ki.hd,ki.lo)],(by obtain⟨as,ey,Kz⟩:=Jf;exact⟨as,ey,Kz.keep (aJ.of (sL.trans s5))⟩),(by rw[htr,L5];simp;rfl)⟩ ?_ ?_ ?_
   ·intro m _;rw[T1,Nat.zero_mul];simp
   ·intro _;rw[T1];simp
   ·rintro m rfl hb;exact HZ hb
   ·rintro j σ H6 _ ⟨as,ks,zs,_,_,_,_,kT,_⟩;exact aY.of (kT _ _ hJ.tup)
   ·rintro j v σ H6 QX hv ⟨as,ks,zs,⟨o9,qY,lF,rfl⟩,Bc,hkl,Jg,P7,g6,xu,Kj,_,lb,t6,Ee,AM⟩ hT2';obtain⟨c',pp,rfl,ep,ds,QT⟩:=hJ.get hv;have hbr:fF x=true:=by
     cases hq:fF x with
     |true=>rfl
     |false=>rw[(mQ hq).1]at ep;cases ep
    obtain⟨m,rfl⟩ :∃m,n=m+1:=by
     cases n with
     |zero=>rw[NM ha]at hbr;cases hbr
     |succ m=>exact⟨m,rfl⟩
    have hj2:j<2:=by have:=(Ug.mp ep).1;rw[(qe hbr).1]at this;exact this
    have Kj:=Kj m rfl;have hcs:=yK m;have TJ:j*bnd m+bnd m<=2*bnd m:=by have:=Nat.mul_le_mul_right (bnd m) hj2;rw[Nat.succ_mul]at this;exact this
    have lb:=lb m rfl hbr;rw[oW ep]at lb;have sA:=ag hT2' (.tup [.int (j:Nat),.ref c']);refine⟨QX,_,rfl,aY.of ae,rfl,_,_,rfl,aj ⟨_,_,rfl,aj ⟨rfl,?_⟩⟩⟩;dsimp only;refine⟨_,rfl,.inl ⟨rfl,_,bj.of (sA _ _ Bc.lst)⟩,_,rfl,_,rfl,_,rfl,_,rfl,cN,λu7 Nn=>?_⟩;have sB:=ag Nn (.tup [.int (j:Nat)]);have Kw:aJ H4 H6:=g6.cE AR;refine⟨u2,u7,_,_,rfl,rfl,sB _ _ (sA _ _ (Kw _ _ rL)),ae,by rw[TZ,T1];exact TV (show _+1+1<=1000 by omega) (by decide),λu8 H8 s8 iH=>?_⟩;rw[JN]at iH;have Gr:=sA.trans (sB.trans s8);have N1:=P7.trans (aJ.of Gr);have g8:gM fl H H8:=(g.trans g4).trans (g6.trans (gM.of Gr));have N_:gO H8 kb ki:=(hki.keep Nd).keep (Kw.trans (aJ.of Gr));refine⟨_,rfl,c',kb,u8,fl,pp,ki,(pi++[(i:Int)])++[(j:Int)],zs,rfl,⟨⟨ds,QT.keep N1 λ_ _ z=>z.keep N1⟩,N_,iH,Gr _ _ xu,(hok.2 x (Ub ex)).2 pp (Ub ep),hoi,by rw[T1,T1];show _+1+1+_<=_;omega,by omega⟩,?_,?_⟩
    ·intro a' s' he;have ht:putL (bV (m+1)) pi 0 k.hd k.fl ws=.no a' s':=by rw[hrun,lb];show eT (eT (putL (bV m) ((pi++[(i:Int)])++[(j:Int)]) 0 ki.hd ki.fl pp) _) _=_;rw[he];rfl
     exact λe dx q' H9 g9=>qx a' s' ht e dx q' H9 (g8.trans g9)
    ·intro h' f' he u k' H9 QR g9 hk' KR eh ef Nu LF hB9;have hL9:H9 L=some (.lst (as.map V.ref)):=g9 _ _ NW (Gr _ _ Bc.lst);have O1:aJ H8 H9:=g9.cE (Gr _ _ xu);refine⟨L,_,_,rfl,rfl,hL9,?_,as++[u],ks++[k'],zs++QR.map V.ref,⟨_,_,_,rfl⟩,?_,?_,?_,(N1.trans O1).iK hL9,?_,?_,?_,?_,?_,t6++TL m ((pi++[(i:Int)])++[(j:Int)]) 0 ki.hd ki.fl pp,?_,?_⟩
     ·rw[TZ,Bc.len,hkl];exact Nat.lt_trans hj2 (by decide)
     ·refine ux Bc (λa k z=>z.keep (((aJ.of Gr).trans O1).iK hL9)) (hk'.keep (aJ.refl.iK hL9)) ?_;rw[ae,T4];rfl
     ·rw[T1,hkl];rfl
     ·intro k2 hk2;rcases Ul.mp hk2 with z|z
      ·exact Jg k2 z
      ·rw[Uh.mp z];exact KR
     ·exact gM.new hL ((g6.trans (gM.of Gr)).trans g9)
     ·rw[aI (Ne.symm NW)];exact Nu
     ·rintro m' e;cases e;rw[T1,Nat.succ_mul,TZ];omega
     ·intro z;cases z
     ·rintro m' e _;cases e;rw[lb];show eT (putL (bV m) ((pi++[(i:Int)])++[(j:Int)]) 0 ki.hd ki.fl pp) _=_;rw[he];show C8 (bV m) x ki.hd ki.fl (pi++[(i:Int)]) _ (j+1) (oB ks++[(h',f')])=_;rw[show oB (ks++[k'])=oB ks++[(h',f')] by rw[oB,T4,←eh,←ef];rfl]
     ·obtain⟨Mk,Mq,CI⟩:=Ee;have Tn:aJ H6 (upd H9 L (.lst (as.map V.ref++[.ref u]))):=((aJ.of Gr).trans O1).iK hL9;exact Em.app ⟨Mk,Mq,CI.keep Tn⟩ (hB9.keep (aJ.refl.iK hL9))
     ·rw[AM,Iz (oW ep) he];simp only[List.append_assoc]
   ·rintro σ H6 ⟨as,ks,zs,⟨o9,qY,lF,rfl⟩,Bc,hkl,Jg,P7,g6,xu,Kj,hz0,lb,t6,Ee,AM⟩;rw[v5]at hkl Kj hz0 lb AM;refine hT2 _ _ ⟨as,ks,zs,⟨_,_,_,rfl⟩,Bc,hkl,Jg,g6.cE AR,g6,xu,?_,?_,t6,Ee,(by rw[AM,Fq (TU _)];rfl)⟩
    ·cases hq:fF x with
     |false=>have:=hz0 (by rw[(mQ hq).1];rfl);omega
     |true =>
      obtain⟨m,rfl⟩ :∃m,n=m+1:=by
       cases n with
       |zero=>rw[NM ha]at hq;cases hq
       |succ m=>exact⟨m,rfl⟩
      have:=Kj m rfl;rw[(qe hq).1]at this;rw[yK];omega
    ·intro hq;obtain⟨m,rfl⟩ :∃m,n=m+1:=by
      cases n with
      |zero=>rw[NM ha]at hq;cases hq
      |succ m=>exact⟨m,rfl⟩
     have:=lb m rfl hq;rw[List.drop_length]at this;exact this
  rintro σ H6 ⟨as0,Qe,zs,⟨o9,qY,lF,rfl⟩,qc,EU,OY,Kw,g6,xu,Kj,lb,t6,Ee,AM⟩;refine oY (SU n p b pl fl kb i a u2 L H4 x ki k ws pi zs xs o9 qY lF) (λT3 MW=>?_) ?_
  ·refine⟨_,rfl,L,_,rfl,.inl (bj.of qc.lst),rfl,_,rfl,?_⟩;cases hq:fF x with
   |false =>
    have e0:as0=[]:=List.eq_nil_of_length_eq_zero (by rw[qc.len,EU,(mQ hq).1];rfl);subst e0;have ek:Qe=[]:=List.eq_nil_of_length_eq_zero (by rw[EU,(mQ hq).1];rfl);subst ek;refine dX ⟨_,rfl,.inl ⟨rfl,_,bj.of qc.lst⟩,_,rfl,L,_,_,rfl,rfl,qc.lst,(by show 0<sizeLine;decide),MW _ _ ⟨[kb],[ki],rfl,?_,(mQ hq).2.symm,?_,λ_=>rfl,Kw.iK qc.lst,gM.new hL g6,?_,?_,t6,?_,AM⟩⟩
    ·exact ux qc (λa k z=>z.keep (aJ.refl.iK qc.lst)) ((hki.keep Nd).keep (Kw.iK qc.lst)) (by rw[ae];rfl)
    ·intro k2 hk2;rw[Uh.mp hk2];exact hoi
    ·rw[aI (Ne.symm NW)];exact xu
    ·exact Fj hq
    ·obtain⟨Mk,Mq,CI⟩:=Ee;exact⟨Mk,Mq,CI.keep (aJ.refl.iK qc.lst)⟩
   |true =>
    have e2:as0.length=2:=by rw[qc.len,EU,(qe hq).1]
    rw[TX (by rw[TZ,e2];intro z;cases z)];exact cV (bD (MW _ _ ⟨as0,Qe,rfl,qc,by rw[EU,(qe hq).1,(qe hq).2],OY,λz=>(by rw[hq]at z;cases z),Kw,g6,xu,lb hq,t6,Ee,AM⟩))
  rintro σ H7 ⟨as,ks,rfl,Bc,hkn,E5,hone,NK,g7,Nv,BK,t7,JJ,Oi⟩;have Pa:aJ H H7:=Qi.trans NK;have KQ:gO H7 kb ki:=(hki.keep Nd).keep NK;have hla:(as.map V.ref).length=ks.length:=by rw[TZ,Bc.len]
  have hn2:ks.length<=2:=by rw[hkn];exact Bg
  refine⟨_,rfl,_,rfl,_,rfl,L,rfl,⟨_,bj.of Bc.lst⟩,λD2 hD2=>?_⟩;refine fe (xs:=as.map V.ref) (λi σ ys H'=>(∃o1 o2 o3,σ=[o1,o2,o3])/\(∃bs:List Addr,ys=bs.map V.ref/\bs.length=i/\∀(j:Nat) a k,bs[j]? = some a->ks[j]? = some k->gD H7 a k.hd)/\H' D2=some (.lst ys)/\aG H7 H') ⟨⟨none,none,none,rfl⟩,⟨[],rfl,rfl,λj a k e=>by cases e⟩,ae,ag hD2 _⟩ ?_ ?_ ?_ ?_ ?_
  ·rintro i σ ys H' _ ⟨_,⟨bs,rfl,hi,_⟩,h,_⟩;exact⟨h,by rw[TZ];exact UP hi⟩
  ·rintro i σ ys H' _ ⟨_,_,_,sm⟩;exact bj.of (sm _ _ Bc.lst)
  ·rw[hla];exact TV hn2 (by decide)
  ·rintro i v σ ys H' hv ⟨⟨o1,o2,o3,rfl⟩,⟨bs,rfl,hi,hb⟩,h,sm⟩;obtain⟨b',k',rfl,ek,hh',p',hq1,hq2,Tt⟩:=Bc.get hv;refine⟨b',_,rfl,aY.of (sm _ _ hq1),rfl,_,_,rfl,aj ⟨_,_,rfl,aj ⟨_,_,rfl,aj ⟨rfl,?_⟩⟩⟩⟩;refine⟨_,rfl,h,⟨_,_,_,rfl⟩,⟨bs++[hh'],by rw[T4];rfl,by rw[T1,hi];rfl,λj a k e1 e2=>?_⟩,ae,bo hD2 sm⟩;by_cases hj:j<bs.length
   ·rw[Ur hj]at e1;exact hb j a k e1 e2
   ·have hj':j=bs.length:=by have:=(Ug.mp e1).1;rw[T1]at this;simp at this;omega
    rw[hj',Uq (TU _),Nat.sub_self]at e1;cases e1;rw[hj',hi,ek]at e2;cases e2;exact hq2
  rintro σ ys' H8 ⟨_,⟨ds,rfl,hi,hb⟩,h8,s8⟩;rw[hla]at hi;have QO:=Pa.trans (aJ.of s8);refine⟨a,kb,D2,x,ki,ds,kO ks,rfl,ha.keep QO,KQ.same s8,yg h8 hi (λi a k e1 e2=>s8 _ _ (hb i a k e1 e2)),by rw[kO,TZ,hkn],PX,TV hoi.few (by decide),λh hh=>by obtain⟨k,hk,rfl⟩:=Ui.mp hh;exact TV (E5 k hk).hd (by decide),λH9 s9=>aj ?_⟩;have Ii:=s8.trans s9;have Rv:=Pa.trans (aJ.of Ii);have g9:gM fl H H9:=(g.trans g4).trans (g7.trans (gM.of Ii));rw[HY];have hfin:nv x ki.hd ki.fl (pi++[(i:Int)]) (oB ks)=match gR x ki.fl (kO ks)with|some s=>.no (pi++[(i:Int)]) s|none=>.ok (bf x (kO ks)) (Hg x ki.hd ki.fl (ks.map Kn.fl)):=by unfold nv;rw[Fo,FV];first|done | (cases gR x ki.fl (kO ks)<;>rfl)
  cases ew:gR x ki.fl (kO ks)with
  |some s =>
   rw[ew]at hfin;have ht:putL (bV n) pi 0 k.hd k.fl ws=.no (pi++[(i:Int)]) s:=by rw[hrun,BK,hfin];rfl
   dsimp only;refine⟨_,rfl,rfl,_,rfl,dX ⟨_,rfl,_,rfl,cn,λe he=>?_⟩⟩;have ne:∀d o,H9 d=some o->d≠e:=λd o z y=>by subst y;rw[he]at z;cases z
   refine⟨e,_,_,rfl,ae,Cf.xc,Cf.np,Cf.nr,λdx H3 hdx keep h2 h3=>⟨rfl,e,some dx,rfl,h2,?_⟩⟩;have kk:∀d o,H9 d=some o->H3 d=some o:=λd o z=>keep d o (ne d o z) (by rw[aI (ne d o z)];exact z);have Sw:dx≠e:=λy=>by subst y;rw[ae]at hdx;cases hdx
   have Po:H9 u2=some (.tup ((pi++[(i:Int)]).map V.int)):=(NK.trans (aJ.of Ii)) _ _ rL;refine qx _ s ht e dx u2 _ (λd o nd z=>?_) ae (by rw[aI Sw];exact h3) ?_
   ·have z9:=g9 _ _ nd z;rw[aI (ne d o z9)];exact kk _ _ z9
   ·rw[aI (ne u2 _ Po)];exact kk _ _ Po
  |none =>
   rw[ew]at hfin;obtain⟨hfit,OR⟩:=E_ ew;dsimp only;refine⟨_,rfl,rfl,_,rfl,cV (bD ?_)⟩;dsimp only;refine⟨_,rfl,_,rfl,_,rfl,a,kb,L,x,ki,as,ks,rfl,ha.keep Rv,KQ.same Ii,Bc.same Ii,⟨hkn,PX,hfit,Ex hone hfit,λk hk=>TV (E5 k hk).hd (by decide),λk hk=>TV (E5 k hk).few (by decide)⟩,λu k' xJ qC hk' e1 e2 e3=>aj ?_⟩;refine⟨u,k',zs,⟨_,_,_,_,_,_,_,rfl⟩,hk',oM.next E5 (by rw[e1];exact OR) e2,g9.trans (gM.of qC),qC _ _ (Ii _ _ Nv),?_,?_,t7,?_,?_⟩
   ·rw[Nat.succ_mul];omega
   ·rw[hrun,BK,hfin,e1,HD e2 e3];rfl
   ·obtain⟨Mk,Mq,CI⟩:=JJ;exact⟨Mk,Mq,CI.keep (aJ.of (Ii.trans qC))⟩
   ·rw[Oi,BK,hfin,e1,HD e2 e3];rfl
 ·rintro σ H' ⟨kb,ki,ys,⟨o5,o6,o7,o8,o9,qY,lF,rfl⟩,hki,hoi,g,hfl',hyz,hrun,tr,hLs,htr⟩;rw[hlb]at hyz hrun htr;rw[List.drop_length]at hrun htr;have Tp:=Nat.mul_le_mul_right (cW n) hw9;obtain⟨hh,ph,hk1,hk2,hk3⟩:=hki;have k0:=g.cE hfl;dsimp only;refine⟨_,rfl,.inl ⟨rfl,_,bj.of hfl'⟩,_,rfl,_,rfl,p,_,rfl,.inr (aY.of (k0 _ _ hI.tup)),cN,λu1 sf=>?_⟩;have sU:=ag sf (.tup [.int ((bs.map V.ref).length:Nat)]);refine⟨pl,u1,_,_,rfl,rfl,sU _ _ (k0 _ _ hpl),ae,by rw[TZ];exact TV (show _+1<=1000 by omega) (by decide),λu2 H2 IU hu2=>?_⟩;have s2:=sU.trans IU;refine⟨_,rfl,kb,_,0,_,rfl,rfl,aY.of (s2 _ _ hk1),aP (j:=0) rfl,_,rfl,kb,_,2,_,rfl,rfl,aY.of (s2 _ _ hk1),rfl,cm,λu3 sG=>?_⟩;have s3:=ag sG (.tup [.ref u2,.ref hh,.bl ki.lo]);have Nl:=s2.trans s3;refine⟨fl,_,_,rfl,rfl,Nl _ _ hfl',T8 (show ys.length<=100000 by omega) (by decide),_,rfl,?_⟩;have kU:aJ H' (upd (upd H2 u3 (.tup [.ref u2,.ref hh,.bl ki.lo])) fl (.lst (ys++[.ref u3]))):=(aJ.of Nl).iK (Nl _ _ hfl');obtain⟨as,ey,Kz⟩:=hLs;have nf:u3≠fl:=λz=>by have:=s2 _ _ hfl';rw[←z,sG]at this;cases this
  have n2:u2≠fl:=λz=>by have:=s2 _ _ hfl';rw[←z,hu2]at this;cases this
  rw[JN]at hu2;have hone:iO (upd (upd H2 u3 (.tup [.ref u2,.ref hh,.bl ki.lo])) fl (.lst (ys++[.ref u3]))) [u3] [(pi++[((bs.map V.ref).length:Int)],ki.hd,ki.lo)]:=iO.one (by rw[aI nf];exact ae) (by rw[aI n2];exact s3 _ _ hu2) (kU _ _ hk2);refine q ki.hd ki.fl hrun kb ki _ (as++[u3]) (g.trans (gM.of Nl)).put ⟨hh,ph,kU _ _ hk1,kU _ _ hk2,kU _ _ hk3⟩ hoi rfl rfl ?_ ?_ ?_
  ·rw[ae,ey,T4,List.append_assoc];rfl
  ·rw[ey,T1,TZ]at hyz;rw[T1];show as.length+1<=_;omega
  ·rw[htr,←hlb];exact(Kz.keep kU).app hone
def f0:Fl:=⟨false,false,false,false,false⟩
def kH(n:Nat)(hd:Hd)(ws:List Wk):Res:=putL (bV n) [] 0 hd f0 ws
def Qb(C:Addr)(H:Hp)(a:List Int)(s:Str)(E:XK):Prop:=∀(e dx q:Addr)(H':Hp),aG H H'->H' e=some (xO e C (some dx))->H' dx=some (xD dx (AG (.ref q) (.str s)))->H' q=some (.tup (a.map V.int))->E (.ref C) (some e) H'
structure Oa(n:Nat)(H:Hp)(a p:Addr)(hd:Hd)(ws:List Wk):Prop where
 jA:gD H a hd
 six:hd.length<=6
 pp:l_ n H p ws
 ok:uf n ws
def Cd(C:Addr)(n:Nat):Sp:=λvs H Q E=>∃(a p:Addr)(hd:Hd)(ws:List Wk),vs=[.ref a,.ref p]/\Oa n H a p hd ws/\2*n<=100/\bnd n<=100000/\
 (∀x s,kH n hd ws=.no x s->Qb C H x s E)/\
 (∀h f,kH n hd ws=.ok h f->∀(l:Addr)(H':Hp)(as:List Addr),aG H H'->H' l=some (.lst (as.map V.ref))->iO H' as (TL n [] 0 hd f0 ws)->Q (.ref l) H')
theorem lQ{fl:Addr}{H H1 H':Hp}(hn:H fl=none)(s:aG H H1)(g:gM fl H1 H'):aG H H':=λb o e=>g _ _ (a_ e hn) (s _ _ e)
abbrev p3:Stmt:=top 54
theorem rS:av ["head","pipe","found"] ["head","pipe"] (ao p3):=fs
theorem Aa{C:Addr}{n L:Nat}(F:FA K mg "survey" p3)
  (i_:bA (vc P w) P w K mg base (L+6) "go_through" ["pipe","begun","prefix","found"] (zj C (n+1))) :
  bA (vc P w) P w K mg base (L+7) "survey" ["head","pipe"] (Cd C n):=by
 refine F.Ie rS λf cdv A outer s H vs Q E hr h=>?_;have hu:=iH hr;have hu1:=kS hr;obtain⟨a,p,hd,ws,rfl,hI,hn2,hbn,qx,q⟩:=h;refine⟨_,(aq (bc (i:=2) rS.nd rfl (UH rfl) (bZ ah))
   (aq (c7 (ql i_ hr rfl uR (aa (pv 1) (aa (aW (aa (pv 0) (aa (aW ah) (aa c0 ah)))) (aa (aW ah) (aa (pv 2) ah))))))
   (ax (pv 2)))),?_⟩
 refine⟨Uo _,λF hF=>aj ?_⟩;dsimp only;have s0:=ag hF (.lst []);have J5:upd H F (.lst []) F=some (.lst []):=ae;revert s0 J5;generalize upd H F (.lst [])=H0;intro s0 J5;refine⟨_,rfl,_,rfl,m_,λu1 sf=>?_⟩;have s1:=ag sf (.tup []);refine⟨cm,λu2 hu2=>?_⟩;have s2:=ag hu2 (.tup [.ref a,.ref u1,.bl false]);refine⟨m_,λu3 sG=>?_⟩;have s3:=ag sG (.tup []);have Kr:=s0.trans (s1.trans (s2.trans s3));have v9:=s1.trans (s2.trans s3);have e1:=s3 _ _ (s2 _ _ (ae (H:=H0) (a:=u1) (o:=.tup [])));have e2:=s3 _ _ (ae (H:=upd H0 u1 (.tup [])) (a:=u2) (o:=.tup [.ref a,.ref u1,.bl false]));have e3:upd (upd (upd H0 u1 (.tup [])) u2 (.tup [.ref a,.ref u1,.bl false])) u3 (.tup []) u3=some (.tup []):=ae;revert Kr v9 e1 e2 e3;generalize upd (upd (upd H0 u1 (.tup [])) u2 (.tup [.ref a,.ref u1,.bl false])) u3 (.tup [])=H3;intro Kr v9 e1 e2 e3;refine⟨_,rfl,p,u2,u3,F,ws,⟨hd,[],false⟩,[],[],rfl,⟨hI.pp.keep (aJ.of Kr),⟨a,u1,e2,Kr _ _ hI.jA,e1⟩,e3,v9 _ _ J5,hI.ok,⟨hI.six,List.nodup_nil,λs hs=>(by cases hs)⟩,by simpa using hn2,by simpa using hbn⟩,?_,?_⟩
 ·intro x s he e dx q' H' g;exact qx x s he e dx q' H' (lQ hF Kr g)
 ·intro h f he u k' H' as g hk' KR eh ef hfl' LF hT;exact⟨_,rfl,q h f he F H' as (lQ hF Kr g) (by rw[List.nil_append]at hfl';exact hfl') hT⟩
structure JD(K:UX)(mg:Str->Option Value)(C:Addr):Prop where
 xc:jo K C
 Ng:iR K C ua "ValueError.__new__" none=true
 mf:mg "NoPlace"=some (.ref C)
def seek(t:Tr)(p:List Int):Option (Hd×Bool):=(t.find? λe=>decide (e.1=p)).map (·.2)
def Cn(CP:Addr):Sp:=λvs H Q E=>∃(l pa:Addr)(as:List Addr)(t:Tr)(p:List Int),vs=[.ref l,.ref pa]/\H l=some (.lst (as.map V.ref))/\iO H as t/\H pa=some (.tup (p.map V.int))/\
 (seek t p=none->∀(e:Addr)(H':Hp),aG H H'->H' e=some (xO e CP none)->E (.ref CP) (some e) H')/\
 (∀b,seek t p=some b->∀(u hh:Addr)(H':Hp),aG H H'->H' u=some (.tup [.ref hh,.bl b.2])->gD H' hh b.1->Q (.ref u) H')
def dI(p:List Int):D:=.tup (p.map D.int)
theorem gf{K:UX}{H:Hp}{a:Addr}{p:List Int}(h:H a=some (.tup (p.map V.int))):aV K H (dI p) (.ref a):=by
 refine bL h (aK.of (by rw[TZ,TZ]) λi d v e1 e2=>?_);rw[Us]at e1 e2;cases q:p[i]? with
 |none=>rw[q]at e1;cases e1
 |some x=>rw[q]at e1 e2;cases e1;cases e2;exact lT x
theorem PU:∀(p q:List Int),fL (p.map D.int) (q.map D.int)=decide (p=q)
 |[],[]=>by rw[List.map_nil,fL];rfl
 |[],y::q=>by rw[List.map_nil,UR];simp[fL]
 |x::p,[]=>by rw[List.map_nil,UR];simp[fL]
 |x::p,y::q=>by rw[UR,UR,fL,PU p q,cK];rw[Bool.eq_iff_iff];simp
theorem Lf(p q:List Int):cK (dI p) (dI q)=decide (p=q):=by unfold dI;rw[cK];exact PU p q
theorem ym(p:List Int):(dI p).depth<=1:=by
 unfold dI;rw[D.depth];have:∀l:List Int,cT (l.map D.int)=0:=λl=>by
  induction l with
  |nil=>rfl
  |cons a l ih=>rw[UR,cT,ih];simp[D.depth]
 rw[this];exact TU _
theorem yp{t:Tr}{p:List Int}{i:Nat}{e:List Int×Hd×Bool}(h:∀e∈t.take i,e.1≠p)(he:t[i]? = some e)(ep:e.1=p):seek t p=some e.2:=by
 have e0:t=t.take i++e::t.drop (i+1):=by rw[←oW he,List.take_append_drop]
 unfold seek;rw[e0,List.find?_append,List.find?_eq_none.mpr λx hx=>(by simpa using h x hx)];simp[ep]
theorem yO{t:Tr}{p:List Int}(h:∀e∈t,e.1≠p):seek t p=none:=by unfold seek;rw[List.find?_eq_none.mpr λx hx=>(by simpa using h x hx)];rfl
abbrev kr:Stmt:=top 55
theorem jf:av ["seen","place","there","head","loose"] ["seen","place"] (ao kr):=fs
theorem EN{CP:Addr}(Cp:JD K mg CP)(F:FA K mg "look_up" kr) :
  bA (vc P w) P w K mg base 1 "look_up" ["seen","place"] (Cn CP):=by
 refine F.Ie jf λf cdv A outer s H vs Q E hr h=>?_;have hu:=iH hr;obtain⟨l,pa,as,t,p,rfl,hl,hT,hp,qx,q⟩:=h;refine⟨_,(aq (fj (wF pB) rfl (eU (pv 0)) (bS rfl (ar (aM (i:=2) jf.nd rfl (UH rfl)) (ar (aM (i:=3) jf.nd rfl (UH rfl)) (ar (aM (i:=4) jf.nd rfl (UH rfl)) bw))))
    (b_ (jv (bg wc (pv 2) (pv 1))
      (ax (aW (aa (pv 3) (aa (pv 4) ah))))
      fv)))
   (b_ (DH rfl Cp.Ng rfl Cp.mf (aa au ah)))),?_⟩
 have hd:∀q:List Int,(A.deeper (PyProof.Rows.envOfC "look_up" (ao kr) s.heap.objs.size f cdv)).units+(dI q).depth<cLine:=λq=>by have:=ym q;have:=hu;omega
 refine⟨_,rfl,l,rfl,⟨_,bj.of hl⟩,?_⟩;refine vW (xs:=as.map V.ref) (λi σ H'=>(∃o2 o3 o4,σ=[some (.ref l),some (.ref pa),o2,o3,o4])/\H'=H/\∀e∈t.take i,e.1≠p) ⟨⟨none,none,none,rfl⟩,rfl,by simp⟩ ?_ ?_ ?_
 ·rintro i σ H' _ ⟨_,rfl,_⟩;exact bj.of hl
 ·rintro i v σ H' hv ⟨⟨o2,o3,o4,rfl⟩,rfl,hall⟩;rw[Us]at hv;cases ea:as[i]? with
  |none=>rw[ea]at hv;cases hv
  |some a =>
   rw[ea]at hv;have hv':V.ref a=v:=Up hv;subst hv';have hi:i<t.length:=by rw[←hT.len];exact(Ug.mp ea).1
   have et:t[i]? = some t[i]:=T_ hi;obtain⟨c,hh,h1,h2,h3⟩:=hT.at_ i a _ ea et;refine⟨a,_,rfl,aY.of h1,rfl,_,_,rfl,aj ⟨_,_,rfl,aj ⟨_,_,rfl,aj ⟨rfl,?_⟩⟩⟩⟩;dsimp only;refine⟨_,rfl,_,rfl,dI t[i].1,dI p,gf h2,gf hp,hd _,_,rfl,?_⟩;rw[Lf];refine fw (λc=>?_) λc=>?_
   ·have c':t[i].1=p:=UB c;refine⟨_,rfl,_,rfl,cn,λu hu'=>?_⟩;exact q _ (yp hall et c') u hh _ (ag hu' _) ae (ag hu' _ _ _ h3)
   ·refine bD ⟨⟨_,_,_,rfl⟩,rfl,λe he=>?_⟩;rw[List.take_add_one,et]at he;rcases Ul.mp he with z|z
    ·exact hall e z
    ·have:e=t[i]:=by simpa using z
     rw[this];exact λz=>c (TY z)
 ·rintro σ H' ⟨⟨o2,o3,o4,rfl⟩,rfl,hall⟩;rw[TZ,hT.len,UI]at hall;refine⟨cN,λe he=>?_⟩;exact qx (yO hall) e _ (ag he _) ae
end My
namespace L2
open PySem PySem.Spec PyProof.Rows
section
variable{κ:Type} [DecidableEq κ]
def fW(kvs:List (κ×V))(k:κ):Option V:=(kvs.find? λkv=>decide (kv.1=k)).map (·.2)
def putK(kvs:List (κ×V))(k:κ)(v:V):List (κ×V) :=
 if(kvs.any λkv=>decide (kv.1=k))=true then kvs.map (λkv=>if kv.1=k then(kv.1,v)else kv)else kvs++[(k,v)]
theorem c_{p:κ×V}{r:List (κ×V)}{k:κ}(e:p.1=k):fW (p::r) k=some p.2:=by simp[fW,List.find?_cons,e]
theorem dc{p:κ×V}{r:List (κ×V)}{k:κ}(e:¬p.1=k):fW (p::r) k=fW r k:=by simp[fW,List.find?_cons,e]
theorem lV(k:κ):∀kvs:List (κ×V),(kvs.any λkv=>decide (kv.1=k))=(fW kvs k).isSome
 |[]=>rfl
 |p::r=>by
  rw[UT];by_cases e:p.1=k
  ·simp only[c_ e,TY e,Bool.true_or,Option.isSome_some]
  ·rw[dc e,TX e,Bool.false_or];exact lV k r
theorem uE(k j:κ)(y:V):∀kvs:List (κ×V),fW (kvs.map λkv=>if kv.1=k then(kv.1,y)else kv) j=(fW kvs j).map λx=>if j=k then y else x
 |[]=>rfl
 |p::r=>by
  have ih:=uE k j y r;rw[UR];by_cases h:p.1=k
  ·rw[UE h];by_cases e:p.1=j
   ·rw[c_ (p:=(p.1,y)) e,c_ e,Option.map_some,UE (e.symm.trans h)]
   ·rw[dc (p:=(p.1,y)) e,dc e,ih]
  ·rw[UD h];by_cases e:p.1=j
   ·rw[c_ (p:=p) e,c_ e,Option.map_some,UD (λz=>h (e.trans z))]
   ·rw[dc (p:=p) e,dc e,ih]
theorem rM(k j:κ)(y:V):∀kvs:List (κ×V),fW kvs k=none->fW (kvs++[(k,y)]) j=if j=k then some y else fW kvs j
 |[],_=>by
  by_cases e:k=j
  ·rw[UE e.symm];exact c_ (p:=(k,y)) e
  ·rw[UD (λz=>e z.symm)];exact dc (p:=(k,y)) e
 |p::r,hn=>by
  rw[List.cons_append];have hk:¬p.1=k:=λz=>by rw[c_ z]at hn;cases hn
  rw[dc hk]at hn;have ih:=rM k j y r hn;by_cases e:p.1=j
  ·rw[c_ e,c_ e,UD (λz=>hk (e.trans z))]
  ·rw[dc e,dc e,ih]
theorem l5(kvs:List (κ×V))(k j:κ)(y:V):fW (putK kvs k y) j=if j=k then some y else fW kvs j:=by
 unfold putK;by_cases a:(kvs.any λkv=>decide (kv.1=k))=true
 ·rw[UE a,uE];rw[lV]at a;by_cases e:j=k
  ·obtain⟨x,hx⟩:=Option.isSome_iff_exists.mp a;rw[UE e,e,hx,Option.map_some,UE rfl]
  ·rw[UD e];cases fW kvs j with
   |none=>rfl
   |some x=>rw[Option.map_some,UD e]
 ·rw[UD a];refine rM k j y kvs ?_;rw[lV]at a;cases q:fW kvs k with
  |none=>rfl
  |some x=>rw[q]at a;exact(a rfl).elim
theorem jS(kvs:List (κ×V))(k:κ)(v:V):(putK kvs k v).length<=kvs.length+1:=by
 unfold putK;split
 ·rw[TZ];omega
 ·rw[T1,Uz,List.length_nil];omega
theorem iD.zX{o:Option V}{u:Option Value}(r:iD o u):o.isSome=u.isSome:=by
 cases o with
 |none=>cases u with
  |none=>rfl
  |some _=>exact(show False from r).elim
 |some _=>cases u with
  |none=>exact(show False from r).elim
  |some _=>rfl
theorem KV.val{kvs:List (κ×V)}{vs:List (κ×Value)}(r:KV kvs vs)(k:κ):iD (fW kvs k) (valueAt vs k):=by
 unfold KV at r;induction r with
 |nil=>exact True.intro
 | @cons p q ps qs h t ih =>
  obtain⟨h1,h2⟩:=h;by_cases e:p.1=k
  ·have e':q.1=k:=h1.symm.trans e;have b:valueAt (q::qs) k=some q.2:=by simp[valueAt,List.find?_cons,e']
   rw[c_ e,b];exact h2
  ·have e':¬q.1=k:=λz=>e (h1.trans z);have b:valueAt (q::qs) k=valueAt qs k:=by simp[valueAt,List.find?_cons,e']
   rw[dc e,b];exact ih
theorem KV.any{kvs:List (κ×V)}{vs:List (κ×Value)}(r:KV kvs vs)(k:κ):(kvs.any λkv=>decide (kv.1=k))=vs.any λkv=>decide (kv.1=k):=by
 unfold KV at r;induction r with
 |nil=>rfl
 |cons h t ih=>rw[UT,UT,ih,h.1]
theorem KV.repl{kvs:List (κ×V)}{vs:List (κ×Value)}(r:KV kvs vs)(k:κ){y:V}{u:Value}(ry:RelV y u) :
  KV (kvs.map λkv=>if kv.1=k then(kv.1,y)else kv) (vs.map λkv=>if kv.1=k then(kv.1,u)else kv):=by
 unfold KV at r⊢;induction r with
 |nil=>exact .nil
 | @cons p q ps qs h t ih =>
  rw[UR,UR];refine .cons ?_ ih;obtain⟨h1,h2⟩:=h;by_cases e:p.1=k
  ·rw[UE e,UE (h1.symm.trans e)];exact⟨h1,ry⟩
  ·rw[UD e,UD (λz=>e (h1.trans z))];exact⟨h1,h2⟩
theorem KV.put{kvs:List (κ×V)}{vs:List (κ×Value)}(r:KV kvs vs)(k:κ){y:V}{u:Value}(ry:RelV y u):KV (putK kvs k y) (stored vs k u):=by
 unfold putK stored;rw[r.any k];by_cases e:(vs.any λkv=>decide (kv.1=k))=true
 ·rw[UE e,UE e];exact r.repl k ry
 ·rw[UD e,UD e];exact Paired.snoc r ⟨rfl,ry⟩
theorem KV.length{kvs:List (κ×V)}{vs:List (κ×Value)}(r:KV kvs vs):kvs.length=vs.length:=Paired.length r
end
theorem C7{P:Program}{w:World}{k:Key}{u:Value}(r:RelV (kV k) u):(bC P w).is k u=true:=by
 cases k with
 |inl i=>obtain⟨t,e⟩:=(show∃t,u=Value.int i t from r);subst e;exact ur P w i t
 |inr x=>obtain⟨t,e⟩:=(show∃t,u=Value.str x t from r);subst e;exact vt P w x t
theorem Mr{P:Program}{w:World}{k:cO}{u:Value}(r:RelV (oV k) u):(optKind P w).is k u=true:=by
 cases k with
 |none=>obtain rfl:u=Value.none:=r;rfl
 |some k=>exact C7 (P:=P) (w:=w) r
theorem rn{P:Program}{w:World}:∀{ks:List cO}{us:List Value},Vals (ks.map oV) us->ItemsAre (optKind P w) ks us
 |[],_,r=>by rw[List.map_nil]at r;cases r;exact .nil
 |k::ks,_,r=>by
  rw[UR]at r;cases r with
  |cons h t=>exact .cons (Mr h) (rn t)
abbrev KT(H:Hp):List (List cO×V)->List (List cO×Addr×Value)->Prop:=Paired λp q=>p.1=q.1/\H q.2.1=some (.tup (p.1.map oV))/\RelV p.2 q.2.2
theorem KT.val{H:Hp}{kvs:List (List cO×V)}{xs:List (List cO×Addr×Value)}(r:KT H kvs xs)(k:List cO):iD (fW kvs k) ((atKey xs k).map (·.2)):=by
 induction r with
 |nil=>exact True.intro
 | @cons p q ps qs h t ih =>
  obtain⟨h1,_,h2⟩:=h;by_cases e:p.1=k
  ·have e':q.1=k:=h1.symm.trans e;have b:atKey (q::qs) k=some q.2:=by simp[atKey,List.find?_cons,e']
   rw[c_ e,b];exact h2
  ·have e':¬q.1=k:=λz=>e (h1.trans z);have b:atKey (q::qs) k=atKey qs k:=by simp[atKey,List.find?_cons,e']
   rw[dc e,b];exact ih
theorem KT.repl{H:Hp}{kvs:List (List cO×V)}{xs:List (List cO×Addr×Value)}(r:KT H kvs xs)(k:List cO){y:V}{u:Value}(ry:RelV y u) :
  KT H (kvs.map λkv=>if kv.1=k then(kv.1,y)else kv) (xs.map (putAt k u)):=by
 induction r with
 |nil=>exact .nil
 | @cons p q ps qs h t ih =>
  rw[UR,UR];refine .cons ?_ ih;obtain⟨h1,h2,h3⟩:=h;unfold putAt;by_cases e:p.1=k
  ·rw[UE e,UE (h1.symm.trans e)];exact⟨h1,h2,ry⟩
  ·rw[UD e,UD (λz=>e (h1.trans z))];exact⟨h1,h2,h3⟩
theorem KT.put{H:Hp}{kvs:List (List cO×V)}{xs:List (List cO×Addr×Value)}(r:KT H kvs xs)(k:List cO){b:Addr}{y:V}{u:Value}(hb:H b=some (.tup (k.map oV)))(ry:RelV y u) :
  KT H (putK kvs k y) (storedH xs k b u):=by
 have e:(kvs.any λkv=>decide (kv.1=k))=(atKey xs k).isSome:=by rw[lV,(r.val k).zX,Option.isSome_map]
 unfold putK storedH;rw[e];by_cases q:(atKey xs k).isSome=true
 ·rw[UE q,UE q];exact r.repl k ry
 ·rw[UD q,UD q];exact Paired.snoc r ⟨rfl,hb,ry⟩
theorem KT.keeps{H H':Hp}{kvs:List (List cO×V)}{xs:List (List cO×Addr×Value)}(r:KT H kvs xs)(ht:∀b ys,H b=some (.tup ys)->H' b=some (.tup ys)):KT H' kvs xs :=
 Paired.LO r λ_ _ z=>⟨z.1,ht _ _ z.2.1,z.2.2⟩
section
variable{P:Program}{w:World}{H:Hp}{h:Heap}{a:Addr}
theorem Hv{u:HO}(ok:jq P w H h)(e:Rd H a u):cc P w H h a u:=e.ok ok
theorem Bp{kvs:List (Key×V)}(ok:jq P w H h)(e:Rd H a (.dK kvs)):kvs.length<=sizeLine/\(a==sysModules)=false/\∃vs,KV kvs vs/\h.DictOf (bC P w) a vs :=
 show cc P w H h a (.dK kvs) from Hv ok e
theorem bT{kvs:List (Key×V)}(ok:jq P w H h)(e:H a=some (.dK kvs)):kvs.length<=sizeLine/\(a==sysModules)=false/\∃vs,KV kvs vs/\h.DictOf (bC P w) a vs:=Bp ok (.inl e)
theorem sV{ks:List cO}(ok:jq P w H h)(e:H a=some (.tup (ks.map oV))):(tupleKind (optKind P w)).is h ks a:=by obtain⟨_,its,r,o,h1,h2,⟨n,h3⟩,_⟩:=(show cc P w H h a (.tup (ks.map oV)) from ok a _ e);exact⟨o,its.toArray,n,h1,h2,h3,by simpa using rn r⟩
theorem DB{kvs:List (List cO×V)}(ok:jq P w H h)(e:Rd H a (.dT kvs)):kvs.length<=sizeLine/\(a==sysModules)=false/\
  ∃xs,KT H kvs xs/\h.DictOfH (tupleKind (optKind P w)) a xs:=by
 obtain⟨z,y,xs,r,o,es,ep,h1,h2,h3,h4,h5⟩:=(show cc P w H h a (.dT kvs) from Hv ok e);refine⟨z,y,xs,r,o,es,ep,h1,h2,h3,h4,λx hx=>?_,h5⟩;have all:∀{l:List (List cO×V)}{m:List (List cO×Addr×Value)},KT H l m->∀x∈m,(tupleKind (optKind P w)).is h x.1 x.2.1:=by
  intro l m q;induction q with
  |nil=>intro x hx;exact nomatch hx
  | @cons p q ps qs hq t ih =>
   intro x hx;rcases Uj.mp hx with e|hx
   ·subst e;exact sV ok (by rw[←hq.1];exact hq.2.1)
   ·exact ih x hx
 exact all r x hx
theorem GR{kvs:List (List cO×V)}(ok:jq P w H h)(e:H a=some (.dT kvs)):kvs.length<=sizeLine/\(a==sysModules)=false/\
  ∃xs,KT H kvs xs/\h.DictOfH (tupleKind (optKind P w)) a xs:=DB ok (.inl e)
end
def yf(H:Hp)(a:Addr)(y:V)(r:Option V):Prop :=
 (∃kvs k,Rd H a (.dK kvs)/\y=kV k/\r=fW kvs k)\/∃kvs k b,Rd H a (.dT kvs)/\y=.ref b/\H b=some (.tup (k.map oV))/\r=fW kvs k
def Ad(H:Hp)(a:Addr)(y v:V)(H':Hp):Prop :=
 (∃kvs k,H a=some (.dK kvs)/\y=kV k/\kvs.length<sizeLine/\H'=upd H a (.dK (putK kvs k v)))\/
 ∃kvs k b,H a=some (.dT kvs)/\y=.ref b/\H b=some (.tup (k.map oV))/\kvs.length<sizeLine/\H'=upd H a (.dT (putK kvs k v))
theorem yf.t{H:Hp}{a b:Addr}{kvs:List (List cO×V)}{k:List cO}(e:H a=some (.dT kvs))(eb:H b=some (.tup (k.map oV))):yf H a (.ref b) (fW kvs k):=.inr ⟨kvs,k,b,.inl e,rfl,eb,rfl⟩
theorem Ad.t{H:Hp}{a b:Addr}{kvs:List (List cO×V)}{k:List cO}{v:V}(e:H a=some (.dT kvs))(eb:H b=some (.tup (k.map oV)))(hl:kvs.length<sizeLine) :
  Ad H a (.ref b) v (upd H a (.dT (putK kvs k v))):=.inr ⟨kvs,k,b,e,rfl,eb,hl,rfl⟩
section
variable{X:Cx}{ac:List (Addr×Obj)}{σ:St}{H:Hp}{s:Shared}{a:Addr}{y v:V}{u r:Value}{o:Option V}{A:Around}{E:Value->Shared->Prop}
theorem Inv.big(I:Inv X ac σ H s):sysModules<s.heap.objs.size:=by have h:mainGlobals<s.heap.objs.size:=(I.mod.glob.keeps I.bk).lt;exact Nat.lt_trans (by decide) h
theorem Az{Q:Value->Shared->Prop}(hu:A.units+1<cLine)(I:Inv X ac σ H s)(g:yf H a y (some v))(ry:RelV y u)(h:∀w' s',Inv X ac σ H s'->RelV v w'->Q w' s') :
  wpAny (model X.prog X.w) A (getItem (.ref a) u) Q E s:=by
 rcases g with⟨kvs,k,e,ey,l⟩|⟨kvs,k,b,e,ey,eb,l⟩
 ·subst ey;obtain⟨z,hd,vs,rel,dd⟩:=Bp I.hok e;obtain⟨w',hw,ow⟩:=iD.some_of (v:=v) (o:=valueAt vs k) (by rw[l];exact rel.val k);exact wpAny_getItem_of (C7 ry) dd.mapOf hw (h w' _ (I.tok _) ow)
 ·subst ey;cases(show u=Value.ref b from ry);obtain⟨z,hd,xs,rel,dd⟩:=DB I.hok e;obtain⟨w',hw,ow⟩:=iD.some_of (v:=v) (o:=(atKey xs k).map (·.2)) (by rw[l];exact rel.val k);obtain⟨p,hp,hp2⟩:=Option.map_eq_some_iff.mp hw;refine wpAny_getItem_heap (tupleKind_room_in1 hu) (sV I.hok eb) dd hp ?_;rw[hp2];exact h w' _ (I.tok _) ow
theorem tP{h':Heap}{t':Nat}{ob:HO}(I:Inv X ac σ H s)(mu:K9 (H a))(hs:Heap.SameBut a s.heap h')(he:∃q,h'.get? a=some q)(new:cc X.prog X.w (upd H a ob) h' a ob) :
  Inv X ac σ (upd H a ob) {s with heap:=h',toks:=t'} :=
 I.write (x:=a) (e:=a) mu (.inl rfl) (λb q hb z=>(hs.2 b hb).trans z) he new
theorem Iy{P:Program}{w:World}{H':Hp}{h':Heap}{kvs:List (Key×V)}{vs:List (Key×Value)}(z:kvs.length<=sizeLine)(hd:(a==sysModules)=false)(rel:KV kvs vs)(dd:h'.DictOf (bC P w) a vs) :
  cc P w H' h' a (.dK kvs):=⟨z,hd,vs,rel,dd⟩
theorem Av{H':Hp}{Q:Unit->Shared->Prop}(hu:A.units+1<cLine)(I:Inv X ac σ H s)(g:Ad H a y v H')(ry:RelV y u)(rv:RelV v r)(h:∀s',Inv X ac σ H' s'->Q () s') :
  wpAny (model X.prog X.w) A (setItem (.ref a) u r) Q E s:=by
 rcases g with⟨kvs,k,e,ey,l,eH⟩|⟨kvs,k,b,e,ey,eb,l,eH⟩
 ·subst ey eH;obtain⟨z,hd,vs,rel,dd⟩:=bT I.hok e;have hz:vs.length<=sizeLine:=by rw[←rel.length];exact z
  have hl:(putK kvs k v).length<=sizeLine:=by have:=jS kvs k v;omega
  refine wpAny_setItem_pairs (hsz:=hz) (C7 ry) dd λh' Kv hs=>h _ ?_;have he:∃q,h'.get? a=some q:=let ⟨q,_,_,hq,_⟩:=Kv;⟨q,hq⟩
  exact tP I (by rw[e];exact True.intro) hs he (Iy hl hd (rel.put k rv) Kv)
 ·subst ey eH;cases(show u=Value.ref b from ry);obtain⟨z,hd,xs,rel,dd⟩:=GR I.hok e;have hz:xs.length<=sizeLine:=by rw[←Paired.length rel];exact z
  have hl:(putK kvs k v).length<=sizeLine:=by have:=jS kvs k v;omega
  refine wpAny_setItem_heap (hsz:=hz) (tupleKind_room_in1 hu) (sV I.hok eb) dd λh' Kv hs=>h _ ?_;obtain⟨q,es,ep,hq,h2,h3,h4,_,h5⟩:=Kv;refine tP I (by rw[e];exact True.intro) hs ⟨q,hq⟩ ⟨hl,hd,_,(rel.put k eb rv).keeps λc ys ec=>?_,q,es,ep,hq,h2,h3,h4,h5⟩;rw[aI (vQ ec e (λz=>nomatch z))];exact ec
end
def Lp(i:Expr):Prop:=∀ov iv,subscripted i false ov iv=operate [ov,iv] (getItem ov iv)
theorem Es{prog:Program}{w:World}{A:Around}{E:Value->Shared->Prop}{s:Shared}{env:Env}{value slice:Expr}{pos:Pos}{T id:String}{Q:Value->Shared->Prop}
  (hl:typeLookup (.type T) "__getitem__"=pure (some (.builtin id))) (hs:Lp slice)
  (h:wpAny (model prog w) A (eval value env) (λo s₁=>wpAny (model prog w) A (eval slice env) (λi s₂=>s₂.TypeIs o T/\wpAny (model prog w) A (getItem o i) Q E s₂) E s₁) E s) :
  wpAny (model prog w) A (eval (.Subscript value slice pos) env) Q E s:=by
 refine Subscript_ (Uv h (λo s₁ h₁=>Uv h₁ (λi s₂ h₂=>?_) λ_ _ x=>x) λ_ _ x=>x);obtain⟨hT,h₂⟩:=h₂;unfold subscriptTail;refine TK ?_;rw[getitemInPython_of_ne hT.not_modules];refine TK (wpAny_specialOf hT hl ?_);have fin:wpAny (model prog w) A (subscripted slice false o i) (λr s₃=>wpAny (model prog w) A (letTemporaryGo value o r >>= λ_=>pure r) Q E s₃) E s₂:=by rw[hs o i];exact wpAny_operating (Uv h₂ (λr s₃ h₃=>TK (wpAny_letTemporaryGo (TM h₃))) λ_ _ x=>x)
 first
  |exact TM (TK fin)
  |exact TK (TM (TK fin))
  |exact TK fin
theorem vL{X:Cx}{ac:List (Addr×Obj)}{σ:St}{H:Hp}{s:Shared}{a:Addr}{y:V}{o:Option V}(I:Inv X ac σ H s)(g:yf H a y o):s.TypeIs (.ref a) "dict":=by
 rcases g with⟨kvs,k,e,_,_⟩|⟨kvs,k,b,e,_,_,_⟩
 ·obtain⟨_,_,vs,_,dd⟩:=Bp I.hok e;exact dd.typeIs
 ·obtain⟨_,_,xs,_,dd⟩:=DB I.hok e;exact dd.typeIs
def Mf(td ty:TE):TE:=λσ H Q=>td σ H λx H1=>ty σ H1 λy H2=>∃a v,x=.ref a/\yf H2 a y (some v)/\Q v H2
def MS(td ty tv:TE):TS:=λD σ H=>tv σ H λv H1=>td σ H1 λx H2=>ty σ H2 λy H3=>∃a H4,x=.ref a/\Ad H3 a y v H4/\D.nx σ H4
section
variable{X:Cx}{o i e value:Expr}{pos pos' tpos:Pos}{td ty tv:TE}
theorem yl(hu:X.A.units+1<cLine)(ho:PE X o td)(hi:PE X i ty)(hs:Lp i):PE X (.Subscript o i pos) (Mf td ty):=by intro ac s σ H Q I h;refine Es PySem.F.slot_dict_getitem.lookup hs (bJ (ho ac s σ H _ I h) λu s1 ⟨x,H1,I1,rx,q1⟩=>bJ (hi ac s1 σ H1 _ I1 q1) λiv s2 zz=>?_);obtain⟨y,H2,I2,ry,a,v,ex,g,q2⟩:=zz;subst ex;obtain rfl:u=Value.ref a:=rx;exact⟨vL I2 g,Az hu I2 g ry λw' s3 I3 ow=>⟨v,H2,I3,ow,q2⟩⟩
theorem yr(hu:X.A.units+1<cLine)(ho:PE X o td)(hi:PE X i ty)(hv:PE X value tv)(hs:swapsWith value (some (.Subscript o i pos')) pos.line X.env=pure false) :
  PS X (.Assign [.Subscript o i pos'] value pos) (MS td ty tv):=by
 intro ac s σ H D I h;refine wpAny_Assign_Subscript (bJ (hv ac s σ H _ I h) λr s1 ⟨v,H1,I1,rv,q1⟩=>bJ (ho ac s1 σ H1 _ I1 q1) λu s2 ⟨x,H2,I2,rx,q2⟩=>bJ (hi ac s2 σ H2 _ I2 q2) λiv s3 zz=>?_) hs;obtain⟨y,H3,I3,ry,a,H4,ex,g,q3⟩:=zz;subst ex;obtain rfl:u=Value.ref a:=rx;exact Av hu I3 g ry rv λs4 I4=>⟨σ,H4,I4,q3⟩
end
theorem uA{P:Program}{w:World}{H:Hp}(h:Heap)(hb:sysModules<h.objs.size):cc P w H (h.push {cls:=.type "dict",data:=.dict #[]}) h.objs.size (.dT []) :=
 ⟨Uo _,beq_eq_false_iff_ne.mpr (Ne.symm (Um hb)),[],.nil,_,#[],0,TR _ rfl,⟨rfl,rfl,rfl⟩,rfl,rfl,List.nodup_nil⟩
def Iw:TE:=λ_ H Q=>∀p,H p=none->Q (.ref p) (upd H p (.dT []))
section
variable{X:Cx}{pos:Pos}
theorem D_:PE X (.Dict [] [] pos) Iw:=λac s σ H Q I h =>
 wpAny_Dict_empty ⟨.ref s.heap.objs.size,_,I.laid (a:=s.heap.objs.size) (o:=.dT []) (t':=s.toks) (λ_ _ q=>TN _ q) (TU _) (uA s.heap I.big),rfl,h _ (I.hok.fresh (TU _))⟩
end
abbrev TD:=List (List cO×V)
theorem compTurn_dict(ek ev target iter:Expr)(ifs:List Expr)(scope:Scope)(pos:Pos)(it:Value)(d:Addr)(env:Env) :
  compTurn (.DictComp ek ev [⟨target,iter,ifs,0⟩] scope pos) 0 it (.ref d) env=(do
   standAt iter.pos
   match←pyNext it with
   |none=>pure (.done .next)
   |some v =>
    letOwnedTupleGo target it v
    assign target env v
    let mut ok:=true
    for c in ifs do
     if ok then ok←isTrue c env (eval c env)
    if ok then
     (do
      let kv←eval ek env
      let vv←holding [kv] (eval ev env)
      standAt {ek.pos with endLine:=ev.pos.endLine,endCol:=ev.pos.endCol}
      holding [kv,vv] (dictSet d kv vv))
    again (.compLoop (.DictComp ek ev [⟨target,iter,ifs,0⟩] scope pos) 0 it (.ref d) env)):=by rfl
section
variable{prog:Program}{w:World}{A:Around}{E:Value->Shared->Prop}{R:Result->Shared->Prop}{s:Shared}
theorem codeAny_compStart_dict{ek ev target iter ifs rest scope pos it acc env}
  (h0:codeAny (model prog w) A (.compLoop (.DictComp ek ev (⟨target,iter,ifs,0⟩::rest) scope pos) 0 it acc env) R s)
  (h:wpAny (model prog w) A (pyIter it) (λit' s'=>codeAny (model prog w) A (.compLoop (.DictComp ek ev (⟨target,iter,ifs,0⟩::rest) scope pos) 0 it' acc env) R s')
   (notedBy (model prog w) A env λx s'=>R (.error x) s') s) :
  codeAny (model prog w) A (.compStart (.DictComp ek ev (⟨target,iter,ifs,0⟩::rest) scope pos) 0 it acc env) R s:=by
 refine codeAny_of_tree ?_;show wpAny _ _ ((compStart (.DictComp ek ev (⟨target,iter,ifs,0⟩::rest) scope pos) 0 it acc env).onRaise (λx=>do noteFrame x env;standAt theWindowsPlace)) _ _ s;refine wpAny_notedAt ?_;unfold compStart;show wpAny _ _ (ask >>= _) _ _ s;refine TK (wpAny_askSetting (wpAny_ite ?_));split
 ·first
   |exact TK (TM (TM (And.intro rfl h0)))
   |exact TM (And.intro rfl h0)
 ·first
   |exact TK (wpAny_rule (TK (wpAny_standAt (TK (Uv h (λit' s' h'=>TM (And.intro rfl h')) λ_ _ x=>x)))))
   | (refine TK (wpAny_rule ?_);show wpAny _ _ (standAt iter.pos >>= _) _ _ s;exact TK (wpAny_standAt (TK (Uv h (λit' s' h'=>TM (And.intro rfl h')) λ_ _ x=>x))))
end
section
variable{X:Cx}{ac:List (Addr×Obj)}{σ:St}{H:Hp}{s:Shared}{a b:Addr}{v:V}{r:Value}{E:Value->Shared->Prop}{A:Around}{kvs:TD}{k:List cO}
theorem Ac{Q:Unit->Shared->Prop}(hu:A.units<cLine)(I:Inv X ac σ H s)(e:H a=some (.dT kvs))(eb:H b=some (.tup (k.map oV)))(l:kvs.length<sizeLine)(rv:RelV v r)(h:∀s',Inv X ac σ (upd H a (.dT (putK kvs k v))) s'->Q () s') :
  wpAny (model X.prog X.w) A (dictSet a (.ref b) r) Q E s:=by
 obtain⟨z,hd,xs,rel,dd⟩:=GR I.hok e;have hz:xs.length<=sizeLine:=by rw[←Paired.length rel];exact z
 have hl:(putK kvs k v).length<=sizeLine:=by have:=jS kvs k v;omega
 refine wpAny_dictSet_heap (hsz:=hz) hu (sV I.hok eb) dd λh' Kv hs=>h _ ?_;obtain⟨q,es,ep,hq,h2,h3,h4,_,h5⟩:=Kv;refine tP I (by rw[e];exact True.intro) hs ⟨q,hq⟩ ⟨hl,hd,_,(rel.put k eb rv).keeps λc ys ec=>?_,q,es,ep,hq,h2,h3,h4,h5⟩;rw[aI (vQ ec e (λz=>nomatch z))];exact ec
end
def xV(J:It)(g:TG)(tc:TT)(tk tv:TE)(D:Addr)(Q:VK)(W:Nat->Nat->St->TD->Hp->Prop):Prop :=
 ∀i m σ ys H,W i m σ ys H->H D=some (.dT ys)/\((J.stop i H/\Q (.ref D) H)\/(J.go i H/\ys.length<sizeLine/\∃N:St->TD->Hp->Prop,(∀σ' ys' H',N σ' ys' H'->∃m',m'<m/\W (i+1) m' σ' ys' H')/\
  ∀x H',J.Ci i H x H'->g x σ H' λcD H2=>tc cD H2 λb H3 =>
   if b=true then tk cD H3 λy H4=>tv cD H4 λv H5=>∃b k,y=.ref b/\H5 b=some (.tup (k.map oV))/\H5 D=some (.dT ys)/\N cD (putK ys k v) (upd H5 D (.dT (putK ys k v)))else N cD ys H3))
def HI(src:List (Option Nat))(wi:TI)(g:TG)(tc:TT)(tk tv:TE):TE:=λσ H Q=>wi σ H λJ H1=>∀D,H1 D=none->
 ∃W:Nat->Nat->St->TD->Hp->Prop,(∃m,W 0 m (iW src σ) [] (upd H1 D (.dT [])))/\xV J g tc tk tv D Q W
section
variable{X:Cx}{ek ev target iter:Expr}{ifs:List Expr}{sc:Scope}{pos:Pos}{wi:TI}{g:TG}{tc:TT}{tk tv:TE}{N':List Str}{src:List (Option Nat)}
theorem xS{it:Value}{d:Addr}{env:Env}{prog:Program}{w:World}{A:Around}{s:Shared}{R:Result->Shared->Prop}(Iv:Nat->Shared->Prop)
  (turn:∀n s,Iv n s->wpAny (model prog w) A (pyNext it) (λr s₁=>match r with
   |none=>R (.ok .next) s₁
   |some v=>wpAny (model prog w) A (letOwnedTupleGo target it v) (λ_ s₁'=>wpAny (model prog w) A (assign target env v) (λ_ s₂ =>
     wpAny (model prog w) A (forIn ifs true λc r=>if r=true then do let ok←isTrue c env (eval c env);pure (ForInStep.yield ok)else pure (ForInStep.yield r)) (λok s₃ =>
      if ok=true then wpAny (model prog w) A (eval ek env) (λx s₄ =>
       wpAny (model prog w) A (eval ev env) (λy s₄'=>wpAny (model prog w) A (dictSet d x y) (λ_ s₅=>∃m,m<n/\Iv m s₅) (λ_ _=>False) s₄') (λ_ _=>False) s₄) (λ_ _=>False) s₃
      else∃m,m<n/\Iv m s₃) (λ_ _=>False) s₂) (λ_ _=>False) s₁') (λ_ _=>False) s₁) (λ_ _=>False) s)
  (n:Nat) (h:Iv n s) :
  codeAny (model prog w) A (.compLoop (.DictComp ek ev [⟨target,iter,ifs,0⟩] sc pos) 0 it (.ref d) env) R s:=by
 refine codeAny_loop rfl Iv (λn s hI=>?_) n h;show wpAny _ A ((compTurn (.DictComp ek ev [⟨target,iter,ifs,0⟩] sc pos) 0 it (.ref d) env).onRaise (λx=>do noteFrame x env;theTreesLotGoes x)) _ _ s;refine wpAny_noted ?_;rw[compTurn_dict];refine TK (wpAny_standAt (TK (Uv (turn n s hI) (λr s₁ h₁=>?_) λ_ _ h'=>h'.elim)));cases r with
 |none=>exact TM h₁
 |some v =>
  refine TK (Uv h₁ (λ_ s₁' h₁'=>TK (Uv h₁' (λ_ s₂ h₂=>TK (Uv h₂ (λok s₃ h₃=>?_) λ_ _ h'=>h'.elim)) λ_ _ h'=>h'.elim)) λ_ _ h'=>h'.elim);cases ok with
  |false=>exact TM ⟨rfl,h₃⟩
  |true =>refine TK (TK (Uv h₃ (λx s₄ h₄=>TK (Uw (Uv h₄ (λy s₄' h₄'=>TK (wpAny_standAt (Uw (Uv h₄' (λ_ s₅ h₅=>TM ⟨rfl,h₅⟩) λ_ _ h'=>h'.elim)))) λ_ _ h'=>h'.elim))) λ_ _ h'=>h'.elim))
theorem uq{ac:List (Addr×Obj)}{σ:St}{H2:Hp}{s2:Shared}{it:Addr}{fp:List Addr}{tn:Nat->Heap->Prop}{J:It}{Q:VK}{E:Value->Shared->Prop}{RR:Value->Addr->Result->Shared->Prop}
  (hc:X.calm=true) (S:bh X.env.scope X.N N' src sc)
  (hg:∀cl C s H fp,PG (aD X N' sc cl C s H fp) target g) (ht:∀cl C s H fp,iF (aD X N' sc cl C s H fp) ifs tc) (hk:∀cl C s H fp,PE (aD X N' sc cl C s H fp) ek tk) (hv:∀cl C s H fp,PE (aD X N' sc cl C s H fp) ev tv) (hu:X.A.units<cLine)
  (I2:Inv X ac σ H2 s2) (T:Turn X.prog X.w X.K target J fp it tn) (st2:tn 0 s2.heap) (f2:∀b∈fp,cS X ac H2 b)
  (hW:∀D,H2 D=none->∃W:Nat->Nat->St->TD->Hp->Prop,(∃m,W 0 m (iW src σ) [] (upd H2 D (.dT [])))/\xV J g tc tk tv D Q W)
  (hRR:∀D C s5 H' m,Inv X ac σ H' s5->s5.heap.Ns C m->cS X ac H' C->Q (.ref D) H'->RR (.ref D) C (.ok .next) s5) :
  wpAny (model X.prog X.w) X.A newDict (λacc s₃=>wpAny (model X.prog X.w) X.A (newFunctionEnv sc X.env.globals (bq X.env.cells sc.names []) [] X.env.qual none .none (some X.env)) (λcenv s₄ =>
   codeAny (model X.prog X.w) X.A (.compStart (.DictComp ek ev [⟨target,iter,ifs,0⟩] sc pos) 0 (.ref it) acc {cenv with scope:=relabel sc X.env}) (RR acc cenv.locals) s₄) E s₃) E s2:=by
 have o2:∀b∈fp,b<s2.heap.objs.size:=λb hb=>by obtain⟨o,e,_⟩:=T.obj 0 _ st2 b hb;exact TQ e
 refine Ux ?_;have EY:H2 s2.heap.objs.size=none:=I2.hok.fresh (TU _);obtain⟨W,⟨m0,w0⟩,turn⟩:=hW s2.heap.objs.size EY;have I3:Inv X ac σ (upd H2 s2.heap.objs.size (.dT [])) {s2 with heap:=s2.heap.push {cls:=.type "dict",data:=.dict #[]}} :=
  I2.laid (t':=s2.toks) (λb u e=>TN _ e) (TU _) (uA s2.heap I2.big)
 have st3:tn 0 (s2.heap.push {cls:=.type "dict",data:=.dict #[]}):=T.keep 0 _ _ st2 λb hb o e=>TN _ e;generalize hs3:({s2 with heap:=s2.heap.push {cls:=.type "dict",data:=.dict #[]}}:Shared)=s3 at I3;have hh3:s3.heap=s2.heap.push {cls:=.type "dict",data:=.dict #[]}:=by rw[←hs3]
 have Be:s2.heap.objs.size<s3.heap.objs.size:=by rw[hh3,Heap.size_push];exact Nat.lt_succ_self _
 have o3:∀b∈fp,b<s3.heap.objs.size:=λb hb=>Nat.lt_trans (o2 b hb) Be;have f3:∀b∈fp,cS X ac (upd H2 s2.heap.objs.size (.dT [])) b:=λb hb=>⟨by rw[aI (Um (o2 b hb))];exact(f2 b hb).1,(f2 b hb).2⟩;rw[←hh3]at st3;refine wpAny_newFunctionEnv S.nH (by intro y hy;simp at hy) (λh1 hns hsb=>?_) S.kind;have hsb':Heap.SameBut s3.heap.objs.size (s3.heap.push {cls:=.type "dict",data:=.dict #[]}) h1:=hsb;have I4:Inv (aD X N' sc (bq X.env.cells sc.names []) s3.heap.objs.size s3 (upd H2 s2.heap.objs.size (.dT [])) fp) [] (iW src σ) (upd H2 s2.heap.objs.size (.dT [])) {s3 with heap:=h1,toks:=s3.toks+([]:List (Str×Value)).length} :=
  gy S I3 f3 o3 hns hsb'
 have yX:tn 0 h1:=T.keep 0 _ _ st3 λb hb o e=>(hsb'.2 b (Um (o3 b hb))).trans (TN _ e);have fC:∀(H':Hp),H' s3.heap.objs.size=none->cS X ac H' s3.heap.objs.size:=λH' hn=>I3.nC (TU _) hn;have loop:codeAny (model X.prog X.w) X.A (.compLoop (.DictComp ek ev [⟨target,iter,ifs,0⟩] sc pos) 0 (.ref it) (.ref s2.heap.objs.size) (compEnvC sc (bq X.env.cells sc.names []) s3.heap.objs.size X.env))
   (RR (.ref s2.heap.objs.size) s3.heap.objs.size) {s3 with heap:=h1,toks:=s3.toks+([]:List (Str×Value)).length}:=by
  have stat:∀{H':Hp},(∀b∈fp,H' b=none)->∀b∈fp,cS (aD X N' sc (bq X.env.cells sc.names []) s3.heap.objs.size s3 (upd H2 s2.heap.objs.size (.dT [])) fp) [] H' b:=λhn b hb =>
   ⟨hn b hb,(I4.ok.xh b hb).1,I4.ok.oC b hb,.inl hb,(I4.ok.xh b hb).2,λp hp=>UC (show p∈([]:List (Addr×Obj)) from hp) (by simp)⟩
  refine xS (λn s'=>∃i σ' ys H',Inv (aD X N' sc (bq X.env.cells sc.names []) s3.heap.objs.size s3 (upd H2 s2.heap.objs.size (.dT [])) fp) [] σ' H' s'/\tn i s'.heap/\(∀b∈fp,H' b=none)/\W i n σ' ys H') ?_ m0
   ⟨0,_,[],_,I4,yX,λb hb=>(f3 b hb).1,w0⟩
  rintro n s5 ⟨i,mj,ys,H5,I5,qN,sF,w5⟩;obtain⟨hD,alt⟩:=turn i n mj ys H5 w5;rcases alt with⟨stop,qn⟩|⟨go,hsz,N,hN,step⟩
  ·refine bJ (T.done (aD X N' sc (bq X.env.cells sc.names []) s3.heap.objs.size s3 (upd H2 s2.heap.objs.size (.dT [])) fp) rfl rfl rfl hc i [] s5 mj H5 _ I5 (stat sF) qN stop) λr s6 zz=>?_;obtain⟨hr,I6⟩:=zz;subst hr;obtain⟨m6,n6,_⟩:=id I6.loc;refine hRR _ _ s6 H5 m6 (I3.call' I6.os I6.base I6.hok I6.bare λb hb=>⟨(f3 b hb).2.2.2.1,(f3 b hb).2.1,(f3 b hb).2.2.2.2.1,(f3 b hb).2.2.2.2.2⟩) n6 (fC _ I6.free) qn
  ·refine bJ (T.item (aD X N' sc (bq X.env.cells sc.names []) s3.heap.objs.size s3 (upd H2 s2.heap.objs.size (.dT [])) fp) rfl rfl rfl hc i [] s5 mj H5 _ I5 (stat sF) qN go) λr s6 zz=>?_;obtain⟨u,hr,h6⟩:=zz;subst hr;refine bJ h6 λ_ s7 zz=>?_;obtain⟨x,H7,I7,r7,y7,pf,Dw⟩:=zz;have Bm:=I7.pinned (stat Dw) (T.obj _ _ pf);refine bJ (hg _ _ _ _ _ _ s7 mj H7 x u _ Bm r7 (step x H7 y7)) λ_ s8 zz=>?_;obtain⟨qD,H8,I8,q8⟩:=zz;refine bJ (ht _ _ _ _ _ _ s8 qD H8 _ I8 q8) λb s9 zz=>?_;obtain⟨H9,I9,q9⟩:=zz;have again:∀{σ':St}{H':Hp}{s':Shared}{ys':TD}{m':Nat},Inv (aD X N' sc (bq X.env.cells sc.names []) s3.heap.objs.size s3 (upd H2 s2.heap.objs.size (.dT [])) fp) ([]++jg fp s7.heap) σ' H' s'->m'<n->W (i+1) m' σ' ys' H'->
     ∃m,m<n/\∃i σ' ys H',Inv (aD X N' sc (bq X.env.cells sc.names []) s3.heap.objs.size s3 (upd H2 s2.heap.objs.size (.dT [])) fp) [] σ' H' s'/\tn i s'.heap/\(∀b∈fp,H' b=none)/\W i m σ' ys H':=λ{σ' H' s' ys' m'} I' hm w'=>by
    refine⟨m',hm,i+1,σ',ys',H',I'.fD,T.keep _ _ _ pf λb hb o e=>(I'.pin (b,o) (Ua _ (Ua _ (b9 hb e)))).1,λb hb=>?_,w'⟩;obtain⟨o,e,d⟩:=T.obj _ _ pf b hb;exact(I'.pin (b,o) (Ua _ (Ua _ (b9 hb e)))).2.1
   cases b with
   |false =>rw[UD Ud]at q9⊢;obtain⟨m',hm,w'⟩:=hN _ _ _ q9;exact again I9 hm w'
   |true =>rw[UE rfl]at q9⊢;refine bJ (hk _ _ _ _ _ _ s9 qD H9 _ I9 q9) λxv qC zz=>?_;obtain⟨y,xJ,JV,r10,IL⟩:=zz;refine bJ (hv _ _ _ _ _ _ qC qD xJ _ JV IL) λvv Ml zz=>?_;obtain⟨v,Gw,Eg,r11,kb,kk,ey,hkb,O6,w11⟩:=zz;subst ey;obtain rfl:xv=Value.ref kb:=r10;obtain⟨m',hm,w'⟩:=hN _ _ _ w11;exact Ac (X:=aD X N' sc (bq X.env.cells sc.names []) s3.heap.objs.size s3 (upd H2 s2.heap.objs.size (.dT [])) fp) hu Eg O6 hkb hsz r11 λs12 SQ=>again SQ hm w'
 exact codeAny_compStart_dict loop (T.self _ 0 _ _ _ yX loop)
end
section
variable{X:Cx}
theorem Bz{ek ev target iter:Expr}{ifs:List Expr}{N':List Str}{src:List (Option Nat)}{sc:Scope}{pos:Pos}{wi:TI}{g:TG}{tc:TT}{tk tv:TE}(hc:X.calm=true)(S:bh X.env.scope X.N N' src sc)(hi:PI X target iter wi)
  (hg:∀cl C s H fp,PG (aD X N' sc cl C s H fp) target g) (ht:∀cl C s H fp,iF (aD X N' sc cl C s H fp) ifs tc) (hk:∀cl C s H fp,PE (aD X N' sc cl C s H fp) ek tk) (hv:∀cl C s H fp,PE (aD X N' sc cl C s H fp) ev tv) (hu:X.A.units<cLine)
  (hs:∀x,foldedSetIterable iter X.env x=pure x:=by intro _;rfl) :
  PE X (.DictComp ek ev [⟨target,iter,ifs,0⟩] sc pos) (HI src wi g tc tk tv):=by
 intro ac s σ H Q I h;show wpAny _ _ (comprehension _ _ _ _ _ _ _ _) _ _ s;refine wpAny_comprehension_free (use:=none) rfl hs (cB λy hy hk=>I.ok.has y.1 (S.free y hy hk)) S.kind (λy hy hl=>by rw[←hl];exact S.uniq y hy) ?_;refine bJ (hi ac s σ H _ I h) λv s1 h1=>bJ h1 λitv s2 h2=>?_;obtain⟨it,fp,tn,J,H2,e,I2,T,st2,f2,hW⟩:=h2;subst e;refine uq (Q:=Q) (RR:=λacc C=>compPost (model X.prog X.w) X.A X.xe none (EP X ac σ Q) acc C) hc S hg ht hk hv hu I2 T st2 f2 hW ?_;intro D C s5 H' m I5 n5 fC q;refine⟨m,n5,λh' sb=>⟨.ref D,H',?_,rfl,q⟩⟩;exact I5.turned (t':=s5.toks) (λb o hb e=>(sb.2 b hb).trans e) fC.1 fC.2.1 fC.2.2.2.1 fC.2.2.2.2.1 fC.2.2.2.2.2
end
open PySem.Builtin PySem.Builtin.Tuple SeqAt in
theorem qX(l:Addr)(items:Array Value)(n:Nat)(dd:Option Addr)(sl:Array (Option Value))(x:Value)(e:Value->Bool)(j:Nat)(hj:j<items.size)(ht:e items[j]=true)(hf:∀k (h:k<items.size),k<j->e items[k]=false) :
  Meets (Builtin.«tuple.index» ⟨[.ref l,x],[]⟩)
   (λA R s=>s.heap.get? l=some {cls:=.type "tuple",dict:=dd,data:=.seq items n,slots:=sl}/\(∀y,y∈items->EqAt A.in1 s y x (e y))/\R (.ok (.ret (.int (j:Nat) s.toks))) {s with toks:=s.toks+1}) :=
 .of_wp λprog w A R s h=>by
  obtain⟨hp,g,d,tk,os⟩:=s;obtain⟨hl,he,h⟩:=h
  wp_walk using wpAny_loadPart' hl
  change wpAny _ _ (forIn (m:=Sem) ([:Min.min items.size items.size]:Std.Legacy.Range) ((none,()):Option _×Unit) (λ(i:Nat) (_:Option _×Unit)=>match items[i]? with
      |some y=>do
       let __do_lift←eqBool y x
       if __do_lift=true then do
         let __do_lift←retInt (i:Nat)
         pure (ForInStep.done (some __do_lift,()))
        else pure (ForInStep.yield (none,()))
      |_=>pure (ForInStep.yield (none,())))) _ _ _
  rw[Std.Legacy.Range.forIn_eq_forIn_range'];refine wpAny_forIn_list _ (λrest b s'=>b.1=none/\s'=⟨hp,g,d,tk,os⟩/\∃k,k<=j/\rest=List.range' k (items.size-k)) _ ?_ ?_ _ _ ⟨rfl,rfl,0,Uo _,by simp[Std.Legacy.Range.size]⟩
  ·rintro y rest b s' ⟨hb,rfl,k,hk,hr⟩;have hks:k<items.size:=by omega
   rw[show items.size-k=(items.size-(k+1))+1 by omega,List.range'_succ]at hr;injection hr with h1 h2;subst h1;dsimp only;rw[Uu hks];refine TK (he _ (Array.getElem_mem hks) prog w _ _ ?_);by_cases hkj:y=j
   ·subst hkj;rw[ht]
    wp_walk
    exact⟨_,rfl,h⟩
   ·rw[hf y hks (by omega)]
    wp_walk
    exact⟨rfl,rfl,y+1,by omega,h2⟩
  ·rintro b s' ⟨hb,rfl,k,hk,hr⟩;have:(List.range' k (items.size-k)).length=0:=by rw[←hr];rfl
   rw[List.length_range']at this;omega
section
variable{X:Cx}
def GJ(K:UX):V->List V->Hp->VK->Prop:=λv vs H Q=>∃(p:Addr)(cs:List Int)(c:Int)(j:Nat),v=.ref p/\vs=[.int c]/\aY K H p (cs.map V.int)/\cs[j]? = some c/\(∀k,k<j->cs[k]?≠some c)/\Q (.int (j:Nat)) H
theorem zI:PJ X "tuple.index" (GJ X.K):=by
 intro ac s σ H v vs u us Q I rx rv h;obtain⟨p,cs,c,j,rfl,rfl,hq,hj,hf,q⟩:=h;cases rx;obtain⟨u,rfl,ru⟩:=vals1 rv;obtain⟨its,r,pl,hz⟩:=I.tuple hq;have hl:=r.length;rw[TZ]at hl;have hjl:j<cs.length:=(Ug.mp hj).1;have fs:(cs.map V.int).all jY=true:=by rw[List.all_map];exact List.all_eq_true.mpr λ_ _=>rfl
 have he:∀k (hk:k<its.toArray.size),vf (.int c) its.toArray[k]=decide (cs[k]? = some c):=λk hk=>by
  have hk':k<cs.length:=by rw[hl];simpa using hk
  obtain⟨w,e,ow⟩:=r.get (i:=k) (x:=.int cs[k]) (by rw[Us,T_ hk'];rfl);have:its.toArray[k]=w:=by
   have:its[k]? = some its.toArray[k]:=by rw[T_ (by simpa using hk)];simp
   rw[this]at e;exact Up e
  rw[this,xK ow rfl,T_ hk'];show(cs[k]==c)=_;rw[Bool.eq_iff_iff];simp
 obtain⟨⟨cls,dd,data,sl⟩,ho,hc,n,hd⟩:=id pl;simp only at hc hd;subst hc hd;have hjs:j<its.toArray.size:=by simpa using (hl▸hjl)
 refine call_meets F.slot_tuple_index ⟨_,ho,rfl⟩ F.entry_tuple_index (F.args_tuple_index_2 _ _) (qX p its.toArray n dd sl u (vf (.int c)) j hjs (by rw[he j hjs];exact TY hj) λk hk hkj=>by rw[he k hk];exact TX (hf k hkj)) ⟨ho,λw hw=>iQ ru rfl r fs w (by simpa using hw),?_⟩;exact⟨.int (j:Nat),H,I.tok _,⟨_,rfl⟩,q⟩
end
def Lw(K:UX):R2:=λx y H Q=>∃a b xs ys,x=.ref a/\y=.ref b/\aY K H a xs/\aY K H b ys/\xs.length+ys.length<=sizeLine/\∀t H',aG H H'->aY K H' t (xs++ys)->Q (.ref t) H'
theorem yA{X:Cx}:jl X (binaryOp .Add) (Lw X.K):=by
 intro ac s σ H x y v u Q I rx ry h;obtain⟨a,b,xs,ys,rfl,rfl,ha,hb,hz,q⟩:=h;by_cases hx:xs=[]
 ·subst hx;exact vX ac s σ H _ _ v u Q I rx ry ⟨a,b,ys,rfl,rfl,ha,hb,q b H (aG.refl _) hb⟩
 ·exact y8 ac s σ H _ _ v u Q I rx ry ⟨a,b,xs,ys,rfl,rfl,ha,hb,hx,hz,λz=>q a H (aG.refl _) (by rw[z,UN];exact ha),λ_ p hp=>q p _ (λb' u' e=>by rw[aI (a_ e hp)];exact e) (aY.of ae)⟩
theorem aK.take{K:UX}{H:Hp}:∀{ds:List D}{vs:List V}(i:Nat),aK K H ds vs->aK K H (ds.take i) (vs.take i)
 |_,_,0,_=>by rw[List.take_zero,List.take_zero];exact aK.nil
 |[],vs,i+1,h=>by rw[aK]at h;rw[h,List.take_nil,List.take_nil];exact aK.nil
 |d::ds,vs,i+1,h=>by rw[aK]at h;obtain⟨v,r,rfl,h1,h2⟩:=h;rw[List.take_succ_cons,List.take_succ_cons];exact aK.cons h1 (aK.take i h2)
theorem qr{K:UX}{H:Hp}{a:Addr}{vs:List V}{ds:List D}(h:aY K H a vs)(g:aK K H ds vs):aV K H (.tup ds) (.ref a):=by rw[aV];exact⟨a,vs,rfl,h,g⟩
theorem ke{K:UX}{H:Hp}{v:V}{ds:List D}(h:aV K H (.tup ds) v):∃a vs,v=.ref a/\aY K H a vs/\aK K H ds vs:=by rw[aV]at h;exact h
theorem vF{K:UX}{H:Hp}{i:Int}{v:V}(h:aV K H (.int i) v):v=.int i:=by rw[aV]at h;exact h
theorem yL{K:UX}{H:Hp}{i:Bool}{v:V}(h:aV K H (.bl i) v):v=.bl i:=by rw[aV]at h;exact h
theorem CM{K:UX}{H:Hp}{i:Str}{v:V}(h:aV K H (.str i) v):v=.str i:=by rw[aV]at h;exact h
theorem B8{K:UX}{H:Hp}{v:V}(h:aV K H .non v):v=.non:=by rw[aV]at h;exact h
theorem gb{K:UX}{H:Hp}{d:D}{ds:List D}{vs:List V}(h:aK K H (d::ds) vs):∃v r,vs=v::r/\aV K H d v/\aK K H ds r:=by rw[aK]at h;exact h
theorem vp{K:UX}{H:Hp}{vs:List V}(h:aK K H [] vs):vs=[]:=by rw[aK]at h;exact h
def Mt(K:UX)(to:TE)(t:TA):TE:=λσ H Q=>to σ H λx H1=>(∃p xs,x=.ref p/\H1 p=some (.tup xs))/\t σ H1 λxs H2=>GJ K x xs H2 Q
theorem EB{X:Cx}{o e:Expr}{es:List Expr}{to:TE}{t:TA}{apos cpos:Pos}(ho:PE X o to)(ha:PA X (e::es) t)
  (hbase:attributeBase o "index" X.env (eval o X.env)=eval o X.env:=by rfl)
  (hfew:((backTo cpos (starEach (e::es) X.env)).all (λx=>!x.1)&&(backToKw cpos (keywordEach [] X.env)).all (λx=>x.1.isSome)
   && decide ((e::es).length+([]:List Keyword).length+(if([]:List Keyword).isEmpty then 0 else 1)<30))=true:=by rfl)
  (hline:(apos.endLine==cpos.line)=true:=by rfl) (hs:starEach (e::es) X.env=(false,eval e X.env)::starEach es X.env:=by rfl) (hplain:(backTo cpos (starEach es X.env)).any (·.1)=false:=by rfl) :
  PE X (.Call (.Attribute o "index" apos) (e::es) [] cpos) (Mt X.K to t):=by
 intro ac s σ H Q I h;refine wpAny_Call_method_late hbase hfew hline rfl (bJ (ho ac s σ H _ I h) λv s1 zz=>?_);obtain⟨x,H1,I1,r1,ty,q1⟩:=zz;have hh:s1.TypeIs v "tuple"/\∀a,v=.ref a->∃ob,s1.heap.get? a=some ob/\ob.dict=none:=by obtain⟨p,xs,rfl,hp⟩:=ty;cases r1;obtain⟨_,its,_,o,e1,e2,_,e3⟩:=I1.hok p _ hp;refine⟨⟨o,e1,e2⟩,λa e=>?_⟩;cases e;exact⟨o,e1,e3⟩
 refine⟨"tuple","tuple.index",F.plainAttrs_tuple,F.slot_tuple_index,F.type_tuple_index,hh.1,hh.2,?_⟩;have hA:=ha cpos ac s1 σ H1 _ I1 q1;rw[hs]at hA⊢;refine Calls.callWith_builtin (by show(false||(backTo cpos (starEach es X.env)).any (·.1))=false;rw[hplain]<;>rfl) (Calls.evalArgs_plain ?_);exact bJ hA λus s2 ⟨vs,H2,I2,r2,q2⟩=>zI ac s2 σ H2 x vs v us Q I2 r1 r2 q2
end L2
namespace My
open PySem L2
abbrev Od:=List (Int×Bool)
structure Kf where
 od:Od
 mo:Option Int
 un:Bool
def mV:Option Int->V
 |none=>.non
 |some i=>.int i
def dM:Option Int->D
 |none=>.non
 |some i=>.int i
def dE(e:Int×Bool):D:=.tup [.int e.1,.bl e.2]
def dO(o:Od):D:=.tup (o.map dE)
def dF(k:Kf):D:=.tup [dO k.od,dM k.mo,.bl k.un]
section
variable{K:UX}{H:Hp}
theorem KZ{m:Option Int}:aV K H (dM m) (mV m):=by cases m<;>first|exact sN|exact lT _
theorem Ih{m:Option Int}{v:V}(h:aV K H (dM m) v):v=mV m:=by cases m<;>first|exact B8 h|exact vF h
theorem MP{e:Int×Bool}{v:V}(h:aV K H (dE e) v):∃a,v=.ref a/\aY K H a [.int e.1,.bl e.2]:=by obtain⟨a,vs,rfl,hs,hd⟩:=ke h;obtain⟨v1,r1,rfl,h1,hd⟩:=gb hd;obtain⟨v2,r2,rfl,h2,hd⟩:=gb hd;rw[vp hd,vF h1,yL h2]at hs;exact⟨a,rfl,hs⟩
theorem F1{a:Addr}{c:Int}{b:Bool}(h:aY K H a [.int c,.bl b]):aV K H (dE (c,b)) (.ref a):=qr h (aK.cons (lT _) (aK.cons (tq _) aK.nil))
theorem oe{k:Kf}{v:V}(h:aV K H (dF k) v):∃a t,v=.ref a/\aY K H a [t,mV k.mo,.bl k.un]/\aV K H (dO k.od) t:=by obtain⟨a,vs,rfl,hs,hd⟩:=ke h;obtain⟨v1,r1,rfl,h1,hd⟩:=gb hd;obtain⟨v2,r2,rfl,h2,hd⟩:=gb hd;obtain⟨v3,r3,rfl,h3,hd⟩:=gb hd;rw[vp hd,Ih h2,yL h3]at hs;exact⟨a,v1,rfl,hs,h1⟩
theorem IC{a:Addr}{t:V}{o:Od}{m:Option Int}{u:Bool}(h:aY K H a [t,mV m,.bl u])(ho:aV K H (dO o) t):aV K H (dF ⟨o,m,u⟩) (.ref a) :=
 qr h (aK.cons ho (aK.cons KZ (aK.cons (tq _) aK.nil)))
theorem oR{o:Od}{vs:List V}{i:Nat}{v:V}(h:aK K H (o.map dE) vs)(hv:vs[i]? = some v):∃e a,o[i]? = some e/\v=.ref a/\aY K H a [.int e.1,.bl e.2]:=by
 obtain⟨d,e1,e2⟩:=h.get hv;rw[Us]at e1;cases q:o[i]? with
 |none=>rw[q]at e1;cases e1
 |some e =>rw[q]at e1;cases e1;obtain⟨a,rfl,hs⟩:=MP e2;exact⟨e,a,rfl,rfl,hs⟩
theorem mz{o:Od}{vs:List V}(h:aK K H (o.map dE) vs):vs.length=o.length:=by rw[←h.length,TZ]
end
theorem BD{α:Type}{p:α->Bool}:∀{l:List α}{i:Nat}{x:α},(∀e∈l.take i,p e=true)->l[i]? = some x->p x=false->l.takeWhile p=l.take i
 |[],i,x,_,h,_=>by cases h
 |a::l,0,x,_,h,hp=>by cases h;rw[List.takeWhile_cons,hp];rfl
 |a::l,i+1,x,ha,h,hp=>by rw[List.takeWhile_cons,ha a (by simp),List.take_succ_cons,UE rfl];exact congrArg (a :: ·) (BD (λe he=>ha e (by rw[List.take_succ_cons];exact Uc _ he)) h hp)
theorem CS{α:Type}{p:α->Bool}{l:List α}(h:∀e∈l,p e=true):l.takeWhile p=l:=by
 induction l with
 |nil=>rfl
 |cons a l ih=>rw[List.takeWhile_cons,h a (by simp),UE rfl,ih λe he=>h e (Uc _ he)]
theorem take_all{α:Type}{l:List α}{i:Nat}{x:α}{p:α->Prop}(h:∀e∈l.take i,p e)(hx:l[i]? = some x)(px:p x):∀e∈l.take (i+1),p e:=λe he=>by
 rw[List.take_add_one,hx]at he;rcases Ul.mp he with z|z
 ·exact h e z
 ·have:e=x:=by simpa using z
  rw[this];exact px
def jF(o:Od)(c:Int):Od:=o.takeWhile λe=>decide (e.1≠c)
def K3(K:UX):Sp:=λvs H Q _=>∃(v:V)(o:Od)(c:Int),vs=[v,.int c]/\aV K H (dO o) v/\o.length<=1000/\∀u H',aG H H'->aV K H' (dO (jF o c)) u->Q u H'
abbrev ia:Stmt:=top 60
theorem gw:av ["order","column","found","entry"] ["order","column"] (ao ia):=fs
variable{P:Program}{w:World}{K:UX}{mg:Str->Option Value}{base:Heap}
theorem A6(B:j7 mg)(F:FA K mg "order_ahead" ia) :
  bA bx P w K mg base 1 "order_ahead" ["order","column"] (K3 K):=by
 refine F.ok gw λf cdv A outer s H vs Q E hr h=>?_;have hu:=iH hr;obtain⟨v,o,c,rfl,ho,hz,q⟩:=h;refine⟨_,(aq (bc (i:=2) gw.nd rfl (UH rfl) (bZ ah))
   (aq (fj PassesOwn.never rfl (cF (pv 0)) (aM (i:=3) gw.nd rfl (UH rfl))
    (bu (bg bO (aX K (pv 3) ai) (pv 1)) (bN bt rfl B.tuple UL (aa (pv 2) ah))
     (b_ (c7 (jU PySem.F.plainAttrs_list PySem.F.slot_list_append PySem.F.type_list_append cw (pv 2) (aa (pv 3) ah))))))
   (ax (bN bt rfl B.tuple UL (aa (pv 2) ah))))),?_⟩
 obtain⟨a,ws,rfl,hS,hD⟩:=ke ho;have hl:=mz hD;have fin:∀(i:Nat)(L u:Addr)(H':Hp),aG H H'->jF o c=o.take i->H' u=none->aV K (upd H' u (.tup (ws.take i))) (dO (jF o c)) (.ref u):=λi L u H' s' e hu=>by rw[e];have:=(hD.take i).same (s'.trans (ag hu (.tup (ws.take i))));rw[←List.map_take]at this;exact bL ae this
 refine⟨Uo _,λL hL=>aj ?_⟩;dsimp only;refine⟨_,rfl,a,rfl,⟨_,(ag hL _).gG hS⟩,?_⟩;refine tj (xs:=ws) (λi σ H'=>(∃o3,σ=[some (.ref a),some (.int c),some (.ref L),o3])/\H' L=some (.lst (ws.take i))/\aG H H'/\∀e∈o.take i,decide (e.1≠c)=true) ⟨⟨none,rfl⟩,ae,ag hL _,by simp⟩ ?_ ?_ ?_
 ·rintro i σ H' _ ⟨_,_,s',_⟩;exact s'.gG hS
 ·rintro i x σ H' hx ⟨⟨o3,rfl⟩,hL',s',hall⟩;obtain⟨e,b,he,rfl,hb⟩:=oR hD hx;refine aj ?_;dsimp only;refine⟨_,rfl,b,_,0,_,rfl,rfl,s'.gG hb,aP (j:=0) rfl,_,rfl,rfl,_,rfl,?_⟩;refine fw (λk=>?_) λk=>bD ?_
  ·have k':e.1=c:=by simpa using UB k
   refine⟨_,rfl,L,_,rfl,.inl ⟨bj.of hL',λu hu=>q _ _ (s'.trans (ag hu _)) (fin i L u H' s' ?_ hu)⟩⟩;exact BD hall he (TX λz=>z k')
  ·have k':e.1≠c:=λz=>k (TY (by rw[z]));refine⟨_,rfl,.inl ⟨rfl,_,bj.of hL'⟩,_,rfl,L,_,_,rfl,rfl,hL',?_,⟨_,rfl⟩,?_,bo hL s',take_all hall he (TY k')⟩
   ·rw[Ut];exact T8 (TV (Nat.min_le_right _ _) (by rw[hl];exact hz)) (by decide)
   ·rw[ae,take_one hx]
 ·rintro σ H' ⟨⟨o3,rfl⟩,hL',s',hall⟩;rw[hl,UI]at hall;refine⟨_,rfl,L,_,rfl,.inl ⟨bj.of hL',λu hu=>q _ _ (s'.trans (ag hu _)) (fin ws.length L u H' s' ?_ hu)⟩⟩;rw[hl,UI];exact CS hall
def KS(K:UX)(H H':Hp):Prop:=∀a xs,aY K H a xs->aY K H' a xs
section
variable{K:UX}{H H1 H2:Hp}
theorem KS.iK{L:Addr}{xs:List V}{o:HO}(h:H L=some (.lst xs)):KS K H (upd H L o):=λa ys q=>by
 rcases q with(q|⟨ob,q⟩)|q
 ·exact .inl (.inl (by rw[aI λz=>by rw[z,h]at q;cases q];exact q))
 ·exact .inl (.inr ⟨ob,by rw[aI λz=>by rw[z,h]at q;cases q];exact q⟩)
 ·exact .inr q
theorem Cs(o:Od):oz (o.map dE)=true:=jR.mpr λd hd=>by obtain⟨e,_,rfl⟩:=Ui.mp hd;rfl
theorem MG(o:Od):Gg (dO o)=true:=Cs o
theorem BR(k:Kf):Gg (dF k)=true:=by
 show oz [dO k.od,dM k.mo,.bl k.un]=true;refine jR.mpr λd hd=>?_;simp only[Uj,UG,or_false]at hd;rcases hd with rfl|rfl|rfl
 ·exact MG _
 ·cases k.mo<;>rfl
 ·rfl
end
theorem Ol{c:Int}{cs:List Int}:inV (.int c) (cs.map V.int)=decide (c∈cs):=by
 induction cs with
 |nil=>rfl
 |cons a cs ih =>have e:inV (.int c) ((a::cs).map V.int)=((a==c)||inV (.int c) (cs.map V.int)):=rfl;rw[e,ih,Bool.eq_iff_iff,Bool.or_eq_true,beq_iff_eq,decide_eq_true_eq,decide_eq_true_eq,Uj];exact or_congr eq_comm Iff.rfl
theorem DP(cs:List Int):(cs.map V.int).all jY=true:=by rw[List.all_map];exact List.all_eq_true.mpr λ_ _=>rfl
theorem JG{c:Int}{cs:List Int}(h:c∈cs):cs[cs.idxOf c]? = some c/\∀k,k<cs.idxOf c->cs[k]?≠some c:=by have hl:cs.idxOf c<cs.length:=List.idxOf_lt_length_iff.mpr h;refine⟨by rw[T_ hl,List.getElem_idxOf],λk hk e=>?_⟩;obtain⟨hk',e'⟩:=Ug.mp e;have:=List.not_of_lt_findIdx (p:=(· == c)) (xs:=cs) hk;rw[e']at this;simp at this
def PF(cs:List Int)(e:Int×Bool):Int×Bool:=((cs.idxOf e.1:Nat)+1,e.2)
def nV(o:Od)(cs:List Int):Od:=(o.takeWhile λe=>decide (e.1∈cs)).map (PF cs)
def HM(K:UX):Sp:=λvs H Q _=>∃(v:V)(t:Addr)(o:Od)(cs:List Int),vs=[v,.ref t]/\aV K H (dO o) v/\H t=some (.tup (cs.map V.int))/\o.length<=1000/\∀u H',aG H H'->aV K H' (dO (nV o cs)) u->Q u H'
abbrev ly:Stmt:=top 61
theorem gT:av ["order","columns","found","column","greatest_first"] ["order","columns"] (ao ly):=fs
theorem IF(B:j7 mg)(F:FA K mg "order_in" ly) :
  bA bx P w K mg base 1 "order_in" ["order","columns"] (HM K):=by
 refine F.ok gT λf cdv A outer s H vs Q E hr h=>?_;have hu:=iH hr;obtain⟨v,t,o,cs,rfl,ho,ht,hz,q⟩:=h;refine⟨_,(aq (bc (i:=2) gT.nd rfl (UH rfl) (bZ ah))
   (aq (fj PassesOwn.never rfl (cF (pv 0)) (bS rfl (ar (aM (i:=3) gT.nd rfl (UH rfl)) (ar (aM (i:=4) gT.nd rfl (UH rfl)) bw)))
    (bu (fR mM (pv 3) (pv 1) rfl) (bN bt rfl B.tuple UL (aa (pv 2) ah))
     (b_ (c7 (jU PySem.F.plainAttrs_list PySem.F.slot_list_append PySem.F.type_list_append cw (pv 2) (aa (aW (aa (aQ cb (EB (pv 1) (aa (pv 3) ah)) ai) (aa (pv 4) ah))) ah))))))
   (ax (bN bt rfl B.tuple UL (aa (pv 2) ah))))),?_⟩
 obtain⟨a,ws,rfl,hS,hD⟩:=ke ho;have hl:=mz hD;refine⟨Uo _,λL hL=>aj ?_⟩;dsimp only;refine⟨_,rfl,a,rfl,⟨_,(ag hL _).gG hS⟩,?_⟩;refine tj (xs:=ws) (λi σ H'=>(∃o3 o4,σ=[some (.ref a),some (.ref t),some (.ref L),o3,o4])/\(∃xs,H' L=some (.lst xs)/\aK K H' (((o.take i).map (PF cs)).map dE) xs)/\aG H H'/\∀e∈o.take i,decide (e.1∈cs)=true) ⟨⟨none,none,rfl⟩,⟨[],ae,aK.nil⟩,ag hL _,by simp⟩ ?_ ?_ ?_
 ·rintro i σ H' _ ⟨_,_,s',_⟩;exact s'.gG hS
 ·rintro i x σ H' hx ⟨⟨o3,o4,rfl⟩,⟨xs,hL',hX⟩,s',hall⟩;obtain⟨e,b,he,rfl,hb⟩:=oR hD hx;refine⟨b,_,rfl,s'.gG hb,rfl,_,_,rfl,aj ⟨_,_,rfl,aj ⟨rfl,?_⟩⟩⟩;dsimp only;refine⟨_,rfl,_,rfl,t,_,rfl,.inr (aY.of (s' _ _ ht)),rfl,DP cs,_,rfl,?_⟩;show if(!inV (.int e.1) (cs.map V.int))=true then _ else _
  rw[Ol];by_cases k:e.1∈cs
  ·rw[TY k];refine cV (bD ?_);obtain⟨k1,k2⟩:=JG k;refine⟨_,rfl,.inl ⟨rfl,_,bj.of hL'⟩,_,rfl,⟨t,_,rfl,s' _ _ ht⟩,_,rfl,t,cs,e.1,_,rfl,rfl,aY.of (s' _ _ ht),k1,k2,_,_,rfl,rfl,_,rfl,cn,λu hu=>?_⟩;have su:=ag hu (.tup [.int ((cs.idxOf e.1:Nat)+1),.bl e.2]);have hLu:=su _ _ hL';refine⟨L,_,_,rfl,rfl,hLu,?_,⟨_,_,rfl⟩,⟨_,ae,?_⟩,bo hL (s'.trans su),take_all hall he (TY k)⟩
   ·rw[←hX.length,TZ,TZ,Ut];exact T8 (TV (Nat.min_le_right _ _) hz) (by decide)
   ·rw[take_one he,T4,T4];refine aK.cE (KS.iK hLu) ?_ ((hX.same su).append (aK.cons (F1 (aY.of ae)) aK.nil));rw[←T4];exact Cs _
  ·rw[TX k];refine dX ⟨_,rfl,L,_,rfl,.inl ⟨bj.of hL',λu hu=>q _ _ (s'.trans (ag hu _)) ?_⟩⟩;rw[nV,BD hall he (TX k)];exact bL ae (hX.same (ag hu _))
 ·rintro σ H' ⟨⟨o3,o4,rfl⟩,⟨xs,hL',hX⟩,s',hall⟩;rw[hl,UI]at hall hX;refine⟨_,rfl,L,_,rfl,.inl ⟨bj.of hL',λu hu=>q _ _ (s'.trans (ag hu _)) ?_⟩⟩;rw[nV,CS hall];exact bL ae (hX.same (ag hu _))
def withOther(o l:Od):Od:=o++l.filter λe=>decide (e.1∉o.map λe=>e.1)
def K_(K:UX):Sp:=λvs H Q _=>∃(v w:V)(o l:Od),vs=[v,w]/\aV K H (dO o) v/\aV K H (dO l) w/\o.length<=1000/\l.length<=1000/\∀u H',aG H H'->aV K H' (dO (withOther o l)) u->Q u H'
abbrev de:Stmt:=top 62
theorem e9:av ["order","later","columns"] ["order","later"] (ao de):=fs
theorem A1(B:j7 mg)(F:FA K mg "with_other_columns" de) :
  bA bx P w K mg base 1 "with_other_columns" ["order","later"] (K_ K):=by
 refine F.ok e9 λf cdv A outer s H vs Q E hr h=>?_;have hu:=iH hr;obtain⟨v,w',o,l,rfl,ho,hl,hz1,hz2,q⟩:=h;refine⟨_,(aq (bc (i:=2) e9.nd rfl (Or.inr rfl) (bU (N':=["column","greatest_first"]) (src:=[none,none]) rfl (bh.lJ (by kernel_rfl)) (cF (pv 0)) (g:=(oJ K 2 (cI (bW 0) (cI (bW 1) oH)))) (λcl C s H fp=>(bS rfl (ar (fX (i:=0)) (ar (fX (i:=1)) bw)))) (λcl C s H fp=>bp) (te:=(bF 0)) (λcl C s H fp=>(i3 0))))
   (ax (aQ yA (pv 0) (bN bt rfl B.tuple UL (aa (bU (N':=["entry","columns"]) (src:=[none,some 2]) rfl (bh.lJ (by kernel_rfl)) (cF (pv 1)) (λcl C s H fp=>(fX (i:=0))) (tc:=(kY (fQ (GP K true) (fQ (qo K) (bF 0) (tC (.int 0))) (bF 1)))) (λcl C s H fp=>iN (fR mM (aX K (i3 0) ai) (ug 1) rfl)) (te:=(bF 0)) (λcl C s H fp=>(i3 0))) ah))))),?_⟩
 obtain⟨a,ws,rfl,hS,hD⟩:=ke ho;obtain⟨b,zs,rfl,hS2,hD2⟩:=ke hl;have l1:=mz hD;have l2:=mz hD2;refine⟨_,rfl,a,rfl,⟨_,hS⟩,λC hC=>?_⟩;refine cX (xs:=ws) (λi σ ys H'=>(∃o1 o2,σ=[o1,o2])/\ys=((o.take i).map λe=>e.1).map V.int/\ys.length=i/\H' C=some (.lst ys)/\aG H H') ⟨⟨none,none,rfl⟩,rfl,rfl,ae,ag hC _⟩ ?_ ?_ ?_ ?_ ?_
 ·rintro i σ ys H' _ ⟨_,_,hi,h,_⟩;exact⟨h,UP hi⟩
 ·rintro i σ ys H' _ ⟨_,_,_,_,sm⟩;exact sm.gG hS
 ·rw[l1];exact TV hz1 (by decide)
 ·rintro i x σ ys H' hx ⟨⟨o1,o2,rfl⟩,rfl,hi,h,sm⟩;obtain⟨e,c,he,rfl,hc⟩:=oR hD hx;refine⟨c,_,rfl,sm.gG hc,rfl,_,_,rfl,aj ⟨_,_,rfl,aj ⟨rfl,?_⟩⟩⟩;refine⟨_,rfl,h,⟨_,_,rfl⟩,?_,?_,ae,bo hC sm⟩
  ·rw[List.take_add_one,he,T4,T4];rfl
  ·rw[T1,hi];rfl
 rintro σ ys H1 ⟨_,rfl,_,h,sm⟩;rw[l1,UI]at h;refine aj ?_;dsimp only;refine⟨_,rfl,_,rfl,b,rfl,⟨_,sm.gG hS2⟩,λC2 Qc=>?_⟩;refine cX (xs:=zs) (λi σ ys H'=>(∃o1,σ=[o1,some (.ref C)])/\aK K H1 (((l.take i).filter λe=>decide (e.1∉o.map λe=>e.1)).map dE) ys/\ys.length<=i/\H' C2=some (.lst ys)/\aG H1 H') ⟨⟨none,rfl⟩,aK.nil,TU _,ae,ag Qc _⟩ ?_ ?_ ?_ ?_ ?_
 ·rintro i σ ys H' _ ⟨_,_,hi,h,_⟩;exact⟨h,hi⟩
 ·rintro i σ ys H' _ ⟨_,_,_,_,sm'⟩;exact(sm.trans sm').gG hS2
 ·rw[l2];exact TV hz2 (by decide)
 ·rintro i x σ ys H' hx ⟨⟨o1,rfl⟩,hY,hi,h2,sm'⟩;obtain⟨e,c,he,rfl,hc⟩:=oR hD2 hx;refine aj ?_;refine⟨_,rfl,c,_,0,_,rfl,rfl,(sm.trans sm').gG hc,aP (j:=0) rfl,_,rfl,C,_,rfl,.inl (bj.of (sm' _ _ h)),rfl,DP _,_,rfl,?_⟩;show if(!inV (.int e.1) ((o.map λe=>e.1).map V.int))=true then _ else _
  rw[Ol];by_cases k:e.1∈o.map λe=>e.1
  ·rw[TY k];refine cV ⟨⟨_,rfl⟩,?_,Nat.le_succ_of_le hi,h2,sm'⟩;rw[take_one he,List.filter_append,List.filter_cons_of_neg (by rw[decide_eq_true_eq];exact λz=>z k)];simpa using hY
  ·rw[TX k];refine dX ⟨_,rfl,h2,⟨_,rfl⟩,?_,?_,ae,bo Qc sm'⟩
   ·rw[take_one he,List.filter_append,T4,List.filter_cons_of_pos (by rw[decide_eq_true_eq];exact k)];exact hY.append (aK.cons (F1 (sm.gG hc)) aK.nil)
   ·rw[T1];exact Nat.succ_le_succ hi
 rintro σ ys H2 ⟨_,hY,hi,h2,sm'⟩;rw[l2,UI]at hY;refine⟨C2,_,rfl,.inl ⟨bj.of h2,λu hu=>?_⟩⟩;have su:=ag hu (.tup ys);have s2:=sm'.trans su;refine⟨a,u,_,_,rfl,rfl,(sm.trans s2).gG hS,aY.of ae,?_,λt H' st ht=>q _ _ ((sm.trans s2).trans st) ?_⟩
 ·rw[l1];exact TV (show o.length+ys.length<=2000 by omega) (by decide)
 ·refine qr ht ?_;rw[withOther,T4];exact(hD.same ((sm.trans s2).trans st)).append (hY.same (s2.trans st))
def wo(m:Option Int)(n:Int):Int:=match m with
 |none=>n
 |some k=>if n<k then n else k
def zk:Sp:=λvs H Q _=>∃(m:Option Int)(n:Int),vs=[mV m,.int n]/\Q (.int (wo m n)) H
abbrev uc:Stmt:=top 63
theorem DY:av ["most","many"] ["most","many"] (ao uc):=fs
theorem C5(B2:tR mg)(F:FA K mg "least" uc) :
  bA bx P w K mg base 1 "least" ["most","many"] zk:=by
 refine F.ok DY λf cdv A outer s H vs Q E hr h=>?_;obtain⟨m,n,rfl,q⟩:=h;refine⟨_,(ax (mq (bg JP (pv 0) gc) (pv 1) (aN (rB rfl) rfl B2.min PyProof.Rows.boot_min (aa (pv 0) (aa (pv 1) ah))))),?_⟩;refine⟨_,rfl,rfl,_,rfl,?_⟩;cases m with
 |none=>exact dX ⟨_,rfl,q⟩
 |some k=>exact cV ⟨_,rfl,_,rfl,_,_,rfl,q⟩
def allIn(cs:List Int)(w:Nat):Bool:=(List.range w).all λi=>decide ((1:Int)+i∈cs)
def Nk:W1->Kf->Nat->Kf
 | .keep ..,k,_=>⟨k.od,k.mo,false⟩
 | .same ..,k,_=>⟨k.od,k.mo,false⟩
 | .cut cs,k,w=>⟨nV k.od cs,k.mo,k.un&&allIn cs w⟩
 | .turn c _,k,_=>⟨jF k.od c,k.mo,false⟩
 | .must c _,k,_=>⟨jF k.od c,k.mo,false⟩
 | .walk ..,k,_=>k
 | .sort o,k,_=>⟨withOther o k.od,k.mo,false⟩
 | .apart,k,_=>⟨k.od,k.mo,true⟩
 | .count cs,k,_=>⟨nV k.od cs,k.mo,true⟩
 | .sum cs _,k,_=>⟨nV k.od cs,k.mo,true⟩
 | .number,k,w=>⟨k.od++[((w:Int)+1,false)],k.mo,true⟩
 | .first n,k,_=>⟨k.od,some (wo k.mo n),k.un⟩
def ip(K:UX)(ok:W1->Prop):Sp:=λvs H Q _=>∃(a:Addr)(x:W1)(v e:V)(k:Kf)(w:Nat),vs=[.ref a,v,.int (w:Nat),e]/\du H a x/\ok x/\iq x/\aV K H (dF k) v/\k.od.length<=1000/\w<=1000/\∀u H',aG H H'->aV K H' (dF (Nk x k w)) u->Q u H'
theorem c9{K:UX}{k k':W1->Prop}(h:∀x,k' x->k x):∀vs H Q E,ip K k' vs H Q E->ip K k vs H Q E:=by rintro vs H Q E ⟨a,x,v,e,kf,w,h1,h2,h3,h4⟩;exact⟨a,x,v,e,kf,w,h1,h2,h x h3,h4⟩
section
variable{K:UX}{H:Hp}
theorem jr{u:Addr}{t:V}{o:Od}{m:Option Int}{b:Bool}(hu:H u=none)(ho:aV K H (dO o) t):aV K (upd H u (.tup [t,mV m,.bl b])) (dF ⟨o,m,b⟩) (.ref u):=IC (aY.of ae) (ho.same (ag hu _))
end
def Dm(x:W1):Prop:=(∃c t,x=.keep c t)\/∃c d,x=.same c d
abbrev ie:Stmt:=top 64
theorem eG:av ["worker","known","wide","ends","order","most","unlike"] ["worker","known","wide","ends"] (ao ie):=fs
theorem Dq(F:FA K mg "behind_test" ie) :
  bA bx P w K mg base 1 "behind_test" ["worker","known","wide","ends"] (ip K Dm):=by
 refine F.ok eG λf cdv A outer s H vs Q E hr h=>?_;have hu:=iH hr;obtain⟨a,x,v,e,k,w,rfl,ha,ho,hs,hk,hz,hw,q⟩:=h;refine⟨_,(aq (d0 (pv 1) (bS rfl (ar (aM (i:=4) eG.nd rfl (UH rfl)) (ar (aM (i:=5) eG.nd rfl (UH rfl)) (ar (aM (i:=6) eG.nd rfl (UH rfl)) bw)))))
   (ax (aW (aa (pv 4) (aa (pv 5) (aa c0 ah)))))),?_⟩
 obtain⟨b,t,rfl,hb,ht⟩:=oe hk;refine⟨_,rfl,b,_,rfl,hb,rfl,_,_,rfl,aj ⟨_,_,rfl,aj ⟨_,_,rfl,aj ⟨rfl,?_⟩⟩⟩⟩;dsimp only;refine⟨_,rfl,_,rfl,cm,λu hu=>q _ _ (ag hu _) ?_⟩;rcases ho with⟨c,t',rfl⟩|⟨c,d,rfl⟩
 ·exact jr hu ht
 ·exact jr hu ht
def G9(x:W1):Prop:=(∃c ps,x=.turn c ps)\/∃c ps,x=.must c ps
abbrev fP:Stmt:=top 66
theorem dh:av ["worker","known","wide","ends","order","most","unlike"] ["worker","known","wide","ends"] (ao fP):=fs
theorem EG(F:FA K mg "behind_change" fP)
  (qR:bA bx P w K mg base 1 "order_ahead" ["order","column"] (K3 K)) :
  bA bx P w K mg base 2 "behind_change" ["worker","known","wide","ends"] (ip K G9):=by
 refine F.ok dh λf cdv A outer s H vs Q E hr h=>?_;have hu:=iH hr;obtain⟨a,x,v,e,k,w,rfl,ha,ho,hs,hk,hz,hw,q⟩:=h;refine⟨_,(aq (d0 (pv 1) (bS rfl (ar (aM (i:=4) dh.nd rfl (UH rfl)) (ar (aM (i:=5) dh.nd rfl (UH rfl)) (ar (aM (i:=6) dh.nd rfl (UH rfl)) bw)))))
   (ax (aW (aa (aL qR hr (aa (pv 4) (aa (aX K (pv 0) ai) ah))) (aa (pv 5) (aa c0 ah)))))),?_⟩
 obtain⟨b,t,rfl,hb,ht⟩:=oe hk;refine⟨_,rfl,b,_,rfl,hb,rfl,_,_,rfl,aj ⟨_,_,rfl,aj ⟨_,_,rfl,aj ⟨rfl,?_⟩⟩⟩⟩;dsimp only;rcases ho with⟨c,ps,rfl⟩|⟨c,ps,rfl⟩
 ·obtain⟨t',bs,h1,_⟩:=ha;exact⟨_,rfl,_,rfl,a,_,1,_,rfl,rfl,aY.of h1,rfl,t,k.od,c,rfl,ht,hz,λu H' s' hu'=>⟨_,rfl,cm,λp hp=>q _ _ (s'.trans (ag hp _)) (jr hp hu')⟩⟩
 ·obtain⟨t',bs,h1,_⟩:=ha;exact⟨_,rfl,_,rfl,a,_,1,_,rfl,rfl,aY.of h1,rfl,t,k.od,c,rfl,ht,hz,λu H' s' hu'=>⟨_,rfl,cm,λp hp=>q _ _ (s'.trans (ag hp _)) (jr hp hu')⟩⟩
theorem JY{K:UX}{H:Hp}{t:Addr}{bs:List Addr}{cs:Od}(h:bE FZ H t bs cs):aV K H (dO cs) (.ref t):=by refine bL h.tup (aK.of (by rw[TZ,TZ,h.len]) λi d v e1 e2=>?_);obtain⟨a,e,rfl,e3,e4⟩:=h.get e2;rw[Us,e3]at e1;cases e1;exact F1 (aY.of e4)
abbrev iz:Stmt:=top 67
theorem eN:av ["worker","known","wide","ends","order","most","unlike"] ["worker","known","wide","ends"] (ao iz):=fs
theorem BJ(F:FA K mg "behind_sort" iz)
  (jP:bA bx P w K mg base 1 "with_other_columns" ["order","later"] (K_ K)) :
  bA bx P w K mg base 2 "behind_sort" ["worker","known","wide","ends"] (ip K sj):=by
 refine F.ok eN λf cdv A outer s H vs Q E hr h=>?_;have hu:=iH hr;obtain⟨a,x,v,e,k,w,rfl,ha,ho,hs,hk,hz,hw,q⟩:=h;refine⟨_,(aq (d0 (pv 1) (bS rfl (ar (aM (i:=4) eN.nd rfl (UH rfl)) (ar (aM (i:=5) eN.nd rfl (UH rfl)) (ar (aM (i:=6) eN.nd rfl (UH rfl)) bw)))))
   (ax (aW (aa (aL jP hr (aa (aX K (pv 0) ai) (aa (pv 4) ah))) (aa (pv 5) (aa c0 ah)))))),?_⟩
 obtain⟨b,t,rfl,hb,ht⟩:=oe hk;refine⟨_,rfl,b,_,rfl,hb,rfl,_,_,rfl,aj ⟨_,_,rfl,aj ⟨_,_,rfl,aj ⟨rfl,?_⟩⟩⟩⟩;dsimp only;obtain⟨cs,rfl⟩:=ho;obtain⟨t',bs,h1,hI⟩:=ha;exact⟨_,rfl,a,_,1,_,rfl,rfl,aY.of h1,rfl,_,rfl,.ref t',t,cs,k.od,rfl,JY hI,ht,hs,hz,λu H' s' hu'=>⟨_,rfl,cm,λp hp=>q _ _ (s'.trans (ag hp _)) (jr hp hu')⟩⟩
def yU(x:W1):Prop:=x=.apart
abbrev gK:Stmt:=top 68
theorem dP:av ["worker","known","wide","ends","order","most","unlike"] ["worker","known","wide","ends"] (ao gK):=fs
theorem As(F:FA K mg "behind_apart" gK) :
  bA bx P w K mg base 1 "behind_apart" ["worker","known","wide","ends"] (ip K yU):=by
 refine F.ok dP λf cdv A outer s H vs Q E hr h=>?_;have hu:=iH hr;obtain⟨a,x,v,e,k,w,rfl,ha,ho,hs,hk,hz,hw,q⟩:=h;refine⟨_,(aq (d0 (pv 1) (bS rfl (ar (aM (i:=4) dP.nd rfl (UH rfl)) (ar (aM (i:=5) dP.nd rfl (UH rfl)) (ar (aM (i:=6) dP.nd rfl (UH rfl)) bw)))))
   (ax (aW (aa (pv 4) (aa (pv 5) (aa c0 ah)))))),?_⟩
 obtain⟨b,t,rfl,hb,ht⟩:=oe hk;refine⟨_,rfl,b,_,rfl,hb,rfl,_,_,rfl,aj ⟨_,_,rfl,aj ⟨_,_,rfl,aj ⟨rfl,?_⟩⟩⟩⟩;dsimp only;cases ho;exact⟨_,rfl,_,rfl,cm,λu hu=>q _ _ (ag hu _) (jr hu ht)⟩
def yz(x:W1):Prop:=(∃cs,x=.count cs)\/∃cs c,x=.sum cs c
abbrev gn:Stmt:=top 69
theorem dR:av ["worker","known","wide","ends","order","most","unlike"] ["worker","known","wide","ends"] (ao gn):=fs
theorem Al(F:FA K mg "behind_tally" gn)
  (lq:bA bx P w K mg base 1 "order_in" ["order","columns"] (HM K)) :
  bA bx P w K mg base 2 "behind_tally" ["worker","known","wide","ends"] (ip K yz):=by
 refine F.ok dR λf cdv A outer s H vs Q E hr h=>?_;have hu:=iH hr;obtain⟨a,x,v,e,k,w,rfl,ha,ho,hs,hk,hz,hw,q⟩:=h;refine⟨_,(aq (d0 (pv 1) (bS rfl (ar (aM (i:=4) dR.nd rfl (UH rfl)) (ar (aM (i:=5) dR.nd rfl (UH rfl)) (ar (aM (i:=6) dR.nd rfl (UH rfl)) bw)))))
   (ax (aW (aa (aL lq hr (aa (pv 4) (aa (aX K (pv 0) ai) ah))) (aa (pv 5) (aa c0 ah)))))),?_⟩
 obtain⟨b,t,rfl,hb,ht⟩:=oe hk;refine⟨_,rfl,b,_,rfl,hb,rfl,_,_,rfl,aj ⟨_,_,rfl,aj ⟨_,_,rfl,aj ⟨rfl,?_⟩⟩⟩⟩;dsimp only;rcases ho with⟨cs,rfl⟩|⟨cs,c,rfl⟩
 ·obtain⟨t',h1,h2⟩:=ha;exact⟨_,rfl,_,rfl,a,_,1,_,rfl,rfl,aY.of h1,rfl,t,t',k.od,cs,rfl,ht,h2,hz,λu H' s' hu'=>⟨_,rfl,cm,λp hp=>q _ _ (s'.trans (ag hp _)) (jr hp hu')⟩⟩
 ·obtain⟨t',h1,h2⟩:=ha;exact⟨_,rfl,_,rfl,a,_,1,_,rfl,rfl,aY.of h1,rfl,t,t',k.od,cs,rfl,ht,h2,hz,λu H' s' hu'=>⟨_,rfl,cm,λp hp=>q _ _ (s'.trans (ag hp _)) (jr hp hu')⟩⟩
def u_(x:W1):Prop:=x=.number
abbrev fH:Stmt:=top 70
theorem dj:av ["worker","known","wide","ends","order","most","unlike"] ["worker","known","wide","ends"] (ao fH):=fs
theorem xx(F:FA K mg "behind_number" fH) :
  bA bx P w K mg base 1 "behind_number" ["worker","known","wide","ends"] (ip K u_):=by
 refine F.ok dj λf cdv A outer s H vs Q E hr h=>?_;obtain⟨a,x,v,e,k,w,rfl,ha,ho,hs,hk,hz,hw,q⟩:=h;refine⟨_,(aq (d0 (pv 1) (bS rfl (ar (aM (i:=4) dj.nd rfl (UH rfl)) (ar (aM (i:=5) dj.nd rfl (UH rfl)) (ar (aM (i:=6) dj.nd rfl (UH rfl)) bw)))))
   (ax (aW (aa (aQ yA (pv 4) (aW (aa (aW (aa (aQ cb (pv 2) ai) (aa c0 ah))) ah))) (aa (pv 5) (aa c0 ah)))))),?_⟩
 obtain⟨b,t,rfl,hb,ht⟩:=oe hk;refine⟨_,rfl,b,_,rfl,hb,rfl,_,_,rfl,aj ⟨_,_,rfl,aj ⟨_,_,rfl,aj ⟨rfl,?_⟩⟩⟩⟩;dsimp only;cases ho;obtain⟨c,ws,rfl,hS,hD⟩:=ke ht;refine⟨_,rfl,_,rfl,_,_,rfl,rfl,cn,λp1 hp1=>⟨cN,λp2 hp2=>?_⟩⟩;have s1:=ag hp1 (.tup [.int ((w:Int)+1),.bl false]);have s2:=ag hp2 (.tup [.ref p1]);have s12:=s1.trans s2;refine⟨c,p2,_,_,rfl,rfl,s12.gG hS,aY.of ae,?_,λt2 H' s' sD=>⟨_,rfl,cm,λp hp=>q _ _ ((s12.trans s').trans (ag hp _)) (jr hp ?_)⟩⟩
 ·rw[mz hD];exact TV (Nat.succ_le_succ hz) (by decide)
 ·refine qr sD ?_;rw[T4];exact(hD.same (s12.trans s')).append (aK.cons (F1 ((s2.trans s').gG (aY.of ae))) aK.nil)
def zp(x:W1):Prop:=∃n,x=.first n
abbrev gB:Stmt:=top 71
theorem dQ:av ["worker","known","wide","ends","order","most","unlike"] ["worker","known","wide","ends"] (ao gB):=fs
theorem zN(F:FA K mg "behind_first" gB)
  (EJ:bA bx P w K mg base 1 "least" ["most","many"] zk) :
  bA bx P w K mg base 2 "behind_first" ["worker","known","wide","ends"] (ip K zp):=by
 refine F.ok dQ λf cdv A outer s H vs Q E hr h=>?_;obtain⟨a,x,v,e,k,w,rfl,ha,ho,hs,hk,hz,hw,q⟩:=h;refine⟨_,(aq (d0 (pv 1) (bS rfl (ar (aM (i:=4) dQ.nd rfl (UH rfl)) (ar (aM (i:=5) dQ.nd rfl (UH rfl)) (ar (aM (i:=6) dQ.nd rfl (UH rfl)) bw)))))
   (ax (aW (aa (pv 4) (aa (aL EJ hr (aa (pv 5) (aa (aX K (pv 0) ai) ah))) (aa (pv 6) ah)))))),?_⟩
 obtain⟨b,t,rfl,hb,ht⟩:=oe hk;refine⟨_,rfl,b,_,rfl,hb,rfl,_,_,rfl,aj ⟨_,_,rfl,aj ⟨_,_,rfl,aj ⟨rfl,?_⟩⟩⟩⟩;dsimp only;obtain⟨n,rfl⟩:=ho;exact⟨_,rfl,_,rfl,_,rfl,a,_,1,_,rfl,rfl,aY.of (show H a=_ from ha),rfl,k.mo,n,rfl,_,rfl,cm,λp hp=>q _ _ (ag hp _) (jr (m:=some (wo k.mo n)) hp ht)⟩
def Hw(x:W1):Prop:=∃cs,x=.cut cs
abbrev iV:Stmt:=top 65
theorem dJ:av ["worker","known","wide","ends","order","most","unlike","all_there"] ["worker","known","wide","ends"] (ao iV):=fs
theorem Ga(B:j7 mg)(B2:tR mg)(F:FA K mg "behind_cut" iV)
  (lq:bA bx P w K mg base 1 "order_in" ["order","columns"] (HM K)) :
  bA bx P w K mg base 2 "behind_cut" ["worker","known","wide","ends"] (ip K Hw):=by
 refine F.ok dJ λf cdv A outer s H vs Q E hr h=>?_;have hu:=iH hr;obtain⟨a,x,v,e,k,w,rfl,ha,ho,hs,hk,hz,hw,q⟩:=h;refine⟨_,(aq (d0 (pv 1) (bS rfl (ar (aM (i:=4) dJ.nd rfl (UH rfl)) (ar (aM (i:=5) dJ.nd rfl (UH rfl)) (ar (aM (i:=6) dJ.nd rfl (UH rfl)) bw)))))
   (aq (bc (i:=7) dJ.nd rfl (UH rfl) (aN (iL rfl) rfl B2.all PyProof.Rows.boot_all (aa (bU (N':=["column","worker"]) (src:=[none,some 0]) rfl (bh.lJ (by kernel_rfl)) (sd rfl B.range (aa ai (aa (aQ cb (pv 2) ai) ah))) (λcl C s H fp=>(fX (i:=0))) (λcl C s H fp=>bp) (te:=(fQ (GP K false) (bF 0) (fQ (qo K) (bF 1) (tC (.int 1))))) (λcl C s H fp=>(km ez (i3 0) (aX K (ug 1) ai) rfl))) ah)))
   (ax (aW (aa (aL lq hr (aa (pv 4) (aa (aX K (pv 0) ai) ah))) (aa (pv 5) (aa (tX (pv 6) (nR (pv 7))) ah))))))),?_⟩
 obtain⟨b,t,rfl,hb,ht⟩:=oe hk;refine⟨_,rfl,b,_,rfl,hb,rfl,_,_,rfl,aj ⟨_,_,rfl,aj ⟨_,_,rfl,aj ⟨rfl,?_⟩⟩⟩⟩;dsimp only;obtain⟨cs,rfl⟩:=ho;obtain⟨t',h1,h2⟩:=ha;have hn:((w:Int)+1-1).toNat=w:=by omega
 refine⟨_,rfl,_,_,rfl,rfl,1,(w:Int)+1,rfl,⟨by decide,by decide,?_,?_⟩,λD hD=>?_⟩
 ·have e:((2:Int) ^ 62)=4611686018427387904:=by decide
  rw[e];omega
 ·have e:((2:Int) ^ 62)=4611686018427387904:=by decide
  rw[e];omega
 rw[hn];refine fc (lo:=1) (n:=w) (λi σ ys H'=>(∃o,σ=[o,some (.ref a)])/\ys=((List.range i).map λ(i:Nat)=>decide ((1:Int)+i∈cs)).map V.bl/\ys.length=i/\H' D=some (.lst ys)/\aG H H') ⟨⟨none,rfl⟩,rfl,rfl,ae,ag hD _⟩ ?_ ?_ ?_ ?_
 ·rintro i σ ys H' _ ⟨_,_,hi,h,_⟩;exact⟨h,UP hi⟩
 ·exact TV hw (by decide)
 ·rintro i σ ys H' _ ⟨⟨o,rfl⟩,rfl,hi,h,sm⟩;refine aj ?_;refine⟨_,rfl,_,rfl,a,_,1,_,rfl,rfl,aY.of (sm _ _ h1),rfl,t',_,rfl,.inr (aY.of (sm _ _ h2)),rfl,DP cs,h,⟨_,rfl⟩,?_,?_,ae,bo hD sm⟩
  ·rw[List.range_succ,T4,T4];show _++[V.bl (inV (.int (1+(i:Int))) (cs.map V.int))]=_;rw[Ol];rfl
  ·rw[T1,hi];rfl
 rintro σ ys H1 ⟨_,rfl,_,h,sm⟩;refine⟨D,_,rfl,bj.of h,aj ?_⟩;dsimp only;have ea:(List.map (λ(i:Nat)=>decide ((1:Int)+i∈cs)) (List.range w)).all id=allIn cs w:=by rw[List.all_map];rfl
 rw[ea];refine⟨_,rfl,_,rfl,a,_,1,_,rfl,rfl,aY.of (sm _ _ h1),rfl,t,t',k.od,cs,rfl,ht.same sm,sm _ _ h2,hz,λu H' s' hu'=>⟨_,rfl,?_⟩⟩;have fin:∀b,b=(k.un&&allIn cs w)->cm=cm->3<=sizeLine/\∀p,H' p=none->Q (.ref p) (upd H' p (.tup [u,mV k.mo,.bl b])):=λb hb _=>by subst hb;exact⟨cm,λp hp=>q _ _ ((sm.trans s').trans (ag hp _)) (jr hp hu')⟩
 refine⟨_,rfl,_,rfl,?_⟩;refine fw (λc=>?_) λc=>?_
 ·rw[c,Bool.true_and]at fin;exact⟨_,rfl,fin _ rfl rfl⟩
 ·rw[Uk.mpr c,Bool.false_and]at fin;exact fin _ rfl rfl
abbrev El:List Str:=["worker","known","wide","ends"]
def LR(P:Program)(w:World)(K:UX)(mg:Str->Option Value)(base:Heap)(aF:Addr)(x:W1):Prop :=
 (∃(f:Addr)(fd:FuncData),cz K aF x.nm f/\e7 P w K mg base bx 2 f fd El (ip K (λy=>y=x))/\PySem.W.keepIn K (.ref f)=true/\Binds K fd El [])\/(jd K aF x.nm/\∀k w,Nk x k w=k)
theorem DG{aF:Addr}{f1 f2 f3 f4 f5 f6 f7 f8:Addr}
  (t1:cz K aF "keep" f1) (RQ:cz K aF "same" f1) (t2:cz K aF "cut" f2) (t3:cz K aF "turn" f3) (R4:cz K aF "must" f3) (t4:cz K aF "sort" f4) (t5:cz K aF "apart" f5) (t6:cz K aF "count" f6) (SG:cz K aF "sum" f6) (t7:cz K aF "number" f7) (t8:cz K aF "first" f8) (u1:jd K aF "walk")
  (G1:FnAt P w K mg base 1 f1 El (ip K Dm)) (G2:FnAt P w K mg base 2 f2 El (ip K Hw)) (G3:FnAt P w K mg base 2 f3 El (ip K G9)) (G4:FnAt P w K mg base 2 f4 El (ip K sj))
  (G5:FnAt P w K mg base 1 f5 El (ip K yU)) (G6:FnAt P w K mg base 2 f6 El (ip K yz)) (G7:FnAt P w K mg base 1 f7 El (ip K u_)) (G8:FnAt P w K mg base 2 f8 El (ip K zp)):∀x,LR P w K mg base aF x:=by
 obtain⟨d1,G1,b1,k1⟩:=G1;obtain⟨d2,G2,b2,k2⟩:=G2;obtain⟨d3,G3,b3,k3⟩:=G3;obtain⟨d4,G4,b4,k4⟩:=G4;obtain⟨d5,G5,b5,k5⟩:=G5;obtain⟨d6,G6,b6,k6⟩:=G6;obtain⟨d7,G7,b7,k7⟩:=G7;obtain⟨d8,G8,b8,k8⟩:=G8;intro x;cases x with
 |keep c t=>exact .inl ⟨f1,d1,t1,(G1.imp (c9 λ_ e=>.inl ⟨c,t,e⟩)).mono (by omega),k1,b1⟩
 |same c d=>exact .inl ⟨f1,d1,RQ,(G1.imp (c9 λ_ e=>.inr ⟨c,d,e⟩)).mono (by omega),k1,b1⟩
 |cut cs=>exact .inl ⟨f2,d2,t2,G2.imp (c9 λ_ e=>⟨cs,e⟩),k2,b2⟩
 |turn c ps=>exact .inl ⟨f3,d3,t3,G3.imp (c9 λ_ e=>.inl ⟨c,ps,e⟩),k3,b3⟩
 |must c ps=>exact .inl ⟨f3,d3,R4,G3.imp (c9 λ_ e=>.inr ⟨c,ps,e⟩),k3,b3⟩
 |walk c mv=>exact .inr ⟨u1,λ_ _=>rfl⟩
 |sort cs=>exact .inl ⟨f4,d4,t4,G4.imp (c9 λ_ e=>⟨cs,e⟩),k4,b4⟩
 |apart=>exact .inl ⟨f5,d5,t5,(G5.imp (c9 λ_ e=>e)).mono (by omega),k5,b5⟩
 |count cs=>exact .inl ⟨f6,d6,t6,G6.imp (c9 λ_ e=>.inl ⟨cs,e⟩),k6,b6⟩
 |sum cs c=>exact .inl ⟨f6,d6,SG,G6.imp (c9 λ_ e=>.inr ⟨cs,c,e⟩),k6,b6⟩
 |number=>exact .inl ⟨f7,d7,t7,(G7.imp (c9 λ_ e=>e)).mono (by omega),k7,b7⟩
 |first n=>exact .inl ⟨f8,d8,t8,G8.imp (c9 λ_ e=>⟨n,e⟩),k8,b8⟩
abbrev gJ:Stmt:=top 75
theorem jk:av ["worker","known","wide","ends","behind"] ["worker","known","wide","ends"] (ao gJ):=fs
theorem AI{aF:Addr}(mF:mg "FACTS_BEHIND"=some (.ref aF))(GF:∀x:W1,LR P w K mg base aF x)(F:FA K mg "facts_behind" gJ) :
  bA bx P w K mg base 3 "facts_behind" ["worker","known","wide","ends"] (ip K (λ_=>True)):=by
 refine F.ok jk λf cdv A outer s H vs Q E hr h=>?_;obtain⟨a,x,v,e,k,w,rfl,ha,ho,hs,hk,hz,hw,q⟩:=h;refine⟨_,(bu (fR nE (aX K (pv 0) ai) (cu rfl mF (show RelV (.ref aF) (.ref aF) from rfl)) rfl) (pv 1)
   (aq (bc (i:=4) jk.nd rfl (UH rfl) (iE (r:=DA K) me (cu rfl mF (show RelV (.ref aF) (.ref aF) from rfl)) (aX K (pv 0) ai) (λ_ _=>rfl)))
   (ax (mK (k:=2) (pv 4) hr rG (aa (pv 0) (aa (pv 1) (aa (pv 2) (aa (pv 3) ah)))))))),?_⟩
 obtain⟨xs,h1⟩:=ha.first;refine⟨_,rfl,a,_,0,_,rfl,rfl,aY.of h1,aP (j:=0) rfl,aF,x.nm,rfl,rfl,?_⟩;rcases GF x with⟨g,gd,Ef,FG,kG,bG⟩|⟨hno,he⟩
 ·refine .inl ⟨⟨g,Ef⟩,_,rfl,cV (bD ?_)⟩;refine⟨_,rfl,a,_,0,_,rfl,rfl,aY.of h1,aP (j:=0) rfl,aF,x.nm,g,rfl,rfl,Ef,aj ?_⟩;dsimp only;exact⟨_,rfl,g,gd,_,_,rfl,FG,kG,bG,_,rfl,_,rfl,_,rfl,_,rfl,a,x,v,e,k,w,rfl,ha,rfl,hs,hk,hz,hw,q⟩
 ·refine .inr ⟨hno,_,rfl,dX ⟨_,rfl,?_⟩⟩;have q:=q v H (aG.refl _);rw[he]at q;exact q hk
def MD:Kf:=⟨[],none,false⟩
def BX(hw:Nat->Nat)(xs:List W1):Nat->Kf
 | 0=>MD
 |i+1=>match xs[i]? with
  |some x=>Nk x (BX hw xs i) (hw i)
  |none=>BX hw xs i
def jE:W1->Prop
 | .sort o=>o.length<=12
 |_=>True
theorem nJ(o:Od)(cs:List Int):(nV o cs).length<=o.length:=by rw[nV,TZ];exact(List.takeWhile_prefix _).length_le
theorem Fs{x:W1}{k:Kf}{w:Nat}(h:jE x):(Nk x k w).od.length<=k.od.length+13:=by
 cases x with
 |cut cs=>exact Nat.le_add_right_of_le (nJ _ _)
 |count cs=>exact Nat.le_add_right_of_le (nJ _ _)
 |sum cs c=>exact Nat.le_add_right_of_le (nJ _ _)
 |turn c ps=>exact Nat.le_add_right_of_le (List.takeWhile_prefix _).length_le
 |must c ps=>exact Nat.le_add_right_of_le (List.takeWhile_prefix _).length_le
 |sort o =>show(o++_).length<=_;rw[T1];have:=List.length_filter_le (λe=>decide (e.1∉o.map λe=>e.1)) k.od;have h:o.length<=12:=h;omega
 |number=>show(k.od++[_]).length<=_;rw[T1];exact Nat.add_le_add_left (show 1<=13 by decide) _
 |_=>exact Nat.le_add_right _ _
theorem yk{hw:Nat->Nat}{xs:List W1}(h:∀x∈xs,jE x):∀i,(BX hw xs i).od.length<=13*i
 | 0=>TU _
 |i+1=>by
  have ih:=yk (hw:=hw) h i;rw[BX];cases e:xs[i]? with
  |none=>exact TV ih (Nat.mul_le_mul_left _ (Nat.le_succ _))
  |some x=>exact TV (Fs (h x (Ub e))) (by omega)
theorem gM.ks{K:UX}{fd:Addr}{H H':Hp}{kvs:List (List cO×V)}(g:gM fd H H')(h:H fd=some (.dT kvs)):KS K H H':=λa ys q=>by
 rcases q with(q|⟨ob,q⟩)|q
 ·exact .inl (.inl (g _ _ (λz=>by rw[z,h]at q;cases q) q))
 ·exact .inl (.inr ⟨ob,g _ _ (λz=>by rw[z,h]at q;cases q) q⟩)
 ·exact .inr q
abbrev Kh:=List (List cO×V)
theorem ve{kvs:Kh}{k:List cO}{v:V}:(putK kvs k v).length<=kvs.length+1:=by
 unfold putK;split
 ·rw[TZ];omega
 ·rw[T1];simp
def kI(pi:List Int):List cO:=pi.map λi=>some (.inl i)
theorem LC(pi:List Int):(kI pi).map oV=pi.map V.int:=by rw[kI,List.map_map];rfl
theorem DV{p q:List Int}(h:kI p=kI q):p=q:=by unfold kI at h;exact(List.map_inj_right (λa b e=>by injection e with e;injection e)).mp h
def Nz(H:Hp)(a:Addr)(hw:Nat->Nat)(n:Nat):Prop:=∃kvs:Kh,H a=some (.dT kvs)/\∀i,i<n->∃hh h,fW kvs (kI [(i:Int)])=some (.ref hh)/\gD H hh h/\h.length=hw i
structure OO(K:UX)(H:Hp)(p:Addr)(b:V)(pl hd fd:Addr)(xs:List W1)(hw:Nat->Nat):Prop where
 pp:∃bs,bE du H p bs xs
 kn:aV K H (dF MD) b
 pl:H pl=some (.tup [])
 hs:Nz H hd hw xs.length
 fd:H fd=some (.dT [])
 sm:∀x∈xs,iq x/\jE x
 few:xs.length<=50
 wz:∀i,i<xs.length->hw i<=1000
def j9(K:UX)(H:Hp)(fd:Addr)(hw:Nat->Nat)(xs:List W1)(n:Nat):Prop:=∃kv:Kh,H fd=some (.dT kv)/\kv.length<=n/\∀i,i<n->∃v,fW kv (kI [(i:Int)])=some v/\aV K H (dF (BX hw xs i)) v
def HE(K:UX):Sp:=λvs H Q _=>∃(p:Addr)(b:V)(pl hd fd:Addr)(xs:List W1)(hw:Nat->Nat),vs=[.ref p,b,.ref pl,.ref hd,.ref fd]/\OO K H p b pl hd fd xs hw/\
 ∀u H',gM fd H H'->j9 K H' fd hw xs (xs.length+1)->Q u H'
def MC:Sp:=λ_ _ _ _=>False
theorem j9.put{K:UX}{H H':Hp}{fd:Addr}{hw:Nat->Nat}{xs:List W1}{n:Nat}{kv:Kh}{v:V}(k:KS K H (upd H' fd (.dT (putK kv (kI [(n:Int)]) v))))(h:kv.length<=n/\∀i,i<n->∃v,fW kv (kI [(i:Int)])=some v/\aV K H (dF (BX hw xs i)) v)(hv:aV K H (dF (BX hw xs n)) v) :
  j9 K (upd H' fd (.dT (putK kv (kI [(n:Int)]) v))) fd hw xs (n+1):=by
 refine⟨_,ae,TV ve (Nat.succ_le_succ h.1),λi hi=>?_⟩;by_cases e:i=n
 ·subst e;exact⟨v,by rw[l5,UE rfl],hv.cE k (BR _)⟩
 ·obtain⟨v',e1,e2⟩:=h.2 i (by omega);refine⟨v',?_,e2.cE k (BR _)⟩;rw[l5,UD λz=>e (by have:=DV z;injection this with z;omega)];exact e1
abbrev mh:Stmt:=top 76
theorem c5:av ["pipe","begun","prefix","heads","found","known","at","worker","place","ends","side","branch"] ["pipe","begun","prefix","heads","found"] (ao mh):=fs
theorem zG(B:j7 mg)(mE:mg "enumerate"=none)(F:FA K mg "follow" mh)
  (dN:bA bx P w K mg base 1 "branches_of" ["worker"] (yv 0))
  (qy:bA bx P w K mg base 3 "follow" ["pipe","begun","prefix","heads","found"] MC)
  (pd:bA bx P w K mg base 3 "facts_behind" ["worker","known","wide","ends"] (ip K (λ_=>True))) :
  bA bx P w K mg base 4 "follow" ["pipe","begun","prefix","heads","found"] (HE K):=by
 refine F.ok c5 λf cdv A outer s H vs Q E hr h=>?_;have hu:=iH hr;have hu1:=kS hr;obtain⟨p,b,pl,hd,fd,xs,hw,rfl,hI,q⟩:=h;refine⟨_,(aq (bc (i:=5) c5.nd rfl (UH rfl) (pv 1))
   (aq (fj PassesOwn.never rfl (mr rfl mE (aa (pv 0) ah)) (bS rfl (ar (aM (i:=6) c5.nd rfl (UH rfl)) (ar (aM (i:=7) c5.nd rfl (UH rfl)) bw)))
    (aq (bc (i:=8) c5.nd rfl (UH rfl) (aQ cq (pv 2) (aW (aa (pv 6) ah))))
     (aq (yr hu1 (pv 4) (pv 8) (pv 5) rfl)
     (aq (bc (i:=9) c5.nd rfl (UH rfl) (bZ ah))
     (aq (fj PassesOwn.never rfl (mr rfl mE (aa (aL dN hr (aa (pv 7) ah)) ah)) (bS rfl (ar (aM (i:=10) c5.nd rfl (UH rfl)) (ar (aM (i:=11) c5.nd rfl (UH rfl)) bw)))
      (b_ (c7 (jU PySem.F.plainAttrs_list PySem.F.slot_list_append PySem.F.type_list_append cw (pv 9) (aa (aL qy hr (aa (pv 11) (aa (pv 5) (aa (aQ cq (pv 8) (aW (aa (pv 10) ah))) (aa (pv 3) (aa (pv 4) ah)))))) ah)))))
     (b_ (bc (i:=5) c5.nd rfl (UH rfl) (aL pd hr (aa (pv 7) (aa (pv 5) (aa (aN aU rfl B.len UU (aa (yl hu1 (pv 3) (pv 8) (λ_ _=>rfl)) ah)) (aa (pv 9) ah))))))))))))
   (aq (yr hu1 (pv 4) (aQ cq (pv 2) (aW (aa (aN aU rfl B.len UU (aa (pv 0) ah)) ah))) (pv 5) rfl)
   (ax (pv 5))))),?_⟩
 obtain⟨⟨bs,hP⟩,hk,hpl,hH,hfd,hsm,hfew,Lk⟩:=hI;have hlb:(bs.map V.ref).length=xs.length:=by rw[TZ,hP.len]
 refine⟨_,rfl,aj ?_⟩;dsimp only;refine⟨_,rfl,p,rfl,⟨_,aY.of hP.tup⟩,?_⟩;refine kE (xs:=bs.map V.ref) (λi σ H'=>∃(v:V)(o6 o7 o8 o9 qY lF:Option V),σ=[some (.ref p),some b,some (.ref pl),some (.ref hd),some (.ref fd),some v,o6,o7,o8,o9,qY,lF]/\aV K H' (dF (BX hw xs i)) v/\gM fd H H'/\j9 K H' fd hw xs i)
  ⟨b,none,none,none,none,none,none,rfl,hk,gM.of (aG.refl _),[],hfd,TU _,λi hi=>UC hi (Nat.not_lt_zero _)⟩ ?_ ?_ ?_
 ·rintro i σ H' _ ⟨v,o6,o7,o8,o9,qY,lF,rfl,_,g,_⟩;exact(g.ks hfd) _ _ (aY.of hP.tup)
 ·rintro i y σ H' T hx ⟨v,o6,o7,o8,o9,qY,lF,rfl,hv,g,kv,wL,hkl,hkv⟩ hT;obtain⟨a,x,rfl,ex,ha⟩:=hP.get hx;have hi:i<xs.length:=(Ug.mp ex).1;have kT:aJ H H':=λa ys e=>g _ _ (λz=>by rw[z,hfd]at e;cases e) e;have sT:=ag hT (.tup [.int (i:Nat),.ref a]);refine⟨T,_,rfl,aY.of ae,rfl,_,_,rfl,aj ⟨_,_,rfl,aj ⟨rfl,?_⟩⟩⟩;dsimp only;refine⟨_,rfl,_,rfl,cN,λu1 sf=>?_⟩;have sU:=ag sf (.tup [.int (i:Nat)]);refine⟨pl,u1,_,_,rfl,rfl,sU _ _ (sT _ _ (kT _ _ hpl)),ae,cN,λu2 H2 IU hu2=>aj ?_⟩;have s2:=sT.trans (sU.trans IU);dsimp only;have hu2:H2 u2=some (.tup ((kI [(i:Int)]).map oV)):=hu2;refine⟨_,rfl,_,rfl,_,rfl,fd,_,rfl,Ad.t (k:=kI [(i:Int)]) (s2 _ _ wL) hu2 (T8 (show kv.length<=50 by omega) (by decide)),?_⟩;have g4:gM fd H' (upd H2 fd (.dT (putK kv (kI [(i:Int)]) v))):=(gM.of s2).put;have NU:j9 K (upd H2 fd (.dT (putK kv (kI [(i:Int)]) v))) fd hw xs (i+1):=j9.put (g4.ks wL) ⟨hkl,hkv⟩ hv;have OL:=hv.cE (g4.ks wL) (BR _);have rL:upd H2 fd (.dT (putK kv (kI [(i:Int)]) v)) u2=some (.tup ((kI [(i:Int)]).map oV)):=by rw[aI λz=>by have:=s2 _ _ wL;rw[←z,hu2]at this;cases this];exact hu2
  have k4:aJ H (upd H2 fd (.dT (putK kv (kI [(i:Int)]) v))):=λb' ys e=>(g.trans g4) _ _ (λz=>by rw[z,hfd]at e;cases e) e;have Jw:=g.trans g4;revert NU OL rL k4 Jw;generalize upd H2 fd (.dT (putK kv (kI [(i:Int)]) v))=H4;intro NU OL rL k4 Jw;dsimp only;refine⟨Uo _,λL hL=>aj ?_⟩;dsimp only;have sL:=ag hL (.lst []);refine⟨_,rfl,a,.one x,rfl,(ha.keep k4).keep (aJ.of sL),λt QK H5 s5 Eh=>⟨t,rfl,⟨_,aY.of Eh.tup⟩,?_⟩⟩;have e2:QK=[]:=List.eq_nil_of_length_eq_zero Eh.len;subst e2;refine kE (xs:=[]) (λ_ σ H'=>σ=[some (.ref p),some b,some (.ref pl),some (.ref hd),some (.ref fd),some v,some (.int (i:Nat)),some (.ref a),some (.ref u2),some (.ref L),qY,lF]/\H5=H') ⟨rfl,rfl⟩ ?_ ?_ ?_
  ·rintro _ σ H' _ ⟨_,rfl⟩;exact aY.of Eh.tup
  ·intro i y σ H' T hy;cases hy
  rintro σ H' ⟨rfl,rfl⟩;have Kk:=sL.trans s5;have PK:=Jw.trans (gM.of Kk);have PV:aJ H H5:=k4.trans (aJ.of Kk);dsimp only;obtain⟨kvs,hh1,QU⟩:=hH;obtain⟨hh,h,e1,e3,e4⟩:=QU i hi;have Q8:hd≠fd:=λz=>by rw[z,hfd]at hh1;cases hh1;cases e1
  refine⟨_,rfl,_,rfl,_,rfl,_,rfl,hd,_,rfl,?_,hh,_,rfl,.inr (aY.of (PV _ _ e3)),_,rfl,a,x,v,.ref L,BX hw xs i,h.length,?_,ha.keep PV,trivial,(hsm x (Ub ex)).1,OL.same Kk,?_,?_,λu H6 s6 MA=>aj ?_⟩
  ·rw[←e1];exact yf.t (PK _ _ Q8 hh1) (Kk _ _ rL)
  ·rw[TZ];rfl
  ·exact TV (yk (λx hx=>(hsm x hx).2) i) (by omega)
  ·rw[e4];exact Lk i hi
  refine⟨u,_,_,_,_,_,_,rfl,?_,PK.trans (gM.of s6),?_⟩
  ·rw[BX,ex,←e4];exact MA
  ·obtain⟨RU,f1,f2,f3⟩:=NU;exact⟨RU,(Kk.trans s6) _ _ f1,f2,λj hj=>let ⟨v,z1,z2⟩:=f3 j hj;⟨v,z1,z2.same (Kk.trans s6)⟩⟩
 ·rintro σ H' ⟨v,o6,o7,o8,o9,qY,lF,rfl,hv,g,kv,wL,hkl,hkv⟩;rw[hlb]at hv hkl hkv;have kT:aJ H H':=λa ys e=>g _ _ (λz=>by rw[z,hfd]at e;cases e) e;dsimp only;refine⟨_,rfl,_,rfl,_,rfl,_,rfl,p,_,rfl,.inr (aY.of (kT _ _ hP.tup)),cN,λu1 sf=>?_⟩;have sU:=ag sf (.tup [.int ((bs.map V.ref).length:Nat)]);refine⟨pl,u1,_,_,rfl,rfl,sU _ _ (kT _ _ hpl),ae,cN,λu2 H2 IU hu2=>?_⟩;have s2:=sU.trans IU;have hu2:H2 u2=some (.tup ((kI [((bs.map V.ref).length:Int)]).map oV)):=hu2;rw[hlb]at hu2;have g4:gM fd H' (upd H2 fd (.dT (putK kv (kI [(xs.length:Int)]) v))):=(gM.of s2).put;refine⟨fd,_,rfl,Ad.t (k:=kI [(xs.length:Int)]) (s2 _ _ wL) hu2 (T8 (show kv.length<=50 by omega) (by decide)),_,rfl,q _ _ (g.trans g4) (j9.put (g4.ks wL) ⟨hkl,hkv⟩ hv)⟩
theorem xi{K:UX}{a D:Addr}{xs:List V}{g:TG}{tc:TT}{tk tv:TE}{Q:VK}{rV:St}{H0:Hp}(Pv:Nat->St->Kh->Hp->Prop)(h0:Pv 0 rV [] H0)(hD:∀i σ ys H,i<=xs.length->Pv i σ ys H->H D=some (.dT ys)/\ys.length<=i)(hl:∀i σ ys H,i<=xs.length->Pv i σ ys H->bj K H a xs)(hz:xs.length<=sizeLine)
  (hs:∀i x σ ys H,xs[i]? = some x->Pv i σ ys H->g x σ H λcD H2=>tc cD H2 λb H3=>if b=true then tk cD H3 λy H4=>tv cD H4 λv H5=>∃b k,y=.ref b/\H5 b=some (.tup (k.map oV))/\H5 D=some (.dT ys)/\Pv (i+1) cD (putK ys k v) (upd H5 D (.dT (putK ys k v)))else Pv (i+1) cD ys H3)
  (hd:∀σ ys H,Pv xs.length σ ys H->Q (.ref D) H):∃W:Nat->Nat->St->Kh->Hp->Prop,(∃m,W 0 m rV [] H0)/\xV (Gy K a) g tc tk tv D Q W:=by
 refine⟨λi m σ ys H=>m=xs.length-i/\i<=xs.length/\Pv i σ ys H,⟨xs.length,by simp,Uo _,h0⟩,?_⟩;rintro i m σ ys H ⟨rfl,hi,p⟩;have q:=hl i σ ys H hi p;refine⟨(hD i σ ys H hi p).1,?_⟩;by_cases hlt:i<xs.length
 ·refine .inr ⟨⟨xs,xs[i],q,by simp[hlt]⟩,T8 (hD i σ ys H hi p).2 (T9 hlt hz),Pv (i+1),λσ' ys' H' p'=>⟨xs.length-(i+1),by omega,rfl,hlt,p'⟩,λx H' y=>?_⟩;obtain⟨e,y⟩:=y;subst e;exact hs i x σ ys _ (y xs q) p
 ·have e:i=xs.length:=by omega
  subst e;exact .inl ⟨⟨xs,q,TU _⟩,hd σ ys H p⟩
def Ej(t:Tr)(i:Nat):Nat:=((t[i]?).map λe=>e.2.1.length).getD 0
def y_(t:Tr)(n:Nat):Prop:=t.length=n+1/\∀j,j<=n->∃h l,t[j]? = some ([(j:Int)],h,l)
def E6(K:UX)(aA a1:Addr):Prop:=(∀H,aY K H aA [.ref a1,.non,.bl false])/\∀H,aY K H a1 []
theorem E6.at{K:UX}{aA a1:Addr}{H:Hp}(h:E6 K aA a1):aV K H (dF MD) (.ref aA):=IC (m:=none) (h.1 H) (qr (h.2 H) aK.nil)
def Lu(K:UX):Sp:=λvs H Q _=>∃(p l:Addr)(xs:List W1)(as:List Addr)(t:Tr),vs=[.ref p,.ref l]/\(∃bs,bE du H p bs xs)/\H l=some (.lst (as.map V.ref))/\iO H as t/\y_ t xs.length/\
 (∀x∈xs,iq x/\jE x)/\xs.length<=50/\(∀i,i<xs.length->Ej t i<=1000)/\∀(fd:Addr) H',aG H H'->j9 K H' fd (Ej t) xs (xs.length+1)->Q (.ref fd) H'
abbrev jM:Stmt:=top 77
theorem l7:av ["pipe","seen","found"] ["pipe","seen"] (ao jM):=fs
theorem Fp{aA a1:Addr}(mA:mg "AT_FIRST"=some (.ref aA))(cA:E6 K aA a1)(F:FA K mg "all_facts" jM)
  (qy:bA bx P w K mg base 4 "follow" ["pipe","begun","prefix","heads","found"] (HE K)) :
  bA bx P w K mg base 5 "all_facts" ["pipe","seen"] (Lu K):=by
 refine F.ok l7 λf cdv A outer s H vs Q E hr h=>?_;have hu:=iH hr;have hu1:=kS hr;obtain⟨p,l,xs,as,t,rfl,hP,hl,hT,h1,hsm,hfew,Lk,q⟩:=h;refine⟨_,(aq (bc (i:=2) l7.nd rfl (UH rfl) D_)
   (aq (c7 (aL qy hr (aa (pv 0) (aa (cu rfl mA (show RelV (.ref aA) (.ref aA) from rfl)) (aa (aW ah) (aa (Bz (N':=["place","head","loose"]) (src:=[none,none,none]) rfl (bh.lJ (by kernel_rfl)) (eU (pv 1)) (g:=(oJ K 3 (cI (bW 0) (cI (bW 1) (cI (bW 2) oH))))) (λcl C s H fp=>(bS rfl (ar (fX (i:=0)) (ar (fX (i:=1)) (ar (fX (i:=2)) bw))))) (λcl C s H fp=>bp) (tk:=(bF 0)) (λcl C s H fp=>(i3 0)) (tv:=(bF 1)) (λcl C s H fp=>(i3 1)) (T8 (Nat.le_add_right _ 8) hu)) (aa (pv 2) ah)))))))
   (ax (pv 2)))),?_⟩
 have hla:(as.map V.ref).length=t.length:=by rw[TZ,hT.len]
 refine λF hF=>aj ?_;dsimp only;have s0:=ag hF (.dT []);have J5:upd H F (.dT []) F=some (.dT []):=ae;revert s0 J5;generalize upd H F (.dT [])=H0;intro s0 J5;refine⟨_,rfl,m_,λu hu'=>?_⟩;have s1:=ag hu' (.tup []);have hu1:upd H0 u (.tup []) u=some (.tup []):=ae;revert s1 hu1;generalize upd H0 u (.tup [])=H1;intro s1 hu1;have Mb:=s0.trans s1;refine⟨_,rfl,l,rfl,⟨_,bj.of (Mb _ _ hl)⟩,λD hD=>?_⟩;refine xi (xs:=as.map V.ref) (λi σ ys H'=>(∃o1 o2 o3,σ=[o1,o2,o3])/\H' D=some (.dT ys)/\ys.length<=i/\aG H1 H'/\∀j,j<i->∀e,t[j]? = some e->j<t.length->∃hh,fW ys (kI [(j:Int)])=some (.ref hh)/\gD H1 hh e.2.1) ⟨⟨none,none,none,rfl⟩,ae,TU _,ag hD _,λj hj=>UC hj (Nat.not_lt_zero _)⟩ ?_ ?_ ?_ ?_ ?_
 ·rintro i σ ys H' _ ⟨_,h,hz,_⟩;exact⟨h,hz⟩
 ·rintro i σ ys H' _ ⟨_,_,_,sm,_⟩;exact bj.of (sm _ _ (Mb _ _ hl))
 ·rw[hla,h1.1];exact TV (Nat.succ_le_succ hfew) (by decide)
 ·rintro i v σ ys H' hv ⟨⟨o1,o2,o3,rfl⟩,hd,hz,sm,hj⟩;have hi:i<t.length:=by rw[←hla];exact(Ug.mp hv).1
  rw[Us]at hv;cases ea:as[i]? with
  |none=>rw[ea]at hv;cases hv
  |some a =>
   rw[ea]at hv;have hv':V.ref a=v:=Up hv;subst hv';have et:t[i]? = some t[i]:=T_ hi;obtain⟨c,hh,z1,z2,z3⟩:=hT.at_ i a _ ea et;obtain⟨h',l',e3⟩:=h1.2 i (by have:=h1.1;omega);have e4:t[i].1=[(i:Int)]:=by rw[et]at e3;rw[Up e3]
   have s2:=Mb.trans sm;refine⟨a,_,rfl,aY.of (s2 _ _ z1),rfl,_,_,rfl,aj ⟨_,_,rfl,aj ⟨_,_,rfl,aj ⟨rfl,?_⟩⟩⟩⟩;refine⟨_,rfl,_,rfl,c,kI [(i:Int)],rfl,by rw[LC,←e4];exact s2 _ _ z2,hd,⟨_,_,_,rfl⟩,ae,TV ve (Nat.succ_le_succ hz),bo hD sm,λj hj' e e5 hjt=>?_⟩;by_cases ej:j=i
   ·subst ej;rw[et]at e5;cases e5;exact⟨hh,by rw[l5,UE rfl],Mb _ _ z3⟩
   ·obtain⟨hh',y1,y2⟩:=hj j (by omega) e e5 hjt;refine⟨hh',?_,y2⟩;rw[l5,UD λz=>ej (by have:=DV z;injection this with z;omega)];exact y1
 rintro σ ys H2 ⟨_,hd,hz,s12,hj⟩;have OW:=Mb.trans s12;rw[hla]at hj;refine⟨_,rfl,p,_,u,D,F,xs,Ej t,rfl,⟨?_,cA.at,s12 _ _ hu1,⟨ys,hd,λi hi=>?_⟩,(s1.trans s12) _ _ J5,hsm,hfew,Lk⟩,λw' H3 g3 hK=>⟨_,rfl,q F H3 (lQ hF OW g3) hK⟩⟩
 ·obtain⟨bs,hP⟩:=hP;exact⟨bs,hP.keep (aJ.of OW) λ_ _ z=>z.keep (aJ.of OW)⟩
 ·have hit:i<t.length:=by rw[h1.1];omega
  have et:t[i]? = some t[i]:=T_ hit;obtain⟨hh,y1,y2⟩:=hj i hit _ et hit;exact⟨hh,_,y1,s12 _ _ y2,by rw[Ej,et];rfl⟩
structure qt(K:UX)(H:Hp)(l:Addr)(us:List V)(ss:Hd):Prop where
 lst:H l=some (.lst us)
 len:us.length=ss.length
 at_:∀(i:Nat) v s,us[i]? = some v->ss[i]? = some s->∃a r,v=.ref a/\aY K H a (.str s::r)
theorem qt.same{K:UX}{H H':Hp}{l:Addr}{us:List V}{ss:Hd}(s:aG H H')(h:qt K H l us ss):qt K H' l us ss:=⟨s _ _ h.lst,h.len,λi a x e1 e2=>let ⟨a,r,z1,z2⟩:=h.at_ i a x e1 e2;⟨a,r,z1,s.gG z2⟩⟩
theorem qt.get{K:UX}{H:Hp}{l:Addr}{us:List V}{ss:Hd}(h:qt K H l us ss){i:Nat}{v:V}(hv:us[i]? = some v):∃a s r,v=.ref a/\ss[i]? = some s/\aY K H a (.str s::r):=by
 have hi:i<ss.length:=by rw[←h.len];exact(Ug.mp hv).1
 have es:ss[i]? = some ss[i]:=T_ hi;obtain⟨a,r,z1,z2⟩:=h.at_ i v _ hv es;exact⟨a,_,r,z1,es,z2⟩
def K6(K:UX):Sp:=λvs H Q _=>∃(l:Addr)(us:List V)(ss:Hd),vs=[.ref l]/\qt K H l us ss/\ss.length<=1000/\∀(u:Addr) H',aG H H'->gD H' u ss->Q (.ref u) H'
abbrev mX:Stmt:=top 57
theorem xQ:av ["kind"] ["kind"] (ao mX):=fs
theorem Ar(B:j7 mg)(F:FA K mg "head_of" mX) :
  bA bx P w K mg base 1 "head_of" ["kind"] (K6 K):=by
 refine F.ok xQ λf cdv A outer s H vs Q E hr h=>?_;have hu:=iH hr;obtain⟨l,us,ss,rfl,hK,hz,q⟩:=h;refine⟨_,(ax (bN bt rfl B.tuple UL (aa (bU (N':=["told"]) (src:=[none]) rfl (bh.lJ (by kernel_rfl)) (eU (pv 0)) (λcl C s H fp=>(fX (i:=0))) (λcl C s H fp=>bp) (te:=(fQ (qo K) (bF 0) (tC (.int 0)))) (λcl C s H fp=>(aX K (i3 0) ai))) ah))),?_⟩;have hl:us.length=ss.length:=hK.len;refine⟨_,rfl,l,rfl,⟨_,bj.of hK.lst⟩,λD hD=>?_⟩;refine fe (xs:=us) (λi σ ys H'=>(∃o1,σ=[o1])/\ys=(ss.take i).map V.str/\ys.length=i/\H' D=some (.lst ys)/\aG H H') ⟨⟨none,rfl⟩,rfl,rfl,ae,ag hD _⟩ ?_ ?_ ?_ ?_ ?_
 ·rintro i σ ys H' _ ⟨_,_,hi,h,_⟩;exact⟨h,UP hi⟩
 ·rintro i σ ys H' _ ⟨_,_,_,_,sm⟩;exact bj.of (sm _ _ hK.lst)
 ·rw[hl];exact TV hz (by decide)
 ·rintro i x σ ys H' hx ⟨⟨o1,rfl⟩,rfl,hi,h,sm⟩;obtain⟨b,s',r,rfl,es,hb⟩:=hK.get hx;refine aj ?_;refine⟨_,rfl,b,_,0,_,rfl,rfl,sm.gG hb,aP (j:=0) rfl,h,⟨_,rfl⟩,?_,?_,ae,bo hD sm⟩
  ·rw[take_one es,T4];rfl
  ·rw[T1,hi];rfl
 rintro σ ys H' ⟨_,rfl,_,h,sm⟩;rw[hl,UI]at h;exact⟨D,_,rfl,.inl ⟨bj.of h,λu hu=>q u _ (sm.trans (ag hu _)) ae⟩⟩
theorem yi{n:Nat}{h:Hd}{f:Fl}{pl:List Int}{x:W1}:GD n h f pl (.one x)=[]:=by cases n<;>rfl
theorem yw{n:Nat}{pl:List Int}:∀{xs:List W1}{i:Nat}{h h':Hd}{f f':Fl},putL (bV n) pl i h f (xs.map .one)=.ok h' f'->(TL n pl i h f (xs.map .one)).length=xs.length+1/\∀j,j<=xs.length->∃hh l,(TL n pl i h f (xs.map .one))[j]? = some (pl++[((i+j:Nat):Int)],hh,l)
 |[],i,h,h',f,f',e=>⟨rfl,λj hj=>by have:j=0:=Nat.le_zero.mp hj;subst this;exact⟨h,f.l,rfl⟩⟩
 |x::xs,i,h,h',f,f',e=>by
  have e:eT (bV n h f (pl++[(i:Int)]) (.one x)) (λh' f'=>putL (bV n) pl (i+1) h' f' (xs.map .one))=.ok h' f':=e;rw[UR,tO,yi,List.nil_append];cases ep:bV n h f (pl++[(i:Int)]) (.one x)with
  |no a s=>rw[ep]at e;cases e
  |ok h2 f2 =>
   rw[ep]at e;obtain⟨l1,l2⟩:=yw (xs:=xs) (i:=i+1) (h:=h2) (f:=f2) e;refine⟨congrArg (· + 1) l1,λj hj=>?_⟩;cases j with
   |zero=>exact⟨h,f.l,rfl⟩
   |succ j =>obtain⟨hh,l,e3⟩:=l2 j (Nat.le_of_succ_le_succ hj);exact⟨hh,l,by rw[List.getElem?_cons_succ];rw[show i+(j+1)=i+1+j by omega];exact e3⟩
theorem tN{n:Nat}{h h':Hd}{f':Fl}{xs:List W1}(e:kH n h (xs.map .one)=.ok h' f'):y_ (TL n [] 0 h f0 (xs.map .one)) xs.length:=by obtain⟨h1,h2⟩:=yw e;exact⟨h1,λj hj=>by obtain⟨hh,l,z⟩:=h2 j hj;exact⟨hh,l,by rw[z,Nat.zero_add];rfl⟩⟩
def OJ(K:UX)(H:Hp)(n:Nat)(ss:Hd)(ws:List Wk)(pi:List Int)(Q:VK):Prop:=∃(xs:List W1)(i:Nat),ws=xs.map .one/\pi=[(i:Int)]/\i<=xs.length/\(∀x∈xs,iq x/\jE x)/\(∀i,i<xs.length->Ej (TL n [] 0 ss f0 ws) i<=1000)/\∀u H',aG H H'->aV K H' (dF (BX (Ej (TL n [] 0 ss f0 ws)) xs i)) u->Q u H'
def EE(K:UX)(C CP:Addr)(n:Nat):Sp:=λvs H Q E=>∃(l p pa:Addr)(us:List V)(ss:Hd)(ws:List Wk)(pi:List Int),vs=[.ref l,.ref p,.ref pa]/\qt K H l us ss/\ss.length<=6/\l_ n H p ws/\uf n ws/\H pa=some (.tup (pi.map V.int))/\2*n<=100/\bnd n<=100000/\
 (∀x s,kH n ss ws=.no x s->Qb C H x s E)/\
 (∀h f,kH n ss ws=.ok h f->(seek (TL n [] 0 ss f0 ws) pi=none->∀(e:Addr)(H':Hp),aG H H'->H' e=some (xO e CP none)->E (.ref CP) (some e) H')/\∀b,seek (TL n [] 0 ss f0 ws) pi=some b->OJ K H n ss ws pi Q)
abbrev lK:Stmt:=top 78
theorem om:av ["kind","pipe","place","seen"] ["kind","pipe","place"] (ao lK):=fs
theorem xl{C CP:Addr}{n L:Nat}(F:FA K mg "facts_at" lK)
  (A0:bA bx P w K mg base 1 "head_of" ["kind"] (K6 K))
  (Dk:bA (vc P w) P w K mg base (L+7) "survey" ["head","pipe"] (Cd C n))
  (zu:bA (vc P w) P w K mg base 1 "look_up" ["seen","place"] (Cn CP))
  (uJ:bA bx P w K mg base 5 "all_facts" ["pipe","seen"] (Lu K)) :
  bA (vc P w) P w K mg base (L+8) "facts_at" ["kind","pipe","place"] (EE K C CP n):=by
 refine F.Ie om λf cdv A outer s H vs Q E hr h=>?_;have hu:=iH hr;have hu1:=kS hr;obtain⟨l,p,pa,us,ss,ws,pi,rfl,hK,h6,hP,hok,hpa,hn2,hbn,qx,q⟩:=h;refine⟨_,(aq (bc (i:=3) om.nd rfl (UH rfl) (ql Dk hr rfl uR (aa (aL A0 hr (aa (pv 0) ah)) (aa (pv 1) ah))))
   (aq (c7 (ql zu hr rfl uR (aa (pv 3) (aa (pv 2) ah))))
   (ax (yl hu1 (aL uJ hr (aa (pv 1) (aa (pv 3) ah))) (pv 2) (λ_ _=>rfl))))),?_⟩
 refine⟨_,rfl,l,us,ss,rfl,hK,TV h6 (by decide),λu H1 s1 hu=>?_⟩;refine⟨_,rfl,u,p,ss,ws,rfl,⟨hu,h6,hP.keep (aJ.of s1),hok⟩,hn2,hbn,λx s he e dx q' H' s'=>qx x s he e dx q' H' (s1.trans s'),λh f he l2 H2 bs s2 hl2 hT=>aj ?_⟩;dsimp only;have s12:=s1.trans s2;obtain⟨q1,q2⟩:=q h f he;refine⟨_,rfl,_,rfl,l2,pa,bs,_,pi,rfl,hl2,hT,s12 _ _ hpa,λhs e H' s' he'=>q1 hs e H' (s12.trans s') he',λb hs u' hh H3 s3 hu' _=>?_⟩;obtain⟨xs,i,rfl,rfl,hi,hsm,Lk,q3⟩:=q2 b hs;have v9:=s12.trans s3;have t1:=tN he;refine⟨_,rfl,_,rfl,p,l2,xs,bs,_,rfl,?_,s3 _ _ hl2,hT.keep (aJ.of s3),t1,hsm,?_,Lk,λfd H4 s4 hF=>?_⟩
 ·obtain⟨b2,hP⟩:=hP;refine⟨b2,v9 _ _ hP.tup,by rw[hP.len,TZ],λj a x e1 e2=>?_⟩;have:=hP.at_ j a (.one x) e1 (by rw[Us,e2];rfl);exact(dm.mp this).keep (aJ.of v9)
 ·have:=hok.len;rw[TZ]at this;omega
 ·obtain⟨kv,f1,f2,f3⟩:=hF;obtain⟨v,e1,e2⟩:=f3 i (by omega);refine⟨_,rfl,fd,v,rfl,?_,q3 v H4 (v9.trans s4) e2⟩;rw[←e1];exact yf.t f1 (by rw[LC];exact(v9.trans s4) _ _ hpa)
end My
namespace L2
open PySem PySem.Spec PyProof.Rows
def jB(lo hi:Int):List V:=(List.range (hi-lo).toNat).map λi=>V.int (lo+(i:Nat))
section
variable{X:Cx}
theorem Cc:e_ X (.type "range") (λxs H Q=>∃i j,xs=[.int i,.int j]/\∀r,H r=none->Q (.ref r) (upd H r (.A3 i j))):=by intro ac s σ H xs us Q I r h;obtain⟨i,j,rfl,q⟩:=h;obtain⟨u1,u2,rfl,⟨t,rfl⟩,⟨t',rfl⟩⟩:=vals2 r;refine call_range_2 ?_;refine⟨.ref s.heap.objs.size,_,I.laid (t':=_) (o:=.A3 i j) (λb ob q=>TN _ q) (TU _) ⟨_,_,_,TR _ rfl⟩,rfl,q _ (I.hok.fresh (TU _))⟩
theorem qZ(hc:X.calm=true):e_ X (.type "list") (λxs H Q=>∃p lo hi,xs=[.ref p]/\H p=some (.A3 lo hi)/\0<=lo/\lo<=hi/\hi<=1000/\∀l,H l=none->Q (.ref l) (upd H l (.lst (jB lo hi)))):=by
 intro ac s σ H xs us Q I r h;obtain⟨p,lo,hi,rfl,hp,h0,h1,h2,q⟩:=h;obtain⟨u,rfl,rx⟩:=vals1 r;cases rx;obtain⟨t,u,v,e⟩:=I.hok p _ hp;have yt:Builtin.Range.rangeSize lo hi 1=((hi-lo).toNat:Int):=by unfold Builtin.Range.rangeSize;rw[UE (by decide),Int.ediv_one];split<;>omega
 refine call_list_range (I.ok.hd hc) e ?_ yt (by omega) λh' tk acc' c' hk hl hi'=>?_
 ·unfold Builtin.Range.small;rw[yt];have f:∀z:Int,0<=z->z<=1001->Builtin.Range.rangeFitsLong z=true:=λz a b=>by unfold Builtin.Range.rangeFitsLong;simp;omega
  rw[f lo (by omega) (by omega),f hi (by omega) (by omega),f 1 (by omega) (by omega),f _ (by omega) (by omega),UE (by decide),f (hi+(1-1)) (by omega) (by omega)];simp
 ·have hV:Vals (jB lo hi) acc'.toList:=by
   have hlen:acc'.toList.length=(hi-lo).toNat:=by rw[US];exact hi'.1
   have gen:∀(us:List Value)(k:Nat),(∀j v,us[j]? = some v->∃t,v=Value.int (lo+((k+j:Nat):Int)) t)->Vals ((List.range' k us.length).map λi=>V.int (lo+(i:Nat))) us:=by
    intro us;induction us with
    |nil=>intro k _;exact .nil
    |cons w us ih =>
     intro k hw;rw[Uz,List.range'_succ,UR];exact .cons (by obtain⟨t,z⟩:=hw 0 w rfl;exact⟨t,z⟩) (ih (k+1) λj v hj=>by obtain⟨t,z⟩:=hw (j+1) v (by simpa using hj);exact⟨t,by rw[z];congr 1;omega⟩)
   have:=gen acc'.toList 0 λj v hj=>by obtain⟨t,z⟩:=hi'.2 j v (by simpa using hj);exact⟨t,by rw[z,Nat.zero_add,Int.mul_one]⟩
   unfold jB;rw[hlen,←List.range_eq_range']at this;exact this
  refine⟨.ref s.heap.objs.size,_,I.laid (t':=tk) (o:=.lst (jB lo hi)) hk (TU _) ⟨?_,acc'.toList,c',hV,by simpa using hl⟩,rfl,q _ (I.hok.fresh (TU _))⟩;unfold jB;rw[TZ,List.length_range];exact TV (show(hi-lo).toNat<=1000 by omega) (by decide)
end
end L2
namespace L2
open PySem
section
variable{X:Cx}{e c:Expr}{te:TE}{tc:TT}{t u:TS}{st:Stmt}{rest body:List Stmt}{pos pos2:Pos}
theorem cH(h1:PS X st t)(h2:SO X rest u):SO X (st::rest) (xN t u):=⟨aq h1 h2.h⟩
theorem cM(he:EO X e te):SO X [.Return (some e) pos] (F0 te):=⟨ax he.h⟩
theorem d_(hc:PT X c tc)(hb:SO X body t)(hr:SO X rest u):SO X (.If c body [] pos::rest) (xN (E4 tc t uu) u):=⟨aq (jv hc hb.h fv) hr.h⟩
theorem az(h:PE X e te):EO X e te:=⟨h⟩
end
end L2
namespace My
open PySem L2
def cellsV(s:Str):List V:=if s="w" then [.str "a",.str "b",.str "cc",.str "zzzzzzzz"]else [.int 0,.int 1,.int 2,.int 7,.int (-(10 ^ 59))]
def sE:Sp:=λvs H Q _=>∃(s:Str),vs=[.str s]/\∀l H',H l=none->aG H H'->H' l=some (.lst (cellsV s))->Q (.ref l) H'
theorem mZ(s:Str):4<=(cellsV s).length/\(cellsV s).length<=5:=by unfold cellsV;split<;>decide
theorem gF{s:Str}{v:V}(h:v∈cellsV s):kQ v/\(s="n"\/s="w"->sW v=s):=by
 unfold cellsV at h;split at h
 ·rename_i e;simp only[Uj,UG,or_false]at h;rcases h with rfl|rfl|rfl|rfl<;>exact⟨.inr ⟨_,rfl⟩,λ_=>by rw[e];rfl⟩
 ·rename_i e;simp only[Uj,UG,or_false]at h;have k:s="n"\/s="w"->("n" : Str)=s:=λz=>by
   rcases z with z|z
   ·exact z.symm
   ·exact UC z e
  rcases h with rfl|rfl|rfl|rfl|rfl<;>exact⟨.inl ⟨_,rfl⟩,k⟩
abbrev i6:Stmt:=top 84
theorem q_:av ["_law_sort"] ["_law_sort"] (ao i6):=fs
variable{P:Program}{w:World}{K:UX}{mg:Str->Option Value}{base:Heap}
theorem AU(F:FA K mg "_law_cells" i6) :
  bA bx P w K mg base 1 "_law_cells" ["_law_sort"] sE:=by
 refine F.ok q_ λf cdv A outer s H vs Q E hr h=>?_;obtain⟨s,rfl,q⟩:=h;refine⟨_,(bu (bg bO (pv 0) au) (bZ (aa au (aa au (aa au (aa au ah)))))
   (ax (bZ (aa ai (aa ai (aa ai (aa ai (aa (Di xY (aQ w_ ai ai)) ah)))))))),?_⟩
 refine⟨_,rfl,rfl,_,rfl,?_⟩;rw[f9];by_cases e:s="w"
 ·rw[TY e];refine dX ⟨zU,λl hl=>q l _ hl (ag hl _) ?_⟩;rw[ae,cellsV,UE e]
 ·rw[TX e];refine cV (bD ⟨_,_,rfl,rfl,⟨by decide,by decide,by decide⟩,_,rfl,Lv,λl hl=>q l _ hl (ag hl _) ?_⟩);rw[ae,cellsV,UD e];rfl
def AQ(s:Str):Str:=if s="w" then "w" else "n"
def CQ:Sp:=λvs H Q _=>∃(p:Addr)(s:Str),vs=[.ref p,.str s]/\dz H p/\∀(a:Addr) xs H',ba p H H'->H' a=some (.tup (.str (AQ s)::xs))->Q (.ref a) H'
abbrev ll:Stmt:=top 85
theorem uB:av ["_law_pot_here","_law_sort"] ["_law_pot_here","_law_sort"] (ao ll):=fs
theorem EC(F:FA K mg "_law_set" ll)
  (ay:bA bx P w K mg base 1 "_law_draw" ["_law_pot_here","_law_many"] fm) :
  bA bx P w K mg base 2 "_law_set" ["_law_pot_here","_law_sort"] CQ:=by
 refine F.ok uB λf cdv A outer s H vs Q E hr h=>?_;have hu:=iH hr;obtain⟨p,s,rfl,hP,q⟩:=h;refine rQ (d_ (bg bO (pv 1) au) (cM (aH (ak (az au) (ak (az (jL bO (aL ay hr (aa (pv 0) (aa ai ah))) ai)) (ak (rq (r:=qo K) xf (aH (ak (aH (ak (az au) aE)) (ak (aH (ak (az au) (ak (az au) aE))) (ak (aH (ak (az au) (ak (az au) aE))) (ak (aH aE) aE))))) (az (aL ay hr (aa (pv 0) (aa ai ah)))) (λ_ _=>rfl)) aE)))))
  (cM (aH (ak (az au) (ak (rq (r:=qo K) xf (aH (ak (aH (ak (aH (ak (az ai) (ak (az ai) aE))) aE)) (ak (aH (ak (aH (ak (az gc) (ak (az ai) aE))) (ak (aH (ak (az ai) (ak (az ai) aE))) aE))) (ak (aH (ak (aH (ak (az ai) (ak (az gc) aE))) aE)) (ak (aH aE) aE))))) (az (aL ay hr (aa (pv 0) (aa ai ah)))) (λ_ _=>rfl)) aE))))) ?_
 refine⟨_,rfl,rfl,_,rfl,?_⟩;rw[f9];by_cases e:s="w"
 ·rw[TY e];have q:∀(a:Addr) xs H',ba p H H'->H' a=some (.tup (.str "w"::xs))->Q (.ref a) H':=by rw[AQ,UE e]at q;exact q
  refine dX ⟨_,rfl,p,_,rfl,hP,by decide,by decide,λd H1 g1 a1 b1=>⟨rfl,cN,λu1 h1=>⟨cn,λu2 h2=>⟨cn,λu3 h3=>⟨m_,λu4 h4=>⟨zU,λu5 h5=>?_⟩⟩⟩⟩⟩⟩;have g5:=ba.new (o:=.tup [.ref u1,.ref u2,.ref u3,.ref u4]) ((((g1.new h1).new h2).new h3).new h4) h5;have hu:upd (upd (upd (upd (upd H1 u1 (.tup [.str "a"])) u2 (.tup [.str "a",.str "cc"])) u3 (.tup [.str "b",.str "d"])) u4 (.tup [])) u5 (.tup [.ref u1,.ref u2,.ref u3,.ref u4]) u5=some (.tup [.ref u1,.ref u2,.ref u3,.ref u4]):=ae;refine⟨_,rfl,p,_,rfl,g5.cy,by decide,by decide,λd2 H2 g2 a2 b2=>?_⟩;obtain⟨v,hv,_⟩:=ib (xs:=[V.ref u1,.ref u2,.ref u3,.ref u4]) a2 b2;exact⟨u5,_,_,v,rfl,rfl,aY.of (iG g5.cy g2 hu),hv,cm,λu6 h6=>q u6 _ _ ((g5.trans g2).new h6) ae⟩
 ·rw[TX e];have q:∀(a:Addr) xs H',ba p H H'->H' a=some (.tup (.str "n"::xs))->Q (.ref a) H':=by rw[AQ,UD e]at q;exact q
  have g0:=ba.refl hP;refine cV (bD ⟨cn,λu1 h1=>⟨cN,λu2 h2=>⟨cn,λu3 h3=>⟨cn,λu4 h4=>⟨cn,λu5 h5=>⟨cn,λu6 h6=>⟨cN,λu7 h7=>⟨m_,λu8 h8=>⟨zU,λu9 h9=>?_⟩⟩⟩⟩⟩⟩⟩⟩⟩);have g9:=ba.new (o:=.tup [.ref u2,.ref u5,.ref u7,.ref u8]) ((((((((g0.new h1).new h2).new h3).new h4).new h5).new h6).new h7).new h8) h9;refine⟨_,rfl,p,_,rfl,g9.cy,by decide,by decide,λd2 H2 g2 a2 b2=>?_⟩;obtain⟨v,hv,_⟩:=ib (xs:=[V.ref u2,.ref u5,.ref u7,.ref u8]) a2 b2;exact⟨u9,_,_,v,rfl,rfl,aY.of (iG g9.cy g2 ae),hv,cn,λu6 h6=>q u6 _ _ ((g9.trans g2).new h6) ae⟩
def sO:Sp:=λvs H Q _=>∃(p:Addr)(w lo hi:Nat),vs=[.ref p,.int (w:Nat),.int (lo:Nat),.int (hi:Nat)]/\dz H p/\1<=w/\w<=100/\lo<=hi/\hi<=100/\∀(t:Addr)(cs:List Int) H',ba p H H'->H' t=some (.tup (cs.map V.int))->lo<=cs.length->cs.length<=hi->(∀c∈cs,1<=c/\c<=w)->Q (.ref t) H'
abbrev gr:Stmt:=top 87
theorem oG:av ["_law_pot_here","_law_wide","_law_least","_law_most"] ["_law_pot_here","_law_wide","_law_least","_law_most"] (ao gr):=fs
theorem C6(B:j7 mg)(F:FA K mg "_law_columns" gr)
  (ay:bA bx P w K mg base 1 "_law_draw" ["_law_pot_here","_law_many"] fm) :
  bA bx P w K mg base 2 "_law_columns" ["_law_pot_here","_law_wide","_law_least","_law_most"] sO:=by
 refine F.ok oG λf cdv A outer s H vs Q E hr h=>?_;obtain⟨p,w,lo,hi,rfl,hP,w1,w2,l1,l2,q⟩:=h;refine⟨_,(ax (bN bt rfl B.tuple UL (aa (bU (N':=["_law_k","_law_pot_here","_law_wide"]) (src:=[none,some 0,some 1]) rfl (bh.lJ (by kernel_rfl)) (el rfl B.range (aa (aQ cb (pv 2) (aL ay hr (aa (pv 0) (aa (aQ cb (aQ ck (pv 3) (pv 2)) ai) ah)))) ah)) (λcl C s H fp=>(fX (i:=0))) (λcl C s H fp=>bp) (te:=(fQ (v7 λi j=>V.int (i+j)) (tC (.int 1)) (kW fm [] E0 (eD (bF 1) (eD (bF 2) kK))))) (λcl C s H fp=>(aQ cb ai (aL (hg:=Hj) ay hr (aa (ug 1) (aa (ug 2) ah)))))) ah))),?_⟩;refine⟨_,rfl,_,rfl,_,rfl,_,rfl,_,_,rfl,rfl,_,_,rfl,rfl,p,_,rfl,hP,by omega,cG (by omega) (by omega),λd H1 g1 a1 b1=>⟨_,_,rfl,rfl,_,rfl,(kR (by omega) (by omega)).1,(kR (by omega) (by omega)).2,λD hD=>?_⟩⟩;have nD:=g1.ne hD;have Nq:H1 D=none:=hD;refine fc (n:=((lo:Int)+d).toNat) (λi σ ys H'=>(∃o,σ=[o,some (.ref p),some (.int (w:Nat))])/\(∃ns:List Int,ys=ns.map V.int/\ns.length=i/\∀n∈ns,1<=n/\n<=w)/\H' D=some (.lst ys)/\ba p H1 H')
  ⟨⟨none,rfl⟩,⟨[],rfl,rfl,by simp⟩,ae,(ba.refl g1.cy).new hD⟩ ?_ ?_ ?_ ?_
 ·rintro i σ ys H' _ ⟨_,⟨ns,rfl,rfl,_⟩,h,_⟩;exact⟨h,by rw[TZ];exact TU _⟩
 ·exact TV (show((lo:Int)+d).toNat<=300 by omega) (by decide)
 ·rintro i σ ys H' hi ⟨⟨o,rfl⟩,⟨ns,rfl,rfl,hp⟩,h,g⟩;refine aj ?_;refine⟨_,rfl,_,rfl,p,_,rfl,g.cy,by omega,cG (by omega) (by omega),λn H2 g2 n1 n2=>⟨_,_,rfl,rfl,g2.keep D _ nD h,⟨_,rfl⟩,⟨ns++[1+n],by rw[T4];rfl,by rw[T1];rfl,λk hk=>?_⟩,ae,(ba.refl g1.cy).put hD nD (g.trans g2)⟩⟩;rcases Ul.mp hk with z|z
  ·exact hp k z
  ·rw[Uh.mp z];omega
 ·rintro σ ys H' ⟨_,⟨ns,rfl,hn,hp⟩,h,g⟩;exact⟨D,_,rfl,.inl ⟨bj.of h,λt ht=>q t ns _ ((g1.trans g).new ht) ae (by omega) (by omega) hp⟩⟩
def uz:Sp:=λvs H Q _=>∃(p:Addr)(s g:Str),vs=[.ref p,.str s,.str g]/\dz H p/\∀(t:Addr)(bs:List Addr)(ps:List (V×V)) H',ba p H H'->bE sC H' t bs ps->1<=ps.length->ps.length<=3->(∀q∈ps,q.1∈cellsV s/\q.2∈cellsV g)->Q (.ref t) H'
theorem i8{α:Type}{At:Hp->Addr->α->Prop}{H H':Hp}{bs:List Addr}{xs:List α}{a:Addr}{x:α}(hl:bs.length=xs.length)(h:∀(i:Nat) a x,bs[i]? = some a->xs[i]? = some x->At H a x)(k:∀a x,At H a x->At H' a x)(hx:At H' a x):(bs++[a]).length=(xs++[x]).length/\∀(i:Nat) b y,(bs++[a])[i]? = some b->(xs++[x])[i]? = some y->At H' b y:=by
 refine⟨by rw[T1,T1,hl];rfl,λi b y e1 e2=>?_⟩;by_cases hi:i<bs.length
 ·rw[Ur hi]at e1;rw[Ur (by omega)]at e2;exact k _ _ (h i b y e1 e2)
 ·have hi':i=bs.length:=by have:=(Ug.mp e1).1;rw[T1]at this;simp at this;omega
  rw[hi',Uq (TU _),Nat.sub_self]at e1;rw[hi',hl,Uq (TU _),Nat.sub_self]at e2;cases e1;cases e2;exact hx
abbrev i9:Stmt:=top 86
theorem dG:av ["_law_pot_here","_law_sort","_law_goal","_law_cells_here","_law_goals","_law_begin","_law_found","_law_k"] ["_law_pot_here","_law_sort","_law_goal"] (ao i9):=fs
theorem AY(B:j7 mg)(F:FA K mg "_law_pairs" i9)
  (ay:bA bx P w K mg base 1 "_law_draw" ["_law_pot_here","_law_many"] fm)
  (fY:bA bx P w K mg base 1 "_law_cells" ["_law_sort"] sE) :
  bA bx P w K mg base 2 "_law_pairs" ["_law_pot_here","_law_sort","_law_goal"] uz:=by
 refine F.ok dG λf cdv A outer s H vs Q E hr h=>?_;obtain⟨p,s,g,rfl,hP,q⟩:=h;refine⟨_,(aq (BM (i:=3) (j:=4) rfl dG.nd rfl rfl (by decide) rfl rfl (aa (aL fY hr (aa (pv 1) ah)) (aa (aL fY hr (aa (pv 2) ah)) ah)) rfl)
   (aq (bc (i:=5) dG.nd rfl (UH rfl) (aL ay hr (aa (pv 0) (aa (aN aU rfl B.len UU (aa (pv 3) ah)) ah))))
   (aq (bc (i:=6) dG.nd rfl (UH rfl) (bZ ah))
   (aq (fj PassesOwn.never rfl (el rfl B.range (aa (aQ cb ai (aL ay hr (aa (pv 0) (aa ai ah)))) ah)) (aM (i:=7) dG.nd rfl (UH rfl))
    (b_ (c7 (jU PySem.F.plainAttrs_list PySem.F.slot_list_append PySem.F.type_list_append cw (pv 6) (aa (aW (aa (bM K (pv 3) (aQ pX (aQ cb (pv 5) (pv 7)) (aN aU rfl B.len UU (aa (pv 3) ah)))) (aa (bM K (pv 4) (aL ay hr (aa (pv 0) (aa (aN aU rfl B.len UU (aa (pv 4) ah)) ah)))) ah))) ah)))))
   (ax (bN bt rfl B.tuple UL (aa (pv 6) ah))))))),?_⟩
 obtain⟨c1,c2⟩:=mZ s;obtain⟨c3,c4⟩:=mZ g;have gP:=ba.refl hP;refine⟨_,rfl,s,rfl,λl1 H1 n1 s1 hl1=>⟨_,rfl,g,rfl,λl2 H2 n2 s2 hl2=>⟨_,_,rfl,?_⟩⟩⟩;dsimp only;have s12:=s1.trans s2;have g2:ba p H H2:=ba.same hP s12;have m1:l1≠p:=gP.ne n1;have m2:l2≠p:=(ba.same hP s1).ne n2;refine⟨_,rfl,_,rfl,l1,_,rfl,.inl (bj.of (s2 _ _ hl1)),p,_,rfl,g2.cy,by omega,cG (by omega) (by omega),λd1 H3 g3 a1 b1=>aj ?_⟩;dsimp only;refine⟨Uo _,λL hL=>aj ?_⟩;dsimp only;have gL:=(ba.refl g3.cy).new (o:=.lst []) hL;have mL:L≠p:=g3.ne hL;have e1:upd H3 L (.lst []) l1=some (.lst (cellsV s)):=ag hL _ _ _ (g3.keep _ _ m1 (s2 _ _ hl1));have e2:upd H3 L (.lst []) l2=some (.lst (cellsV g)):=ag hL _ _ _ (g3.keep _ _ m2 hl2);have k1:l1≠L:=λz=>by rw[z,ae]at e1;have:=congrArg (λo=>match o with|some (HO.lst x)=>x.length|_=>0) e1;simp at this;omega
 have k2:l2≠L:=λz=>by rw[z,ae]at e2;have:=congrArg (λo=>match o with|some (HO.lst x)=>x.length|_=>0) e2;simp at this;omega
 have Ow:H2 L=none:=by
  cases z:H2 L with
  |none=>rfl
  |some o=>exact UC hL (by rw[g3.keep _ _ mL z];simp)
 have CL:upd H3 L (.lst []) L=some (.lst []):=ae;have g0:ba p H2 (upd H3 L (.lst [])):=g3.trans gL;revert gL e1 e2 CL g0;generalize upd H3 L (.lst [])=H4;intro gL e1 e2 CL g0;refine⟨_,rfl,p,_,rfl,g0.cy,by decide,by decide,λd2 H5 g5 a2 b2=>⟨_,_,rfl,rfl,_,rfl,(kR (by omega) (by omega)).1,(kR (by omega) (by omega)).2,?_⟩⟩;refine kD (n:=(1+d2).toNat) (λi σ H'=>∃(o:Option V)(bs:List Addr)(ps:List (V×V)),σ=[some (.ref p),some (.str s),some (.str g),some (.ref l1),some (.ref l2),some (.int d1),some (.ref L),o]/\H' L=some (.lst (bs.map V.ref))/\(bs.length=ps.length/\∀(i:Nat) a x,bs[i]? = some a->ps[i]? = some x->sC H' a x)/\ps.length=i/\(∀q∈ps,q.1∈cellsV s/\q.2∈cellsV g)/\ba p H2 H'/\H' l1=some (.lst (cellsV s))/\H' l2=some (.lst (cellsV g)))
  ⟨none,[],[],rfl,g5.keep _ _ mL CL,⟨rfl,λi a x e=>by cases e⟩,rfl,(λ_ z=>nomatch z),g0.trans g5,g5.keep _ _ m1 e1,g5.keep _ _ m2 e2⟩ ?_ ?_
 ·rintro i σ H' hi ⟨o,bs,ps,rfl,hL',⟨ue,hbt⟩,hpl,hpm,g',f1,f2⟩;refine aj ?_;dsimp only;have z0:=Int.emod_nonneg (d1+(0+(i:Int))) (show((cellsV s).length:Int)≠0 by omega);have z1:=Int.emod_lt_of_pos (d1+(0+(i:Int))) (show(0:Int)<(cellsV s).length by omega);obtain⟨v1,hv1,hm1⟩:=ib z0 z1;refine⟨_,rfl,.inl ⟨rfl,_,bj.of hL'⟩,_,rfl,_,rfl,_,rfl,_,_,rfl,rfl,_,rfl,l1,_,rfl,.inl (bj.of f1),_,_,rfl,rfl,(by omega),l1,_,_,v1,rfl,rfl,bj.of f1,hv1,_,rfl,_,rfl,_,rfl,l2,_,rfl,.inl (bj.of f2),p,_,rfl,g'.cy,by omega,cG (by omega) (by omega),λd3 H6 g6 a3 b3=>?_⟩;obtain⟨v2,hv2,hm2⟩:=ib a3 b3;have Gi:=g6.keep _ _ m2 f2;refine⟨l2,_,_,v2,rfl,rfl,bj.of Gi,hv2,cn,λT hT=>?_⟩;have sT:=ag hT (.tup [v1,v2]);have Ee:=sT _ _ (g6.keep _ _ mL hL');refine⟨L,_,_,rfl,rfl,Ee,?_,_,bs++[T],ps++[(v1,v2)],rfl,by rw[ae,T4];rfl,i8 ue hbt (λa x z=>?_) ?_,by rw[T1,hpl];rfl,λq hq=>?_,(ba.refl g2.cy).put Ow mL ((g'.trans g6).new hT),?_,?_⟩
  ·rw[TZ,ue,hpl];exact T9 (show i<10 by omega) (by decide)
  ·exact(aJ.of sT).iK Ee _ _ (iG g'.cy g6 z)
  ·exact aJ.refl.iK Ee _ _ ae
  ·rcases Ul.mp hq with z|z
   ·exact hpm q z
   ·rw[Uh.mp z];exact⟨Ub hm1,Ub hm2⟩
  ·rw[aI k1];exact sT _ _ (g6.keep _ _ m1 f1)
  ·rw[aI k2];exact sT _ _ Gi
 ·rintro σ H' ⟨o,bs,ps,rfl,hL',⟨ue,hbt⟩,hpl,hpm,g',f1,f2⟩;dsimp only;refine⟨_,rfl,L,_,rfl,.inl ⟨bj.of hL',λt ht=>q t bs ps _ ((g2.trans g').new ht) ⟨ae,ue,λi a x e1 e2=>ag ht _ _ _ (hbt i a x e1 e2)⟩ (by omega) (by omega) hpm⟩⟩
abbrev dY(H:Hp)(l:Addr)(ss:Hd):Prop:=H l=some (.lst (ss.map V.str))
def eK(ss:Hd):List Int:=((List.range ss.length).filter λk=>!decide (ss.getD k ""="t")).map λ(k:Nat)=>(k:Int)+1
def sM:Sp:=λvs H Q _=>∃(l:Addr)(ss:Hd),vs=[.ref l]/\dY H l ss/\ss.length<=1000/\∀u H',H u=none->aG H H'->H' u=some (.lst ((eK ss).map V.int))->Q (.ref u) H'
theorem sP{ss:Hd}{i:Nat}(h:i<ss.length):y0 (ss.map V.str) (i:Int)=some (.str (ss.getD i "")):=aP (j:=i) (by rw[Us,T_ h,List.getD_eq_getElem?_getD,T_ h];rfl)
theorem Hs{x y:Str}:(!decide (V.str x=V.str y)) = !decide (x=y):=by rw[f9]
abbrev jb:Stmt:=top 89
theorem rk:av ["_law_sorts"] ["_law_sorts"] (ao jb):=fs
theorem AX(B:j7 mg)(F:FA K mg "_law_plain" jb) :
  bA bx P w K mg base 1 "_law_plain" ["_law_sorts"] sM:=by
 refine F.ok rk λf cdv A outer s H vs Q E hr h=>?_;obtain⟨l,ss,rfl,hl,hz,q⟩:=h;refine⟨_,(ax (bU (N':=["_law_k","_law_sorts"]) (src:=[none,some 0]) rfl (bh.lJ (by kernel_rfl)) (el rfl B.range (aa (aN aU rfl B.len UU (aa (pv 0) ah)) ah)) (λcl C s H fp=>(fX (i:=0))) (tc:=(kY (fQ OT (fQ (lP K) (bF 1) (bF 0)) (tC (.str "t"))))) (λcl C s H fp=>iN (bg uo (bM K (ug 1) (i3 0)) au)) (te:=(fQ (v7 λi j=>V.int (i+j)) (bF 0) (tC (.int 1)))) (λcl C s H fp=>(aQ cb (i3 0) ai)))),?_⟩;have hn:(ss.map V.str).length=ss.length:=TZ ..;refine⟨_,rfl,l,_,rfl,.inl (bj.of hl),_,rfl,(kR (by omega) (by rw[hn];omega)).1,(kR (by omega) (by rw[hn];omega)).2,λD hD=>?_⟩;refine fc (n:=(((ss.map V.str).length:Nat):Int).toNat) (λi σ ys H'=>(∃o,σ=[o,some (.ref l)])/\ys=(((List.range i).filter λk=>!decide (ss.getD k ""="t")).map λ(k:Nat)=>(k:Int)+1).map V.int/\ys.length<=i/\H' D=some (.lst ys)/\aG H H') ⟨⟨none,rfl⟩,rfl,TU _,ae,ag hD _⟩ ?_ ?_ ?_ ?_
 ·rintro i σ ys H' _ ⟨_,_,hi,h,_⟩;exact⟨h,hi⟩
 ·rw[hn];exact TV (show((ss.length:Nat):Int).toNat<=1000 by omega) (by decide)
 ·rintro i σ ys H' hi ⟨⟨o,rfl⟩,rfl,hz',h,sm⟩;have hi':i<ss.length:=by rw[hn]at hi;omega
  refine aj ?_;refine⟨_,rfl,_,rfl,l,_,_,_,rfl,rfl,bj.of (sm _ _ hl),by rw[show(0:Int)+(i:Int)=(i:Int) by omega];exact sP hi',rfl,_,rfl,?_⟩;rw[Hs];by_cases e:ss.getD i ""="t"
  ·rw[TY e];refine cV ⟨⟨_,rfl⟩,?_,Nat.le_succ_of_le hz',h,sm⟩;rw[List.range_succ,List.filter_append,List.filter_cons_of_neg (by rw[TY e];exact Ud)];simp
  ·rw[TX e];refine dX ⟨_,rfl,_,_,rfl,rfl,h,⟨_,rfl⟩,?_,?_,ae,bo hD sm⟩
   ·rw[List.range_succ,List.filter_append,List.filter_cons_of_pos (by rw[TX e];rfl),T4,T4];simp
   ·rw[T1];exact Nat.succ_le_succ hz'
 ·rintro σ ys H' ⟨_,rfl,_,h,sm⟩;refine q D _ hD sm ?_;rw[h,hn];rfl
def Oe:D:=.tup [.str "n",.tup [.tup [.non,.non]]]
def OM:D:=.tup [.str "n",.tup [.tup [.int 0,.int 9]]]
def OD:D:=.tup [.str "w",.bl false,.tup []]
def Oq:D:=.tup [.str "w",.bl true,.tup [.str "a",.str "b",.str "cc"]]
def Mh:List D:=[Oe,OM,OD,Oq]
def uV:D->Str
 | .tup (.str s::_)=>s
 |_=>""
theorem iZ{d:D}(h:d∈Mh):Gg d=true/\(uV d="n"\/uV d="w")/\d.depth<=3/\∃s r,d=.tup (.str s::r):=by
 simp only[Mh,Uj,UG,or_false]at h;rcases h with rfl|rfl|rfl|rfl
 ·exact⟨rfl,.inl rfl,by simp[Oe,D.depth,cT],_,_,rfl⟩
 ·exact⟨rfl,.inl rfl,by simp[OM,D.depth,cT],_,_,rfl⟩
 ·exact⟨rfl,.inr rfl,by simp[OD,D.depth,cT],_,_,rfl⟩
 ·exact⟨rfl,.inr rfl,by simp[Oq,D.depth,cT],_,_,rfl⟩
structure Gk(K:UX)(H:Hp)(l:Addr)(us:List V)(ds:List D):Prop where
 lst:H l=some (.lst us)
 dat:aK K H ds us
 mem:∀d∈ds,d∈Mh
 pos:1<=ds.length
 few:ds.length<=4
theorem Gk.kd{K:UX}{H:Hp}{l:Addr}{us:List V}{ds:List D}(h:Gk K H l us ds):qt K H l us (ds.map uV):=by refine⟨h.lst,by rw[TZ,h.dat.length],λi v s e1 e2=>?_⟩;obtain⟨d,e3,e4⟩:=h.dat.get e1;rw[Us,e3]at e2;cases e2;obtain⟨_,_,_,s,r,rfl⟩:=iZ (h.mem d (Ub e3));obtain⟨a,vs,rfl,h1,h2⟩:=ke e4;obtain⟨v1,r1,rfl,h3,h4⟩:=gb h2;rw[CM h3]at h1;exact⟨a,r1,rfl,h1⟩
def zl(K:UX):Sp:=λvs H Q _=>∃(p:Addr),vs=[.ref p]/\dz H p/\∀(l:Addr) us ds H',ba p H H'->Gk K H' l us ds->Q (.ref l) H'
abbrev jx:Stmt:=top 83
theorem l4:av ["_law_pot_here","_law_some"] ["_law_pot_here"] (ao jx):=fs
theorem Bw(B:j7 mg)(F:FA K mg "_law_kind" jx)
  (ay:bA bx P w K mg base 1 "_law_draw" ["_law_pot_here","_law_many"] fm) :
  bA bx P w K mg base 2 "_law_kind" ["_law_pot_here"] (zl K):=by
 refine F.ok l4 λf cdv A outer s H vs Q E hr h=>?_;obtain⟨p,rfl,hP,q⟩:=h;refine rQ (JA (i:=1) l4.nd rfl (Or.inr rfl) (yd (ak (aH (ak (az au) (ak (aH (ak (aH (ak (az gc) (ak (az gc) aE))) aE)) aE))) (ak (aH (ak (az au) (ak (aH (ak (aH (ak (az ai) (ak (az ai) aE))) aE)) aE))) (ak (aH (ak (az au) (ak (az c0) (ak (aH aE) aE)))) (ak (aH (ak (az au) (ak (az c0) (ak (aH (ak (az au) (ak (az au) (ak (az au) aE)))) aE)))) aE)))))
  (cM (az (bU (N':=["_law_k","_law_pot_here","_law_some"]) (src:=[none,some 0,some 1]) rfl (bh.lJ (by kernel_rfl)) (el rfl B.range (aa (aQ cb ai (aL ay hr (aa (pv 0) (aa ai ah)))) ah)) (λcl C s H fp=>(fX (i:=0))) (λcl C s H fp=>bp) (te:=(fQ (lP K) (bF 2) (kW fm [] E0 (eD (bF 1) (eD (tC (.int 4)) kK))))) (λcl C s H fp=>(bM K (ug 2) (aL (hg:=Hj) ay hr (aa (ug 1) (aa ai ah))))))))) ?_
 have g0:=ba.refl hP;refine⟨cn,λu1 h1=>⟨cN,λu2 h2=>⟨cn,λu3 h3=>⟨cn,λu4 h4=>⟨cN,λu5 h5=>⟨cn,λu6 h6=>⟨m_,λu7 h7=>⟨cm,λu8 h8=>⟨cm,λu9 h9=>⟨cm,λJb h10=>?_⟩⟩⟩⟩⟩⟩⟩⟩⟩⟩;have s1:=ag h1 (.tup [.non,.non]);have s2:=ag h2 (.tup [.ref u1]);have s3:=ag h3 (.tup [.str "n",.ref u2]);have s4:=ag h4 (.tup [.int 0,.int 9]);have s5:=ag h5 (.tup [.ref u4]);have s6:=ag h6 (.tup [.str "n",.ref u5]);have s7:=ag h7 (.tup []);have s8:=ag h8 (.tup [.str "w",.bl false,.ref u7]);have s9:=ag h9 (.tup [.str "a",.str "b",.str "cc"]);have qC:=ag h10 (.tup [.str "w",.bl true,.ref u9]);have dA:aV K _ Oe (.ref u3):=aV.same (s4.trans (s5.trans (s6.trans (s7.trans (s8.trans (s9.trans qC)))))) (bL ae (aK.cons (bY _) (aK.cons (aV.same s3 (bL ae (aK.cons (aV.same s2 (bL ae (aK.cons sN (aK.cons sN aK.nil)))) aK.nil))) aK.nil)));have dB:aV K _ OM (.ref u6):=aV.same (s7.trans (s8.trans (s9.trans qC))) (bL ae (aK.cons (bY _) (aK.cons (aV.same s6 (bL ae (aK.cons (aV.same s5 (bL ae (aK.cons (lT _) (aK.cons (lT _) aK.nil)))) aK.nil))) aK.nil)));have dC:aV K _ OD (.ref u8):=aV.same (s9.trans qC) (bL ae (aK.cons (bY _) (aK.cons (tq _) (aK.cons (aV.same s8 (bL ae aK.nil)) aK.nil))));have dD:aV K _ Oq (.ref Jb):=bL ae (aK.cons (bY _) (aK.cons (tq _) (aK.cons (aV.same qC (bL ae (aK.cons (bY _) (aK.cons (bY _) (aK.cons (bY _) aK.nil))))) aK.nil)));have dd:=aK.cons dA (aK.cons dB (aK.cons dC (aK.cons dD aK.nil)));have sA:=s1.trans (s2.trans (s3.trans (s4.trans (s5.trans (s6.trans (s7.trans (s8.trans (s9.trans qC))))))));revert sA dd;generalize upd (upd (upd (upd (upd (upd (upd (upd (upd (upd H u1 (.tup [.non,.non])) u2 (.tup [.ref u1])) u3 (.tup [.str "n",.ref u2])) u4 (.tup [.int 0,.int 9])) u5 (.tup [.ref u4])) u6 (.tup [.str "n",.ref u5])) u7 (.tup [])) u8 (.tup [.str "w",.bl false,.ref u7])) u9 (.tup [.str "a",.str "b",.str "cc"])) Jb (.tup [.str "w",.bl true,.ref u9])=H0;intro dd sA;clear dA dB dC dD s1 s2 s3 s4 s5 s6 s7 s8 s9 qC h1 h2 h3 h4 h5 h6 h7 h8 h9 h10;refine⟨zU,λL hL=>aj ?_⟩;dsimp only;have sL:=ag hL (.lst [.ref u3,.ref u6,.ref u8,.ref Jb]);have CL:upd H0 L (.lst [.ref u3,.ref u6,.ref u8,.ref Jb]) L=some (.lst [.ref u3,.ref u6,.ref u8,.ref Jb]):=ae;have dd:=dd.same sL;have sB:=sA.trans sL;revert sB dd CL;generalize upd H0 L (.lst [.ref u3,.ref u6,.ref u8,.ref Jb])=H1;intro CL dd sB;have g1:ba p H H1:=ba.same hP sB;have mL:L≠p:=λz=>by obtain⟨x,y,e,_⟩:=hP;have:=sA _ _ e;rw[←z,hL]at this;cases this
 refine⟨_,rfl,p,_,rfl,g1.cy,by decide,by decide,λd H2 g2 a1 b1=>⟨_,_,rfl,rfl,_,rfl,(kR (by omega) (by omega)).1,(kR (by omega) (by omega)).2,λD hD=>?_⟩⟩;have nD:=g2.ne hD;have Nq:H1 D=none:=by
  cases z:H1 D with
  |none=>rfl
  |some o=>exact UC hD (by rw[g2.keep _ _ nD z];simp)
 have nl:oz Mh=true:=jR.mpr λd hd=>(iZ hd).1;refine fc (n:=(1+d).toNat) (λi σ ys H'=>(∃o,σ=[o,some (.ref p),some (.ref L)])/\(∃ds,aK K H' ds ys/\ds.length=i/\∀d∈ds,d∈Mh)/\H' D=some (.lst ys)/\ba p H1 H')
  ⟨⟨none,rfl⟩,⟨[],aK.nil,rfl,by simp⟩,ae,g2.new hD⟩ ?_ ?_ ?_ ?_
 ·rintro i σ ys H' _ ⟨_,⟨ds,h1,rfl,_⟩,h,_⟩;exact⟨h,by rw[h1.length];exact TU _⟩
 ·exact TV (show(1+d).toNat<=300 by omega) (by decide)
 ·rintro i σ ys H' hi ⟨⟨o,rfl⟩,⟨ds,h1,h2,h3⟩,h,g⟩;refine aj ?_;refine⟨_,rfl,_,rfl,p,_,rfl,g.cy,by decide,by decide,λn H3 g3 n1 n2=>?_⟩;obtain⟨v,hv,hm⟩:=ib (xs:=[V.ref u3,.ref u6,.ref u8,.ref Jb]) n1 n2;obtain⟨dv,e1,e2⟩:=dd.get hm;have hd:=Ub e1;have Ip:=g.trans g3;have yI:=g3.keep D _ nD h;refine⟨L,_,_,v,rfl,rfl,bj.of (Ip.keep _ _ mL CL),hv,yI,⟨_,rfl⟩,⟨ds++[dv],?_,by rw[T1,h2];rfl,λx hx=>?_⟩,ae,(ba.refl g1.cy).put Nq nD Ip⟩
  ·have Q2:oz (ds++[dv])=true:=jR.mpr λx hx=>by
    rcases Ul.mp hx with z|z
    ·exact(iZ (h3 x z)).1
    ·rw[Uh.mp z];exact(iZ hd).1
   refine aK.cE (KS.iK yI) Q2 ?_;refine(aK.grow g.cy g3 (jR.mpr λx hx=>(iZ (h3 x hx)).1) h1).append (aK.cons (aV.grow g1.cy Ip (iZ hd).1 e2) aK.nil)
  ·rcases Ul.mp hx with z|z
   ·exact h3 x z
   ·rw[Uh.mp z];exact hd
 ·rintro σ ys H' ⟨_,⟨ds,h1,h2,h3⟩,h,g⟩;exact q D ys ds H' (g1.trans g) ⟨h,h1,h3,by omega,by omega⟩
theorem r8{α β:Type}(g:α->β):∀(l:List α)(k:Nat),(l.map g).eraseIdx k=(l.eraseIdx k).map g
 |[],_=>rfl
 |_::_,0=>rfl
 |x::l,k+1=>congrArg (g x :: ·) (r8 g l k)
def GW:Sp:=λvs H Q _=>∃(p:Addr)(wd:Nat),vs=[.ref p,.int (wd:Nat)]/\dz H p/\1<=wd/\wd<=100/\
 ∀(t:Addr)(bs:List Addr)(od:Od)(H':Hp),ba p H H'->bE FZ H' t bs od->od.length<=wd->(∀q∈od,1<=q.1/\q.1<=wd)->Q (.ref t) H'
abbrev ig:Stmt:=top 88
theorem eR:av ["_law_pot_here","_law_wide","_law_left","_law_found","_law_k"] ["_law_pot_here","_law_wide"] (ao ig):=fs
theorem Gs(B:j7 mg)(F:FA K mg "_law_unlike" ig)
  (ay:bA bx P w K mg base 1 "_law_draw" ["_law_pot_here","_law_many"] fm) :
  bA bx P w K mg base 2 "_law_unlike" ["_law_pot_here","_law_wide"] GW:=by
 refine F.ok eR λf cdv A outer s H vs Q E hr h=>?_;obtain⟨p,wd,rfl,hP,w1,w2,q⟩:=h;refine⟨_,(aq (bc (i:=2) eR.nd rfl (UH rfl) (bN (qZ rfl) rfl B.list PyProof.Rows.boot_list (aa (bN Cc rfl B.range PyProof.Rows.boot_range (aa ai (aa (aQ cb (pv 1) ai) ah))) ah)))
   (aq (bc (i:=3) eR.nd rfl (UH rfl) (bZ ah))
   (aq (fj PassesOwn.never rfl (el rfl B.range (aa (aQ cb ai (aL ay hr (aa (pv 0) (aa (pv 1) ah)))) ah)) (aM (i:=4) eR.nd rfl (UH rfl))
    (b_ (c7 (jU PySem.F.plainAttrs_list PySem.F.slot_list_append PySem.F.type_list_append cw (pv 3) (aa (aW (aa (jU PySem.F.plainAttrs_list PySem.F.slot_list_pop PySem.F.type_list_pop CA (pv 2) (aa (aL ay hr (aa (pv 0) (aa (aN aU rfl B.len UU (aa (pv 2) ah)) ah))) ah)) (aa (jL bO (aL ay hr (aa (pv 0) (aa ai ah))) ai) ah))) ah)))))
   (ax (bN bt rfl B.tuple UL (aa (pv 3) ah)))))),?_⟩
 refine⟨_,rfl,_,_,rfl,rfl,_,_,rfl,λr hr1=>⟨r,_,_,rfl,ae,by omega,by omega,by omega,λL hL=>aj ?_⟩⟩;dsimp only;refine⟨Uo _,λD hD=>aj ?_⟩;dsimp only;have g1:ba p H (upd H r (.A3 1 ((wd:Nat)+1))):=(ba.refl hP).new hr1;have g2:ba p H (upd (upd H r (.A3 1 ((wd:Nat)+1))) L (.lst (jB 1 ((wd:Nat)+1)))):=g1.trans ((ba.refl g1.cy).new hL);have g3:ba p H (upd (upd (upd H r (.A3 1 ((wd:Nat)+1))) L (.lst (jB 1 ((wd:Nat)+1)))) D (.lst [])):=g2.trans ((ba.refl g2.cy).new hD);have nL:L≠p:=(ba.refl g1.cy).ne hL;have nD:D≠p:=(ba.refl g2.cy).ne hD;have Nj:L≠D:=λz=>by rw[←z,ae]at hD;cases hD
 have hL0:(upd (upd (upd H r (.A3 1 ((wd:Nat)+1))) L (.lst (jB 1 ((wd:Nat)+1)))) D (.lst [])) L=some (.lst (((List.range wd).map λi=>(1:Int)+(i:Nat)).map V.int)):=by rw[aI Nj,ae,List.map_map];unfold jB;rw[show(((wd:Nat):Int)+1-1).toNat=wd by omega];rfl
 have N6:(upd (upd (upd H r (.A3 1 ((wd:Nat)+1))) L (.lst (jB 1 ((wd:Nat)+1)))) D (.lst [])) D=some (.lst []):=ae;have Ow:H L=none:=by
  cases z:H L with
  |none=>rfl
  |some o=>rw[aI (a_ z hr1),z]at hL;cases hL
 have Nq:H D=none:=by
  cases z:H D with
  |none=>rfl
  |some o =>
   by_cases e:D=L
   ·exact UC e.symm Nj
   ·rw[aI e,aI (a_ z hr1),z]at hD;cases hD
 revert g3 hL0 N6;generalize (upd (upd (upd H r (.A3 1 ((wd:Nat)+1))) L (.lst (jB 1 ((wd:Nat)+1)))) D (.lst []))=H0;intro g3 hL0 N6;have ng:∀{H':Hp}{o:HO}{a:Addr},H a=none->a≠p->ba p H H'->ba p H (upd H' a o):=λ{H' o a} ha na g'=>(ba.refl hP).put ha na g';refine⟨_,rfl,_,rfl,p,_,rfl,g3.cy,by omega,cG (by omega) (by omega),λd H1 gd a1 b1=>⟨_,_,rfl,rfl,_,rfl,(kR (j:=1+d) (by omega) (by omega)).1,(kR (j:=1+d) (by omega) (by omega)).2,?_⟩⟩;refine kD (n:=(1+d).toNat) (λi σ H'=>∃(o:Option V)(ms:List Int)(bs:List Addr)(od:Od),σ=[some (.ref p),some (.int (wd:Nat)),some (.ref L),some (.ref D),o]/\H' L=some (.lst (ms.map V.int))/\ms.length+i=wd/\(∀m∈ms,1<=m/\m<=wd)/\
   H' D=some (.lst (bs.map V.ref))/\(bs.length=od.length/\∀(i:Nat) b q,bs[i]? = some b->od[i]? = some q->FZ H' b q)/\od.length=i/\(∀q∈od,1<=q.1/\q.1<=wd)/\ba p H H')
  ⟨none,_,[],[],rfl,gd.keep _ _ nL hL0,by simp,λm hm=>?_,gd.keep _ _ nD N6,⟨rfl,λi b q e=>by cases e⟩,rfl,(λ_ z=>nomatch z),g3.trans gd⟩ ?_ ?_
 ·obtain⟨i,hi,rfl⟩:=Ui.mp hm;have:i<wd:=by simpa using hi
  omega
 ·rintro i σ H' hi ⟨o,ms,bs,od,rfl,hL',O7,hmb,hD',⟨ue,hbt⟩,hol,hob,g'⟩;have hms:1<=ms.length:=by omega
  have Hr:(ms.map V.int).length=ms.length:=TZ ..;refine aj ?_;dsimp only;refine⟨_,rfl,.inl ⟨rfl,_,bj.of hD'⟩,_,rfl,.inl ⟨rfl,_,bj.of hL'⟩,_,rfl,_,rfl,L,_,rfl,.inl (bj.of hL'),p,_,rfl,g'.cy,by rw[Hr];omega,cG (by rw[Hr];omega) (by rw[Hr];omega),λd1 H2 Ks a2 b2=>?_⟩;rw[Hr]at b2;have hL2:=Ks.keep _ _ nL hL';have hk:d1.toNat<ms.length:=by omega
  refine⟨L,_,d1,d1.toNat,V.int ms[d1.toNat],rfl,rfl,hL2,?_,?_,?_,by simp[hk],?_⟩
  ·have e:((2:Int) ^ 63)=9223372036854775808:=by decide
   rw[e];omega
  ·have e:((2:Int) ^ 63)=9223372036854775808:=by decide
   rw[e];omega
  ·rw[Hr];exact PySem.seqIndex_of a2 b2
  ·have gA:ba p H (upd H2 L (.lst ((ms.map V.int).eraseIdx d1.toNat))):=ng Ow nL (g'.trans Ks);refine⟨_,rfl,p,_,rfl,gA.cy,by omega,cG (by omega) (by omega),λd2 H4 g4 a4 b4=>⟨rfl,cn,λT hT=>?_⟩⟩;have QN:H4 L=some (.lst ((ms.eraseIdx d1.toNat).map V.int)):=by have:=g4.keep _ _ nL ae;rw[this,r8]
   have yI:(upd H2 L (.lst ((ms.map V.int).eraseIdx d1.toNat))) D=some (.lst (bs.map V.ref)):=by rw[aI Nj.symm];exact Ks.keep _ _ nD hD'
   have Ku:=g4.keep _ _ nD yI;have sT:=ag hT (.tup [.int ms[d1.toNat],.bl (decide (V.int d2=V.int 1))]);have tp:aJ H' H4:=((aJ.grow g'.cy Ks).iK hL2).trans (aJ.grow gA.cy g4);have hDT:=sT _ _ Ku;refine⟨D,_,.ref T,rfl,rfl,hDT,?_,?_⟩
   ·rw[TZ,ue];exact T8 (show od.length<=1000 by omega) (by decide)
   ·refine⟨_,ms.eraseIdx d1.toNat,bs++[T],od++[(ms[d1.toNat],decide (V.int d2=V.int 1))],rfl,?_,?_,λm hm=>hmb m (List.mem_of_mem_eraseIdx hm),by rw[ae,T4];rfl,i8 ue hbt (λa x z=>(tp.trans (aJ.of sT)).iK hDT _ _ z) (aJ.refl.iK hDT _ _ ae),by rw[T1,hol];rfl,λq' hq'=>?_,ng Nq nD ((gA.trans g4).trans ((ba.refl (gA.trans g4).cy).new hT))⟩
    ·rw[aI Nj];exact sT _ _ QN
    ·rw[List.length_eraseIdx_of_lt hk];omega
    ·rcases Ul.mp hq' with z|z
     ·exact hob q' z
     ·rw[Uh.mp z];exact hmb _ (List.getElem_mem hk)
 ·rintro σ H' ⟨o,ms,bs,od,rfl,hL',O7,hmb,hD',⟨ue,hbt⟩,hol,hob,g'⟩;dsimp only;exact⟨_,rfl,D,_,rfl,.inl ⟨bj.of hD',λt ht=>q t bs od _ (g'.new ht) ⟨ae,ue,λi a x e1 e2=>ag ht _ _ _ (hbt i a x e1 e2)⟩ (by omega) hob⟩⟩
end My
namespace L2
open PySem
def Js(neg:Bool):R2:=λx y H Q=>∃a b xs,x=.ref a/\y=.ref b/\H a=some (.lst xs)/\H b=some (.lst [])/\Q (.bl (if neg then !xs.isEmpty else xs.isEmpty)) H
theorem mG{X:Cx}(hu:X.A.units+8<cLine):jl X (compareOp .NotEq) (Js true):=by
 intro ac s σ H x y v u Q I rx ry h;obtain⟨a,b,xs,rfl,rfl,ha,hb,q⟩:=h;cases xs with
 |nil =>
  refine jI ac s σ H _ _ v u Q I rx ry ⟨.lst [],.lst [],o_ ha aK.nil,o_ hb aK.nil,?_,?_⟩
  ·have:(D.lst []).depth<=8:=by simp[D.depth,cT]
   omega
  ·have e:cK (.lst []) (.lst [])=true:=lS _;rw[e];exact q
 |cons z zs=>exact Eb (by omega) ac s σ H _ _ v u Q I rx ry ⟨a,b,_,_,rfl,rfl,bj.of ha,bj.of hb,by simp,q⟩
theorem uN{X:Cx}(hu:X.A.units+8<cLine):jl X (compareOp .Eq) (Js false):=by
 intro ac s σ H x y v u Q I rx ry h;obtain⟨a,b,xs,rfl,rfl,ha,hb,q⟩:=h;cases xs with
 |nil =>
  refine wc ac s σ H _ _ v u Q I rx ry ⟨.lst [],.lst [],o_ ha aK.nil,o_ hb aK.nil,?_,?_⟩
  ·have:(D.lst []).depth<=8:=by simp[D.depth,cT]
   omega
  ·have e:cK (.lst []) (.lst [])=true:=lS _;rw[e];exact q
 |cons z zs=>exact B7 (by omega) ac s σ H _ _ v u Q I rx ry ⟨a,b,_,_,rfl,rfl,bj.of ha,bj.of hb,by simp,q⟩
end L2
namespace My
open PySem L2
theorem bH{tc:TT}{a t2:TS}{D:Ends}{σ:St}{H:Hp}(Pb:Bool->Hp->Prop)(hc:∀T:Bool->Hp->Prop,(∀c H',Pb c H'->T c H')->tc σ H T)(ha:∀H',Pb true H'->a {D with nx:=t2 D} σ H')(hb:∀H',Pb false H'->t2 D σ H'):xN (E4 tc a uu) t2 D σ H :=
 hc _ λc H' h=>by
  cases c with
  |true=>exact dX (ha H' h)
  |false=>exact cV (hb H' h)
structure dZ(ss:Hd):Prop where
 pos:1<=ss.length
 six:ss.length<=6
 EH:∀s∈ss,s="n"\/s="w"\/s="t"
structure hZ(ss:Hd)(x:W1):Prop where
 col:∀c∈cZ x,1<=c/\c<=ss.length
 EH:bK (.one x) [ss]=true
 hd:dZ (bf (.one x) [ss])
 ok:lL (.one x)
 le:jE x
theorem qf{ss:Hd}{c:Int}(h:1<=c/\c<=ss.length):bz ss c∈ss:=by
 have hi:(c-1).toNat<ss.length:=by omega
 unfold bz;rw[List.getD_eq_getElem?_getD,T_ hi];exact List.getElem_mem hi
theorem dZ.map{ss:Hd}(h:dZ ss){cs:List Int}(hc:∀c∈cs,1<=c/\c<=ss.length):∀s∈cs.map (bz ss),s="n"\/s="w"\/s="t":=λs hs=>by obtain⟨c,hc',rfl⟩:=Ui.mp hs;exact h.EH _ (qf (hc c hc'))
theorem eX{x:W1}(h1:iq x)(h2:GY x)(h3:Ot (.one x)):lL (.one x):=⟨h1,h2,h3,λp hp=>(by cases hp)⟩
theorem kC{ss:Hd}{c:Int}(h:c∈eK ss):(1<=c/\c<=ss.length)/\bz ss c≠"t":=by obtain⟨k,hk,rfl⟩:=Ui.mp h;obtain⟨h1,h2⟩:=List.mem_filter.mp hk;have h1:k<ss.length:=List.mem_range.mp h1;refine⟨by omega,λz=>?_⟩;unfold bz at z;rw[show((k:Int)+1-1).toNat=k by omega]at z;rw[z]at h2;exact UC h2 (by decide)
theorem C0{ss:Hd}(h:dZ ss){c:Int}(hc:1<=c/\c<=ss.length)(ht:bz ss c≠"t"):bz ss c="n"\/bz ss c="w":=by
 rcases h.EH _ (qf hc)with z|z|z
 ·exact .inl z
 ·exact .inr z
 ·exact UC z ht
theorem CB{ss:Hd}{c:Int}(h:dZ ss)(hc:1<=c/\c<=ss.length):hZ ss (.keep c (AQ (bz ss c))):=by refine⟨λd hd=>by rw[Uh.mp hd];exact hc,?_,h,eX trivial trivial trivial,trivial⟩;show decide (AQ (bz ss c)=cE (bz ss c))=true;rcases h.EH _ (qf hc)with z|z|z<;>rw[z]<;>decide +kernel
theorem Fx{ss:Hd}{cs:List Int}(h:dZ ss)(hc:∀c∈cs,1<=c/\c<=ss.length)(l1:1<=cs.length)(l2:cs.length<=6):hZ ss (.cut cs) :=
 ⟨hc,rfl,⟨by show 1<=(cs.map _).length;rw[TZ];exact l1,by show(cs.map _).length<=6;rw[TZ];exact l2,h.map hc⟩,eX (show cs.length<=1000 by omega) trivial trivial,trivial⟩
theorem Df{ss:Hd}{c d:Int}(h:dZ ss)(hc:1<=c/\c<=ss.length)(hd:1<=d/\d<=ss.length)(ht:bz ss c≠"t")(e:bz ss d=bz ss c):hZ ss (.same c d):=by
 refine⟨λb hb=>?_,?_,h,eX trivial trivial trivial,trivial⟩
 ·simp only[cZ,Uj,UG,or_false]at hb;rcases hb with rfl|rfl
  ·exact hc
  ·exact hd
 ·show(decide (bz ss c=bz ss d) && !decide (bz ss c="t"))=true;rw[e,TY rfl,TX ht];rfl
theorem m9{s:Str}{vs:List V}(hs:s="n"\/s="w")(h:∀v∈vs,v∈cellsV s):gW vs s=true:=by unfold gW;rw[TX (by rcases hs with z|z<;>rw[z]<;>decide +kernel)];refine(UA _ _).mpr ⟨rfl,List.all_eq_true.mpr λv hv=>TY ((gF (h v hv)).2 hs)⟩
theorem D7{ss:Hd}{c:Int}{ps:List (V×V)}(h:dZ ss)(hc:1<=c/\c<=ss.length)(ht:bz ss c≠"t")(l2:ps.length<=3)(hp:∀q∈ps,q.1∈cellsV (bz ss c)/\q.2∈cellsV (bz ss c)):hZ ss (.turn c ps):=by
 refine⟨λd hd=>by rw[Uh.mp hd];exact hc,?_,h,eX (show ps.length<=1000 by omega) (λq hq=>⟨(gF (hp q hq).1).1,(gF (hp q hq).2).1⟩) trivial,trivial⟩;refine m9 (C0 h hc ht) λv hv=>?_;obtain⟨q,hq,hv⟩:=List.mem_flatMap.mp hv;simp only[Uj,UG,or_false]at hv;rcases hv with rfl|rfl
 ·exact(hp q hq).1
 ·exact(hp q hq).2
theorem Dz{ss:Hd}{c:Int}{g:Str}{ps:List (V×V)}(h:dZ ss)(hc:1<=c/\c<=ss.length)(ht:bz ss c≠"t")(hg:g="n"\/g="w")(l1:1<=ps.length)(l2:ps.length<=3)(hp:∀q∈ps,q.1∈cellsV (bz ss c)/\q.2∈cellsV g):hZ ss (.must c ps):=by
 have hn:ps≠[]:=λz=>by rw[z]at l1;cases l1
 have e2:∀q∈ps,sW q.2=g:=λq hq=>(gF (hp q hq).2).2 hg;have eh:bf (.one (.must c ps)) [ss]=ss.take (c-1).toNat++[g]++ss.drop c.toNat:=by
  cases ps with
  |nil=>exact UC rfl hn
  |cons q r=>show ss.take _++[sW q.2]++_=_;rw[e2 q (by simp)];rfl
 refine⟨λd hd=>by rw[Uh.mp hd];exact hc,?_,?_,eX (show ps.length<=1000 by omega) (λq hq=>⟨(gF (hp q hq).1).1,(gF (hp q hq).2).1⟩) hn,trivial⟩
 ·refine(UA _ _).mpr ⟨?_,m9 (C0 h hc ht) λv hv=>?_⟩
  ·unfold gS;refine List.all_eq_true.mpr λs hs=>?_;obtain⟨q,hq,rfl⟩:=Ui.mp hs;cases ps with
   |nil=>cases hq
   |cons q0 r=>exact TY (by rw[e2 q hq];exact(e2 q0 (by simp)).symm)
  ·obtain⟨q,hq,rfl⟩:=Ui.mp hv;exact(hp q hq).1
 ·rw[eh];have:=h.six;have l:(ss.take (c-1).toNat++[g]++ss.drop c.toNat).length=ss.length:=by rw[T1,T1,Ut,List.length_drop,List.length_singleton];omega
  refine⟨by rw[l];exact h.pos,by rw[l];exact h.six,λs hs=>?_⟩;rcases Ul.mp hs with z|z
  ·rcases Ul.mp z with z|z
   ·exact h.EH s (List.mem_of_mem_take z)
   ·rw[Uh.mp z];rcases hg with z|z<;>simp[z]
  ·exact h.EH s (List.mem_of_mem_drop z)
def vO:Sp:=λvs H Q _=>∃(p l:Addr)(ss:Hd)(lo:Bool),vs=[.ref p,.ref l,.bl lo]/\dz H p/\dY H l ss/\dZ ss/\∀(a:Addr)(x:W1) H',ba p H H'->du H' a x->hZ ss x->cP x.nm=true->(eZ (.one x)=true->lo=false)->Q (.ref a) H'
theorem oj{H:Hp}{p l:Addr}{ss:Hd}(hP:dz H p)(hl:dY H l ss)(h1:1<=ss.length):l≠p:=λz=>by
 obtain⟨a,b,e,_⟩:=hP;have hl:H l=some (.lst (ss.map V.str)):=hl;rw[z,e]at hl;cases ss with
 |nil=>cases h1
 |cons s r=>injection hl with hl;injection hl with hl;injection hl with hl;cases hl
theorem l0{ss:Hd}{c:Int}(h:1<=c/\c<=ss.length):y0 (ss.map V.str) (c-1)=some (.str (bz ss c)):=fG h
theorem rp{a b:Int}:decide (V.int a=V.int b)=decide (a=b):=by
 by_cases e:a=b
 ·rw[e];simp
 ·rw[TX e,TX (λz=>e (V.int.inj z))]
theorem FT:cP "keep"=true:=by decide +kernel
theorem Jr:cP "cut"=true:=by decide +kernel
theorem F4:cP "same"=true:=by decide +kernel
theorem EK:cP "turn"=true:=by decide +kernel
theorem Fw:cP "must"=true:=by decide +kernel
theorem tK{cs:List Int}{i:Int}{v:V}(h0:0<=i)(h1:i<((cs.map V.int).length:Nat)):∃c,y0 (cs.map V.int) i=some (.int c)/\c∈cs:=by
 obtain⟨v,hv,hm⟩:=ib h0 h1;rw[Us]at hm;cases e:cs[i.toNat]? with
 |none=>rw[e]at hm;cases hm
 |some c =>rw[e]at hm;have hm:V.int c=v:=Up hm;subst hm;exact⟨c,hv,Ub e⟩
abbrev gx:Stmt:=top 90
theorem cf:av ["_law_pot_here","_law_sorts","_law_loose","_law_way","_law_some","_law_column","_law_sort","_law_alike"] ["_law_pot_here","_law_sorts","_law_loose"] (ao gx):=fs
variable{P:Program}{w:World}{K:UX}{mg:Str->Option Value}{base:Heap}
theorem zR(B:j7 mg)(F:FA K mg "_law_one_row" gx)
  (ay:bA bx P w K mg base 1 "_law_draw" ["_law_pot_here","_law_many"] fm)
  (jc:bA bx P w K mg base 1 "_law_plain" ["_law_sorts"] sM)
  (yb:bA bx P w K mg base 2 "_law_set" ["_law_pot_here","_law_sort"] CQ)
  (eJ:bA bx P w K mg base 2 "_law_columns" ["_law_pot_here","_law_wide","_law_least","_law_most"] sO)
  (mn:bA bx P w K mg base 2 "_law_pairs" ["_law_pot_here","_law_sort","_law_goal"] uz) :
  bA bx P w K mg base 3 "_law_one_row" ["_law_pot_here","_law_sorts","_law_loose"] vO:=by
 refine F.ok cf λf cdv A outer s H vs Q E hr h=>?_;have hu:=iH hr;obtain⟨p,l,ss,lo,rfl,hP,hl,hs,q⟩:=h;refine⟨_,(aq (bc (i:=3) cf.nd rfl (UH rfl) (aL ay hr (aa (pv 0) (aa ai ah))))
   (aq (bc (i:=4) cf.nd rfl (UH rfl) (aL jc hr (aa (pv 1) ah)))
   (aq (jv (bg bO (pv 3) ai)
    (aq (bc (i:=5) cf.nd rfl (UH rfl) (aQ cb ai (aL ay hr (aa (pv 0) (aa (aN aU rfl B.len UU (aa (pv 1) ah)) ah)))))
     (ax (aW (aa au (aa (pv 5) (aa (aL yb hr (aa (pv 0) (aa (bM K (pv 1) (aQ ck (pv 5) ai)) ah))) ah))))))
    fv)
   (bu (PW.pt (oo (bg bO (pv 3) ai) (m7 (bg (uN hu) (pv 4) (bZ ah))))) (aW (aa au (aa (aL eJ hr (aa (pv 0) (aa (aN aU rfl B.len UU (aa (pv 1) ah)) (aa ai (aa ai ah))))) ah)))
   (aq (bc (i:=5) cf.nd rfl (UH rfl) (bM K (pv 4) (aL ay hr (aa (pv 0) (aa (aN aU rfl B.len UU (aa (pv 4) ah)) ah)))))
   (aq (bc (i:=6) cf.nd rfl (Or.inr rfl) (bM K (pv 1) (aQ ck (pv 5) ai)))
   (aq (fo (i:=7) (N':=["_law_other_here","_law_sorts","_law_sort"]) (src:=[none,some 1,some 6]) cf.nd rfl (UH rfl) rfl rfl (bh.lJ (by kernel_rfl)) (eU (pv 4)) (λcl C s H fp=>(fX (i:=0))) (tc:=(kY (fQ M0 (fQ (lP K) (bF 1) (fQ (v7 λi j=>V.int (i-j)) (bF 0) (tC (.int 1)))) (bF 2)))) (λcl C s H fp=>iN (bg bO (bM K (ug 1) (aQ ck (i3 0) ai)) (ug 2))) (te:=(bF 0)) (λcl C s H fp=>(i3 0)))
   (bu (bg bO (pv 3) ai) (aW (aa au (aa (pv 5) (aa (bM K (pv 7) (aL ay hr (aa (pv 0) (aa (aN aU rfl B.len UU (aa (pv 7) ah)) ah)))) ah))))
   (bu (PW.pt (oo (bg bO (pv 3) ai) (m7 (fh (pv 2))))) (aW (aa au (aa (pv 5) (aa (aL mn hr (aa (pv 0) (aa (pv 6) (aa (pv 6) ah)))) ah))))
   (ax (aW (aa au (aa (pv 5) (aa (aL mn hr (aa (pv 0) (aa (pv 6) (aa (bM K (bZ (aa au (aa au ah))) (aL ay hr (aa (pv 0) (aa ai ah)))) ah)))) ah)))))))))))))),?_⟩
 have s1:=hs.pos;have s6:=hs.six;have hn:(ss.map V.str).length=ss.length:=TZ ..;have nl:l≠p:=oj hP hl hs.pos;refine⟨_,rfl,p,_,rfl,hP,by decide,by decide,λd H1 g1 a1 b1=>aj ?_⟩;dsimp only;have hl1:dY H1 l ss:=g1.keep _ _ nl hl;refine⟨_,rfl,l,ss,rfl,hl1,TV s6 (by decide),λu H2 OB s2 hu'=>aj ?_⟩;dsimp only;have g2:ba p H H2:=g1.trans (ba.same g1.cy s2);have hl2:dY H2 l ss:=s2 _ _ hl1;have nu:u≠p:=g1.ne OB;refine bH (λb H'=>b=decide (d=0)/\H2=H') (λT hT=>⟨_,rfl,rfl,_,rfl,hT _ _ ⟨rp,rfl⟩⟩) ?_ ?_
 ·rintro H' ⟨e,rfl⟩;refine⟨_,rfl,_,rfl,l,_,rfl,.inl (bj.of hl2),p,_,rfl,g2.cy,by omega,cG (by omega) (by omega),λd1 H3 g3 a3 b3=>⟨_,_,rfl,rfl,aj ?_⟩⟩;dsimp only;have hc:1<=1+d1/\1+d1<=ss.length:=by omega
  have Nf:=g2.trans g3;refine⟨_,rfl,_,rfl,_,rfl,_,rfl,_,_,rfl,rfl,l,_,_,_,rfl,rfl,bj.of (g3.keep _ _ nl hl2),l0 hc,p,bz ss (1+d1),rfl,g3.cy,λa xs H4 g4 ha=>⟨cm,λT hT=>?_⟩⟩;exact q T (.keep (1+d1) (AQ (bz ss (1+d1)))) _ ((Nf.trans g4).new hT) ⟨a,xs,ae,ag hT _ _ _ ha⟩ (CB hs hc) FT (λz=>by cases z)
 rintro H' ⟨_,rfl⟩;refine bH (λb H'=>(b=false->eK ss≠[])/\aG H2 H') (λT hT=>?_) ?_ ?_
 ·refine nY ⟨_,rfl,rfl,_,rfl,?_⟩;refine fw (λ_=>hT _ _ ⟨λz=>(by cases z),aG.refl _⟩) λ_=>?_;refine⟨_,rfl,Uo _,λL hL=>⟨u,L,_,rfl,rfl,ag hL _ _ _ hu',ae,_,rfl,hT _ _ ⟨λz e=>?_,ag hL _⟩⟩⟩;rw[e]at z;cases z
 ·rintro H3 ⟨_,s3⟩;have g3:ba p H H3:=g2.trans (ba.same g2.cy s3);refine⟨_,rfl,_,rfl,l,_,rfl,.inl (bj.of (s3 _ _ hl2)),p,ss.length,1,6,by rw[hn];rfl,g3.cy,s1,by omega,by omega,by omega,λt cs H4 g4 ht c1 c2 hc=>⟨cn,λT hT=>?_⟩⟩;exact q T (.cut cs) _ ((g3.trans g4).new hT) ⟨t,ae,ag hT _ _ _ ht⟩ (Fx hs hc c1 c2) Jr (λz=>by cases z)
 rintro H3 ⟨hne,s3⟩;have hne:=hne rfl;have g3:ba p H H3:=g2.trans (ba.same g2.cy s3);have sG:=s3 _ _ hu';have Hr:1<=((eK ss).map V.int).length:=by rw[TZ];exact List.length_pos_iff.mpr hne
 have Nt:((eK ss).map V.int).length<=6:=by rw[TZ,eK,TZ];exact TV (List.length_filter_le _ _) (by rw[List.length_range];exact s6)
 refine⟨_,rfl,_,rfl,_,rfl,u,_,rfl,.inl (bj.of sG),p,_,rfl,g3.cy,by omega,cG (by omega) (by omega),λd1 H4 g4 a4 b4=>?_⟩;obtain⟨c,hca,hcm⟩:=tK (v:=.non) a4 b4;obtain⟨hc,ht⟩:=kC hcm;have rL:=g4.keep _ _ nu sG;have M3:dY H4 l ss:=g4.keep _ _ nl (s3 _ _ hl2);have Jw:=g3.trans g4;refine⟨u,_,_,_,rfl,rfl,bj.of rL,hca,aj ?_⟩;dsimp only;refine⟨_,rfl,_,rfl,_,_,rfl,rfl,l,_,_,_,rfl,rfl,bj.of M3,l0 hc,aj ?_⟩;dsimp only;refine⟨_,rfl,u,rfl,⟨_,bj.of rL⟩,λD hD=>?_⟩;refine fe (xs:=(eK ss).map V.int) (λi σ ys H'=>(∃o1,σ=[o1,some (.ref l),some (.str (bz ss c))])/\ys=(((eK ss).take i).filter λe=>decide (bz ss e=bz ss c)).map V.int/\ys.length<=i/\H' D=some (.lst ys)/\aG H4 H') ⟨⟨none,rfl⟩,rfl,TU _,ae,ag hD _⟩ ?_ ?_ ?_ ?_ ?_
 ·rintro i σ ys H' _ ⟨_,_,hi,h,_⟩;exact⟨h,hi⟩
 ·rintro i σ ys H' _ ⟨_,_,_,_,sm⟩;exact bj.of (sm _ _ rL)
 ·exact TV Nt (by decide)
 ·rintro i v σ ys H' hv ⟨⟨o1,rfl⟩,rfl,hi,h,sm⟩;rw[Us]at hv;cases ee:(eK ss)[i]? with
  |none=>rw[ee]at hv;cases hv
  |some e =>
   rw[ee]at hv;have hv:V.int e=v:=Up hv;subst hv;obtain⟨he,_⟩:=kC (Ub ee);refine aj ?_;refine⟨_,rfl,_,rfl,_,_,rfl,rfl,l,_,_,_,rfl,rfl,bj.of (sm _ _ M3),l0 he,_,rfl,rfl,_,rfl,?_⟩;rw[f9];by_cases k:bz ss e=bz ss c
   ·rw[TY k];refine dX ⟨_,rfl,h,⟨_,rfl⟩,?_,?_,ae,bo hD sm⟩
    ·rw[take_one ee,List.filter_append,List.filter_cons_of_pos (by rw[TY k]),T4];rfl
    ·rw[T1];exact Nat.succ_le_succ hi
   ·rw[TX k];refine cV ⟨⟨_,rfl⟩,?_,Nat.le_succ_of_le hi,h,sm⟩;rw[take_one ee,List.filter_append,List.filter_cons_of_neg (by rw[TX k];exact Ud)];simp
 rintro σ ys H5 ⟨_,rfl,_,EM,sm⟩;rw[TZ,UI]at EM;have g5:ba p H H5:=Jw.trans (ba.same Jw.cy sm);have nD:D≠p:=Jw.ne hD;refine aj ?_;dsimp only;refine bH (λb H'=>b=decide (d=2)/\H5=H') (λT hT=>⟨_,rfl,rfl,_,rfl,hT _ _ ⟨rp,rfl⟩⟩) ?_ ?_
 ·rintro H' ⟨_,rfl⟩;have hal:1<=((((eK ss).filter λe=>decide (bz ss e=bz ss c))).map V.int).length:=by rw[TZ];exact List.length_pos_of_mem (List.mem_filter.mpr ⟨hcm,TY rfl⟩)
  have RW:((((eK ss).filter λe=>decide (bz ss e=bz ss c))).map V.int).length<=6:=by rw[TZ]at Nt⊢;exact TV (List.length_filter_le _ _) Nt
  refine⟨_,rfl,_,rfl,_,rfl,_,rfl,D,_,rfl,.inl (bj.of EM),p,_,rfl,g5.cy,by omega,cG (by omega) (by omega),λd2 H6 g6 a6 b6=>?_⟩;obtain⟨e,OQ,MZ⟩:=tK (v:=.non) a6 b6;obtain⟨RK,R7⟩:=List.mem_filter.mp MZ;refine⟨D,_,_,_,rfl,rfl,bj.of (g6.keep _ _ nD EM),OQ,cm,λT hT=>?_⟩;exact q T (.same c e) _ ((g5.trans g6).new hT) ae (Df hs hc (kC RK).1 ht (UB R7)) F4 (λz=>by cases z)
 rintro H' ⟨_,rfl⟩;refine bH (λb H'=>(b=false->lo=false)/\H5=H') (λT hT=>?_) ?_ ?_
 ·refine nY ⟨_,rfl,rfl,_,rfl,?_⟩;refine fw (λ_=>hT _ _ ⟨λz=>(by cases z),rfl⟩) λ_=>?_;exact⟨_,rfl,lo,rfl,hT _ _ ⟨λz=>z,rfl⟩⟩
 ·rintro H' ⟨_,rfl⟩;refine⟨_,rfl,_,rfl,_,rfl,_,rfl,p,_,_,rfl,g5.cy,λt bs ps H6 g6 hI p1 p2 hp=>⟨cm,λT hT=>?_⟩⟩;exact q T (.turn c ps) _ ((g5.trans g6).new hT) ⟨t,bs,ae,hI.keep (aJ.of (ag hT _)) λ_ _ z=>ag hT _ _ _ z⟩ (D7 hs hc ht p2 hp) EK (λz=>by cases z)
 rintro H' ⟨hlo,rfl⟩;have hlo:=hlo rfl;refine⟨_,rfl,_,rfl,_,rfl,cn,λL hL=>⟨_,rfl,p,_,rfl,(g5.new hL).cy,by decide,by decide,λd2 H6 g6 a6 b6=>?_⟩⟩;have nL:L≠p:=g5.ne hL;obtain⟨v,hv,hm⟩:=ib (xs:=[V.str "n",.str "w"]) a6 b6;obtain⟨gg,M6,eg⟩ :∃gg:Str,(gg="n"\/gg="w")/\v=.str gg:=by
  have:=Ub hm;simp only[Uj,UG,or_false]at this;rcases this with rfl|rfl
  ·exact⟨_,.inl rfl,rfl⟩
  ·exact⟨_,.inr rfl,rfl⟩
 subst eg;refine⟨L,_,_,_,rfl,rfl,bj.of (g6.keep _ _ nL ae),hv,p,_,gg,rfl,g6.cy,λt bs ps H7 g7 hI p1 p2 hp=>⟨cm,λT hT=>?_⟩⟩;exact q T (.must c ps) _ ((((g5.new hL).trans g6).trans g7).new hT) ⟨t,bs,ae,hI.keep (aJ.of (ag hT _)) λ_ _ z=>ag hT _ _ _ z⟩ (Dz hs hc ht M6 p1 p2 hp) Fw (λ_=>hlo)
theorem jt{t u:TT}{σ:St}{H:Hp}{Q:Bool->Hp->Prop}(h:t σ H λc H1=>if c=true then u σ H1 Q else Q false H1):La t u σ H Q:=h
def ny:W1->Bool
 | .walk ..=>true
 |_=>false
theorem dZ.snoc{hs:Hd}{s:Str}(h1:hs.length<=5)(h2:∀s∈hs,s="n"\/s="w"\/s="t")(h3:s="n"\/s="w"\/s="t"):dZ (hs++[s]):=by
 refine⟨by rw[T1];exact Nat.le_add_left _ _,by rw[T1];exact Nat.succ_le_succ h1,λx hx=>?_⟩;rcases Ul.mp hx with z|z
 ·exact h2 x z
 ·rw[Uh.mp z];exact h3
theorem BS{ss:Hd}{od:Od}(h:dZ ss)(hl:od.length<=ss.length)(hc:∀e∈od,1<=e.1/\e.1<=ss.length):hZ ss (.sort od):=by have:=h.six;refine⟨λc hcm=>?_,rfl,h,eX (show od.length<=1000 by omega) trivial trivial,show od.length<=12 by omega⟩;obtain⟨e,he,rfl⟩:=Ui.mp hcm;exact hc e he
theorem Ax{ss:Hd}{cs:List Int}(h:dZ ss)(hc:∀c∈cs,1<=c/\c<=ss.length)(l2:cs.length<=5):hZ ss (.count cs) :=
 ⟨hc,rfl,dZ.snoc (by rw[TZ];exact l2) (h.map hc) (.inr (.inr rfl)),eX (show cs.length<=1000 by omega) trivial trivial,trivial⟩
theorem FQ{ss:Hd}{cs:List Int}{c:Int}(h:dZ ss)(hc:∀c∈cs,1<=c/\c<=ss.length)(l2:cs.length<=5)(hd:1<=c/\c<=ss.length)(hw:bz ss c≠"w"):hZ ss (.sum cs c):=by
 refine⟨λd hdm=>?_,?_,dZ.snoc (by rw[TZ];exact l2) (h.map hc) (.inr (.inr rfl)),eX (show cs.length<=1000 by omega) trivial trivial,trivial⟩
 ·rcases Ul.mp hdm with z|z
  ·exact hc d z
  ·rw[Uh.mp z];exact hd
 ·show(!decide (bz ss c="w"))=true;rw[TX hw];rfl
theorem xr{ss:Hd}(h:dZ ss)(hw:ss.length<6):hZ ss .number:=⟨λd hd=>(by cases hd),rfl,dZ.snoc (Nat.le_of_lt_succ hw) h.EH (.inr (.inr rfl)),eX trivial trivial trivial,trivial⟩
theorem zP{ss:Hd}{n:Int}(h:dZ ss):hZ ss (.first n):=⟨λd hd=>(by cases hd),rfl,h,eX trivial trivial trivial,trivial⟩
theorem AK{ss:Hd}(h:dZ ss):hZ ss .apart:=⟨λd hd=>(by cases hd),rfl,h,eX trivial trivial trivial,trivial⟩
theorem Bu{ss:Hd}{c:Int}{v:V}(h:dZ ss)(hw:ss.length<6)(hc:1<=c/\c<=ss.length)(ht:bz ss c≠"t")(hv:v∈cellsV (bz ss c)):hZ ss (.walk c [v,.non,.non]):=by
 have hcl:=gF hv;refine⟨λd hd=>by rw[Uh.mp hd];exact hc,?_,dZ.snoc (Nat.le_of_lt_succ hw) h.EH (.inr (.inl rfl)),eX (show 3<=1000 by decide) (λu hu=>?_) trivial,trivial⟩
 ·refine m9 (C0 h hc ht) λu hu=>?_;obtain⟨h1,h2⟩:=List.mem_filter.mp hu;simp only[Uj,UG,or_false]at h1;rcases h1 with rfl|rfl|rfl
  ·exact hv
  ·cases h2
  ·cases h2
 ·simp only[Uj,UG,or_false]at hu;rcases hu with rfl|rfl|rfl
  ·exact .inr hcl.1
  ·exact .inl rfl
  ·exact .inl rfl
def Cw(ss:Hd):List Int:=((List.range ss.length).filter λk=>!decide (ss.getD k ""="w")).map λ(k:Nat)=>(k:Int)+1
theorem yy{ss:Hd}{c:Int}(h:c∈Cw ss):(1<=c/\c<=ss.length)/\bz ss c≠"w":=by obtain⟨k,hk,rfl⟩:=Ui.mp h;obtain⟨h1,h2⟩:=List.mem_filter.mp hk;have h1:k<ss.length:=List.mem_range.mp h1;refine⟨by omega,λz=>?_⟩;unfold bz at z;rw[show((k:Int)+1-1).toNat=k by omega]at z;rw[z]at h2;exact UC h2 (by decide)
theorem zm{n:Nat}{p:Nat->Bool}{g:Nat->Int}:(((List.range n).filter p).map g).length<=n:=by rw[TZ];exact TV (List.length_filter_le _ _) (by rw[List.length_range];exact TU _)
def zh:Sp:=λvs H Q _=>∃(p l:Addr)(ss:Hd)(fr:Bool),vs=[.ref p,.ref l,.bl fr]/\dz H p/\dY H l ss/\dZ ss/\∀(a:Addr)(x:W1) H',ba p H H'->du H' a x->hZ ss x->eZ (.one x)=false->(ny x=true->fr=true)->(∀n,x=.first n->0<=n)->Q (.ref a) H'
abbrev ji:Stmt:=top 91
theorem cL:av ["_law_pot_here","_law_sorts","_law_free","_law_way","_law_wide","_law_numbers","_law_some","_law_column","_law_cell"] ["_law_pot_here","_law_sorts","_law_free"] (ao ji):=fs
theorem BZ(B:j7 mg)(F:FA K mg "_law_other" ji)
  (ay:bA bx P w K mg base 1 "_law_draw" ["_law_pot_here","_law_many"] fm)
  (jc:bA bx P w K mg base 1 "_law_plain" ["_law_sorts"] sM)
  (fY:bA bx P w K mg base 1 "_law_cells" ["_law_sort"] sE)
  (eJ:bA bx P w K mg base 2 "_law_columns" ["_law_pot_here","_law_wide","_law_least","_law_most"] sO)
  (ra:bA bx P w K mg base 2 "_law_unlike" ["_law_pot_here","_law_wide"] GW) :
  bA bx P w K mg base 3 "_law_other" ["_law_pot_here","_law_sorts","_law_free"] zh:=by
 refine F.ok cL λf cdv A outer s H vs Q E hr h=>?_;have hu:=iH hr;obtain⟨p,l,ss,fr,rfl,hP,hl,hs,q⟩:=h;refine rQ (cH (bc (i:=3) cL.nd rfl (UH rfl) (aL ay hr (aa (pv 0) (aa ai ah))))
  (cH (bc (i:=4) cL.nd rfl (UH rfl) (aN aU rfl B.len UU (aa (pv 1) ah)))
  (cH (fo (i:=5) (N':=["_law_k","_law_sorts"]) (src:=[none,some 1]) cL.nd rfl (UH rfl) rfl rfl (bh.lJ (by kernel_rfl)) (el rfl B.range (aa (pv 4) ah)) (λcl C s H fp=>(fX (i:=0))) (tc:=(kY (fQ OT (fQ (lP K) (bF 1) (bF 0)) (tC (.str "w"))))) (λcl C s H fp=>iN (bg uo (bM K (ug 1) (i3 0)) au)) (te:=(fQ (v7 λi j=>V.int (i+j)) (bF 0) (tC (.int 1)))) (λcl C s H fp=>(aQ cb (i3 0) ai)))
  (cH (bc (i:=6) cL.nd rfl (UH rfl) (aL jc hr (aa (pv 1) ah)))
  (d_ (bg bO (pv 3) ai) (cM (aH (ak (az au) (ak (az (aL ra hr (aa (pv 0) (aa (pv 4) ah)))) aE))))
  (d_ (bg bO (pv 3) ai) (cM (aH (ak (az au) (ak (az (aL eJ hr (aa (pv 0) (aa (pv 4) (aa ai (aa ai ah)))))) aE))))
  (d_ (PW.pt (ix (bg bO (pv 3) ai) (gX (bg (mG hu) (pv 5) (bZ ah))))) (cM (aH (ak (az au) (ak (az (aL eJ hr (aa (pv 0) (aa (pv 4) (aa ai (aa ai ah)))))) (ak (rq (r:=lP K) eE (az (pv 5)) (az (aL ay hr (aa (pv 0) (aa (aN aU rfl B.len UU (aa (pv 5) ah)) ah)))) (λ_ _=>rfl)) aE)))))
  (d_ (PW.pt (ix (bg bO (pv 3) ai) (gX (bg D5 (pv 4) ai)))) (cM (aH (ak (az au) aE)))
  (d_ (bg bO (pv 3) ai) (cM (aH (ak (az au) (ak (rq (r:=lP K) eE (yd (ak (az (aL ay hr (aa (pv 0) (aa ai ah)))) (ak (az (aL ay hr (aa (pv 0) (aa ai ah)))) aE))) (az (aL ay hr (aa (pv 0) (aa ai ah)))) (λ_ _=>rfl)) aE))))
  (d_ (PW.pt (ix (bg bO (pv 3) ai) (ix (fh (pv 2)) (ix (bg D5 (pv 4) ai) (gX (bg (mG hu) (pv 6) (bZ ah))))))) (cH (bc (i:=7) cL.nd rfl (UH rfl) (bM K (pv 6) (aL ay hr (aa (pv 0) (aa (aN aU rfl B.len UU (aa (pv 6) ah)) ah)))))
  (cH (bc (i:=8) cL.nd rfl (UH rfl) (bM K (aL fY hr (aa (bM K (pv 1) (aQ ck (pv 7) ai)) ah)) (aL ay hr (aa (pv 0) (aa ai ah)))))
  (cM (aH (ak (az au) (ak (az (pv 7)) (ak (az au) (ak (aH (ak (aH (ak (az au) (ak (az (pv 8)) (ak (az au) aE)))) (ak (aH (ak (az au) (ak (az gc) (ak (az au) aE)))) (ak (aH (ak (az au) (ak (az gc) (ak (az au) aE)))) aE)))) aE))))))))
  (cM (aH (ak (az au) aE))))))))))))) ?_
 have s1:=hs.pos;have s6:=hs.six;have hn:(ss.map V.str).length=ss.length:=TZ ..;have nl:l≠p:=oj hP hl hs.pos;refine⟨_,rfl,p,_,rfl,hP,by decide,by decide,λd H1 g1 a1 b1=>aj ?_⟩;dsimp only;have hl1:dY H1 l ss:=g1.keep _ _ nl hl;refine⟨_,rfl,l,_,rfl,.inl (bj.of hl1),aj ?_⟩;dsimp only;rw[hn];refine⟨_,rfl,_,rfl,(kR (by omega) (by omega)).1,(kR (by omega) (by omega)).2,λD hD=>?_⟩;refine fc (n:=((ss.length:Nat):Int).toNat) (λi σ ys H'=>(∃o,σ=[o,some (.ref l)])/\ys=(((List.range i).filter λk=>!decide (ss.getD k ""="w")).map λ(k:Nat)=>(k:Int)+1).map V.int/\ys.length<=i/\H' D=some (.lst ys)/\aG H1 H') ⟨⟨none,rfl⟩,rfl,TU _,ae,ag hD _⟩ ?_ ?_ ?_ ?_
 ·rintro i σ ys H' _ ⟨_,_,hi,h,_⟩;exact⟨h,hi⟩
 ·exact TV (show((ss.length:Nat):Int).toNat<=1000 by omega) (by decide)
 ·rintro i σ ys H' hi ⟨⟨o,rfl⟩,rfl,hz',h,sm⟩;have hi':i<ss.length:=by omega
  refine aj ?_;refine⟨_,rfl,_,rfl,l,_,_,_,rfl,rfl,bj.of (sm _ _ hl1),by rw[show(0:Int)+(i:Int)=(i:Int) by omega];exact sP hi',rfl,_,rfl,?_⟩;rw[Hs];by_cases e:ss.getD i ""="w"
  ·rw[TY e];refine cV ⟨⟨_,rfl⟩,?_,Nat.le_succ_of_le hz',h,sm⟩;rw[List.range_succ,List.filter_append,List.filter_cons_of_neg (by rw[TY e];exact Ud)];simp
  ·rw[TX e];refine dX ⟨_,rfl,_,_,rfl,rfl,h,⟨_,rfl⟩,?_,?_,ae,bo hD sm⟩
   ·rw[List.range_succ,List.filter_append,List.filter_cons_of_pos (by rw[TX e];rfl),T4,T4];simp
   ·rw[T1];exact Nat.succ_le_succ hz'
 rintro σ ys H2 ⟨_,rfl,_,hD2,sm⟩;have hD2:H2 D=some (.lst ((Cw ss).map V.int)):=hD2;have Tx:((Cw ss).map V.int).length<=6:=by rw[TZ];exact TV zm s6
 have nD:D≠p:=g1.ne hD;refine aj ?_;dsimp only;refine⟨_,rfl,l,ss,rfl,sm _ _ hl1,TV s6 (by decide),λu H3 OB s3 hu'=>aj ?_⟩;dsimp only;have g2:ba p H H2:=g1.trans (ba.same g1.cy sm);have nu:u≠p:=g2.ne OB;have g3:ba p H H3:=g2.trans (ba.same g2.cy s3);have hl3:dY H3 l ss:=s3 _ _ (sm _ _ hl1);have yI:=s3 _ _ hD2;refine bH (λb H'=>b=decide (d=0)/\H3=H') (λT hT=>⟨_,rfl,rfl,_,rfl,hT _ _ ⟨rp,rfl⟩⟩) ?_ ?_
 ·rintro H' ⟨_,rfl⟩;refine⟨_,rfl,_,rfl,p,ss.length,rfl,g3.cy,s1,by omega,λt bs od H4 g4 hI o1 o2=>⟨cn,λT hT=>?_⟩⟩;exact q T (.sort od) _ ((g3.trans g4).new hT) ⟨t,bs,ae,hI.keep (aJ.of (ag hT _)) λ_ _ z=>ag hT _ _ _ z⟩ (BS hs o1 o2) rfl (λz=>by cases z) (λn z=>by cases z)
 rintro H' ⟨_,rfl⟩;refine bH (λb H'=>b=decide (d=1)/\H3=H') (λT hT=>⟨_,rfl,rfl,_,rfl,hT _ _ ⟨rp,rfl⟩⟩) ?_ ?_
 ·rintro H' ⟨_,rfl⟩;refine⟨_,rfl,_,rfl,p,ss.length,0,5,rfl,g3.cy,s1,by omega,by omega,by omega,λt cs H4 g4 ht c1 c2 hc=>⟨cn,λT hT=>?_⟩⟩;exact q T (.count cs) _ ((g3.trans g4).new hT) ⟨t,ae,ag hT _ _ _ ht⟩ (Ax hs hc c2) rfl (λz=>by cases z) (λn z=>by cases z)
 rintro H' ⟨_,rfl⟩;refine bH (λb H'=>(b=true->Cw ss≠[])/\aG H3 H') (λT hT=>?_) ?_ ?_
 ·refine jt ⟨_,rfl,rfl,_,rfl,fw (λ_=>?_) λ_=>hT _ _ ⟨λz=>(by cases z),aG.refl _⟩⟩;refine⟨_,rfl,Uo _,λL hL=>⟨D,L,_,rfl,rfl,ag hL _ _ _ yI,ae,_,rfl,hT _ _ ⟨λz e=>?_,ag hL _⟩⟩⟩;rw[e]at z;cases z
 ·rintro H4 ⟨hne,s4⟩;have hne:=hne rfl;have Hr:1<=((Cw ss).map V.int).length:=by rw[TZ];exact List.length_pos_iff.mpr hne
  have g4:ba p H H4:=g3.trans (ba.same g3.cy s4);refine⟨_,rfl,_,rfl,p,ss.length,0,5,rfl,g4.cy,s1,by omega,by omega,by omega,λt cs H5 g5 ht c1 c2 hc=>?_⟩;have EM:=g5.keep _ _ nD (s4 _ _ yI);refine⟨_,rfl,_,rfl,_,rfl,D,_,rfl,.inl (bj.of EM),p,_,rfl,g5.cy,by omega,cG (by omega) (by omega),λd2 H6 g6 a6 b6=>?_⟩;obtain⟨e,OQ,MZ⟩:=tK (v:=.non) a6 b6;refine⟨D,_,_,_,rfl,rfl,bj.of (g6.keep _ _ nD EM),OQ,cm,λT hT=>?_⟩;exact q T (.sum cs e) _ (((g4.trans g5).trans g6).new hT) ⟨t,ae,ag hT _ _ _ (iG g5.cy g6 ht)⟩ (FQ hs hc c2 (yy MZ).1 (yy MZ).2) rfl (λz=>by cases z) (λn z=>by cases z)
 rintro H4 ⟨_,s4⟩;have g4:ba p H H4:=g3.trans (ba.same g3.cy s4);have M3:dY H4 l ss:=s4 _ _ hl3;have rL:=s4 _ _ hu';clear yI hD2;refine bH (λb H'=>(b=true->ss.length<6)/\H4=H') (λT hT=>?_) ?_ ?_
 ·refine jt ⟨_,rfl,rfl,_,rfl,fw (λ_=>?_) λ_=>hT _ _ ⟨λz=>(by cases z),rfl⟩⟩;exact⟨_,rfl,_,_,rfl,rfl,_,rfl,hT _ _ ⟨λz=>by have:=UB z;omega,rfl⟩⟩
 ·rintro H' ⟨hw,rfl⟩;exact⟨cN,λT hT=>q T .number _ (g4.new hT) ae (xr hs (hw rfl)) rfl (λz=>by cases z) (λn z=>by cases z)⟩
 rintro H' ⟨_,rfl⟩;refine bH (λb H'=>b=decide (d=4)/\H4=H') (λT hT=>⟨_,rfl,rfl,_,rfl,hT _ _ ⟨rp,rfl⟩⟩) ?_ ?_
 ·rintro H' ⟨_,rfl⟩;refine⟨_,rfl,p,_,rfl,g4.cy,by decide,by decide,λe1 H5 g5 a5 b5=>⟨_,rfl,p,_,rfl,g5.cy,by decide,by decide,λe2 H6 g6 a6 b6=>⟨cn,λL hL=>⟨_,rfl,p,_,rfl,(g6.new hL).cy,by decide,by decide,λe3 H7 g7 a7 b7=>?_⟩⟩⟩⟩;have nL:L≠p:=g6.ne hL;obtain⟨v,hv,hm⟩:=ib (xs:=[V.int e1,.int e2]) a7 b7;obtain⟨n,hn0,en⟩ :∃n:Int,0<=n/\v=.int n:=by
   have:=Ub hm;simp only[Uj,UG,or_false]at this;rcases this with rfl|rfl
   ·exact⟨_,a5,rfl⟩
   ·exact⟨_,a6,rfl⟩
  subst en;refine⟨L,_,_,_,rfl,rfl,bj.of (g7.keep _ _ nL ae),hv,cn,λT hT=>?_⟩;exact q T (.first n) _ (((((g4.trans g5).trans g6).new hL).trans g7).new hT) ae (zP hs) rfl (λz=>by cases z) (λm z=>by cases z;exact hn0)
 rintro H' ⟨_,rfl⟩;refine bH (λb H'=>(b=true->fr=true/\ss.length<6/\eK ss≠[])/\aG H4 H') (λT hT=>?_) ?_ ?_
 ·have no:∀H',aG H4 H'->T false H':=λH' s'=>hT _ _ ⟨λz=>(by cases z),s'⟩;refine jt ⟨_,rfl,rfl,_,rfl,fw (λ_=>?_) λ_=>no _ (aG.refl _)⟩;refine jt ⟨_,rfl,fr,rfl,fw (λhfr=>?_) λ_=>no _ (aG.refl _)⟩;refine jt ⟨_,rfl,_,_,rfl,rfl,_,rfl,fw (λhw=>?_) λ_=>no _ (aG.refl _)⟩;refine⟨_,rfl,Uo _,λL hL=>⟨u,L,_,rfl,rfl,ag hL _ _ _ rL,ae,_,rfl,hT _ _ ⟨λz=>⟨hfr,by have:=UB hw;omega,λe=>?_⟩,ag hL _⟩⟩⟩;rw[e]at z;cases z
 ·rintro H5 ⟨hh,s5⟩;obtain⟨hfr,hw,hne⟩:=hh rfl;have g5:ba p H H5:=g4.trans (ba.same g4.cy s5);have Iu:=s5 _ _ rL;have Hr:1<=((eK ss).map V.int).length:=by rw[TZ];exact List.length_pos_iff.mpr hne
  have Nt:((eK ss).map V.int).length<=6:=by rw[TZ];exact TV zm s6
  refine⟨_,rfl,_,rfl,_,rfl,u,_,rfl,.inl (bj.of Iu),p,_,rfl,g5.cy,by omega,cG (by omega) (by omega),λd1 H6 g6 a6 b6=>?_⟩;obtain⟨c,hca,hcm⟩:=tK (v:=.non) a6 b6;obtain⟨hc,ht⟩:=kC hcm;refine⟨u,_,_,_,rfl,rfl,bj.of (g6.keep _ _ nu Iu),hca,aj ?_⟩;dsimp only;have QL:dY H6 l ss:=g6.keep _ _ nl (s5 _ _ M3);refine⟨_,rfl,_,rfl,_,_,rfl,rfl,l,_,_,_,rfl,rfl,bj.of QL,l0 hc,_,rfl,λlc H7 Kl s7 v5=>?_⟩;have g7:=ba.same g6.cy s7;have S4:lc≠p:=g6.ne Kl;obtain⟨c1,c2⟩:=mZ (bz ss c);refine⟨_,rfl,p,_,rfl,g7.cy,by decide,by decide,λd2 H8 g8 a8 b8=>?_⟩;obtain⟨v,hv,hm⟩:=ib (xs:=cellsV (bz ss c)) a8 (by omega);refine⟨lc,_,_,v,rfl,rfl,bj.of (g8.keep _ _ S4 v5),hv,aj ?_⟩;dsimp only;have Sq:=((g5.trans g6).trans g7).trans g8;refine⟨_,rfl,_,rfl,cm,λu1 h1=>⟨cm,λu2 h2=>⟨cm,λu3 h3=>⟨cm,λu4 h4=>⟨zU,λT hT=>?_⟩⟩⟩⟩⟩;have z1:=ag h1 (.tup [.str "s",v,.str "t"]);have z2:=ag h2 (.tup [.str "s",.non,.str "s"]);have z3:=ag h3 (.tup [.str "t",.non,.str "s"]);have z4:=ag h4 (.tup [.ref u1,.ref u2,.ref u3]);have z5:=ag hT (.tup [.str "walk",.int c,.str "s",.ref u4]);refine q T (.walk c [v,.non,.non]) _ (((((Sq.new h1).new h2).new h3).new h4).new hT) ⟨"s",u4,[u1,u2,u3],ae,z5 _ _ ae,rfl,λi a x e1 e2=>?_⟩ (Bu hs hw hc ht (Ub hm)) rfl (λ_=>hfr) (λm z=>by cases z);match i with
  | 0=>cases e1;cases e2;exact⟨_,_,(z2.trans (z3.trans (z4.trans z5))) _ _ ae⟩
  | 1=>cases e1;cases e2;exact⟨_,_,(z3.trans (z4.trans z5)) _ _ ae⟩
  | 2=>cases e1;cases e2;exact⟨_,_,(z4.trans z5) _ _ ae⟩
  |i+3=>cases e1
 rintro H5 ⟨_,s5⟩;exact⟨cN,λT hT=>q T .apart _ ((g4.trans (ba.same g4.cy s5)).new hT) ae (AK hs) rfl (λz=>by cases z) (λn z=>by cases z)⟩
section
variable{x:W1}
theorem I0(h:x.nm="cut"):∃cs,x=.cut cs:=by cases x<;>first|exact⟨_,rfl⟩ | (simp only[W1.nm]at h;exact UC h (by decide +kernel))
theorem Jq(h:x.nm="must"):∃c ps,x=.must c ps:=by cases x<;>first|exact⟨_,_,rfl⟩ | (simp only[W1.nm]at h;exact UC h (by decide +kernel))
theorem JC(h:x.nm="count"\/x.nm="sum"):(∃cs,x=.count cs)\/∃cs c,x=.sum cs c:=by cases x<;>first|exact .inl ⟨_,rfl⟩|exact .inr ⟨_,_,rfl⟩ | (simp only[W1.nm]at h;exact UC h (by decide +kernel))
theorem LI(h:x.nm="walk"\/x.nm="number"):(∃c mv,x=.walk c mv)\/x=.number:=by cases x<;>first|exact .inl ⟨_,_,rfl⟩|exact .inr rfl | (simp only[W1.nm]at h;exact UC h (by decide +kernel))
end
theorem Ru{s a b:Str}:inV (.str s) [.str a,.str b]=true↔s=a\/s=b:=by show((a==s)||((b==s)||false))=true↔_;rw[Bool.or_false,Bool.or_eq_true,beq_iff_eq,beq_iff_eq];exact or_congr eq_comm eq_comm
theorem KU{s a b:Str}:inV (.str s) [.str a,.str b]=decide (s=a\/s=b):=by rw[Bool.eq_iff_iff,Ru,decide_eq_true_eq]
def H_:Sp:=λvs H Q _=>∃(l a:Addr)(ss:Hd)(x:W1),vs=[.ref l,.ref a]/\dY H l ss/\du H a x/\hZ ss x/\dZ ss/\∀u H',aG H H'->dY H' u (bf (.one x) [ss])->Q (.ref u) H'
theorem Gm{xs:List V}{i:Int}(h0:0<=i)(h:i<=xs.length):e6 xs none (some i)=xs.take i.toNat:=by have:=pQ (xs:=xs) (n:=i.toNat) (by omega);rw[show((i.toNat:Nat):Int)=i by omega]at this;exact this
theorem AL{xs:List V}{i:Int}(h0:0<=i)(h:i<=xs.length):e6 xs (some i) none=xs.drop i.toNat:=by have:=pV (xs:=xs) (n:=i.toNat) (by omega);rw[show((i.toNat:Nat):Int)=i by omega]at this;exact this
theorem ya{ps:List (V×V)}{c:Int}(h:lL (.one (.must c ps))):∃q r,ps=q::r/\kQ q.2:=by
 cases ps with
 |nil=>exact UC rfl h.ne
 |cons q r=>exact⟨q,r,rfl,(h.good q (by simp)).2⟩
abbrev dq:Stmt:=top 92
theorem fE:av ["_law_sorts","_law_worker","_law_word"] ["_law_sorts","_law_worker"] (ao dq):=fs
theorem wK(B:j7 mg)(B2:tR mg)(B3:BQ mg)(Ki:PySem.W.kitOne K (.type "int") (.type "str")=some false)(F:FA K mg "_law_sorts_behind" dq) :
  bA bx P w K mg base 1 "_law_sorts_behind" ["_law_sorts","_law_worker"] H_:=by
 refine F.ok fE λf cdv A outer s H vs Q E hr h=>?_;have hu:=iH hr;have hu1:=kS hr;obtain⟨l,a,ss,x,rfl,hl,ha,hf,hs,q⟩:=h;refine⟨_,(aq (bc (i:=2) fE.nd rfl (UH rfl) (aX K (pv 1) ai))
   (bu (bg bO (pv 2) au) (bU (N':=["_law_column","_law_sorts"]) (src:=[none,some 0]) rfl (bh.lJ (by kernel_rfl)) (cF (aX K (pv 1) ai)) (λcl C s H fp=>(fX (i:=0))) (λcl C s H fp=>bp) (te:=(fQ (lP K) (bF 1) (fQ (v7 λi j=>V.int (i-j)) (bF 0) (tC (.int 1))))) (λcl C s H fp=>(bM K (ug 1) (aQ ck (i3 0) ai))))
   (bu (bg bO (pv 2) au) (aQ pA (aQ pA (cR (r:=JU K) yQ (pv 0) eL (cU (aQ ck (aX K (pv 1) ai) ai))) (bZ (aa (bM K (bZ (aa au (aa au ah))) (bN rH rfl B2.int UM (aa (aN (u0 (n:="str")) rfl B.isinstance PyProof.Rows.boot_isinstance (aa (aX K (aX K (aX K (pv 1) ai) ai) ai) (aa (x3 (n:="str") rfl B3.str (by decide +kernel)) ah))) ah))) ah))) (cR (r:=JU K) yQ (pv 0) (cU (aX K (pv 1) ai)) eL))
   (bu (fR ez (pv 2) (bZ (aa au (aa au ah))) rfl) (aQ pA (bU (N':=["_law_column","_law_sorts"]) (src:=[none,some 0]) rfl (bh.lJ (by kernel_rfl)) (cF (aX K (pv 1) ai)) (λcl C s H fp=>(fX (i:=0))) (λcl C s H fp=>bp) (te:=(fQ (lP K) (bF 1) (fQ (v7 λi j=>V.int (i-j)) (bF 0) (tC (.int 1))))) (λcl C s H fp=>(bM K (ug 1) (aQ ck (i3 0) ai)))) (bZ (aa au ah)))
   (bu (fR ez (pv 2) (bZ (aa au (aa au ah))) rfl) (aQ pA (pv 0) (bZ (aa (bM K (bZ (aa au (aa au ah))) (bN rH rfl B2.int UM (aa (jL bO (pv 2) au) ah))) ah)))
   (ax (pv 0))))))),?_⟩
 have s1:=hs.pos;have s6:=hs.six;have hn:(ss.map V.str).length=ss.length:=TZ ..;have cp:∀{t D:Addr}{cs:List Int}{H0:Hp}{R:VK},H t=some (.tup (cs.map V.int))->cs.length<=6->(∀c∈cs,1<=c/\c<=ss.length)->H0 D=none->aG H H0->(∀H',aG H0 H'->H' D=some (.lst ((cs.map (bz ss)).map V.str))->R (.ref D) H')->∃W:Nat->Nat->St->List V->Hp->Prop,(∃m,W 0 m [none,some (.ref l)] [] (upd H0 D (.lst [])))/\oi (Ei K t) (bW 0) Bj (fQ (lP K) (bF 1) (fQ (v7 λi j=>V.int (i-j)) (bF 0) (tC (.int 1)))) D R W:=λ{t D cs H0 R} ht hz hc hD s0 hr'=>by
  refine cX (xs:=cs.map V.int) (λi σ ys H'=>(∃o,σ=[o,some (.ref l)])/\ys=((cs.take i).map (bz ss)).map V.str/\ys.length=i/\H' D=some (.lst ys)/\aG H0 H') ⟨⟨none,rfl⟩,rfl,rfl,ae,ag hD _⟩ ?_ ?_ ?_ ?_ ?_
  ·rintro i σ ys H' _ ⟨_,_,hi,h,_⟩;exact⟨h,UP hi⟩
  ·rintro i σ ys H' _ ⟨_,_,_,_,sm⟩;exact aY.of (sm _ _ (s0 _ _ ht))
  ·rw[TZ];exact TV hz (by decide)
  ·rintro i v σ ys H' hv ⟨⟨o,rfl⟩,rfl,hi,h,sm⟩;rw[Us]at hv;cases ee:cs[i]? with
   |none=>rw[ee]at hv;cases hv
   |some e =>
    rw[ee]at hv;have hv:V.int e=v:=Up hv;subst hv;refine aj ?_;refine⟨_,rfl,_,rfl,_,_,rfl,rfl,l,_,_,_,rfl,rfl,bj.of (sm _ _ (s0 _ _ hl)),l0 (hc e (Ub ee)),h,⟨_,rfl⟩,?_,?_,ae,bo hD sm⟩
    ·rw[take_one ee,T4,T4];rfl
    ·rw[T1,hi];rfl
  ·rintro σ ys H' ⟨_,rfl,_,h,sm⟩;rw[TZ,UI]at h;exact hr' H' sm h
 obtain⟨xs,hx1⟩:=ha.first;refine⟨_,rfl,a,_,0,_,rfl,rfl,aY.of hx1,aP (j:=0) rfl,aj ?_⟩;dsimp only;refine bH (λb H'=>b=decide (x.nm="cut")/\H=H') (λT hT=>⟨_,rfl,rfl,_,rfl,hT _ _ ⟨f9 _ _,rfl⟩⟩) ?_ ?_
 ·rintro H' ⟨e,rfl⟩;obtain⟨cs,rfl⟩:=I0 (UB e.symm);obtain⟨t,h1,h2⟩:=ha;have hz:cs.length<=6:=by have:=hf.hd.six;rw[show bf (.one (.cut cs)) [ss]=cs.map (bz ss) from rfl,TZ]at this;exact this
  refine⟨_,rfl,a,_,1,_,rfl,rfl,aY.of h1,rfl,t,rfl,⟨_,aY.of h2⟩,λD hD=>cp h2 hz hf.col hD (aG.refl _) λH' s' h'=>q D H' s' h'⟩
 rintro H' ⟨e1,rfl⟩;have e1:x.nm≠"cut":=of_decide_eq_false e1.symm;refine bH (λb H'=>b=decide (x.nm="must")/\H=H') (λT hT=>⟨_,rfl,rfl,_,rfl,hT _ _ ⟨f9 _ _,rfl⟩⟩) ?_ ?_
 ·rintro H' ⟨e,rfl⟩;obtain⟨c,ps,rfl⟩:=Jq (UB e.symm);obtain⟨t,bs,h1,hI⟩:=ha;have hc:=hf.col c (by simp[cZ]);obtain⟨pq,pr,rfl,hcl⟩:=ya hf.ok;obtain⟨b0,br,rfl⟩ :∃b0 br,bs=b0::br:=by
   cases bs with
   |nil=>have:=hI.len;cases this
   |cons b0 br=>exact⟨b0,br,rfl⟩
  have hb0:H b0=some (.tup [pq.1,pq.2]):=hI.at_ 0 b0 pq rfl rfl;refine⟨_,rfl,_,rfl,a,_,1,_,rfl,rfl,aY.of h1,rfl,_,_,rfl,rfl,_,rfl,l,_,rfl,bj.of hl,λu1 hu1=>?_⟩;have z1:=ag hu1 (.lst (e6 (ss.map V.str) none (some (c-1))));refine⟨cn,λu2 hu2=>?_⟩;have z2:=ag hu2 (.lst [.str "n",.str "w"]);have M4:=z1.trans z2;refine⟨_,rfl,a,_,2,_,rfl,rfl,aY.of (M4 _ _ h1),rfl,t,_,0,_,rfl,rfl,aY.of (M4 _ _ hI.tup),aP (j:=0) rfl,b0,_,1,_,rfl,rfl,aY.of (M4 _ _ hb0),rfl,?_⟩;have e0:bf (.one (.must c (pq::pr))) [ss]=ss.take (c-1).toNat++[sW pq.2]++ss.drop c.toNat:=rfl;have c1:e6 (ss.map V.str) none (some (c-1))=(ss.take (c-1).toNat).map V.str:=by rw[Gm (by omega) (by rw[hn];omega),List.map_take]
  have c2:e6 (ss.map V.str) (some c) none=(ss.drop c.toNat).map V.str:=by rw[AL (by omega) (by rw[hn];omega),List.map_drop]
  have hk:∃(k:Bool)(t':Value),kN K (upd (upd H u1 (.lst (e6 (ss.map V.str) none (some (c-1))))) u2 (.lst [.str "n",.str "w"])) pq.2 t'/\PySem.W.kitOne K t' (.type "str")=some k/\y0 [V.str "n",.str "w"] (if k then 1 else 0)=some (.str (sW pq.2)):=by
   rcases hcl with⟨n,e⟩|⟨y,e⟩
   ·rw[e];exact⟨false,_,.int n,Ki,rfl⟩
   ·rw[e];exact⟨true,_,.str y,um (by decide),rfl⟩
  obtain⟨k,t',k1,k2,k3⟩:=hk;refine⟨_,t',k,rfl,k1,k2,.inr ⟨k,rfl,u2,_,_,_,rfl,rfl,bj.of ae,k3,cN,λu3 sG=>?_⟩⟩;have z3:=ag sG (.lst [.str (sW pq.2)]);refine⟨u1,u3,_,_,rfl,rfl,(z2.trans z3) _ _ ae,ae,?_,λu4 rL=>?_⟩
  ·rw[c1,TZ,Ut];exact TV (show min (c-1).toNat ss.length+1<=100 by omega) (by decide)
  have z4:=ag rL (.lst (e6 (ss.map V.str) none (some (c-1))++[.str (sW pq.2)]));have NG:=M4.trans (z3.trans z4);refine⟨_,rfl,_,rfl,a,_,1,_,rfl,rfl,aY.of (NG _ _ h1),rfl,_,rfl,l,_,rfl,bj.of (NG _ _ hl),λu5 Iu=>?_⟩;refine⟨u4,u5,_,_,rfl,rfl,ag Iu _ _ _ ae,ae,?_,λu6 MA=>q u6 _ (NG.trans ((ag Iu _).trans (ag MA _))) ?_⟩
  ·rw[c1,c2,T1,TZ,TZ,Ut,List.length_drop];exact TV (show min (c-1).toNat ss.length+1+(ss.length-c.toNat)<=100 by omega) (by decide)
  ·rw[e0,dY,ae,c1,c2,T4,T4];rfl
 rintro H' ⟨e2,rfl⟩;have e2:x.nm≠"must":=of_decide_eq_false e2.symm;refine bH (λb H'=>b=decide (x.nm="count"\/x.nm="sum")/\aG H H') (λT hT=>⟨_,rfl,cn,λL hL=>⟨L,_,rfl,.inl (bj.of ae),rfl,rfl,_,rfl,hT _ _ ⟨KU,ag hL _⟩⟩⟩) ?_ ?_
 ·rintro H1 ⟨e,z1⟩;have tail:∀{D:Addr}{cs:List Int}{H':Hp},cs.length<=6->aG H H'->H' D=some (.lst ((cs.map (bz ss)).map V.str))->bf (.one x) [ss]=cs.map (bz ss)++(["t"]:Hd)->fQ Lo (tC (.ref D)) (Gu (eD (tC (.str "t")) kK)) [] H' Q:=λ{D cs H'} hz s' hD e=>by
   refine⟨cN,λu hu=>⟨D,u,_,_,rfl,rfl,ag hu _ _ _ hD,ae,?_,λw hw=>q w _ (s'.trans ((ag hu _).trans (ag hw _))) ?_⟩⟩
   ·rw[TZ,TZ];exact TV (Nat.succ_le_succ hz) (by decide)
   ·rw[e,dY,ae,T4];rfl
  rcases JC (UB e.symm)with⟨cs,rfl⟩|⟨cs,c,rfl⟩
  ·obtain⟨t,h1,h2⟩:=ha;have e0:bf (.one (.count cs)) [ss]=cs.map (bz ss)++(["t"]:Hd):=rfl;have hz:cs.length<=6:=by have:=hf.hd.six;rw[e0,T1,TZ]at this;exact Nat.le_of_succ_le this
   exact⟨_,rfl,a,_,1,_,rfl,rfl,aY.of (z1 _ _ h1),rfl,t,rfl,⟨_,aY.of (z1 _ _ h2)⟩,λD hD=>cp h2 hz hf.col hD z1 λH' s' h'=>tail hz (z1.trans s') h' e0⟩
  ·obtain⟨t,h1,h2⟩:=ha;have e0:bf (.one (.sum cs c)) [ss]=cs.map (bz ss)++(["t"]:Hd):=rfl;have hz:cs.length<=6:=by have:=hf.hd.six;rw[e0,T1,TZ]at this;exact Nat.le_of_succ_le this
   exact⟨_,rfl,a,_,1,_,rfl,rfl,aY.of (z1 _ _ h1),rfl,t,rfl,⟨_,aY.of (z1 _ _ h2)⟩,λD hD=>cp h2 hz (λc' hc'=>hf.col c' (Ul.mpr (.inl hc'))) hD z1 λH' s' h'=>tail hz (z1.trans s') h' e0⟩
 rintro H1 ⟨e3,z1⟩;have e3:¬(x.nm="count"\/x.nm="sum"):=of_decide_eq_false e3.symm;refine bH (λb H'=>b=decide (x.nm="walk"\/x.nm="number")/\aG H H') (λT hT=>⟨_,rfl,cn,λL hL=>⟨L,_,rfl,.inl (bj.of ae),rfl,rfl,_,rfl,hT _ _ ⟨KU,z1.trans (ag hL _)⟩⟩⟩) ?_ ?_
 ·rintro H2 ⟨e,z2⟩;have hk:∃g:Str,y0 [V.str "t",.str "w"] (if decide (V.str x.nm=V.str "walk")=true then 1 else 0)=some (.str g)/\bf (.one x) [ss]=ss++[g]:=by
   rw[f9];rcases LI (UB e.symm)with⟨c,mv,rfl⟩|rfl
   ·exact⟨"w",by rw[show decide ((W1.walk c mv).nm="walk")=true from TY rfl];rfl,rfl⟩
   ·exact⟨"t",by rw[show decide ((W1.number).nm="walk")=false from TX (by show("number" : Str)≠"walk";decide +kernel)];rfl,rfl⟩
  obtain⟨g,k1,k2⟩:=hk;refine⟨_,rfl,cn,λu2 hu2=>⟨_,rfl,rfl,.inr ⟨_,rfl,u2,_,_,_,rfl,rfl,bj.of ae,k1,cN,λu3 sG=>?_⟩⟩⟩;refine⟨l,u3,_,_,rfl,rfl,ag sG _ _ _ (ag hu2 _ _ _ (z2 _ _ hl)),ae,?_,λw hw=>q w _ (z2.trans ((ag hu2 _).trans ((ag sG _).trans (ag hw _)))) ?_⟩
  ·rw[hn];exact TV (Nat.succ_le_succ s6) (by decide)
  ·rw[k2,dY,ae,T4];rfl
 rintro H2 ⟨e4,z2⟩;have e4:¬(x.nm="walk"\/x.nm="number"):=of_decide_eq_false e4.symm;refine⟨_,rfl,q l H2 z2 ?_⟩;have:bf (.one x) [ss]=ss:=by cases x<;>first|rfl|exact UC rfl e1|exact UC rfl e2|exact UC (.inl rfl) e3|exact UC (.inr rfl) e3|exact UC (.inl rfl) e4|exact UC (.inr rfl) e4
 rw[this];exact z2 _ _ hl
def jA(ss:Hd)(xs:List W1):Nat->Hd
 | 0=>ss
 |i+1=>match xs[i]? with
  |some x=>bf (.one x) [jA ss xs i]
  |none=>jA ss xs i
theorem kF{ss:Hd}{xs ys:List W1}:∀{i:Nat},i<=xs.length->jA ss (xs++ys) i=jA ss xs i
 | 0,_=>rfl
 |i+1,h=>by rw[jA,jA,Ur h,kF (Nat.le_of_succ_le h)]
theorem jG{ss:Hd}{x:W1}{xs:List W1}:∀{i:Nat},jA ss (x::xs) (i+1)=jA (bf (.one x) [ss]) xs i
 | 0=>rfl
 |i+1=>by rw[jA,List.getElem?_cons_succ,jG (i:=i)];rfl
theorem C9{ss:Hd}{xs:List W1}{x:W1}:jA ss (xs++[x]) (xs.length+1)=bf (.one x) [jA ss xs xs.length]:=by rw[jA,Uq (TU _),Nat.sub_self,kF (TU _)];rfl
structure Good(ss:Hd)(xs:List W1):Prop where
 fit:∀(i:Nat) x,xs[i]? = some x->hZ (jA ss xs i) x
 ss:dZ ss
theorem Good.at{ss:Hd}{xs:List W1}(h:Good ss xs):∀{i:Nat},dZ (jA ss xs i)
 | 0=>h.ss
 |i+1=>by
  rw[jA];cases e:xs[i]? with
  |none=>exact h.at
  |some x=>exact(h.fit i x e).hd
theorem Good.snoc{ss:Hd}{xs:List W1}{x:W1}(h:Good ss xs)(hx:hZ (jA ss xs xs.length) x):Good ss (xs++[x]):=by
 refine⟨λi y e=>?_,h.ss⟩;by_cases hi:i<xs.length
 ·rw[Ur hi]at e;rw[kF (Nat.le_of_lt hi)];exact h.fit i y e
 ·have hi':i=xs.length:=by have:=(Ug.mp e).1;rw[T1]at this;simp at this;omega
  subst hi';rw[Uq (TU _),Nat.sub_self]at e;cases e;rw[kF (TU _)];exact hx
theorem oP{n:Nat}{h:Hd}{f:Fl}{pl:List Int}{x:W1}:bV n h f pl (.one x)=nv (.one x) h f pl [(h,f)]:=by cases n<;>rfl
theorem Jh{n:Nat}{h h':Hd}{f f':Fl}{pl:List Int}{x:W1}(e:bV n h f pl (.one x)=.ok h' f'):h'=bf (.one x) [h]/\f'=Hg (.one x) h f [f]:=by
 rw[oP,nv]at e;split at e
 ·cases e
 ·cases e;exact⟨rfl,rfl⟩
theorem vS{ss:Hd}{x:W1}{f:Fl}(h:hZ ss x)(hm:eZ (.one x)=true->f.l=false)(hw:ny x=true->f.o=false):gR (.one x) f [ss]=none:=by
 unfold gR;have c1:eQ (.one x) [ss]=true:=by refine List.all_eq_true.mpr λc hc=>?_;show(decide (1<=c)&&decide (c<=(ss.length:Nat)))=true;have:=h.col c hc;rw[TY this.1,TY this.2];rfl
 have c4:DZ (.one x) f=true:=by cases x<;>first|rfl | (show(!f.o)=true;rw[hw rfl];rfl)
 rw[UE c1,UE h.EH,UE h.hd.six,UE c4];refine UD λz=>?_;rw[UA]at z;rw[hm z.1]at z;exact UC z.2 Ud
theorem vA{n:Nat}{pl:List Int}:∀{xs:List W1}{i:Nat}{h h':Hd}{f f':Fl},putL (bV n) pl i h f (xs.map .one)=.ok h' f'->∀j,j<=xs.length->((TL n pl i h f (xs.map .one))[j]?).map (λe=>e.2.1)=some (jA h xs j)
 |[],i,h,h',f,f',e,j,hj=>by have:j=0:=Nat.le_zero.mp hj;subst this;rfl
 |x::xs,i,h,h',f,f',e,j,hj=>by
  have e:eT (bV n h f (pl++[(i:Int)]) (.one x)) (λh' f'=>putL (bV n) pl (i+1) h' f' (xs.map .one))=.ok h' f':=e;rw[UR,tO,yi,List.nil_append];cases ep:bV n h f (pl++[(i:Int)]) (.one x)with
  |no a s=>rw[ep]at e;cases e
  |ok h2 f2 =>
   rw[ep]at e;cases j with
   |zero=>rfl
   |succ j =>rw[List.getElem?_cons_succ,jG,←(Jh ep).1];exact vA (xs:=xs) (i:=i+1) e j (Nat.le_of_succ_le_succ hj)
theorem Md{n:Nat}{ss h':Hd}{f':Fl}{xs:List W1}(e:kH n ss (xs.map .one)=.ok h' f'){i:Nat}(hi:i<=xs.length):Ej (TL n [] 0 ss f0 (xs.map .one)) i=(jA ss xs i).length:=by
 have:=vA e i hi;unfold Ej;cases q:(TL n [] 0 ss f0 (xs.map .one))[i]? with
 |none=>rw[q]at this;cases this
 |some z =>rw[q]at this;rw[←Up this];rfl
structure Plain(ss:Hd)(xs:List W1):Prop where
 good:Good ss xs
 no:∀x∈xs,eZ (.one x)=false/\ny x=false
theorem Good.tail{ss:Hd}{x:W1}{xs:List W1}(h:Good ss (x::xs)):Good (bf (.one x) [ss]) xs:=by refine⟨λi y e=>?_,(h.fit 0 x rfl).hd⟩;have:=h.fit (i+1) y (by rw[List.getElem?_cons_succ];exact e);rw[jG]at this;exact this
theorem mY{n:Nat}{pl:List Int}:∀{xs:List W1}{i:Nat}{ss:Hd}{f:Fl},Plain ss xs->∃f',putL (bV n) pl i ss f (xs.map .one)=.ok (jA ss xs xs.length) f'
 |[],i,ss,f,h=>⟨f,rfl⟩
 |x::xs,i,ss,f,h=>by
  have hx:hZ ss x:=h.good.fit 0 x rfl;have hn:=h.no x (by simp);have e:bV n ss f (pl++[(i:Int)]) (.one x)=.ok (bf (.one x) [ss]) (Hg (.one x) ss f [f]):=by rw[oP,nv];show(match gR (.one x) f [ss]with|some s=>_|none=>_)=_;rw[vS hx (λz=>by rw[hn.1]at z;cases z) (λz=>by rw[hn.2]at z;cases z)];rfl
  obtain⟨f',e'⟩:=mY (xs:=xs) (i:=i+1) (ss:=bf (.one x) [ss]) (f:=Hg (.one x) ss f [f]) ⟨h.good.tail,λy hy=>h.no y (Uc _ hy)⟩;refine⟨f',?_⟩;show eT (bV n ss f (pl++[(i:Int)]) (.one x)) (λh' f'=>putL (bV n) pl (i+1) h' f' (xs.map .one))=_;rw[e];show putL (bV n) pl (i+1) _ _ (xs.map .one)=_;rw[e',Uz,jG]
theorem yS{n:Nat}{pl:List Int}{xs:List W1}{i:Nat}{ss:Hd}{f:Fl}{x:W1}{why:Str}{ws:List Wk}(h:Plain ss xs)(hb:∀f,gR (.one x) f [jA ss xs xs.length]=some why):putL (bV n) pl i ss f (xs.map .one ++ .one x::ws)=.no (pl++[((i+xs.length:Nat):Int)]) why:=by
 induction xs generalizing i ss f with
 |nil =>show eT (bV n ss f (pl++[(i:Int)]) (.one x)) _=_;rw[oP,nv];show eT (match gR (.one x) f [ss]with|some s=>_|none=>_) _=_;have hb:∀f,gR (.one x) f [ss]=some why:=hb;rw[hb f];rfl
 |cons y xs ih =>
  have hx:hZ ss y:=h.good.fit 0 y rfl;have hn:=h.no y (by simp);have e:bV n ss f (pl++[(i:Int)]) (.one y)=.ok (bf (.one y) [ss]) (Hg (.one y) ss f [f]):=by rw[oP,nv];show(match gR (.one y) f [ss]with|some s=>_|none=>_)=_;rw[vS hx (λz=>by rw[hn.1]at z;cases z) (λz=>by rw[hn.2]at z;cases z)];rfl
  show eT (bV n ss f (pl++[(i:Int)]) (.one y)) (λh' f'=>putL (bV n) pl (i+1) h' f' (xs.map .one ++ .one x::ws))=_;rw[e];show putL (bV n) pl (i+1) _ _ (xs.map .one ++ .one x::ws)=_;rw[ih ⟨h.good.tail,λy hy=>h.no y (Uc _ hy)⟩ (by rw[←jG];exact hb)];rw[Uz,show i+1+xs.length=i+(xs.length+1) by omega]
def Ds:Sp:=λvs H Q _=>∃(p l:Addr)(ss:Hd),vs=[.ref p,.ref l]/\dz H p/\dY H l ss/\dZ ss/\∀(T t u:Addr)(bs:List Addr)(xs:List W1) H',ba p H H'->H' T=some (.tup [.ref t,.ref u])->bE du H' t bs xs->dY H' u (jA ss xs xs.length)->Plain ss xs->xs.length<=3->Q (.ref T) H'
theorem HP{H:Hp}{l L:Addr}{ss:Hd}{bs:List Addr}(hl:dY H l ss)(h1:1<=ss.length)(hL:H L=some (.lst (bs.map V.ref))):l≠L:=λz=>by
 have hl:H l=some (.lst (ss.map V.str)):=hl;rw[z,hL]at hl;injection hl with e1;injection e1 with e1;cases ss with
 |nil=>cases h1
 |cons s r =>
  cases bs with
  |nil=>cases e1
  |cons b bs=>injection e1 with e1;cases e1
abbrev jz:Stmt:=top 93
theorem dg:av ["_law_pot_here","_law_sorts","_law_found","_law_k","_law_worker"] ["_law_pot_here","_law_sorts"] (ao jz):=fs
theorem Ff(B:j7 mg)(F:FA K mg "_law_good" jz)
  (ay:bA bx P w K mg base 1 "_law_draw" ["_law_pot_here","_law_many"] fm)
  (p0:bA bx P w K mg base 3 "_law_one_row" ["_law_pot_here","_law_sorts","_law_loose"] vO)
  (tL:bA bx P w K mg base 3 "_law_other" ["_law_pot_here","_law_sorts","_law_free"] zh)
  (dn:bA bx P w K mg base 1 "_law_sorts_behind" ["_law_sorts","_law_worker"] H_) :
  bA bx P w K mg base 4 "_law_good" ["_law_pot_here","_law_sorts"] Ds:=by
 refine F.ok dg λf cdv A outer s H vs Q E hr h=>?_;obtain⟨p,l,ss,rfl,hP,hl,hs,q⟩:=h;refine⟨_,(aq (bc (i:=2) dg.nd rfl (UH rfl) (bZ ah))
   (aq (fj PassesOwn.never rfl (el rfl B.range (aa (aL ay hr (aa (pv 0) (aa ai ah))) ah)) (aM (i:=3) dg.nd rfl (UH rfl))
    (aq (jv (bg bO (aL ay hr (aa (pv 0) (aa ai ah))) ai)
      (b_ (bc (i:=4) dg.nd rfl (UH rfl) (aL p0 hr (aa (pv 0) (aa (pv 1) (aa c0 ah))))))
      (b_ (bc (i:=4) dg.nd rfl (UH rfl) (aL tL hr (aa (pv 0) (aa (pv 1) (aa c0 ah)))))))
     (aq (bc (i:=1) dg.nd rfl (UH rfl) (aL dn hr (aa (pv 1) (aa (pv 4) ah))))
     (b_ (c7 (jU PySem.F.plainAttrs_list PySem.F.slot_list_append PySem.F.type_list_append cw (pv 2) (aa (pv 4) ah)))))))
   (ax (aW (aa (bN bt rfl B.tuple UL (aa (pv 2) ah)) (aa (pv 1) ah)))))),?_⟩
 have nl:l≠p:=oj hP hl hs.pos;refine⟨Uo _,λL hL=>aj ?_⟩;dsimp only;have g0:=(ba.refl hP).new (o:=.lst []) hL;have nL:L≠p:=(ba.refl hP).ne hL;have CL:upd H L (.lst []) L=some (.lst []):=ae;have hl0:upd H L (.lst []) l=some (.lst (ss.map V.str)):=ag hL _ _ _ hl;revert g0 CL hl0;generalize upd H L (.lst [])=H0;intro g0 CL hl0;refine⟨_,rfl,p,_,rfl,g0.cy,by decide,by decide,λd H1 g1 a1 b1=>⟨_,rfl,(kR (by omega) (by omega)).1,(kR (by omega) (by omega)).2,?_⟩⟩;refine kD (n:=d.toNat) (λi σ H'=>∃(lc:Addr)(o3 o4:Option V)(bs:List Addr)(xs:List W1),σ=[some (.ref p),some (.ref lc),some (.ref L),o3,o4]/\dY H' lc (jA ss xs xs.length)/\H' L=some (.lst (bs.map V.ref))/\(bs.length=xs.length/\∀(i:Nat) a x,bs[i]? = some a->xs[i]? = some x->du H' a x)/\xs.length=i/\Plain ss xs/\ba p H H')
  ⟨l,none,none,[],[],rfl,g1.keep _ _ nl hl0,g1.keep _ _ nL CL,⟨rfl,λi a x e=>by cases e⟩,rfl,⟨⟨λi x e=>(by cases e),hs⟩,λx hx=>(by cases hx)⟩,g0.trans g1⟩ ?_ ?_
 ·rintro i σ H' hi ⟨lc,o3,o4,bs,xs,rfl,v5,hL',⟨ue,hbt⟩,LF,hd,g'⟩;have hss:=hd.good.at (i:=xs.length);have Kl:lc≠p:=oj g'.cy v5 hss.pos;refine aj ?_;dsimp only;refine oY (λσ' H2=>∃(a:Addr)(x:W1),σ'=[some (.ref p),some (.ref lc),some (.ref L),some (.int (0+(i:Int))),some (.ref a)]/\ba p H' H2/\du H2 a x/\hZ (jA ss xs xs.length) x/\eZ (.one x)=false/\ny x=false) (λT hT=>?_) ?_
  ·refine⟨_,rfl,p,_,rfl,g'.cy,by decide,by decide,λd2 H2 g2 a2 b2=>⟨rfl,_,rfl,?_⟩⟩;have EW:dY H2 lc (jA ss xs xs.length):=g2.keep _ _ Kl v5;refine fw (λ_=>?_) λ_=>?_
   ·refine⟨_,rfl,_,rfl,p,lc,_,true,rfl,g2.cy,EW,hss,λa x H3 g3 ha hf h1 h2=>aj (hT _ _ ⟨a,x,rfl,g2.trans g3,ha,hf,?_,?_⟩)⟩
    ·cases em:eZ (.one x)with
     |false=>rfl
     |true=>exact UC (h2 em) (by decide)
    ·cases x<;>first|rfl|exact UC h1 (by show¬cP "walk"=true;decide +kernel)
   ·refine⟨_,rfl,_,rfl,p,lc,_,false,rfl,g2.cy,EW,hss,λa x H3 g3 ha hf h1 h2 h3=>aj (hT _ _ ⟨a,x,rfl,g2.trans g3,ha,hf,h1,?_⟩)⟩;cases ew:ny x with
    |false=>rfl
    |true=>exact UC (h2 ew) (by decide)
  rintro σ H2 ⟨a,x,rfl,g2,ha,hf,hm,hw⟩;have EW:dY H2 lc (jA ss xs xs.length):=g2.keep _ _ Kl v5;refine⟨_,rfl,_,rfl,lc,a,_,x,rfl,EW,ha,hf,hss,λu H7 s7 Nn=>aj ?_⟩;have JJ:H7 L=some (.lst (bs.map V.ref)):=s7 _ _ (g2.keep _ _ nL hL');have g7:ba p H H7:=(g'.trans g2).trans (ba.same g2.cy s7);have Sr:=HP Nn hf.hd.pos JJ;dsimp only;refine⟨_,rfl,.inl ⟨rfl,_,bj.of JJ⟩,_,rfl,L,_,_,rfl,rfl,JJ,?_,u,_,_,bs++[a],xs++[x],rfl,?_,by rw[ae,T4];rfl,i8 ue hbt (λb y z=>?_) ?_,by rw[T1,LF];rfl,⟨hd.good.snoc hf,λy hy=>?_⟩,?_⟩
  ·rw[TZ,ue,LF];exact T9 (show i<100 by omega) (by decide)
  ·rw[T1,List.length_singleton,C9];show upd _ _ _ u=_;rw[aI Sr];exact Nn
  ·exact z.keep (((aJ.grow g'.cy g2).trans (aJ.of s7)).iK JJ)
  ·exact ha.keep ((aJ.of s7).iK JJ)
  ·rcases Ul.mp hy with z|z
   ·exact hd.no y z
   ·rw[Uh.mp z];exact⟨hm,hw⟩
  ·exact(ba.refl hP).put hL nL g7
 ·rintro σ H' ⟨lc,o3,o4,bs,xs,rfl,v5,hL',⟨ue,hbt⟩,LF,hd,g'⟩;dsimp only;refine⟨_,rfl,L,_,rfl,.inl ⟨bj.of hL',λt ht=>⟨_,rfl,cn,λT hT=>?_⟩⟩⟩;have s1:=ag ht (.tup (bs.map V.ref));have s2:=ag hT (.tup [.ref t,.ref lc]);exact q T t lc bs xs _ ((g'.new ht).new hT) ae ⟨s2 _ _ ae,ue,λi a x e1 e2=>(hbt i a x e1 e2).keep (aJ.of (s1.trans s2))⟩ ((s1.trans s2) _ _ v5) hd (by omega)
structure Bad(ss:Hd)(x:W1)(why:Str):Prop where
 why:∀f,gR (.one x) f [ss]=some why
 ok:lL (.one x)
 nm:eZ (.one x)=false/\ny x=false
theorem tY{ss:Hd}{x:W1}{c:Int}(hc:c∈cZ x)(h:(ss.length:Int)<c)(f:Fl):gR (.one x) f [ss]=some ("column" : Str):=by unfold gR;rw[UD];intro z;have:=List.all_eq_true.mp z c hc;unfold there at this;rw[UA]at this;have:=UB this.2;have e:(List.length ([ss].headD []))=ss.length:=rfl;rw[e]at this;omega
theorem pE{ss:Hd}{x:W1}(hc:∀c∈cZ x,1<=c/\c<=ss.length)(h:bK (.one x) [ss]=false)(f:Fl):gR (.one x) f [ss]=some ("sort" : Str):=by unfold gR;rw[UE,UD (by rw[h];exact Ud)];refine List.all_eq_true.mpr λc h'=>?_;show(decide (1<=c)&&decide (c<=(ss.length:Nat)))=true;have:=hc c h';rw[TY this.1,TY this.2];rfl
theorem DN{ss:Hd}(h:ss.length=6)(f:Fl):gR (.one .number) f [ss]=some ("wide" : Str):=by unfold gR;rw[UE (by rfl),UE (by rfl),UD];show¬(ss++(["t"]:Hd)).length<=6;rw[T1,h];decide
def vZ(ss:Hd):List Int:=((List.range ss.length).filter λk=>decide (ss.getD k ""="w")).map λ(k:Nat)=>(k:Int)+1
theorem xw{ss:Hd}{c:Int}:c∈vZ ss↔(1<=c/\c<=ss.length)/\bz ss c="w":=by
 unfold vZ;rw[Ui];constructor
 ·rintro⟨k,hk,rfl⟩;obtain⟨h1,h2⟩:=List.mem_filter.mp hk;have h1:k<ss.length:=List.mem_range.mp h1;refine⟨by omega,?_⟩;unfold bz;rw[show((k:Int)+1-1).toNat=k by omega];exact UB h2
 ·rintro⟨h1,h2⟩;refine⟨(c-1).toNat,List.mem_filter.mpr ⟨List.mem_range.mpr (by omega),?_⟩,by omega⟩;exact TY h2
def BC:Sp:=λvs H Q _=>∃(p l:Addr)(ss:Hd),vs=[.ref p,.ref l]/\dz H p/\dY H l ss/\dZ ss/\∀(T a:Addr)(x:W1)(why:Str) H',ba p H H'->H' T=some (.tup [.ref a,.str why])->du H' a x->Bad ss x why->Q (.ref T) H'
abbrev lz:Stmt:=top 94
theorem g_:av ["_law_pot_here","_law_sorts","_law_wide","_law_way","_law_word"] ["_law_pot_here","_law_sorts"] (ao lz):=fs
theorem Ij(B:j7 mg)(F:FA K mg "_law_bad" lz)
  (ay:bA bx P w K mg base 1 "_law_draw" ["_law_pot_here","_law_many"] fm) :
  bA bx P w K mg base 2 "_law_bad" ["_law_pot_here","_law_sorts"] BC:=by
 refine F.ok g_ λf cdv A outer s H vs Q E hr h=>?_;have hu:=iH hr;obtain⟨p,l,ss,rfl,hP,hl,hs,q⟩:=h;refine rQ (cH (bc (i:=2) g_.nd rfl (UH rfl) (aN aU rfl B.len UU (aa (pv 1) ah)))
  (cH (bc (i:=3) g_.nd rfl (UH rfl) (aL ay hr (aa (pv 0) (aa ai ah))))
  (cH (fo (i:=4) (N':=["_law_k","_law_sorts"]) (src:=[none,some 1]) g_.nd rfl (UH rfl) rfl rfl (bh.lJ (by kernel_rfl)) (el rfl B.range (aa (pv 2) ah)) (λcl C s H fp=>(fX (i:=0))) (tc:=(kY (fQ M0 (fQ (lP K) (bF 1) (bF 0)) (tC (.str "w"))))) (λcl C s H fp=>iN (bg bO (bM K (ug 1) (i3 0)) au)) (te:=(fQ (v7 λi j=>V.int (i+j)) (bF 0) (tC (.int 1)))) (λcl C s H fp=>(aQ cb (i3 0) ai)))
  (d_ (bg bO (pv 3) ai) (cM (aH (ak (aH (ak (az au) (ak (aH (ak (aH (ak (az (aQ cb (aQ cb (pv 2) ai) (aL ay hr (aa (pv 0) (aa ai ah))))) (ak (az c0) aE))) aE)) aE))) (ak (az au) aE))))
  (d_ (bg bO (pv 3) ai) (cM (aH (ak (aH (ak (az au) (ak (aH (ak (az ai) (ak (az (aQ cb (pv 2) ai)) aE))) aE))) (ak (az au) aE))))
  (d_ (PW.pt (ix (bg bO (pv 3) ai) (gX (bg (mG hu) (pv 4) (bZ ah))))) (cM (aH (ak (aH (ak (az au) (ak (aH aE) (ak (rq (r:=lP K) eE (az (pv 4)) (az ai) (λ_ _=>rfl)) aE)))) (ak (az au) aE))))
  (d_ (PW.pt (ix (bg bO (pv 3) ai) (gX (bg (uN hu) (pv 4) (bZ ah))))) (cM (aH (ak (aH (ak (az au) (ak (az (pv 2)) (ak (aH (ak (az au) (ak (az c0) (ak (aH aE) aE)))) aE)))) (ak (az au) aE))))
  (d_ (PW.pt (ix (bg bO (pv 3) ai) (gX (bg (mG hu) (pv 4) (bZ ah))))) (cM (aH (ak (aH (ak (az au) (ak (rq (r:=lP K) eE (az (pv 4)) (az ai) (λ_ _=>rfl)) (ak (aH (ak (az au) (ak (aH aE) aE))) aE)))) (ak (az au) aE))))
  (d_ (bg bO (pv 2) ai) (cM (aH (ak (aH (ak (az au) aE)) (ak (az au) aE))))
  (cM (aH (ak (aH (ak (az au) (ak (az (aQ cb (pv 2) ai)) (ak (aH (ak (az au) (ak (aH aE) aE))) aE)))) (ak (az au) aE))))))))))))) ?_
 have s1:=hs.pos;have s6:=hs.six;have hn:(ss.map V.str).length=ss.length:=TZ ..;have nl:l≠p:=oj hP hl hs.pos;refine⟨_,rfl,l,_,rfl,.inl (bj.of hl),aj ?_⟩;dsimp only;rw[hn];refine⟨_,rfl,p,_,rfl,hP,by decide,by decide,λd H1 g1 a1 b1=>aj ?_⟩;dsimp only;have hl1:dY H1 l ss:=g1.keep _ _ nl hl;refine⟨_,rfl,_,rfl,(kR (by omega) (by omega)).1,(kR (by omega) (by omega)).2,λD hD=>?_⟩;refine fc (n:=((ss.length:Nat):Int).toNat) (λi σ ys H'=>(∃o,σ=[o,some (.ref l)])/\ys=(((List.range i).filter λk=>decide (ss.getD k ""="w")).map λ(k:Nat)=>(k:Int)+1).map V.int/\ys.length<=i/\H' D=some (.lst ys)/\aG H1 H') ⟨⟨none,rfl⟩,rfl,TU _,ae,ag hD _⟩ ?_ ?_ ?_ ?_
 ·rintro i σ ys H' _ ⟨_,_,hi,h,_⟩;exact⟨h,hi⟩
 ·exact TV (show((ss.length:Nat):Int).toNat<=1000 by omega) (by decide)
 ·rintro i σ ys H' hi ⟨⟨o,rfl⟩,rfl,hz',h,sm⟩;have hi':i<ss.length:=by omega
  refine aj ?_;refine⟨_,rfl,_,rfl,l,_,_,_,rfl,rfl,bj.of (sm _ _ hl1),by rw[show(0:Int)+(i:Int)=(i:Int) by omega];exact sP hi',rfl,_,rfl,?_⟩;rw[f9];by_cases e:ss.getD i ""="w"
  ·rw[TY e];refine dX ⟨_,rfl,_,_,rfl,rfl,h,⟨_,rfl⟩,?_,?_,ae,bo hD sm⟩
   ·rw[List.range_succ,List.filter_append,List.filter_cons_of_pos (by rw[TY e]),T4,T4];simp
   ·rw[T1];exact Nat.succ_le_succ hz'
  ·rw[TX e];refine cV ⟨⟨_,rfl⟩,?_,Nat.le_succ_of_le hz',h,sm⟩;rw[List.range_succ,List.filter_append,List.filter_cons_of_neg (by rw[TX e];exact Ud)];simp
 rintro σ ys H2 ⟨_,rfl,_,hD2,sm⟩;have hD2:H2 D=some (.lst ((vZ ss).map V.int)):=hD2;have g2:ba p H H2:=g1.trans (ba.same g1.cy sm);refine aj ?_;dsimp only;have HW:∀{neg:Bool}{H3:Hp}{T:Bool->Hp->Prop},aG H2 H3->(∀b H',(b=(if neg then !((vZ ss).map V.int).isEmpty else((vZ ss).map V.int).isEmpty))->aG H2 H'->T b H')->kY (fQ (Js neg) (bF 4) (Gu kK)) [some (.ref p),some (.ref l),some (.int (ss.length:Nat)),some (.int d),some (.ref D)] H3 T:=λ{neg H3 T} s3 hT=>⟨_,rfl,Uo _,λN hN=>⟨D,N,_,rfl,rfl,ag hN _ _ _ (s3 _ _ hD2),ae,_,rfl,hT _ _ rfl (s3.trans (ag hN _))⟩⟩;refine bH (λb H'=>H2=H') (λT hT=>⟨_,rfl,rfl,_,rfl,hT _ _ rfl⟩) ?_ ?_
 ·rintro H' rfl;refine⟨_,rfl,_,_,rfl,rfl,_,rfl,p,_,rfl,g2.cy,by decide,by decide,λd1 H3 g3 a3 b3=>⟨_,_,rfl,rfl,cn,λu1 h1=>⟨cN,λu2 h2=>⟨cn,λu3 h3=>⟨cn,λT hT=>?_⟩⟩⟩⟩⟩;have z2:=ag h2 (.tup [.ref u1]);have z3:=ag h3 (.tup [.str "sort",.ref u2]);have z4:=ag hT (.tup [.ref u3,.str "column"]);refine q T u3 (.sort [((ss.length:Int)+1+d1,true)]) _ _ ((((((g2.trans g3).new h1).new h2).new h3).new hT)) ae ⟨u2,[u1],z4 _ _ ae,(z3.trans z4) _ _ ae,rfl,λi a x e1 e2=>?_⟩ ⟨tY (c:=(ss.length:Int)+1+d1) (by simp[cZ]) (by omega),eX (by show 1<=1000;decide) trivial trivial,rfl,rfl⟩;match i with
  | 0=>cases e1;cases e2;exact(z2.trans (z3.trans z4)) _ _ ae
  |i+1=>cases e1
 rintro H' rfl;refine bH (λb H'=>H2=H') (λT hT=>⟨_,rfl,rfl,_,rfl,hT _ _ rfl⟩) ?_ ?_
 ·rintro H' rfl;refine⟨_,rfl,_,_,rfl,rfl,cn,λu1 h1=>⟨cn,λu2 h2=>⟨cn,λT hT=>?_⟩⟩⟩;have z2:=ag h2 (.tup [.str "cut",.ref u1]);have z4:=ag hT (.tup [.ref u2,.str "column"]);exact q T u2 (.cut [1,(ss.length:Int)+1]) _ _ (((g2.new h1).new h2).new hT) ae ⟨u1,z4 _ _ ae,(z2.trans z4) _ _ ae⟩ ⟨tY (c:=(ss.length:Int)+1) (by simp[cZ]) (by omega),eX (by show 2<=1000;decide) trivial trivial,rfl,rfl⟩
 rintro H' rfl;have vQ:∀{b:Bool},b=true->b=(if true then !((vZ ss).map V.int).isEmpty else((vZ ss).map V.int).isEmpty)->∃c r,vZ ss=c::r:=λ{b} hb e=>by
  subst hb;cases ew:vZ ss with
  |nil=>rw[ew]at e;cases e
  |cons c r=>exact⟨c,r,rfl⟩
 refine bH (λb H'=>(b=true->∃c r,vZ ss=c::r)/\aG H2 H') (λT hT=>?_) ?_ ?_
 ·exact jt ⟨_,rfl,rfl,_,rfl,fw (λ_=>HW (aG.refl _) λb H' hb s'=>hT _ _ ⟨λz=>vQ z hb,s'⟩) λ_=>hT _ _ ⟨λz=>(by cases z),aG.refl _⟩⟩
 ·rintro H3 ⟨hw,s3⟩;obtain⟨c,r,ew⟩:=hw rfl;have hc:=xw.mp (show c∈vZ ss by rw[ew];simp);have yI:=s3 _ _ hD2;rw[ew]at yI;refine⟨m_,λu1 h1=>⟨_,rfl,D,_,0,_,rfl,rfl,bj.of (ag h1 _ _ _ yI),aP (j:=0) rfl,cm,λu2 h2=>⟨cn,λT hT=>?_⟩⟩⟩;have z2:=ag h2 (.tup [.str "sum",.ref u1,.int c]);have z4:=ag hT (.tup [.ref u2,.str "sort"]);refine q T u2 (.sum [] c) _ _ ((((g2.trans (ba.same g2.cy s3)).new h1).new h2).new hT) ae ⟨u1,z4 _ _ ae,(z2.trans z4) _ _ ae⟩ ⟨pE (λe he=>?_) ?_,eX (by show 0<=1000;decide) trivial trivial,rfl,rfl⟩
  ·have he:e∈([]:List Int)++[c]:=he;rw[show e=c by simpa using he];exact hc.1
  ·show(!decide (bz ss c="w"))=false;rw[TY hc.2];rfl
 rintro H3 ⟨_,s3⟩;refine bH (λb H'=>(b=true->vZ ss=[])/\aG H2 H') (λT hT=>?_) ?_ ?_
 ·refine jt ⟨_,rfl,rfl,_,rfl,fw (λ_=>HW (neg:=false) s3 λb H' hb s'=>hT _ _ ⟨λz=>?_,s'⟩) λ_=>hT _ _ ⟨λz=>(by cases z),s3⟩⟩;subst z;cases ew:vZ ss with
  |nil=>rfl
  |cons c r=>rw[ew]at hb;cases hb
 ·rintro H4 ⟨hw,s4⟩;have hw:=hw rfl;have g4:ba p H H4:=g2.trans (ba.same g2.cy s4);have hcl:1<=(ss.length:Int)/\(ss.length:Int)<=ss.length:=by omega
  have hnw:bz ss ss.length≠"w":=λz=>by have:((ss.length:Nat):Int)∈vZ ss:=xw.mpr ⟨hcl,z⟩;rw[hw]at this;cases this
  refine⟨_,rfl,m_,λu1 h1=>⟨cm,λu2 h2=>⟨cm,λu3 h3=>⟨cn,λT hT=>?_⟩⟩⟩⟩;have z3:=ag h3 (.tup [.str "keep",.int (ss.length:Nat),.ref u2]);have z4:=ag hT (.tup [.ref u3,.str "sort"]);refine q T u3 (.keep ss.length "w") _ _ ((((g4.new h1).new h2).new h3).new hT) ae ⟨u2,_,z4 _ _ ae,(z3.trans z4) _ _ ae⟩ ⟨pE (λe he=>?_) ?_,eX trivial trivial trivial,rfl,rfl⟩
  ·rw[Uh.mp he];exact hcl
  ·show decide (("w" : Str)=cE (bz ss ss.length))=false;refine TX λz=>?_;unfold cE at z;split at z
   ·exact UC z (by decide +kernel)
   ·exact hnw z.symm
 rintro H4 ⟨_,s4⟩;refine bH (λb H'=>(b=true->∃c r,vZ ss=c::r)/\aG H2 H') (λT hT=>?_) ?_ ?_
 ·exact jt ⟨_,rfl,rfl,_,rfl,fw (λ_=>HW s4 λb H' hb s'=>hT _ _ ⟨λz=>vQ z hb,s'⟩) λ_=>hT _ _ ⟨λz=>(by cases z),s4⟩⟩
 ·rintro H5 ⟨hw,s5⟩;obtain⟨c,r,ew⟩:=hw rfl;have hc:=xw.mp (show c∈vZ ss by rw[ew];simp);have EM:=s5 _ _ hD2;rw[ew]at EM;have g5:ba p H H5:=g2.trans (ba.same g2.cy s5);refine⟨_,rfl,D,_,0,_,rfl,rfl,bj.of EM,aP (j:=0) rfl,m_,λu1 h1=>⟨cn,λu2 h2=>⟨cm,λu3 h3=>⟨cn,λT hT=>?_⟩⟩⟩⟩;have z3:=ag h3 (.tup [.str "keep",.int c,.ref u2]);have z4:=ag hT (.tup [.ref u3,.str "sort"]);refine q T u3 (.keep c "n") _ _ ((((g5.new h1).new h2).new h3).new hT) ae ⟨u2,_,z4 _ _ ae,(z3.trans z4) _ _ ae⟩ ⟨pE (λe he=>?_) ?_,eX trivial trivial trivial,rfl,rfl⟩
  ·rw[Uh.mp he];exact hc.1
  ·show decide (("n" : Str)=cE (bz ss c))=false;rw[hc.2];decide +kernel
 rintro H5 ⟨_,s5⟩;have g5:ba p H H5:=g2.trans (ba.same g2.cy s5);refine bH (λb H'=>(b=true->ss.length=6)/\H5=H') (λT hT=>⟨_,rfl,rfl,_,rfl,hT _ _ ⟨λz=>by rw[rp]at z;have:=UB z;omega,rfl⟩⟩) ?_ ?_
 ·rintro H' ⟨hw,rfl⟩;refine⟨cN,λu1 h1=>⟨cn,λT hT=>?_⟩⟩;exact q T u1 .number _ _ ((g5.new h1).new hT) ae (ag hT _ _ _ ae) ⟨DN (hw rfl),eX trivial trivial trivial,rfl,rfl⟩
 rintro H' ⟨_,rfl⟩;refine⟨_,rfl,_,_,rfl,rfl,m_,λu1 h1=>⟨cn,λu2 h2=>⟨cm,λu3 h3=>⟨cn,λT hT=>?_⟩⟩⟩⟩;have z3:=ag h3 (.tup [.str "keep",.int ((ss.length:Nat)+1),.ref u2]);have z4:=ag hT (.tup [.ref u3,.str "column"]);exact q T u3 (.keep ((ss.length:Int)+1) "n") _ _ ((((g5.new h1).new h2).new h3).new hT) ae ⟨u2,_,z4 _ _ ae,(z3.trans z4) _ _ ae⟩ ⟨tY (c:=(ss.length:Int)+1) (by simp[cZ]) (by omega),eX trivial trivial trivial,rfl,rfl⟩
end My
namespace L2
open PySem PySem.Spec PyProof.Rows
def Mm(K:UX)(tb:TS)(E:XK)(C1 C2:Addr)(i:Nat)(MV Nb:TS):TS:=λD σ H=>tb D σ H/\∀(σ':St)(C e:Addr)(od:Option Addr)(H':Hp),σ'.length=σ.length->H' e=some (xO e C od)->E (.ref C) (some e) H'->
 (PySem.W.exmOne K (.ref C) (.ref C1)=some true/\MV {nx:=λcD H2=>D.nx (cD.set i none) H2,rt:=D.rt,bk:=λcD H2=>D.bk (cD.set i none) H2,ct:=λcD H2=>D.ct (cD.set i none) H2} (σ'.set i (some (.ref e))) H')\/
 (PySem.W.exmOne K (.ref C) (.ref C1)=some false/\PySem.W.exmOne K (.ref C) (.ref C2)=some true/\Nb {nx:=λcD H2=>D.nx (cD.set i none) H2,rt:=D.rt,bk:=λcD H2=>D.bk (cD.set i none) H2,ct:=λcD H2=>D.ct (cD.set i none) H2} (σ'.set i (some (.ref e))) H')
theorem ER{X:Cx}{E:XK}{L C1 C2:Addr}{i:Nat}{n x1 x2:Str}{body CC DI:List Stmt}{b1 b2:Stmt}{S2 Tc hp1 hp2 pos:Pos}{tb MV Nb:TS}(tp:Top X L)(hN:X.N.Nodup)(hi:X.N[i]? = some n)(hk:X.env.scope.names.lookup n=some .local)(hg1:Gl X x1)(hm1:X.mg x1=some (.ref C1))(hg2:Gl X x2)(hm2:X.mg x2=some (.ref C2))
  (hb:∀ac,pb ((X.bear ac).xs E) body tb) (hs1:∀e,pb (X.r0 e) (b1::CC) MV) (hs2:∀e,pb (X.r0 e) (b2::DI) Nb) (hd1:(x1==("__debug__" : Str))=false:=by decide) (hd2:(x2==("__debug__" : Str))=false:=by decide) :
  PS X (.Try body [.ExceptHandler (some (.Name x1 S2)) (some n) (b1::CC) hp1,.ExceptHandler (some (.Name x2 Tc)) (some n) (b2::DI) hp2] [] [] pos) (Mm X.K tb E C1 C2 i MV Nb):=by
 intro ac s σ H D I h;obtain⟨h1,h2⟩:=h;have back:∀{f:Flow}{s1:Shared},SP ((X.bear ac).xs E) [] D f s1->SP X ac D f s1:=λ{f s1} z=>by
  cases f with
  |next=>obtain⟨σ',H',I',q⟩:=z;exact⟨σ',H',I'.cQ.lr,q⟩
  |brk=>obtain⟨σ',H',I',q⟩:=z;exact⟨σ',H',I'.cQ.lr,q⟩
  |cont=>obtain⟨σ',H',I',q⟩:=z;exact⟨σ',H',I'.cQ.lr,q⟩
  |ret u=>obtain⟨v,σ',H',I',r,q⟩:=z;exact⟨v,σ',H',I'.cQ.lr,r,q⟩
 refine wpAny_Try_except (Uv (hb ac [] s σ H D (I.bear.wish _) h1) (λf s1 z=>?_) λev s1 hx=>?_)
 ·cases f with
  |next=>exact wpAny_execs_nil (back z)
  |brk=>exact back (f:=.brk) z
  |cont=>exact back (f:=.cont) z
  |ret u=>exact back (f:=.ret u) z
 obtain⟨e,C,od,K7,H1,rfl,I1,f1,hE⟩:=hx;have Q0:Top (X.bear ac) L:=⟨tp.ex,tp.fr⟩;have hlen:K7.length=σ.length:=by rw[I1.len];exact I.len.symm
 have hh:=h2 K7 C e od H1 hlen f1.at_ hE;refine oX (X:=X.bear ac) I1.ok.frames Q0 tp.fr I1 f1 λs2 T I2 f2=>?_;refine f_ I2 f2 none λs3 I3 f3=>?_;have LX:Inv (X.r0 e) ac K7 H1 s3:=I3.lr.r0 e;obtain⟨⟨fl,sl,Ko⟩,_⟩:=I3.hok e _ f3.at_;have LT:PySem.W.Looks (model X.prog X.w) s3.heap (typeOf (.ref e)) (.ref C):=(PySem.W.Looks.ld Ko).andThen .now;refine wpAny_handleBy_cons (codeAny_handlers_test ?_) (by intro z;cases z);refine je (X:=X.r0 e) LX hg1 hm1 ?_ hd1;rcases hh with⟨m1,hts⟩|⟨m1,m2,hts⟩
 ·refine(PySem.W.exm_one LX.i0 LT m1).here ?_;refine codeAny_handlers_suite_as ?_;refine f_ I3 f3 none λs5 I5 f5=>?_;refine gu (X:=X.r0 e) (I5.lr.r0 e) hN hi (.inl hk) (show RelV (.ref e) (.ref e) from rfl) (λs6 I6=>?_) (.inr hk);refine Uv (hs1 e ac s6 _ H1 _ I6 hts) (λf s7 z=>?_) λ_ _ z=>UJ z;cases f with
  |next=>obtain⟨σ',H',I',q⟩:=z;exact gU (I'.vT I.ok) hN hi hk λs8 I8=>⟨_,H',I8,q⟩
  |brk=>obtain⟨σ',H',I',q⟩:=z;exact gU (I'.vT I.ok) hN hi hk λs8 I8=>⟨_,H',I8,q⟩
  |cont=>obtain⟨σ',H',I',q⟩:=z;exact gU (I'.vT I.ok) hN hi hk λs8 I8=>⟨_,H',I8,q⟩
  |ret u=>obtain⟨v,σ',H',I',r,q⟩:=z;exact gU (I'.vT I.ok) hN hi hk λs8 I8=>⟨v,_,H',I8,r,q⟩
 ·refine(PySem.W.exm_one LX.i0 LT m1).here ?_;refine wpAny_handleBy_cons (codeAny_handlers_test ?_) (by intro z;cases z);refine je (X:=X.r0 e) LX hg2 hm2 ?_ hd2;refine(PySem.W.exm_one LX.i0 LT m2).here ?_;refine codeAny_handlers_suite_as ?_;refine f_ I3 f3 none λs5 I5 f5=>?_;refine gu (X:=X.r0 e) (I5.lr.r0 e) hN hi (.inl hk) (show RelV (.ref e) (.ref e) from rfl) (λs6 I6=>?_) (.inr hk);refine Uv (hs2 e ac s6 _ H1 _ I6 hts) (λf s7 z=>?_) λ_ _ z=>UJ z;cases f with
  |next=>obtain⟨σ',H',I',q⟩:=z;exact gU (I'.vT I.ok) hN hi hk λs8 I8=>⟨_,H',I8,q⟩
  |brk=>obtain⟨σ',H',I',q⟩:=z;exact gU (I'.vT I.ok) hN hi hk λs8 I8=>⟨_,H',I8,q⟩
  |cont=>obtain⟨σ',H',I',q⟩:=z;exact gU (I'.vT I.ok) hN hi hk λs8 I8=>⟨_,H',I8,q⟩
  |ret u=>obtain⟨v,σ',H',I',r,q⟩:=z;exact gU (I'.vT I.ok) hN hi hk λs8 I8=>⟨v,_,H',I8,r,q⟩
structure Fu(P:Program)(w:World)(K:UX)(mg:Str->Option Value)(base:Heap)(k:Nat)(x:Str)(ps:List Str)(sp:Sp):Prop where
 ex:∃f fd,(∀vs H Q E,sp vs H Q E->vs.length=ps.length)/\(∀(A:Around)(e:Addr)(outer:List Env)(s:Shared)(H:Hp)(args:Args)(us:List Value)(vs:List V)(Q:VK),dH k A->sX P w K mg base A outer s H->BindsTo s fd args (ps.zip us)->Vals vs us->sp vs H Q E0->
  codeAny (model P w) (A.mark (some (.ref e))) (.call (.ref f) args) (CR bx outer P w H s Q E0) s)/\Binds K fd ps []/\PySem.W.keepIn K (.ref f)=true/\mg x=some (.ref f)
theorem FA.RN{P:Program}{w:World}{K:UX}{mg:Str->Option Value}{base:Heap}{x:Str}{st:Stmt}{ps N:List Str}{sp:Sp}{k:Nat}(F:FA K mg x st)(S:av N ps (ao st))
  (len:∀vs H Q E,sp vs H Q E->vs.length=ps.length)
  (hbody:∀(f:Addr)(cdv:Value)(A:Around)(outer:List Env)(s:Shared)(H:Hp)(vs:List V)(Q:VK)(e:Addr),dH k (A.deeper (envOfC x (ao st) s.heap.objs.size f cdv))->sp vs H Q E0->
   ∃t,pb ((oA bx P w K mg base N x (ao st) f cdv A outer s H E0).r0 e) (cC st) t/\t {nx:=λ_ H'=>Q .non H',rt:=Q} (start N vs) H)
  (hb:∀(kV doc pm:Value)(an:Option Addr)(cdv ct:Value)(us:List Value),us.length=ps.length->bindArgs (PySem.W.fnOf x x (dk st) (cC st) (ao st) .none kV doc pm an cdv ct) ⟨us,[]⟩=pure (ps.zip us)):Fu P w K mg base (k+1) x ps sp:=by
 obtain⟨f,fd,h1,h2⟩:=F.ex;refine⟨f,fd,len,λA e outer s H args us vs Q hr e0 hbd r hsp=>?_,h1.binds hb,h1.kp,h2⟩;obtain⟨oc,od,kV,doc,pm,an,cdv,ct,osl,rfl,lk,hcd⟩:=h1.ex;have hl:=len _ _ _ _ hsp;have KX:K.In s.heap:=e0.mod.EV.keeps λb o e=>(e0.bs b o e).1;have lim:s.heap.NoLimit:=e0.mod.nolimit.keeps λb o e=>(e0.bs b o e).1;have hkind:∀y∈ps.zip us,(ao st).names.lookup y.1=some .local\/((ao st).names.lookup y.1=some .cell/\((cellsFrom (s.heap.objs.size+1) (ao st).names []).lookup y.1).isSome=true):=λ⟨n,v⟩ hy=>by
  rcases S.par n (List.of_mem_zip hy).1 with q|q
  ·exact .inl q
  ·exact .inr ⟨q,PySem.W.cellsFrom_some _ _ _ (.inl q)⟩
 refine codeAny_call_function (A:=A.mark (some (.ref e))) hr.depth (KX _ _ lk) rfl S.co S.gen rfl (PySem.W.codeRec_of KX hcd) (hbd _ _ _ _ ?_);refine wpAny_newFunctionEnv_cells S.kind hkind λenv he s1 xc=>?_;subst he;refine⟨lim.keeps xc.toInCall.keep,codeAny_func ?_⟩;obtain⟨t,ht,hq⟩:=hbody f cdv A outer s H vs Q e (hr.deeper _) hsp;have I:=(rY (CX:=bx) (E:=E0) S hr.hd e0 hl r xc).r0 e;refine Uv (ht [] s1 (start N vs) H _ I hq) (λfl s' hs=>?_) λe s' hs=>hs.elim;have fin:∀{σ':St}{H':Hp}{v:V}{u:Value},Inv ((oA bx P w K mg base N x (ao st) f cdv A outer s H E0).r0 e) [] σ' H' s'->RelV v u->Q v H'->CE outer P w H s Q u s' :=
  λ{σ' H' v u} J rv q=>⟨v,H',J.os,J.bare,J.base,J.hok,rv,q⟩
 cases fl with
 |ret u =>obtain⟨v,σ',H',J,rv,q⟩:=hs;exact fin J rv q
 |next =>obtain⟨σ',H',J,q⟩:=hs;exact fin (v:=V.non) (u:=Value.none) J rfl q
 |brk =>obtain⟨_,_,_,q⟩:=hs;exact UJ q
 |cont =>obtain⟨_,_,_,q⟩:=hs;exact UJ q
theorem Hl{X:Cx}{v:Addr}{x:Str}{ps:List Str}{sp:Sp}{j k:Nat}{e:Expr}{es:List Expr}{t:TA}{p pos:Pos}(G:Fu X.prog X.w X.K X.mg X.base j x ps sp)(hr:dH k X.A)(hg:Gl (X.r0 v) x)(ha:PA (X.r0 v) (e::es) t)(hl:j<=k:=by omega)
  (hdb:(x==("__debug__" : Str))=false:=by decide) (he:starEach (e::es) X.env=(false,eval e X.env)::starEach es X.env:=by rfl) (hpl:(backTo pos (starEach es X.env)).any (·.1)=false:=by rfl) :
  PE (X.r0 v) (.Call (.Name x p) (e::es) [] pos) (kW sp [] E0 t):=by
 obtain⟨f,fd,len,run,hb,hk,hm⟩:=G.ex;intro ac s σ H Q I h;refine wpAny_Call_Name_kw (je (X:=X.r0 v) I hg hm ?_ hdb);refine PySem.W.callWith_K (h₀:=X.base) I.ok.mod.EV hk (bJ (ha pos ac s σ H _ I h) λus s1 ⟨vs,H1,I1,r,q⟩=>⟨I1.i0,?_⟩) he hpl;have q:sp (vs++[]) H1 Q E0:=q;rw[UN]at q;have hl':(us++[]).length=ps.length:=by rw[UN,←r.length];exact len _ _ _ _ q
 have hbs:=hb s1 us I1.i0 hl';rw[UN]at hbs;have e0:sX X.prog X.w X.K X.mg X.base X.A X.stack s1 H1:=⟨I1.ok.frames,I1.ok.mod,I1.bs,TV I1.ok.Au I1.sz,I1.stack,I1.lU,I1.hok,I1.bare⟩;refine wpAny_call (codeAny_mono (run X.A v X.stack s1 H1 ⟨us,[]⟩ us vs Q (hr.mono hl) e0 hbs r q) λr s' hq=>?_);cases r with
 |error e=>exact hq
 |ok fl =>
  cases fl with
  |ret u=>exact I1.after hq
  |next=>exact UJ hq
  |brk=>exact UJ hq
  |cont=>exact UJ hq
theorem zZ{X:Cx}:e_ X (.builtin "isinstance") (λxs H Q=>∃(a C tp:Addr)(cs:List Addr)(b:Bool),xs=[.ref a,.ref tp]/\Bf X.K H a C/\H tp=some (.tup (cs.map V.ref))/\PySem.W.kitAny X.K (.ref C) (cs.map Value.ref)=some b/\Q (.bl b) H):=by
 intro ac s σ H xs us Q I r h;obtain⟨a,C,tp,cs,b,rfl,⟨cx,hx⟩,ht,e,q⟩:=h;obtain⟨u,w',rfl,r1,r2⟩:=vals2 r;cases(show u=Value.ref a from r1);cases(show w'=Value.ref tp from r2);have J:∃ox od,PySem.W.InstAt s.heap a ox C od:=by
  rcases hx with ea|⟨dx,fs,ea,ed⟩
  ·obtain⟨⟨fl,sl,ha⟩,_⟩:=I.hok a _ ea;exact⟨_,none,ha,rfl,rfl,True.intro⟩
  ·obtain⟨⟨fl,sl,ha⟩,_⟩:=I.hok a _ ea;obtain⟨⟨mA,⟨od,_,_,ho,_⟩,_⟩,_⟩:=I.hok dx _ ed;exact⟨_,some od,ha,rfl,rfl,ho⟩
 obtain⟨ND,its,rv,⟨cl,dd,data,sl⟩,h1,h2,⟨n,h3⟩,h4⟩:=I.hok tp _ ht;simp only at h2 h3;subst h2 h3;have ei:its=cs.map Value.ref:=by
  clear e ht h1 ND h4;induction cs generalizing its with
  |nil=>cases rv;rfl
  |cons c cs ih =>
   cases rv with
   |cons r t=>cases(show _=Value.ref c from r);rw[UR,ih _ t]
 subst ei;exact PySem.W.kia_tup (vG cx) I.i0 J h1 e (λz=>nomatch z) λtk=>⟨.bl b,H,I.tok _,rfl,q⟩
end L2
namespace My
open PySem L2
theorem uY{X:Cx}{K:UX}{o:Expr}{ta:TE}{f:Str}{pos:Pos}(e:X.K=K)(he:PE X o ta)(hb:attributeBase o f X.env (eval o X.env)=eval o X.env):PE X (.Attribute o f pos) (Hh K ta f):=by subst e;exact FJ he hb
theorem four{α:Type}{l:List α}(h:l.length=4):∃a b c d,l=[a,b,c,d]:=by obtain⟨a,m,rfl,z0⟩:=rh (n:=3) h;obtain⟨b,m,rfl,z1⟩:=rh (n:=2) z0;obtain⟨c,m,rfl,z2⟩:=rh (n:=1) z1;obtain⟨d,m,rfl,z3⟩:=rh (n:=0) z2;cases List.length_eq_zero_iff.mp z3;exact⟨a,b,c,d,rfl⟩
theorem Ic{v1 v2:V}:(AG v1 v2).lookup ("place" : Str)=some v1:=by rw[eA,UD (by decide),eA,UE rfl]
theorem JT{v1 v2:V}:(AG v1 v2).lookup ("why" : Str)=some v2:=by rw[eA,UE rfl]
def L9(K:UX):List V->Hp->VK->Prop:=λxs H Q=>∃x cv t c b,xs=[x,cv]/\P6 cv c/\(kN K H x t\/∃a C,x=.ref a/\t=.ref C/\Bf K H a C)/\PySem.W.kitOne K t c=some b/\Q (.bl b) H
theorem ma{X:Cx}{K:UX}(e:X.K=K):e_ X (.builtin "isinstance") (L9 K):=by subst e;exact vy
def JS(K:UX):List V->Hp->VK->Prop:=λxs H Q=>∃(a C tp:Addr)(cs:List Addr)(b:Bool),xs=[.ref a,.ref tp]/\Bf K H a C/\H tp=some (.tup (cs.map V.ref))/\PySem.W.kitAny K (.ref C) (cs.map Value.ref)=some b/\Q (.bl b) H
theorem An{X:Cx}{K:UX}(e:X.K=K):e_ X (.builtin "isinstance") (JS K):=by subst e;exact zZ
structure Ld(K:UX)(mg:Str->Option Value)(C CP PE:Addr):Prop where
 mP:mg "PipeError"=some (.ref PE)
 mv:mg "ValueError"=none
 ec:PySem.W.exmOne K (.ref C) (.ref C)=some true
 en:PySem.W.exmOne K (.ref CP) (.ref C)=some false
 ep:PySem.W.exmOne K (.ref CP) (.ref CP)=some true
 kc:PySem.W.kitOne K (.ref C) (.ref CP)=some false
 kp:PySem.W.kitOne K (.ref C) (.ref PE)=some true
 kq:PySem.W.kitOne K (.ref CP) (.ref PE)=some true
 kv:PySem.W.kitOne K (.ref CP) (.type "ValueError")=some true
structure Lm(K:UX)(mg:Str->Option Value)(C CP a1 a2 a3 a4 a5:Addr):Prop where
 m1:mg "Falling"=some (.ref a1)
 m2:mg "NoStep"=some (.ref a2)
 m3:mg "NoText"=some (.ref a3)
 m4:mg "TooMany"=some (.ref a4)
 m5:mg "Unknown"=some (.ref a5)
 kc:PySem.W.kitAny K (.ref C) [.ref a1,.ref a2,.ref a3,.ref a4,.ref a5]=some false
 kp:PySem.W.kitAny K (.ref CP) [.ref a1,.ref a2,.ref a3,.ref a4,.ref a5]=some false
def Ky(K:UX)(C CP:Addr):Sp:=λvs H Q _=>∃(a:Addr),vs=[.ref a]/\(Bf K H a C\/Bf K H a CP)/\∀H',aG H H'->Q (.bl false) H'
abbrev d9:Stmt:=top 95
theorem kP:av ["_law_e"] ["_law_e"] (ao d9):=fs
theorem Ln{P:Program}{w:World}{K:UX}{mg:Str->Option Value}{base:Heap}{C CP a1 a2 a3 a4 a5:Addr}(F:FA K mg "_law_other_class" d9)(B:j7 mg)(TS:Lm K mg C CP a1 a2 a3 a4 a5):Fu P w K mg base 1 "_law_other_class" ["_law_e"] (Ky K C CP):=by
 refine F.RN kP (λvs H Q E h=>?_) (λf cdv A outer s H vs Q e hr h=>?_) (by intro _ _ _ _ _ _;refine L2.Et ?_;intro _;rfl)
 ·obtain⟨a,rfl,_⟩:=h;rfl
 obtain⟨a,rfl,hx,q⟩:=h;refine⟨_,ax (aN (An (K:=K) rfl) rfl B.isinstance PyProof.Rows.boot_isinstance (aa (pv 0) (aa (aW (aa (kg rfl TS.m1) (aa (kg rfl TS.m2) (aa (kg rfl TS.m3) (aa (kg rfl TS.m4) (aa (kg rfl TS.m5) ah)))))) ah))),?_⟩;refine⟨_,rfl,Lv,λt ht=>?_⟩;have s1:=ag ht (.tup [.ref a1,.ref a2,.ref a3,.ref a4,.ref a5]);have kx:∀{D:Addr},Bf K H a D->Bf K (upd H t (.tup [.ref a1,.ref a2,.ref a3,.ref a4,.ref a5])) a D:=λ{D} z=>by
  obtain⟨z1,z2|⟨dx,fs,z2,z3⟩⟩:=z
  ·exact⟨z1,.inl (s1 _ _ z2)⟩
  ·exact⟨z1,.inr ⟨dx,fs,s1 _ _ z2,s1 _ _ z3⟩⟩
 rcases hx with hx|hx
 ·exact⟨a,C,t,[a1,a2,a3,a4,a5],_,rfl,kx hx,ae,TS.kc,q _ s1⟩
 ·exact⟨a,CP,t,[a1,a2,a3,a4,a5],_,rfl,kx hx,ae,TS.kp,q _ s1⟩
def jm(p:List Int)(s:Str):D:=.tup [.str "pipe",dI p,.str s]
def vk(h:Hd)(ws:List Wk)(pi:List Int):D:=match kH 1 h ws with
 | .no p s=>jm p s
 | .ok _ _=>match seek (TL 1 [] 0 h f0 ws) pi with
  |none=>.tup [.str "place"]
  |some _=>.tup [.str "told"]
def LU(n:Nat)(ss:Hd)(ws:List Wk)(pi:List Int):Prop:=∃(xs:List W1)(i:Nat),ws=xs.map .one/\pi=[(i:Int)]/\i<=xs.length/\(∀x∈xs,iq x/\jE x)/\(∀i,i<xs.length->Ej (TL n [] 0 ss f0 ws) i<=1000)
def nM(K:UX):Sp:=λvs H Q _=>∃(l p pa:Addr)(us:List V)(ss:Hd)(ws:List Wk)(pi:List Int),vs=[.ref l,.ref p,.ref pa]/\qt K H l us ss/\ss.length<=6/\l_ 1 H p ws/\uf 1 ws/\H pa=some (.tup (pi.map V.int))/\
 (∀h f b,kH 1 ss ws=.ok h f->seek (TL 1 [] 0 ss f0 ws) pi=some b->LU 1 ss ws pi)/\∀v H',aG H H'->aV K H' (vk ss ws pi) v->Q v H'
abbrev lM:Stmt:=top 96
theorem ot:av ["_law_kind_here","_law_pipe","_law_place","_law_e"] ["_law_kind_here","_law_pipe","_law_place"] (ao lM):=fs
variable{P:Program}{w:World}{K:UX}{mg:Str->Option Value}{base:Heap}
theorem Fb{C CP PE fI:Addr}{L:Nat}(B:j7 mg)(Cf:Jn K mg C fI)(Cp:JD K mg CP)(T:Ld K mg C CP PE)(F:FA K mg "_law_why" lM)(GO:Fu P w K mg base 1 "_law_other_class" ["_law_e"] (Ky K C CP))
  (lE:bA (vc P w) P w K mg base (L+8) "facts_at" ["kind","pipe","place"] (EE K C CP 1)) :
  bA bx P w K mg base (L+9) "_law_why" ["_law_kind_here","_law_pipe","_law_place"] (nM K):=by
 refine F.ok ot λf cdv A outer s H vs Q E hr h=>?_;obtain⟨l,p,pa,us,ss,ws,pi,rfl,hK,h6,hP,hok,hpa,hf,q⟩:=h;refine⟨_,(aq (ER (E:=(λCv oa H'=>(Cv=.ref C/\∃(e dx pl:Addr)(ps:List Int)(sl:Str),oa=some e/\aG H H'/\H' e=some (xO e C (some dx))/\H' dx=some (xD dx (AG (.ref pl) (.str sl)))/\H' pl=some (.tup (ps.map V.int))/\kH 1 ss ws=.no ps sl)\/(Cv=.ref CP/\∃(e:Addr)(h':Hd)(f':Fl),oa=some e/\aG H H'/\H' e=some (xO e CP none)/\kH 1 ss ws=.ok h' f'/\seek (TL 1 [] 0 ss f0 ws) pi=none))) (i:=3) (L:=s.heap.objs.size) ⟨⟨_,_,rfl,rfl⟩,rfl⟩ ot.nd rfl rfl rfl Cf.mf rfl Cp.mf (λac=>(b_ (c7 (ql lE hr rfl uR (aa (pv 0) (aa (pv 1) (aa (pv 2) ah)))))))
    (λe=>(bu (PW.pt (oo (fh (Hl GO hr rfl (aa (pv 3) ah))) (oo (fh (aN (ma (K:=K) rfl) rfl B.isinstance PyProof.Rows.boot_isinstance (aa (pv 3) (aa (kg rfl Cp.mf) ah)))) (m7 (m8 (fh (aN (ma (K:=K) rfl) rfl B.isinstance PyProof.Rows.boot_isinstance (aa (pv 3) (aa (kg rfl T.mP) ah))))))))) (aW (aa au ah))
     (ax (aW (aa au (aa (uY (K:=K) rfl (pv 3) rfl) (aa (uY (K:=K) rfl (pv 3) rfl) ah)))))))
    (λe=>(bu (PW.pt (oo (fh (Hl GO hr rfl (aa (pv 3) ah))) (oo (m8 (fh (aN (ma (K:=K) rfl) rfl B.isinstance PyProof.Rows.boot_isinstance (aa (pv 3) (aa (kg rfl T.mP) ah))))) (m7 (m8 (fh (aN (ma (K:=K) rfl) rfl B.isinstance PyProof.Rows.boot_isinstance (aa (pv 3) (aa (x3 (n:="ValueError") rfl T.mv (by decide +kernel)) ah))))))))) (aW (aa au ah))
     (ax (aW (aa au ah))))))
   (ax (aW (aa au ah)))),?_⟩
 refine⟨?_,?_⟩
 ·refine⟨_,rfl,_,rfl,_,rfl,l,p,pa,us,ss,ws,pi,rfl,hK,h6,hP,hok,hpa,by decide,by decide,?_,?_⟩
  ·intro ps sl er e dx pl H1 s1 z1 z2 z3;exact .inl ⟨rfl,e,dx,pl,ps,sl,rfl,s1,z1,z2,z3,er⟩
  ·intro h' f' er;refine⟨λes e H1 s1 z1=>.inr ⟨rfl,e,h',f',rfl,s1,z1,er,es⟩,λb' es=>?_⟩;obtain⟨xs,i,e1,e2,e3,e4,e5⟩:=hf h' f' b' er es;refine⟨xs,i,e1,e2,e3,e4,e5,λu H1 s1 _=>bD ⟨cN,λt ht=>q _ _ (s1.trans (ag ht _)) ?_⟩⟩;unfold vk;rw[er,es];exact bL ae (.cons (bY _) .nil)
 ·rintro σ' C' e od H1 hl he (⟨e1,e',dx,pl,ps,sl,ea,s1,z1,z2,z3,z4⟩|⟨e1,e',h',f',ea,s1,z1,z2,z3⟩)
  ·cases e1;cases ea;refine .inl ⟨T.ec,?_⟩;obtain⟨b1,b2,b3,b4,rfl⟩:=four (show σ'.length=4 from hl);have xa:Bf K H1 e C:=⟨Cf.xc,.inr ⟨dx,_,z1,z2⟩⟩;refine bH (λb H'=>b=false/\aG H1 H') (λQ' hQ=>?_) (λH3 z=>UC z.1 (by decide)) (λH3 z=>?_)
   ·refine nY ⟨_,rfl,e,rfl,.inl xa,λH2 s2=>⟨_,rfl,cV ?_⟩⟩;have xb:Bf K H2 e C:=⟨Cf.xc,.inr ⟨dx,_,s2 _ _ z1,s2 _ _ z2⟩⟩;refine nY ⟨_,rfl,_,_,_,_,_,rfl,rfl,.inr ⟨e,C,rfl,rfl,xb⟩,T.kc,_,rfl,cV ?_⟩;exact⟨_,rfl,_,_,_,_,_,rfl,rfl,.inr ⟨e,C,rfl,rfl,xb⟩,T.kp,_,rfl,hQ _ _ ⟨rfl,s2⟩⟩
   have s3:=z.2;refine⟨_,rfl,e,C,dx,_,_,rfl,s3 _ _ z1,s3 _ _ z2,Cf.xc,Cf.np,Ic,_,rfl,e,C,dx,_,_,rfl,s3 _ _ z1,s3 _ _ z2,Cf.xc,Cf.nr,JT,cm,λt ht=>?_⟩;have st:=ag ht (.tup [.str "pipe",.ref pl,.str sl]);refine q _ _ (s1.trans (s3.trans st)) ?_;unfold vk;rw[z4];exact bL ae (.cons (bY _) (.cons (gf ((s3.trans st) _ _ z3)) (.cons (bY _) .nil)))
  ·cases e1;cases ea;refine .inr ⟨T.en,T.ep,?_⟩;obtain⟨b1,b2,b3,b4,rfl⟩:=four (show σ'.length=4 from hl);have xa:Bf K H1 e CP:=⟨Cp.xc,.inl z1⟩;refine bH (λb H'=>b=false/\aG H1 H') (λQ' hQ=>?_) (λH3 z=>UC z.1 (by decide)) (λH3 z=>?_)
   ·refine nY ⟨_,rfl,e,rfl,.inr xa,λH2 s2=>⟨_,rfl,cV ?_⟩⟩;have xb:Bf K H2 e CP:=⟨Cp.xc,.inl (s2 _ _ z1)⟩;refine nY ⟨_,rfl,_,_,_,_,_,rfl,rfl,.inr ⟨e,CP,rfl,rfl,xb⟩,T.kq,_,rfl,cV ?_⟩;exact⟨_,rfl,_,_,_,_,_,rfl,rfl,.inr ⟨e,CP,rfl,rfl,xb⟩,T.kv,_,rfl,hQ _ _ ⟨rfl,s2⟩⟩
   have s3:=z.2;refine⟨cN,λt ht=>q _ _ (s1.trans (s3.trans (ag ht _))) ?_⟩;unfold vk;rw[z2,z3];exact bL ae (.cons (bY _) .nil)
end My
namespace L2
open PySem PySem.Spec PyProof.Rows
theorem jV:fillsNumberSlot (.type "tuple") "mul"=pure false:=PySem.fillsNumberSlot_seq (id:="tuple.__mul__") (r:=some (.builtin "tuple.__rmul__")) F.slot_tuple_mul.lookup (by decide +kernel) F.slot_tuple_rmul.lookup (by decide +kernel)
theorem yJ:seqRepeat? (.type "tuple")=pure (some (.builtin "tuple.__mul__")):=by unfold seqRepeat?;rw[PySem.seqSlot_of (T:="tuple") (name:="__mul__") F.slot_tuple_mul.lookup (by decide +kernel),PySem.seqSlot_of (T:="tuple") (name:="__rmul__") F.slot_tuple_rmul.lookup (by decide +kernel)];rfl
theorem mx(a:Int)(t:Tok)(l:Addr)(items:Array Value)(n:Nat)(dd:Option Addr)(sl:Array (Option Value)):Meets (Builtin.«int.__rmul__» ⟨[.int a t,.ref l],[]⟩) (λ_ R s=>s.heap.get? l=some ⟨.type "tuple",dd,.seq items n,sl⟩/\R (.ok (.ret Value.notImplemented)) s) :=
 .of_wp λprog w A R s h=>by
  obtain⟨hp,g,d,tk,os⟩:=s;obtain⟨hl,h⟩:=h
  wp_walk
  exact⟨_,rfl,h⟩
theorem Dc(l:Addr)(items:Array Value)(n:Nat)(dd:Option Addr)(sl:Array (Option Value))(t:Tok)(hi:items.isEmpty=false) :
  Meets (Builtin.«tuple.__mul__» ⟨[.ref l,.int 0 t],[]⟩) (λ_ R s=>s.heap.get? l=some ⟨.type "tuple",dd,.seq items n,sl⟩/\
   R (.ok (.ret (.ref s.heap.objs.size))) {s with heap:=s.heap.push {cls:=.type "tuple",data:=.seq #[]}}) :=
 .of_wp λprog w A R s h=>by
  obtain⟨hp,g,d,tk,os⟩:=s;obtain⟨hl,h⟩:=h;have c1:¬(decide ((0:Int) < -2 ^ 63)||decide ((0:Int)≥2 ^ 63))=true:=by decide
  have c2:¬(items.isEmpty||(0:Int)==1)=true:=by rw[hi,Bool.false_or];decide
  have c3:(decide ((0:Int)<=0)||items.isEmpty)=true:=by rw[hi,Bool.or_false];decide
  wp_walk
  exact⟨_,rfl,h⟩
theorem Dl(l:Addr)(items:Array Value)(n:Nat)(dd:Option Addr)(sl:Array (Option Value))(t:Tok)(hi:items.isEmpty=false) :
  Meets (Builtin.«tuple.__mul__» ⟨[.ref l,.int 1 t],[]⟩) (λ_ R s=>s.heap.get? l=some ⟨.type "tuple",dd,.seq items n,sl⟩/\
   R (.ok (.ret (.ref l))) s) :=
 .of_wp λprog w A R s h=>by
  obtain⟨hp,g,d,tk,os⟩:=s;obtain⟨hl,h⟩:=h;have c1:¬(decide ((1:Int) < -2 ^ 63)||decide ((1:Int)≥2 ^ 63))=true:=by decide
  have c2:(items.isEmpty||(1:Int)==1)=true:=by rw[hi,Bool.false_or];decide
  wp_walk
  exact⟨_,rfl,h⟩
section
variable{X:Cx}
def J6(K:UX):R2:=λx y H Q=>∃l k xs,x=.ref l/\y=.int k/\aY K H l xs/\xs≠[]/\((k=0/\∀p,H p=none->Q (.ref p) (upd H p (.tup [])))\/(k=1/\Q (.ref l) H))
theorem CW:jl X (binaryOp .Mult) (J6 X.K):=by
 intro ac s σ H x y v u Q I rx ry h;obtain⟨l,k,xs,rfl,rfl,hq,hx,h⟩:=h;cases rx;obtain⟨t,rfl⟩:=ry;obtain⟨its,r,⟨o,e,hc,n,hd⟩,_⟩:=I.tuple hq;obtain⟨c,dd,da,sl⟩:=o;cases(show c=.type "tuple" from hc);cases(show da=.seq its.toArray n from hd);have hl:=r.length;have hi:its.toArray.isEmpty=false:=by
  cases its with
  |nil=>exact UC (List.eq_nil_of_length_eq_zero (by rw[hl];rfl)) hx
  |cons a r=>rfl
 rcases h with⟨rfl,q⟩|⟨rfl,q⟩
 ·refine wpAny_binaryOp_repeat_ref (T:="tuple") (U:="int") (by decide) ⟨_,e,rfl⟩ (λs'=>typeIs_int s' 0 t) jV F.fills_int_mul F.slot_int_rmul yJ F.slot_int_index.lookup
   (call_meets F.slot_int_rmul (typeIs_int s 0 t) F.entry_int_rmul (F.args_int_rmul_2 _ _) (mx 0 t l its.toArray n dd sl)
    ⟨e,rfl,⟨_,e,rfl⟩,call_meets F.slot_tuple_mul ⟨_,e,rfl⟩ F.entry_tuple_mul (F.args_tuple_mul_2 _ _) (Dc l its.toArray n dd sl t hi) ⟨e,?_⟩⟩)
  refine⟨.ref s.heap.objs.size,_,I.laid (t':=s.toks) (o:=.tup []) (λb ob q=>TN _ q) (TU _) ?_,rfl,q _ (I.hok.fresh (TU _))⟩;exact⟨Uo _,[],.nil,iS.new _ _⟩
 ·refine wpAny_binaryOp_repeat_ref (T:="tuple") (U:="int") (by decide) ⟨_,e,rfl⟩ (λs'=>typeIs_int s' 1 t) jV F.fills_int_mul F.slot_int_rmul yJ F.slot_int_index.lookup
   (call_meets F.slot_int_rmul (typeIs_int s 1 t) F.entry_int_rmul (F.args_int_rmul_2 _ _) (mx 1 t l its.toArray n dd sl)
    ⟨e,rfl,⟨_,e,rfl⟩,call_meets F.slot_tuple_mul ⟨_,e,rfl⟩ F.entry_tuple_mul (F.args_tuple_mul_2 _ _) (Dl l its.toArray n dd sl t hi) ⟨e,?_⟩⟩)
  exact⟨.ref l,H,I,rfl,q⟩
end
end L2
namespace My
open PySem L2
def Ik(m:Nat)(pi:List Int):Prop:=∀j:Nat,j<=m->pi≠[(j:Int)]
def LN:Sp:=λvs H Q _=>∃(t:Addr)(xs:List V),vs=[.ref t]/\H t=some (.tup xs)/\xs.length<=1000/\∀(L:Addr)(as:List Addr) H',aG H H'->H' L=some (.lst (as.map V.ref))->(∀(a:Addr),a∈as->∃pi,H' a=some (.tup (pi.map V.int))/\Ik xs.length pi)->as.length=9->Q (.ref L) H'
abbrev fb:Stmt:=top 97
theorem gZ:av ["_law_pipe","_law_many"] ["_law_pipe"] (ao fb):=fs
variable{P:Program}{w:World}{K:UX}{mg:Str->Option Value}{base:Heap}
theorem L7(B:j7 mg)(F:FA K mg "_law_no_places" fb) :
  bA bx P w K mg base 1 "_law_no_places" ["_law_pipe"] LN:=by
 refine F.ok gZ λf cdv A outer s H vs Q E hr h=>?_;obtain⟨t,xs,rfl,ht,hl,q⟩:=h;refine rQ (cH (bc (i:=1) gZ.nd rfl (UH rfl) (aN aU rfl B.len UU (aa (pv 0) ah)))
  (cM (yd (ak (aH (ak (az (aQ cb (pv 1) ai)) aE)) (ak (aH (ak (az (Di xY ai)) aE)) (ak (aH (ak (az ai) (ak (az ai) (ak (az ai) aE)))) (ak (aH (ak (az ai) (ak (az ai) (ak (az ai) aE)))) (ak (aH (ak (az (pv 1)) (ak (az ai) (ak (az ai) aE)))) (ak (aH aE) (ak (aH (ak (az ai) (ak (az ai) aE))) (ak (aH (ak (az ai) (ak (az ai) (ak (az ai) aE)))) (ak (aH (ak (az (aQ ck (aQ w_ ai ai) ai)) aE)) aE)))))))))))) ?_
 refine⟨_,rfl,t,_,rfl,.inr (aY.of ht),aj ?_⟩;dsimp only;refine⟨_,rfl,_,_,rfl,rfl,cN,λu1 h1=>?_⟩;have z1:=ag h1 (.tup [.int ((xs.length:Nat)+1)]);refine⟨_,rfl,cN,λu2 h2=>?_⟩;have z2:=ag h2 (.tup [.int (-1)]);refine⟨cm,λu3 h3=>?_⟩;have z3:=ag h3 (.tup [.int 0,.int 0,.int 0]);refine⟨cm,λu4 h4=>?_⟩;have z4:=ag h4 (.tup [.int 0,.int 1,.int 0]);refine⟨_,rfl,cm,λu5 h5=>?_⟩;have z5:=ag h5 (.tup [.int (xs.length:Nat),.int 0,.int 0]);refine⟨m_,λu6 h6=>?_⟩;have z6:=ag h6 (.tup []);refine⟨cn,λu7 h7=>?_⟩;have z7:=ag h7 (.tup [.int 0,.int 0]);refine⟨cm,λu8 h8=>?_⟩;have z8:=ag h8 (.tup [.int 0,.int 2,.int 0]);refine⟨_,_,rfl,rfl,⟨by decide,by decide,by decide⟩,_,_,rfl,rfl,cN,λu9 h9=>?_⟩;have z9:=ag h9 (.tup [.int ((10:Int) ^ (60:Int).toNat-1)]);refine⟨by show 9<=sizeLine;decide,λL hL=>?_⟩;have zL:=ag hL (.lst [.ref u1,.ref u2,.ref u3,.ref u4,.ref u5,.ref u6,.ref u7,.ref u8,.ref u9]);have w9:=z9.trans zL;have w8:=z8.trans w9;have w7:=z7.trans w8;have w6:=z6.trans w7;have w5:=z5.trans w6;have w4:=z4.trans w5;have w3:=z3.trans w4;have w2:=z2.trans w3;refine q L [u1,u2,u3,u4,u5,u6,u7,u8,u9] _ (z1.trans w2) ae (λa ha=>?_) rfl;simp only[Uj,UG,or_false]at ha;rcases ha with rfl|rfl|rfl|rfl|rfl|rfl|rfl|rfl|rfl
 ·exact⟨[_],w2 _ _ ae,λj hj z=>by injection z with z;omega⟩
 ·exact⟨[_],w3 _ _ ae,λj hj z=>by injection z with z;omega⟩
 ·exact⟨[_,_,_],w4 _ _ ae,λj hj z=>by injection z with _ z;cases z⟩
 ·exact⟨[_,_,_],w5 _ _ ae,λj hj z=>by injection z with _ z;cases z⟩
 ·exact⟨[_,_,_],w6 _ _ ae,λj hj z=>by injection z with _ z;cases z⟩
 ·exact⟨[],w7 _ _ ae,λj hj z=>by cases z⟩
 ·exact⟨[_,_],w8 _ _ ae,λj hj z=>by injection z with _ z;cases z⟩
 ·exact⟨[_,_,_],w9 _ _ ae,λj hj z=>by injection z with _ z;cases z⟩
 ·refine⟨[_],zL _ _ ae,λj hj z=>?_⟩;injection z with z;have e:(10:Int) ^ (60:Int).toNat-1=999999999999999999999999999999999999999999999999999999999999:=by decide +kernel
  rw[e]at z;omega
theorem nP{A:Addr->W1->Prop}{as bs:List Addr}{xs ys:List W1}(h1:as.length=xs.length/\∀(i:Nat) a x,as[i]? = some a->xs[i]? = some x->A a x)(h2:bs.length=ys.length/\∀(i:Nat) a x,bs[i]? = some a->ys[i]? = some x->A a x):(as++bs).length=(xs++ys).length/\∀(i:Nat) a x,(as++bs)[i]? = some a->(xs++ys)[i]? = some x->A a x:=by
 refine⟨by rw[T1,T1,h1.1,h2.1],λi a x e1 e2=>?_⟩;by_cases hi:i<as.length
 ·rw[Ur hi]at e1;rw[Ur (by rw[←h1.1];exact hi)]at e2;exact h1.2 i a x e1 e2
 ·rw[Uq (by omega)]at e1;rw[Uq (by omega),←h1.1]at e2;exact h2.2 _ a x e1 e2
theorem Plain.take{ss:Hd}{xs:List W1}(h:Plain ss xs)(k:Nat):Plain ss (xs.take k):=by have e:xs=xs.take k++xs.drop k:=(List.take_append_drop k xs).symm;refine⟨⟨λi x ex=>?_,h.good.ss⟩,λx hx=>h.no x (List.mem_of_mem_take hx)⟩;have hi:i<(xs.take k).length:=(Ug.mp ex).1;have:=h.good.fit i x (by rw[e,Ur hi];exact ex);rw[e,kF (Nat.le_of_lt hi)]at this;exact this
theorem Dn{ss:Hd}{xs:List W1}{k:Nat}(h:k<=xs.length):jA ss (xs.take k) (xs.take k).length=jA ss xs k:=by
 have e:xs=xs.take k++xs.drop k:=(List.take_append_drop k xs).symm;have l:(xs.take k).length=k:=by rw[Ut];omega
 conv=>rhs;rw[e]
 rw[kF (by omega),l]
structure IJ(ss:Hd)(xs:List W1)(k:Nat)(x:W1)(why:Str)(ws:List Wk):Prop where
 ex:∃us:List Wk,ws=(xs.take k).map .one ++ .one x::us
 pl:Plain ss xs
 le:k<=xs.length
 bad:Bad (jA ss xs k) x why
theorem IJ.put{ss:Hd}{xs:List W1}{k:Nat}{x:W1}{why:Str}{ws:List Wk}(h:IJ ss xs k x why ws){n:Nat}{pl:List Int}{f:Fl}:putL (bV n) pl 0 ss f ws=.no (pl++[(k:Int)]) why:=by obtain⟨us,rfl⟩:=h.ex;rw[yS (why:=why) (h.pl.take k) (by rw[Dn h.le];exact h.bad.why),Ut,Nat.zero_add,Nat.min_eq_left h.le]
theorem IJ.O8{ss:Hd}{xs:List W1}{k:Nat}{x:W1}{why:Str}{ws q:List Wk}(h:IJ ss xs k x why ws):kH 1 ss [.both ws q]=.no [0,0,(k:Int)] why:=by show eT (eT (putL (bV 0) ([]++[((0:Nat):Int)]++[((0:Nat):Int)]) 0 ss f0 ws) _) _=_;rw[h.put];rfl
theorem IJ.put2{ss:Hd}{xs:List W1}{k:Nat}{x:W1}{why:Str}{ws q:List Wk}(h:IJ ss xs k x why ws):kH 1 ss (.both (xs.map .one) ws::q)=.no [0,1,(k:Int)] why:=by obtain⟨f',e⟩:=mY (n:=0) (pl:=[]++[((0:Nat):Int)]++[((0:Nat):Int)]) (i:=0) (f:=f0) h.pl;show eT (eT (putL (bV 0) ([]++[((0:Nat):Int)]++[((0:Nat):Int)]) 0 ss f0 (xs.map .one)) λh' f'=>eT (putL (bV 0) ([]++[((0:Nat):Int)]++[((0+1:Nat):Int)]) 0 ss f0 ws) _) _=_;rw[e];show eT (eT (putL (bV 0) ([]++[((0:Nat):Int)]++[((0+1:Nat):Int)]) 0 ss f0 ws) _) _=_;rw[h.put];rfl
theorem kj{n:Nat}{ys:List W1}(hl:ys.length<=12)(h:∀y∈ys,lL (.one y)):uf n (ys.map .one):=by
 have hl:(ys.map Wk.one).length<=12:=by rw[TZ];exact hl
 have a:∀x∈ys.map Wk.one,lL x/\gj x=[]:=λx hx=>by obtain⟨y,hy,rfl⟩:=Ui.mp hx;exact⟨h y hy,rfl⟩
 cases n with
 |zero=>exact⟨hl,λx hx=>(a x hx).1⟩
 |succ n=>exact⟨hl,λx hx=>⟨(a x hx).1,λp hp=>by rw[(a x hx).2]at hp;cases hp⟩⟩
theorem zi{p q:List Wk}(h1:uf 0 p)(h2:uf 0 q):lL (.both p q)/\∀r∈gj (.both p q),uf 0 r:=by
 have a:∀r∈gj (.both p q),uf 0 r:=λr hr=>by
  have hr:r∈[p,q]:=hr;simp only[Uj,UG,or_false]at hr;rcases hr with rfl|rfl
  ·exact h1
  ·exact h2
 exact⟨⟨trivial,trivial,trivial,λr hr=>TV (a r hr).len (by decide)⟩,a⟩
theorem fU{n:Nat}{H:Hp}{t:Addr}{bs:List Addr}{ys:List W1}(h:bE du H t bs ys):bE (gN n) H t bs (ys.map .one):=by
 refine⟨h.tup,by rw[TZ];exact h.len,λi a x e1 e2=>?_⟩;rw[Us]at e2;cases e:ys[i]? with
 |none=>rw[e]at e2;cases e2
 |some y =>rw[e]at e2;cases e2;exact dm.mpr (h.at_ i a y e1 e)
def vM(K:UX):Sp:=λvs H Q _=>∃(p l t:Addr)(ss:Hd)(bs:List Addr)(xs:List W1),vs=[.ref p,.ref l,.ref t]/\dz H p/\dY H l ss/\bE du H t bs xs/\Plain ss xs/\xs.length<=3/\
 ∀(T u v:Addr)(ws:List Wk)(pl:List Int)(why:Str) H',ba p H H'->H' T=some (.tup [.ref u,.ref v])->l_ 1 H' u ws->uf 1 ws->kH 1 ss ws=.no pl why->aV K H' (jm pl why) (.ref v)->Q (.ref T) H'
abbrev iA:Stmt:=top 98
theorem bR:av ["_law_pot_here","_law_head","_law_pipe","_law_at","_law_sorts","_law_worker","_law_why_here","_law_more","_law_bad_here","_law_way"] ["_law_pot_here","_law_head","_law_pipe"] (ao iA):=fs
theorem zH(B:j7 mg)(F:FA K mg "_law_spoilt" iA)
  (ay:bA bx P w K mg base 1 "_law_draw" ["_law_pot_here","_law_many"] fm)
  (dn:bA bx P w K mg base 1 "_law_sorts_behind" ["_law_sorts","_law_worker"] H_)
  (i7:bA bx P w K mg base 2 "_law_bad" ["_law_pot_here","_law_sorts"] BC) :
  bA bx P w K mg base 3 "_law_spoilt" ["_law_pot_here","_law_head","_law_pipe"] (vM K):=by
 refine F.ok bR λf cdv A outer s H vs Q E hr h=>?_;obtain⟨p,l,t,ss,bs,xs,rfl,hP,hl,hI,hpl,h3,q⟩:=h;refine rQ (cH (bc (i:=3) bR.nd rfl (UH rfl) (aL ay hr (aa (pv 0) (aa (aQ cb (aN aU rfl B.len UU (aa (pv 2) ah)) ai) ah))))
  (cH (bc (i:=4) bR.nd rfl (UH rfl) (pv 1))
  (cH (fj PassesOwn.never rfl (cF (cR eV (pv 2) eL (cU (pv 3)))) (aM (i:=5) bR.nd rfl (UH rfl))
   (b_ (bc (i:=4) bR.nd rfl (UH rfl) (aL dn hr (aa (pv 4) (aa (pv 5) ah))))))
  (cH (d0 (aL i7 hr (aa (pv 0) (aa (pv 4) ah))) (bS rfl (ar (aM (i:=5) bR.nd rfl (UH rfl)) (ar (aM (i:=6) bR.nd rfl (UH rfl)) bw))))
  (cH (bc (i:=7) bR.nd rfl (UH rfl) (aQ CW (aW (aa (aX K (aL i7 hr (aa (pv 0) (aa (pv 4) ah))) ai) ah)) (aL ay hr (aa (pv 0) (aa ai ah)))))
  (cH (bc (i:=8) bR.nd rfl (UH rfl) (aQ cq (aQ cq (aQ cq (cR eV (pv 2) eL (cU (pv 3))) (aW (aa (pv 5) ah))) (pv 7)) (cR eV (pv 2) (cU (pv 3)) eL)))
  (cH (bc (i:=9) bR.nd rfl (UH rfl) (aL ay hr (aa (pv 0) (aa ai ah))))
  (d_ (bg bO (pv 9) ai) (cM (aH (ak (aH (ak (aH (ak (az au) (ak (az (pv 8)) (ak (az (pv 2)) aE)))) aE)) (ak (aH (ak (az au) (ak (aH (ak (az ai) (ak (az ai) (ak (az (pv 3)) aE)))) (ak (az (pv 6)) aE)))) aE))))
  (d_ (bg bO (pv 9) ai) (cM (aH (ak (aH (ak (aH (ak (az au) (ak (az (pv 2)) (ak (az (pv 8)) aE)))) (ak (az (pv 5)) aE))) (ak (aH (ak (az au) (ak (aH (ak (az ai) (ak (az ai) (ak (az (pv 3)) aE)))) (ak (az (pv 6)) aE)))) aE))))
  (cM (aH (ak (az (pv 8)) (ak (aH (ak (az au) (ak (aH (ak (az (pv 3)) aE)) (ak (az (pv 6)) aE)))) aE))))))))))))) ?_
 have ue:=hI.len;have hn:(bs.map V.ref).length=xs.length:=by rw[TZ];exact ue
 have lg:∀m:Int,0<=m->m<=10->m.natAbs.log2<9000:=λm h1 h2=>T8 (Nat.log2_le_self _) (by omega);have nl:l≠p:=oj hP hl hpl.good.ss.pos;refine⟨_,rfl,_,rfl,t,_,rfl,.inr (aY.of hI.tup),_,_,rfl,rfl,p,_,rfl,hP,by omega,lg _ (by omega) (by omega),λd H1 g1 a1 b1=>aj ?_⟩;dsimp only;rw[hn]at b1;obtain⟨k,rfl⟩ :∃k:Nat,d=(k:Int):=⟨d.toNat,by omega⟩;have hk:k<=xs.length:=by omega
 have hl1:dY H1 l ss:=g1.keep _ _ nl hl;have PC:=hI.keep (aJ.grow hP g1) (λ_ _ z=>z.keep (aJ.grow hP g1));refine⟨_,rfl,aj ?_⟩;dsimp only;refine⟨_,rfl,_,rfl,_,rfl,t,_,rfl,PC.tup,λt2 H2 s2 sD=>⟨t2,rfl,⟨_,aY.of sD⟩,?_⟩⟩;rw[pQ (by rw[hn];exact hk)]at sD;have g2:ba p H H2:=g1.trans (ba.same g1.cy s2);have lk:((bs.map V.ref).take k).length=k:=by rw[Ut,hn];omega
 refine tj (xs:=(bs.map V.ref).take k) (λi σ H'=>∃(lc:Addr)(o5:Option V),σ=[some (.ref p),some (.ref l),some (.ref t),some (.int (k:Int)),some (.ref lc),o5,none,none,none,none]/\dY H' lc (jA ss xs i)/\aG H2 H') ⟨l,none,rfl,s2 _ _ hl1,aG.refl _⟩ ?_ ?_ ?_
 ·rintro i σ H' _ ⟨lc,o5,_,_,s'⟩;exact aY.of (s' _ _ sD)
 ·rintro i v σ H' hv ⟨lc,o5,rfl,v5,s'⟩;have hi:i<k:=by rw[←lk];exact(Ug.mp hv).1
  rw[List.getElem?_take_of_lt hi]at hv;obtain⟨a,x,rfl,ex,hx⟩:=(PC.keep (aJ.of (s2.trans s')) (λ_ _ z=>z.keep (aJ.of (s2.trans s')))).get hv;refine aj ?_;dsimp only;refine⟨_,rfl,_,rfl,lc,a,_,x,rfl,v5,hx,hpl.good.fit i x ex,hpl.good.at,λu H3 s3 sG=>aj ⟨u,_,rfl,?_,s'.trans s3⟩⟩;rw[jA,ex];exact sG
 rintro σ H3 ⟨lc,o5,rfl,v5,s3⟩;rw[lk]at v5;dsimp only;have g3:ba p H H3:=g2.trans (ba.same g2.cy s3);have hss:=hpl.good.at (i:=k);have Kl:lc≠p:=oj g3.cy v5 hss.pos;refine⟨_,rfl,_,rfl,p,lc,_,rfl,g3.cy,v5,hss,λT a x why H4 g4 hT ha hb=>⟨T,_,rfl,aY.of hT,rfl,_,_,rfl,aj ⟨_,_,rfl,aj ⟨rfl,?_⟩⟩⟩⟩;dsimp only;have Ox:dY H4 lc (jA ss xs k):=g4.keep _ _ Kl v5;refine oY (λσ' H'=>∃(m:Addr)(cs:List Addr)(ys:List W1),σ'=[some (.ref p),some (.ref l),some (.ref t),some (.int (k:Int)),some (.ref lc),some (.ref a),some (.str why),some (.ref m),none,none]/\ba p H4 H'/\H' m=some (.tup (cs.map V.ref))/\(cs.length=ys.length/\∀(i:Nat) a x,cs[i]? = some a->ys[i]? = some x->du H' a x)/\ys.length<=1/\∀y∈ys,lL (.one y)) (λR hR=>?_) ?_
 ·refine⟨_,rfl,_,rfl,p,lc,_,rfl,g4.cy,Ox,hss,λT2 a2 x2 S_ H5 g5 hT2 ha2 hb2=>⟨T2,_,0,_,rfl,rfl,aY.of hT2,rfl,cN,λm hm=>?_⟩⟩;have z:=ag hm (.tup [.ref a2]);have g6:=g5.new (o:=.tup [.ref a2]) hm;have hm':upd H5 m (.tup [.ref a2]) m=some (.tup [.ref a2]):=ae;have ha2':=ha2.keep (aJ.of z);revert g6 hm' ha2';generalize upd H5 m (.tup [.ref a2])=H6;intro g6 hm' ha2';refine⟨_,rfl,p,_,rfl,g6.cy,by decide,by decide,λd7 H7 g7 a7 b7=>?_⟩;have Qr:=iG g6.cy g7 hm';refine⟨m,d7,_,rfl,rfl,aY.of Qr,(λz=>by cases z),?_⟩;rcases(show d7=0\/d7=1 by omega)with rfl|rfl
  ·exact .inl ⟨rfl,λw hw=>aj (hR _ _ ⟨w,[],[],rfl,(g6.trans g7).new hw,ae,⟨rfl,λi a x e=>by cases e⟩,by decide,λy hy=>by cases hy⟩)⟩
  ·refine .inr ⟨rfl,aj (hR _ _ ⟨m,[a2],[x2],rfl,g6.trans g7,Qr,⟨rfl,λi a x e1 e2=>?_⟩,TU _,λy hy=>by rw[Uh.mp hy];exact hb2.ok⟩)⟩;cases i with
   |zero=>cases e1;cases e2;exact ha2'.keep (aJ.grow g6.cy g7)
   |succ i=>cases e1
 rintro σ H5 ⟨m,cs,ys,rfl,g5,RI,hcy,hy1,QE⟩;have Km:=(g3.trans g4).trans g5;have Eh:=hI.keep (aJ.grow hP Km) (λ_ _ z=>z.keep (aJ.grow hP Km));have P9:=ha.keep (aJ.grow g4.cy g5);have lcs:cs.length<=1:=by rw[hcy.1];exact hy1
 have e1:e6 (bs.map V.ref) none (some (k:Int))=(bs.take k).map V.ref:=by rw[pQ (by rw[hn];exact hk),List.map_take]
 have e2:e6 (bs.map V.ref) (some (k:Int)) none=(bs.drop k).map V.ref:=by rw[pV (by rw[hn];exact hk),List.map_drop]
 have lt:(bs.take k).length<=3:=by rw[Ut];omega
 have ld:(bs.drop k).length<=3:=by rw[List.length_drop];omega
 have qC:10<=sizeLine:=by decide
 refine⟨_,rfl,_,rfl,_,rfl,t,_,rfl,Eh.tup,λt6 H6 s6 AM=>⟨_,rfl,cN,λt7 h7=>?_⟩⟩;rw[e1]at AM;have z7:=ag h7 (.tup [.ref a]);refine⟨t6,t7,_,_,rfl,rfl,z7 _ _ AM,ae,?_,λt8 H8 s8 QD=>?_⟩
 ·rw[TZ,List.length_singleton];omega
 have PB:=s6.trans (z7.trans s8);refine⟨_,rfl,t8,m,_,_,rfl,rfl,QD,PB _ _ RI,?_,λt9 H9 s9 ht9=>?_⟩
 ·rw[T1,TZ,TZ,List.length_singleton];omega
 have P4:=PB.trans s9;refine⟨_,rfl,_,rfl,_,rfl,t,_,rfl,P4 _ _ Eh.tup,λS3 xJ Lj MK=>?_⟩;rw[e2]at MK;refine⟨t9,S3,_,_,rfl,rfl,Lj _ _ ht9,MK,?_,λtb Gw Ml N4=>aj ?_⟩
 ·rw[T1,T1,TZ,TZ,TZ,List.length_singleton];omega
 dsimp only;have Pp:=P4.trans (Lj.trans Ml);have MH:ba p H Gw:=Km.trans (ba.same Km.cy Pp);have k5:=aJ.of Pp;have kI:∀{H':Hp},aJ Gw H'->bE du H' t bs xs:=λs'=>Eh.keep (λa b e=>s' a b (k5 a b e)) (λ_ _ z=>z.keep λa b e=>s' a b (k5 a b e));have iB:∀{H':Hp},aJ Gw H'->bE du H' tb (bs.take k++[a]++cs++bs.drop k) (xs.take k++[x]++ys++xs.drop k):=λ{H'} s'=>by
  have i5:=kI s';have:=nP (A:=du H') (nP (nP (as:=bs.take k) (xs:=xs.take k) ⟨by rw[Ut,Ut,ue],λi b y e1 e2=>?_⟩ (bs:=[a]) (ys:=[x]) ⟨rfl,λi b y e1 e2=>?_⟩) (bs:=cs) (ys:=ys) ⟨hcy.1,λi b y e1 e2=>(hcy.2 i b y e1 e2).keep λa b e=>s' a b (k5 a b e)⟩) (bs:=bs.drop k) (ys:=xs.drop k) ⟨by rw[List.length_drop,List.length_drop,ue],λi b y e1 e2=>?_⟩
  ·refine⟨?_,this.1,this.2⟩;rw[T4,T4,T4];exact s' _ _ N4
  ·have hi:i<k:=by have:=(Ug.mp e1).1;rw[Ut]at this;omega
   rw[List.getElem?_take_of_lt hi]at e1 e2;exact i5.at_ i b y e1 e2
  ·cases i with
   |zero=>cases e1;cases e2;exact P9.keep λa b e=>s' a b (k5 a b e)
   |succ i=>cases e1
  ·rw[List.getElem?_drop]at e1 e2;exact i5.at_ _ b y e1 e2
 have okx:∀y∈xs,lL (.one y):=λy hy=>by obtain⟨i,hi,rfl⟩:=List.getElem_of_mem hy;exact(hpl.good.fit i _ (T_ hi)).ok
 have NO:∀{n:Nat},uf n ((xs.take k++[x]++ys++xs.drop k).map .one):=λ{n}=>by
  refine kj ?_ λy hy=>?_
  ·rw[T1,T1,T1,Ut,List.length_drop,List.length_singleton];omega
  ·rcases Ul.mp hy with z|z
   ·rcases Ul.mp z with z|z
    ·rcases Ul.mp z with z|z
     ·exact okx y (List.mem_of_mem_take z)
     ·rw[Uh.mp z];exact hb.ok
    ·exact QE y z
   ·exact okx y (List.mem_of_mem_drop z)
 have Pk:∀{n:Nat},uf n (xs.map .one):=λ{n}=>kj (by omega) okx;have sp:IJ ss xs k x why ((xs.take k++[x]++ys++xs.drop k).map .one):=⟨⟨(ys++xs.drop k).map .one,by simp⟩,hpl,hk,hb⟩;refine⟨_,rfl,p,_,rfl,MH.cy,by decide,by decide,λTv P5 LW a12 Tu=>aj ?_⟩;dsimp only;have k12:=aJ.grow MH.cy LW;have gC:=MH.trans LW;have aC:=P9.keep λa b e=>k12 a b (k5 a b e);refine bH (λb H'=>P5=H') (λT hT=>⟨_,rfl,rfl,_,rfl,hT _ _ rfl⟩) ?_ ?_
 ·rintro H' rfl;refine⟨_,rfl,_,rfl,cm,λv1 w1=>⟨cN,λv2 w2=>⟨_,rfl,cm,λv3 w3=>⟨_,rfl,cm,λv4 w4=>⟨cn,λV wV=>?_⟩⟩⟩⟩⟩;have y5:=ag wV (.tup [.ref v2,.ref v4]);have y4:=(ag w4 (.tup [.str "pipe",.ref v3,.str why])).trans y5;have y3:=(ag w3 (.tup [.int 0,.int 0,.int (k:Int)])).trans y4;have y2:=(ag w2 (.tup [.ref v1])).trans y3;have y1:=(ag w1 (.tup [.str "both",.ref tb,.ref t])).trans y2;have kk:aJ Gw _:=λa b e=>y1 a _ (k12 a b e);refine q V v2 v4 [.both _ (xs.map .one)] [0,0,(k:Int)] why _ (gC.trans (ba.same gC.cy y1)) ae ⟨[v1],y3 _ _ ae,rfl,λi b y e1 e2=>?_⟩ ⟨(by show 1<=12;decide),λy hy=>?_⟩ sp.O8 (bL (y5 _ _ ae) (.cons (bY _) (.cons (gf (p:=[0,0,(k:Int)]) (y4 _ _ ae)) (.cons (bY _) .nil))))
  ·cases i with
   |zero=>cases e1;cases e2;exact⟨tb,t,_,_,y2 _ _ ae,fU (iB kk),fU (kI kk)⟩
   |succ i=>cases e1
  ·rw[Uh.mp hy];exact zi NO Pk
 rintro H' rfl;refine bH (λb H'=>P5=H') (λT hT=>⟨_,rfl,rfl,_,rfl,hT _ _ rfl⟩) ?_ ?_
 ·rintro H' rfl;refine⟨_,rfl,_,rfl,cm,λv1 w1=>⟨_,rfl,cn,λv2 w2=>⟨_,rfl,cm,λv3 w3=>⟨_,rfl,cm,λv4 w4=>⟨cn,λV wV=>?_⟩⟩⟩⟩⟩;have y5:=ag wV (.tup [.ref v2,.ref v4]);have y4:=(ag w4 (.tup [.str "pipe",.ref v3,.str why])).trans y5;have y3:=(ag w3 (.tup [.int 0,.int 1,.int (k:Int)])).trans y4;have y2:=(ag w2 (.tup [.ref v1,.ref a])).trans y3;have y1:=(ag w1 (.tup [.str "both",.ref t,.ref tb])).trans y2;have kk:aJ Gw _:=λa b e=>y1 a _ (k12 a b e);refine q V v2 v4 [.both _ _,.one x] [0,1,(k:Int)] why _ (gC.trans (ba.same gC.cy y1)) ae ⟨[v1,a],y3 _ _ ae,rfl,λi b y e1 e2=>?_⟩ ⟨(by show 2<=12;decide),λy hy=>?_⟩ sp.put2 (bL (y5 _ _ ae) (.cons (bY _) (.cons (gf (p:=[0,1,(k:Int)]) (y4 _ _ ae)) (.cons (bY _) .nil))))
  ·cases i with
   |zero=>cases e1;cases e2;exact⟨t,tb,_,_,y2 _ _ ae,fU (kI kk),fU (iB kk)⟩
   |succ i =>
    cases i with
    |zero=>cases e1;cases e2;exact dm.mpr (aC.keep (aJ.of y1))
    |succ i=>cases e1
  ·simp only[Uj,UG,or_false]at hy;rcases hy with rfl|rfl
   ·exact zi Pk NO
   ·exact⟨hb.ok,λr hr=>by cases hr⟩
 rintro H' rfl;refine⟨_,rfl,_,rfl,cN,λv3 w3=>⟨_,rfl,cm,λv4 w4=>⟨cn,λV wV=>?_⟩⟩⟩;have y5:=ag wV (.tup [.ref tb,.ref v4]);have y4:=(ag w4 (.tup [.str "pipe",.ref v3,.str why])).trans y5;have y3:=(ag w3 (.tup [.int (k:Int)])).trans y4;exact q V tb v4 _ [(k:Int)] why _ (gC.trans (ba.same gC.cy y3)) ae ⟨_,fU (iB λa b e=>y3 a _ (k12 a b e))⟩ NO sp.put (bL (y5 _ _ ae) (.cons (bY _) (.cons (gf (p:=[(k:Int)]) (y4 _ _ ae)) (.cons (bY _) .nil))))
theorem vN{t:Tr}{n i:Nat}(h:y_ t n)(hi:i<=n):∃b,seek t [(i:Int)]=some b:=by
 obtain⟨hh,l,e⟩:=h.2 i hi;refine⟨_,yp (i:=i) (λe' he'=>?_) e rfl⟩;obtain⟨j,hj,rfl⟩:=List.mem_iff_getElem.mp he';rw[Ut]at hj;have hj':j<i:=by omega
 have e2:=h.2 j (by omega);obtain⟨h2,l2,e3⟩:=e2;have hjt:j<t.length:=by omega
 rw[T_ hjt]at e3;rw[List.getElem_take,Up e3];intro z;injection z with z;omega
theorem RB{d:D}:(!cK d d)=false:=by rw[lS];rfl
theorem p8{p:Addr}{H H1 H2:Hp}(hp:H p=none)(s:aG H H1)(g:ba p H1 H2):aG H H2:=λb o e=>g.keep b o (a_ e hp) (s _ _ e)
theorem we{K:UX}{H:Hp}{l D:Addr}{us:List V}{ss:Hd}{R:VK}(hK:qt K H l us ss)(hz:ss.length<=6)(hD:H D=none)(k:∀H',aG H H'->dY H' D ss->R (.ref D) H'):∃W:Nat->Nat->St->List V->Hp->Prop,(∃m,W 0 m [none] [] (upd H D (.lst [])))/\oi (Gy K l) (bW 0) Bj (fQ (qo K) (bF 0) (tC (.int 0))) D R W:=by
 have hl:=hK.len;refine fe (xs:=us) (λi σ ys H'=>(∃o1,σ=[o1])/\ys=(ss.take i).map V.str/\ys.length=i/\H' D=some (.lst ys)/\aG H H') ⟨⟨none,rfl⟩,rfl,rfl,ae,ag hD _⟩ ?_ ?_ ?_ ?_ ?_
 ·rintro i σ ys H' _ ⟨_,_,hi,h,_⟩;exact⟨h,UP hi⟩
 ·rintro i σ ys H' _ ⟨_,_,_,_,sm⟩;exact bj.of (sm _ _ hK.lst)
 ·rw[hl];exact TV hz (by decide)
 ·rintro i x σ ys H' hx ⟨⟨o1,rfl⟩,rfl,hi,h,sm⟩;obtain⟨b,s',r,rfl,es,hb⟩:=hK.get hx;refine aj ?_;refine⟨_,rfl,b,_,0,_,rfl,rfl,sm.gG hb,aP (j:=0) rfl,h,⟨_,rfl⟩,?_,?_,ae,bo hD sm⟩
  ·rw[take_one es,T4];rfl
  ·rw[T1,hi];rfl
 rintro σ ys H' ⟨_,rfl,_,h,sm⟩;rw[hl,UI]at h;exact k H' sm h
def yP(K:UX):Sp:=λvs H Q _=>∃(a:Addr)(ns:List Int),vs=[.ref a]/\bj K H a (ns.map V.int)/\ns.length<=63/\∀H',Q (.bl true) H'
theorem GQ{K:UX}{H H':Hp}{a:Addr}{xs:List V}(s:aG H H')(h:bj K H a xs):bj K H' a xs:=by
 rcases h with(h|⟨o,h⟩)|h
 ·exact .inl (.inl (s _ _ h))
 ·exact .inl (.inr ⟨o,s _ _ h⟩)
 ·exact .inr h
theorem LL{K:UX}{H:Hp}{l:Addr}{us:List V}{ds:List D}(h:Gk K H l us ds):dZ (ds.map uV):=by
 refine⟨by rw[TZ];exact h.pos,by rw[TZ];exact TV h.few (by decide),λs hs=>?_⟩;obtain⟨d,hd,rfl⟩:=Ui.mp hs;rcases(iZ (h.mem d hd)).2.1 with z|z
 ·exact .inl z
 ·exact .inr (.inl z)
theorem qA{K:UX}{A:Around}{ta tb:TE}(d:D){σ:St}{H:Hp}{T:Bool->Hp->Prop}(h1:∀R:VK,(∀v H',aG H H'->aV K H' d v->R v H')->ta σ H R)(h2:∀(H1:Hp)(R:VK),aG H H1->(∀v H',aG H1 H'->aV K H' d v->R v H')->tb σ H1 R)(hu:A.units+8<cLine)(hd:d.depth<=8)(hT:∀H',aG H H'->T false H'):kY (fQ (Lx K A) ta tb) σ H T :=
 h1 _ λv H1 s1 e1=>h2 _ _ s1 λv2 H2 s2 e2=>⟨d,d,e1.same s2,e2,T8 (Nat.add_le_add_left hd _) hu,_,rfl,by rw[RB];exact hT _ (s1.trans s2)⟩
theorem iU{p:List Int}{s:Str}:(jm p s).depth<=8:=by have:=ym p;unfold jm;simp only[D.depth,cT];omega
theorem HX{t:Tr}{n:Nat}{pi:List Int}(h:y_ t n)(hp:Ik n pi):seek t pi=none:=by refine yO λe he z=>?_;obtain⟨j,hj,rfl⟩:=List.mem_iff_getElem.mp he;have:=h.1;obtain⟨h2,l2,e3⟩:=h.2 j (by omega);rw[T_ hj]at e3;rw[Up e3]at z;exact hp j (by omega) z.symm
structure Turn(K:UX)(H:Hp)(l t a u v:Addr)(us:List V)(ss:Hd)(bs:List Addr)(xs:List W1)(x:W1)(why:Str)(ws:List Wk)(pl:List Int)(wh:Str):Prop where
 kd:qt K H l us ss
 ok:dZ ss
 it:bE du H t bs xs
 Kx:Plain ss xs
 few:xs.length<=3
 wa:du H a x
 bad:Bad (jA ss xs xs.length) x why
 pp:l_ 1 H u ws
 Pw:uf 1 ws
 no:kH 1 ss ws=.no pl wh
 due:aV K H (jm pl wh) (.ref v)
section
variable{K:UX}{H H':Hp}{l t a u v:Addr}{us:List V}{ss:Hd}{bs:List Addr}{xs:List W1}{x:W1}{why:Str}{ws:List Wk}{pl:List Int}{wh:Str}
theorem Turn.same(s:aG H H')(h:Turn K H l t a u v us ss bs xs x why ws pl wh):Turn K H' l t a u v us ss bs xs x why ws pl wh :=
 ⟨h.kd.same s,h.ok,h.it.keep (aJ.of s) (λ_ _ z=>z.keep (aJ.of s)),h.Kx,h.few,h.wa.keep (aJ.of s),h.bad,h.pp.keep (aJ.of s),h.Pw,h.no,h.due.same s⟩
theorem Turn.okx(h:Turn K H l t a u v us ss bs xs x why ws pl wh):∀y∈xs,lL (.one y)/\jE y:=λy hy=>by obtain⟨i,hi,rfl⟩:=List.getElem_of_mem hy;have:=h.Kx.good.fit i _ (T_ hi);exact⟨this.ok,this.le⟩
theorem Turn.put(h:Turn K H l t a u v us ss bs xs x why ws pl wh):∃f',kH 1 ss (xs.map .one)=.ok (jA ss xs xs.length) f':=mY h.Kx
theorem Turn.hw(h:Turn K H l t a u v us ss bs xs x why ws pl wh){i:Nat}(hi:i<xs.length):Ej (TL 1 [] 0 ss f0 (xs.map .one)) i<=1000:=by obtain⟨f',e⟩:=h.put;rw[Md e (Nat.le_of_lt hi)];exact TV h.Kx.good.at.six (by decide)
theorem Turn.fa(h:Turn K H l t a u v us ss bs xs x why ws pl wh){i:Nat}(hi:i<=xs.length):LU 1 ss (xs.map .one) [(i:Int)]:=⟨xs,i,rfl,rfl,hi,λy hy=>⟨(h.okx y hy).1.sm,(h.okx y hy).2⟩,λi hi=>h.hw hi⟩
theorem Turn.w1(h:Turn K H l t a u v us ss bs xs x why ws pl wh){pa:Addr}{pi:List Int}{R:VK}(e:H pa=some (.tup (pi.map V.int)))(hp:Ik xs.length pi)(hR:∀v H',aG H H'->aV K H' (.tup [.str "place"]) v->R v H'):nM K [.ref l,.ref t,.ref pa] H R E0:=by obtain⟨f',ep⟩:=h.put;have es:=HX (tN ep) hp;refine⟨l,t,pa,us,ss,xs.map .one,pi,rfl,h.kd,h.ok.six,⟨bs,fU h.it⟩,kj (by have:=h.few;omega) (λy hy=>(h.okx y hy).1),e,λ_ _ b _ z=>(by rw[es]at z;cases z),?_⟩;unfold vk;rw[ep,es];exact hR
theorem Turn.w4(h:Turn K H l t a u v us ss bs xs x why ws pl wh){pa:Addr}{i:Nat}{R:VK}(e:H pa=some (.tup [.int (i:Int)]))(hi:i<=xs.length)(hR:∀v H',aG H H'->aV K H' (.tup [.str "told"]) v->R v H'):nM K [.ref l,.ref t,.ref pa] H R E0:=by obtain⟨f',ep⟩:=h.put;obtain⟨b,es⟩:=vN (tN ep) hi;refine⟨l,t,pa,us,ss,xs.map .one,[(i:Int)],rfl,h.kd,h.ok.six,⟨bs,fU h.it⟩,kj (by have:=h.few;omega) (λy hy=>(h.okx y hy).1),e,λ_ _ b _ z=>h.fa hi,?_⟩;unfold vk;rw[ep,es];exact hR
theorem Turn.w2(h:Turn K H l t a u v us ss bs xs x why ws pl wh){t2 pa:Addr}{pi:List Int}{R:VK}(e2:H t2=some (.tup (bs.map V.ref++[.ref a])))(e:H pa=some (.tup (pi.map V.int)))(hR:∀v H',aG H H'->aV K H' (jm [(xs.length:Int)] why) v->R v H'):nM K [.ref l,.ref t2,.ref pa] H R E0:=by
 have ep:kH 1 ss ((xs++[x]).map .one)=.no [(xs.length:Int)] why:=by rw[T4];refine(yS h.Kx h.bad.why).trans ?_;rw[Nat.zero_add];rfl
 have i2:bE du H t2 (bs++[a]) (xs++[x]):=by have:=i8 (At:=du) h.it.len h.it.at_ (λ_ _ z=>z) h.wa;exact⟨by rw[T4];exact e2,this.1,this.2⟩
 refine⟨l,t2,pa,us,ss,(xs++[x]).map .one,pi,rfl,h.kd,h.ok.six,⟨_,fU i2⟩,kj (by have:=h.few;rw[T1,List.length_singleton];omega) (λy hy=>?_),e,λ_ _ b z=>(by rw[ep]at z;cases z),?_⟩
 ·rcases Ul.mp hy with z|z
  ·exact(h.okx y z).1
  ·rw[Uh.mp z];exact h.bad.ok
 ·unfold vk;rw[ep];exact hR
theorem Turn.w3(h:Turn K H l t a u v us ss bs xs x why ws pl wh){pa:Addr}{pi:List Int}{R:VK}(e:H pa=some (.tup (pi.map V.int)))(hR:∀v H',aG H H'->aV K H' (jm pl wh) v->R v H'):nM K [.ref l,.ref u,.ref pa] H R E0:=by refine⟨l,u,pa,us,ss,ws,pi,rfl,h.kd,h.ok.six,h.pp,h.Pw,e,λ_ _ b z=>(by rw[h.no]at z;cases z),?_⟩;unfold vk;rw[h.no];exact hR
theorem Turn.f0(h:Turn K H l t a u v us ss bs xs x why ws pl wh){C CP pa:Addr}{R:VK}(e:H pa=some (.tup [.int 0]))(hR:∀v H',aG H H'->aV K H' (dF MD) v->R v H'):EE K C CP 1 [.ref l,.ref t,.ref pa] H R E0:=by obtain⟨f',ep⟩:=h.put;obtain⟨b,es⟩:=vN (i:=0) (tN ep) (Uo _);obtain⟨ys,i,e1,e2,e3,e4,e5⟩:=h.fa (Uo _);refine⟨l,t,pa,us,ss,xs.map .one,[((0:Nat):Int)],rfl,h.kd,h.ok.six,⟨bs,fU h.it⟩,kj (by have:=h.few;omega) (λy hy=>(h.okx y hy).1),e,by decide,by decide,λx s he=>(by rw[ep]at he;cases he),λhh ff he=>⟨λz=>(by rw[es]at z;cases z),λb _=>⟨xs,0,rfl,rfl,Uo _,λy hy=>⟨(h.okx y hy).1.sm,(h.okx y hy).2⟩,λi hi=>h.hw hi,λu H' s' hu'=>hR u H' s' hu'⟩⟩⟩
end
abbrev md:Stmt:=top 99
theorem fO:av ["_law_script","_law_kind_here","_law_head","_law_k","_law_pot_here","_law_pipe","_law_sorts","_law_worker","_law_why_here","_law_spoilt_here","_law_due","_law_place"] ["_law_script"] (ao md):=fs
section
variable{P:Program}{w:World}{K:UX}{mg:Str->Option Value}{base:Heap}
theorem JW{f:Addr}{fd:FuncData}{L:Nat}{C CP:Addr}(B:j7 mg)(B2:tR mg)(F:Bb K "law" "law" md f fd)
  (pK:bA bx P w K mg base L "_law_pot" ["_law_script","_law_k"] (HC K))
  (uQ:bA bx P w K mg base L "_law_kind" ["_law_pot_here"] (zl K))
  (uw:bA bx P w K mg base L "_law_good" ["_law_pot_here","_law_sorts"] Ds)
  (i7:bA bx P w K mg base L "_law_bad" ["_law_pot_here","_law_sorts"] BC)
  (q5:bA bx P w K mg base L "_law_spoilt" ["_law_pot_here","_law_head","_law_pipe"] (vM K))
  (nF:bA bx P w K mg base L "_law_no_places" ["_law_pipe"] LN)
  (fg:bA bx P w K mg base L "_law_why" ["_law_kind_here","_law_pipe","_law_place"] (nM K))
  (lE:bA (vc P w) P w K mg base L "facts_at" ["kind","pipe","place"] (EE K C CP 1)) :
  e7 P w K mg base bx (L+1) f fd ["_law_script"] (yP K):=by
 refine F.ok fO (λvs H Q E h=>?_) (λcdv A outer s H vs Q E hr h=>?_)
 ·obtain⟨a,ns,rfl,_⟩:=h;rfl
 have hu:=iH hr;obtain⟨a,ns,rfl,hS,h63,q⟩:=h;refine⟨_,(aq (bc (i:=1) fO.nd rfl (UH rfl) (aL uQ hr (aa (aL pK hr (aa (pv 0) (aa ai ah))) ah)))
   (aq (fo (i:=2) (N':=["_law_here"]) (src:=[none]) fO.nd rfl (UH rfl) rfl rfl (bh.lJ (by kernel_rfl)) (eU (pv 1)) (λcl C s H fp=>(fX (i:=0))) (λcl C s H fp=>bp) (te:=(fQ (qo K) (bF 0) (tC (.int 0)))) (λcl C s H fp=>(aX K (i3 0) ai)))
   (aq (fj PassesOwn.never rfl (sd rfl B.range (aa ai (aa (aQ cb ai (aN (rB rfl) rfl B2.min PyProof.Rows.boot_min (aa ai (aa (aN (rz rfl) rfl B.max PyProof.Rows.boot_max (aa ai (aa (aQ ck (aN aU rfl B.len UU (aa (pv 0) ah)) ai) ah))) ah)))) ah))) (aM (i:=3) fO.nd rfl (UH rfl))
    (aq (bc (i:=4) fO.nd rfl (UH rfl) (aL pK hr (aa (pv 0) (aa (pv 3) ah))))
     (aq (d0 (aL uw hr (aa (pv 4) (aa (pv 2) ah))) (bS rfl (ar (aM (i:=5) fO.nd rfl (UH rfl)) (ar (aM (i:=6) fO.nd rfl (UH rfl)) bw))))
     (aq (d0 (aL i7 hr (aa (pv 4) (aa (pv 6) ah))) (bS rfl (ar (aM (i:=7) fO.nd rfl (UH rfl)) (ar (aM (i:=8) fO.nd rfl (UH rfl)) bw))))
     (aq (d0 (aL q5 hr (aa (pv 4) (aa (pv 2) (aa (pv 5) ah)))) (bS rfl (ar (aM (i:=9) fO.nd rfl (UH rfl)) (ar (aM (i:=10) fO.nd rfl (UH rfl)) bw))))
     (aq (fj PassesOwn.never rfl (eU (aL nF hr (aa (pv 5) ah))) (aM (i:=11) fO.nd rfl (UH rfl))
      (bu (bg jI (aL fg hr (aa (pv 1) (aa (pv 5) (aa (pv 11) ah)))) (aW (aa au ah))) c0
       (bu (bg jI (aL fg hr (aa (pv 1) (aa (aQ cq (pv 5) (aW (aa (pv 7) ah))) (aa (pv 11) ah)))) (aW (aa au (aa (aW (aa (aN aU rfl B.len UU (aa (pv 5) ah)) ah)) (aa (pv 8) ah))))) c0
       (b_ (jv (bg jI (aL fg hr (aa (pv 1) (aa (pv 9) (aa (pv 11) ah)))) (pv 10))
        (ax c0)
        fv)))))
     (bu (PW.pt (oo (bg jI (aL fg hr (aa (pv 1) (aa (aQ cq (pv 5) (aW (aa (pv 7) ah))) (aa (aW (aa ai ah)) ah)))) (aW (aa au (aa (aW (aa (aN aU rfl B.len UU (aa (pv 5) ah)) ah)) (aa (pv 8) ah))))) (m7 (bg jI (aL fg hr (aa (pv 1) (aa (pv 9) (aa (aW (aa ai ah)) ah)))) (pv 10))))) c0
     (b_ (jv (PW.pt (oo (bg jI (ql lE hr rfl MQ (aa (pv 1) (aa (pv 5) (aa (aW (aa ai ah)) ah)))) (aW (aa (aW ah) (aa gc (aa c0 ah))))) (m7 (bg jI (aL fg hr (aa (pv 1) (aa (pv 5) (aa (aW (aa (aN aU rfl B.len UU (aa (pv 5) ah)) ah)) ah)))) (aW (aa au ah))))))
      (ax c0)
      fv)))))))))
   (ax c0)))),?_⟩
 have hl:(ns.map V.int).length=ns.length:=TZ _;refine⟨_,rfl,a,ns,0,rfl,hS,by decide,by decide,λp H1 hp s1 hP=>?_⟩;refine⟨p,rfl,hP,λl us ds H2 g2 Nr=>aj ?_⟩;dsimp only;have s2:=p8 hp s1 g2;have hss:=LL Nr;refine⟨_,rfl,l,rfl,⟨_,bj.of Nr.lst⟩,λD hD=>we Nr.kd hss.six hD λH3 z3 h3=>aj ?_⟩;dsimp only;have s3:=s2.trans z3;have OU:=Nr.kd.same z3;revert OU h3 hss;generalize ds.map uV=ss;intro hss h3 OU;refine⟨_,rfl,a,_,rfl,.inl (GQ s3 hS),_,_,rfl,rfl,_,_,rfl,_,_,rfl,_,_,rfl,rfl,2,_,rfl,?_,?_⟩
 ·have e:((2:Int) ^ 62)=4611686018427387904:=by decide
  rw[e];refine⟨by decide,by decide,?_,?_⟩
  ·split<;>split<;>omega
  ·split<;>split<;>omega
 refine kD (λi σ H'=>(∃o3 o4 o5 o6 o7 o8 o9 qY lF,σ=[some (.ref a),some (.ref l),some (.ref D),o3,o4,o5,o6,o7,o8,o9,qY,lF])/\aG H3 H') ⟨⟨none,none,none,none,none,none,none,none,none,rfl⟩,aG.refl _⟩ ?_ ?_
 ·rintro i σ Hi hi ⟨⟨o3,o4,o5,o6,o7,o8,o9,qY,lF,rfl⟩,si⟩;have PL:(i:Int)<=20:=by revert hi;split<;>split<;>omega
  refine aj ?_;dsimp only;refine⟨_,rfl,_,rfl,a,ns,_,rfl,GQ (s3.trans si) hS,by omega,by omega,λp4 H4 O_ s4 OC=>aj ?_⟩;dsimp only;have Ku:dY H4 D ss:=s4 _ _ (si _ _ h3);refine⟨_,rfl,_,rfl,p4,D,ss,rfl,OC,Ku,hss,λT5 t so bs xs H5 g5 hT5 Eh Px hpl Qw=>⟨T5,_,rfl,aY.of hT5,rfl,_,_,rfl,aj ⟨_,_,rfl,aj ⟨rfl,?_⟩⟩⟩⟩;dsimp only;refine⟨_,rfl,_,rfl,p4,so,_,rfl,g5.cy,Px,hpl.good.at,λT6 b x why H6 g6 Qm Pe hbd=>⟨T6,_,rfl,aY.of Qm,rfl,_,_,rfl,aj ⟨_,_,rfl,aj ⟨rfl,?_⟩⟩⟩⟩;dsimp only;have Kt:=g5.trans g6;have Qf:dY H6 D ss:=Kt.keep _ _ (oj OC Ku hss.pos) Ku;have OV:=Eh.keep (aJ.grow g5.cy g6) (λ_ _ z=>z.keep (aJ.grow g5.cy g6));refine⟨_,rfl,_,rfl,_,rfl,p4,D,t,ss,bs,xs,rfl,Kt.cy,Qf,OV,hpl,Qw,λT7 u v ws pl wh H7 g7 Pr hpp hpo hno hdu=>⟨T7,_,rfl,aY.of Pr,rfl,_,_,rfl,aj ⟨_,_,rfl,aj ⟨rfl,?_⟩⟩⟩⟩;dsimp only;have s7:=p8 O_ s4 (Kt.trans g7);have tn:Turn K H7 l t b u v us ss bs xs x why ws pl wh:=⟨OU.same (si.trans s7),hss,OV.keep (aJ.grow g6.cy g7) (λ_ _ z=>z.keep (aJ.grow g6.cy g7)),hpl,Qw,Pe.keep (aJ.grow g6.cy g7),hbd,hpp,hpo,hno,hdu⟩;have Rh:=si.trans s7;clear hT5 Eh Px Qm Pe Qf OV Pr hpp hpo hno hdu g7 g6 g5 Kt Ku s4 OC O_;have hn:(bs.map V.ref).length=xs.length:=by rw[TZ];exact tn.it.len
  have GB:∀{Hx:Hp}{R:VK},aG H7 Hx->(∀t2 Hy,aG Hx Hy->Hy t2=some (.tup (bs.map V.ref++[.ref b]))->R (.ref t2) Hy)->∀{o3 lF:Option V},fQ Dd (bF 5) (AW (eD (bF 7) kK)) [some (.ref a),some (.ref l),some (.ref D),o3,some (.ref p4),some (.ref t),some (.ref so),some (.ref b),some (.str why),some (.ref u),some (.ref v),lF] Hx R:=λ{Hx R} sx hR {o3 lF}=>by refine⟨_,rfl,_,rfl,cN,λw hw=>?_⟩;have zw:=ag hw (.tup [.ref b]);exact⟨t,w,_,_,rfl,rfl,zw _ _ (sx _ _ tn.it.tup),ae,by rw[hn,List.length_singleton];exact TV (show xs.length+1<=4 by omega) zU,λt2 Hy sy sD=>hR t2 Hy (zw.trans sy) sD⟩
  have MJ:∀{Hx:Hp}{R:VK},aG H7 Hx->(∀v Hy,aG Hx Hy->aV K Hy (jm [(xs.length:Int)] why) v->R v Hy)->∀{o3 lF:Option V},AW (eD (tC (.str "pipe")) (eD (AW (eD (N5 (Oc K) (eD (bF 5) kK)) kK)) (eD (bF 8) kK))) [some (.ref a),some (.ref l),some (.ref D),o3,some (.ref p4),some (.ref t),some (.ref so),some (.ref b),some (.str why),some (.ref u),some (.ref v),lF] Hx R:=λ{Hx R} sx hR {o3 lF}=>by refine⟨_,rfl,t,_,rfl,.inr (aY.of (sx _ _ tn.it.tup)),cN,λw1 hw1=>⟨_,rfl,cm,λw2 hw2=>?_⟩⟩;have z2:=ag hw2 (.tup [.str "pipe",.ref w1,.str why]);refine hR _ _ ((ag hw1 _).trans z2) (bL ae (.cons (bY _) (.cons (gf (p:=[(xs.length:Int)]) (z2 _ _ ?_)) (.cons (bY _) .nil))));rw[ae,hn];rfl
  have C3:∀{σ:St}{Hx:Hp}{R:List V->Hp->Prop},(∀w Hy,aG Hx Hy->Hy w=some (.tup [.int 0])->R [.ref w] Hy)->eD (AW (eD (tC (.int 0)) kK)) kK σ Hx R:=λ{σ Hx R} hR=>⟨cN,λw hw=>hR w _ (ag hw _) ae⟩;refine⟨_,rfl,t,_,rfl,tn.it.tup,by rw[hn];omega,λL8 as H8 s8 hL8 has h9=>⟨L8,rfl,⟨_,bj.of hL8⟩,?_⟩⟩;refine vW (xs:=as.map V.ref) (λj σ H'=>(∃lF,σ=[some (.ref a),some (.ref l),some (.ref D),some (.int (2+(i:Int))),some (.ref p4),some (.ref t),some (.ref so),some (.ref b),some (.str why),some (.ref u),some (.ref v),lF])/\aG H8 H') ⟨⟨_,rfl⟩,aG.refl _⟩ ?_ ?_ ?_
  ·rintro j σ H' _ ⟨_,s'⟩;exact bj.of (s' _ _ hL8)
  ·rintro j vv σ H' hv ⟨⟨lF,rfl⟩,s'⟩;rw[Us]at hv;cases eb:as[j]? with
   |none=>rw[eb]at hv;cases hv
   |some pa =>
   rw[eb]at hv;cases hv;obtain⟨pi,hpa,hno⟩:=has pa (Ub eb);rw[hn]at hno;have s9:=s8.trans s';have II:=s' _ _ hpa;refine aj ?_;dsimp only;refine bH (λc Hx=>c=false/\aG H' Hx) (λT hT=>qA (.tup [.str "place"]) (λR hR=>⟨_,rfl,_,rfl,_,rfl,(tn.same s9).w1 II hno hR⟩) (λHx R sx hR=>⟨cN,λw hw=>hR _ _ (ag hw _) (bL ae (.cons (bY _) .nil))⟩) hu (by decide) λH' z=>hT _ _ ⟨rfl,z⟩) (λ_ z=>UC z.1 (by decide)) λHa za=>?_;have sa:=s9.trans za.2;have ta:=tn.same sa;refine bH (λc Hx=>c=false/\aG Ha Hx) (λT hT=>qA (jm [(xs.length:Int)] why) (λR hR=>⟨_,rfl,GB sa λt2 Hy sy sD=>⟨_,rfl,(ta.same sy).w2 sD (sy _ _ (za.2 _ _ II)) λv Ba s'' d=>hR v Ba (sy.trans s'') d⟩⟩) (λHx R sx hR=>MJ (sa.trans sx) hR) hu iU λH' z=>hT _ _ ⟨rfl,z⟩) (λ_ z=>UC z.1 (by decide)) λHb zb=>?_;have tb:=ta.same zb.2;exact qA (jm pl wh) (λR hR=>⟨_,rfl,_,rfl,_,rfl,tb.w3 (zb.2 _ _ (za.2 _ _ II)) hR⟩) (λHx R sx hR=>⟨_,rfl,hR _ _ (aG.refl _) (tb.due.same sx)⟩) hu iU λHc zc=>cV (bD ⟨⟨_,rfl⟩,s'.trans (za.2.trans (zb.2.trans zc))⟩)
  rintro σ H9 ⟨⟨lF,rfl⟩,z9⟩;dsimp only;have s9:=s8.trans z9;have t9:=tn.same s9;refine bH (λc Hx=>c=false/\aG H9 Hx) (λT hT=>nY (qA (jm [(xs.length:Int)] why) (λR hR=>⟨_,rfl,GB s9 λt2 Hy sy sD=>C3 λw Hz sz hw=>((t9.same sy).same sz).w2 (sz _ _ sD) (pi:=[0]) hw λv Ba s'' d=>hR v Ba (sy.trans (sz.trans s'')) d⟩) (λHx R sx hR=>MJ (s9.trans sx) hR) hu iU λHx zx=>cV (qA (jm pl wh) (λR hR=>⟨_,rfl,_,rfl,C3 λw Hz sz hw=>((t9.same zx).same sz).w3 (pi:=[0]) hw λv Ba s'' d=>hR v Ba (sz.trans s'') d⟩) (λHy R sy hR=>⟨_,rfl,hR _ _ (aG.refl _) ((t9.due.same zx).same sy)⟩) hu iU λHy zy=>hT _ _ ⟨rfl,zx.trans zy⟩))) (λ_ z=>UC z.1 (by decide)) λHa za=>?_;have ta:=t9.same za.2;have sa:=s9.trans za.2;refine nY (qA (dF MD) (λR hR=>⟨_,rfl,_,rfl,C3 λw Hz sz hw=>(ta.same sz).f0 hw λv Ba s'' d=>hR v Ba (sz.trans s'') d⟩) (λHx R sx hR=>⟨m_,λw1 hw1=>⟨cm,λw2 hw2=>?_⟩⟩) hu (by decide) λHx zx=>cV (qA (.tup [.str "told"]) (λR hR=>⟨_,rfl,_,rfl,_,rfl,t,_,rfl,.inr (aY.of ((sa.trans zx) _ _ tn.it.tup)),cN,λw hw=>((ta.same zx).same (ag hw _)).w4 (i:=xs.length) ?_ (TU _) λv Ba s'' d=>hR v Ba ((ag hw _).trans s'') d⟩) (λHy R sy hR=>⟨cN,λw hw=>hR _ _ (ag hw _) (bL ae (.cons (bY _) .nil))⟩) hu (by decide) λHy zy=>cV (bD ⟨⟨_,_,_,_,_,_,_,_,_,rfl⟩,Rh.trans (sa.trans (zx.trans zy))⟩)))
  ·have y2:=ag hw2 (.tup [.ref w1,.non,.bl false]);exact hR _ _ ((ag hw1 _).trans y2) (IC (o:=[]) (m:=none) (aY.of ae) (bL (y2 _ _ ae) .nil))
  ·rw[ae,hn]
 ·rintro σ H' ⟨⟨o3,o4,o5,o6,o7,o8,o9,qY,lF,rfl⟩,_⟩;exact q _
end
def yo(K:UX)(C PE:Addr):Bool:=(match PySem.W.clsIn K C with|some cd=>cd.mro == .ref C :: .ref PE::ua&&cd.hasDict|none=>false)&&PySem.W.mroIn K C (.type "object")==some true &&
 PySem.W.findIn K (.ref C) "__setattr__"==some (some (.builtin "object.__setattr__"))&&PySem.W.findIn K (.ref C) "__getattribute__"==some (some (.builtin "BaseException.__getattribute__"))&&PySem.W.findIn K (.ref C) "__getattr__"==some none&&PySem.W.mroIn K C (.type "BaseException")==some true&&PySem.W.findIn K (.ref C) "__class__"==some (some (.builtin "object.__class__"))
theorem yu{K:UX}{C PE:Addr}(h:yo K C PE=true)(cg:PySem.W.specialIn K (.builtin "object.__class__") "__get__"=some (some (.builtin "getset_descriptor.__get__")))(ct:PySem.W.takesIn K (.builtin "object.__class__")=some true):jo K C:=by
 unfold yo at h;simp only[UA,beq_iff_eq]at h;obtain⟨⟨⟨⟨⟨⟨h1,h2⟩,h3⟩,h4⟩,h6⟩,h7⟩,h5⟩:=h;split at h1
 ·rename_i cd e;simp only[UA,beq_iff_eq]at h1;exact⟨⟨cd,PE,e,h1.1,h1.2⟩,h2,h3,h4,h6,h7,h5,cg,ct⟩
 ·cases h1
def iP(K:UX)(d:Addr)(key:Str)(f:Addr):Bool:=match K.lookup d with
 |some o=>o.cls == .type "dict"&&o.dict==none&&o.slots.isEmpty&&(match o.data with
  | .dict es _=>es.all (λe=>isExactStrKey e.key)&&(match es.findIdx? (λe=>e.key.isStr key)with
   |some i=>(match es[i]? with
    |some e=>(match e.key,e.val with
     | .str k _,.ref g=>k==key&&g==f
     |_,_=>false)
    |none=>false)
   |none=>false)
  |_=>false)
 |none=>false
theorem bT{K:UX}{d:Addr}{key:Str}{f:Addr}(h:iP K d key f=true):cz K d key f:=by
 unfold iP at h;split at h
 ·rename_i o e;obtain⟨c,di,dt,sl⟩:=o;simp only[UA,beq_iff_eq]at h;obtain⟨⟨⟨h1,h2⟩,h3⟩,h4⟩:=h;subst h1 h2;have h3':sl = #[]:=by simpa using h3
  subst h3';split at h4
  ·rename_i es ep;simp only[UA]at h4;obtain⟨h5,h6⟩:=h4;split at h6
   ·rename_i i ei;split at h6
    ·rename_i en SE;obtain⟨x,k,v⟩:=en;split at h6
     ·rename_i k' t g e1 e2;have e1':k=.str k' t:=e1;have e2':v=.ref g:=e2;subst e1' e2';simp only[UA,beq_iff_eq]at h6;obtain⟨h7,h8⟩:=h6;subst h7 h8;exact⟨es,ep,i,x,t,e,h5,ei,SE⟩
     ·cases h6
    ·cases h6
   ·cases h6
  ·cases h4
 ·cases h
def v8(K:UX)(d:Addr)(key:Str):Bool:=!(d==sysModules)&&match K.lookup d with
 |some o=>o.cls == .type "dict"&&o.dict==none&&o.slots.isEmpty&&(match o.data with
  | .dict es _=>es.all (λe=>isExactStrKey e.key)&&(es.findIdx? (λe=>e.key.isStr key)).isNone
  |_=>false)
 |none=>false
theorem gY{K:UX}{d:Addr}{key:Str}(h:v8 K d key=true):jd K d key:=by
 unfold v8 at h;simp only[UA,Bool.not_eq_true']at h;obtain⟨h0,h⟩:=h;refine⟨h0,?_⟩;split at h
 ·rename_i o e;obtain⟨c,di,dt,sl⟩:=o;simp only[UA,beq_iff_eq]at h;obtain⟨⟨⟨h1,h2⟩,h3⟩,h4⟩:=h;subst h1 h2;have h3':sl = #[]:=by simpa using h3
  subst h3';split at h4
  ·rename_i es ep;simp only[UA]at h4;exact⟨es,ep,e,h4.1,Option.isNone_iff_eq_none.mp h4.2⟩
  ·cases h4
 ·cases h
theorem Ib{C:Addr}{L:Nat}(F:FA K mg "go_through" fV):bA (vc P w) P w K mg base (L+1) "go_through" ["pipe","begun","prefix","found"] (zj C 0) :=
 F.Ie bQ λ_ _ _ _ _ _ _ _ _ _ h=>UJ h
theorem FX{L:Nat}(F:FA K mg "follow" mh):bA bx P w K mg base (L+1) "follow" ["pipe","begun","prefix","heads","found"] MC :=
 F.ok c5 λ_ _ _ _ _ _ _ _ _ _ h=>UJ h
theorem c8{K:UX}{x:Str}{st:Stmt}{f:Addr}{oc:Value}{od an:Option Addr}{osl:Array (Option Value)}{kV doc pm cdv ct:Value}(a:PySem.W.nsIn K mainGlobals x=some (some (.ref f)):=by k_is)
  (l:K.lookup f=some ⟨oc,od,.func (PySem.W.fnOf x x (dk st) (cC st) (ao st) .none kV doc pm an cdv ct),osl⟩:=by k_is) (c:PySem.W.codeIn K cdv x=true:=by k_is) (k:PySem.W.keepIn K (.ref f)=true:=by k_is):FK K x st f:=MN a l c k
theorem all_mk{l:PySem.W.OpenLaw}{w:World}{K:UX}{h:Heap}{mg:Str->Option Value}{fa:Addr}(X:K.In h)(G:h.Ns mainGlobals mg)(hfa:mg "law"=some (.ref fa))
  {CF CP PE b1 b2 b3 b4 b5 aC aS aT aB aO aF aA aZ:Addr} {SN QM Qy Q1:Option Addr} {tT tW Qq tb2 Qn to2 to3 PY PH:Tok} {nB nO nA n1:Nat} {SS Sn SY Tf:Array (Option Value)}
  {AH:Addr} {MR KO:Option Addr} {Mn:Array (Option Value)} {KL L6 ML LB HA Le:Value}
  {qi wU uF AE eF eO k_ fk jN kX xU qI oy uI og oh pY nU n9 oq nW n_ vK Ct jT iC kZ eP jW j3 vB qT qG xG qM A2 qh sg Cg AD qW wN jD Gh h_ fM k9 ju gk jj j0 l9 pH BF vg A8 wQ tV wZ pj sr tQ vz qU qd tM kM uT x6 lH wG nN qF:Addr}
  (a0:FK K "_law_cell_at" B5 qi:=by exact My.c8)
  (a1:FK K "_law_pot" Ke wU:=by exact My.c8)
  (a2:FK K "_law_draw" Dy uF:=by exact My.c8)
  (a3:FK K "sort_of" nG AE:=by exact My.c8)
  (a4:FK K "no_columns" iX eF:=by exact My.c8)
  (a5:FK K "one_column" iT eO:=by exact My.c8)
  (a6:FK K "two_columns" ij k_:=by exact My.c8)
  (a7:FK K "listed_columns" fq fk:=by exact My.c8)
  (a8:FK K "sort_columns" gI jN:=by exact My.c8)
  (a9:FK K "sum_columns" iy kX:=by exact My.c8)
  (a10:FK K "is_there" lu xU:=by exact My.c8)
  (a11:FK K "columns_fit" ic qI:=by exact My.c8)
  (a12:FK K "are_same_sort" fN oy:=by exact My.c8)
  (a13:FK K "cells_fit" jK uI:=by exact My.c8)
  (a14:FK K "keep_fits" jw og:=by exact My.c8)
  (a15:FK K "same_fits" j8 oh:=by exact My.c8)
  (a16:FK K "sum_fits" lh pY:=by exact My.c8)
  (a17:FK K "meet_fits" jX nU:=by exact My.c8)
  (a18:FK K "both_fits" jZ n9:=by exact My.c8)
  (a19:FK K "turn_fits" jJ oq:=by exact My.c8)
  (a20:FK K "walk_fits" j5 nW:=by exact My.c8)
  (a21:FK K "must_fits" j6 n_:=by exact My.c8)
  (a22:FK K "sorts_fit" j_ vK:=by exact My.c8)
  (a23:FK K "picked" pD Ct:=by exact My.c8)
  (a24:FK K "head_of_walk" gm jT:=by exact My.c8)
  (a25:FK K "head_of_number" ft iC:=by exact My.c8)
  (a26:FK K "head_of_cut" ik kZ:=by exact My.c8)
  (a27:FK K "head_of_tallied" eI eP:=by exact My.c8)
  (a28:FK K "head_of_meet" gq jW:=by exact My.c8)
  (a29:FK K "head_of_must" gi j3:=by exact My.c8)
  (a30:FK K "head_told" jy vB:=by exact My.c8)
  (a31:FK K "branches_of" iu qT:=by exact My.c8)
  (a32:FK K "name_passed" il qG:=by exact My.c8)
  (a33:FK K "rows_fit" lG xG:=by exact My.c8)
  (a34:FK K "makes_loose" iw qM:=by exact My.c8)
  (a35:FK K "why_not" nq A2:=by exact My.c8)
  (a36:FK K "known_behind" gH qh:=by exact My.c8)
  (a37:FK K "go_through" fV sg:=by exact My.c8)
  (a38:FK K "survey" p3 Cg:=by exact My.c8)
  (a39:FK K "look_up" kr AD:=by exact My.c8)
  (a40:FK K "order_ahead" ia qW:=by exact My.c8)
  (a41:FK K "order_in" ly wN:=by exact My.c8)
  (a42:FK K "with_other_columns" de jD:=by exact My.c8)
  (a43:FK K "least" uc Gh:=by exact My.c8)
  (a44:FK K "behind_test" ie h_:=by exact My.c8)
  (a45:FK K "behind_change" fP fM:=by exact My.c8)
  (a46:FK K "behind_sort" iz k9:=by exact My.c8)
  (a47:FK K "behind_apart" gK ju:=by exact My.c8)
  (a48:FK K "behind_tally" gn gk:=by exact My.c8)
  (a49:FK K "behind_number" fH jj:=by exact My.c8)
  (a50:FK K "behind_first" gB j0:=by exact My.c8)
  (a51:FK K "behind_cut" iV l9:=by exact My.c8)
  (a52:FK K "facts_behind" gJ pH:=by exact My.c8)
  (a53:FK K "follow" mh BF:=by exact My.c8)
  (a54:FK K "all_facts" jM vg:=by exact My.c8)
  (a55:FK K "head_of" mX A8:=by exact My.c8)
  (a56:FK K "facts_at" lK wQ:=by exact My.c8)
  (a57:FK K "_law_cells" i6 tV:=by exact My.c8)
  (a58:FK K "_law_set" ll wZ:=by exact My.c8)
  (a59:FK K "_law_columns" gr pj:=by exact My.c8)
  (a60:FK K "_law_pairs" i9 sr:=by exact My.c8)
  (a61:FK K "_law_plain" jb tQ:=by exact My.c8)
  (a62:FK K "_law_kind" jx vz:=by exact My.c8)
  (a63:FK K "_law_unlike" ig qU:=by exact My.c8)
  (a64:FK K "_law_one_row" gx qd:=by exact My.c8)
  (RH:FK K "_law_other" ji tM:=by exact My.c8)
  (Tb:FK K "_law_sorts_behind" dq kM:=by exact My.c8)
  (Tg:FK K "_law_good" jz uT:=by exact My.c8)
  (Sv:FK K "_law_bad" lz x6:=by exact My.c8)
  (RA:FK K "_law_other_class" d9 lH:=by exact My.c8)
  (Sk:FK K "_law_why" lM wG:=by exact My.c8)
  (Q6:FK K "_law_no_places" fb nN:=by exact My.c8)
  (RE:FK K "_law_spoilt" iA qF:=by exact My.c8)
  (Lq:PySem.W.nsIn K mainGlobals "len"=some none:=by k_is)
  (Mu:PySem.W.nsIn K mainGlobals "max"=some none:=by k_is)
  (Mj:PySem.W.nsIn K mainGlobals "abs"=some none:=by k_is)
  (DE:PySem.W.nsIn K mainGlobals "divmod"=some none:=by k_is)
  (Eu:PySem.W.nsIn K mainGlobals "range"=some none:=by k_is)
  (Fg:PySem.W.nsIn K mainGlobals "tuple"=some none:=by k_is)
  (Jd:PySem.W.nsIn K mainGlobals "list"=some none:=by k_is)
  (sS:PySem.W.nsIn K mainGlobals "isinstance"=some none:=by k_is)
  (Ll:PySem.W.nsIn K mainGlobals "int"=some none:=by k_is)
  (KC:PySem.W.nsIn K mainGlobals "min"=some none:=by k_is)
  (Mv:PySem.W.nsIn K mainGlobals "all"=some none:=by k_is)
  (B_:PySem.W.nsIn K mainGlobals "sorted"=some none:=by k_is)
  (Ms:PySem.W.nsIn K mainGlobals "set"=some none:=by k_is)
  (MF:PySem.W.nsIn K mainGlobals "str"=some none:=by k_is)
  (MU:PySem.W.nsIn K mainGlobals "any"=some none:=by k_is)
  (LV:PySem.W.nsIn K mainGlobals "zip"=some none:=by k_is)
  (n4:PySem.W.nsIn K mainGlobals "enumerate"=some none:=by k_is)
  (sJ:PySem.W.nsIn K mainGlobals "ValueError"=some none:=by k_is)
  {DK:Addr} {Jl CD:Option Addr} {J1:Array (Option Value)} {J8 DF CV BY wC Bx:Value}
  (Mc:PySem.W.nsIn K mainGlobals "law"=some (some (.ref DK)):=by k_is) (LG:K.lookup DK=some ⟨J8,Jl,.func (PySem.W.fnOf "law" "law" (dk md) (cC md) (ao md) .none DF CV BY CD wC Bx),J1⟩:=by k_is) (Lb:PySem.W.codeIn K wC "law"=true:=by k_is) (KI:PySem.W.keepIn K (.ref DK)=true:=by k_is)
  (Qx:PySem.W.nsIn K mainGlobals "Falling"=some (some (.ref b1)):=by k_is)
  (RX:PySem.W.nsIn K mainGlobals "NoStep"=some (some (.ref b2)):=by k_is)
  (QZ:PySem.W.nsIn K mainGlobals "NoText"=some (some (.ref b3)):=by k_is)
  (R8:PySem.W.nsIn K mainGlobals "TooMany"=some (some (.ref b4)):=by k_is)
  (Ss:PySem.W.nsIn K mainGlobals "Unknown"=some (some (.ref b5)):=by k_is)
  (SK:PySem.W.nsIn K mainGlobals "NoPipe"=some (some (.ref CF)):=by k_is)
  (QI:PySem.W.nsIn K mainGlobals "NoPlace"=some (some (.ref CP)):=by k_is)
  (RJ:PySem.W.nsIn K mainGlobals "PipeError"=some (some (.ref PE)):=by k_is)
  (zC:PySem.W.nsIn K mainGlobals "COLUMNS_OF"=some (some (.ref aC)):=by k_is)
  (zS:PySem.W.nsIn K mainGlobals "SORTS_FIT"=some (some (.ref aS)):=by k_is)
  (zT:PySem.W.nsIn K mainGlobals "HEADS_TOLD"=some (some (.ref aT)):=by k_is)
  (zF:PySem.W.nsIn K mainGlobals "FACTS_BEHIND"=some (some (.ref aF)):=by k_is)
  (zA:PySem.W.nsIn K mainGlobals "AT_FIRST"=some (some (.ref aA)):=by k_is)
  (lA:K.lookup aA=some ⟨.type "tuple",Qy,.seq #[.ref aZ,.none,.bool false] nA,SY⟩:=by k_is)
  (lZ:K.lookup aZ=some ⟨.type "tuple",Q1,.seq #[] n1,Tf⟩:=by k_is)
  (zB:PySem.W.nsIn K mainGlobals "BRANCHED"=some (some (.ref aB)):=by k_is)
  (zO:PySem.W.nsIn K mainGlobals "ONE_ROW"=some (some (.ref aO)):=by k_is)
  (QP:PySem.W.nsIn K mainGlobals "TALLY"=some (some (.str "t" tT)):=by k_is)
  (zW:PySem.W.nsIn K mainGlobals "WIDEST_ROW"=some (some (.int 6 tW)):=by k_is)
  (lB:K.lookup aB=some ⟨.type "tuple",SN,.seq #[.str "both" Qq,.str "meet" tb2] nB,SS⟩:=by k_is)
  (lO:K.lookup aO=some ⟨.type "tuple",QM,.seq #[.str "keep" Qn,.str "same" to2,.str "cut" to3,.str "turn" PY,.str "must" PH] nO,Sn⟩:=by k_is)
  (Sj:PySem.W.findIn K (.ref CF) "__init__"=some (some (.ref AH)):=by k_is)
  (OK:K.lookup AH=some ⟨KL,MR,.func (PySem.W.fnOf "__init__" "NoPipe.__init__" (dk nK) (cC nK) (ao nK) .none L6 ML LB KO HA Le),Mn⟩:=by k_is)
  (OP:PySem.W.codeIn K HA "NoPipe.__init__"=true:=by k_is)
  (O4:PySem.W.keepIn K (.ref AH)=true:=by k_is)
  (S8:PySem.W.keepIn K (.ref CF)=true:=by k_is)
  (Rx:PySem.W.isFn K (.ref AH)=true:=by k_is)
  (Sg:PySem.W.findIn K (.ref CF) "place"=some none:=by k_is)
  (QH:PySem.W.findIn K (.ref CF) "why"=some none:=by k_is)
  (cg:PySem.W.specialIn K (.builtin "object.__class__") "__get__"=some (some (.builtin "getset_descriptor.__get__")):=by k_is)
  (ct:PySem.W.takesIn K (.builtin "object.__class__")=some true:=by k_is)
  (x0:yo K CF PE=true:=by kernel_rfl)
  (e0:iR K CF ua "ValueError.__new__" (some (.ref AH))=true:=by kernel_rfl)
  (x1:yo K CP PE=true:=by kernel_rfl)
  (e1:iR K CP ua "ValueError.__new__" none=true:=by kernel_rfl)
  (ec:PySem.W.exmOne K (.ref CF) (.ref CF)=some true:=by kernel_rfl)
  (en:PySem.W.exmOne K (.ref CP) (.ref CF)=some false:=by kernel_rfl)
  (ep:PySem.W.exmOne K (.ref CP) (.ref CP)=some true:=by kernel_rfl)
  (kc:PySem.W.kitOne K (.ref CF) (.ref CP)=some false:=by kernel_rfl)
  (kp:PySem.W.kitOne K (.ref CF) (.ref PE)=some true:=by kernel_rfl)
  (kq:PySem.W.kitOne K (.ref CP) (.ref PE)=some true:=by kernel_rfl)
  (kv:PySem.W.kitOne K (.ref CP) (.type "ValueError")=some true:=by kernel_rfl)
  (kA:PySem.W.kitAny K (.ref CF) [.ref b1,.ref b2,.ref b3,.ref b4,.ref b5]=some false:=by kernel_rfl)
  (kB:PySem.W.kitAny K (.ref CP) [.ref b1,.ref b2,.ref b3,.ref b4,.ref b5]=some false:=by kernel_rfl)
  (Pc:PySem.W.kitOne K (.type "int") (.type "str")=some false:=by kernel_rfl)
  (J3:iP K aC "keep" eO=true:=by kernel_rfl)
  (Jm:iP K aC "same" k_=true:=by kernel_rfl)
  (Ly:iP K aC "cut" fk=true:=by kernel_rfl)
  (Ju:iP K aC "turn" eO=true:=by kernel_rfl)
  (Kd:iP K aC "must" eO=true:=by kernel_rfl)
  (IH:iP K aC "walk" eO=true:=by kernel_rfl)
  (Je:iP K aC "sort" jN=true:=by kernel_rfl)
  (EI:iP K aC "apart" eF=true:=by kernel_rfl)
  (E3:iP K aC "count" fk=true:=by kernel_rfl)
  (K1:iP K aC "sum" kX=true:=by kernel_rfl)
  (B9:iP K aC "number" eF=true:=by kernel_rfl)
  (F2:iP K aC "first" eF=true:=by kernel_rfl)
  (HS:iP K aC "both" eF=true:=by kernel_rfl)
  (JZ:iP K aS "keep" og=true:=by kernel_rfl)
  (s_same:iP K aS "same" oh=true:=by kernel_rfl)
  (Ia:iP K aS "turn" oq=true:=by kernel_rfl)
  (HN:iP K aS "must" n_=true:=by kernel_rfl)
  (IT:iP K aS "walk" nW=true:=by kernel_rfl)
  (LK:iP K aS "sum" pY=true:=by kernel_rfl)
  (Ji:iP K aS "both" n9=true:=by kernel_rfl)
  (I_:iP K aS "meet" nU=true:=by kernel_rfl)
  (HQ:v8 K aS "cut"=true:=by kernel_rfl)
  (F6:v8 K aS "sort"=true:=by kernel_rfl)
  (Bo:v8 K aS "apart"=true:=by kernel_rfl)
  (DO:v8 K aS "count"=true:=by kernel_rfl)
  (Am:v8 K aS "number"=true:=by kernel_rfl)
  (C_:v8 K aS "first"=true:=by kernel_rfl)
  (Ja:iP K aT "cut" kZ=true:=by kernel_rfl)
  (Fn:iP K aT "must" j3=true:=by kernel_rfl)
  (FD:iP K aT "walk" jT=true:=by kernel_rfl)
  (DX:iP K aT "count" eP=true:=by kernel_rfl)
  (IK:iP K aT "sum" eP=true:=by kernel_rfl)
  (Ah:iP K aT "number" iC=true:=by kernel_rfl)
  (EX:iP K aT "meet" jW=true:=by kernel_rfl)
  (Fz:v8 K aT "keep"=true:=by kernel_rfl)
  (Fi:v8 K aT "same"=true:=by kernel_rfl)
  (FN:v8 K aT "turn"=true:=by kernel_rfl)
  (F5:v8 K aT "sort"=true:=by kernel_rfl)
  (Cq:v8 K aT "apart"=true:=by kernel_rfl)
  (BA:v8 K aT "first"=true:=by kernel_rfl)
  (FL:v8 K aT "both"=true:=by kernel_rfl)
  (Io:iP K aF "keep" h_=true:=by kernel_rfl)
  (JL:iP K aF "same" h_=true:=by kernel_rfl)
  (MO:iP K aF "cut" l9=true:=by kernel_rfl)
  (IV:iP K aF "turn" fM=true:=by kernel_rfl)
  (HU:iP K aF "must" fM=true:=by kernel_rfl)
  (IS:iP K aF "sort" k9=true:=by kernel_rfl)
  (Ft:iP K aF "apart" ju=true:=by kernel_rfl)
  (Gd:iP K aF "count" gk=true:=by kernel_rfl)
  (Mx:iP K aF "sum" gk=true:=by kernel_rfl)
  (CJ:iP K aF "number" jj=true:=by kernel_rfl)
  (EA:iP K aF "first" j0=true:=by kernel_rfl)
  (Ge:v8 K aF "walk"=true:=by kernel_rfl) :
  ∃fd:FuncData,(∀(s:Shared)(v:Value),BindsTo s fd ⟨[v],[]⟩ [("_law_script",v)])/\∀base:Heap,K.In base->base.Ns mainGlobals mg->e7 l.prog w K mg base bx 11 fa fd ["_law_script"] (yP K):=by
 have F:=λ{x:Str} {st:Stmt} {f:Addr} (a:FK K x st f)=>a.fa X G;have h:=λ{x:Str} {st:Stmt} {f:Addr} (a:FK K x st f)=>a.h X G;cases hfa.symm.trans (UW X G Mc);have Fl:=wX (st:=md) LG Lb KI;have B:j7 mg:=⟨UK X G Lq,UK X G Mu,UK X G Mj,UK X G DE,UK X G Eu,UK X G Fg,UK X G Jd,UK X G sS⟩;have B2:tR mg:=⟨UK X G Ll,UK X G KC,UK X G Mv,UK X G B_,UK X G Ms⟩;have B3:BQ mg:=⟨UK X G MF,UK X G MU,UK X G LV,UK X G n4⟩;have mE:=UK X G n4;have mT:=UW X G QP;have mW:=UW X G zW;have mC:=UW X G zC;have QS:=UW X G zS;have mH:=UW X G zT;have Cb:Ez K mg "BRANCHED" aB Mo:=⟨UW X G zB,λH=>.inr ⟨_,_,_,lB,rfl,rfl,(by show 2<=sizeLine;decide),.cons ⟨Qq,rfl⟩ (.cons ⟨tb2,rfl⟩ .nil)⟩⟩;have Co:Ez K mg "ONE_ROW" aO Cy:=⟨UW X G zO,λH=>.inr ⟨_,_,_,lO,rfl,rfl,(by show 5<=sizeLine;decide),.cons ⟨Qn,rfl⟩ (.cons ⟨to2,rfl⟩ (.cons ⟨to3,rfl⟩ (.cons ⟨PY,rfl⟩ (.cons ⟨PH,rfl⟩ .nil))))⟩⟩;have Cf:Jn K mg CF AH:=⟨yu x0 cg ct,Sg,QH,e0,S8,Rx,UW X G SK⟩;have Cp:JD K mg CP:=⟨yu x1 cg ct,e1,UW X G QI⟩;have mF:=UW X G zF;have mA:=UW X G zA;have T:Ld K mg CF CP PE:=⟨UW X G RJ,UK X G sJ,ec,en,ep,kc,kp,kq,kv⟩;have TS:Lm K mg CF CP b1 b2 b3 b4 b5:=⟨UW X G Qx,UW X G RX,UW X G QZ,UW X G R8,UW X G Ss,kA,kB⟩;have cA:E6 K aA aZ:=⟨λH=>.inr ⟨_,_,_,lA,rfl,rfl,(by show 3<=sizeLine;decide),.cons rfl (.cons rfl (.cons rfl .nil))⟩,λH=>.inr ⟨_,_,_,lZ,rfl,rfl,(by show 0<=sizeLine;decide),.nil⟩⟩;have MB:=wX (st:=nK) OK OP O4;have K4:=MB.binds (ps:=["self","place","why"]) (by intro _ _ _ _ _ _;refine L2.Gn ?_;intro _ _ _;rfl);refine⟨PySem.W.fnOf "law" "law" (dk md) (cC md) (ao md) .none DF CV BY CD wC Bx,λs v=>.of_eq rfl,λbase _ _=>?_⟩;have g0:=EF (P:=l.prog) (w:=w) (base:=base) B (F a0);have g1:=IA B (F a1) g0.m;have g2:=Fe (P:=l.prog) (w:=w) (base:=base) B (F a2);have g3:=AF (P:=l.prog) (w:=w) (base:=base) B B3 Pc (F a3);have g4:=Af (P:=l.prog) (w:=w) (base:=base) (F a4);have g5:=zJ (P:=l.prog) (w:=w) (base:=base) (F a5);have g6:=wW (P:=l.prog) (w:=w) (base:=base) (F a6);have g7:=vH (P:=l.prog) (w:=w) (base:=base) (F a7);have g8:=uX (P:=l.prog) (w:=w) (base:=base) B (F a8);have g9:=xo (P:=l.prog) (w:=w) (base:=base) (F a9);have S7:=DU (P:=l.prog) (w:=w) (base:=base) B (F a10);have RG:=Ay (aR:=aC) (bT J3) (bT Jm) (bT Ly) (bT Ju) (bT Kd) (bT IH) (bT Je) (bT EI) (bT E3) (bT K1) (bT B9) (bT F2) (g4.at (h a4)) (g5.at (h a5)) (g6.at (h a6)) (g7.at (h a7)) (g8.at (h a8)) (g9.at (h a9));have Sf:=λ(n:Nat)=>Ir (n:=n) RG (bT HS) (g4.at (h a4));have MH:=λ(n:Nat)=>zt (n:=n) B B2 mC (Sf n) (F a11) S7.m;have LW:=Cj (P:=l.prog) (w:=w) (base:=base) mT (F a12);have Ip:=uh B2 mT (F a13) g3.m;have Q9:=λ(n:Nat)=>uM (n:=n) (P:=l.prog) (w:=w) (base:=base) mT (F a14);have Sm:=λ(n:Nat)=>uO (n:=n) (F a15) LW.m;have SM:=λ(n:Nat)=>xZ (n:=n) (P:=l.prog) (w:=w) (base:=base) (F a16);have SA:=λ(n:Nat)=>vC (n:=n) (F a17) LW.m;have Rb:=λ(n:Nat)=>uP (n:=n) (P:=l.prog) (w:=w) (base:=base) (F a18);have Rf:=λ(n:Nat)=>uU (n:=n) (F a19) Ip.m;have Rk:=λ(n:Nat)=>vE (n:=n) (F a20) Ip.m;have QF:=λ(n:Nat)=>uC (n:=n) B (F a21) g3.m Ip.m;have Sb:=λ(n:Nat)=>A5 (n:=n) (aS:=aS) (bT JZ) (bT s_same) (bT Ia) (bT HN) (bT IT) (bT LK) (bT Ji) (bT I_) (gY HQ) (gY F6) (gY Bo) (gY DO) (gY Am) (gY C_) ((Q9 n).at (h a14)) ((Sm n).at (h a15)) ((Rf n).at (h a19)) ((QF n).at (h a21)) ((Rk n).at (h a20)) ((SM n).at (h a16)) ((Rb n).at (h a18)) ((SA n).at (h a17));have R9:=λ(n:Nat)=>vJ (n:=n) QS (Sb n) (F a22);have Nf:=Ae (P:=l.prog) (w:=w) (base:=base) B (F a23);have Rp:=λ(n:Nat)=>Dv (n:=n) (P:=l.prog) (w:=w) (base:=base) (F a24);have Sy:=λ(n:Nat)=>ye (n:=n) (P:=l.prog) (w:=w) (base:=base) mT (F a25);have R3:=λ(n:Nat)=>FU (n:=n) (F a26) Nf.m;have Se:=λ(n:Nat)=>C4 (n:=n) mT (F a27) Nf.m;have Rt:=λ(n:Nat)=>Br (n:=n) (P:=l.prog) (w:=w) (base:=base) (F a28);have Rn:=λ(n:Nat)=>D1 (n:=n) B (F a29) g3.m;have Ta:=λ(n:Nat)=>wg (n:=n) (aT:=aT) (bT Ja) (bT Fn) (bT FD) (bT DX) (bT IK) (bT Ah) (bT EX) (gY Fz) (gY Fi) (gY FN) (gY F5) (gY Cq) (gY BA) (gY FL) ((R3 n).at (h a26)) ((Rn n).at (h a29)) ((Rp n).at (h a24)) ((Se n).at (h a27)) ((Sy n).at (h a25)) ((Rt n).at (h a28));have Qp:=λ(n:Nat)=>vP (n:=n) mH (Ta n) (F a30);have M7:=λ(n:Nat)=>JR (n:=n) (P:=l.prog) (w:=w) (base:=base) Cb (F a31);have Pt:=λ(n:Nat)=>FI (n:=n) (P:=l.prog) (w:=w) (base:=base) (F a32);have QG:=λ(n:Nat)=>wj (n:=n) B2 Co (F a33) (M7 n).m;have RM:=λ(n:Nat)=>BV (n:=n) B3 mT (F a34) (Pt n).m;have PR:=λ(n:Nat)=>Ak (n:=n) B mW (F a35) (MH n).m (R9 n).m (Qp n).m (QG n).m;have Ph:=λ(n:Nat)=>zE (n:=n) B B2 B3 (F a36) (Qp n).m (Pt n).m (RM n).m;have Rc:=EN (P:=l.prog) (w:=w) (base:=base) Cp (F a39);have SW:=A6 (P:=l.prog) (w:=w) (base:=base) B (F a40);have P2:=IF (P:=l.prog) (w:=w) (base:=base) B (F a41);have R5:=A1 (P:=l.prog) (w:=w) (base:=base) B (F a42);have QW:=C5 (P:=l.prog) (w:=w) (base:=base) B2 (F a43);have SJ:=Dq (P:=l.prog) (w:=w) (base:=base) (F a44);have Km:=EG (F a45) SW.m;have Kt:=BJ (F a46) R5.m;have R_:=As (P:=l.prog) (w:=w) (base:=base) (F a47);have R0:=Al (F a48) P2.m;have SD:=xx (P:=l.prog) (w:=w) (base:=base) (F a49);have Ra:=zN (F a50) QW.m;have RP:=Ga B B2 (F a51) P2.m;have Ti:=DG (aF:=aF) (bT Io) (bT JL) (bT MO) (bT IV) (bT HU) (bT IS) (bT Ft) (bT Gd) (bT Mx) (bT CJ) (bT EA) (gY Ge) (SJ.at (h a44)) (RP.at (h a51)) (Km.at (h a45)) (Kt.at (h a46)) (R_.at (h a47)) (R0.at (h a48)) (SD.at (h a49)) (Ra.at (h a50));have Rm:=AI mF Ti (F a52);have Rz:=Ar (P:=l.prog) (w:=w) (base:=base) B (F a55);have Py:=AU (P:=l.prog) (w:=w) (base:=base) (F a57);have Sl:=EC (F a58) g2.m;have Qu:=C6 B (F a59) g2.m;have Rw:=AY B (F a60) g2.m Py.m;have Pd:=AX (P:=l.prog) (w:=w) (base:=base) B (F a61);have Q_:=Bw B (F a62) g2.m;have Rq:=Gs B (F a63) g2.m;have Si:=zR B (F a64) g2.m Pd.m Sl.m Qu.m Rw.m;have Qz:=BZ B (F RH) g2.m Pd.m Py.m Qu.m Rq.m;have Pg:=wK (P:=l.prog) (w:=w) (base:=base) B B2 B3 Pc (F Tb);have Su:=Ff B (F Tg) g2.m Si.m Qz.m Pg.m;have Qj:=Ij B (F Sv) g2.m;have QJ:=Ln (P:=l.prog) (w:=w) (base:=base) (F RA) B TS;have R1:=L7 (P:=l.prog) (w:=w) (base:=base) B (F Q6);have QC:=zH B (F RE) g2.m Pg.m Qj.m;have LJ:=Bi (P:=l.prog) (w:=w) (base:=base) (mg:=mg) (C:=CF) MB;have Rr:=Ib (P:=l.prog) (w:=w) (base:=base) (C:=CF) (L:=4) (F a37);have QA:=Du (C:=CF) (n:=0) (L:=0) B mE Cf (F a37) LJ K4 (M7 0).m Rr.m (PR 0).m (Ph 0).m;have go2:=Du (C:=CF) (n:=1) (L:=1) B mE Cf (F a37) LJ K4 (M7 1).m QA.m (PR 1).m (Ph 1).m;have sv:=Aa (C:=CF) (n:=1) (L:=1) (F a38) go2.m;have S1:=FX (P:=l.prog) (w:=w) (base:=base) (L:=2) (F a53);have Ry:=zG B mE (F a53) (M7 0).m S1.m Rm.m;have af:=Fp (aA:=aA) (a1:=aZ) mA cA (F a54) Ry.m;have fa:=xl (C:=CF) (CP:=CP) (n:=1) (L:=1) (F a56) Rz.m sv.m Rc.m af.m;have lw:=Fb (C:=CF) (CP:=CP) (L:=1) B Cf Cp T (F Sk) QJ fa.m;exact JW (L:=10) B B2 Fl g1.m Q_.m Su.m Qj.m QC.m R1.m lw.m fa.m
theorem walk{l:PySem.W.OpenLaw}{q:Program}{loose:List Str}{XP:(Str->Option Value)->Heap->Prop}{YP:World->Heap->Prop}{d:DefRec}{K:Params->UX}(hn:l.most=some 63)(hdf:d.params.defaults=[])
  (hY:∀(w:World)(h:Heap),YP w h->(K w.params).In h)
  (F:∀(w:World)(mg:Str->Option Value)(fa:Addr)(h:Heap),(K w.params).In h->h.Ns mainGlobals mg->mg d.name=some (.ref fa)->
   ∃fd:FuncData,(∀(s:Shared)(u:Value),BindsTo s fd ⟨[u],[]⟩ [("_law_script",u)])/\∀base:Heap,(K w.params).In base->base.Ns mainGlobals mg->e7 l.prog w (K w.params) mg base bx 11 fa fd ["_law_script"] (yP (K w.params))) :
  PySem.W.WalkO q loose XP YP l.row.toRowW d [] (λf vs=>PySem.call f vs) :=
 L2.En (n:=63) (k:=11) (x:="_law_script") (CX:=λ_=>bx) (sp:=λw=>yP (K w.params)) hn (by decide) hdf ⟨rfl,by decide,by decide⟩ hY F (λ_ _ a ns hl _ hS=>⟨a,ns,rfl,hS,hl,λ_=>rfl⟩) λ_ _ _ _ _ z=>z
end My
namespace PySem.W.Fast
def tw6477876561903594029:=0
def tw1529988805546411669:=0
def tw13885939739716213845:=0
def tw17786123668639675012:=0
def tw7098157717234436241:=0
def tw6733711921467798000:=0
def tw14098805580116350265:=0
def tw2378740199594010809:=0
def tw12011260108941959434:=0
def tw18407565421721873881:=0
def tw10119946375931621548:=0
def tw8617703680844210231:=0
def tw8794140048387134293:=0
def tw10650516492470829564:=0
def tw5212445192881381363:=0
def tw18105886959960222237:=0
def tw4776737589791789137:=0
def tw10012120281165046247:=0
def tw12461429537386594252:=0
def tw5186835566455925924:=0
def tw16009188568806334783:=0
def tw17674256992707005314:=0
def tw11462082960592178345:=0
def tw16576416963981606116:=0
def tw13958438460267197193:=0
def tw3443937748110667540:=0
def tw4695128161095514060:=0
def tw16991921278527385292:=0
def tw828306143313710333:=0
def tw9255210986644858926:=0
def tw16648856324064300196:=0
def tw4395472816711888693:=0
def tw5802863588726711438:=0
def tw2027477468898593108:=0
def tw12716257828390679134:=0
def tw17144943780390406310:=0
def tw17437167936601332751:=0
def tw12147116898031466101:=0
def tw17365485631508124509:=0
def tw5855927515535781408:=0
def tw9685577775618174023:=0
def tw10687856853315964231:=0
def tw2688896835242098802:=0
def tw10810841444119627488:=0
def tw14781494339210976378:=0
def tw6677496006698149224:=0
def tw2014290582192865337:=0
def tw15042930193771641430:=0
def tw13592067898918775424:=0
def tw3961060154110089313:=0
def tw3795492318592467473:=0
def tw14927693029213401103:=0
def tw7672581608553229562:=0
def tw12560620171534843554:=0
def tw5347312850397221548:=0
def tw8548858186084630349:=0
def tw13518398653282829455:=0
def tw12570799290630790948:=0
def tw12162983697941560014:=0
def tw5804839162438015544:=0
def tw15439519394277997931:=0
def tw12614195516659086030:=0
def tw18080619462912758259:=0
def tw5704754801190085765:=0
def tw8385148902794341628:=0
def tw8918269659542553278:=0
def tw2126140559587507014:=0
def tw1997539988916331714:=0
def tw4240806670902127973:=0
def tw10183909123156978456:=0
def tw16842587023403680685:=0
def tw9560292373129811759:=0
def tw7277921404599240422:=0
def tw8026972139938096454:=0
def tw15581921573333616063:=0
def tw6250003631344011972:=0
def tw14054334955303630713:=0
def tw18353390560095477203:=0
def tw5498196919808498373:=0
def tw3871773024539368677:=0
def tw11159978959973887889:=0
def tw6294239532088495105:=0
def tw3222411429531901953:=0
def tw8257729193790367087:=0
def tw15347644706283106843:=0
def tw11978947254529838249:=0
def tw12840836392169536780:=0
def tw9969742333162253939:=0
def tw18252253219167732518:=0
def tw2488966133046556337:=0
def tw11859193445694246193:=0
def tw4968753879840457983:=0
def tw13985927301545316378:=0
def tw15222527220455597325:=0
def tw4766754072779922004:=0
def tw7849818752246195655:=0
def tw584002334938205464:=0
def tw8990550705204565415:=0
def tw9400942386257433619:=0
def tw10311274616670339491:=0
def tw17693028232589585825:=0
def tw10998146664327113003:=0
def tw1088120131763682519:=0
def tw14094104954013830450:=0
def tw10834442137359631510:=0
def tw12369641649502195202:=0
def tw11098871393058984706:=0
def tw9231172195309137575:=0
def tw479268095970824492:=0
def tw15752996559595462585:=0
def tw8127006869846974568:=0
def tw1856837133256626409:=0
def tw6648683766855032821:=0
def tw469553689135720145:=0
def tw18287745040020217682:=0
def tw7993356081896671233:=0
def tw17421723669293255331:=0
def tw17846201325533736392:=0
def tw12564516327197460018:=0
def tw2053968957238361364:=0
def tw6663648186122652926:=0
def tw13065066892307479747:=0
def tw1842207842244302329:=0
def tw16429703012843979730:=0
def tw18034675123541902279:=0
def tw8571148752863787098:=0
def tw9166142536824733857:=0
def tw3739220914867079332:=0
def tw9765850142910443337:=0
def tw4204491433022455517:=0
def tw6344749735087032138:=0
def tw6036579837527403445:=0
def tw7559862489515612944:=0
def tw4775072626863011953:=0
def tw140828831770343299:=0
def tw78034325010018248:=0
def tw7852458399691013166:=0
def tw17494738496495640634:=0
def tw5033228500903929389:=0
def tw5366377327993462584:=0
def tw17683017106229875213:=0
def tw2977088999115781855:=0
def tw12393495880323579858:=0
def tw10230851085347709662:=0
def tw10281102757770200874:=0
def tw14907810330454877647:=0
def tw1675152664080765874:=0
def tw14997909660254724851:=0
def tw17234218275100898019:=0
def tw18151101545358407394:=0
def tw13107158486325223533:=0
def tw17835928947013248897:=0
def tw12520686786138776324:=0
def tw13367738605509854541:=0
def tw11074148727292572732:=0
def tw5449824263147933355:=0
def tw13300625002261476631:=0
def tw1924284234103865145:=0
def tw16159713543441748418:=0
def tw17490909568923554699:=0
def tw3452513452333958468:=0
def tw5839596154082041142:=0
def tw871638138206472436:=0
def tw13684528070164375488:=0
def tw6897089822299840593:=0
def tw8880297094562887203:=0
def tw9125750838500086170:=0
def tw14930127440957599575:=0
def tw4727731199156299470:=0
def tw9668779619859709984:=0
def tw372844578549634007:=0
def tw17541094814683938821:=0
def tw6642444909060713601:=0
def tw1620119279384213071:=0
def tw7365746111116784846:=0
def tw14272666755744392192:=0
def tw12049582061137461450:=0
def tw4923786881757497102:=0
def tw6879865395040632280:=0
def tw11443288768227846540:=0
def tw5775643118758280568:=0
def tw15136744629425880431:=0
def tw8648325501476189781:=0
def tw9039631209259957914:=0
def tw6821714505737268865:=0
def tw11779394069988123242:=0
def tw11887424620585883603:=0
def tw12351898372516301859:=0
def tw892995390499317245:=0
def tw15501388995265715929:=0
def tw6471842006789672683:=0
def tw3499455491170999909:=0
def tw1190855236528907621:=0
def tw15230209790056226832:=0
def tw10096807957997894505:=0
def tw7246120738740126449:=0
def tw4696472389570501473:=0
def tw5789374183944245306:=0
def tw3492895510072166548:=0
def tw1771206745600354889:=0
def tw1132515680558031409:=0
def tw10274865509597558766:=0
def tw2640517127666504582:=0
def tw17148993998488322056:=0
def tw8437384704182391294:=0
def tw10127118280460999797:=0
def tw6462615070181441264:=0
def tw16749986940719631533:=0
def tw8370766516115743636:=0
def tw9840137683894353922:=0
def tw16951622690695159984:=0
def tw6490462827857863957:=0
def tw6438015449792879301:=0
def tw14668032803347410008:=0
def tw8333408025562021909:=0
def tw18036446224959790005:=0
def tw8616549140820943105:=0
def tw415894694549224846:=0
def tw1156305610270978411:=0
def tw15542082054498061231:=0
def tw5126809684315641715:=0
def tw8289680531037943235:=0
def tw14823956437587219860:=0
def tw1554017471840847870:=0
def tw3037528916325301218:=0
def tw17889146999183067649:=0
def tw4428465703855292755:=0
def tw8751848631365633365:=0
def tw14636765040442203062:=0
def tw14483962334476534505:=0
def tw15265066604943490505:=0
def tw17127096656738326349:=0
def tw241311876930575191:=0
def tw6581667485945780342:=0
def tw914525381147661122:=0
def tw446630796596752168:=0
def tw16421989332821582019:=0
def tw2842803092822281470:=0
def tw8382913444354478848:=0
def tw7097595262377005896:=0
def tw10927787733038997070:=0
def tw9845623765285180219:=0
def tw18181158015135917018:=0
def tw5003933529212329287:=0
def tw12416879343487278341:=0
def tw9746159751902295375:=0
def tw6178023567321634325:=0
def tw15613407192145984552:=0
def tw12321589161336545708:=0
def tw10822073869946420743:=0
def tw4525949036707906903:=0
def tw14465281273513418708:=0
def tw11796583136196405858:=0
def tw17594429794673663948:=0
def tw17302789508913048251:=0
def tw17255109855044861463:=0
def tw1950580655066311133:=0
def tw7061856159742366584:=0
def tw13750185068444997935:=0
def tw1855377409425508894:=0
def tw12361408397066731450:=0
def tw16646345563222600975:=0
def tw3840140930357598535:=0
def tw7196474219406735951:=0
def tw16115579501888631979:=0
def tw13831721880175503309:=0
def tw3330736045587866196:=0
def tw2850749926022426780:=0
def tw11239177404189434202:=0
def tw989385257414045939:=0
def tw7828185534052275770:=0
def tw15131590053266568113:=0
def tw3854215531262290192:=0
def tw800722061635453611:=0
def tw4914874535784300494:=0
def tw10759980821249064991:=0
def tw13470969062042916273:=0
def tw6850365506808607221:=0
def tw16531883037235154718:=0
def tw2184696190313535967:=0
def tw3137387742119291992:=0
def tw12925061639565362048:=0
def tw10697683311799360953:=0
def tw3279563027175714570:=0
def tw4800930079769411394:=0
def tw2288596469486372091:=0
def tw17666195503738015240:=0
def tw12094152197952319683:=0
def tw1825844560036231799:=0
def tw16699418985643808840:=0
def tw9975459775991657910:=0
def tw13260875102837280330:=0
def tw17825275680056259071:=0
def tw2061045444208084703:=0
def tw17989251053552978324:=0
def tw6946649571054022142:=0
def tw10634132876965142295:=0
def tw10526828040155571300:=0
def tw4555553381012446517:=0
def tw12503969715959312208:=0
def tw4843996121632291399:=0
def tw8208516040252553001:=0
def tw14312072889779877961:=0
def tw15563396665270418046:=0
def tw10616043251531258552:=0
def tw13757566419263743685:=0
def tw3957591383758338576:=0
def tw2815693583517144237:=0
def tw18243960265824541147:=0
def tw14832125178832956359:=0
def tw14095117657641282850:=0
def tw16913536087654630988:=0
def tw2705270957014218675:=0
def tw145131442856760795:=0
def tw15927527891670912776:=0
def tw2519063768003636747:=0
def tw14415081590970041116:=0
def tw17775248680790589009:=0
def tw9594121006468440651:=0
def tw14805794825018737874:=0
def tw1076692940320027278:=0
def tw15178249321458626635:=0
def tw6307967503632115549:=0
def tw11752207220679023460:=0
def tw10206953934384561376:=0
def tw15269857358015329349:=0
def tw13225885367818711175:=0
def tw14467280738638366922:=0
def tw17632426636544980589:=0
def tw9504469110516102272:=0
def tw136656433347345811:=0
def tw3107259283516290806:=0
def tw4537522158099883080:=0
def tw5129804668925797374:=0
def tw6846871157463054346:=0
def tw16885625127173649428:=0
def tw6250267761299276823:=0
def tw5968336937603393423:=0
def tw18318778573118618927:=0
def tw9109522566232938632:=0
def tw6135996876319054503:=0
def tw6321181033584172805:=0
def tw11355456301000850018:=0
def tw6642708221928872952:=0
def tw14236872957932234211:=0
def tw541024459425468705:=0
def tw8473554455468944008:=0
def tw8339648944211488496:=0
def tw9395738882209338853:=0
def tw18137261002550413931:=0
def tw8601580789923609536:=0
def tw1317860595538215832:=0
def tw7839818282041657879:=0
def tw1077446139232484728:=0
def tw13475441201897304770:=0
def tw1251426927847971976:=0
def tw17325427246919686700:=0
def tw1911459896110427793:=0
def tw16346629494971085915:=0
def tw2655431863791992659:=0
def tw11670502614479933424:=0
def tw15287928023540174214:=0
def tw14655224772157994404:=0
def tw623697069238439304:=0
def tw3551061940079716911:=0
def tw17805766112020660189:=0
def tw1871506668765285991:=0
def tw12398663463804226966:=0
def tw5124025892446785806:=0
def tw1918894182254787147:=0
def tw10745373627389900108:=0
def tw10509027260842407356:=0
def tw16391521071980700169:=0
def tw13035782494913293658:=0
def tw10814514476940623353:=0
def tw15745159673238471036:=0
def tw14338364587831448703:=0
def tw1636676585323108076:=0
def tw1288325637564607464:=0
def tw3566105839542958665:=0
def tw8450645288710178990:=0
def tw17288063463777763910:=0
def tw5483930494581004170:=0
def tw6704796207259628931:=0
def tw3285550825405202783:=0
def tw1941991331542776981:=0
def tw13025387797580561000:=0
def tw4445815022399832310:=0
def tw13026949714232155583:=0
def tw18369870833685273222:=0
def tw13636010819150781440:=0
end PySem.W.Fast
open PySem PySem.W PyProof.Rows
set_option maxRecDepth 100000 in
set_option maxHeartbeats 0 in
theorem PySem.Challenge.cw_rowpipes_k74_facts_refused_holds : PySem.Challenge.rw_rowpipes_k74_facts_refused.Holds := by
 w_on;o_law;k_head;(case hw=>w_witness2)
 k_fill
 refine My.walk (l:=PySem.Challenge.rw_rowpipes_k74_facts_refused) rfl rfl (λw h Y=>PySem.W.kIn_of Y) ?F
 case F =>intro w mg fa h KX G hmg;exact My.all_mk KX G hmg
