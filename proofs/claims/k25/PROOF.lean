import PyProof.Rows.All
import Wide.All
import OpenK.AllK
import Wide.FinOn
import Lean
import PyProof.EqAt
import PyProof.EqKinds
import PyProof.TupleCall
import PyProof.NeKinds
import PyProof.SumAny
import PyProof.SetRoads
import KE.KDictList
import PySem.Challenge.RW_rowpipes_k25_loose_places
set_option Elab.async false
set_option linter.all false
set_option maxRecDepth 100000
set_option maxHeartbeats 0
set_option genSizeOf false
abbrev Z0:=PySem.Value->PySem.Shared->Prop
abbrev Z1:=List (PySem.Addr×PySem.Obj)
abbrev Z2:=PySem.Str->Option PySem.Value
abbrev Z3:=Array (Int×PySem.Value)
abbrev Z4:=Unit->PySem.Shared->Prop
abbrev Z5:=PySem.Result->PySem.Shared->Prop
abbrev Z6:=List PySem.Value
abbrev Z7:=Option PySem.Value
abbrev Z8:=List PySem.Addr
abbrev Z9:List PySem.Str:=["worker","heads"]
abbrev ZC:List PySem.Str:=["worker"]
abbrev ZD:List PySem.Str:=["_law_pot_here","_law_many_here"]
abbrev ZF:List PySem.Str:=["_law_pot_here"]
abbrev ZG:List PySem.Str:=["_law_pot_here","_law_sort"]
abbrev ZJ:List PySem.Str:=["_law_pot_here","_law_head"]
abbrev ZK:List PySem.Str:=["_law_worker_here","_law_head","_law_ends"]
abbrev ZL:List PySem.Str:=["_law_worker_here"]
abbrev ZM:List PySem.Str:=["_law_head","_law_pipe_here"]
abbrev ZP:List PySem.Str:=["_law_script","_law_k"]
abbrev ZQ:List PySem.Str:=["worker","known"]
abbrev ZR:List PySem.Str:=["_law_pot_here","_law_head","_law_word_here"]
abbrev ZS:List PySem.Str:=["cells","column_sort"]
abbrev ZV:List PySem.Str:=["self","place","why"]
abbrev ZW:List PySem.Str:=["_law_head","_law_pipe_here","_law_place","_law_flags_here","_law_found"]
abbrev WL:=@PySem.wpAny_bind
abbrev WM:=@PySem.wpAny_pure
abbrev WN:=@PySem.Heap.get?_push_of_some
abbrev WO:=@PySem.Heap.lt_size
abbrev WQ:=@PySem.Heap.get?_push_size
abbrev WR:=@Nat.le_refl
abbrev WS:=@Nat.le_trans
abbrev WT:=@decide_eq_false
abbrev WU:=@decide_eq_true
abbrev WV:=@List.length_map
abbrev WW:=@List.length_append
abbrev WX:=@List.map_append
abbrev WY:=@Nat.lt_of_le_of_lt
abbrev WZ:=@Nat.lt_of_lt_of_le
abbrev W0:=@List.getElem?_eq_getElem
abbrev W3:=@List.mem_append_right
abbrev W4:=@List.mem_of_getElem?
abbrev W5:=@List.mem_cons_of_mem
abbrev W6:=@Bool.false_ne_true
abbrev W7:=@List.size_toArray
abbrev W8:=@List.getElem?_eq_some_iff
abbrev W9:=@List.mem_singleton
abbrev W_:=@List.mem_map
abbrev Xa:=@List.mem_cons
abbrev Xb:=@Bool.eq_false_iff
abbrev Xc:=@List.mem_append
abbrev Xd:=@Nat.ne_of_lt
abbrev Xe:=@Nat.zero_le
abbrev Xf:=@Option.some.inj
abbrev Xg:=@List.getElem?_append_right
abbrev Xh:=@List.getElem?_append_left
abbrev Xi:=@List.getElem?_map
abbrev Xj:=@List.length_take
abbrev Xk:=@Array.getElem?_eq_getElem
abbrev Xl:=@PySem.wpAny_mono
abbrev Xm:=@PySem.wpAny_holding
abbrev Xn:=@PySem.wpAny_newObj_type
abbrev Xo:=@List.mem_cons_self
abbrev Xp:=@List.length_cons
abbrev Xq:=@Bool.and_eq_true
abbrev Xr:=@of_decide_eq_true
abbrev Xs:=@absurd
abbrev Xt:=@if_neg
abbrev Xu:=@if_pos
abbrev Xv:=@List.not_mem_nil
abbrev Xw:=@Or.inl
abbrev Xx:=@List.take_length
abbrev Xy:=@False.elim
abbrev Xz:=@PySem.W.mg_none_of
abbrev XA:=@PyProof.Rows.boot_tuple
abbrev XB:=@PyProof.Rows.boot_int
abbrev XC:=@List.append_nil
abbrev XD:=@PySem.wpAny_call_entry
abbrev XF:=@Nat.le_of_eq
abbrev XG:=@List.lookup_cons
abbrev XH:=@List.map_cons
abbrev XI:=@Array.length_toList
abbrev XJ:=@List.any_cons
abbrev XM:=@PySem.boot_len
abbrev XN:=@PySem.W.mg_of
abbrev XO:=PySem.W.Frag
namespace L2
open PySem PySem.Spec PyProof.Rows
abbrev Key:=Sum Int Str
def gx:Key->Value->Bool
 | .inl k,v=>Value.isInt k v
 | .inr x,v=>Value.isStrOf x v
def MO(w:World):Key->Int
 | .inl k=>hashInt k
 | .inr x=>hashStr w x
theorem bH:∀{k:Key}{v:Value},gx k v=true->(∃i t,k=Sum.inl i/\v=Value.int i t)\/(∃x t,k=Sum.inr x/\v=Value.str x t)
 | .inl i,v,h=>by obtain⟨t,e⟩:=Value.isInt_shape (k:=i) (v:=v) h;exact .inl ⟨i,t,rfl,e⟩
 | .inr x,v,h=>by obtain⟨t,e⟩:=Value.isStrOf_shape (x:=x) (v:=v) h;exact .inr ⟨x,t,rfl,e⟩
theorem mK(i:Int)(t:Tok):gx (.inl i) (.int i t)=true:=by simp[gx,Value.isInt]
theorem mF(x:Str)(t:Tok):gx (.inr x) (.str x t)=true:=by simp[gx,Value.isStrOf]
theorem Kd(a b:Int):decide ((Sum.inl a:Key)=Sum.inl b)=(a==b):=by
 by_cases e:a=b
 ·subst e;simp
 ·have h:¬(Sum.inl a:Key)=Sum.inl b:=λq=>e (Sum.inl.inj q);rw[WT h];exact(beq_eq_false_iff_ne.mpr e).symm
theorem Mc(a b:Str):decide ((Sum.inr a:Key)=Sum.inr b)=decide (a=b):=by
 by_cases e:a=b
 ·subst e;simp
 ·have h:¬(Sum.inr a:Key)=Sum.inr b:=λq=>e (Sum.inr.inj q);rw[WT h,WT e]
theorem Ka(a:Int)(b:Str):decide ((Sum.inl a:Key)=Sum.inr b)=false:=WT (λq=>nomatch q)
theorem Kp(a:Str)(b:Int):decide ((Sum.inr a:Key)=Sum.inl b)=false:=WT (λq=>nomatch q)
def bD(prog:Program)(w:World):PySem.KeyKind prog w Key where
 is:=gx
 hash:=MO w
 inj:=λv a b ha hb=>by
  rcases bH ha with⟨i,t,rfl,rfl⟩|⟨x,t,rfl,rfl⟩
  ·rcases bH hb with⟨j,u,rfl,e⟩|⟨y,u,rfl,e⟩
   ·injection e with e1 _;rw[e1]
   ·exact nomatch e
  ·rcases bH hb with⟨j,u,rfl,e⟩|⟨y,u,rfl,e⟩
   ·exact nomatch e
   ·injection e with e1 _;rw[e1]
 byValue:=λk v h=>by rcases bH h with⟨i,t,rfl,rfl⟩|⟨x,t,rfl,rfl⟩<;>rfl
 pyHash:=λhv h=>by
  rcases bH hv with⟨i,t,rfl,rfl⟩|⟨x,t,rfl,rfl⟩
  ·exact wpAny_pyHash_int h
  ·exact wpAny_pyHash_str h
 eqBool:=λhu hv h=>by
  rcases bH hu with⟨i,t,rfl,rfl⟩|⟨x,t,rfl,rfl⟩
  ·rcases bH hv with⟨j,u,rfl,rfl⟩|⟨y,u,rfl,rfl⟩
   ·rw[Kd]at h;exact wpAny_eqBool_int h
   ·rw[Ka]at h;exact SeqAt.EqAt.int_str i t y u _ _ _ _ h
  ·rcases bH hv with⟨j,u,rfl,rfl⟩|⟨y,u,rfl,rfl⟩
   ·rw[Kp]at h;exact SeqAt.EqAt.str_int x t j u _ _ _ _ h
   ·rw[Mc]at h;exact wpAny_eqBool_str h
 «strs»:=λk x t v h=>by
  rcases bH h with⟨i,u,rfl,e⟩|⟨y,u,rfl,e⟩
  ·exact nomatch e
  ·injection e with e1 _;subst e1;cases v<;>rfl
abbrev cS:=Option Key
def Ji:cS->Value->Bool
 |none,.none=>true
 |none,_=>false
 |some k,v=>gx k v
theorem vL{prog:Program}{w:World}{A:Around}{E:Z0}{s:Shared}{Q:Int->Shared->Prop}(h:Q 0xFCA86420 {s with toks:=s.toks+1}):wpAny (model prog w) A (pyHash .none) Q E s:=by
 unfold pyHash;have hv:[Value.none].any Value.onHeap=false:=rfl;refine WL ?_;rw[cRoomFor,Xt (by rw[hv];exact W6)];refine WM ?_;refine WL (wpAny_specialOf (typeIs_none s) F.slot_NoneType_hash.lookup ?_);show wpAny _ _ (if(some (Value.builtin "NoneType.__hash__")==some Value.none)=true then _ else _) Q E s;rw[Xt (by rw[beq_builtin_none];exact W6)];refine WL (wpAny_specialOf (typeIs_none s) F.slot_NoneType_hash.lookup ?_);refine WL (wpAny_callSpecialIfBoundUnlessNone?_slot (typeIs_none s) F.slot_NoneType_hash
  (XD F.slot_NoneType_hash (typeIs_none s) F.entry_NoneType_hash
   (show wpAny _ _ (do ret (←mkInt 0xFCA86420)) _ _ s from wpAny_ret_mkInt ?_) (F.args_NoneType_hash_1 _)))
 show wpAny _ _ (if(decide (-(2:Int) ^ 63<=0xFCA86420)&&decide ((0xFCA86420:Int)<2 ^ 63))=true then _ else _) Q E _;rw[Xu (by decide)];exact WM h
theorem cQ:∀{k:cS}{v:Value},Ji k v=true->(k=none/\v=.none)\/∃k',k=some k'/\gx k' v=true
 |none,.none,_=>.inl ⟨rfl,rfl⟩
 |some k,v,h=>.inr ⟨k,rfl,h⟩
theorem D_(a b:Key):decide ((some a:cS)=some b)=decide (a=b):=by
 by_cases e:a=b
 ·subst e;simp
 ·rw[WT e,WT (λq=>e (Xf q))]
theorem K4(a:Key):decide ((some a:cS)=none)=false:=WT (λq=>nomatch q)
theorem JN(a:Key):decide ((none:cS)=some a)=false:=WT (λq=>nomatch q)
def optKind(prog:Program)(w:World):PySem.KeyKind prog w cS where
 is:=Ji
 hash:=λk=>match k with|none=>0xFCA86420|some k=>MO w k
 inj:=λv a b ha hb=>by
  rcases cQ ha with⟨rfl,rfl⟩|⟨a',rfl,ha'⟩
  ·rcases cQ hb with⟨rfl,_⟩|⟨b',rfl,hb'⟩
   ·rfl
   ·rcases bH hb' with⟨j,u,_,e⟩|⟨y,u,_,e⟩<;>exact nomatch e
  ·rcases cQ hb with⟨rfl,rfl⟩|⟨b',rfl,hb'⟩
   ·rcases bH ha' with⟨j,u,_,e⟩|⟨y,u,_,e⟩<;>exact nomatch e
   ·rw[(bD prog w).inj v a' b' ha' hb']
 byValue:=λk v h=>by
  rcases cQ h with⟨rfl,rfl⟩|⟨k',rfl,h'⟩
  ·rfl
  ·exact(bD prog w).byValue k' v h'
 pyHash:=λhv h=>by
  rcases cQ hv with⟨rfl,rfl⟩|⟨k',rfl,h'⟩
  ·exact vL h
  ·exact(bD prog w).pyHash h' h
 eqBool:=λ{A E s a b u v Q} hu hv h=>by
  rcases cQ hu with⟨rfl,rfl⟩|⟨k,rfl,hk⟩
  ·rcases cQ hv with⟨rfl,rfl⟩|⟨l,rfl,hl⟩
   ·unfold eqBool;refine Xm ?_;rw[WU rfl]at h;exact wpAny_ite_split (λ_=>WL (wpAny_rule (WM h))) (λhn=>Xs rfl hn)
   ·rw[JN]at h;rcases bH hl with⟨j,u,rfl,rfl⟩|⟨y,u,rfl,rfl⟩
    ·exact SeqAt.EqAt.none_int j u _ _ _ _ h
    ·exact SeqAt.EqAt.none_str y u _ _ _ _ h
  ·rcases cQ hv with⟨rfl,rfl⟩|⟨l,rfl,hl⟩
   ·rw[K4]at h;rcases bH hk with⟨j,u,rfl,rfl⟩|⟨y,u,rfl,rfl⟩
    ·exact SeqAt.EqAt.int_none j u _ _ _ _ h
    ·exact SeqAt.EqAt.str_none y u _ _ _ _ h
   ·rw[D_]at h;exact(bD prog w).eqBool hk hl h
 «strs»:=λk x t v h=>by
  rcases cQ h with⟨_,e⟩|⟨k',rfl,h'⟩
  ·exact nomatch e
  ·exact(bD prog w).strs k' x t v h'
theorem vh(prog:Program)(w:World)(i:Int)(t:Tok):(bD prog w).is (.inl i) (.int i t)=true:=mK i t
theorem vG(prog:Program)(w:World)(x:Str)(t:Tok):(bD prog w).is (.inr x) (.str x t)=true:=mF x t
inductive V where
 |non|bl (b:Bool)|int (i:Int)|str (x:Str)|zI (b:Array UInt8)|flt (b:UInt64)|ref (a:Addr)|ty (n:String)
 deriving DecidableEq
def RelV:V->Value->Prop
 | .non,u=>u=Value.none
 | .bl b,u=>u=Value.bool b
 | .int i,u=>∃t,u=Value.int i t
 | .str x,u=>∃t,u=Value.str x t
 | .zI b,u=>∃t,u=Value.bytes b t
 | .flt b,u=>∃t,u=Value.float b t
 | .ref a,u=>u=Value.ref a
 | .ty n,u=>u=Value.type n
abbrev Vals:List V->Z6->Prop:=Paired RelV
theorem Vals.length{xs:List V}{us:Z6}(r:Vals xs us):xs.length=us.length:=Paired.length r
theorem Vals.get:∀{xs:List V}{us:Z6}{i:Nat}{x:V},Vals xs us->xs[i]? = some x->∃u,us[i]? = some u/\RelV x u
 |_,_,_,_,.nil,e=>by simp at e
 |_,_,0,_,.cons r _,e=>by simp at e;subst e;exact⟨_,rfl,r⟩
 |_,_,i+1,x,.cons _ t,e=>by obtain⟨u,h1,h2⟩:=Vals.get (i:=i) (x:=x) t (by simpa using e);exact⟨u,by simpa using h1,h2⟩
theorem Vals.set{x:V}{u:Value}(r:RelV x u):∀{xs:List V}{us:Z6}(i:Nat),Vals xs us->Vals (xs.set i x) (us.set i u)
 |_,_,_,.nil=>.nil
 |_,_,0,.cons _ t=>.cons r t
 |_,_,i+1,.cons q t=>.cons q (Vals.set r i t)
theorem Vals.append{xs ys:List V}{us ws:Z6}(h:Vals xs us)(g:Vals ys ws):Vals (xs++ys) (us++ws):=by
 induction h with
 |nil=>exact g
 |cons r t ih=>exact .cons r ih
theorem Vals.take:∀{xs:List V}{us:Z6}(n:Nat),Vals xs us->Vals (xs.take n) (us.take n)
 |_,_,0,_=>.nil
 |_,_,_+1,.nil=>.nil
 |_,_,n+1,.cons r t=>.cons r (Vals.take n t)
theorem Vals.drop:∀{xs:List V}{us:Z6}(n:Nat),Vals xs us->Vals (xs.drop n) (us.drop n)
 |_,_,0,r=>r
 |_,_,_+1,.nil=>.nil
 |_,_,n+1,.cons _ t=>Vals.drop n t
def iL:Option V->Z7->Prop
 |some v,some u=>RelV v u
 |none,none=>True
 |_,_=>False
def KV{κ:Type}:List (κ×V)->List (κ×Value)->Prop:=Paired λ(p:κ×V) (q:κ×Value)=>p.1=q.1/\RelV p.2 q.2
def kV:Key->V
 | .inl i=>.int i
 | .inr x=>.str x
def oV:cS->V
 |none=>.non
 |some k=>kV k
inductive HO where
 |lst (xs:List V)
 |tup (xs:List V)
 |dK (kvs:List (Key×V))|dT (kvs:List (List cS×V))
 |set (S:Int->Bool) (n:Nat)
 |ins (C dx:Addr) (fs:List (Str×V))
 |own (x:Addr)
 |xd (fs:List (Str×V))
 |met (f x:Addr)
 |Pr (lo hi:Int)
 |yM (o:Obj) (u:HO)
 |I_ (ps:Array Value)
 |ext (φ:Heap->Prop)
abbrev Hp:=Addr->Option HO
def upd(H:Hp)(a:Addr)(o:HO):Hp:=λb=>if b=a then some o else H b
theorem ag{H:Hp}{a:Addr}{o:HO}:upd H a o a=some o:=by unfold upd;rw[Xu rfl]
theorem aI{H:Hp}{a b:Addr}{o:HO}(h:b≠a):upd H a o b=H b:=by unfold upd;rw[Xt h]
theorem Nu{H:Hp}{a b:Addr}{o u:HO}(h:H a=some o)(h':H b=some u)(d:o≠u):a≠b:=by intro e;subst e;rw[h]at h';exact d (Xf h')
theorem aV{H:Hp}{a b:Addr}{o:HO}(h:H a=some o)(h':H b=none):a≠b:=by intro e;subst e;rw[h]at h';cases h'
def il(h:Heap)(a:Addr)(items:Array Value):Prop:=∃o,h.get? a=some o/\o.cls=.type "tuple"/\(∃n,o.data=.seq items n)/\o.dict=none
theorem il.tup{h:Heap}{a:Addr}{items:Array Value}(x:il h a items):IsTup h a items:=let ⟨o,ho,hc,hd,_⟩:=x;⟨o,ho,hc,hd⟩
theorem il.new(h:Heap)(items:Array Value):il (h.push {cls:=.type "tuple",data:=.seq items}) h.objs.size items:=⟨_,WQ _ rfl,rfl,⟨_,rfl⟩,rfl⟩
section
variable(P:Program)(w:World)
def cw(H:Hp)(h:Heap)(a:Addr):HO->Prop
 | .lst xs=>xs.length<=sizeLine/\∃(its:Z6)(n:Nat),Vals xs its/\h.get? a=some {cls:=.type "list",data:=.seq its.toArray n}
 | .tup xs=>xs.length<=sizeLine/\∃its:Z6,Vals xs its/\il h a its.toArray
 | .dK kvs=>kvs.length<=sizeLine/\(a==sysModules)=false/\∃vs,KV kvs vs/\h.DictOf (bD P w) a vs
 | .dT kvs=>kvs.length<=sizeLine/\(a==sysModules)=false/\∃xs:List (List cS×Addr×Value),
   Paired (λ(p:List cS×V) (q:List cS×Addr×Value)=>p.1=q.1/\H q.2.1=some (.tup (p.1.map oV))/\RelV p.2 q.2.2) kvs xs/\
   ∃o es ep,h.get? a=some o/\o.ExactDict/\o.data=.dict es ep/\es.toList=xs.map (entryOfKey (tupleKind (optKind P w)))/\(xs.map (·.1)).Nodup
 | .set S n=>h.SetOf (intKind P w) a S n
 | .ins C dx fs=>H dx=some (.own a)/\fs.length<=1000/\dx≠a/\h.get? a=some (PySem.W.instObj C dx)/\
   ∃mA,h.Ns1 dx mA/\(∀f,iL (fs.lookup f) (mA f))/\PySem.Within mA (fs.map (·.1))
 | .own _=>∃o,h.get? a=some o
 | .xd fs=>∃mA,h.Ns1 a mA/\∀f,iL (fs.lookup f) (mA f)
 | .Pr lo hi=>∃t u v,h.get? a=some {cls:=.type "range",data:=.fields #[.int lo t,.int hi u,.int 1 v]}
 | .yM o u=>h.get? a=some o/\cw H h a u
 | .I_ ps=>h.get? a=some {cls:=.none,data:=.fields ps}
 | .met f x=>h.get? a=some (PySem.W.methodObj (.ref f) (.ref x))
 | .ext φ=>φ h/\(∃o,h.get? a=some o)/\∀h1 h2:Heap,φ h1->(∀o,h1.get? a=some o->h2.get? a=some o)->φ h2
def jr(H:Hp)(h:Heap):Prop:=∀a o,H a=some o->cw P w H h a o
end
section
variable{P:Program}{w:World}{H H':Hp}{h h':Heap}{a:Addr}{o:HO}
theorem cw.lt(x:cw P w H h a o):a<h.objs.size:=by
 cases o with
 |lst xs=>obtain⟨_,_,_,_,e⟩:=x;exact WO e
 |tup xs=>obtain⟨_,_,_,p⟩:=x;exact p.tup.lt
 |dK kvs=>obtain⟨_,_,_,_,o,_,_,e,_⟩:=x;exact WO e
 |dT kvs=>obtain⟨_,_,_,_,o,_,_,e,_⟩:=x;exact WO e
 |set S n=>obtain⟨o,_,_,_,e,_⟩:=x;exact WO e
 |ins C dx fs=>obtain⟨_,_,_,e,_⟩:=x;exact WO e
 |own y=>obtain⟨_,e⟩:=x;exact WO e
 |xd fs=>obtain⟨_,⟨_,_,_,e,_⟩,_⟩:=x;exact WO e
 |Pr lo hi=>obtain⟨_,_,_,e⟩:=x;exact WO e
 |yM ob u=>obtain⟨e,_⟩:=x;exact WO e
 |I_ ps=>exact WO (show h.get? a=some _ from x)
 |met f y=>exact WO (show h.get? a=some _ from x)
 |ext φ=>obtain⟨_,⟨_,e⟩,_⟩:=x;exact WO e
theorem Paired.Mw{α β:Type}{F G:α->β->Prop}{l₁:List α}{l₂:List β}(h:Paired F l₁ l₂)(f:∀a b,F a b->G a b):Paired G l₁ l₂:=by
 induction h with
 |nil=>exact .nil
 |cons r t ih=>exact .cons (f _ _ r) ih
theorem cw.stay(x:cw P w H h a o)(k:∀b u,(b=a\/H b=some (.own a))->h.get? b=some u->h'.get? b=some u)
  (ho:∀b,H b=some (.own a)->H' b=some (.own a)) (ht:∀b xs,H b=some (.tup xs)->H' b=some (.tup xs)):cw P w H' h' a o:=by
 induction o with
 |lst xs=>obtain⟨z,its,n,r,e⟩:=x;exact⟨z,its,n,r,k _ _ (.inl rfl) e⟩
 |tup xs=>obtain⟨z,its,r,ob,e,c⟩:=x;exact⟨z,its,r,ob,k _ _ (.inl rfl) e,c⟩
 |dK kvs=>obtain⟨z,y,vs,r,ob,es,ep,e,c⟩:=x;exact⟨z,y,vs,r,ob,es,ep,k _ _ (.inl rfl) e,c⟩
 |dT kvs =>obtain⟨z,y,xs,r,ob,es,ep,e,c⟩:=x;exact⟨z,y,xs,Paired.Mw r λp q z=>⟨z.1,ht _ _ z.2.1,z.2.2⟩,ob,es,ep,k _ _ (.inl rfl) e,c⟩
 |set S n=>obtain⟨ob,es,ep,t,e,c⟩:=x;exact⟨ob,es,ep,t,k _ _ (.inl rfl) e,c⟩
 |ins C dx fs =>obtain⟨d,z,ne,e,mA,⟨od,es,ep,e2,c⟩,r⟩:=x;exact⟨ho _ d,z,ne,k _ _ (.inl rfl) e,mA,⟨od,es,ep,k _ _ (.inr d) e2,c⟩,r⟩
 |own y=>obtain⟨ob,e⟩:=x;exact⟨ob,k _ _ (.inl rfl) e⟩
 |xd fs=>obtain⟨mA,⟨od,es,ep,e,c⟩,r⟩:=x;exact⟨mA,⟨od,es,ep,k _ _ (.inl rfl) e,c⟩,r⟩
 |Pr lo hi=>obtain⟨t,u,v,e⟩:=x;exact⟨t,u,v,k _ _ (.inl rfl) e⟩
 |yM ob u ih=>obtain⟨e,q⟩:=x;exact⟨k _ _ (.inl rfl) e,ih q⟩
 |I_ ps =>have e:h.get? a=some {cls:=.none,data:=.fields ps}:=x;show h'.get? a=some {cls:=.none,data:=.fields ps};exact k a _ (.inl rfl) e
 |met f y =>have e:h.get? a=some (PySem.W.methodObj (.ref f) (.ref y)):=x;show h'.get? a=some (PySem.W.methodObj (.ref f) (.ref y));exact k a _ (.inl rfl) e
 |ext φ=>obtain⟨p,⟨o,e⟩,st⟩:=x;exact⟨st _ _ p λo q=>k _ _ (.inl rfl) q,⟨o,k _ _ (.inl rfl) e⟩,st⟩
theorem jr.lt(x:jr P w H h)(e:H a=some o):a<h.objs.size:=(x a o e).lt
theorem jr.fresh(x:jr P w H h)(e:h.objs.size<=a):H a=none:=by
 cases q:H a with
 |none=>rfl
 |some u=>exact Xs (WZ (x.lt q) e) (Nat.lt_irrefl _)
theorem jr.kept(x:jr P w H h)(k:∀b u,h.get? b=some u->h'.get? b=some u):jr P w H h':=λa o e =>
 (x a o e).stay (λb u _ q=>k b u q) (λ_ q=>q) λ_ _ q=>q
theorem jr.laid(x:jr P w H h)(k:∀b u,h.get? b=some u->h'.get? b=some u)(hp:h.objs.size<=a)(new:cw P w (upd H a o) h' a o):jr P w (upd H a o) h':=λb u e=>by
 have hn:=x.fresh hp;by_cases hb:b=a
 ·subst hb;rw[ag]at e;cases e;exact new
 ·rw[aI hb]at e;exact(x b u e).stay (λc v _ q=>k c v q) (λc q=>by rw[aI (aV q hn)];exact q) λc xs q=>by rw[aI (aV q hn)];exact q
end
def Rd(H:Hp)(a:Addr)(u:HO):Prop:=H a=some u\/∃o,H a=some (.yM o u)
theorem Rd.ok{P:Program}{w:World}{H:Hp}{h:Heap}{a:Addr}{u:HO}(r:Rd H a u)(x:jr P w H h):cw P w H h a u:=by
 rcases r with r|⟨o,r⟩
 ·exact x a u r
 ·obtain⟨_,q⟩:=x a _ r;exact q
def Ny:Option HO->Prop
 |some (.lst _)=>True
 |some (.dK _)=>True
 |some (.dT _)=>True
 |some (.set _ _)=>True
 |some (.ins _ _ _)=>True
 |some (.ext _)=>True
 |_=>False
section
variable{P:Program}{w:World}{H:Hp}{h h':Heap}{x e:Addr}{o':HO}
theorem jr.write(ok:jr P w H h)(mu:Ny (H x))(he:e=x\/H e=some (.own x))(k:∀b u,b≠e->h.get? b=some u->h'.get? b=some u)(heo:∃u,h'.get? e=some u)
  (new:cw P w (upd H x o') h' x o'):jr P w (upd H x o') h':=λb u q=>by
 have MQ:∀c y,H c=some (.own y)->c≠x:=λc y r z=>by subst z;rw[r]at mu;exact mu
 have Rz:∀c xs,H c=some (.tup xs)->c≠x:=λc xs r z=>by subst z;rw[r]at mu;exact mu
 by_cases hb:b=x
 ·subst hb;rw[ag]at q;cases q;exact new
 ·rw[aI hb]at q;by_cases hbe:b=e
  ·have q':H b=some (.own x):=by
    rcases he with z|z
    ·exact Xs (hbe.trans z) hb
    ·rw[hbe];exact z
   rw[q]at q';cases q';obtain⟨v,hv⟩:=heo;exact⟨v,by rw[hbe];exact hv⟩
  ·refine(ok b u q).stay (λc v hc r=>k c v ?_ r) (λc r=>by rw[aI (MQ c b r)];exact r) λc xs r=>by rw[aI (Rz c xs r)];exact r
   rcases hc with rfl|hc
   ·exact hbe
   ·rintro rfl;rcases he with z|z
    ·exact MQ c b hc z
    ·rw[hc]at z;cases z;exact hb rfl
end
structure Un(fs ex:Z8)(H H':Hp)(h h':Heap):Prop where
 keep:∀b o,h.get? b=some o->H b=none->b∉fs->b∉ex->h'.get? b=some o
 slot:∀b o,h.get? b=some o->H b=none->b∈fs->b∉ex->∃sl,h'.get? b=some {o with slots:=sl}
 free:∀b o,h.get? b=some o->H b=none->b∉ex->H' b=none
 there:∀b o,h.get? b=some o->b∉ex->∃o',h'.get? b=some o'
 tups:∀b xs,H b=some (.tup xs)->H' b=some (.tup xs)
 ow:∀b o u,H b=some (.yM o u)->H' b=some (.yM o u)
 qX:∀b ps,H b=some (.I_ ps)->∃more,H' b=some (.I_ (ps++more))
section
variable{fs fs' ex ex':Z8}{H H1 H2:Hp}{h h1 h2 h':Heap}{a x e:Addr}{o:HO}
theorem Un.any(u:Un fs ex H H1 h h1){b:Addr}{ob:Obj}(q:h.get? b=some ob)(n:H b=none)(hx:b∉ex):∃sl,h1.get? b=some {ob with slots:=sl}:=by
 by_cases hb:b∈fs
 ·exact u.slot b ob q n hb hx
 ·exact⟨ob.slots,u.keep b ob q n hb hx⟩
theorem Un.kept(k:∀b u,h.get? b=some u->h'.get? b=some u):Un fs ex H H h h' :=
 ⟨λb ob q _ _ _=>k b ob q,λb ob q _ _ _=>⟨ob.slots,k b ob q⟩,λ_ _ _ n _=>n,λb ob q _=>⟨ob,k b ob q⟩,λ_ _ q=>q,λ_ _ _ q=>q,λ_ ps q=>⟨#[],by rw[q];simp⟩⟩
theorem Un.refl:Un fs ex H H h h:=Un.kept λ_ _ q=>q
theorem Un.laid(k:∀b u,h.get? b=some u->h'.get? b=some u)(hp:h.objs.size<=a)(hn:H a=none):Un fs ex H (upd H a o) h h' where
 keep:=λb u q _ _ _=>k b u q
 slot:=λb u q _ _ _=>⟨u.slots,k b u q⟩
 free:=λb u q n _=>by rw[aI (Xd (WZ (WO q) hp))];exact n
 there:=λb u q _=>⟨u,k b u q⟩
 tups:=λb xs q=>by rw[aI (aV q hn)];exact q
 ow:=λb u xs q=>by rw[aI (aV q hn)];exact q
 qX:=λb ps q=>⟨#[],by rw[aI (aV q hn),q];simp⟩
theorem Un.write(mu:Ny (H x))(he:e=x\/H e=some (.own x))(k:∀b u,b≠e->h.get? b=some u->h'.get? b=some u)(heo:∃u,h'.get? e=some u):Un fs ex H (upd H x o) h h':=by
 have hx:∀b,H b=none->b≠x:=λb n z=>by subst z;rw[n]at mu;exact mu
 have hb:∀b,H b=none->b≠e:=λb n z=>by
  subst z;rcases he with r|r
  ·exact hx b n r
  ·rw[n]at r;cases r
 have hm:∀b u,H b=some u->¬Ny (some u)->b≠x:=λb u q nm z=>by subst z;rw[q]at mu;exact nm mu
 refine⟨λb u q n _ _=>k b u (hb b n) q,λb u q n _ _=>⟨u.slots,k b u (hb b n) q⟩,λb u q n _=>by rw[aI (hx b n)];exact n,λb u q _=>?_,
  λb xs q=>by rw[aI (hm b _ q λz=>z)];exact q,λb u xs q=>by rw[aI (hm b _ q λz=>z)];exact q,λb ps q=>⟨#[],by rw[aI (hm b _ q λz=>z),q];simp⟩⟩
 by_cases hbe:b=e
 ·subst hbe;exact heo
 ·exact⟨u,k b u hbe q⟩
end
def Pp(h:Heap)(H:Hp):Z8:=(List.range h.objs.size).filter λa=>(H a).isSome
def tX(h:Heap)(H:Hp):Heap:=PySem.W.hideAll h (Pp h H)
theorem AR(h:Heap)(H:Hp):(tX h H).objs.size=h.objs.size:=PySem.W.hideAll_size _ _
theorem Em{h:Heap}{H:Hp}{b:Addr}{o:Obj}(e:h.get? b=some o)(n:H b=none):(tX h H).get? b=some o :=
 PySem.W.hideAll_get _ e λhm=>by have q:(H b).isSome=true:=(List.mem_filter.mp hm).2;rw[n]at q;simp at q
theorem HL{h:Heap}{H:Hp}{b:Addr}{o:Obj}(e:(tX h H).get? b=some o):h.get? b=some o/\H b=none:=by
 have e':h.get? b=some o:=PySem.W.of_hideAll (Pp h H) e;refine⟨e',?_⟩;cases q:H b with
 |none=>rfl
 |some x =>have hm:b∈Pp h H:=List.mem_filter.mpr ⟨List.mem_range.mpr (WO e'),by simp[q]⟩;have z:(tX h H).get? b=none:=PySem.W.hideAll_none (Pp h H) hm;rw[z]at e;cases e
structure Mod(K:XO)(mg:Z2)(base:Heap):Prop where
 Ko:K.In base
 glob:base.Ns mainGlobals mg
 blt:∃mb,base.Ns builtinsNs mb/\∀x:Str,x≠"__name__"->mb x=bootBuiltins x
 nolimit:base.NoLimit
structure Cx where
 prog:Program
 w:World
 K:XO
 mg:Z2
 base:Heap
 A:Around
 N:List Str
 s₀:Shared
 H₀:Hp
 env:Env
 outer:List Env
 stack:List Env
 ex:Z8
 fn:Str->Bool
 calm:Bool
 pn:Z1
 xe:Z0
def frs(l:List Env):Z8:=l.filterMap (·.frame)
abbrev Cx.fs(X:Cx):Z8:=frs X.outer
def Rm(sc:Scope)(x:Str):Prop:=sc.names.lookup x=some .local\/sc.names.lookup x=some .cell\/sc.names.lookup x=some .free
def Loc(sc:Scope)(x:Str):Prop:=sc.names.lookup x=some .local\/sc.names.lookup x=some .cell
def Look(env:Env)(h:Heap)(m:Z2)(x:Str)(u:Value):Prop :=
 (env.kindOf x=some .local/\m x=some u)\/((env.kindOf x=some .cell\/env.kindOf x=some .free)/\∃c,env.cells.lookup x=some c/\h.IsCell c (some u))
structure Cx.Ok(X:Cx):Prop where
 mod:Mod X.K X.mg X.base
 kind:X.env.scope.kind=.function
 glob:X.env.globals=mainGlobals
 blt:X.env.builtins=builtinsNs
 above:X.s₀.heap.objs.size<=X.env.locals
 inj:∀x y c,X.env.cells.lookup x=some c->X.env.cells.lookup y=some c->x=y
 has:∀x,(X.env.kindOf x=some .cell\/X.env.kindOf x=some .free)->∃c,X.env.cells.lookup x=some c
 cab:∀x c,X.fn x=true->X.env.cells.lookup x=some c->X.s₀.heap.objs.size<=c
 hd:X.calm=true->X.A.handled=none
 frames:X.A.frames=some X.stack
 JZ:X.stack=X.outer\/(X.stack=X.env::X.outer/\X.env.frame=some X.env.locals)
 AU:∀b∈X.ex,b≠X.env.locals/\∀x c,X.env.cells.lookup x=some c->c≠b
 bs:∀b o,X.base.get? b=some o->X.s₀.heap.get? b=some o/\X.H₀ b=none
 Ce:X.base.objs.size<=X.s₀.heap.objs.size
 vQ:∀b o,X.base.get? b=some o->b∉X.ex
 pZ:∀b∈X.ex,b∉X.fs
 kS:X.s₀.heap.FunFrames X.base X.outer
 FL:∀b∈X.fs,X.H₀ b=none
structure Inv(X:Cx)(ac:Z1)(σ:List (Option V))(H:Hp)(s:Shared):Prop where
 ok:X.Ok
 os:s.os=X.s₀.os
 bare:AllBare s.gens
 base:Un X.fs X.ex X.H₀ H X.s₀.heap s.heap
 loc:∃m,s.heap.Ns X.env.locals m/\∀(i:Nat)(x:Str)(v:V),X.N[i]? = some x->σ[i]? = some (some v)->Rm X.env.scope x->∃u,RelV v u/\Look X.env s.heap m x u
 cell:∀x c,X.env.cells.lookup x=some c->∃v,s.heap.IsCell c v
 free:H X.env.locals=none
 gF:∀x c,X.env.cells.lookup x=some c->H c=none
 pin:∀p∈X.pn++ac,s.heap.get? p.1=some p.2/\H p.1=none/\p.1≠X.env.locals/\p.1∉X.fs/\∀v,p.2.data≠ .cell v
 hok:jr X.prog X.w H s.heap
 len:σ.length=X.N.length
section
variable{X:Cx}{ac:Z1}{σ:List (Option V)}{H H':Hp}{s:Shared}{h':Heap}
theorem Cx.Ok.Ri(ok:X.Ok){b:Addr}{o:Obj}(e:X.base.get? b=some o):b∉X.fs:=λhb=>by have:=(ok.kS.mem hb).1;rw[e]at this;cases this
theorem Inv.bs(I:Inv X ac σ H s):∀b o,X.base.get? b=some o->s.heap.get? b=some o/\H b=none:=λb o e =>
 ⟨I.base.keep b o (I.ok.bs b o e).1 (I.ok.bs b o e).2 (I.ok.Ri e) (I.ok.vQ b o e),I.base.free b o (I.ok.bs b o e).1 (I.ok.bs b o e).2 (I.ok.vQ b o e)⟩
theorem Inv.bk(I:Inv X ac σ H s):∀b o,X.base.get? b=some o->s.heap.get? b=some o:=λb o e=>(I.bs b o e).1
theorem Inv.mod(I:Inv X ac σ H s):Mod X.K X.mg X.base:=I.ok.mod
theorem Inv.j9(I:Inv X ac σ H s):X.K.In s.heap:=I.ok.mod.Ko.keeps I.bk
theorem Inv.lt(I:Inv X ac σ H s):X.env.locals<s.heap.objs.size:=let ⟨_,hn,_⟩:=I.loc;hn.lt
theorem Inv.sz(I:Inv X ac σ H s):X.s₀.heap.objs.size<=s.heap.objs.size:=WS I.ok.above (Nat.le_of_lt I.lt)
theorem Inv.RC(I:Inv X ac σ H s){a:Addr}(h:s.heap.objs.size<=a):a∉X.fs:=λhb=>by obtain⟨_,o,ho,_⟩:=I.ok.kS.mem hb;exact Xs (WZ (WO ho) (WS I.sz h)) (Nat.lt_irrefl _)
theorem Inv.Ie(I:Inv X ac σ H s):∀x c,X.env.cells.lookup x=some c->c≠X.env.locals:=λx c e z=>by obtain⟨v,o,ho,hd⟩:=I.cell x c e;obtain⟨m,⟨o',es,ep,ho',hd',_⟩,_⟩:=I.loc;rw[z,ho']at ho;cases ho;rw[hd']at hd;cases hd
theorem Inv.kS(I:Inv X ac σ H s):s.heap.FunFrames X.base X.outer:=by
 have all:∀(l:List Env),(∀b∈frs l,b∈X.fs)->X.s₀.heap.FunFrames X.base l->s.heap.FunFrames X.base l:=by
  intro l;induction l with
  |nil=>intro _ _;trivial
  |cons env r ih =>intro hs hl;obtain⟨hk,⟨L,o,hf,hn,ho,hd⟩,hr⟩:=hl;have hL:L∈X.fs:=hs L (by unfold frs;rw[List.filterMap_cons,hf];exact Xo);obtain⟨sl,e⟩:=I.base.slot L o ho (I.ok.FL L hL) hL λz=>I.ok.pZ L z hL;exact⟨hk,⟨L,_,hf,hn,e,hd⟩,ih (λb hb=>hs b (by unfold frs;rw[List.filterMap_cons,hf];exact W5 _ hb)) hr⟩
 exact all X.outer (λ_ hb=>hb) I.ok.kS
theorem Inv.stack(I:Inv X ac σ H s):s.heap.FunFrames X.base X.stack:=by
 rcases I.ok.JZ with e|⟨e,hf⟩
 ·rw[e];exact I.kS
 ·rw[e];obtain⟨m,hn,_⟩:=I.loc;refine .cons (by rw[I.ok.kind];decide) hf hn ?_ I.kS;exact Heap.get?_none_of_le (WS I.ok.Ce I.ok.above)
theorem Inv.xu(I:Inv X ac σ H s):∀b∈frs X.stack,b∈X.env.locals::X.fs:=λb hb=>by
 rcases I.ok.JZ with e|⟨e,hf⟩
 ·rw[e]at hb;exact W5 _ hb
 ·rw[e]at hb;unfold frs at hb;rw[List.filterMap_cons,hf]at hb;exact hb
theorem Inv.ot(I:Inv X ac σ H s):∀b∈frs X.stack,H b=none:=λb hb=>by
 rcases Xa.mp (I.xu b hb)with e|hb
 ·rw[e];exact I.free
 ·obtain⟨_,o,ho,_⟩:=I.ok.kS.mem hb;exact I.base.free b o ho (I.ok.FL b hb) λz=>I.ok.pZ b z hb
theorem Inv.step{g':Array GenState}{t':Nat}{d':Drawn}{ch:Z8}(I:Inv X ac σ H s)
  (hch:∀b∈ch,(b∈X.ex\/X.s₀.heap.objs.size<=b)/\b≠X.env.locals/\(∀x c,X.env.cells.lookup x=some c->c≠b)/\∀p∈X.pn++ac,p.1≠b)
  (keep:∀b o,b≠X.env.locals->b∉X.fs->b∉ch->s.heap.get? b=some o->H b=none->h'.get? b=some o)
  (slot:∀b o,b≠X.env.locals->b∈X.fs->b∉ch->s.heap.get? b=some o->H b=none->∃sl,h'.get? b=some {o with slots:=sl}) (free:∀b o,b∉ch->s.heap.get? b=some o->H b=none->H' b=none)
  (there:∀b o,b∉ch->s.heap.get? b=some o->∃o',h'.get? b=some o')
  (tups:∀b xs,H b=some (.tup xs)->H' b=some (.tup xs)) (ow:∀b o u,H b=some (.yM o u)->H' b=some (.yM o u)) (qX:∀b ps,H b=some (.I_ ps)->∃more,H' b=some (.I_ (ps++more)))
  (ns:∀m,s.heap.Ns X.env.locals m->h'.Ns X.env.locals m) (hok:jr X.prog X.w H' h') (hg:AllBare g') :
  Inv X ac σ H' {s with heap:=h',gens:=g',drawn:=d',toks:=t'}:=by
 have Nj:∀b o,X.s₀.heap.get? b=some o->b≠X.env.locals:=λb o e=>Xd (WZ (WO e) I.ok.above);have Mm:∀b o,X.s₀.heap.get? b=some o->b∉X.ex->b∉ch:=λb o e hx hb=>by
  rcases(hch b hb).1 with z|z
  ·exact hx z
  ·exact Xs (WZ (WO e) z) (Nat.lt_irrefl _)
 have cellK:∀x c,X.env.cells.lookup x=some c->∀v,s.heap.IsCell c v->h'.IsCell c v:=λx c e v ⟨o,ho,hd⟩=>by
  have Np:c∉ch:=λz=>(hch c z).2.2.1 x c e rfl;by_cases hc:c∈X.fs
  ·obtain⟨sl,q⟩:=slot c o (I.Ie x c e) hc Np ho (I.gF x c e);exact⟨_,q,hd⟩
  ·exact⟨o,keep c o (I.Ie x c e) hc Np ho (I.gF x c e),hd⟩
 refine⟨I.ok,I.os,hg,⟨λb o e n hb hx=>?_,λb o e n hb hx=>?_,λb o e n hx=>?_,λb o e hx=>?_,λb xs e=>tups b xs (I.base.tups b xs e),λb o xs e=>ow b o xs (I.base.ow b o xs e),λb ps e=>?_⟩,?_,λx c e=>?_,?_,λx c e=>?_,λp hp=>?_,hok,I.len⟩
 ·exact keep b o (Nj b o e) hb (Mm b o e hx) (I.base.keep b o e n hb hx) (I.base.free b o e n hx)
 ·obtain⟨sl,e1⟩:=I.base.slot b o e n hb hx;obtain⟨sl',e2⟩:=slot b _ (Nj b o e) hb (Mm b o e hx) e1 (I.base.free b o e n hx);exact⟨sl',e2⟩
 ·obtain⟨o',e1⟩:=I.base.there b o e hx;exact free b o' (Mm b o e hx) e1 (I.base.free b o e n hx)
 ·obtain⟨o',e1⟩:=I.base.there b o e hx;exact there b o' (Mm b o e hx) e1
 ·obtain⟨m1,e1⟩:=I.base.qX b ps e;obtain⟨m2,e2⟩:=qX b _ e1;exact⟨m1++m2,by rw[e2,Array.append_assoc]⟩
 ·obtain⟨m,hn,hl⟩:=I.loc;refine⟨m,ns m hn,λi x v e1 e2 e3=>?_⟩;obtain⟨u,r,l⟩:=hl i x v e1 e2 e3;refine⟨u,r,?_⟩;rcases l with l|⟨k,c,e,z⟩
  ·exact .inl l
  ·exact .inr ⟨k,c,e,cellK x c e _ z⟩
 ·obtain⟨v,z⟩:=I.cell x c e;exact⟨v,cellK x c e v z⟩
 ·obtain⟨m,⟨o,_,_,ho,_⟩,_⟩:=I.loc;exact free _ o (λz=>(hch _ z).2.1 rfl) ho I.free
 ·obtain⟨v,o,ho,hd⟩:=I.cell x c e;exact free c o (λz=>(hch c z).2.2.1 x c e rfl) ho (I.gF x c e)
 ·obtain⟨e,n,ne,nf,d⟩:=I.pin p hp;have Np:p.1∉ch:=λz=>(hch p.1 z).2.2.2 p hp rfl;exact⟨keep p.1 p.2 ne nf Np e n,free p.1 p.2 Np e n,ne,nf,d⟩
theorem Inv.un{t':Nat}(I:Inv X ac σ H s)(u:Un X.fs [] H H' s.heap h')(hok:jr X.prog X.w H' h'):Inv X ac σ H' {s with heap:=h',toks:=t'}:=by
 obtain⟨m,⟨o,es,ep,ho,r⟩,_⟩:=id I.loc;obtain⟨sl,hL⟩:=u.any ho I.free (by simp);exact I.step (g':=s.gens) (d':=s.drawn) (ch:=[]) (λ_ z=>nomatch z) (λb o _ hb _ e n=>u.keep b o e n hb (by simp)) (λb o _ hb _ e n=>u.slot b o e n hb (by simp)) (λb o _ e n=>u.free b o e n (by simp)) (λb o _ e=>u.there b o e (by simp)) u.tups u.ow u.qX (λm' hm=>by obtain⟨o',es',ep',ho',r'⟩:=hm;rw[ho]at ho';cases ho';exact⟨_,es',ep',hL,r'⟩) hok I.bare
theorem Inv.call{g':Array GenState}{t':Nat}{d':Drawn}{ch:Z8}(I:Inv X ac σ H s)(u:Un (frs X.stack) ch H H' s.heap h')(hok:jr X.prog X.w H' h')(hg:AllBare g')
  (hch:∀b∈ch,(b∈X.ex\/X.s₀.heap.objs.size<=b)/\b≠X.env.locals/\(∀x c,X.env.cells.lookup x=some c->c≠b)/\∀p∈X.pn++ac,p.1≠b) :
  Inv X ac σ H' {s with heap:=h',gens:=g',drawn:=d',toks:=t'}:=by
 obtain⟨m,⟨o,es,ep,ho,r⟩,_⟩:=id I.loc;obtain⟨sl,hL⟩:=u.any ho I.free λz=>(hch _ z).2.1 rfl;exact I.step (ch:=ch) hch (λb o hL hb hc e n=>u.keep b o e n (λz=>(Xa.mp (I.xu b z)).elim hL hb) hc) (λb o _ _ hc e n=>u.any e n hc) (λb o hc e n=>u.free b o e n hc) (λb o hc e=>u.there b o e hc) u.tups u.ow u.qX (λm' hm=>by obtain⟨o',es',ep',ho',r'⟩:=hm;rw[ho]at ho';cases ho';exact⟨_,es',ep',hL,r'⟩) hok hg
theorem Inv.turned{t':Nat}{it:Addr}(I:Inv X ac σ H s)(k:∀b o,b≠it->s.heap.get? b=some o->h'.get? b=some o)(hn:H it=none)(hL:it≠X.env.locals)
  (h1:it∈X.ex\/X.s₀.heap.objs.size<=it) (h2:∀x c,X.env.cells.lookup x=some c->c≠it) (h3:∀p∈X.pn++ac,p.1≠it):Inv X ac σ H {s with heap:=h',toks:=t'}:=by
 have Jz:∀b u,H b=some u->b≠it:=λb u e z=>by rw[z,hn]at e;cases e
 refine I.step (g':=s.gens) (d':=s.drawn) (ch:=[it]) (λb hb=>?_) (λb o _ _ hc e _=>k b o (λz=>hc (by simp[z])) e) (λb o _ _ hc e _=>⟨o.slots,k b o (λz=>hc (by simp[z])) e⟩) (λ_ _ _ _ n=>n)
  (λb o hc e=>⟨o,k b o (λz=>hc (by simp[z])) e⟩) (λ_ _ e=>e) (λ_ _ _ e=>e) (λb ps e=>⟨#[],by rw[e];simp⟩) (λm hm=>?_) (λb u e=>?_) I.bare
 ·have e:b=it:=by simpa using hb
  subst e;exact⟨h1,hL,h2,h3⟩
 ·obtain⟨o,es,ep,ho,r⟩:=hm;exact⟨o,es,ep,k _ o (Ne.symm hL) ho,r⟩
 ·refine(I.hok b u e).stay (λc v hc q=>k c v ?_ q) (λ_ q=>q) λ_ _ q=>q;rcases hc with z|z
  ·rw[z];exact Jz b u e
  ·exact Jz c _ z
theorem Inv.tok(I:Inv X ac σ H s)(t:Nat):Inv X ac σ H {s with toks:=t}:=I.un (h':=s.heap) (t':=t) Un.refl I.hok
theorem Inv.kept{t':Nat}(I:Inv X ac σ H s)(k:∀b u,s.heap.get? b=some u->h'.get? b=some u):Inv X ac σ H {s with heap:=h',toks:=t'}:=I.un (Un.kept k) (I.hok.kept k)
theorem Inv.laid{a:Addr}{o:HO}{t':Nat}(I:Inv X ac σ H s)(k:∀b u,s.heap.get? b=some u->h'.get? b=some u)(hp:s.heap.objs.size<=a)(new:cw X.prog X.w (upd H a o) h' a o) :
  Inv X ac σ (upd H a o) {s with heap:=h',toks:=t'}:=I.un (Un.laid k hp (I.hok.fresh hp)) (I.hok.laid k hp new)
theorem Inv.write{x e:Addr}{o:HO}{t':Nat}(I:Inv X ac σ H s)(mu:Ny (H x))(he:e=x\/H e=some (.own x))(k:∀b u,b≠e->s.heap.get? b=some u->h'.get? b=some u)(heo:∃u,h'.get? e=some u)
  (new:cw X.prog X.w (upd H x o) h' x o):Inv X ac σ (upd H x o) {s with heap:=h',toks:=t'}:=I.un (Un.write mu he k heo) (I.hok.write mu he k heo new)
theorem Inv.g_{pins':Z1}(I:Inv X ac σ H s)(h:∀p∈pins',s.heap.get? p.1=some p.2/\H p.1=none/\p.1≠X.env.locals/\p.1∉X.fs/\∀v,p.2.data≠ .cell v):Inv X pins' σ H s :=
 ⟨I.ok,I.os,I.bare,I.base,I.loc,I.cell,I.free,I.gF,λp hp=>(Xc.mp hp).elim (λz=>I.pin p (List.mem_append_left _ z)) (h p),I.hok,I.len⟩
theorem oz{N:List Str}(hN:N.Nodup){i j:Nat}{x:Str}(a:N[i]? = some x)(b:N[j]? = some x):i=j:=by obtain⟨h1,e1⟩:=W8.mp a;obtain⟨h2,e2⟩:=W8.mp b;exact(List.getElem_inj hN).mp (e1.trans e2.symm)
theorem mz{M:Model}{A:Around}{E:Z0}{i:Nat}{x:Str}{v:V}{u:Value}{Q:Z4}(I:Inv X ac σ H s)(hN:X.N.Nodup)(hi:X.N[i]? = some x)(hx:Loc X.env.scope x)(r:RelV v u)
  (h:∀s',Inv X ac (σ.set i (some v)) H s'->(∃a,Heap.SameBut a s.heap s'.heap/\(a=X.env.locals\/X.env.cells.lookup x=some a))->Q () s') (hf:X.fn x=true\/X.env.scope.names.lookup x=some .local:=by first|exact .inl rfl|exact .inr rfl|assumption):wpAny M A (storeName X.env x u) Q E s:=by
 obtain⟨m,hn,hl⟩:=id I.loc;have hcls:(X.env.scope.kind == .class||(X.env.scope.kind == .module&&X.env.locals != X.env.globals))=false:=by rw[I.ok.kind];rfl
 have EF:i<σ.length:=by rw[I.len];exact(W8.mp hi).1
 have Ie:=I.Ie;have tracked:∀{a:Addr}{h':Heap},(∃o,s.heap.get? a=some o/\H a=none)->Heap.SameBut a s.heap h'->jr X.prog X.w H h':=λ{a h'} ha hs b ob e=>by
  obtain⟨_,_,hfree⟩:=ha;refine(I.hok b ob e).stay (λc w' hc q=>(hs.2 c ?_).trans q) (λ_ q=>q) λ_ _ q=>q;rintro rfl;rcases hc with rfl|hc
  ·rw[hfree]at e;cases e
  ·rw[hfree]at hc;cases hc
 rcases hx with hk|hk
 ·refine wpAny_storeName_local hk hn (λh' hn' hs=>?_) hcls;obtain⟨oL,_,_,hoL,_⟩:=id hn;refine h _ ⟨I.ok,I.os,I.bare,⟨λb o e n hb hx=>?_,λb o e n hb hx=>?_,I.base.free,λb o e hx=>?_,I.base.tups,I.base.ow,I.base.qX⟩,⟨_,hn',λj y v' e1 e2 e3=>?_⟩,λy c e=>?_,I.free,I.gF,λp hp=>?_,tracked ⟨oL,hoL,I.free⟩ hs,by simpa using I.len⟩ ⟨_,hs,.inl rfl⟩
  ·exact(hs.2 b (Xd (WZ (WO e) I.ok.above))).trans (I.base.keep b o e n hb hx)
  ·obtain⟨sl,e1⟩:=I.base.slot b o e n hb hx;exact⟨sl,(hs.2 b (Xd (WZ (WO e) I.ok.above))).trans e1⟩
  ·obtain⟨o',e1⟩:=I.base.there b o e hx;exact⟨o',(hs.2 b (Xd (WZ (WO e) I.ok.above))).trans e1⟩
  ·by_cases hj:j=i
   ·subst hj;rw[hi]at e1;cases e1;rw[List.getElem?_set_self EF]at e2;cases e2;exact⟨u,r,.inl ⟨hk,by simp⟩⟩
   ·rw[List.getElem?_set_ne (Ne.symm hj)]at e2;obtain⟨u',r',q⟩:=hl j y v' e1 e2 e3;refine⟨u',r',?_⟩;rcases q with⟨k,e⟩|⟨k,c,e,z⟩
    ·refine .inl ⟨k,?_⟩;have:y≠x:=λe=>hj (oz hN e1 (e▸hi));simp[this,e]
    ·exact .inr ⟨k,c,e,z.sameBut hs (Ie y c e)⟩
  ·obtain⟨w',z⟩:=I.cell y c e;exact⟨w',z.sameBut hs (Ie y c e)⟩
  ·obtain⟨e,n,ne,nf,d⟩:=I.pin p hp;exact⟨(hs.2 p.1 ne).trans e,n,ne,nf,d⟩
 ·have hfn:X.fn x=true:=by
   rcases hf with z|z
   ·exact z
   ·rw[z]at hk;cases hk
  obtain⟨c,hc⟩:=I.ok.has x (.inl hk);obtain⟨w',z⟩:=I.cell x c hc;refine wpAny_storeName_cell I.ok.kind hk hc z (λh' hc' hs=>?_);obtain⟨oc,hoc,P1⟩:=id z;refine h {s with heap:=h'} ⟨I.ok,I.os,I.bare,⟨λb o e n hb hx=>?_,λb o e n hb hx=>?_,I.base.free,λb o e hx=>?_,I.base.tups,I.base.ow,I.base.qX⟩,⟨m,hn.sameBut hs (Ne.symm (Ie x c hc)),λj y v' e1 e2 e3=>?_⟩,λy c' e=>?_,I.free,I.gF,λp hp=>?_,tracked ⟨oc,hoc,I.gF x c hc⟩ hs,by simpa using I.len⟩ ⟨c,hs,.inr hc⟩
  ·exact(hs.2 b (Xd (WZ (WO e) (I.ok.cab x c hfn hc)))).trans (I.base.keep b o e n hb hx)
  ·obtain⟨sl,e1⟩:=I.base.slot b o e n hb hx;exact⟨sl,(hs.2 b (Xd (WZ (WO e) (I.ok.cab x c hfn hc)))).trans e1⟩
  ·obtain⟨o',e1⟩:=I.base.there b o e hx;exact⟨o',(hs.2 b (Xd (WZ (WO e) (I.ok.cab x c hfn hc)))).trans e1⟩
  ·by_cases hj:j=i
   ·subst hj;rw[hi]at e1;cases e1;rw[List.getElem?_set_self EF]at e2;cases e2;exact⟨u,r,.inr ⟨.inl hk,c,hc,hc'⟩⟩
   ·rw[List.getElem?_set_ne (Ne.symm hj)]at e2;obtain⟨u',r',q⟩:=hl j y v' e1 e2 e3;refine⟨u',r',?_⟩;rcases q with q|⟨k,c',e,z'⟩
    ·exact .inl q
    ·refine .inr ⟨k,c',e,z'.sameBut hs ?_⟩;rintro rfl;exact hj (oz hN e1 (I.ok.inj _ _ _ e hc▸hi))
  ·by_cases hcc:c'=c
   ·subst hcc;exact⟨_,hc'⟩
   ·obtain⟨w2,z2⟩:=I.cell y c' e;exact⟨w2,z2.sameBut hs hcc⟩
  ·obtain⟨e,n,ne,nf,d⟩:=I.pin p hp;refine⟨(hs.2 p.1 ?_).trans e,n,ne,nf,d⟩;intro q;rw[q,hoc]at e;have q':oc=p.2:=Xf e;exact d w' (by rw[←q'];exact P1)
theorem iE{M:Model}{A:Around}{E:Z0}{i:Nat}{x:Str}{v:V}{u:Value}{Q:Z4}(I:Inv X ac σ H s)(hN:X.N.Nodup)(hi:X.N[i]? = some x)(hx:Loc X.env.scope x)(r:RelV v u)
  (h:∀s',Inv X ac (σ.set i (some v)) H s'->Q () s') (hf:X.fn x=true\/X.env.scope.names.lookup x=some .local:=by first|exact .inl rfl|exact .inr rfl|assumption):wpAny M A (storeName X.env x u) Q E s :=
 mz I hN hi hx r (λs' I' _=>h s' I') hf
theorem Inv.call'{s':Shared}{ch:Z8}(I:Inv X ac σ H s)(ho:s'.os=s.os)(u:Un (frs X.stack) ch H H' s.heap s'.heap)(hok:jr X.prog X.w H' s'.heap)(hg:AllBare s'.gens)
  (hch:∀b∈ch,(b∈X.ex\/X.s₀.heap.objs.size<=b)/\b≠X.env.locals/\(∀x c,X.env.cells.lookup x=some c->c≠b)/\∀p∈X.pn++ac,p.1≠b):Inv X ac σ H' s':=by
 obtain⟨h',g',d',t',o'⟩:=s';have e:o'=s.os:=ho;subst e;exact I.call (g':=g') (t':=t') (d':=d') u hok hg hch
end
abbrev XK:=Value->Option Addr->Hp->Prop
abbrev St:=List (Option V)
abbrev VK:=V->Hp->Prop
abbrev TE:=St->Hp->VK->Prop
abbrev TT:=St->Hp->(Bool->Hp->Prop)->Prop
abbrev TA:=St->Hp->(List V->Hp->Prop)->Prop
structure Ends where
 nx:St->Hp->Prop
 rt:VK
 bk:St->Hp->Prop:=λ_ _=>False
 ct:St->Hp->Prop:=λ_ _=>False
abbrev TS:=Ends->St->Hp->Prop
def EP(X:Cx)(ac:Z1)(σ:St)(Q:VK)(u:Value)(s':Shared):Prop:=∃v H',Inv X ac σ H' s'/\RelV v u/\Q v H'
def TP(X:Cx)(ac:Z1)(σ:St)(Q:Bool->Hp->Prop)(b:Bool)(s':Shared):Prop:=∃H',Inv X ac σ H' s'/\Q b H'
def AP(X:Cx)(ac:Z1)(σ:St)(Q:List V->Hp->Prop)(us:Z6)(s':Shared):Prop:=∃vs H',Inv X ac σ H' s'/\Vals vs us/\Q vs H'
def SP(X:Cx)(ac:Z1)(D:Ends)(f:Flow)(s':Shared):Prop :=
 match f with
 | .next=>∃σ' H',Inv X ac σ' H' s'/\D.nx σ' H'
 | .brk=>∃σ' H',Inv X ac σ' H' s'/\D.bk σ' H'
 | .cont=>∃σ' H',Inv X ac σ' H' s'/\D.ct σ' H'
 | .ret u=>∃v σ' H',Inv X ac σ' H' s'/\RelV v u/\D.rt v H'
def PE(X:Cx)(e:Expr)(t:TE):Prop :=
 ∀(ac:Z1)(s:Shared)(σ:St)(H:Hp)(Q:VK),Inv X ac σ H s->t σ H Q->wpAny (model X.prog X.w) X.A (eval e X.env) (EP X ac σ Q) X.xe s
def PT(X:Cx)(e:Expr)(t:TT):Prop :=
 ∀(ac:Z1)(s:Shared)(σ:St)(H:Hp)(Q:Bool->Hp->Prop),Inv X ac σ H s->t σ H Q->wpAny (model X.prog X.w) X.A (isTrue e X.env (eval e X.env)) (TP X ac σ Q) X.xe s
def PW(X:Cx)(e:Expr)(t:TT):Prop :=
 ∀(whole:Sem Value)(ac:Z1)(s:Shared)(σ:St)(H:Hp)(Q:Bool->Hp->Prop),Inv X ac σ H s->t σ H Q->wpAny (model X.prog X.w) X.A (isTrue e X.env whole) (TP X ac σ Q) X.xe s
theorem PW.pt{X:Cx}{e:Expr}{t:TT}(h:PW X e t):PT X e t:=h _
def PA(X:Cx)(es:List Expr)(t:TA):Prop :=
 ∀(pos:Pos)(ac:Z1)(s:Shared)(σ:St)(H:Hp)(Q:List V->Hp->Prop),Inv X ac σ H s->t σ H Q->wpAny (model X.prog X.w) X.A (spliced (backTo pos (starEach es X.env))) (AP X ac σ Q) X.xe s
def PS(X:Cx)(st:Stmt)(t:TS):Prop :=
 ∀(ac:Z1)(s:Shared)(σ:St)(H:Hp)(D:Ends),Inv X ac σ H s->t D σ H->wpAny (model X.prog X.w) X.A (exec st X.env) (SP X ac D) X.xe s
def oE(X:Cx)(st:List Stmt)(t:TS):Prop :=
 ∀(ac:Z1)(s:Shared)(σ:St)(H:Hp)(D:Ends),Inv X ac σ H s->t D σ H->wpAny (model X.prog X.w) X.A (execs st X.env) (SP X ac D) X.xe s
theorem bZ{α:Type}{t:Sem α}{Q Q':α->Shared->Prop}{M:Model}{A:Around}{E:Z0}{s:Shared}(h:wpAny M A t Q E s)(hQ:∀a s,Q a s->Q' a s):wpAny M A t Q' E s:=Xl h hQ λ_ _ x=>x
section
variable{X:Cx}
def bB(i:Nat):TE:=λσ H Q=>∃v,σ[i]? = some (some v)/\Q v H
def tC(v:V):TE:=λ_ H Q=>Q v H
theorem yz{i:Nat}{x:Str}{pos:Pos}(hN:X.N[i]? = some x)(hv:Rm X.env.scope x)(hd:(x==("__debug__" : Str))=false:=by decide)(hcd:(x==("__classdict__" : Str))=false:=by decide):PE X (.Name x pos) (bB i):=by
 intro ac s σ H Q I h;obtain⟨v,e,h⟩:=h;obtain⟨m,hn,hl⟩:=I.loc;obtain⟨u,r,l⟩:=hl i x v hN e hv;have fin:EP X ac σ Q u s:=⟨v,H,I,r,h⟩;rcases l with⟨hk,hm⟩|⟨hk,c,hc,hcell⟩
 ·exact wpAny_Name (wpAny_loadName_local I.ok.kind hk hn hm fin) hd
 ·rcases hk with hk|hk
  ·exact wpAny_Name (wpAny_loadName_cell I.ok.kind hk hc hcell fin) hd
  ·exact wpAny_Name (wpAny_loadName_free I.ok.kind hk hc hcell fin hcd) hd
theorem ai{i j pos}:PE X (.Constant (.int i) j pos) (tC (.int i)):=λ_ _ _ H _ I h=>wpAny_Constant_int ⟨.int i,H,I.tok _,⟨_,rfl⟩,h⟩
theorem eA{b j pos}:PE X (.Constant (.bool b) j pos) (tC (.bl b)):=λ_ _ _ H _ I h=>Constant_bool ⟨.bl b,H,I,rfl,h⟩
theorem jg{j pos}:PE X (.Constant .none j pos) (tC .non):=λ_ _ _ H _ I h=>Constant_none ⟨.non,H,I,rfl,h⟩
theorem ao{x j pos}:PE X (.Constant (.str x) j pos) (tC (.str x)):=λ_ _ _ H _ I h=>Calls.Constant_str ⟨.str x,H,I.tok _,⟨_,rfl⟩,h⟩
def Gl(X:Cx)(x:Str):Prop:=X.env.kindOf x=some .globalImplicit
theorem l0{E:Z0}{ac:Z1}{s:Shared}{σ:St}{H:Hp}{x:Str}{u:Value}{pos:Pos}{Q:Z0}(I:Inv X ac σ H s)(hg:Gl X x)(hm:X.mg x=some u)(h:Q u s)
  (hd:(x==("__debug__" : Str))=false:=by decide):wpAny (model X.prog X.w) X.A (eval (.Name x pos) X.env) Q E s :=
 Calls.Name_function_global I.ok.kind hg (Calls.loadGlobal_global (by rw[I.ok.glob];exact I.mod.glob.keeps I.bk) hm h) hd
theorem iR{E:Z0}{ac:Z1}{s:Shared}{σ:St}{H:Hp}{x:Str}{u:Value}{pos:Pos}{Q:Z0}(I:Inv X ac σ H s)(hg:Gl X x)(hm:X.mg x=none)(hv:bootBuiltins x=some u)(h:Q u s)
  (hn:x≠"__name__":=by decide) (hd:(x==("__debug__" : Str))=false:=by decide):wpAny (model X.prog X.w) X.A (eval (.Name x pos) X.env) Q E s:=by
 obtain⟨mb,h1,h2⟩:=I.mod.blt;exact Calls.Name_function_global I.ok.kind hg (Calls.loadGlobal_builtin (by rw[I.ok.glob];exact I.mod.glob.keeps I.bk) hm (by rw[I.ok.blt];exact h1.keeps I.bk) ((h2 x hn).trans hv) h) hd
theorem cT{x:Str}{v:V}{u:Value}{pos:Pos}(hg:Gl X x)(hm:X.mg x=some u)(r:RelV v u)(hd:(x==("__debug__" : Str))=false:=by decide):PE X (.Name x pos) (tC v) :=
 λ_ _ _ H _ I h=>l0 I hg hm ⟨v,H,I,r,h⟩ hd
theorem HE{x:Str}{v:V}{u:Value}{pos:Pos}(hg:Gl X x)(hm:X.mg x=none)(hv:bootBuiltins x=some u)(r:RelV v u)(hn:x≠"__name__":=by decide)(hd:(x==("__debug__" : Str))=false:=by decide):PE X (.Name x pos) (tC v) :=
 λ_ _ _ H _ I h=>iR I hg hm hv ⟨v,H,I,r,h⟩ hn hd
variable{a b:Expr}{ta tb:TE}{pos:Pos}
def tB(t:TE):TT:=λσ H Q=>t σ H λx H1=>∃c,x=.bl c/\Q c H1
theorem e_{e:Expr}{t:TE}(h:PE X e t)(he:∀whole,isTrue e X.env whole=(do let v←whole;standAt e.pos;holding [v] (truthy v)):=by intro _;rfl):PT X e (tB t):=by intro ac s σ H Q I hw;refine isTrue_plain (bZ (h ac s σ H _ I hw) λv s1 zz=>?_) (he _);obtain⟨x,H1,I1,r1,q1⟩:=zz;obtain⟨d,rfl,q⟩:=q1;cases r1;exact wpAny_truthy_bool ⟨H1,I1,q⟩
variable{tA OW:TT}{rest:List Expr}
def M1(t u:TT):TT:=λσ H Q=>t σ H λc H1=>if c=true then u σ H1 Q else Q false H1
def UP(t u:TT):TT:=λσ H Q=>t σ H λc H1=>if c=true then Q true H1 else u σ H1 Q
def QA(t:TT):TT:=λσ H Q=>t σ H λc H1=>Q (!c) H1
theorem jZ(ha:PT X a tA):PW X (.BoolOp .And [a] pos) tA:=by
 intro wh ac s σ H Q I h;refine isTrue_and (bZ (ha ac s σ H Q I h) λc s1 e=>?_);cases c with
 |true=>exact isTrue_and_nil e
 |false=>exact e
theorem KG(ha:PT X a tA):PW X (.BoolOp .Or [a] pos) tA:=by
 intro wh ac s σ H Q I h;refine isTrue_or (bZ (ha ac s σ H Q I h) λc s1 e=>?_);cases c with
 |false=>exact isTrue_or_nil e
 |true=>exact e
theorem mM(ha:PT X a tA)(hb:PW X (.BoolOp .And (b::rest) pos) OW):PW X (.BoolOp .And (a::b::rest) pos) (M1 tA OW):=by
 intro wh ac s σ H Q I h;refine isTrue_and (bZ (ha ac s σ H _ I h) λc s1 zz=>?_);obtain⟨H1,I1,q1⟩:=zz;cases c with
 |true=>exact hb wh ac s1 σ H1 Q I1 q1
 |false=>exact⟨H1,I1,q1⟩
theorem NY(ha:PT X a tA)(hb:PW X (.BoolOp .Or (b::rest) pos) OW):PW X (.BoolOp .Or (a::b::rest) pos) (UP tA OW):=by
 intro wh ac s σ H Q I h;refine isTrue_or (bZ (ha ac s σ H _ I h) λc s1 zz=>?_);obtain⟨H1,I1,q1⟩:=zz;cases c with
 |true=>exact⟨H1,I1,q1⟩
 |false=>exact hb wh ac s1 σ H1 Q I1 q1
theorem uP(ha:PT X a tA):PT X (.UnaryOp .Not a pos) (QA tA):=by intro ac s σ H Q I h;exact isTrue_not (ha ac s σ H (λc H1=>Q (!c) H1) I h)
def IX(ta tb:TE):TE:=λσ H Q=>ta σ H λx H1=>∃c,x=.bl c/\if c=true then tb σ H1 Q else Q (.bl false) H1
def vc(ta tb:TE):TE:=λσ H Q=>ta σ H λx H1=>∃c,x=.bl c/\if c=true then Q (.bl true) H1 else tb σ H1 Q
def JJ(ta:TE):TE:=λσ H Q=>ta σ H λx H1=>∃c,x=.bl c/\Q (.bl (!c)) H1
theorem c9{op}{t:TE}(h:PE X a t):PE X (.BoolOp op [a] pos) t:=λac s σ H Q I hw=>BoolOp_one (h ac s σ H Q I hw)
theorem qF(ha:PE X a ta)(hb:PE X (.BoolOp .And (b::rest) pos) tb):PE X (.BoolOp .And (a::b::rest) pos) (IX ta tb):=by
 intro ac s σ H Q I h;refine BoolOp_and (bZ (ha ac s σ H _ I h) λv s1 zz=>?_);obtain⟨x,H1,I1,r1,q1⟩:=zz;obtain⟨c,rfl,q1⟩:=q1;cases r1;refine wpAny_truthy_bool ?_;cases c with
 |true=>exact hb ac s1 σ H1 Q I1 q1
 |false=>exact⟨.bl false,H1,I1,rfl,q1⟩
theorem gm(ha:PE X a ta)(hb:PE X (.BoolOp .Or (b::rest) pos) tb):PE X (.BoolOp .Or (a::b::rest) pos) (vc ta tb):=by
 intro ac s σ H Q I h;refine BoolOp_or (bZ (ha ac s σ H _ I h) λv s1 zz=>?_);obtain⟨x,H1,I1,r1,q1⟩:=zz;obtain⟨c,rfl,q1⟩:=q1;cases r1;refine wpAny_truthy_bool ?_;cases c with
 |false=>exact hb ac s1 σ H1 Q I1 q1
 |true=>exact⟨.bl true,H1,I1,rfl,q1⟩
theorem Lh(ha:PE X a ta):PE X (.UnaryOp .Not a pos) (JJ ta):=by intro ac s σ H Q I h;refine UnaryOp_ (bZ (ha ac s σ H _ I h) λv s1 zz=>?_);obtain⟨x,H1,I1,r1,q1⟩:=zz;obtain⟨c,rfl,q1⟩:=q1;cases r1;exact not_of (wpAny_truthy_bool ⟨.bl (!c),H1,I1,rfl,q1⟩)
def Sy(t:TT)(ta tb:TE):TE:=λσ H Q=>t σ H λc H1=>if c=true then ta σ H1 Q else tb σ H1 Q
theorem eP{c:Expr}(hc:PT X c tA)(ha:PE X a ta)(hb:PE X b tb):PE X (.IfExp c a b pos) (Sy tA ta tb):=by
 intro ac s σ H Q I h;refine wpAny_IfExp (bZ (hc ac s σ H _ I h) λd s1 zz=>?_);obtain⟨H1,I1,q1⟩:=zz;cases d with
 |true=>exact ha ac s1 σ H1 Q I1 q1
 |false=>exact hb ac s1 σ H1 Q I1 q1
end
def aZ(K:XO)(H:Hp)(a:Addr)(xs:List V):Prop :=
 Rd H a (.lst xs)\/
  ∃(o:Obj)(its:Array Value)(n:Nat),K.lookup a=some o/\o.cls=.type "list"/\o.dict=none/\o.data=.seq its n/\its.size<=sizeLine/\Vals xs its.toList
def aJ(K:XO)(H:Hp)(a:Addr)(xs:List V):Prop :=
 Rd H a (.tup xs)\/
  ∃(o:Obj)(its:Array Value)(n:Nat),K.lookup a=some o/\o.cls=.type "tuple"/\o.data=.seq its n/\its.size<=sizeLine/\Vals xs its.toList
def QI:Value->Option V
 | .none=>some .non
 | .bool b=>some (.bl b)
 | .int i _=>some (.int i)
 | .str x _=>some (.str x)
 | .bytes b _=>some (.zI b)
 | .float b _=>some (.flt b)
 | .ref a=>some (.ref a)
 | .type n=>some (.ty n)
 |_=>none
theorem RelV.abs{x:V}{u:Value}(r:RelV x u):QI u=some x:=by
 cases x with
 |non=>cases r;rfl
 |bl _=>cases r;rfl
 |int _=>obtain⟨t,rfl⟩:=r;rfl
 |str _=>obtain⟨t,rfl⟩:=r;rfl
 |zI _=>obtain⟨t,rfl⟩:=r;rfl
 |flt _=>obtain⟨t,rfl⟩:=r;rfl
 |ref _=>cases r;rfl
 |ty _=>cases r;rfl
theorem RelV.inj{x y:V}{u:Value}(r:RelV x u)(q:RelV y u):x=y:=Xf (r.abs.symm.trans q.abs)
theorem Vals.inj{xs ys:List V}{us:Z6}(h:Vals xs us)(g:Vals ys us):xs=ys:=by
 induction h generalizing ys with
 |nil=>cases g;rfl
 |cons r t ih=>cases g with
  |cons r' t'=>rw[r.inj r',ih t']
section
variable{X:Cx}{ac:Z1}{σ:St}{H:Hp}{s:Shared}{a:Addr}{xs ys:List V}
theorem aZ.of{K:XO}(h:H a=some (.lst xs)):aZ K H a xs:=.inl (.inl h)
theorem aJ.of{K:XO}(h:H a=some (.tup xs)):aJ K H a xs:=.inl (.inl h)
theorem Inv.list(I:Inv X ac σ H s)(h:aZ X.K H a xs):∃its:Z6,Vals xs its/\PlainL s.heap a its.toArray/\xs.length<=sizeLine:=by
 rcases h with h|⟨o,its,n,hk,hc,hd,hs,hz,r⟩
 ·obtain⟨z,its,n,r,e⟩:=h.ok I.hok;exact⟨its,r,⟨_,n,e,rfl,rfl,rfl⟩,z⟩
 ·refine⟨its.toList,r,⟨o,n,I.j9 a o hk,hc,hd,by simpa using hs⟩,?_⟩;have e:=r.length;simp only[XI]at e;omega
theorem Inv.tuple(I:Inv X ac σ H s)(h:aJ X.K H a xs):∃its:Z6,Vals xs its/\IsTup s.heap a its.toArray/\xs.length<=sizeLine:=by
 rcases h with h|⟨o,its,n,hk,hc,hs,hz,r⟩
 ·obtain⟨z,its,r,p⟩:=h.ok I.hok;exact⟨its,r,p.tup,z⟩
 ·refine⟨its.toList,r,⟨o,I.j9 a o hk,hc,n,by simpa using hs⟩,?_⟩;have e:=r.length;simp only[XI]at e;omega
theorem Inv.DA(I:Inv X ac σ H s)(h:aZ X.K H a xs)(h':aZ X.K H a ys):xs=ys:=by
 obtain⟨its,r,⟨o,n,e,_,_,d⟩,_⟩:=I.list h;obtain⟨its',r',⟨o',n',e',_,_,d'⟩,_⟩:=I.list h';rw[e]at e';cases e';rw[d]at d';injection d' with d1 _;have:its=its':=by simpa using congrArg Array.toList d1
 subst this;exact r.inj r'
theorem Inv.iB(I:Inv X ac σ H s)(h:aJ X.K H a xs)(h':aJ X.K H a ys):xs=ys:=by
 obtain⟨its,r,⟨o,e,_,n,d⟩,_⟩:=I.tuple h;obtain⟨its',r',⟨o',e',_,n',d'⟩,_⟩:=I.tuple h';rw[e]at e';cases e';rw[d]at d';injection d' with d1 _;have:its=its':=by simpa using congrArg Array.toList d1
 subst this;exact r.inj r'
end
abbrev Cx.wish(X:Cx)(E:Z0):Cx:={X with xe:=E}
abbrev Cx.zy(X:Cx):Cx:=X.wish λ_ _=>False
theorem Cx.Ok.wish{X:Cx}(ok:X.Ok)(E:Z0):(X.wish E).Ok :=
 ⟨ok.mod,ok.kind,ok.glob,ok.blt,ok.above,ok.inj,ok.has,ok.cab,ok.hd,ok.frames,ok.JZ,ok.AU,ok.bs,ok.Ce,ok.vQ,ok.pZ,ok.kS,ok.FL⟩
theorem Cx.Ok.dc{X:Cx}{E:Z0}(ok:(X.wish E).Ok):X.Ok :=
 ⟨ok.mod,ok.kind,ok.glob,ok.blt,ok.above,ok.inj,ok.has,ok.cab,ok.hd,ok.frames,ok.JZ,ok.AU,ok.bs,ok.Ce,ok.vQ,ok.pZ,ok.kS,ok.FL⟩
section
variable{X:Cx}{ac:Z1}{σ:St}{H:Hp}{s:Shared}{E:Z0}
theorem Inv.wish(I:Inv X ac σ H s)(E:Z0):Inv (X.wish E) ac σ H s:=⟨I.ok.wish E,I.os,I.bare,I.base,I.loc,I.cell,I.free,I.gF,I.pin,I.hok,I.len⟩
theorem Inv.dc(I:Inv (X.wish E) ac σ H s):Inv X ac σ H s:=⟨I.ok.dc,I.os,I.bare,I.base,I.loc,I.cell,I.free,I.gF,I.pin,I.hok,I.len⟩
theorem SP.dc{D:Ends}{f:Flow}{s':Shared}(h:SP (X.wish E) ac D f s'):SP X ac D f s':=by
 cases f with
 |next=>obtain⟨σ',H',I,q⟩:=h;exact⟨σ',H',I.dc,q⟩
 |brk=>obtain⟨σ',H',I,q⟩:=h;exact⟨σ',H',I.dc,q⟩
 |cont=>obtain⟨σ',H',I,q⟩:=h;exact⟨σ',H',I.dc,q⟩
 |ret u=>obtain⟨v,σ',H',I,r,q⟩:=h;exact⟨v,σ',H',I.dc,r,q⟩
theorem PE.zy{e:Expr}{t:TE}(h:PE X.zy e t):PE X e t:=λac s σ H Q I hw =>
 Xl (h ac s σ H Q (I.wish _) hw) (λ_ _ ⟨v,H',I',r,q⟩=>⟨v,H',I'.dc,r,q⟩) λ_ _ z=>Xy z
theorem oE.zy{st:List Stmt}{t:TS}(h:oE X.zy st t):oE X st t:=λac s σ H D I hw =>
 Xl (h ac s σ H D (I.wish _) hw) (λ_ _ q=>q.dc) λ_ _ z=>Xy z
end
section
variable{X:Cx}{st:Stmt}{rest:List Stmt}{t u:TS}{e:Expr}{te:TE}{pos:Pos}
def C3:TS:=λD σ H=>D.nx σ H
def F2(t u:TS):TS:=λD σ H=>t {D with nx:=u D} σ H
theorem bU:oE X [] C3:=λ_ _ σ H _ I h=>wpAny_execs_nil ⟨σ,H,I,h⟩
theorem aq(h1:PS X st t)(h2:oE X rest u):oE X (st::rest) (F2 t u):=by
 intro ac s σ H D I h;refine wpAny_execs_cons (bZ (h1 ac s σ H {D with nx:=u D} I h) λf s1 q=>?_);cases f with
 |next =>obtain⟨σ',H',I',q⟩:=q;exact h2 ac s1 σ' H' D I' q
 |ret v=>exact q
 |brk=>exact q
 |cont=>exact q
theorem bA(h1:PS X st t):oE X [st] t:=by
 intro ac s σ H D I h;refine wpAny_execs_cons (bZ (h1 ac s σ H D I h) λf s1 q=>?_);cases f with
 |next=>exact wpAny_execs_nil q
 |ret v=>exact q
 |brk=>exact q
 |cont=>exact q
theorem Inv.quiet{ac:Z1}{σ:St}{H:Hp}{s:Shared}(I:Inv X ac σ H s):interactive X.env=false:=by simp[interactive,I.ok.kind]
def Mx(te:TE):TS:=λD σ H=>te σ H λ_ H1=>D.nx σ H1
theorem fY(he:PE X e te)(hs:swapsWith e none pos.line X.env=pure false:=by rfl):PS X (.Expr e pos) (Mx te):=by intro ac s σ H D I h;exact wpAny_Expr_any (bZ (he ac s σ H _ I h) λv s1 ⟨x,H1,I1,r1,q1⟩=>⟨σ,H1,I1,q1⟩) I.quiet hs
def CT(te:TE):TS:=λD σ H=>te σ H D.rt
theorem CD(he:PE X e te):PS X (.Return (some e) pos) (CT te):=by intro ac s σ H D I h;exact wpAny_Return_some (bZ (he ac s σ H _ I h) λv s1 ⟨x,H1,I1,r1,q1⟩=>⟨x,σ,H1,I1,r1,q1⟩)
def MF(c:TT)(t u:TS):TS:=λD σ H=>c σ H λb H1=>if b=true then t D σ H1 else u D σ H1
theorem dg{c:Expr}{a b:List Stmt}{tc:TT}(hc:PT X c tc)(ha:oE X a t)(hb:oE X b u):PS X (.If c a b pos) (MF tc t u):=by
 intro ac s σ H D I h;refine wpAny_If (bZ (hc ac s σ H _ I h) λd s1 zz=>?_);obtain⟨H1,I1,q1⟩:=zz;cases d with
 |true=>exact ha ac s1 σ H1 D I1 q1
 |false=>exact hb ac s1 σ H1 D I1 q1
end
abbrev TG:=V->St->Hp->(St->Hp->Prop)->Prop
abbrev JV:=List V->St->Hp->(St->Hp->Prop)->Prop
def PG(X:Cx)(target:Expr)(t:TG):Prop :=
 ∀(ac:Z1)(s:Shared)(σ:St)(H:Hp)(v:V)(u:Value)(Q:St->Hp->Prop),Inv X ac σ H s->RelV v u->t v σ H Q->
  wpAny (model X.prog X.w) X.A (assign target X.env u) (λ_ s'=>∃σ' H',Inv X ac σ' H' s'/\Q σ' H') X.xe s
def OP(X:Cx)(ts:List Expr)(t:JV):Prop :=
 ∀(ac:Z1)(s:Shared)(σ:St)(H:Hp)(vs:List V)(us:Z6)(Q:St->Hp->Prop),Inv X ac σ H s->Vals vs us->t vs σ H Q->
  wpAny (model X.prog X.w) X.A (assignInOrder ((assignEach ts X.env).map (·.2)) us) (λ_ s'=>∃σ' H',Inv X ac σ' H' s'/\Q σ' H') X.xe s
abbrev LO:=V->V->V->Hp->(Hp->Prop)->Prop
def Nv(X:Cx)(t:LO):Prop :=
 ∀(ac:Z1)(s:Shared)(σ:St)(H:Hp)(o i v:V)(ov iv u:Value)(Q:Hp->Prop),Inv X ac σ H s->RelV o ov->RelV i iv->RelV v u->t o i v H Q->
  wpAny (model X.prog X.w) X.A (setItem ov iv u) (λ_ s'=>∃H',Inv X ac σ H' s'/\Q H') X.xe s
section
variable{X:Cx}{pos:Pos}
def bC(i:Nat):TG:=λv σ H Q=>Q (σ.set i (some v)) H
theorem bJ{i:Nat}{x:Str}(hN:X.N.Nodup)(hi:X.N[i]? = some x)(hx:Loc X.env.scope x)(hf:X.fn x=true\/X.env.scope.names.lookup x=some .local:=by first|exact .inl rfl|exact .inr rfl|assumption):PG X (.Name x pos) (bC i):=by intro ac s σ H v u Q I r h;exact wpAny_assign_Name (iE I hN hi hx r (λs' I'=>⟨_,H,I',h⟩) hf)
def i5:JV:=λvs σ H Q=>vs=[]/\Q σ H
def bS(t:TG)(u:JV):JV:=λvs σ H Q=>∃v r,vs=v::r/\t v σ H λσ' H'=>u r σ' H' Q
theorem bT:OP X [] i5:=by intro ac s σ H vs us Q I r h;obtain⟨e,h⟩:=h;subst e;cases r;exact assignInOrder_nil ⟨σ,H,I,h⟩
theorem aA{e:Expr}{es:List Expr}{t:TG}{u:JV}(h1:PG X e t)(h2:OP X es u)
  (hs:(assignEach (e::es) X.env).map (·.2)=assign e X.env::(assignEach es X.env).map (·.2):=by rfl):OP X (e::es) (bS t u):=by
 intro ac s σ H vs us Q I r h;obtain⟨v,vr,e1,h⟩:=h;subst e1;cases r with
 |cons r rr =>rw[hs];refine assignInOrder_cons (bZ (h1 ac s σ H _ _ _ I r h) λ_ s1 zz=>?_);obtain⟨FQ,H1,I1,q1⟩:=zz;exact h2 ac s1 FQ H1 _ _ Q I1 rr q1
def ja(K:XO)(n:Nat)(t:JV):TG:=λv σ H Q=>∃a xs,v=.ref a/\aJ K H a xs/\xs.length=n/\t xs σ H Q
theorem cA{es:List Expr}{k:Nat}{t:JV}{n:Nat}(hc:X.calm=true)(h:OP X es t)
  (hn:(assignEach es X.env).length=n:=by rfl) (hst:(assignEach es X.env).findIdx? (·.1)=none:=by rfl):PG X (.Tuple es k pos) (ja X.K n t):=by
 intro ac s σ H v u Q I r hw;obtain⟨a,xs,e1,hq,hl,hw⟩:=hw;subst e1;cases r;obtain⟨its,rv,ht,hz⟩:=I.tuple hq;refine assign_Tuple_tuple (I.ok.hd hc) ht (by simp[hn,←hl,rv.length]) hst λh' hx=>?_;have I1:Inv X ac σ H {s with heap:=h'}:=I.kept (t':=s.toks) λb o e=>hx b o (Xd (WO e)) e;exact h ac _ σ H xs _ Q I1 (by simpa using rv) hw
def QY(to ti:TE)(t:LO):TG:=λv σ H Q=>to σ H λo H1=>ti σ H1 λi H2=>t o i v H2 λH3=>Q σ H3
theorem DV{o i:Expr}{to ti:TE}{t:LO}(ho:PE X o to)(hi:PE X i ti)(hs:Nv X t)
  (ha:∀v,assign (.Subscript o i pos) X.env v=(do
   let ov←holding [v] (eval o X.env)
   let iv←holding [v,ov] (eval i X.env)
   standAt pos
   holding [v,ov,iv] (setItem ov iv v)
   release [v,ov,iv] []):=by intro _;rfl):PG X (.Subscript o i pos) (QY to ti t):=by
 intro ac s σ H v u Q I r h;rw[ha];refine WL (Xm (bZ (ho ac s σ H _ I h) λov s1 zz=>?_));obtain⟨x,H1,I1,r1,q1⟩:=zz;refine WL (Xm (bZ (hi ac s1 σ H1 _ I1 q1) λiv s2 zz=>?_));obtain⟨y,H2,I2,r2,q2⟩:=zz;refine WL (wpAny_standAt (WL (Xm (bZ (hs ac s2 σ H2 x y v ov iv u _ I2 r1 r2 r q2) λ_ s3 zz=>?_))));obtain⟨H3,I3,q3⟩:=zz;exact wpAny_release ⟨σ,H3,I3,q3⟩
def CJ(te:TE)(g:TG):TS:=λD σ H=>te σ H λx H1=>g x σ H1 D.nx
theorem pC{tg e:Expr}{te:TE}{g:TG}(he:PE X e te)(hg:PG X tg g)(hs:swapsWithSole [tg] e pos.line X.env=pure false:=by rfl)(hw:swappedStores [tg] e X.env=pure none:=by rfl)
  (h1:(assignEach [tg] X.env).map (·.2)=[assign tg X.env]:=by rfl):PS X (.Assign [tg] e pos) (CJ te g):=by
 intro ac s σ H D I h;refine wpAny_Assign_stores (bZ (he ac s σ H _ I h) λv s1 zz=>?_) hs hw;obtain⟨x,H1,I1,r1,q1⟩:=zz;rw[h1];exact bZ (hg ac s1 σ H1 x v _ I1 r1 q1) λ_ s2 q=>q
theorem aK{i:Nat}{x:Str}{e:Expr}{te:TE}{pos':Pos}(hN:X.N.Nodup)(hi:X.N[i]? = some x)(hx:Loc X.env.scope x)(he:PE X e te)(hs:swapsWith e (some (.Name x pos')) pos.line X.env=pure false:=by rfl)(hf:X.fn x=true\/X.env.scope.names.lookup x=some .local:=by first|exact .inl rfl|exact .inr rfl|assumption) :
  PS X (.Assign [.Name x pos'] e pos) (CJ te (bC i)):=by
 intro ac s σ H D I h;refine wpAny_Assign_Name (bZ (he ac s σ H _ I h) λv s1 zz=>?_) hs;obtain⟨y,H1,I1,r1,q1⟩:=zz;exact iE I1 hN hi hx r1 (λs2 I2=>⟨_,H1,I2,q1⟩) hf
def QV(i j:Nat)(ta:TA):TS:=λD σ H=>ta σ H λvs H1=>∃v w,vs=[v,w]/\D.nx ((σ.set i (some v)).set j (some w)) H1
theorem LM{i j:Nat}{x y:Str}{a b:Expr}{ta:TA}{px py pt:Pos}{kt k2 P8}(hc:X.calm=true)(hN:X.N.Nodup)(hi:X.N[i]? = some x)(hj:X.N[j]? = some y)(hij:i≠j)
  (hx:X.env.scope.names.lookup x=some .local) (hy:X.env.scope.names.lookup y=some .local) (ha:PA X [a,b] ta)
  (hw:swappedStores [.Tuple [.Name x px,.Name y py] kt pt] (.Tuple [a,b] k2 P8) X.env=pure (some [x,y]))
  (hs:swapsWithSole [.Tuple [.Name x px,.Name y py] kt pt] (.Tuple [a,b] k2 P8) pos.line X.env=pure false:=by rfl) :
  PS X (.Assign [.Tuple [.Name x px,.Name y py] kt pt] (.Tuple [a,b] k2 P8) pos) (QV i j ta):=by
 intro ac s σ H D I h;rw[exec_Assign_arm];refine WL (wpAny_standAt ?_);rw[hs];refine WL (WM ?_);rw[Xt (by decide)];refine WL (Tuple_ (bZ (ha _ ac s σ H _ I h) λus s1 zz=>?_));obtain⟨vs,H1,I1,r1,q1⟩:=zz;obtain⟨v,w,e1,q1⟩:=q1;subst e1;obtain⟨u1,u2,rfl,rv,vg⟩ :∃u1 u2,us=[u1,u2]/\RelV v u1/\RelV w u2:=by
  cases r1 with
  |cons p q =>
   cases q with
   |cons p' q' =>cases q';exact⟨_,_,rfl,p,p'⟩
 refine Xn ?_ (by show 2<=sizeLine;decide);have I2:Inv X ac σ H1 {s1 with heap:=s1.heap.push {cls:=.type "tuple",data:=.seq [u1,u2].toArray}}:=I1.kept (t':=s1.toks) λb o e=>WN _ e;rw[hw];refine WL (WM ?_);show wpAny (model X.prog X.w) X.A (do rule "assign.swapped-stores";let items←unpackItems (.ref s1.heap.objs.size) 2 none;assignInOrder [λv=>bindName X.env y v,λv=>bindName X.env x v] items.reverse;pure Flow.next) _ _ _;refine WL (wpAny_rule (WL (unpackItems_tuple (items:=#[u1,u2]) (I.ok.hd hc) (IsTup.new s1.heap _) λh' hx'=>?_)));have I3:=I2.kept (h':=h') (t':=s1.toks) λb o e=>hx' b o (Xd (WO e)) e;show wpAny _ _ (assignInOrder [λv=>bindName X.env y v,λv=>bindName X.env x v] [u2,u1] >>= λ_=>pure Flow.next) _ _ _;refine WL (assignInOrder_cons (wpAny_bindName (iE I3 hN hj (.inl hy) vg (λs2 I4=>?_) (.inr hy))));refine assignInOrder_cons (wpAny_bindName (iE I4 hN hi (.inl hx) rv (λs3 I5=>assignInOrder_nil (WM ?_)) (.inr hx)));rw[List.set_comm _ _ (Ne.symm hij)]at I5;exact⟨_,H1,I5,q1⟩
end
section
variable{X:Cx}{pos:Pos}
def LZ(c:TT)(tb:TS):TS:=λD σ H=>∃W:Nat->St->Hp->Prop,(∃m,W m σ H)/\∀m σ H,W m σ H->
 c σ H λb H1=>if b=true then∃N:St->Hp->Prop,(∀σ' H',N σ' H'->∃m',m'<m/\W m' σ' H')/\tb {D with nx:=N,ct:=N,bk:=D.nx} σ H1 else D.nx σ H1
theorem D5{c:Expr}{body:List Stmt}{tc:TT}{tb:TS}(hp:PassesOwn (model X.prog X.w) X.A X.env X.xe)(hc:PT X c tc)(hb:oE X body tb):PS X (.While c body [] pos) (LZ tc tb):=by
 intro ac s σ H D I h;obtain⟨W,⟨m0,w0⟩,turn⟩:=h;refine wpAny_While (codeAny_whileLoop (λn s'=>∃σ' H',Inv X ac σ' H' s'/\W n σ' H') ?_ m0 ⟨σ,H,I,w0⟩);rintro n s1 ⟨FQ,H1,I1,w1⟩;refine wpAny_passesOwn hp (bZ (hc ac s1 FQ H1 _ I1 (turn n FQ H1 w1)) λb s2 zz=>?_);obtain⟨H2,I2,q2⟩:=zz;cases b with
 |true =>
  obtain⟨N,hN,q2⟩:=q2;rw[Xu rfl];refine wpAny_passesOwn hp (bZ (hb ac s2 FQ H2 _ I2 q2) λf s3 q3=>?_);cases f with
  |next =>obtain⟨Ds,H3,I3,n3⟩:=q3;obtain⟨m',hm,w3⟩:=hN Ds H3 n3;exact⟨m',hm,Ds,H3,I3,w3⟩
  |cont =>obtain⟨Ds,H3,I3,n3⟩:=q3;obtain⟨m',hm,w3⟩:=hN Ds H3 n3;exact⟨m',hm,Ds,H3,I3,w3⟩
  |brk=>exact q3
  |ret v=>exact q3
 |false =>rw[Xt W6];exact wpAny_execs_nil ⟨FQ,H2,I2,q2⟩
end
structure It where
 go:Nat->Hp->Prop
 FN:Nat->Hp->V->Hp->Prop
 stop:Nat->Hp->Prop
def dE(X:Cx)(ac:Z1)(H:Hp)(b:Addr):Prop :=
 H b=none/\b≠X.env.locals/\b∉X.fs/\(b∈X.ex\/X.s₀.heap.objs.size<=b)/\(∀x c,X.env.cells.lookup x=some c->c≠b)/\∀p∈X.pn++ac,p.1≠b
theorem Inv.ml{X:Cx}{ac:Z1}{σ:St}{H H':Hp}{s:Shared}{b:Addr}(I:Inv X ac σ H s)(hb:s.heap.objs.size<=b)(hn:H' b=none):dE X ac H' b:=by
 refine⟨hn,Nat.ne_of_gt (WZ I.lt hb),I.RC hb,.inr (WS I.sz hb),λx c e z=>?_,λp hp z=>?_⟩
 ·obtain⟨v,q⟩:=I.cell x c e;exact Xs (WZ q.lt (by rw[z];exact hb)) (Nat.lt_irrefl _)
 ·exact Xs (WZ (WO (I.pin p hp).1) (by rw[z];exact hb)) (Nat.lt_irrefl _)
structure Turn(P:Program)(w:World)(K:XO)(tg:Expr)(J:It)(fp:Z8)(it:Addr)(tn:Nat->Heap->Prop):Prop where
 mem:it∈fp
 obj:∀i h,tn i h->∀b∈fp,∃o,h.get? b=some o/\∀v,o.data≠ .cell v
 keep:∀i h h',tn i h->(∀b∈fp,∀o,h.get? b=some o->h'.get? b=some o)->tn i h'
 item:∀(X:Cx),X.prog=P->X.w=w->X.K=K->X.calm=true->∀(i:Nat)(ac:Z1)(s:Shared)(σ:St)(H:Hp)(E:Z0),Inv X ac σ H s->(∀b∈fp,dE X ac H b)->tn i s.heap->J.go i H->
  wpAny (model P w) X.A (pyNext (.ref it)) (λr s1=>∃u,r=some u/\
   wpAny (model P w) X.A (letOwnedTupleGo tg (.ref it) u) (λ_ s2=>∃x H',Inv X ac σ H' s2/\RelV x u/\J.FN i H x H'/\tn (i+1) s2.heap/\∀b∈fp,H' b=none) E s1) E s
 done:∀(X:Cx),X.prog=P->X.w=w->X.K=K->X.calm=true->∀(i:Nat)(ac:Z1)(s:Shared)(σ:St)(H:Hp)(E:Z0),Inv X ac σ H s->(∀b∈fp,dE X ac H b)->tn i s.heap->J.stop i H->
  wpAny (model P w) X.A (pyNext (.ref it)) (λr s1=>r=none/\Inv X ac σ H s1) E s
 self:∀(A:Around)(i:Nat)(s:Shared)(Q:Z0)(E:Z0),tn i s.heap->Q (.ref it) s->wpAny (model P w) A (pyIter (.ref it)) Q E s
abbrev TI:=St->Hp->(It->Hp->Prop)->Prop
def PIE(X:Cx)(ac:Z1)(σ:St)(tg:Expr)(R:It->Hp->Prop)(itv:Value)(s2:Shared):Prop :=
 ∃(it:Addr)(fp:Z8)(tn:Nat->Heap->Prop)(J:It)(H':Hp),itv=.ref it/\Inv X ac σ H' s2/\Turn X.prog X.w X.K tg J fp it tn/\tn 0 s2.heap/\(∀b∈fp,dE X ac H' b)/\R J H'
def PI(X:Cx)(tg iter:Expr)(wi:TI):Prop :=
 ∀(ac:Z1)(s:Shared)(σ:St)(H:Hp)(R:It->Hp->Prop),Inv X ac σ H s->wi σ H R->
  wpAny (model X.prog X.w) X.A (eval iter X.env) (λv s1=>wpAny (model X.prog X.w) X.A (pyIter v) (PIE X ac σ tg R) X.xe s1) X.xe s
theorem Fe{M:Model}{A:Around}{E:Z0}{s:Shared}{tg:Expr}{it:Addr}{u:Value}{o:Obj}{n:String}{vs:Array Value}{Q:Z4}(ho:s.heap.get? it=some o)(hc:o.cls=.type n)(hd:o.data=.fields vs)
  (hn:["enumerate","zip","dict_itemiterator","dict_reverseitemiterator","odict_iterator","itertools.zip_longest","itertools.pairwise"].contains n=false) (hQ:Q () s):wpAny M A (letOwnedTupleGo tg (.ref it) u) Q E s:=by
 unfold letOwnedTupleGo;cases tg<;>first
  |exact WM hQ
  | (cases u<;>first
    |exact WM hQ
    | (refine WL (wpAny_load ho ?_)
       rw[hc,hd];show wpAny M A (if(["enumerate","zip","dict_itemiterator","dict_reverseitemiterator","odict_iterator","itertools.zip_longest","itertools.pairwise"].contains n&&vs[0]? == some (rawInt _))=true then _ else _) Q E s;rw[Xt (by intro h;rw[hn,Bool.false_and]at h;cases h)];exact WM hQ))
def L5(K:XO)(a:Addr):It :=
 ⟨λi H=>∃xs x,aZ K H a xs/\xs[i]? = some x,λi H x H'=>H'=H/\∀xs,aZ K H a xs->xs[i]? = some x,λi H=>∃xs,aZ K H a xs/\xs.length<=i⟩
def HU(K:XO)(a:Addr):It :=
 ⟨λi H=>∃xs x,aJ K H a xs/\xs[i]? = some x,λi H x H'=>H'=H/\∀xs,aJ K H a xs->xs[i]? = some x,λi H=>∃xs,aJ K H a xs/\xs.length<=i⟩
def KW(lo:Int)(n:Nat):It:=⟨λi _=>i<n,λi H x H'=>H'=H/\x=.int (lo+i),λi _=>n<=i⟩
theorem Ba{P:Program}{w:World}{K:XO}{tg:Expr}(a it:Addr):Turn P w K tg (L5 K a) [it] it (λi h=>h.IsListIter it a i) where
 mem:=by simp
 obj:=λi h st b hb=>by
  have e:b=it:=by simpa using hb
  subst e;obtain⟨o,e,c,d⟩:=st;exact⟨o,e,λv z=>by rw[d]at z;cases z⟩
 keep:=λi h h' st k=>st.at λo e=>k it (by simp) o e
 item:=by intro X hP hw hK hc i ac s σ H E I hf st hg;subst hP hw hK;obtain⟨xs,x,hq,hx⟩:=hg;obtain⟨its,rv,p,hz⟩:=I.list hq;obtain⟨u,hu,ru⟩:=rv.get hx;obtain⟨f0,f1,f2,f3,f4,f5⟩:=hf it (by simp);refine wpAny_pyNext_list_item st p.isList (x:=u) (by simpa using hu) λh' st' sb=>?_;have I1:Inv X ac σ H {s with heap:=h'}:=I.turned (t':=s.toks) (λb o hb e=>(sb.2 b hb).trans e) f0 f1 f3 f4 f5;obtain⟨o,e,c,d⟩:=id st';exact⟨u,rfl,Fe (s:={s with heap:=h'}) e c d (by decide) ⟨x,H,I1,ru,⟨rfl,λys hy=>by rw[I.DA hy hq];exact hx⟩,st',λb hb=>(hf b hb).1⟩⟩
 done:=by intro X hP hw hK hc i ac s σ H E I hf st hg;subst hP hw hK;obtain⟨xs,hq,hx⟩:=hg;obtain⟨its,rv,p,hz⟩:=I.list hq;obtain⟨f0,f1,f2,f3,f4,f5⟩:=hf it (by simp);have hl:=rv.length;exact wpAny_pyNext_list_end (I.ok.hd hc) st p.isList (by simp;omega) λh' eb=>⟨rfl,I.turned (t':=s.toks) (λb o hb e=>eb b o hb e) f0 f1 f3 f4 f5⟩
 self:=λ_ _ _ _ _ st h=>wpAny_pyIter_listiter st h
theorem yV{P:Program}{w:World}{K:XO}{tg:Expr}(a it:Addr):Turn P w K tg (HU K a) [it] it (λi h=>h.IsTupleIter it a i) where
 mem:=by simp
 obj:=λi h st b hb=>by
  have e:b=it:=by simpa using hb
  subst e;obtain⟨o,e,c,d⟩:=st;exact⟨o,e,λv z=>by rw[d]at z;cases z⟩
 keep:=λi h h' st k=>st.at λo e=>k it (by simp) o e
 item:=by intro X hP hw hK hc i ac s σ H E I hf st hg;subst hP hw hK;obtain⟨xs,x,hq,hx⟩:=hg;obtain⟨its,rv,p,hz⟩:=I.tuple hq;obtain⟨u,hu,ru⟩:=rv.get hx;obtain⟨f0,f1,f2,f3,f4,f5⟩:=hf it (by simp);refine wpAny_pyNext_tuple_item st (show s.heap.IsTuple a its.toArray from p) (x:=u) (by simpa using hu) λh' st' sb=>?_;have I1:Inv X ac σ H {s with heap:=h'}:=I.turned (t':=s.toks) (λb o hb e=>(sb.2 b hb).trans e) f0 f1 f3 f4 f5;obtain⟨o,e,c,d⟩:=id st';exact⟨u,rfl,Fe (s:={s with heap:=h'}) e c d (by decide) ⟨x,H,I1,ru,⟨rfl,λys hy=>by rw[I.iB hy hq];exact hx⟩,st',λb hb=>(hf b hb).1⟩⟩
 done:=by intro X hP hw hK hc i ac s σ H E I hf st hg;subst hP hw hK;obtain⟨xs,hq,hx⟩:=hg;obtain⟨its,rv,p,hz⟩:=I.tuple hq;obtain⟨f0,f1,f2,f3,f4,f5⟩:=hf it (by simp);have hl:=rv.length;exact wpAny_pyNext_tuple_end (I.ok.hd hc) st (show s.heap.IsTuple a its.toArray from p) (by simp;omega) λh' eb=>⟨rfl,I.turned (t':=s.toks) (λb o hb e=>eb b o hb e) f0 f1 f3 f4 f5⟩
 self:=λ_ _ _ _ _ st h=>wpAny_pyIter_tupleiter st h
theorem xV{P:Program}{w:World}{K:XO}{tg:Expr}(it:Addr)(lo:Int)(n:Nat):Turn P w K tg (KW lo n) [it] it (λi h=>IsRangeIter h it (lo+(i:Nat)*1) ((n:Int)-(i:Nat)) 1) where
 mem:=by simp
 obj:=λi h st b hb=>by
  have e:b=it:=by simpa using hb
  subst e;exact⟨_,st,λv z=>by have z':Data.fields _=Data.cell v:=z;cases z'⟩
 keep:=λi h h' st k=>k it (by simp) _ st
 item:=by intro X hP hw hK hc i ac s σ H E I hf st hg;subst hP hw hK;obtain⟨f0,f1,f2,f3,f4,f5⟩:=hf it (by simp);have W:=Walks.range (prog:=X.prog) (w:=X.w) (I.ok.hd hc) it lo 1 n;refine W.item i s _ _ hg st λv h' tk hv st' kk=>?_;obtain⟨t,rfl⟩:=hv;have I1:Inv X ac σ H {s with heap:=h',toks:=tk}:=I.turned (λb o hb e=>kk b o (by simpa using hb) e) f0 f1 f3 f4 f5;refine⟨_,rfl,Fe (s:={s with heap:=h',toks:=tk}) (n:="range_iterator") st' rfl rfl (by decide) ⟨.int (lo+i),H,I1,⟨t,?_⟩,⟨rfl,rfl⟩,st',λb hb=>(hf b hb).1⟩⟩;rw[Int.mul_one]
 done:=by intro X hP hw hK hc i ac s σ H E I hf st hg;subst hP hw hK;obtain⟨f0,f1,f2,f3,f4,f5⟩:=hf it (by simp);exact wpAny_pyNext_range_end (I.ok.hd hc) st (by have:n<=i:=hg;omega) λh' eb=>⟨rfl,I.turned (t':=s.toks) (λb o hb e=>eb b o hb e) f0 f1 f3 f4 f5⟩
 self:=λ_ _ _ _ _ st h=>wpAny_pyIter_rangeiter st h
section
variable{X:Cx}{tg:Expr}
def N4(K:XO)(tl:TE):TI:=λσ H R=>tl σ H λx H1=>∃a,x=.ref a/\(∃xs,aZ K H1 a xs)/\R (L5 K a) H1
def HY(K:XO)(tl:TE):TI:=λσ H R=>tl σ H λx H1=>∃a,x=.ref a/\(∃xs,aJ K H1 a xs)/\R (HU K a) H1
theorem dX{l:Expr}{tl:TE}(hl:PE X l tl):PI X tg l (N4 X.K tl):=by
 intro ac s σ H R I h;refine bZ (hl ac s σ H _ I h) λv s1 zz=>?_;obtain⟨x,H1,I1,r1,q1⟩:=zz;obtain⟨a,e,⟨xs,hq⟩,q⟩:=q1;subst e;cases r1;obtain⟨its,rv,p,hz⟩:=I1.list hq;refine wpAny_pyIter_list p.isList ?_;refine⟨s1.heap.objs.size,[s1.heap.objs.size],_,_,H1,rfl,I1.kept (t':=s1.toks) λb o e=>WN _ e,Ba a _,⟨_,WQ _ rfl,rfl,rfl⟩,λb hb=>?_,q⟩;have e:b=s1.heap.objs.size:=by simpa using hb
 subst e;exact I1.ml (WR _) (I1.hok.fresh (WR _))
theorem cL{l:Expr}{tl:TE}(hl:PE X l tl):PI X tg l (HY X.K tl):=by
 intro ac s σ H R I h;refine bZ (hl ac s σ H _ I h) λv s1 zz=>?_;obtain⟨x,H1,I1,r1,q1⟩:=zz;obtain⟨a,e,⟨xs,hq⟩,q⟩:=q1;subst e;cases r1;obtain⟨its,rv,p,hz⟩:=I1.tuple hq;refine wpAny_pyIter_tuple (show s1.heap.IsTuple a its.toArray from p) ?_;refine⟨s1.heap.objs.size,[s1.heap.objs.size],_,_,H1,rfl,I1.kept (t':=s1.toks) λb o e=>WN _ e,yV a _,⟨_,WQ _ rfl,rfl,rfl⟩,λb hb=>?_,q⟩;have e:b=s1.heap.objs.size:=by simpa using hb
 subst e;exact I1.ml (WR _) (I1.hok.fresh (WR _))
theorem Ew{ac:Z1}{σ:St}{H:Hp}{s:Shared}{R:It->Hp->Prop}{E:Z0}{lo hi:Int}{t u v:Tok}{tk:Nat}(I:Inv X ac σ H s)(h1:-(2 ^ 62)<=lo)(h2:lo<2 ^ 62)(h3:-(2 ^ 62)<=hi)(h4:hi<2 ^ 62)
  (q:R (KW lo (hi-lo).toNat) H):wpAny (model X.prog X.w) X.A (pyIter (.ref s.heap.objs.size)) (PIE X ac σ tg R) E {s with heap:=s.heap.push {cls:=.type "range",data:=.fields #[.int lo t,.int hi u,.int 1 v]},toks:=tk}:=by
 refine wpAny_pyIter_range (IsRange.new ..) (small_one h1 h2 h3 h4) ?_;have I1:Inv X ac σ H {s with heap:=s.heap.push {cls:=.type "range",data:=.fields #[.int lo t,.int hi u,.int 1 v]},toks:=tk}:=I.kept λb o e=>WN _ e;refine⟨(s.heap.push {cls:=.type "range",data:=.fields #[.int lo t,.int hi u,.int 1 v]}).objs.size,[(s.heap.push {cls:=.type "range",data:=.fields #[.int lo t,.int hi u,.int 1 v]}).objs.size],_,_,H,rfl,
  I1.kept (t':=tk) λb o e=>WN _ e,xV _ lo (hi-lo).toNat,?_,λb hb=>?_,q⟩
 ·have e1:lo+((0:Nat):Int)*1=lo:=by simp
  have e2:(((hi-lo).toNat:Nat):Int)-((0:Nat):Int)=Builtin.Range.rangeSize lo hi 1:=by rw[rangeSize_one];split<;>omega
  show IsRangeIter _ _ (lo+((0:Nat):Int)*1) ((((hi-lo).toNat:Nat):Int)-((0:Nat):Int)) 1;rw[e1,e2];exact WQ _ rfl
 ·have e:b=(s.heap.push {cls:=.type "range",data:=.fields #[.int lo t,.int hi u,.int 1 v]}).objs.size:=by simpa using hb
  subst e;exact I1.ml (WR _) (I1.hok.fresh (WR _))
def Nd(ta:TA):TI:=λσ H R=>ta σ H λvs H1=>∃j:Int,vs=[.int j]/\-(2 ^ 62)<=j/\j<2 ^ 62/\R (KW 0 j.toNat) H1
theorem dA{a:Expr}{ta:TA}{p pos:Pos}(hg:Gl X "range")(hm:X.mg "range"=none)(ha:PA X [a] ta)(hs:starEach [a] X.env=[(false,eval a X.env)]:=by rfl):PI X tg (.Call (.Name "range" p) [a] [] pos) (Nd ta):=by
 intro ac s σ H R I h;refine Call_ (iR I hg hm boot_range (PyProof.Rows.callWith_type1 (bZ (ha pos ac s σ H _ I h) λus s1 zz=>?_) hs rfl));obtain⟨vs,H1,I1,r1,q1⟩:=zz;obtain⟨j,e,q1,q2,q⟩:=q1;subst e;cases r1 with
 |cons r rr =>cases rr;obtain⟨t,rfl⟩:=r;exact call_range_1 (Ew I1 (by omega) (by omega) q1 q2 (by simpa using q))
def P9(wi:TI)(g:TG)(tb:TS):TS:=λD σ H=>wi σ H λJ H1=>∃W:Nat->Nat->St->Hp->Prop,(∃m,W 0 m σ H1)/\∀i m σ H,W i m σ H->
 (J.stop i H/\D.nx σ H)\/(J.go i H/\∃N:St->Hp->Prop,(∀σ' H',N σ' H'->∃m',m'<m/\W (i+1) m' σ' H')/\∀x H',J.FN i H x H'->g x σ H' λde H2=>tb {D with nx:=N,ct:=N,bk:=D.nx} de H2)
def jH(fp:Z8)(h:Heap):Z1:=fp.filterMap λb=>(h.get? b).map λo=>(b,o)
theorem cM{fp:Z8}{h:Heap}{b:Addr}{o:Obj}(hb:b∈fp)(e:h.get? b=some o):(b,o)∈jH fp h:=List.mem_filterMap.mpr ⟨b,hb,by rw[e];rfl⟩
theorem BY{fp:Z8}{h:Heap}{p:Addr×Obj}(hp:p∈jH fp h):p.1∈fp/\h.get? p.1=some p.2:=by
 obtain⟨b,hb,e⟩:=List.mem_filterMap.mp hp;cases q:h.get? b with
 |none=>rw[q]at e;cases e
 |some o =>rw[q]at e;have e':(b,o)=p:=Xf e;subst e';exact⟨hb,q⟩
theorem Inv.pinned{ac:Z1}{σ:St}{H:Hp}{s:Shared}{fp:Z8}(I:Inv X ac σ H s)(hf:∀b∈fp,dE X ac H b)(ho:∀b∈fp,∃o,s.heap.get? b=some o/\∀v,o.data≠ .cell v):Inv X (ac++jH fp s.heap) σ H s :=
 I.g_ λp hp=>(Xc.mp hp).elim (λz=>I.pin p (W3 _ z)) λz=>by obtain⟨hb,e⟩:=BY z;obtain⟨f0,f1,f2,_⟩:=hf p.1 hb;obtain⟨o,e',d⟩:=ho p.1 hb;rw[e]at e';cases e';exact⟨e,f0,f1,f2,d⟩
theorem Inv.gE{ac pl:Z1}{σ:St}{H:Hp}{s:Shared}(I:Inv X (ac++pl) σ H s):Inv X ac σ H s:=I.g_ λp hp=>I.pin p (W3 _ (List.mem_append_left _ hp))
theorem fN{iter:Expr}{body:List Stmt}{wi:TI}{g:TG}{tb:TS}{pos:Pos}(hp:PassesOwn (model X.prog X.w) X.A X.env X.xe)(hc:X.calm=true)(hi:PI X tg iter wi)(hg:PG X tg g)(hb:oE X body tb)
  (hs:∀x,foldedSetIterable iter X.env x=pure x:=by intro _;rfl):PS X (.For tg iter body [] pos) (P9 wi g tb):=by
 intro ac s σ H D I h;refine wpAny_For (bZ (hi ac s σ H _ I h) λv s1 h1=>bZ h1 λitv s2 h2=>?_) hs;obtain⟨it,fp,tn,J,H2,e,I2,T,st2,f2,W,⟨m0,w0⟩,turn⟩:=h2;subst e;have stat:∀{H':Hp},(∀b∈fp,H' b=none)->∀b∈fp,dE X ac H' b:=λhn b hb=>⟨hn b hb,(f2 b hb).2⟩;refine codeAny_forLoop_any (λn s'=>∃i σ' H',Inv X ac σ' H' s'/\tn i s'.heap/\(∀b∈fp,H' b=none)/\W i n σ' H') ?_ m0 ⟨0,σ,H2,I2,st2,λb hb=>(f2 b hb).1,w0⟩;rintro n s3 ⟨i,Ds,H3,I3,st3,SY,w3⟩;rcases turn i n Ds H3 w3 with⟨stop,qn⟩|⟨go,N,hN,step⟩
 ·refine wpAny_passesOwn hp (bZ (T.done X rfl rfl rfl hc i ac s3 Ds H3 X.xe I3 (stat SY) st3 stop) λr s4 zz=>?_);obtain⟨hr,I4⟩:=zz;subst hr;exact wpAny_execs_nil ⟨Ds,H3,I4,qn⟩
 ·refine wpAny_passesOwn hp (bZ (T.item X rfl rfl rfl hc i ac s3 Ds H3 X.xe I3 (stat SY) st3 go) λr s4 zz=>?_);obtain⟨u,hr,h4⟩:=zz;subst hr;refine wpAny_passesOwn hp (bZ h4 λ_ s5 zz=>?_);obtain⟨x,H5,I5,r5,y5,uU,xm⟩:=zz;have Wq:=I5.pinned (stat xm) (T.obj _ _ uU);refine wpAny_passesOwn hp (bZ (hg _ s5 Ds H5 x u _ Wq r5 (step x H5 y5)) λ_ s6 zz=>?_);obtain⟨VB,H6,I6,q6⟩:=zz;refine wpAny_passesOwn hp (bZ (hb _ s6 VB H6 _ I6 q6) λf s7 q7=>?_);have again:∀{ET:St}{H7:Hp},Inv X (ac++jH fp s5.heap) ET H7 s7->N ET H7->∃m,m<n/\∃i σ' H',Inv X ac σ' H' s7/\tn i s7.heap/\(∀b∈fp,H' b=none)/\W i m σ' H':=λ{ET H7} I7 n7=>by obtain⟨m',hm,w7⟩:=hN ET H7 n7;refine⟨m',hm,i+1,ET,H7,I7.gE,T.keep _ _ _ uU λb hb o e=>(I7.pin (b,o) (W3 _ (W3 _ (cM hb e)))).1,λb hb=>?_,w7⟩;obtain⟨o,e,d⟩:=T.obj _ _ uU b hb;exact(I7.pin (b,o) (W3 _ (W3 _ (cM hb e)))).2.1
  cases f with
  |next=>obtain⟨ET,H7,I7,n7⟩:=q7;exact again I7 n7
  |cont=>obtain⟨ET,H7,I7,n7⟩:=q7;exact again I7 n7
  |brk=>obtain⟨ET,H7,I7,q7⟩:=q7;exact⟨ET,H7,I7.gE,q7⟩
  |ret v=>obtain⟨x7,ET,H7,I7,r7,q7⟩:=q7;exact⟨x7,ET,H7,I7.gE,r7,q7⟩
end
theorem vj{K:XO}{a:Addr}{xs:List V}{g:TG}{tb:TS}{D:Ends}{σ:St}{H:Hp}(Pv:Nat->St->Hp->Prop)(h0:Pv 0 σ H)(hl:∀i σ H,i<=xs.length->Pv i σ H->aZ K H a xs)
  (hs:∀i x σ H,xs[i]? = some x->Pv i σ H->g x σ H λde H2=>tb {D with nx:=Pv (i+1),ct:=Pv (i+1),bk:=D.nx} de H2) (hd:∀σ H,Pv xs.length σ H->D.nx σ H) :
  ∃W:Nat->Nat->St->Hp->Prop,(∃m,W 0 m σ H)/\∀i m σ H,W i m σ H->
   ((L5 K a).stop i H/\D.nx σ H)\/((L5 K a).go i H/\∃N:St->Hp->Prop,(∀σ' H',N σ' H'->∃m',m'<m/\W (i+1) m' σ' H')/\∀x H',(L5 K a).FN i H x H'->g x σ H' λde H2=>tb {D with nx:=N,ct:=N,bk:=D.nx} de H2):=by
 refine⟨λi m σ H=>m=xs.length-i/\i<=xs.length/\Pv i σ H,⟨xs.length,by simp,Xe _,h0⟩,?_⟩;rintro i m σ H ⟨rfl,hi,p⟩;have q:=hl i σ H hi p;by_cases hlt:i<xs.length
 ·refine .inr ⟨⟨xs,xs[i],q,by simp[hlt]⟩,Pv (i+1),λσ' H' p'=>⟨xs.length-(i+1),by omega,rfl,hlt,p'⟩,λx H' y=>?_⟩;obtain⟨e,y⟩:=y;subst e;exact hs i x σ _ (y xs q) p
 ·have e:i=xs.length:=by omega
  subst e;exact .inl ⟨⟨xs,q,WR _⟩,hd σ H p⟩
theorem HD{K:XO}{a:Addr}{xs:List V}{g:TG}{tb:TS}{D:Ends}{σ:St}{H:Hp}(Pv:Nat->St->Hp->Prop)(h0:Pv 0 σ H)(hl:∀i σ H,i<=xs.length->Pv i σ H->aJ K H a xs)
  (hs:∀i x σ H,xs[i]? = some x->Pv i σ H->g x σ H λde H2=>tb {D with nx:=Pv (i+1),ct:=Pv (i+1),bk:=D.nx} de H2) (hd:∀σ H,Pv xs.length σ H->D.nx σ H) :
  ∃W:Nat->Nat->St->Hp->Prop,(∃m,W 0 m σ H)/\∀i m σ H,W i m σ H->
   ((HU K a).stop i H/\D.nx σ H)\/((HU K a).go i H/\∃N:St->Hp->Prop,(∀σ' H',N σ' H'->∃m',m'<m/\W (i+1) m' σ' H')/\∀x H',(HU K a).FN i H x H'->g x σ H' λde H2=>tb {D with nx:=N,ct:=N,bk:=D.nx} de H2):=by
 refine⟨λi m σ H=>m=xs.length-i/\i<=xs.length/\Pv i σ H,⟨xs.length,by simp,Xe _,h0⟩,?_⟩;rintro i m σ H ⟨rfl,hi,p⟩;have q:=hl i σ H hi p;by_cases hlt:i<xs.length
 ·refine .inr ⟨⟨xs,xs[i],q,by simp[hlt]⟩,Pv (i+1),λσ' H' p'=>⟨xs.length-(i+1),by omega,rfl,hlt,p'⟩,λx H' y=>?_⟩;obtain⟨e,y⟩:=y;subst e;exact hs i x σ _ (y xs q) p
 ·have e:i=xs.length:=by omega
  subst e;exact .inl ⟨⟨xs,q,WR _⟩,hd σ H p⟩
theorem gj{lo:Int}{n:Nat}{g:TG}{tb:TS}{D:Ends}{σ:St}{H:Hp}(Pv:Nat->St->Hp->Prop)(h0:Pv 0 σ H)
  (hs:∀i σ H,i<n->Pv i σ H->g (.int (lo+i)) σ H λde H2=>tb {D with nx:=Pv (i+1),ct:=Pv (i+1),bk:=D.nx} de H2) (hd:∀σ H,Pv n σ H->D.nx σ H) :
  ∃W:Nat->Nat->St->Hp->Prop,(∃m,W 0 m σ H)/\∀i m σ H,W i m σ H->
   ((KW lo n).stop i H/\D.nx σ H)\/((KW lo n).go i H/\∃N:St->Hp->Prop,(∀σ' H',N σ' H'->∃m',m'<m/\W (i+1) m' σ' H')/\∀x H',(KW lo n).FN i H x H'->g x σ H' λde H2=>tb {D with nx:=N,ct:=N,bk:=D.nx} de H2):=by
 refine⟨λi m σ H=>m=n-i/\i<=n/\Pv i σ H,⟨n,by simp,Xe _,h0⟩,?_⟩;rintro i m σ H ⟨rfl,hi,p⟩;by_cases hlt:i<n
 ·refine .inr ⟨hlt,Pv (i+1),λσ' H' p'=>⟨n-(i+1),by omega,rfl,hlt,p'⟩,λx H' y=>?_⟩;obtain⟨e,y⟩:=y;subst e y;exact hs i σ _ hlt p
 ·have e:i=n:=by omega
  subst e;exact .inl ⟨WR _,hd σ H p⟩
abbrev R2:=V->V->Hp->VK->Prop
def jk(X:Cx)(f:Value->Value->Sem Value)(r:R2):Prop :=
 ∀(ac:Z1)(s:Shared)(σ:St)(H:Hp)(x y:V)(v u:Value)(Q:VK),Inv X ac σ H s->RelV x v->RelV y u->r x y H Q->
  wpAny (model X.prog X.w) X.A (f v u) (EP X ac σ Q) X.xe s
def Qt(X:Cx)(f:Value->Sem Value)(r:V->Hp->VK->Prop):Prop :=
 ∀(ac:Z1)(s:Shared)(σ:St)(H:Hp)(x:V)(v:Value)(Q:VK),Inv X ac σ H s->RelV x v->r x H Q->
  wpAny (model X.prog X.w) X.A (f v) (EP X ac σ Q) X.xe s
def eY(X:Cx)(f:Value)(r:List V->Hp->VK->Prop):Prop :=
 ∀(ac:Z1)(s:Shared)(σ:St)(H:Hp)(xs:List V)(us:Z6)(Q:VK),Inv X ac σ H s->Vals xs us->r xs H Q->
  wpAny (model X.prog X.w) X.A (call f us) (EP X ac σ Q) X.xe s
def Q5(X:Cx)(r:V->Hp->(Bool->Hp->Prop)->Prop):Prop :=
 ∀(ac:Z1)(s:Shared)(σ:St)(H:Hp)(x:V)(v:Value)(Q:Bool->Hp->Prop),Inv X ac σ H s->RelV x v->r x H Q->
  wpAny (model X.prog X.w) X.A (truthy v) (TP X ac σ Q) X.xe s
def hZ(r:R2)(ta tb:TE):TE:=λσ H Q=>ta σ H λx H1=>tb σ H1 λy H2=>r x y H2 Q
def Wl(r:V->Hp->VK->Prop)(ta:TE):TE:=λσ H Q=>ta σ H λx H1=>r x H1 Q
def rI(C:Int->Int->Prop)(g:Int->Int->V):R2:=λx y H Q=>∃i j,x=.int i/\y=.int j/\C i j/\Q (g i j) H
def BN(g:Int->Int->V):R2:=λx y H Q=>∃i j,x=.int i/\y=.int j/\Q (g i j) H
def rU(g:Int->V):V->Hp->VK->Prop:=λx H Q=>∃i,x=.int i/\Q (g i) H
section
variable{X:Cx}{a b c:Expr}{ta tb tc:TE}{pos:Pos}
theorem Lp(ha:PE X a ta)(hb:PE X b tb){ac:Z1}{s:Shared}{σ:St}{H:Hp}{R:V->V->Hp->Prop}(I:Inv X ac σ H s)
  (h:ta σ H λx H1=>tb σ H1 λy H2=>R x y H2) {Q:Z0} {f:Value->Value->Sem Value}
  (hf:∀v u s2 x y H2,Inv X ac σ H2 s2->RelV x v->RelV y u->R x y H2->wpAny (model X.prog X.w) X.A (f v u) Q X.xe s2) :
  wpAny (model X.prog X.w) X.A (eval a X.env) (λv s₁=>wpAny (model X.prog X.w) X.A (eval b X.env) (λu s₂=>wpAny (model X.prog X.w) X.A (f v u) Q X.xe s₂) X.xe s₁) X.xe s:=by
 refine bZ (ha ac s σ H _ I h) λv s1 zz=>?_;obtain⟨x,H1,I1,r1,q1⟩:=zz;refine bZ (hb ac s1 σ H1 _ I1 q1) λu s2 zz=>?_;obtain⟨y,H2,I2,r2,q2⟩:=zz;exact hf v u s2 x y H2 I2 r1 r2 q2
theorem aF{op:Operator}{r:R2}(ho:jk X (binaryOp op) r)(ha:PE X a ta)(hb:PE X b tb):PE X (.BinOp a op b pos) (hZ r ta tb):=by intro ac s σ H Q I h;exact wpAny_BinOp (Lp ha hb I h λv u s2 x y H2 I2 rx ry q=>ho ac s2 σ H2 x y v u Q I2 rx ry q)
theorem nq{op:UnaryOp}{r:V->Hp->VK->Prop}(ho:Qt X (unaryOp op) r)(ha:PE X a ta):PE X (.UnaryOp op a pos) (Wl r ta):=by intro ac s σ H Q I h;exact UnaryOp_ (bZ (ha ac s σ H _ I h) λv s1 ⟨x,H1,I1,r1,q1⟩=>ho ac s1 σ H1 x v Q I1 r1 q1)
theorem OZ{f:Value->Value->Sem Value}{C:Int->Int->Prop}{g:Int->Int->Int}
  (rule:∀(i j:Int)(t u:Tok)(s:Shared)(Q:Z0)(E:Z0),C i j->Q (.int (g i j) s.toks) {s with toks:=s.toks+1}->wpAny (model X.prog X.w) X.A (f (.int i t) (.int j u)) Q E s) :
  jk X f (rI C λi j=>.int (g i j)):=by
 intro ac s σ H x y v u Q I rx ry h;obtain⟨i,j,rfl,rfl,hc,q⟩:=h;obtain⟨t,rfl⟩:=rx;obtain⟨t',rfl⟩:=ry;exact rule i j t t' s _ _ hc ⟨.int (g i j),H,I.tok _,⟨_,rfl⟩,q⟩
theorem M4{f:Value->Value->Sem Value}{g:Int->Int->Int}
  (rule:∀(i j:Int)(t u:Tok)(s:Shared)(Q:Z0)(E:Z0),Q (.int (g i j) s.toks) {s with toks:=s.toks+1}->wpAny (model X.prog X.w) X.A (f (.int i t) (.int j u)) Q E s) :
  jk X f (BN λi j=>.int (g i j)):=by
 intro ac s σ H x y v u Q I rx ry h;obtain⟨i,j,rfl,rfl,q⟩:=h;obtain⟨t,rfl⟩:=rx;obtain⟨t',rfl⟩:=ry;exact rule i j t t' s _ _ ⟨.int (g i j),H,I.tok _,⟨_,rfl⟩,q⟩
theorem K6{f:Value->Value->Sem Value}{g:Int->Int->Bool}
  (rule:∀(i j:Int)(t u:Tok)(s:Shared)(Q:Z0)(E:Z0),Q (.bool (g i j)) s->wpAny (model X.prog X.w) X.A (f (.int i t) (.int j u)) Q E s) :
  jk X f (BN λi j=>.bl (g i j)):=by
 intro ac s σ H x y v u Q I rx ry h;obtain⟨i,j,rfl,rfl,q⟩:=h;obtain⟨t,rfl⟩:=rx;obtain⟨t',rfl⟩:=ry;exact rule i j t t' s _ _ ⟨.bl (g i j),H,I,rfl,q⟩
def QX(i j:Int):Prop:=0<j/\j<1073741824
def QD(i j:Int):Prop:=0<=j/\j<=1000000/\i.natAbs<2 ^ 64
def GZ(i j:Int):Prop:=(-(2 ^ 64)<i/\i<2 ^ 64)\/(-(2 ^ 64)<j/\j<2 ^ 64)
theorem GZ.ok{i j:Int}(h:GZ i j):IntMulOk i j:=by
 rcases h with⟨h1,h2⟩|⟨h1,h2⟩
 ·exact .of_left (intBits_le_64 h1 h2)
 ·exact .of_right (intBits_le_64 h1 h2)
theorem cR:jk X (binaryOp .Add) (BN λi j=>.int (i+j)):=M4 λ_ _ _ _ _ _ _ q=>add_int q
theorem bM:jk X (binaryOp .Sub) (BN λi j=>.int (i-j)):=M4 λ_ _ _ _ _ _ _ q=>sub_int q
theorem mr:jk X (binaryOp .Mult) (rI GZ λi j=>.int (i*j)):=OZ λ_ _ _ _ _ _ _ hc q=>mul_int q hc.ok
theorem zF:jk X (binaryOp .FloorDiv) (rI QX λi j=>.int (i / j)):=OZ λi j _ _ _ _ _ hc q=>by have h1:(0:Int)<j:=hc.1;have h2:j<1073741824:=hc.2;exact floordiv_int (by omega) (by rw[Int.fdiv_eq_ediv_of_nonneg i (by omega)];exact q) (.inl (PyProof.noPylong_small (by omega)))
theorem pK:jk X (binaryOp .Mod) (rI (λ_ j=>0<j) λi j=>.int (i % j)):=OZ λi j _ _ _ _ _ hc q=>by have h1:(0:Int)<j:=hc;exact mod_int' (by omega) (by rw[Int.fmod_eq_emod_of_nonneg i (by omega)];exact q)
theorem mw:jk X (binaryOp .Pow) (rI QD λi j=>.int (i ^ j.toNat)):=OZ λ_ _ _ _ _ _ _ hc q=>pow_int_small hc.1 hc.2.1 hc.2.2 q
theorem Ur{f:Value->Sem Value}{g:Int->Int}
  (rule:∀(i:Int)(t:Tok)(s:Shared)(Q:Z0)(E:Z0),Q (.int (g i) s.toks) {s with toks:=s.toks+1}->wpAny (model X.prog X.w) X.A (f (.int i t)) Q E s) :
  Qt X f (rU λi=>.int (g i)):=by
 intro ac s σ H x v Q I rx h;obtain⟨i,rfl,q⟩:=h;obtain⟨t,rfl⟩:=rx;exact rule i t s _ _ ⟨.int (g i),H,I.tok _,⟨_,rfl⟩,q⟩
theorem jT:Qt X (unaryOp .USub) (rU λi=>.int (-i)):=Ur λ_ _ _ _ _ q=>neg_int q
end
def N5:V->V->Bool
 | .non,.non=>true | .non,.int _=>true | .int _,.non=>true | .non,.bl _=>true | .bl _,.non=>true | .non,.str _=>true | .str _,.non=>true
 | .int _,.int _=>true | .bl _,.bl _=>true | .str _,.str _=>true | .zI _,.zI _=>true
 | .int _,.str _=>true | .str _,.int _=>true | .bl _,.str _=>true | .str _,.bl _=>true
 |_,_=>false
def Jt:R2:=λx y H Q=>N5 x y=true/\Q (.bl (decide (x=y))) H
def VZ:R2:=λx y H Q=>N5 x y=true/\Q (.bl (!decide (x=y))) H
theorem zq{i j:Int}:decide (V.int i=V.int j)=(i==j):=by rw[Bool.eq_iff_iff];simp
theorem EK{i j:Bool}:decide (V.bl i=V.bl j)=(i==j):=by rw[Bool.eq_iff_iff];simp
theorem Ad{i j:Str}:decide (V.str i=V.str j)=(i==j):=by rw[Bool.eq_iff_iff];simp
theorem Aa{i j:Array UInt8}:decide (V.zI i=V.zI j)=(i.toList==j.toList):=by rw[Bool.eq_iff_iff];cases i;cases j;simp
section
variable{X:Cx}{a b c:Expr}{ta tb tc:TE}{pos:Pos}
theorem cf{ac:Z1}{σ:St}{H:Hp}{s:Shared}{Q:VK}{k k':Bool}(I:Inv X ac σ H s)(q:Q (.bl k) H)(e:k=k'):EP X ac σ Q (.bool k') s:=by subst e;exact⟨.bl k,H,I,rfl,q⟩
theorem aQ:jk X (compareOp .Eq) Jt:=by
 intro ac s σ H x y v u Q I rx ry h;obtain⟨hs,q⟩:=h;cases x with
 |non =>
  cases rx;cases y with
  |non=>cases ry;exact PySem.EqNone.eq_none_none (cf I q (by simp))
  |bl j=>cases ry;exact PySem.EqNone.eq_none_bool (cf I q (by simp))
  |int j=>obtain⟨t',rfl⟩:=ry;exact PySem.EqNone.eq_none_int (cf I q (by simp))
  |str j=>obtain⟨t',rfl⟩:=ry;exact PySem.EqNone.eq_none_str (cf I q (by simp))
  |_=>exact Xs (show false=true from hs) W6
 |bl i =>
  cases rx;cases y with
  |non=>cases ry;exact PySem.EqNone.eq_bool_none (cf I q (by simp))
  |bl j=>cases ry;exact eq_bool (cf I q EK)
  |str j=>obtain⟨t',rfl⟩:=ry;exact PySem.EqMixed.eq_bool_str (cf I q (by simp))
  |_=>exact Xs (show false=true from hs) W6
 |int i =>
  obtain⟨t,rfl⟩:=rx;cases y with
  |non=>cases ry;exact PySem.EqNone.eq_int_none (cf I q (by simp))
  |int j=>obtain⟨t',rfl⟩:=ry;exact eq_int (cf I q zq)
  |str j=>obtain⟨t',rfl⟩:=ry;exact PySem.EqMixed.eq_int_str (cf I q (by simp))
  |_=>exact Xs (show false=true from hs) W6
 |str i =>
  obtain⟨t,rfl⟩:=rx;cases y with
  |non=>cases ry;exact PySem.EqNone.eq_str_none (cf I q (by simp))
  |bl j=>cases ry;exact PySem.EqMixed.eq_str_bool (cf I q (by simp))
  |int j=>obtain⟨t',rfl⟩:=ry;exact PySem.EqMixed.eq_str_int (cf I q (by simp))
  |str j=>obtain⟨t',rfl⟩:=ry;exact eq_str (cf I q Ad)
  |_=>exact Xs (show false=true from hs) W6
 |zI i =>
  obtain⟨t,rfl⟩:=rx;cases y with
  |zI j=>obtain⟨t',rfl⟩:=ry;exact PySem.W.eq_bytes (cf I q Aa)
  |_=>exact Xs (show false=true from hs) W6
 |_=>cases y<;>exact Xs (show false=true from hs) W6
theorem nu:jk X (compareOp .NotEq) VZ:=by
 intro ac s σ H x y v u Q I rx ry h;obtain⟨hs,q⟩:=h;cases x with
 |non =>
  cases rx;cases y with
  |non=>cases ry;exact PySem.EqNone.ne_none_none (cf I q (by simp))
  |bl j=>cases ry;exact PySem.EqNone.ne_none_bool (cf I q (by simp))
  |int j=>obtain⟨t',rfl⟩:=ry;exact PySem.EqNone.ne_none_int (cf I q (by simp))
  |str j=>obtain⟨t',rfl⟩:=ry;exact PySem.EqNone.ne_none_str (cf I q (by simp))
  |_=>exact Xs (show false=true from hs) W6
 |bl i =>
  cases rx;cases y with
  |non=>cases ry;exact PySem.EqNone.ne_bool_none (cf I q (by simp))
  |bl j=>cases ry;exact ne_bool (cf I q (congrArg not EK))
  |str j=>obtain⟨t',rfl⟩:=ry;exact PySem.EqMixed.ne_bool_str (cf I q (by simp))
  |_=>exact Xs (show false=true from hs) W6
 |int i =>
  obtain⟨t,rfl⟩:=rx;cases y with
  |non=>cases ry;exact PySem.EqNone.ne_int_none (cf I q (by simp))
  |int j=>obtain⟨t',rfl⟩:=ry;exact ne_int (cf I q (congrArg not zq))
  |str j=>obtain⟨t',rfl⟩:=ry;exact PySem.EqMixed.ne_int_str (cf I q (by simp))
  |_=>exact Xs (show false=true from hs) W6
 |str i =>
  obtain⟨t,rfl⟩:=rx;cases y with
  |non=>cases ry;exact PySem.EqNone.ne_str_none (cf I q (by simp))
  |bl j=>cases ry;exact PySem.EqMixed.ne_str_bool (cf I q (by simp))
  |int j=>obtain⟨t',rfl⟩:=ry;exact PySem.EqMixed.ne_str_int (cf I q (by simp))
  |str j=>obtain⟨t',rfl⟩:=ry;exact ne_str (cf I q (congrArg not Ad))
  |_=>exact Xs (show false=true from hs) W6
 |zI i =>
  obtain⟨t,rfl⟩:=rx;cases y with
  |zI j=>obtain⟨t',rfl⟩:=ry;exact PySem.W.ne_bytes (cf I q (congrArg not Aa))
  |_=>exact Xs (show false=true from hs) W6
 |_=>cases y<;>exact Xs (show false=true from hs) W6
theorem Cw:jk X (compareOp .Lt) (BN λi j=>.bl (decide (i<j))):=K6 λ_ _ _ _ _ _ _ q=>lt_int q
theorem C9:jk X (compareOp .LtE) (BN λi j=>.bl (decide (i<=j))):=K6 λ_ _ _ _ _ _ _ q=>le_int q
theorem iC:jk X (compareOp .Gt) (BN λi j=>.bl (decide (j<i))):=K6 λ_ _ _ _ _ _ _ q=>gt_int q
theorem uL:jk X (compareOp .IsNot) (λx y H Q=>y=.non/\Q (.bl (!decide (x=.non))) H):=by
 intro ac s σ H x y v u Q I rx ry h;obtain⟨rfl,q⟩:=h;cases ry;refine isnot_none_gen (cf I q ?_);cases x<;>first
  | (cases rx;rfl)
  | (obtain⟨t,rfl⟩:=rx;rfl)
theorem DP(b:Expr){op:CmpOp}(h:op≠ .In:=by decide)(h2:op≠ .NotIn:=by decide):behindInMarks op b=false:=by
 have e1:(op==CmpOp.In)=false:=by cases op<;>first|rfl|exact Xs rfl h
 have e2:(op==CmpOp.NotIn)=false:=by cases op<;>first|rfl|exact Xs rfl h2
 cases b<;>simp[behindInMarks,e1,e2]
theorem f_{op:CmpOp}{r:R2}(ho:jk X (compareOp op) r)(ha:PE X a ta)(hb:PE X b tb)(hm:behindInMarks op b=false):PE X (.Compare a [op] [b] pos) (hZ r ta tb):=by intro ac s σ H Q I h;exact wpAny_Compare1 (Lp ha hb I h λv u s2 x y H2 I2 rx ry q=>ho ac s2 σ H2 x y v u Q I2 rx ry q) hm
def rK(t:TE):TT:=λσ H Q=>t σ H λx H'=>∃k,x=.bl k/\Q k H'
theorem dj{op:CmpOp}{r:R2}(ho:jk X (compareOp op) r)(ha:PE X a ta)(hb:PE X b tb)(hm:behindInMarks op b=false):PT X (.Compare a [op] [b] pos) (rK (hZ r ta tb)):=by
 intro ac s σ H Q I h;refine wpAny_isTrue_Compare1 (bZ (ha ac s σ H _ I h) λv s1 ⟨x,H1,I1,r1,q1⟩=>bZ (hb ac s1 σ H1 _ I1 q1) λu s2 ⟨y,H2,I2,r2,q2⟩ =>
  bZ (ho ac s2 σ H2 x y v u _ I2 r1 r2 q2) λc s3 ⟨z,H3,I3,r3,k,e,q3⟩=>?_) hm
 subst e;cases r3;exact wpAny_truthy_bool ⟨H3,I3,q3⟩
def KH(r r':R2)(ta tb tc:TE):TE:=λσ H Q=>ta σ H λx H1=>tb σ H1 λy H2=>r x y H2 λz H3=>∃k,z=.bl k/\
 (if k=true then tc σ H3 λw' H4=>r' y w' H4 Q else Q (.bl false) H3)
theorem E1{op op':CmpOp}{r r':R2}(ho:jk X (compareOp op) r)(ho':jk X (compareOp op') r')(ha:PE X a ta)(hb:PE X b tb)(hc:PE X c tc)
  (hm:lastMarks [op,op'] [b,c]=false:=by with_unfolding_all rfl):PE X (.Compare a [op,op'] [b,c] pos) (KH r r' ta tb tc):=by
 intro ac s σ H Q I h;refine Compare_chain (bZ (ha ac s σ H _ I h) λv s1 ⟨x,H1,I1,r1,q1⟩=>chain_link (bZ (hb ac s1 σ H1 _ I1 q1) λu s2 ⟨y,H2,I2,r2,q2⟩ =>
  bZ (ho ac s2 σ H2 x y v u _ I2 r1 r2 q2) λd s3 ⟨z,H3,I3,r3,k,e,q3⟩=>?_)) hm
 subst e;cases r3;refine wpAny_truthy_bool ?_;cases k with
 |false=>exact ite_ff ⟨.bl false,H3,I3,rfl,q3⟩
 |true=>exact ite_tt (chain_last (bZ (hc ac s3 σ H3 _ I3 q3) λw' s4 ⟨z',H4,I4,r4,q4⟩=>ho' ac s4 σ H4 y z' u w' Q I4 r2 r4 q4))
def Om(K:XO)(x:V)(H:Hp)(k:Bool):Prop :=
 match x with
 | .non=>k=false
 | .bl b=>k=b
 | .int i=>k=(i != 0)
 | .str y=>y.length<=sizeLine/\k=((y.length:Int) != 0)
 | .zI y=>y.size<=sizeLine/\k=((y.size:Int) != 0)
 | .ref p=>(∃xs,aZ K H p xs/\k = !xs.isEmpty)\/(∃xs,aJ K H p xs/\k = !xs.isEmpty)\/∃kvs,H p=some (.dK kvs)/\k = !kvs.isEmpty
 |_=>False
theorem xw{κ:Type}{kvs:List (κ×V)}{vs:List (κ×Value)}(r:KV kvs vs):(!vs.isEmpty) = !kvs.isEmpty:=by cases r<;>rfl
theorem pV{xs:List V}{its:Z6}(r:Vals xs its):(!its.toArray.isEmpty) = !xs.isEmpty:=by cases r<;>simp
theorem mD:(sizeLine:Nat)<2 ^ 63:=by rw[sizeLine_eq];decide
theorem LJ:Q5 X (λx H Q=>∃k,Om X.K x H k/\Q k H):=by
 intro ac s σ H x v Q I rx h;obtain⟨k,e,q⟩:=h;have hl:=mD;have hs:sizeLine=16777216:=sizeLine_eq;cases x with
 |non =>cases rx;have e':k=false:=e;subst e';exact truthy_none ⟨H,I,q⟩
 |bl b =>cases rx;have e':k=b:=e;subst e';exact wpAny_truthy_bool ⟨H,I,q⟩
 |int i =>obtain⟨t,rfl⟩:=rx;have e':k=(i != 0):=e;subst e';exact PySem.P.truthy_int ⟨H,I,q⟩
 |str y =>obtain⟨t,rfl⟩:=rx;obtain⟨hy,e'⟩ : y.length<=sizeLine/\k=((y.length:Int) != 0):=e;subst e';exact PySem.P.truthy_str (by omega) ⟨H,I.tok _,q⟩
 |zI y =>obtain⟨t,rfl⟩:=rx;obtain⟨hy,e'⟩ : y.size<=sizeLine/\k=((y.size:Int) != 0):=e;subst e';exact PySem.W.truthy_bytes (by omega) ⟨H,I.tok _,q⟩
 |ref p =>
  cases rx;have e':(∃xs,aZ X.K H p xs/\k = !xs.isEmpty)\/(∃xs,aJ X.K H p xs/\k = !xs.isEmpty)\/∃kvs,H p=some (.dK kvs)/\k = !kvs.isEmpty:=e;rcases e' with⟨xs,hx,e'⟩|⟨xs,hx,e'⟩|⟨kvs,hx,e'⟩
  ·subst e';obtain⟨its,r,pl,hz⟩:=I.list hx;have hlen:=r.length;exact wpAny_truthy_list pl.isList (by simp only[W7];omega) ⟨H,I.tok _,by rw[pV r];exact q⟩
  ·subst e';obtain⟨its,r,pl,hz⟩:=I.tuple hx;have hlen:=r.length;exact truthy_tuple pl (by simp only[W7];omega) ⟨H,I.tok _,by rw[pV r];exact q⟩
  ·subst e';obtain⟨hz,hS,vs,r,m⟩ : kvs.length<=sizeLine/\(p==sysModules)=false/\∃vs,KV kvs vs/\s.heap.DictOf (bD X.prog X.w) p vs:=I.hok p _ hx;have hlen:kvs.length=vs.length:=Paired.length r;exact wpAny_truthy_dict hS m (by omega) ⟨H,I.tok _,by rw[xw r];exact q⟩
 |_=>exact(show False from e).elim
theorem vals1{x:V}{us:Z6}(r:Vals [x] us):∃u,us=[u]/\RelV x u:=by
 cases r with
 |cons r1 r2=>cases r2;exact⟨_,rfl,r1⟩
theorem vals2{x y:V}{us:Z6}(r:Vals [x,y] us):∃u w',us=[u,w']/\RelV x u/\RelV y w':=by
 cases r with
 |cons r1 r2 =>
  cases r2 with
  |cons r3 r4=>cases r4;exact⟨_,_,rfl,r1,r3⟩
theorem DW:eY X (.builtin "abs") (λxs H Q=>∃i,xs=[.int i]/\Q (.int (if i<0 then -i else i)) H):=by intro ac s σ H xs us Q I r h;obtain⟨i,rfl,q⟩:=h;obtain⟨u,rfl,t,rfl⟩:=vals1 r;exact call_abs_int λu tk=>⟨.int (if i<0 then -i else i),H,I.tok _,⟨_,rfl⟩,q⟩
theorem Bv(hc:X.calm=true):eY X (.builtin "max") (λxs H Q=>∃i j,xs=[.int i,.int j]/\Q (.int (if j > i then j else i)) H):=by
 intro ac s σ H xs us Q I r h;obtain⟨i,j,rfl,q⟩:=h;obtain⟨u,w',rfl,⟨t,rfl⟩,⟨t',rfl⟩⟩:=vals2 r;refine max_two_ints (I.ok.hd hc) λh' tk k=>⟨_,H,I.kept k,?_,q⟩;by_cases hj:j > i
 ·rw[Xu hj,Xu hj];exact⟨_,rfl⟩
 ·rw[Xt hj,Xt hj];exact⟨_,rfl⟩
theorem rP(hc:X.calm=true):eY X (.builtin "min") (λxs H Q=>∃i j,xs=[.int i,.int j]/\Q (.int (if j<i then j else i)) H):=by
 intro ac s σ H xs us Q I r h;obtain⟨i,j,rfl,q⟩:=h;obtain⟨u,w',rfl,⟨t,rfl⟩,⟨t',rfl⟩⟩:=vals2 r;refine min_two_ints (I.ok.hd hc) λh' tk k=>⟨_,H,I.kept k,?_,q⟩;by_cases hj:j<i
 ·rw[Xu hj,Xu hj];exact⟨_,rfl⟩
 ·rw[Xt hj,Xt hj];exact⟨_,rfl⟩
theorem cB:eY X (.type "int") (λxs H Q=>(∃i,xs=[.int i]/\Q (.int i) H)\/∃k,xs=[.bl k]/\Q (.int (if k then 1 else 0)) H):=by
 intro ac s σ H xs us Q I r h;rcases h with⟨i,rfl,q⟩|⟨k,rfl,q⟩
 ·obtain⟨u,rfl,t,rfl⟩:=vals1 r;exact call_int_int ⟨.int i,H,I,⟨_,rfl⟩,q⟩
 ·obtain⟨u,rfl,r1⟩:=vals1 r;cases r1;exact call_int_bool ⟨.int (if k then 1 else 0),H,I.tok _,⟨_,rfl⟩,q⟩
end
structure J7(h:Heap)(x dx C:Addr)(mA:Z2):Prop where
 obj:h.get? x=some (PySem.W.instObj C dx)
 ns:h.Ns1 dx mA
 ne:dx≠x
theorem md{h:Heap}{dx:Addr}{mA:Z2}(n:h.Ns1 dx mA):∃od,h.get? dx=some od/\∀name,PySem.W.lookIn name od=some (mA name):=by
 obtain⟨o,es,ep,ho,hd,hk,_,hm⟩:=n;refine⟨o,ho,λname=>?_⟩;have e:=hm name;unfold nsFind findBy at e;rw[←Array.find?_toList]at e;unfold PySem.W.lookIn;rw[hd];dsimp only;split
 ·rename_i y q;rw[q]at e;exact congrArg some e
 ·rename_i q;rw[q]at e;have a:es.toList.any (·.refKey)=false:=by rw[List.any_eq_false];intro y hy;obtain⟨z,t,hkey⟩:=hk y (Array.mem_toList_iff.mp hy);simp[DictEntry.refKey,hkey]
  have a':¬es.toList.any (·.refKey)=true:=by rw[a];exact W6
  rw[Xt a'];exact congrArg some e
theorem J7.look{h:Heap}{x dx C:Addr}{mA:Z2}(I:J7 h x dx C mA):∃od,PySem.W.InstAt h x (PySem.W.instObj C dx) C (some od)/\∀name,PySem.W.lookIn name od=some (mA name) :=
 let ⟨od,ho,hl⟩:=md I.ns
 ⟨od,⟨I.obj,rfl,rfl,ho⟩,hl⟩
def nA(f:Str)(v:V):List (Str×V)->List (Str×V)
 |[]=>[(f,v)]
 | (g,x)::r=>if g=f then(g,v)::r else(g,x)::nA f v r
theorem ej(f g:Str)(v:V):∀fs:List (Str×V),(nA f v fs).lookup g=if g=f then some v else fs.lookup g
 |[]=>by
  show List.lookup g [(f,v)]=_;by_cases h:g=f
  ·have hb:(g==f)=true:=beq_iff_eq.mpr h;simp only[List.lookup,hb,Xu h]
  ·have hb:(g==f)=false:=beq_eq_false_iff_ne.mpr h;simp only[List.lookup,hb,Xt h]
 | (k,x)::r=>by
  have ih:=ej f g v r;rw[show nA f v ((k,x)::r)=(if k=f then(k,v)::r else(k,x)::nA f v r) from rfl];by_cases hk:k=f
  ·rw[Xu hk];by_cases h:g=k
   ·have hb:(g==k)=true:=beq_iff_eq.mpr h;simp only[List.lookup,hb,Xu (h.trans hk)]
   ·have hb:(g==k)=false:=beq_eq_false_iff_ne.mpr h;simp only[List.lookup,hb,Xt (λe:g=f=>h (e.trans hk.symm))]
  ·rw[Xt hk];by_cases h:g=k
   ·have hb:(g==k)=true:=beq_iff_eq.mpr h;simp only[List.lookup,hb,Xt (λe:g=f=>hk (h.symm.trans e))]
   ·have hb:(g==k)=false:=beq_eq_false_iff_ne.mpr h;simp only[List.lookup,hb];exact ih
theorem iL.some_of{v:V}{o:Z7}(r:iL (some v) o):∃u,o=some u/\RelV v u:=by
 cases o with
 |none=>exact(show False from r).elim
 |some u=>exact⟨u,rfl,r⟩
theorem iL.none_of{o:Z7}(r:iL none o):o=none:=by
 cases o with
 |none=>rfl
 |some u=>exact(show False from r).elim
theorem Bm{v:V}{u:Value}(r:RelV v u):PySem.W.handedIn u=true:=by
 cases v with
 |non=>cases(show u=Value.none from r);rfl
 |bl b=>cases(show u=Value.bool b from r);rfl
 |int i=>obtain⟨t,e⟩:=(show∃t,u=Value.int i t from r);cases e;rfl
 |str x=>obtain⟨t,e⟩:=(show∃t,u=Value.str x t from r);cases e;rfl
 |zI b=>obtain⟨t,e⟩:=(show∃t,u=Value.bytes b t from r);cases e;rfl
 |flt b=>obtain⟨t,e⟩:=(show∃t,u=Value.float b t from r);cases e;rfl
 |ref a=>cases(show u=Value.ref a from r);rfl
 |ty n=>cases(show u=Value.type n from r);rfl
section
variable{P:Program}{w:World}{H H':Hp}{h h':Heap}{a C dx:Addr}{fs fs':List (Str×V)}
theorem Iw(hok:jr P w H h)(e:H a=some (.ins C dx fs)):∃mA,J7 h a dx C mA/\(∀f,iL (fs.lookup f) (mA f))/\PySem.Within mA (fs.map (·.1))/\fs.length<=1000/\H dx=some (.own a):=by obtain⟨d,z,ne,ob,mA,n,r,q⟩:=(show cw P w H h a (.ins C dx fs) from hok a _ e);exact⟨mA,⟨ob,n,ne⟩,r,q,z,d⟩
end
structure Q7(K:XO)(C:Addr):Prop where
 pg:PySem.W.plainGet K C Str.empty=true
 hd:PySem.W.hasDictIn K C=true
 po:PySem.W.plainOver K C=true
 sa:PySem.W.findIn K (.ref C) "__setattr__"=some (some (.builtin "object.__setattr__"))
theorem Q7.get{K:XO}{C:Addr}(c:Q7 K C)(f:Str):PySem.W.plainGet K C f=true:=c.pg
def jb(K:XO)(C:Addr)(f:Str):Prop:=PySem.W.findIn K (.ref C) f=some none
section
variable{X:Cx}{ac:Z1}{σ:St}{H:Hp}{s:Shared}{a C dx:Addr}{fs:List (Str×V)}{f:Str}{v:V}{A:Around}{E:Z0}
theorem Iy{prog:Program}{w:World}{env:Env}{e:Expr}{f:Str}{pos:Pos}{s:Shared}{Q:Z0}(hb:attributeBase e f env (eval e env)=eval e env)
  (h:wpAny (model prog w) A (eval e env) (λo s₁=>wpAny (model prog w) A (getAttr o f true) Q E s₁) E s):wpAny (model prog w) A (eval (.Attribute e f pos) env) Q E s :=
 Attribute_any_ h (by rw[arm_eval_Attribute,hb])
end
section
variable{X:Cx}{ac:Z1}{σ:St}{H:Hp}{s:Shared}{A:Around}{E:Z0}{Q:Z0}{c:Value}{b:Bool}
inductive kL(K:XO)(H:Hp):V->Value->Prop where
 |non:kL K H .non (.type "NoneType")
 |bl (x:Bool):kL K H (.bl x) (.type "bool")
 |int (i:Int):kL K H (.int i) (.type "int")
 |str (x:Str):kL K H (.str x) (.type "str")
 |flt (x:UInt64):kL K H (.flt x) (.type "float")
 |lst {a:Addr} {xs:List V} (e:H a=some (.lst xs)):kL K H (.ref a) (.type "list")
 |yM {a:Addr} {o:Obj} {xs:List V} (e:H a=some (.yM o (.lst xs))):kL K H (.ref a) (.type "list")
 |tup {a:Addr} {xs:List V} (e:H a=some (.tup xs)):kL K H (.ref a) (.type "tuple")
 |dK {a:Addr} {kvs:List (Key×V)} (e:H a=some (.dK kvs)):kL K H (.ref a) (.type "dict")
 |dT {a:Addr} {kvs:List (List cS×V)} (e:H a=some (.dT kvs)):kL K H (.ref a) (.type "dict")
 |ins {a C dx:Addr} {fs:List (Str×V)} (e:H a=some (.ins C dx fs)) (cl:Q7 K C) (ha:PySem.W.findIn K (.ref C) "__class__"=some (some (.builtin "object.__class__")))
   (hn:PySem.W.specialIn K (.builtin "object.__class__") "__get__"=some (some (.builtin "getset_descriptor.__get__"))) (htk:PySem.W.takesIn K (.builtin "object.__class__")=some true)
   (hm:PySem.W.mroIn K C (.type "object")=some true):kL K H (.ref a) (.ref C)
theorem rH{x:V}{u t:Value}(I:Inv X ac σ H s)(rx:RelV x u)(ty:kL X.K H x t)(e:PySem.W.kitOne X.K t c=some b)(h:∀tk,Q (.bool b) {s with toks:=tk}) :
  wpAny (model X.prog X.w) A (call (.builtin "isinstance") [u,c]) Q E s:=by
 cases ty with
 |non=>cases(show u=Value.none from rx);exact PySem.W.kia_one PySem.W.kitx_none I.j9 True.intro e (λz=>nomatch z) h
 |bl y=>cases(show u=Value.bool y from rx);exact PySem.W.kia_one PySem.W.kitx_bool I.j9 True.intro e (λz=>nomatch z) h
 |int i=>obtain⟨t,q⟩:=(show∃t,u=Value.int i t from rx);cases q;exact PySem.W.kia_one PySem.W.kitx_int I.j9 True.intro e (λz=>nomatch z) h
 |str y=>obtain⟨t,q⟩:=(show∃t,u=Value.str y t from rx);cases q;exact PySem.W.kia_one PySem.W.kitx_str I.j9 True.intro e (λz=>nomatch z) h
 |flt y=>obtain⟨t,q⟩:=(show∃t,u=Value.float y t from rx);cases q;exact PySem.W.kia_one PySem.W.kitx_float I.j9 True.intro e (λz=>nomatch z) h
 | @lst a xs ea =>cases(show u=Value.ref a from rx);obtain⟨_,_,n,_,h1⟩:=(show cw X.prog X.w H s.heap a (.lst xs) from I.hok a _ ea);exact PySem.W.kia_one PySem.W.kitx_list I.j9 ⟨_,h1,rfl⟩ e (λz=>nomatch z) h
 | @yM a ob xs ea =>cases(show u=Value.ref a from rx);obtain⟨_,_,_,n,_,h1⟩:=(show cw X.prog X.w H s.heap a (.yM ob (.lst xs)) from I.hok a _ ea);exact PySem.W.kia_one PySem.W.kitx_list I.j9 ⟨_,h1,rfl⟩ e (λz=>nomatch z) h
 | @tup a xs ea =>cases(show u=Value.ref a from rx);obtain⟨_,_,_,p⟩:=(show cw X.prog X.w H s.heap a (.tup xs) from I.hok a _ ea);obtain⟨o,h1,h2,_⟩:=p;exact PySem.W.kia_one PySem.W.kitx_tuple I.j9 ⟨o,h1,h2⟩ e (λz=>nomatch z) h
 | @dK a kvs ea =>cases(show u=Value.ref a from rx);obtain⟨_,_,vs,_,p⟩:=(show cw X.prog X.w H s.heap a (.dK kvs) from I.hok a _ ea);obtain⟨o,es,ep,h1,h2,_⟩:=p;exact PySem.W.kia_one PySem.W.kitx_dict I.j9 ⟨o,h1,h2.1⟩ e (λz=>nomatch z) h
 | @dT a kvs ea =>cases(show u=Value.ref a from rx);obtain⟨_,_,xs,_,o,es,ep,h1,h2,_⟩:=(show cw X.prog X.w H s.heap a (.dT kvs) from I.hok a _ ea);exact PySem.W.kia_one PySem.W.kitx_dict I.j9 ⟨o,h1,h2.1⟩ e (λz=>nomatch z) h
 | @ins a C dx fs ea cl ha hn htk hm =>cases(show u=Value.ref a from rx);obtain⟨mA,O,_⟩:=Iw I.hok ea;obtain⟨od,J,_⟩:=O.look;exact PySem.W.kia_one (PySem.W.kitx_own (cl.get _) cl.hd ha hn htk hm) I.j9 J e (λz=>nomatch z) h
end
structure eV(k:Nat)(A:Around):Prop where
 hd:A.handled=none
 dp:A.depth+3*k+5<recursionLimit
 un:A.units+16*k+200<cLine
theorem eV.mono{j k:Nat}{A:Around}(r:eV k A)(h:j<=k):eV j A:=⟨r.hd,by have:=r.dp;omega,by have:=r.un;omega⟩
theorem eV.deeper{k:Nat}{A:Around}(r:eV (k+1) A)(env:Env):eV k (A.deeper env) :=
 ⟨r.hd,by have:=r.dp;show A.depth+1+3*k+5<_;omega,by have:=r.un;show A.units+3+16*k+200<_;omega⟩
theorem zg{A:Around}{C:Addr}{us:Z6}{kw:List (Str×Value)}:(A.under (.builtin "type.__call__" ⟨.ref C::us,kw⟩)).depth=A.depth+1:=by
 first|rfl|simp[Around.under,Code.weight,Code.isCreation,Code.isGuard,Code.isCaller,Code.frames,Code.isFrame,guardIds]
theorem x8{A:Around}{C:Addr}{us:Z6}{kw:List (Str×Value)}:(A.under (.builtin "type.__call__" ⟨.ref C::us,kw⟩)).units=A.units+1:=by
 first|rfl|simp[Around.under,Code.cUnits,Code.frames,Code.isFrame]
theorem eV.make{k:Nat}{A:Around}(r:eV (k+1) A)(C:Addr)(us:Z6)(kw:List (Str×Value)):eV k (A.under (.builtin "type.__call__" ⟨.ref C::us,kw⟩)) :=
 ⟨r.hd,by have:=r.dp;rw[zg];omega,by have:=r.un;rw[x8];omega⟩
theorem eV.depth{k:Nat}{A:Around}(r:eV k A):A.depth<recursionLimit:=by have:=r.dp;omega
theorem eV.units{k:Nat}{A:Around}(r:eV k A):A.units+64<cLine:=by have:=r.un;omega
def fR:TA:=λ_ H Q=>Q [] H
def bq(ta:TE)(tr:TA):TA:=λσ H Q=>ta σ H λx H1=>tr σ H1 λxs H2=>Q (x::xs) H2
section
variable{X:Cx}{e:Expr}{es:List Expr}{te:TE}{t:TA}{pos:Pos}
theorem ah:PA X [] fR:=λ_ _ _ _ H Q I h=>Calls.spliced_nil ⟨[],H,I,.nil,h⟩
theorem ae(ha:PE X e te)(hr:PA X es t)(hs:starEach (e::es) X.env=(false,eval e X.env)::starEach es X.env:=by rfl):PA X (e::es) (bq te t):=by intro pos ac s σ H Q I h;rw[hs];show wpAny _ _ (spliced ((false,eval e X.env)::backTo pos (starEach es X.env))) _ _ s;refine Calls.spliced_cons (bZ (ha ac s σ H _ I h) λu s1 zz=>?_);obtain⟨x,H1,I1,r1,q1⟩:=zz;exact bZ (hr pos ac s1 σ H1 _ I1 q1) λus s2 ⟨xs,H2,I2,r2,q2⟩=>⟨x::xs,H2,I2,.cons r1 r2,q2⟩
def IE(t:TA):TE:=λσ H Q=>t σ H λxs H1=>xs.length<=sizeLine/\∀p,H1 p=none->Q (.ref p) (upd H1 p (.tup xs))
def yP(t:TA):TE:=λσ H Q=>t σ H λxs H1=>xs.length<=sizeLine/\∀p,H1 p=none->Q (.ref p) (upd H1 p (.lst xs))
theorem aH{x1}(h:PA X es t):PE X (.Tuple es x1 pos) (IE t):=by intro ac s σ H Q I hq;refine wpAny_Tuple_spliced (bZ (h pos ac s σ H _ I hq) λus s1 ⟨xs,H1,I1,r,z,q⟩=>⟨by rw[←r.length];exact z,?_⟩);have hf:H1 s1.heap.objs.size=none:=I1.hok.fresh (WR _);refine⟨.ref s1.heap.objs.size,upd H1 s1.heap.objs.size (.tup xs),I1.laid (t':=s1.toks) (λb u e=>WN _ e) (WR _) ?_,rfl,q _ hf⟩;exact⟨z,us,r,⟨_,WQ _ rfl,rfl,⟨_,rfl⟩,rfl⟩⟩
theorem aP(h:PA X es t):PE X (.List es pos) (yP t):=by intro ac s σ H Q I hq;refine wpAny_List_spliced (bZ (h pos ac s σ H _ I hq) λus s1 ⟨xs,H1,I1,r,z,q⟩=>⟨by rw[←r.length];exact z,?_⟩);have hf:H1 s1.heap.objs.size=none:=I1.hok.fresh (WR _);refine⟨.ref s1.heap.objs.size,upd H1 s1.heap.objs.size (.lst xs),I1.laid (t':=s1.toks) (λb u e=>WN _ e) (WR _) ?_,rfl,q _ hf⟩;exact⟨z,us,0,r,WQ _ rfl⟩
end
abbrev Sp:=List V->Hp->VK->XK->Prop
abbrev rq:=List Env->Hp->Shared->XK->Z0
structure yg(P:Program)(w:World)(K:XO)(mg:Z2)(base:Heap)(A:Around)(outer:List Env)(s:Shared)(H:Hp):Prop where
 frames:A.frames=some outer
 mod:Mod K mg base
 bs:∀b o,base.get? b=some o->s.heap.get? b=some o/\H b=none
 Ce:base.objs.size<=s.heap.objs.size
 kS:s.heap.FunFrames base outer
 FL:∀b∈frs outer,H b=none
 hok:jr P w H s.heap
 bare:AllBare s.gens
def CE(outer:List Env)(P:Program)(w:World)(H:Hp)(s:Shared)(Q:VK)(u:Value)(s':Shared):Prop :=
 ∃v H',s'.os=s.os/\AllBare s'.gens/\Un (frs outer) [] H H' s.heap s'.heap/\jr P w H' s'.heap/\RelV v u/\Q v H'
def CR(CX:rq)(outer:List Env)(P:Program)(w:World)(H:Hp)(s:Shared)(Q:VK)(E:XK)(r:Result)(s':Shared):Prop :=
 match r with
 | .ok (.ret u)=>CE outer P w H s Q u s'
 | .ok _=>False
 | .error e=>CX outer H s E e s'
structure fE(P:Program)(w:World)(K:XO)(mg:Z2)(base:Heap)(CX:rq)(k:Nat)(f:Addr)(fd:FuncData)(ps:List Str)(sp:Sp):Prop where
 len:∀vs H Q E,sp vs H Q E->vs.length=ps.length
 run:∀(A:Around)(outer:List Env)(s:Shared)(H:Hp)(args:Args)(us:Z6)(vs:List V)(Q:VK)(E:XK),eV k A->yg P w K mg base A outer s H->BindsTo s fd args (ps.zip us)->Vals vs us->sp vs H Q E->
  codeAny (model P w) A (.call (.ref f) args) (CR CX outer P w H s Q E) s
theorem fE.mono{P:Program}{w:World}{K:XO}{mg:Z2}{base:Heap}{CX:rq}{j k:Nat}{f:Addr}{fd:FuncData}{ps:List Str}{sp:Sp}(F:fE P w K mg base CX j f fd ps sp)(h:j<=k) :
  fE P w K mg base CX k f fd ps sp:=⟨F.len,λA outer s H args us vs Q E hr=>F.run A outer s H args us vs Q E (hr.mono h)⟩
theorem fE.imp{P:Program}{w:World}{K:XO}{mg:Z2}{base:Heap}{CX:rq}{k:Nat}{f:Addr}{fd:FuncData}{ps:List Str}{sp SD:Sp}(F:fE P w K mg base CX k f fd ps sp)
  (h:∀vs H Q E,SD vs H Q E->sp vs H Q E):fE P w K mg base CX k f fd ps SD :=
 ⟨λvs H Q E q=>F.len vs H Q E (h _ _ _ _ q),λA outer s H args us vs Q E hr he hb hv hs=>F.run A outer s H args us vs Q E hr he hb hv (h _ _ _ _ hs)⟩
theorem yg.make{P:Program}{w:World}{K:XO}{mg:Z2}{base:Heap}{A:Around}{outer:List Env}{s:Shared}{H:Hp}(e:yg P w K mg base A outer s H)(C:Addr)(us:Z6)(kw:List (Str×Value)) :
  yg P w K mg base (A.under (.builtin "type.__call__" ⟨.ref C::us,kw⟩)) outer s H:=⟨by first|exact e.frames | (simpa[Around.under,Code.envs,Code.isFrame,pushEnvs] using e.frames),e.mod,e.bs,e.Ce,e.kS,e.FL,e.hok,e.bare⟩
section
variable{X:Cx}{ac:Z1}{σ:St}{H:Hp}{s s':Shared}
theorem Inv.env0(I:Inv X ac σ H s):yg X.prog X.w X.K X.mg X.base X.A X.stack s H :=
 ⟨I.ok.frames,I.ok.mod,I.bs,WS I.ok.Ce I.sz,I.stack,I.ot,I.hok,I.bare⟩
theorem Inv.after{Q:VK}{u:Value}(I:Inv X ac σ H s)(h:CE X.stack X.prog X.w H s Q u s'):EP X ac σ Q u s':=by obtain⟨v,H',os,bare,un,hok,r,q⟩:=h;obtain⟨hh,g,d,t,os'⟩:=s';obtain rfl:os'=s.os:=os;exact⟨v,H',I.call (h':=hh) (g':=g) (d':=d) (t':=t) (ch:=[]) un hok bare (λb z=>Xs z (by simp)),r,q⟩
end
def jh(sp:Sp)(IS:List V)(E:XK)(t:TA):TE:=λσ H Q=>t σ H λvs H1=>sp (vs++IS) H1 Q E
def Binds(K:XO)(fd:FuncData)(ps:List Str)(ds:Z6):Prop :=
 ∀(s:Shared)(us:Z6),K.In s.heap->(us++ds).length=ps.length->BindsTo s fd ⟨us,[]⟩ (ps.zip (us++ds))
theorem Binds.all{K:XO}{fd:FuncData}{ps:List Str}(h:∀us:Z6,us.length=ps.length->bindArgs fd ⟨us,[]⟩=pure (ps.zip us)):Binds K fd ps []:=λs us _ hl=>by rw[XC]at hl⊢;exact .of_eq (h us hl)
def Passes(CX:rq)(X:Cx)(E:XK):Prop:=∀(ac:Z1)(σ:St)(H:Hp)(s:Shared)(e:Value)(s':Shared),Inv X ac σ H s->CX X.stack H s E e s'->X.xe e s'
section
variable{X:Cx}{CX:rq}{k:Nat}{f C:Addr}{fd:FuncData}{ps:List Str}{sp:Sp}{IS:List V}{ds:Z6}{E:XK}{x m:Str}{p pos apos:Pos}{e o:Expr}{es:List Expr}{ta:TE}{t:TA}
theorem C5{ac:Z1}{σ:St}{H:Hp}{s:Shared}{Q:VK}{us:Z6}{vs:List V}(F:fE X.prog X.w X.K X.mg X.base CX k f fd ps sp)(hr:eV k X.A)(hb:Binds X.K fd ps ds)(hd:Vals IS ds)(hx:Passes CX X E)
  (I:Inv X ac σ H s) (r:Vals vs us) (h:sp (vs++IS) H Q E):wpAny (model X.prog X.w) X.A (call (.ref f) us) (EP X ac σ Q) X.xe s:=by
 have r2:Vals (vs++IS) (us++ds):=r.append hd;have hl:(us++ds).length=ps.length:=by rw[←r2.length];exact F.len _ _ _ _ h
 refine wpAny_call (codeAny_mono (F.run X.A X.stack s H ⟨us,[]⟩ (us++ds) (vs++IS) Q E hr I.env0 (hb s us I.j9 hl) r2 h) λr s' hq=>?_);cases r with
 |error e=>exact hx ac σ H s e s' I hq
 |ok fl =>
  cases fl with
  |ret u=>exact I.after hq
  |next=>exact Xy hq
  |brk=>exact Xy hq
  |cont=>exact Xy hq
theorem F0(F:fE X.prog X.w X.K X.mg X.base CX k f fd ps sp)(hr:eV k X.A)(hg:Gl X x)(hm:X.mg x=some (.ref f))(hk:PySem.W.keepIn X.K (.ref f)=true)(hb:Binds X.K fd ps ds)(hd:Vals IS ds)(hx:Passes CX X E)
  (ha:PA X (e::es) t) (hdb:(x==("__debug__" : Str))=false:=by decide) (he:starEach (e::es) X.env=(false,eval e X.env)::starEach es X.env:=by rfl) (hpl:(backTo pos (starEach es X.env)).any (·.1)=false:=by rfl) :
  PE X (.Call (.Name x p) (e::es) [] pos) (jh sp IS E t):=by
 intro ac s σ H Q I h;refine wpAny_Call_Name_kw (l0 I hg hm ?_ hdb);refine PySem.W.callWith_K (h₀:=X.base) I.ok.mod.Ko hk (bZ (ha pos ac s σ H _ I h) λus s1 ⟨vs,H1,I1,r,q⟩=>⟨I1.j9,?_⟩) he hpl;exact C5 F hr hb hd hx I1 r q
end
structure ay(N P:List Str)(sc:Scope):Prop where
 kind:sc.kind=.function
 co:sc.isCoroutine=false
 gen:sc.isGenerator=false
 nd:N.Nodup
 pre:N.take P.length=P
 par:∀x∈P,sc.names.lookup x=some .local\/sc.names.lookup x=some .cell
 JQ:∀y∈sc.names,y.2≠ .free
theorem rY{kindOf:Str->Option NameKind}{x:Str}:∀{binds:List (Str×Value)}{m:Z2},(∀v,(x,v)∉binds)->bindL kindOf binds m x=m x
 |[],_,_=>rfl
 | (n,v)::r,m,h=>by
  unfold bindL;rw[rY λw hw=>h w (W5 _ hw)];split
  ·have:x≠n:=by rintro rfl;exact h v Xo
   simp[this]
  ·rfl
theorem rR{kindOf:Str->Option NameKind}{x:Str}:∀{binds:List (Str×Value)}{m:Z2},(∀v,(x,v)∉binds)->bindC kindOf binds m x=m x
 |[],_,_=>rfl
 | (n,v)::r,m,h=>by
  unfold bindC;rw[rR λw hw=>h w (W5 _ hw)];split
  ·rfl
  ·have:x≠n:=by rintro rfl;exact h v Xo
   simp[this]
theorem rO{kindOf:Str->Option NameKind}{x:Str}{v:Value}:∀{P:List Str}{vs:Z6}{i:Nat}{m:Z2},P.Nodup->P[i]? = some x->vs[i]? = some v->kindOf x=some .local->
  bindL kindOf (P.zip vs) m x=some v
 |[],_,_,_,_,h,_,_=>by simp at h
 |_::_,[],_,_,_,_,h,_=>by simp at h
 |p::P,w::vs,0,m,nd,h1,h2,hk=>by simp at h1 h2;subst h1;subst h2;show bindL kindOf ((p,w)::P.zip vs) m p=_;unfold bindL;rw[rY λv hv=>(List.nodup_cons.mp nd).1 (List.of_mem_zip hv).1,Xu hk];simp
 |p::P,w::vs,i+1,m,nd,h1,h2,hk=>by show bindL kindOf ((p,w)::P.zip vs) m x=_;unfold bindL;exact rO (i:=i) (List.nodup_cons.mp nd).2 (by simpa using h1) (by simpa using h2) hk
theorem sy{kindOf:Str->Option NameKind}{x:Str}{v:Value}:∀{P:List Str}{vs:Z6}{i:Nat}{m:Z2},P.Nodup->P[i]? = some x->vs[i]? = some v->kindOf x≠some .local->
  bindC kindOf (P.zip vs) m x=some v
 |[],_,_,_,_,h,_,_=>by simp at h
 |_::_,[],_,_,_,_,h,_=>by simp at h
 |p::P,w::vs,0,m,nd,h1,h2,hk=>by simp at h1 h2;subst h1;subst h2;show bindC kindOf ((p,w)::P.zip vs) m p=_;unfold bindC;rw[rR λv hv=>(List.nodup_cons.mp nd).1 (List.of_mem_zip hv).1,Xt hk];simp
 |p::P,w::vs,i+1,m,nd,h1,h2,hk=>by show bindC kindOf ((p,w)::P.zip vs) m x=_;unfold bindC;exact sy (i:=i) (List.nodup_cons.mp nd).2 (by simpa using h1) (by simpa using h2) hk
def start(N:List Str)(vs:List V):St:=vs.map some++List.replicate (N.length-vs.length) none
def qU(CX:rq)(P:Program)(w:World)(K:XO)(mg:Z2)(base:Heap)(N:List Str)(qual:Str)(scope:Scope)(f:Addr)(cd:Value)(A:Around)(outer:List Env)(s:Shared)(H:Hp)(E:XK):Cx where
 prog:=P
 w:=w
 K:=K
 mg:=mg
 base:=base
 A:=A.deeper (envOfC qual scope s.heap.objs.size f cd)
 N:=N
 s₀:=s
 H₀:=H
 env:=envOfC qual scope s.heap.objs.size f cd
 outer:=outer
 stack:=envOfC qual scope s.heap.objs.size f cd::outer
 ex:=[]
 calm:=true
 fn:=λ_=>true
 pn:=[]
 xe:=λe s'=>wpAny (model P w) (A.deeper (envOfC qual scope s.heap.objs.size f cd)) (leaving (envOfC qual scope s.heap.objs.size f cd) e) (λ_ s''=>CX outer H s E e s'') (λe' s''=>CX outer H s E e' s'') s'
theorem vb{sc:Scope}{n:Nat}{x:Str}(h:sc.names.lookup x=some .cell):∃c,(cellsFrom n sc.names []).lookup x=some c:=by have q:=PySem.W.cellsFrom_some sc.names n [] (.inl h);exact Option.isSome_iff_exists.mp q
theorem Bf{CX:rq}{P:Program}{w:World}{K:XO}{mg:Z2}{base:Heap}{N ps:List Str}{qual:Str}{scope:Scope}{f:Addr}{cd:Value}{A:Around}{outer:List Env}{s s1:Shared}{H:Hp}{E:XK}{us:Z6}{vs:List V}
  (S:ay N ps scope) (hd:A.handled=none) (e0:yg P w K mg base A outer s H) (hl:vs.length=ps.length) (r:Vals vs us)
  (x:InCallC s s.heap.objs.size (bindL (envOfC qual scope s.heap.objs.size f cd).kindOf (ps.zip us) λ_=>none) (cellsFrom (s.heap.objs.size+1) scope.names []) (bindC (envOfC qual scope s.heap.objs.size f cd).kindOf (ps.zip us) λ_=>none) s1) :
  Inv (qU CX P w K mg base N qual scope f cd A outer s H E) [] (start N vs) H s1:=by
 have hpl:ps.length<=N.length:=by have:=congrArg List.length S.pre;rw[Xj]at this;omega
 obtain⟨h1,tk,rfl,hk⟩:=x.done;have Nb:∀b:Addr,b∉(qU CX P w K mg base N qual scope f cd A outer s H E).ex:=λb z=>Xs (show b∈([]:Z8) from z) (by simp);refine⟨⟨e0.mod,S.kind,rfl,rfl,WR _,λy z c h1 h2=>?_,λy hy=>?_,λy c _ h=>?_,λ_=>hd,Around.frames_deeper e0.frames,.inr ⟨rfl,rfl⟩,λb z=>Xs z (Nb b),e0.bs,e0.Ce,λb _ _=>Nb b,λb z=>Xs z (Nb b),e0.kS,e0.FL⟩,
  rfl,e0.bare,Un.kept hk,⟨_,x.toInCall.ns,λi y v h1 h2 h3=>?_⟩,λy c h=>⟨_,x.cell y c h⟩,e0.hok.fresh (WR _),λy c h=>?_,λp hp=>Xs (show p∈([]:Z1) from hp) (by simp),e0.hok.kept hk,?_⟩
 ·exact name_of_addr x.apart (PySem.mem_of_lookup h1) (PySem.mem_of_lookup h2)
 ·have hy:scope.names.lookup y=some .cell\/scope.names.lookup y=some .free:=hy;rcases hy with hy|hy
  ·exact vb hy
  ·exact Xs rfl (S.JQ _ (PySem.mem_of_lookup hy))
 ·exact Nat.le_of_lt (x.above y c (PySem.mem_of_lookup h))
 ·have hi:i<vs.length:=by
   unfold start at h2;by_cases hi:i<vs.length
   ·exact hi
   ·rw[Xg (by simpa using hi)]at h2;rw[List.getElem?_replicate]at h2;split at h2<;>cases h2
  have ha:vs[i]? = some v:=by
   unfold start at h2;rw[Xh (by simpa using hi),Xi]at h2;cases e:vs[i]? with
   |none=>rw[e]at h2;cases h2
   |some a=>rw[e]at h2;cases h2;rfl
  obtain⟨u,hu,rv⟩:=r.get ha;have hp:ps[i]? = some y:=by rw[←S.pre,List.getElem?_take_of_lt (by omega)];exact h1
  have SU:ps.Nodup:=by rw[←S.pre];exact S.nd.sublist (List.take_sublist _ _)
  refine⟨u,rv,?_⟩;rcases S.par y (W4 hp)with k|k
  ·exact .inl ⟨k,rO SU hp hu k⟩
  ·obtain⟨c,e⟩:=vb (n:=s.heap.objs.size+1) k;refine .inr ⟨.inl k,c,e,?_⟩;have q:=x.cell y c e;rw[sy SU hp hu (by show scope.names.lookup y≠_;rw[k];decide)]at q;exact q
 ·exact e0.hok.fresh (Nat.le_of_lt (x.above y c (PySem.mem_of_lookup h)))
 ·unfold start;show _=N.length;rw[WW,WV,List.length_replicate];omega
theorem Jg{CX:rq}{P:Program}{w:World}{K:XO}{mg:Z2}{base:Heap}{k:Nat}{f:Addr}{name qual:Str}{params:Arguments}{body:List Stmt}{scope:Scope}{dV kV doc pm cdv ct oc:Value}{an od:Option Addr}
  {osl:Array (Z7)} {N ps:List Str} {sp:Sp} (lk:K.lookup f=some ⟨oc,od,.func (PySem.W.fnOf name qual params body scope dV kV doc pm an cdv ct),osl⟩) (hcd:PySem.W.codeIn K cdv qual=true) (S:ay N ps scope)
  (len:∀vs H Q E,sp vs H Q E->vs.length=ps.length)
  (hbody:∀(A:Around)(outer:List Env)(s:Shared)(H:Hp)(vs:List V)(Q:VK)(E:XK),eV k (A.deeper (envOfC qual scope s.heap.objs.size f cdv))->sp vs H Q E->
   ∃t,oE (qU CX P w K mg base N qual scope f cdv A outer s H E) body t/\t {nx:=λ_ H'=>Q .non H',rt:=Q} (start N vs) H) :
  fE P w K mg base CX (k+1) f (PySem.W.fnOf name qual params body scope dV kV doc pm an cdv ct) ps sp:=by
 refine⟨len,λA outer s H args us vs Q E hr e0 hb r hsp=>?_⟩;have hl:=len _ _ _ _ hsp;have KX:K.In s.heap:=e0.mod.Ko.keeps λb o e=>(e0.bs b o e).1;have lim:s.heap.NoLimit:=e0.mod.nolimit.keeps λb o e=>(e0.bs b o e).1;have hkind:∀y∈ps.zip us,scope.names.lookup y.1=some .local\/(scope.names.lookup y.1=some .cell/\((cellsFrom (s.heap.objs.size+1) scope.names []).lookup y.1).isSome=true):=λ⟨n,v⟩ hy=>by
  rcases S.par n (List.of_mem_zip hy).1 with q|q
  ·exact .inl q
  ·exact .inr ⟨q,PySem.W.cellsFrom_some _ _ _ (.inl q)⟩
 refine codeAny_call_function hr.depth (KX _ _ lk) rfl S.co S.gen rfl (PySem.W.codeRec_of KX hcd) (hb _ _ _ _ ?_);refine wpAny_newFunctionEnv_cells S.kind hkind λenv he s1 x=>?_;subst he;refine⟨lim.keeps x.toInCall.keep,codeAny_func ?_⟩;obtain⟨t,ht,hq⟩:=hbody A outer s H vs Q E (hr.deeper _) hsp;have I:Inv (qU CX P w K mg base N qual scope f cdv A outer s H E) [] (start N vs) H s1:=Bf S hr.hd e0 hl r x;refine Xl (ht [] s1 (start N vs) H _ I hq) (λfl s' hs=>?_) λe s' hs=>hs;have fin:∀{σ':St}{H':Hp}{v:V}{u:Value},Inv (qU CX P w K mg base N qual scope f cdv A outer s H E) [] σ' H' s'->RelV v u->Q v H'->CE outer P w H s Q u s' :=
  λ{σ' H' v u} J rv q=>⟨v,H',J.os,J.bare,J.base,J.hok,rv,q⟩
 cases fl with
 |ret u =>obtain⟨v,σ',H',J,rv,q⟩:=hs;exact fin J rv q
 |next =>obtain⟨σ',H',J,q⟩:=hs;exact fin (v:=V.non) (u:=Value.none) J rfl q
 |brk =>obtain⟨_,_,_,q⟩:=hs;exact Xy q
 |cont =>obtain⟨_,_,_,q⟩:=hs;exact Xy q
section
variable{X:Cx}{x:Str}{p pos:Pos}{e:Expr}{es:List Expr}{t:TA}{id T:String}{r:List V->Hp->VK->Prop}
def Ms(r:List V->Hp->VK->Prop)(t:TA):TE:=λσ H Q=>t σ H λvs H1=>r vs H1 Q
theorem aW(hc:eY X (.builtin id) r)(hg:Gl X x)(hm:X.mg x=none)(hv:bootBuiltins x=some (.builtin id))(ha:PA X (e::es) t)(hn:x≠"__name__":=by decide)(hdb:(x==("__debug__" : Str))=false:=by decide)
  (he:starEach (e::es) X.env=(false,eval e X.env)::starEach es X.env:=by rfl) (hpl:(backTo pos (starEach es X.env)).any (·.1)=false:=by rfl):PE X (.Call (.Name x p) (e::es) [] pos) (Ms r t):=by
 intro ac s σ H Q I h;refine wpAny_Call_Name_kw (iR I hg hm hv ?_ hn hdb);exact PyProof.Rows.callWith_builtin1 (bZ (ha pos ac s σ H _ I h) λus s1 ⟨vs,H1,I1,r1,q1⟩=>hc ac s1 σ H1 vs us Q I1 r1 q1) he hpl
theorem aU(hc:eY X (.type T) r)(hg:Gl X x)(hm:X.mg x=none)(hv:bootBuiltins x=some (.type T))(ha:PA X (e::es) t)(hn:x≠"__name__":=by decide)(hdb:(x==("__debug__" : Str))=false:=by decide)
  (he:starEach (e::es) X.env=(false,eval e X.env)::starEach es X.env:=by rfl) (hpl:(backTo pos (starEach es X.env)).any (·.1)=false:=by rfl):PE X (.Call (.Name x p) (e::es) [] pos) (Ms r t):=by
 intro ac s σ H Q I h;refine wpAny_Call_Name_kw (iR I hg hm hv ?_ hn hdb);exact PyProof.Rows.callWith_type1 (bZ (ha pos ac s σ H _ I h) λus s1 ⟨vs,H1,I1,r1,q1⟩=>hc ac s1 σ H1 vs us Q I1 r1 q1) he hpl
end
end L2
namespace HT
open PySem PyProof.Rows
section
variable{prog:Program}{w:World}{A:Around}{E:Z0}{s:Shared}
theorem F1{t b:Addr}{vs ws:Z6}{Q:Z0}(ht:IsTup s.heap t vs.toArray)(hb:IsTup s.heap b ws.toArray)(hv:vs≠[])
  (h1:ws=[]->Q (.ref t) s) (h2:ws≠[]->Q (.ref s.heap.objs.size) {s with heap:=s.heap.push {cls:=.type "tuple",data:=.seq (vs++ws).toArray}})
  (hsz:vs.length+ws.length<=sizeLine):wpAny (model prog w) A (binaryOp .Add (.ref t) (.ref b)) Q E s:=by
 obtain⟨⟨cls,dd,data,sl⟩,ho,hc,n,hd⟩:=id ht;obtain⟨⟨cls2,dd2,data2,sl2⟩,ho2,hc2,n2,hd2⟩:=id hb;simp only at hc hd hc2 hd2;subst hc hd hc2 hd2;have e:vs.toArray++ws.toArray=(vs++ws).toArray:=by simp
 by_cases hw:ws=[]
 ·exact concat_meets ⟨_,ho,rfl⟩ ⟨_,ho2,rfl⟩ noFill_tuple_add seq_tuple_add PySem.F.slot_tuple_add PySem.F.entry_tuple_add (PySem.F.args_tuple_add_2 _ _)
   (tuple_addW1 t b vs.toArray ws.toArray n n2 dd dd2 sl sl2 (by simpa using hv) (by simp[hw])) ⟨ho,ho2,h1 hw⟩
 ·refine concat_meets ⟨_,ho,rfl⟩ ⟨_,ho2,rfl⟩ noFill_tuple_add seq_tuple_add PySem.F.slot_tuple_add PySem.F.entry_tuple_add (PySem.F.args_tuple_add_2 _ _)
   (tuple_addW2 t b vs.toArray ws.toArray n n2 dd dd2 sl sl2 (by simpa using hv) (by simpa using hw) (by rw[W7,W7];exact hsz)) ⟨ho,ho2,?_⟩
  rw[e];exact h2 hw
def dN(n d:Nat):Option Int->Nat
 |none=>d
 |some v=>if v<0 then(v+(n:Int)).toNat else min v.toNat n
theorem lY(n d:Nat):dN n d none=d:=rfl
theorem Az(n d k:Nat):dN n d (some (k:Int))=min k n:=by show(if(k:Int)<0 then((k:Int)+(n:Int)).toNat else min (k:Int).toNat n)=min k n;rw[Xt (by omega),Int.toNat_natCast]
theorem J5(n d:Nat)(hd:d<=n)(o:Option Int):dN n d o<=n:=by
 cases o with
 |none=>exact hd
 |some v =>
  show(if v<0 then(v+(n:Int)).toNat else min v.toNat n)<=n;by_cases hv:v<0
  ·rw[Xu hv];omega
  ·rw[Xt hv];exact Nat.min_le_right _ _
theorem Ab(v:Int)(n d:Nat):(if v<0 then max (v+(n:Int)) 0 else min v (n:Int))=((dN n d (some v):Nat):Int):=by
 show(if v<0 then max (v+(n:Int)) 0 else min v (n:Int))=(((if v<0 then(v+(n:Int)).toNat else min v.toNat n):Nat):Int);by_cases hv:v<0
 ·simp only[Xu hv];omega
 ·simp only[Xt hv];omega
theorem xQ(lo hi:Option Int)(n:Nat):Builtin.Slice.sliceAdjust lo hi 1 (n:Int)=(((dN n 0 lo:Nat):Int),((dN n n hi:Nat):Int)):=by
 have h1:¬((1:Int)<0):=by omega
 unfold Builtin.Slice.sliceAdjust;simp only[h1,if_false];refine Prod.ext ?_ ?_
 ·cases lo with
  |none=>rfl
  |some v=>exact Ab v n 0
 ·cases hi with
  |none=>rfl
  |some v=>exact Ab v n n
theorem yc(i j:Nat):Builtin.Slice.slicePlaces (i:Int) (j:Int) 1=j-i:=by
 unfold Builtin.Slice.slicePlaces;have h1:(1:Int) > 0:=by omega
 simp only[h1,if_true,Int.ediv_one];split<;>omega
theorem qD{v:Value}{o:Option Int}{Q:Option Int->Shared->Prop}(p:IsPart v o)(h:Q o s):wpAny (model prog w) A (Builtin.Slice.slicePartIndex v) Q E s:=by
 cases p with
 |none=>exact slicePart_none h
 |int i t=>exact slicePart_int h
theorem iy{sl:Addr}{vl vu:Value}{lo hi:Option Int}{n:Nat}{Q:Int×Int×Nat->Shared->Prop}(hs:s.heap.IsSliceOf sl vl vu .none)(pl:IsPart vl lo)(pu:IsPart vu hi)
  (h:Q (((dN n 0 lo:Nat):Int),1,dN n n hi-dN n 0 lo) s):wpAny (model prog w) A (Builtin.Slice.sliceApplied (.ref sl) (pure (n:Int))) Q E s:=by
 obtain⟨os,hos,hcs,hds⟩:=id hs;unfold Builtin.Slice.sliceApplied Builtin.Slice.sliceFields;refine WL (WL (wpAny_field hos hds (x:=vl) rfl (WL (wpAny_field hos hds (x:=vu) rfl (WL (wpAny_field hos hds (x:=.none) rfl (WM ?_)))))));refine WL (slicePart_none ?_);show wpAny _ _ (if((1:Int)==0)=true then _ else _) _ _ s;rw[Xt (by decide)];refine WL (qD pl (WL (qD pu (WL (WM ?_)))));show wpAny _ _ (match Builtin.Slice.sliceAdjust lo hi 1 (n:Int)with | (lo,hi)=>pure (lo,(1:Int),Builtin.Slice.slicePlaces lo hi 1)) _ _ s;rw[xQ lo hi n];show wpAny _ _ (pure (((dN n 0 lo:Nat):Int),(1:Int),Builtin.Slice.slicePlaces ((dN n 0 lo:Nat):Int) ((dN n n hi:Nat):Int) 1)) _ _ s;rw[yc];exact WM h
theorem Cq(xs:Array Value)(i k:Nat):((List.range k).filterMap λ(m:Nat)=>xs[((i:Int)+(m:Int)*1).toNat]?).toArray=((xs.toList.drop i).take k).toArray:=by
 have e:(λ(m:Nat)=>xs[((i:Int)+(m:Int)*1).toNat]?) = λm=>xs[i+m]?:=by
  funext m;have:((i:Int)+(m:Int)*1).toNat=i+m:=by omega
  rw[this]
 rw[e];have:=pick_run xs i k;rw[List.filterMap_map]at this;have e2:((λx=>xs[x]?)∘ λx=>i+x) = λm=>xs[i+m]?:=rfl;rw[e2]at this;rw[this]
theorem lC{t sl:Addr}{items:Array Value}{vl vu:Value}{lo hi:Option Int}{Q:Z0}(ht:IsTup s.heap t items)(hs:s.heap.IsSliceOf sl vl vu .none)(pl:IsPart vl lo)(pu:IsPart vu hi)
  (hw:¬(dN items.size 0 lo=0/\dN items.size items.size hi=items.size))
  (h:Q (.ref s.heap.objs.size) {s with heap:=s.heap.push {cls:=.type "tuple",data:=.seq ((items.toList.drop (dN items.size 0 lo)).take (dN items.size items.size hi-dN items.size 0 lo)).toArray}})
  (hsz:items.size<=sizeLine):wpAny (model prog w) A (getItem (.ref t) (.ref sl)) Q E s:=by
 have zu:sizeOk (.seq ((items.toList.drop (dN items.size 0 lo)).take (dN items.size items.size hi-dN items.size 0 lo)).toArray):=by show((items.toList.drop (dN items.size 0 lo)).take (dN items.size items.size hi-dN items.size 0 lo)).toArray.size<=sizeLine;rw[W7,Xj,List.length_drop,XI];omega
 have hj:dN items.size items.size hi<=items.size:=J5 _ _ (WR _) hi;obtain⟨os,hos,hcs,hds⟩:=id hs;have hTs:s.TypeIs (.ref sl) "slice":=⟨os,hos,hcs⟩;unfold getItem;try with_reducible refine Xm ?_
 first|refine WL (WM ?_)|skip
 refine WL (wpAny_sequenceKey ht.typeIs (by decide) ?_);refine WL (wpAny_callSpecial?_slot (name:=Str.ofString "__getitem__") ht.typeIs PyProof.Rows.slot_tuple_getitem
  (XD PyProof.Rows.slot_tuple_getitem ht.typeIs entry_tuple_getitem ?_ (args_tuple_getitem _ _)))
 show wpAny _ _ (Builtin.Tuple.tupleItemsOf (.ref t) >>= _) _ _ s;refine WL (tupleItemsOf_ ht ?_);refine WL (wpAny_typeOf hTs ?_);rw[Xu (by decide)];refine WL (iy hs pl pu ?_);have hno:¬((((dN items.size 0 lo:Nat):Int)==0&&(1:Int)==1&&(dN items.size items.size hi-dN items.size 0 lo)==items.size)=true):=by intro q;rw[Xq,Xq]at q;have q1:((dN items.size 0 lo:Nat):Int)=0:=eq_of_beq q.1.1;have q2:dN items.size items.size hi-dN items.size 0 lo=items.size:=eq_of_beq q.2;exact hw ⟨by omega,by omega⟩
 show wpAny _ _ (if(((dN items.size 0 lo:Nat):Int)==0&&(1:Int)==1&&(dN items.size items.size hi-dN items.size 0 lo)==items.size)=true then _ else _) _ _ s;rw[Xt hno,Cq];first
  |exact WL (m:=Builtin.Tuple.tupleExact _) (Xn (WM ⟨_,rfl,WM h⟩) zu)
  |exact WL (m:=Builtin.Tuple.tupleExact _) (Xn (WL (WM (WM ⟨_,rfl,WM h⟩))) zu)
  |exact WL (WL (m:=Builtin.Tuple.tupleExact _) (Xn (WM (WM ⟨_,rfl,WM h⟩)) zu))
  |exact WL (WL (m:=Builtin.Tuple.tupleExact _) (Xn (WM ⟨_,rfl,WM h⟩) zu))
end
end HT
namespace L2
open PySem PySem.Spec PyProof.Rows
abbrev TO:=St->Hp->(Option Int->Hp->Prop)->Prop
def PO(X:Cx)(e:Option Expr)(t:TO):Prop :=
 ∀(ac:Z1)(s:Shared)(σ:St)(H:Hp)(Q:Option Int->Hp->Prop),Inv X ac σ H s->t σ H Q->
  wpAny (model X.prog X.w) X.A (evalPart e X.env) (λu s'=>∃o H',Inv X ac σ H' s'/\IsPart u o/\Q o H') X.xe s
def Iq:TO:=λ_ H Q=>Q none H
def MP(t:TE):TO:=λσ H Q=>t σ H λx H1=>∃i,x=.int i/\Q (some i) H1
section
variable{X:Cx}{e:Expr}{te:TE}{lo hi:Option Expr}{tl th:TO}{pos p2:Pos}
theorem dm:PO X none Iq:=by intro ac s σ H Q I h;rw[evalPart_none];exact WM ⟨none,H,I,.none,h⟩
theorem cz(h:PE X e te):PO X (some e) (MP te):=by intro ac s σ H Q I hw;rw[evalPart_some];refine bZ (h ac s σ H _ I hw) λu s1 zz=>?_;obtain⟨x,H1,I1,r1,q1⟩:=zz;obtain⟨i,rfl,q⟩:=q1;obtain⟨t,rfl⟩:=r1;exact⟨some i,H1,I1,.int i t,q⟩
def GX(X:Cx)(r:V->Option Int->Option Int->Hp->VK->Prop):Prop :=
 ∀(ac:Z1)(s:Shared)(σ:St)(H:Hp)(x:V)(v vl vu:Value)(lo hi:Option Int)(sl:Addr)(Q:VK),Inv X ac σ H s->RelV x v->s.heap.IsSliceOf sl vl vu .none->IsPart vl lo->IsPart vu hi->r x lo hi H Q->
  ∃T id,typeLookup (.type T) "__getitem__"=pure (some (.builtin id))/\s.TypeIs v T/\wpAny (model X.prog X.w) X.A (getItem v (.ref sl)) (EP X ac σ Q) X.xe s
theorem GX.or{r r':V->Option Int->Option Int->Hp->VK->Prop}(h:GX X r)(h':GX X r'):GX X (λx lo hi H Q=>r x lo hi H Q\/r' x lo hi H Q):=by
 intro ac s σ H x v vl vu lo hi sl Q I rx hs pl pu q;rcases q with q|q
 ·exact h ac s σ H x v vl vu lo hi sl Q I rx hs pl pu q
 ·exact h' ac s σ H x v vl vu lo hi sl Q I rx hs pl pu q
def V4(r:V->Option Int->Option Int->Hp->VK->Prop)(te:TE)(tl th:TO):TE:=λσ H Q=>te σ H λx H1=>tl σ H1 λl H2=>th σ H2 λu H3=>r x l u H3 Q
theorem cq{r:V->Option Int->Option Int->Hp->VK->Prop}(hr:GX X r)(he:PE X e te)(hl:PO X lo tl)(hu:PO X hi th):PE X (.Subscript e (.Slice lo hi none p2) pos) (V4 r te tl th):=by intro ac s σ H Q I h;refine Subscript_ (bZ (he ac s σ H _ I h) λv s1 zz=>?_);obtain⟨x,H1,I1,r1,q1⟩:=zz;refine wpAny_Slice (bZ (hl ac s1 σ H1 _ I1 q1) λvl s2 ⟨l,H2,I2,pl,q2⟩=>bZ (hu ac s2 σ H2 _ I2 q2) λvu s3 zz=>?_);obtain⟨u,H3,I3,pu,q3⟩:=zz;rw[evalPart_none];refine WM ?_;have I4:Inv X ac σ H3 {s3 with heap:=s3.heap.push {cls:=.type "slice",data:=.fields #[vl,vu,.none]}}:=I3.kept (t':=s3.toks) λb ob q=>WN _ q;obtain⟨T,id,hT,ht,hg⟩:=hr ac {s3 with heap:=s3.heap.push {cls:=.type "slice",data:=.fields #[vl,vu,.none]}} σ H3 x v vl vu l u s3.heap.objs.size Q I4 r1 (Heap.IsSliceOf.new ..) pl pu q3;show wpAny (model X.prog X.w) X.A (subscriptTail e (.Slice lo hi none p2) v (.ref s3.heap.objs.size)) (EP X ac σ Q) X.xe {s3 with heap:=s3.heap.push {cls:=.type "slice",data:=.fields #[vl,vu,.none]}};exact tail_any (ops:=[.ref s3.heap.objs.size,v]) ht hT hg (by with_unfolding_all rfl)
def fP(xs:List V)(lo hi:Option Int):List V:=(xs.drop (HT.dN xs.length 0 lo)).take (HT.dN xs.length xs.length hi-HT.dN xs.length 0 lo)
theorem mV(xs:List V)(lo hi:Option Int):(fP xs lo hi).length<=xs.length:=by unfold fP;rw[Xj,List.length_drop];omega
def NK(K:XO):V->Option Int->Option Int->Hp->VK->Prop:=λx lo hi H Q=>∃a xs,x=.ref a/\aJ K H a xs/\
 ¬(HT.dN xs.length 0 lo=0/\HT.dN xs.length xs.length hi=xs.length)/\∀p,H p=none->Q (.ref p) (upd H p (.tup (fP xs lo hi)))
theorem Fv:GX X (NK X.K):=by
 intro ac s σ H x v vl vu lo hi sl Q I rx hs pl pu h;obtain⟨a,xs,rfl,hx,hw,q⟩:=h;cases rx;obtain⟨its,r,ht,hz⟩:=I.tuple hx;have hlen:its.toArray.size=xs.length:=by rw[W7];exact r.length.symm
 refine⟨"tuple",_,PyProof.Rows.slot_tuple_getitem.lookup,ht.typeIs,?_⟩;refine HT.lC ht hs pl pu (by rw[hlen];exact hw) ?_ (by rw[hlen];exact hz);rw[hlen];refine⟨.ref s.heap.objs.size,_,I.laid (t':=s.toks) (o:=.tup (fP xs lo hi)) (λb ob q=>WN _ q) (WR _) ?_,rfl,q _ (I.hok.fresh (WR _))⟩;exact⟨WS (mV xs lo hi) hz,_,(r.drop (HT.dN xs.length 0 lo)).take (HT.dN xs.length xs.length hi-HT.dN xs.length 0 lo),il.new _ _⟩
def Js(K:XO):R2:=λx y H Q=>∃a b xs ys,x=.ref a/\y=.ref b/\aJ K H a xs/\aJ K H b ys/\xs≠[]/\xs.length+ys.length<=sizeLine/\
 (ys=[]->Q (.ref a) H)/\(ys≠[]->∀p,H p=none->Q (.ref p) (upd H p (.tup (xs++ys))))
theorem Vals.sH{xs:List V}{us:Z6}(r:Vals xs us):us=[]↔xs=[]:=by
 cases r with
 |nil=>simp
 |cons _ _=>simp
theorem uk:jk X (binaryOp .Add) (Js X.K):=by intro ac s σ H x y v u Q I rx ry h;obtain⟨a,b,xs,ys,rfl,rfl,ha,hb,hx,hz,q1,q2⟩:=h;cases rx;cases ry;obtain⟨its,r1,p1,_⟩:=I.tuple ha;obtain⟨its2,r2,p2,_⟩:=I.tuple hb;refine HT.F1 p1 p2 (λz=>hx (r1.sH.mp z)) (λz=>⟨.ref a,H,I,rfl,q1 (r2.sH.mp z)⟩) (λz=>?_) (by rw[←r1.length,←r2.length];exact hz);refine⟨.ref s.heap.objs.size,_,I.laid (t':=s.toks) (o:=.tup (xs++ys)) (λb ob q=>WN _ q) (WR _) ?_,rfl,q2 (λw=>z (r2.sH.mpr w)) _ (I.hok.fresh (WR _))⟩;exact⟨by rw[WW];exact hz,_,r1.append r2,il.new _ _⟩
end
def w_(n:Nat)(i:Int):Option Nat:=if 0<=i then(if i<n then some i.toNat else none)else if -(n:Int)<=i then some (i+n).toNat else none
def jo{α:Type}(xs:List α)(i:Int):Option α:=(w_ xs.length i).bind λj=>xs[j]?
theorem Ay{n:Nat}{i:Int}{j:Nat}(h:w_ n i=some j):seqIndex? i n=some j/\j<n/\-(n:Int)<=i/\i<n:=by
 unfold w_ at h;by_cases h0:0<=i
 ·rw[Xu h0]at h;by_cases h1:i<n
  ·rw[Xu h1]at h;have e:i.toNat=j:=Xf h;exact⟨by rw[seqIndex_of h0 h1,e],by omega,by omega,h1⟩
  ·rw[Xt h1]at h;cases h
 ·rw[Xt h0]at h;by_cases h1:-(n:Int)<=i
  ·rw[Xu h1]at h;have e:(i+n).toNat=j:=Xf h;exact⟨by rw[seqIndex_neg (by omega) h1,e],by omega,h1,by omega⟩
  ·rw[Xt h1]at h;cases h
theorem uQ{α:Type}{xs:List α}{i:Int}{v:α}(h:jo xs i=some v):∃j,seqIndex? i xs.length=some j/\xs[j]? = some v/\j<xs.length/\-(xs.length:Int)<=i/\i<xs.length:=by
 unfold jo at h;cases e:w_ xs.length i with
 |none=>rw[e]at h;cases h
 |some j =>rw[e]at h;obtain⟨h1,h2,h3,h4⟩:=Ay e;exact⟨j,h1,h,h2,h3,h4⟩
theorem au{α:Type}{xs:List α}{j:Nat}{v:α}(h:xs[j]? = some v):jo xs (j:Int)=some v:=by
 have hj:j<xs.length:=(W8.mp h).1;have e:w_ xs.length (j:Int)=some j:=by unfold w_;rw[Xu (by omega),Xu (by omega)];simp
 unfold jo;rw[e];exact h
theorem wz{α:Type}(xs:List α)(v:α):jo (xs++[v]) (-1)=some v:=by
 have hl:(xs++[v]).length=xs.length+1:=by simp
 have e:w_ (xs++[v]).length (-1)=some xs.length:=by unfold w_;rw[hl,Xt (by decide),Xu (by omega)];congr 1;omega
 unfold jo;rw[e];show(xs++[v])[xs.length]? = some v;simp
def om(b:Expr):Prop:=∀o i,subscripted b false o i=operate [o,i] (getItem o i)
def NZ(X:Cx)(r:R2):Prop :=
 ∀(value slice:Expr)(ac:Z1)(s:Shared)(σ:St)(H:Hp)(x y:V)(v u:Value)(Q:VK),Inv X ac σ H s->RelV x v->RelV y u->r x y H Q->
  subscripted slice false v u=operate [v,u] (getItem v u)->wpAny (model X.prog X.w) X.A (subscriptTail value slice v u) (EP X ac σ Q) X.xe s
def Si(X:Cx)(id:String)(r:V->List V->Hp->VK->Prop):Prop :=
 ∀(ac:Z1)(s:Shared)(σ:St)(H:Hp)(x:V)(xs:List V)(v:Value)(us:Z6)(Q:VK),Inv X ac σ H s->RelV x v->Vals xs us->r x xs H Q->
  wpAny (model X.prog X.w) X.A (call (.builtin id) (v::us)) (EP X ac σ Q) X.xe s
section
variable{X:Cx}{a b:Expr}{ta tb:TE}{pos:Pos}
theorem gv{r:R2}(hr:NZ X r)(ha:PE X a ta)(hb:PE X b tb)(hs:om b):PE X (.Subscript a b pos) (hZ r ta tb):=by intro ac s σ H Q I h;exact Subscript_ (Lp ha hb I h λv u s2 x y H2 I2 rx ry q=>hr a b ac s2 σ H2 x y v u Q I2 rx ry q (hs _ _))
def yv(K:XO):R2:=λx y H Q=>∃p xs i v,x=.ref p/\y=.int i/\aZ K H p xs/\jo xs i=some v/\Q v H
def sY(K:XO):R2:=λx y H Q=>∃p xs i v,x=.ref p/\y=.int i/\aJ K H p xs/\jo xs i=some v/\Q v H
def PQ:R2:=λx y H Q=>∃z i c,x=.str z/\y=.int i/\z.length<=sizeLine/\jo z.cps.toList i=some c/\Q (.str ⟨#[c]⟩) H
theorem fX:NZ X (yv X.K):=by
 intro value slice ac s σ H x y v u Q I rx ry h hs;obtain⟨p,xs,i,z,rfl,rfl,hq,he,q⟩:=h;cases rx;obtain⟨t,rfl⟩:=ry;obtain⟨its,r,pl,hz⟩:=I.list hq;obtain⟨j,h1,h2,h3,h4,h5⟩:=uQ he;obtain⟨w,ew,vg⟩:=r.get h2;have hl:=r.length;have hn:=mD;have fin:EP X ac σ Q w s:=⟨z,H,I,vg,q⟩;by_cases h0:0<=i
 ·have hj:i.toNat=j:=by rw[seqIndex_of h0 h5]at h1;exact Xf h1
  exact item_listR pl.isList h0 (by omega) (by rw[hj];simpa using ew) fin hs
 ·have hj:(i+(its.toArray.size:Int)).toNat=j:=by rw[seqIndex_neg (by omega) h4]at h1;rw[W7,←hl];exact Xf h1
  exact subscriptTail_builtinR (x:=w) pl.isList.typeIs slot_list_getitem.lookup
   (wpAny_getItem_list_neg (Q:=λr s'=>r=w/\EP X ac σ Q r s') pl.isList (by omega) (by rw[W7]<;>omega) (by omega) (by rw[hj];simpa using ew) ⟨rfl,fin⟩) hs
theorem D8:NZ X (sY X.K):=by
 intro value slice ac s σ H x y v u Q I rx ry h hs;obtain⟨p,xs,i,z,rfl,rfl,hq,he,q⟩:=h;cases rx;obtain⟨t,rfl⟩:=ry;obtain⟨its,r,pl,hz⟩:=I.tuple hq;obtain⟨j,h1,h2,h3,h4,h5⟩:=uQ he;obtain⟨w,ew,vg⟩:=r.get h2;have hl:=r.length;have hn:=mD;have fin:EP X ac σ Q w s:=⟨z,H,I,vg,q⟩;exact subscriptTail_builtinR (x:=w) pl.typeIs slot_tuple_getitem.lookup
  (getItem_tuple (j:=j) (Q:=λr s'=>r=w/\EP X ac σ Q r s') pl (by omega) (by omega) (by rw[W7,←hl];exact h1) (by simpa using ew) ⟨rfl,fin⟩) hs
theorem LU:NZ X PQ:=by
 intro value slice ac s σ H x y v u Q I rx ry h hs;obtain⟨z,i,c,rfl,rfl,hz,he,q⟩:=h;obtain⟨t,rfl⟩:=rx;obtain⟨t',rfl⟩:=ry;obtain⟨j,h1,h2,h3,h4,h5⟩:=uQ he;have hl:z.cps.toList.length=z.length:=by simp[Str.length]
 rw[hl]at h1 h4 h5;have hn:=mD;exact tail_any (typeIs_str s z t) slot_str_getitem.lookup (getItem_str (c:=c) (by have e1:decide (i < -(2 ^ 63:Int))=false:=WT (by omega);have e2:decide (i≥2 ^ 63)=false:=WT (by omega);rw[e1,e2,Bool.or_false]) (by rw[h1];simpa using h2) ⟨.str ⟨#[c]⟩,H,I.tok _,⟨_,rfl⟩,q⟩) hs
theorem xY(its:Z6)(n j:Nat)(u:Value):Obj.mapSeq (·.setIfInBounds j u) {cls:=.type "list",data:=.seq its.toArray n} ={cls:=.type "list",data:=.seq (its.set j u).toArray n}:=by simp[Obj.mapSeq]
theorem Inv.lst{ac:Z1}{σ:St}{H:Hp}{s:Shared}{p:Addr}{xs:List V}(I:Inv X ac σ H s)(h:H p=some (.lst xs)) :
  ∃(its:Z6)(n:Nat),Vals xs its/\s.heap.get? p=some {cls:=.type "list",data:=.seq its.toArray n}/\xs.length<=sizeLine:=by
 obtain⟨z,its,n,r,e⟩:=I.hok p _ h;exact⟨its,n,r,e,z⟩
theorem Inv.JX{ac:Z1}{σ:St}{H:Hp}{s:Shared}{p:Addr}{xs ys:List V}{its its':Z6}{n n':Nat}{f:Obj->Obj}(I:Inv X ac σ H s)(h:H p=some (.lst xs))
  (ho:s.heap.get? p=some {cls:=.type "list",data:=.seq its.toArray n}) (hf:f {cls:=.type "list",data:=.seq its.toArray n} ={cls:=.type "list",data:=.seq its'.toArray n'}) (r:Vals ys its') (hz:ys.length<=sizeLine) (t:Nat) :
  Inv X ac σ (upd H p (.lst ys)) {s with heap:=s.heap.update p f,toks:=t}:=by
 have e:(s.heap.update p f).get? p=some {cls:=.type "list",data:=.seq its'.toArray n'}:=by rw[Heap.get?_update_self f ho (by rw[hf]<;>rfl),hf]
 refine I.write (x:=p) (e:=p) (by rw[h];trivial) (.inl rfl) (λb u hb q=>(Heap.get?_update_other _ _ (Ne.symm hb)).trans q) ⟨_,e⟩ ?_;exact⟨hz,its',n',r,e⟩
def NU:V->V->V->Hp->(Hp->Prop)->Prop:=λo i v H Q=>∃p xs k j,o=.ref p/\i=.int k/\H p=some (.lst xs)/\w_ xs.length k=some j/\Q (upd H p (.lst (xs.set j v)))
theorem set_list:Nv X NU:=by
 intro ac s σ H o i v ov iv u Q I ro ri rv h;obtain⟨p,xs,k,j,rfl,rfl,hp,hj,q⟩:=h;cases ro;obtain⟨t,rfl⟩:=ri;obtain⟨its,n,r,ho,hz⟩:=I.lst hp;obtain⟨h1,h2,h3,h4⟩:=Ay hj;have hl:=r.length;have hn:=mD;have I':Inv X ac σ (upd H p (.lst (xs.set j v))) {s with heap:=s.heap.update p (Obj.mapSeq (·.setIfInBounds j u))} :=
  I.JX hp ho (xY its n j u) (r.set rv j) (by rw[List.length_set];exact hz) s.toks
 by_cases h0:0<=k
 ·have hk:k.toNat=j:=by rw[seqIndex_of h0 h4]at h1;exact Xf h1
  exact PySem.W.ki_setAt ho h0 (by omega) (by rw[W7,←hl];exact h4) (by rw[hk];exact⟨_,I',q⟩)
 ·have hk:(k+(its.toArray.size:Int)).toNat=j:=by rw[seqIndex_neg (by omega) h3]at h1;rw[W7,←hl];exact Xf h1
  exact PySem.W.ki_setBack ho (by omega) (by rw[W7,←hl];exact h3) (by omega) (by rw[hk];exact⟨_,I',q⟩)
theorem tN(lo hi:Option Int)(n:Nat):(sliceBounds lo hi none n).1=((HT.dN n 0 lo:Nat):Int)/\(sliceBounds lo hi none n).2.1=((HT.dN n n hi:Nat):Int)/\(sliceBounds lo hi none n).2.2=1:=by
 refine⟨?_,?_,rfl⟩
 ·cases lo with
  |none=>simp[sliceBounds,HT.dN]
  |some i =>
   simp only[sliceBounds,HT.dN,Option.getD_none,show(1:Int) > 0 by decide,if_true];by_cases h:i<0
   ·simp only[h,if_true]<;>omega
   ·simp only[h,if_false]<;>omega
 ·cases hi with
  |none=>simp[sliceBounds,HT.dN]
  |some i =>
   simp only[sliceBounds,HT.dN,Option.getD_none,show(1:Int) > 0 by decide,if_true];by_cases h:i<0
   ·simp only[h,if_true]<;>omega
   ·simp only[h,if_false]<;>omega
theorem qR(its:Z6)(lo hi:Option Int):slicePick its.toArray lo hi none=((its.drop (HT.dN its.length 0 lo)).take (HT.dN its.length its.length hi-HT.dN its.length 0 lo)).toArray:=by obtain⟨h1,h2,h3⟩:=tN lo hi its.toArray.size;unfold slicePick;rw[h1,h2,h3];simp only[sliceRange_one,pick_run,W7]<;>rfl
def OB(K:XO):V->Option Int->Option Int->Hp->VK->Prop:=λx lo hi H Q=>∃a xs,x=.ref a/\aZ K H a xs/\∀p,H p=none->Q (.ref p) (upd H p (.lst (fP xs lo hi)))
theorem IG:GX X (OB X.K):=by intro ac s σ H x v vl vu lo hi sl Q I rx hs pl pu h;obtain⟨a,xs,rfl,hx,q⟩:=h;cases rx;obtain⟨its,r,ht,hz⟩:=I.list hx;have hlen:=r.length;refine⟨"list",_,slot_list_getitem.lookup,ht.isList.typeIs,?_⟩;refine wpAny_getItem_list_slice ht.isList hs pl pu .none (by simp) ?_ (by rw[W7]<;>omega);rw[qR,←hlen];refine⟨.ref s.heap.objs.size,_,I.laid (t':=s.toks) (o:=.lst (fP xs lo hi)) (λb ob q=>WN _ q) (WR _) ?_,rfl,q _ (I.hok.fresh (WR _))⟩;exact⟨WS (mV xs lo hi) hz,_,0,(r.drop (HT.dN xs.length 0 lo)).take (HT.dN xs.length xs.length hi-HT.dN xs.length 0 lo),WQ _ rfl⟩
def fK:V->Bool
 | .non=>true
 | .bl _=>true
 | .int _=>true
 | .str _=>true
 |_=>false
def IH:V->V->Bool
 | .non,.non=>true
 | .bl a,.bl b=>a==b
 | .bl a,.int b=>(if a then 1 else 0)==b
 | .int a,.bl b=>a==(if b then 1 else 0)
 | .int a,.int b=>a==b
 | .str a,.str b=>a==b
 |_,_=>false
theorem Me{A:Around}{s:Shared}{y x:V}{u v:Value}(ry:RelV y u)(rx:RelV x v)(fy:fK y=true)(fx:fK x=true):SeqAt.EqAt A s u v (IH y x):=by
 cases y with
 |non =>
  cases ry;cases x with
  |non=>cases rx;exact SeqAt.EqAt.same _
  |bl b=>cases rx;exact SeqAt.EqAt.none_bool b
  |int b=>obtain⟨t,rfl⟩:=rx;exact SeqAt.EqAt.none_int b t
  |str b=>obtain⟨t,rfl⟩:=rx;exact SeqAt.EqAt.none_str b t
  |_=>exact Xs (show false=true from fx) W6
 |bl a =>
  cases ry;cases x with
  |non=>cases rx;exact SeqAt.EqAt.bool_none a
  |bl b=>cases rx;exact SeqAt.EqAt.bool_bool a b
  |int b=>obtain⟨t,rfl⟩:=rx;exact SeqAt.EqAt.bool_int a b t
  |str b=>obtain⟨t,rfl⟩:=rx;exact SeqAt.EqAt.bool_str a b t
  |_=>exact Xs (show false=true from fx) W6
 |int a =>
  obtain⟨t',rfl⟩:=ry;cases x with
  |non=>cases rx;exact SeqAt.EqAt.int_none a t'
  |bl b=>cases rx;exact SeqAt.EqAt.int_bool a t' b
  |int b=>obtain⟨t,rfl⟩:=rx;exact SeqAt.EqAt.int_int a t' b t
  |str b=>obtain⟨t,rfl⟩:=rx;exact SeqAt.EqAt.int_str a t' b t
  |_=>exact Xs (show false=true from fx) W6
 |str a =>
  obtain⟨t',rfl⟩:=ry;cases x with
  |non=>cases rx;exact SeqAt.EqAt.str_none a t'
  |bl b=>cases rx;exact SeqAt.EqAt.str_bool a t' b
  |int b=>obtain⟨t,rfl⟩:=rx;exact SeqAt.EqAt.str_int a t' b t
  |str b=>obtain⟨t,rfl⟩:=rx;exact SeqAt.EqAt.str_str a t' b t
  |_=>exact Xs (show false=true from fx) W6
 |_=>exact Xs (show false=true from fy) W6
def xE(x:V)(u:Value):Bool:=match u with
 | .none=>IH .non x
 | .bool b=>IH (.bl b) x
 | .int i _=>IH (.int i) x
 | .str z _=>IH (.str z) x
 |_=>false
theorem DY{x y:V}{u:Value}(r:RelV y u)(f:fK y=true):xE x u=IH y x:=by
 cases y with
 |non=>cases r;rfl
 |bl b=>cases r;rfl
 |int i=>obtain⟨t,rfl⟩:=r;rfl
 |str z=>obtain⟨t,rfl⟩:=r;rfl
 |_=>exact Xs (show false=true from f) W6
theorem lI{x:V}:∀{xs:List V}{us:Z6},Vals xs us->xs.all fK=true->us.any (xE x)=xs.any λy=>IH y x
 |_,_,.nil,_=>rfl
 |y::xs,u::us,.cons r t,f=>by rw[List.all_cons,Xq]at f;rw[XJ,XJ,DY r f.1,lI t f.2]
theorem jQ{A:Around}{s:Shared}{x:V}{v:Value}(rx:RelV x v)(fx:fK x=true):∀{xs:List V}{us:Z6},Vals xs us->xs.all fK=true->∀u∈us,SeqAt.EqAt A s u v (xE x u)
 |_,_,.nil,_=>λu hu=>by cases hu
 |y::xs,u::us,.cons r t,f=>λu' hu=>by
  rw[List.all_cons,Xq]at f;rcases Xa.mp hu with rfl|hu
  ·rw[DY r f.1];exact Me r rx f.1 fx
  ·exact jQ rx fx t f.2 u' hu
def inV(x:V)(xs:List V):Bool:=xs.any λy=>IH y x
def Jr(K:XO)(neg:Bool):R2:=λx y H Q=>∃p xs,y=.ref p/\(aZ K H p xs\/aJ K H p xs)/\fK x=true/\xs.all fK=true/\Q (.bl (if neg then !inV x xs else inV x xs)) H
theorem cu:jk X (compareOp .In) (Jr X.K false):=by
 intro ac s σ H x y v u Q I rx ry h;obtain⟨p,xs,rfl,hq,fx,fs,q⟩:=h;cases ry;rcases hq with hq|hq
 ·obtain⟨its,r,pl,hz⟩:=I.list hq;refine SeqAt.in_listAt (xE x) pl.isList (λw hw=>jQ rx fx r fs w (by simpa using hw)) ⟨.bl _,H,I,rfl,?_⟩;rw[show its.toArray.any (xE x)=its.any (xE x) by simp,lI r fs];exact q
 ·obtain⟨its,r,pl,hz⟩:=I.tuple hq;refine SeqAt.in_tupleAt (xE x) pl (λw hw=>jQ rx fx r fs w (by simpa using hw)) ⟨.bl _,H,I,rfl,?_⟩;rw[show its.toArray.any (xE x)=its.any (xE x) by simp,lI r fs];exact q
theorem je:jk X (compareOp .NotIn) (Jr X.K true):=by
 intro ac s σ H x y v u Q I rx ry h;obtain⟨p,xs,rfl,hq,fx,fs,q⟩:=h;cases ry;rcases hq with hq|hq
 ·obtain⟨its,r,pl,hz⟩:=I.list hq;refine SeqAt.notIn_listAt (xE x) pl.isList (λw hw=>jQ rx fx r fs w (by simpa using hw)) ⟨.bl _,H,I,rfl,?_⟩;rw[show its.toArray.any (xE x)=its.any (xE x) by simp,lI r fs];exact q
 ·obtain⟨its,r,pl,hz⟩:=I.tuple hq;refine SeqAt.notIn_tupleAt (xE x) pl (λw hw=>jQ rx fx r fs w (by simpa using hw)) ⟨.bl _,H,I,rfl,?_⟩;rw[show its.toArray.any (xE x)=its.any (xE x) by simp,lI r fs];exact q
theorem bt:eY X (.builtin "len") (λxs H Q=>∃p ys,xs=[.ref p]/\(aZ X.K H p ys\/aJ X.K H p ys)/\Q (.int ys.length) H):=by
 intro ac s σ H xs us Q I r h;obtain⟨p,ys,rfl,hq,q⟩:=h;obtain⟨u,rfl,rx⟩:=vals1 r;cases rx;have hn:=mD;rcases hq with hq|hq
 ·obtain⟨its,r',pl,hz⟩:=I.list hq;have hlen:=r'.length;exact Calls.call_len_list pl.isList (by simp only[W7]<;>omega) ⟨.int ys.length,H,I.tok _,⟨s.toks+1,by rw[W7,hlen]⟩,q⟩
 ·obtain⟨its,r',pl,hz⟩:=I.tuple hq;have hlen:=r'.length;exact len_tuple pl (by simp only[W7]<;>omega) ⟨.int ys.length,H,I.tok _,⟨s.toks+1,by rw[W7,hlen]⟩,q⟩
theorem lL:eY X (.type "list") (λxs H Q=>∃p ys,xs=[.ref p]/\(aZ X.K H p ys\/aJ X.K H p ys)/\∀l,H l=none->Q (.ref l) (upd H l (.lst ys))):=by
 intro ac s σ H xs us Q I r h;obtain⟨p,ys,rfl,hq,q⟩:=h;obtain⟨u,rfl,rx⟩:=vals1 r;cases rx;have fin:∀(its:Z6),Vals ys its->ys.length<=sizeLine->∀(h':Heap)(c':Nat),(∀b o',s.heap.get? b=some o'->h'.get? b=some o')->
   h'.get? s.heap.objs.size=some {cls:=.type "list",dict:=none,data:=.seq its.toArray c',slots:=#[]}->EP X ac σ Q (.ref s.heap.objs.size) {s with heap:=h'}:=λits r' hz h' c' kp e =>
  ⟨.ref s.heap.objs.size,_,I.laid (t':=s.toks) kp (WR _) (show cw X.prog X.w _ h' _ (.lst ys) from⟨hz,its,c',r',e⟩),rfl,q _ (I.hok.fresh (WR _))⟩
 rcases hq with hq|hq
 ·obtain⟨its,r',pl,hz⟩:=I.list hq;have hlen:=r'.length;obtain⟨o,ho,hc,n,hd⟩:=pl.isList;exact call_list_seq p (.inl rfl) ho hc hd (λh' c' kp e=>fin its r' hz h' c' kp e) (by simp only[W7]<;>omega)
 ·obtain⟨its,r',pl,hz⟩:=I.tuple hq;have hlen:=r'.length;obtain⟨o,ho,hc,n,hd⟩:=pl;exact call_list_seq p (.inr rfl) ho hc hd (λh' c' kp e=>fin its r' hz h' c' kp e) (by simp only[W7]<;>omega)
theorem bE:eY X (.type "tuple") (λxs H Q=>∃p ys,xs=[.ref p]/\((aZ X.K H p ys/\∀l,H l=none->Q (.ref l) (upd H l (.tup ys)))\/(aJ X.K H p ys/\Q (.ref p) H))):=by
 intro ac s σ H xs us Q I r h;obtain⟨p,ys,rfl,h⟩:=h;obtain⟨u,rfl,rx⟩:=vals1 r;cases rx;rcases h with⟨hq,q⟩|⟨hq,q⟩
 ·obtain⟨its,r',pl,hz⟩:=I.list hq;have hlen:=r'.length;refine call_tuple_list pl.isList (λh' kp=>?_) (by simp only[W7]<;>omega);have I1:Inv X ac σ H {s with heap:=h'}:=I.kept (t':=s.toks) kp;have I2:Inv X ac σ (upd H h'.objs.size (.tup ys)) {s with heap:=h'.push {cls:=.type "tuple",data:=.seq its.toArray}} :=
   I1.laid (t':=s.toks) (λb o e=>WN _ e) (WR _) (show cw X.prog X.w _ _ _ (.tup ys) from⟨hz,its,r',il.new _ _⟩)
  exact⟨.ref h'.objs.size,_,I2,rfl,q _ (I1.hok.fresh (WR _))⟩
 ·obtain⟨its,r',pl,hz⟩:=I.tuple hq;exact call_tuple_same pl ⟨.ref p,H,I,rfl,q⟩
def S5(K:XO)(T:String)(x:V)(H:Hp):Prop:=match x with
 | .str _=>T="str"
 | .int _=>T="int"
 | .ref p=>(T="list"/\∃xs,aZ K H p xs)\/(T="tuple"/\∃o,K.lookup p=some o/\o.cls=.type "tuple"/\o.dict=none)\/
   (T="dict"/\((∃kvs,H p=some (.dK kvs))\/∃kvs,H p=some (.dT kvs)))\/(T="set"/\∃S n,H p=some (.set S n))
 |_=>False
theorem Kz{ac:Z1}{σ:St}{H:Hp}{s:Shared}{T:String}{x:V}{v:Value}(I:Inv X ac σ H s)(r:RelV x v)(ty:S5 X.K T x H) :
  s.TypeIs v T/\∀a,v=.ref a->∃ob,s.heap.get? a=some ob/\ob.dict=none:=by
 cases x with
 |str z =>obtain⟨t,rfl⟩:=r;cases(show T="str" from ty);exact⟨typeIs_str s z t,λ_ e=>nomatch e⟩
 |int i =>obtain⟨t,rfl⟩:=r;cases(show T="int" from ty);exact⟨typeIs_int s i t,λ_ e=>nomatch e⟩
 |ref p =>
  cases r;rcases ty with⟨rfl,xs,hq⟩|⟨rfl,o,hk,hc,hd⟩|⟨rfl,hk⟩|⟨rfl,S,n,hk⟩
  ·obtain⟨its,_,pl,_⟩:=I.list hq;refine⟨pl.isList.typeIs,λa e=>?_⟩;cases e;obtain⟨o,n,e,c,hd,_⟩:=pl;exact⟨o,e,hd⟩
  ·refine⟨⟨o,I.j9 p o hk,hc⟩,λa e=>?_⟩;cases e;exact⟨o,I.j9 _ o hk,hd⟩
  ·have z:∃o,s.heap.get? p=some o/\o.ExactDict:=by
    rcases hk with⟨kvs,hk⟩|⟨kvs,hk⟩
    ·obtain⟨_,_,_,_,o,_,_,e,ex,_⟩:=I.hok p _ hk;exact⟨o,e,ex⟩
    ·obtain⟨_,_,_,_,o,_,_,e,ex,_⟩:=I.hok p _ hk;exact⟨o,e,ex⟩
   obtain⟨o,e,ex⟩:=z;refine⟨⟨o,e,ex.1⟩,λa e2=>?_⟩;cases e2;exact⟨o,e,ex.2.1⟩
  ·obtain⟨o,_,_,_,e,ex,_⟩:=I.hok p _ hk;refine⟨⟨o,e,ex.1⟩,λa e2=>?_⟩;cases e2;exact⟨o,e,ex.2.1⟩
 |_=>exact Xy ty
def UC(K:XO)(T:String)(r:V->List V->Hp->VK->Prop)(to:TE)(t:TA):TE:=λσ H Q=>to σ H λx H1=>S5 K T x H1/\t σ H1 λxs H2=>r x xs H2 Q
variable{o e:Expr}{es:List Expr}{to:TE}{t:TA}{name:Str}{apos cpos:Pos}{T id:String}{r:V->List V->Hp->VK->Prop}
theorem lF(pa:PlainAttrs T)(slot:Slot T name id)(hty:typeOf (.builtin id)=pure (.type "method_descriptor"))(hm:Si X id r)(ho:PE X o to)(ha:PA X (e::es) t)
  (hbase:attributeBase o name X.env (eval o X.env)=eval o X.env:=by rfl)
  (hfew:((backTo cpos (starEach (e::es) X.env)).all (λx=>!x.1)&&(backToKw cpos (keywordEach [] X.env)).all (λx=>x.1.isSome)
   && decide ((e::es).length+([]:List Keyword).length+(if([]:List Keyword).isEmpty then 0 else 1)<30))=true:=by rfl)
  (hline:(apos.endLine==cpos.line)=true:=by rfl) (hs:starEach (e::es) X.env=(false,eval e X.env)::starEach es X.env:=by rfl) (hplain:(backTo cpos (starEach es X.env)).any (·.1)=false:=by rfl) :
  PE X (.Call (.Attribute o name apos) (e::es) [] cpos) (UC X.K T r to t):=by
 intro ac s σ H Q I h;refine wpAny_Call_method_late hbase hfew hline rfl (bZ (ho ac s σ H _ I h) λv s1 zz=>?_);obtain⟨x,H1,I1,r1,ty,q1⟩:=zz;obtain⟨h1,h2⟩:=Kz I1 r1 ty;refine⟨T,id,pa,slot,hty,h1,h2,?_⟩;have hA:=ha cpos ac s1 σ H1 _ I1 q1;rw[hs]at hA⊢;refine Calls.callWith_builtin (by show(false||(backTo cpos (starEach es X.env)).any (·.1))=false;rw[hplain]<;>rfl) (Calls.evalArgs_plain ?_);exact bZ hA λus s2 ⟨vs,H2,I2,r2,q2⟩=>hm ac s2 σ H2 x vs v us Q I2 r1 r2 q2
end
def VI(X:Cx)(id:String)(r:V->List V->Hp->VK->Prop):Prop :=
 ∀(ac:Z1)(s:Shared)(σ:St)(H:Hp)(x:V)(xs:List V)(v:Value)(us:Z6)(Q:VK),Inv X ac σ H s->RelV x v->Vals xs us->r x xs H Q->
  wpAny (model X.prog X.w) X.A (call (.builtin id) (v::us)) (EP X ac σ Q) X.xe s
theorem Vals.one{x:V}{us:Z6}(h:Vals [x] us):∃u,us=[u]/\RelV x u:=by
 cases h with
 |cons r t=>cases t;exact⟨_,rfl,r⟩
theorem Vals.rep{xs:List V}{us:Z6}(h:Vals xs us):∀k:Nat,Vals (List.replicate k xs).flatten (List.replicate k us).flatten
 | 0=>.nil
 |k+1=>by rw[List.replicate_succ,List.replicate_succ,List.flatten_cons,List.flatten_cons];exact Vals.append h (Vals.rep h k)
theorem foldl_rep(its:Z6):∀(k:Nat)(acc:Z6),
  List.foldl (λx1 x2=>x1++x2) acc.toArray (List.replicate k its.toArray)=(acc++(List.replicate k its).flatten).toArray
 | 0,acc=>by simp
 |k+1,acc=>by
  have e:acc.toArray++its.toArray=(acc++its).toArray:=by simp
  have e2:(acc++its)++(List.replicate k its).flatten=acc++(List.replicate (k+1) its).flatten:=by rw[List.replicate_succ,List.flatten_cons,List.append_assoc]
  rw[←e2,←foldl_rep its k (acc++its),←e,List.replicate_succ,List.foldl_cons]
section
variable{X:Cx}{ac:Z1}{σ:St}{H:Hp}{s:Shared}{l b:Addr}{xs ys zs:List V}
theorem Inv.Rc{its its':Z6}{n:Nat}{f:Array Value->Array Value}{t':Nat}(I:Inv X ac σ H s)(hH:H l=some (.lst xs))
  (e:s.heap.get? l=some {cls:=.type "list",data:=.seq its.toArray n}) (hf:f its.toArray=its'.toArray) (hv:Vals ys its') (hz:ys.length<=sizeLine) :
  Inv X ac σ (upd H l (.lst ys)) {s with heap:=s.heap.update l (Obj.mapSeq f),toks:=t'}:=by
 have q:=PySem.IsL.update e f;rw[hf]at q;refine I.write (x:=l) (e:=l) (by rw[hH];exact trivial) (.inl rfl) (λb' u hb hu=>(Heap.get?_update_other s.heap (Obj.mapSeq f) (Ne.symm hb)).trans hu) ⟨_,q⟩ ?_;exact⟨hz,its',_,hv,q⟩
theorem Inv.MR{its:Z6}{t':Nat}(I:Inv X ac σ H s)(hv:Vals ys its)(hz:ys.length<=sizeLine) :
  Inv X ac σ (upd H s.heap.objs.size (.lst ys)) {s with heap:=s.heap.push {cls:=.type "list",data:=.seq its.toArray},toks:=t'} :=
 I.laid (λ_ _ q=>WN _ q) (WR _) ⟨hz,its,0,hv,WQ _ rfl⟩
theorem Inv.fresh(I:Inv X ac σ H s):H s.heap.objs.size=none:=I.hok.fresh (WR _)
theorem Inv.F3(I:Inv X ac σ H s)(hH:H l=some (.lst xs)):xs.length<=sizeLine/\∃(its:Z6)(n:Nat),Vals xs its/\xs.length=its.length/\s.heap.get? l=some {cls:=.type "list",data:=.seq its.toArray n}:=by obtain⟨z,its,n,r,e⟩:=I.hok l _ hH;exact⟨z,its,n,r,r.length,e⟩
theorem C0{n:Nat}(h:n<=sizeLine):Builtin.List.listTooLong n=false:=by unfold Builtin.List.listTooLong;exact WT (by omega)
end
section
variable{X:Cx}
def nV:V->List V->Hp->VK->Prop:=λx vs H Q=>∃l xs y,x=.ref l/\vs=[y]/\H l=some (.lst xs)/\xs.length<sizeLine/\Q .non (upd H l (.lst (xs++[y])))
theorem cZ:VI X "list.append" nV:=by intro ac s σ H x vs v us Q I rx rv h;obtain⟨l,xs,y,rfl,rfl,hH,hz,q⟩:=h;cases rx;obtain⟨u,rfl,ru⟩:=rv.one;obtain⟨z,its,n,r,hl,e⟩:=I.F3 hH;refine call_meets F.slot_list_append ⟨_,e,rfl⟩ F.entry_list_append (F.args_list_append_2 _ _) (PySem.list_append l its.toArray n u (by rw[W7];omega)) ⟨e,?_⟩;refine⟨.non,_,I.Rc (its':=its++[u]) hH e (by simp) (r.append (.cons ru .nil)) ?_,rfl,q⟩;rw[WW,List.length_singleton];omega
def Qx:R2:=λx y H Q=>∃l b xs zs,x=.ref l/\y=.ref b/\H l=some (.lst xs)/\H b=some (.lst zs)/\xs.length+zs.length<=sizeLine/\∀p,H p=none->Q (.ref p) (upd H p (.lst (xs++zs)))
theorem mx:jk X (binaryOp .Add) Qx:=by
 intro ac s σ H x y v u Q I rx ry h;obtain⟨l,b,xs,zs,rfl,rfl,hH,hB,hz,q⟩:=h;cases rx;cases ry;obtain⟨z,its,n,r,hl,e⟩:=I.F3 hH;obtain⟨z2,its2,n2,r2,hl2,e2⟩:=I.F3 hB;refine PySem.P.add_list e e2 ?_ (by rw[W7,W7];omega);have ea:its.toArray++its2.toArray=(its++its2).toArray:=by simp
 rw[ea];exact⟨.ref _,_,I.MR (t':=s.toks) (r.append r2) (by rw[WW];omega),rfl,q _ I.fresh⟩
def Ql:R2:=λx y H Q=>∃l k xs,x=.ref l/\y=.int k/\H l=some (.lst xs)/\-(2 ^ 63)<=k/\k<2 ^ 63/\xs.length*k.toNat<=sizeLine/\
 ∀p,H p=none->Q (.ref p) (upd H p (.lst (List.replicate k.toNat xs).flatten))
theorem len_rep{α:Type}(xs:List α)(k:Nat):(List.replicate k xs).flatten.length=k*xs.length:=by
 induction k with
 |zero=>simp
 |succ k ih=>rw[List.replicate_succ,List.flatten_cons,WW,ih,Nat.succ_mul,Nat.add_comm]
theorem xn:jk X (binaryOp .Mult) Ql:=by
 intro ac s σ H x y v u Q I rx ry h;obtain⟨l,k,xs,rfl,rfl,hH,h1,h2,hz,q⟩:=h;cases rx;obtain⟨t,rfl⟩:=ry;obtain⟨z,its,n,r,hl,e⟩:=I.F3 hH;have hlen:its.toArray.size*k.toNat<=sizeLine:=by rw[W7,←hl];exact hz
 have Rv:¬its.toArray.size*k.toNat > (2 ^ 63-1) / 8:=by
  have:(sizeLine:Nat)<=(2 ^ 63-1) / 8:=by decide
  omega
 have hfit:¬(!Builtin.List.listFitsIndex k)=true:=by rw[fitsIndex_both h1 h2];exact W6
 have N3:¬Builtin.List.listTooLong (its.toArray.size*k.toNat)=true:=by rw[C0 hlen];exact W6
 have hnew:List.foldl (λx1 x2=>x1++x2) #[] (List.replicate (if its.toArray.isEmpty=true then 0 else k.toNat) its.toArray)=(List.replicate k.toNat its).flatten.toArray:=by
  have f0:∀m:Nat,List.foldl (λx1 x2=>x1++x2) #[] (List.replicate m its.toArray)=(List.replicate m its).flatten.toArray:=λm=>by have:=foldl_rep its m [];rw[List.nil_append]at this;exact this
  rw[f0];cases its with
  |nil=>simp
  |cons a r'=>rw[Xt (by simp)]
 refine wpAny_binaryOp_repeat_ref (T:="list") (U:="int") (by decide) ⟨_,e,rfl⟩ (λs'=>typeIs_int s' k t) noFill_list_mul F.fills_int_mul F.slot_int_rmul repeat_list F.slot_int_index.lookup
  (call_meets F.slot_int_rmul (typeIs_int s k t) F.entry_int_rmul (F.args_int_rmul_2 _ _) (int___rmul___int_list k t l its.toArray n)
   ⟨e,rfl,⟨_,e,rfl⟩,call_meets F.slot_list_mul ⟨_,e,rfl⟩ F.entry_list_mul (F.args_list_mul_2 _ _) (AutoListH.list___mul___list_int_3 l its.toArray n k t hfit Rv N3) ⟨e,?_⟩⟩)
 rw[hnew];exact⟨.ref _,_,I.MR (t':=s.toks) (r.rep k.toNat) (by rw[len_rep,Nat.mul_comm];exact hz),rfl,q _ I.fresh⟩
end
end L2
namespace Att
open PySem PySem.W PySem.Calls PyProof.Rows
theorem nG{P:Params}{h:Heap}:∀(ns:List Int)(vs:Z6),WellAll P h vs (ns.map WData.int)->IntsAre vs ns:=by
 intro ns;induction ns with
 |nil =>intro vs w;rw[List.map_nil]at w;cases w;exact .nil
 |cons n ns ih =>
  intro vs w;rw[XH]at w;cases w with
  |cons a b =>cases a;exact .cons _ _ (ih _ b)
theorem AD{l:OpenLaw}{n:Nat}(hn:l.most=some n){P:Params}{h:Heap}{args:List WData}{vals:Z6}
  (hpre:l.row.toRowW.claim.pre args=true) (hwl:WellAll P h vals args) :
  ∃a vs ns,vals=[Value.ref a]/\args=[WData.list (ns.map WData.int)]/\h.get? a=some {cls:=.type "list",data:=.seq vs.toArray}/\IntsAre vs ns/\ns.length<=n:=by
 have hsh:WShape.hasAll [] args [.list .int]=true:=(pre_splitW hpre).1;have hc:l.pre.holds [] {args:=args}=true:=(pre_splitW hpre).2;obtain⟨d,r,rfl,h1,h2⟩:=hasAllW_cons hsh;obtain rfl:=hasAllW_nil h2;obtain⟨xs,rfl,h3⟩:=hasW_list h1;obtain⟨ns,rfl⟩:=items_int h3;have hlen:ns.length<=n:=by
  unfold OpenLaw.pre at hc;have h4:(WTm.not (.lt (.lit (.int (n:Int))) (.len (.arg 0)))).holds [] {args:=[.list (ns.map .int)]}=true:=by have h4:=(holds_andW hc).1;rw[hn]at h4;exact h4
  have h5:=condW_of h4 (w_not (w_lt w_lit (w_len_list (w_arg rfl))));rw[WV]at h5;refine Nat.le_of_not_lt λq=>?_;have q':(n:Int)<((ns.length:Nat):Int):=by omega
  first
   | (rw[WU q']at h5;exact Xs h5 (by decide))
   | (simp at h5;omega)
 cases hwl with
 |cons w1 w2 =>
  cases w2;cases w1 with
  |list ho hall=>exact⟨_,_,ns,rfl,rfl,ho,nG ns _ hall,hlen⟩
theorem A_(l:OpenLaw)(args:List WData):l.row.toRowW.claim.post args (.bool true) args=true :=
 postW_of (r:=l.row.toRowW) (X:=(true==true))
  (show WShape.has [] (.bool true) .bool=true by first|rfl|decide|simp[WShape.has,WShape.arms,WShape.armsAll])
  (show(WTm.eq .res (.lit (.bool true))).value [] {args:=args,res:=some (.bool true),after:=args}=some (.bool (true==true)) from w_eq_bool (w_res rfl) w_lit) rfl
theorem wb{l:OpenLaw}{n:Nat}{q:Program}{loose:List Str}{XP:(Z2)->Heap->Prop}{YP:World->Heap->Prop}{d:DefRec}
  (hn:l.most=some n) (hdf:d.params.defaults=[])
  (call:∀(w:World)(s₀ s₁:Shared)(mg mb:Z2)(fa:Addr)(o:Obj)(pm cd doc:Value)(a:Addr)(vs:Z6)(ns:List Int),
   Ground q loose [] XP w s₀ mg mb s₁.heap->YP w s₁.heap->
   s₁.heap.get? fa=some o->o.data=.func (docDef d.name d.params d.body d.scope pm cd doc)->s₁.heap.CodeRec cd d.name->mg d.name=some (.ref fa)->
   s₁.heap.get? a=some {cls:=.type "list",data:=.seq vs.toArray}->IntsAre vs ns->ns.length<=n->s₁.gens = #[]->
   codeAny (model l.prog w) callerA (.call (.ref fa) ⟨[.ref a],[]⟩) (λr s'=>r=.ok (.ret (.bool true))/\OldK s₁.heap s'.heap/\s'.os=s₁.os/\AllBare s'.gens) s₁) :
  WalkO q loose XP YP l.row.toRowW d [] (λf vs=>PySem.call f vs):=by
 intro w s₀ s₁ mg mb G Y fa o pm cd doc dV kV ho hd hcd hD hmg hg args vals as hpre hlay hrd hwl hlo;obtain rfl:dV=.none:=Dflts.none hD hdf;obtain rfl:kV=.none:=Dflts.noKw hD;obtain⟨a,vs,ns,rfl,rfl,hobj,hints,hlen⟩:=AD hn hpre hwl;refine enter_call (codeAny_mono (call w s₀ s₁ mg mb fa o pm cd doc a vs ns G Y ho (fd_plain hd) hcd hmg hobj hints hlen hg) λr s' hq=>?_);obtain⟨rfl,h2,h3,h4⟩:=hq;exact⟨.inl ⟨.bool true,.bool true,[],rfl,λ_=>rfl,.bool true,A_ l _,λ_=>⟨List.Pairwise.nil,λ_ hm=>(nomatch hm)⟩⟩,h2,h3,h4⟩
end Att
namespace L2
open PySem PySem.Spec PyProof.Rows
theorem A1{vs:Z6}{ns:List Int}(h:IntsAre vs ns):Vals (ns.map V.int) vs:=by
 induction h with
 |nil=>exact .nil
 |cons n t h ih=>exact .cons ⟨t,rfl⟩ ih
def Only(H:Hp):Prop:=∀b,H b=none\/∃o xs,H b=some (.yM o (.lst xs))
theorem Dh{P:Program}{w:World}{K:XO}{mg mb:Z2}{CX:rq}{k:Nat}{fa a:Addr}{fd:FuncData}{x:Str}{sp:Sp}{s₁:Shared}{vs:Z6}{ns:List Int}
  (KX:K.In s₁.heap) (hns:s₁.heap.Ns mainGlobals mg) (hb:s₁.heap.Ns builtinsNs mb) (hbb:∀x:Str,x≠"__name__"->mb x=bootBuiltins x) (hlim:s₁.heap.NoLimit) (hg:s₁.gens = #[])
  (ha:s₁.heap.get? a=some {cls:=.type "list",data:=.seq vs.toArray}) (hi:IntsAre vs ns) (hl:ns.length<=sizeLine) (hr:eV k callerA)
  (F:∀base:Heap,K.In base->base.Ns mainGlobals mg->fE P w K mg base CX k fa fd [x] sp) (hbind:∀(s:Shared)(u:Value),BindsTo s fd ⟨[u],[]⟩ [(x,u)])
  (hsp:∀H:Hp,Only H->aZ K H a (ns.map V.int)->sp [.ref a] H (λv _=>v=.bl true) λ_ _ _=>False)
  (P2:∀H e s',CX [] H s₁ (λ_ _ _=>False) e s'->False) :
  codeAny (model P w) callerA (.call (.ref fa) ⟨[.ref a],[]⟩) (λr s'=>r=.ok (.ret (.bool true))/\OldK s₁.heap s'.heap/\s'.os=s₁.os/\AllBare s'.gens) s₁:=by
 have rv:=A1 hi;have lenV:=hi.length;have core:∀H:Hp,Only H->aZ K H a (ns.map V.int)->jr P w H s₁.heap->(∀b,H b≠none->b=a)->(H a≠none->K.lookup a=none)->
   codeAny (model P w) callerA (.call (.ref fa) ⟨[.ref a],[]⟩) (λr s'=>r=.ok (.ret (.bool true))/\OldK s₁.heap s'.heap/\s'.os=s₁.os/\AllBare s'.gens) s₁:=by
  intro H hO hS hok hA hK;have Al:∀{b:Addr}{o:Obj},s₁.heap.get? b=some o->H b=none->(tX s₁.heap H).get? b=some o:=λe n=>Em e n;have Nb:∀{b:Addr}{o:Obj}{es:Array DictEntry}{ep:Nat},s₁.heap.get? b=some o->o.data=.dict es ep->H b=none:=λ{b o es ep} e d=>by
   cases q:H b with
   |none=>rfl
   |some u =>have e':b=a:=hA b (by rw[q];simp);subst e';rw[ha]at e;cases e;have d':Data.seq vs.toArray _=Data.dict es ep:=d;cases d'
  have OY:∀{b:Addr}{m:Z2},s₁.heap.Ns b m->(tX s₁.heap H).Ns b m:=λ{b m} ⟨o,es,ep,e,d,r⟩=>⟨o,es,ep,Al e (Nb e d),d,r⟩;have Td:K.In (tX s₁.heap H):=λb o e=>Al (KX b o e) (by
   cases q:H b with
   |none=>rfl
   |some u =>have e':b=a:=hA b (by rw[q];simp);subst e';rw[hK (by rw[q];simp)]at e;cases e)
  have hM:Mod K mg (tX s₁.heap H):=⟨Td,OY hns,⟨mb,OY hb,hbb⟩,let ⟨mc,h1,h2⟩:=hlim;⟨mc,OY h1,h2⟩⟩;have e0:yg P w K mg (tX s₁.heap H) callerA [] s₁ H:=⟨rfl,hM,λb o e=>HL e,XF (AR _ _),trivial,λb hb=>Xs (show b∈([]:Z8) from hb) (by simp),hok,.of_eq hg⟩;refine codeAny_mono ((F _ Td (OY hns)).run callerA [] s₁ H ⟨[.ref a],[]⟩ [.ref a] [.ref a] _ _ hr e0 (hbind s₁ (.ref a)) (.cons rfl .nil) (hsp H hO hS)) λr s' h=>?_;cases r with
  |error e=>exact(P2 H e s' h).elim
  |ok fl =>
   cases fl with
   |next=>exact Xy h
   |brk=>exact Xy h
   |cont=>exact Xy h
   |ret u =>
    obtain⟨v,H',os,bare,un,hok',r',q⟩:=h;have q':v=.bl true:=q;subst q';obtain rfl:u=Value.bool true:=r';refine⟨rfl,OldK.of_keep λb o e=>?_,os,bare⟩;cases q:H b with
    |none=>exact un.keep b o e q (by intro z;exact Xs (show b∈([]:Z8) from z) (by simp)) (by simp)
    |some u =>
     rcases hO b with z|⟨ob,xs,z⟩
     ·rw[q]at z;cases z
     ·have z2:=un.ow b ob _ z;obtain⟨e1,_⟩:=hok b _ z;obtain⟨e2,_⟩:=hok' b _ z2;rw[e]at e1;cases e1;exact e2
 cases hk:K.lookup a with
 |some o =>have e:=KX a o hk;rw[ha]at e;cases e;refine core (λ_=>none) (λ_=>.inl rfl) (.inr ⟨_,vs.toArray,_,hk,rfl,rfl,rfl,by rw[W7,lenV];exact hl,by simpa using rv⟩) (λb u z=>by have z':(none:Option HO)=some u:=z;cases z') (λb z=>Xs rfl z) λz=>Xs rfl z
 |none =>
  refine core (λb=>if b=a then some (.yM {cls:=.type "list",data:=.seq vs.toArray} (.lst (ns.map V.int)))else none) (λb=>?_) (.inl (.inr ⟨{cls:=.type "list",data:=.seq vs.toArray},Xu rfl⟩)) (λb u z=>?_) (λb z=>?_) λ_=>hk
  ·by_cases hb:b=a
   ·exact .inr ⟨_,_,Xu hb⟩
   ·exact .inl (Xt hb)
  ·by_cases hb:b=a
   ·have z':=(Xu hb).symm.trans z;cases z';subst hb;exact⟨ha,by rw[WV];exact hl,vs,_,rv,ha⟩
   ·have z':=(Xt hb).symm.trans z;cases z'
  ·by_cases hb:b=a
   ·exact hb
   ·exact Xs (Xt hb) z
theorem Ia{l:PySem.W.OpenLaw}{n k:Nat}{q:Program}{loose:List Str}{XP:(Z2)->Heap->Prop}{YP:World->Heap->Prop}{d:DefRec}{K:Params->XO}{CX:World->rq}{sp:World->Sp}{x:Str}
  (hn:l.most=some n) (hn2:n<=sizeLine) (hdf:d.params.defaults=[]) (hr:eV k callerA)
  (hY:∀(w:World)(h:Heap),YP w h->(K w.params).In h)
  (F:∀(w:World)(mg:Z2)(fa:Addr)(h:Heap),(K w.params).In h->h.Ns mainGlobals mg->mg d.name=some (.ref fa)->
   ∃fd:FuncData,(∀(s:Shared)(u:Value),BindsTo s fd ⟨[u],[]⟩ [(x,u)])/\
    ∀base:Heap,(K w.params).In base->base.Ns mainGlobals mg->fE l.prog w (K w.params) mg base (CX w) k fa fd [x] (sp w))
  (hsp:∀(w:World)(H:Hp)(a:Addr)(ns:List Int),ns.length<=n->Only H->aZ (K w.params) H a (ns.map V.int)->sp w [.ref a] H (λv _=>v=.bl true) λ_ _ _=>False)
  (P2:∀(w:World)(H:Hp)(s:Shared)(e:Value)(s':Shared),CX w [] H s (λ_ _ _=>False) e s'->False) :
  PySem.W.WalkO q loose XP YP l.row.toRowW d [] (λf vs=>PySem.call f vs):=by
 refine Att.wb hn hdf λw s₀ s₁ mg mb fa o pm cd doc a vs ns G Y ho hd hcd hmg hobj hints hlen hg=>?_;have KX:=hY w _ Y;obtain⟨fd,hb,hF⟩:=F w mg fa _ KX G.T.g hmg;exact Dh KX G.T.g G.T.b G.T.builtins G.T.nolimit hg hobj hints (WS hlen hn2) hr hF hb (λH hO hS=>hsp w H a ns hlen hO hS) λH e s'=>P2 w H s₁ e s'
def d9(s:Stmt):Arguments:=match s with
 | .FunctionDef _ a _ _ _ _ _ _ _ _=>a
 |_=>{posonlyargs:=[],args:=[],vararg:=none,kwonlyargs:=[],kw_defaults:=[],kwarg:=none,defaults:=[]}
def cV(s:Stmt):List Stmt:=match s with
 | .FunctionDef _ _ b _ _ _ _ _ _ _=>b
 |_=>[]
def ar(s:Stmt):Scope:=match s with
 | .FunctionDef _ _ _ _ _ _ sc _ _ _=>sc
 |_=>{kind:=.function,names:=[],isGenerator:=false,isCoroutine:=false}
abbrev bf:rq:=λ_ _ _ _ _ _=>False
abbrev E0:XK:=λ_ _ _=>False
theorem vq{X:Cx}:Passes bf X E0:=λ_ _ _ _ _ _ _ h=>h.elim
structure Cg(K:XO)(x qual:Str)(st:Stmt)(f:Addr)(fd:FuncData):Prop where
 ex:∃(oc:Value)(od:Option Addr)(kV doc pm:Value)(an:Option Addr)(cdv ct:Value)(osl:Array (Z7)),
  fd=PySem.W.fnOf x qual (d9 st) (cV st) (ar st) .none kV doc pm an cdv ct/\K.lookup f=some ⟨oc,od,.func fd,osl⟩/\PySem.W.codeIn K cdv qual=true
 kp:PySem.W.keepIn K (.ref f)=true
section
variable{P:Program}{w:World}{K:XO}{mg:Z2}{base:Heap}
theorem Cg.ok{x qual:Str}{st:Stmt}{f:Addr}{fd:FuncData}{N ps:List Str}{k:Nat}{sp:Sp}(F:Cg K x qual st f fd)(S:ay N ps (ar st))(len:∀vs H Q E,sp vs H Q E->vs.length=ps.length)
  (hbody:∀(cdv:Value)(A:Around)(outer:List Env)(s:Shared)(H:Hp)(vs:List V)(Q:VK)(E:XK),eV k (A.deeper (envOfC qual (ar st) s.heap.objs.size f cdv))->sp vs H Q E->
   ∃t,oE (qU bf P w K mg base N qual (ar st) f cdv A outer s H E).zy (cV st) t/\t {nx:=λ_ H'=>Q .non H',rt:=Q} (start N vs) H):fE P w K mg base bf (k+1) f fd ps sp:=by
 obtain⟨oc,od,kV,doc,pm,an,cdv,ct,osl,rfl,lk,hcd⟩:=F.ex;refine Jg lk hcd S len λA outer s H vs Q E hr hsp=>?_;obtain⟨t,h,q⟩:=hbody cdv A outer s H vs Q E hr hsp;exact⟨t,h.zy,q⟩
theorem Cg.binds{x qual:Str}{st:Stmt}{f:Addr}{fd:FuncData}{ps:List Str}(F:Cg K x qual st f fd)
  (h:∀(kV doc pm:Value)(an:Option Addr)(cdv ct:Value)(us:Z6),us.length=ps.length->bindArgs (PySem.W.fnOf x qual (d9 st) (cV st) (ar st) .none kV doc pm an cdv ct) ⟨us,[]⟩=pure (ps.zip us)):Binds K fd ps []:=by
 obtain⟨oc,od,kV,doc,pm,an,cdv,ct,osl,rfl,lk,hcd⟩:=F.ex;exact .all (h kV doc pm an cdv ct)
theorem xZ{x qual:Str}{st:Stmt}{f:Addr}{oc:Value}{od an:Option Addr}{osl:Array (Z7)}{kV doc pm cdv ct:Value}(l:K.lookup f=some ⟨oc,od,.func (PySem.W.fnOf x qual (d9 st) (cV st) (ar st) .none kV doc pm an cdv ct),osl⟩)
  (c:PySem.W.codeIn K cdv qual=true) (k:PySem.W.keepIn K (.ref f)=true):Cg K x qual st f (PySem.W.fnOf x qual (d9 st) (cV st) (ar st) .none kV doc pm an cdv ct):=⟨⟨oc,od,kV,doc,pm,an,cdv,ct,osl,rfl,l,c⟩,k⟩
end
theorem jD{A:Around}{k:Nat}(hr:eV k A):A.units+1<cLine:=WY (Nat.add_le_add_left (by decide:1<=64) _) hr.units
section
variable{X:Cx}
theorem pv(i:Nat){x:Str}{pos:Pos}(hN:X.N[i]? = some x:=by rfl)(hv:Rm X.env.scope x:=by first|exact Xw rfl|exact Or.inr (Xw rfl)|exact Or.inr (Or.inr rfl))(hd:(x==("__debug__" : Str))=false:=by decide)
  (hcd:(x==("__classdict__" : Str))=false:=by decide):PE X (.Name x pos) (bB i):=yz hN hv hd hcd
end
theorem bF{A B:Prop}(h:B):if false=true then A else B:=by rw[Xt W6];exact h
theorem b_{A B:Prop}(h:A):if true=true then A else B:=by rw[Xu rfl];exact h
theorem cG{c A B:Prop} [Decidable c](h1:c->A)(h2:¬c->B):if c then A else B:=by
 by_cases h:c
 ·rw[Xu h];exact h1 h
 ·rw[Xt h];exact h2 h
def aM(H H':Hp):Prop:=∀b o,H b=some o->H' b=some o
theorem aM.refl(H:Hp):aM H H:=λ_ _ h=>h
theorem aM.trans{H H1 H2:Hp}(a:aM H H1)(b:aM H1 H2):aM H H2:=λc o h=>b c o (a c o h)
theorem aM.free{H H':Hp}(e:aM H H'){l:Addr}(h:H' l=Option.none):H l=Option.none:=by
 cases q:H l with
 |none=>rfl
 |some o =>rw[e l o q]at h;cases h
theorem aM.seq{K:XO}{H H':Hp}{a:Addr}{xs:List V}(e:aM H H')(h:aZ K H a xs):aZ K H' a xs:=by
 rcases h with(h|⟨o,h⟩)|h
 ·exact .inl (.inl (e _ _ h))
 ·exact .inl (.inr ⟨o,e _ _ h⟩)
 ·exact .inr h
def bP(cells:List (Str×Addr)):List (Str×NameKind)->List (Str×Addr)->List (Str×Addr)
 |[],acc=>acc
 | (n,k)::r,acc=>bP cells r (if(k==NameKind.free)=true then(n,(cells.lookup n).getD 0)::acc else acc)
theorem rE{cells:List (Str×Addr)}{x:Str}{c:Addr}:∀{ns:List (Str×NameKind)}{acc:List (Str×Addr)},(x,c)∈bP cells ns acc->((x,NameKind.free)∈ns/\c=(cells.lookup x).getD 0)\/(x,c)∈acc
 |[],_,h=>.inr h
 | (n,k)::r,acc,h=>by
  have q:=rE (ns:=r) h;rcases q with⟨q1,q2⟩|q
  ·exact .inl ⟨W5 _ q1,q2⟩
  ·by_cases hk:(k==NameKind.free)=true
   ·rw[Xu hk]at q;have ek:k=NameKind.free:=by simpa using hk
    rcases Xa.mp q with e|q
    ·cases e;subst ek;exact .inl ⟨Xo,rfl⟩
    ·exact .inr q
   ·rw[Xt hk]at q;exact .inr q
theorem rG{cells:List (Str×Addr)}{p:Str×Addr}:∀{ns:List (Str×NameKind)}{acc:List (Str×Addr)},p∈acc->p∈bP cells ns acc
 |[],_,h=>h
 | (n,k)::r,acc,h=>by
  refine rG (ns:=r) ?_;split
  ·exact W5 _ h
  ·exact h
theorem r_{cells:List (Str×Addr)}{x:Str}:∀{ns:List (Str×NameKind)}{acc:List (Str×Addr)},(x,NameKind.free)∈ns->(x,(cells.lookup x).getD 0)∈bP cells ns acc
 | (n,k)::r,acc,h=>by
  rcases Xa.mp h with e|h
  ·cases e;refine rG (ns:=r) ?_;rw[Xu (by rfl)];exact Xo
  ·exact r_ (ns:=r) h
theorem kr{x:Str}{c:Addr}:∀{l:List (Str×Addr)},(x,c)∈l->∃c',l.lookup x=some c'
 | (n,d)::r,h=>by
  rw[XG];cases e:x==n with
  |true=>exact⟨d,rfl⟩
  |false =>
   rcases Xa.mp h with q|q
   ·cases q;simp at e
   ·exact kr q
theorem r6{env:Env}(f:(Str×NameKind)->List (Str×Addr)->Sem (ForInStep (List (Str×Addr))))(hf1:∀n acc c,env.cells.lookup n=some c->f (n,.free) acc=pure (.yield ((n,c)::acc)))
  (hf2:∀n k acc,(k==NameKind.free)=false->f (n,k) acc=pure (.yield acc)):∀(ns:List (Str×NameKind))(acc:List (Str×Addr)),(∀y∈ns,y.2=.free->∃c,env.cells.lookup y.1=some c)->forIn ns acc f=pure (bP env.cells ns acc)
 |[],_,_=>rfl
 | (n,k)::r,acc,h=>by
  have ih:=λacc'=>r6 f hf1 hf2 r acc' λy hy=>h y (W5 _ hy);rw[List.forIn_cons];cases hk:k==NameKind.free with
  |true =>
   have ek:k=NameKind.free:=by simpa using hk
   subst ek;obtain⟨c,e⟩:=h (n,.free) Xo rfl;have e':env.cells.lookup n=some c:=e;rw[hf1 n acc c e];show forIn r ((n,c)::acc) f=_;rw[ih];show _=pure (bP env.cells r (if(NameKind.free==NameKind.free)=true then(n,(env.cells.lookup n).getD 0)::acc else acc));rw[Xu (by rfl),e'];rfl
  |false =>rw[hf2 n k acc hk];show forIn r acc f=_;rw[ih];show _=pure (bP env.cells r (if(k==NameKind.free)=true then(n,(env.cells.lookup n).getD 0)::acc else acc));rw[Xt (by rw[hk];decide)]
theorem c7{scope:Scope}{env:Env}(h:∀y∈scope.names,y.2=.free->∃c,env.cells.lookup y.1=some c):closureFor scope env=pure (bP env.cells scope.names []):=by
 unfold closureFor;show(forIn scope.names [] _ >>= _)=_;rw[r6 (env:=env) _ ?_ ?_ scope.names [] h]
 ·rfl
 ·intro n acc c e;show(if(NameKind.free==NameKind.free)=true then _ else _)=_;rw[Xu (by rfl)];unfold cellOf;rw[e];first|rfl|skip
 ·intro n k acc hk;show(if(k==NameKind.free)=true then _ else _)=_;rw[Xt (by rw[hk];decide)]
abbrev aL(X:Cx)(N':List Str)(sc:Scope)(cl:List (Str×Addr))(C:Addr)(s:Shared)(H:Hp)(fp:Z8):Cx :=
 {X with N:=N',s₀:=s,H₀:=H,env:=compEnvC sc cl C X.env,outer:=X.stack,stack:=X.stack,ex:=fp,fn:=λx=>sc.names.lookup x==some NameKind.local,pn:=[],xe:=λ_ _=>False}
structure ba(FJ:Scope)(ON N':List Str)(src:List (Option Nat))(sc:Scope):Prop where
 kind:sc.kind=.function
 To:FJ.kind=.function
 uniq:∀y∈sc.names,sc.names.lookup y.1=some y.2
 pR:∀y∈sc.names,y.2≠ .cell
 free:∀y∈sc.names,y.2=.free->FJ.names.lookup y.1=some .cell\/FJ.names.lookup y.1=some .free
 len:src.length=N'.length
 src:∀(i:Nat)(x:Str)(j:Nat),N'[i]? = some x->src[i]? = some (some j)->ON[j]? = some x/\sc.names.lookup x=some .free
def km(src:List (Option Nat))(σ:St):St:=src.map λo=>o.bind λj=>(σ[j]?).bind id
theorem C1{src:List (Option Nat)}{σ:St}{i:Nat}{v:V}(h:(km src σ)[i]? = some (some v)):∃j,src[i]? = some (some j)/\σ[j]? = some (some v):=by
 unfold km at h;rw[Xi]at h;cases e:src[i]? with
 |none=>rw[e]at h;cases h
 |some o =>
  rw[e]at h;cases o with
  |none=>cases h
  |some j =>
   have h':(σ[j]?).bind id=some v:=Xf h;cases e2:σ[j]? with
   |none=>rw[e2]at h';cases h'
   |some w =>rw[e2]at h';have h'':w=some v:=h';exact⟨j,rfl,by rw[e2,h'']⟩
def jn(X:Cx)(ifs:List Expr)(t:TT):Prop :=
 ∀(ac:Z1)(s:Shared)(σ:St)(H:Hp)(Q:Bool->Hp->Prop),Inv X ac σ H s->t σ H Q->
  wpAny (model X.prog X.w) X.A (forIn ifs true λc r=>if r=true then do let ok←isTrue c X.env (eval c X.env);pure (ForInStep.yield ok)else pure (ForInStep.yield r)) (TP X ac σ Q) X.xe s
def Na:TT:=λ_ H Q=>Q true H
theorem aY{X:Cx}:jn X [] Na:=λ_ _ _ H _ I h=>wpAny_tests_nil ⟨H,I,h⟩
theorem qa{X:Cx}{c:Expr}{t:TT}(h:PT X c t):jn X [c] t:=λac s σ H Q I q=>wpAny_tests_one (h ac s σ H Q I q)
def oQ(J:It)(g:TG)(tc:TT)(te:TE)(D:Addr)(Q:VK)(W:Nat->Nat->St->List V->Hp->Prop):Prop :=
 ∀i m σ ys H,W i m σ ys H->H D=some (.lst ys)/\((J.stop i H/\Q (.ref D) H)\/(J.go i H/\ys.length<sizeLine/\∃N:St->List V->Hp->Prop,(∀σ' ys' H',N σ' ys' H'->∃m',m'<m/\W (i+1) m' σ' ys' H')/\
  ∀x H',J.FN i H x H'->g x σ H' λde H2=>tc de H2 λb H3 =>
   if b=true then te de H3 λv H4=>H4 D=some (.lst ys)/\N de (ys++[v]) (upd H4 D (.lst (ys++[v])))else N de ys H3))
def Fb(src:List (Option Nat))(wi:TI)(g:TG)(tc:TT)(te:TE):TE:=λσ H Q=>wi σ H λJ H1=>∀D,H1 D=none->
 ∃W:Nat->Nat->St->List V->Hp->Prop,(∃m,W 0 m (km src σ) [] (upd H1 D (.lst [])))/\oQ J g tc te D Q W
section
variable{X:Cx}{elt target iter:Expr}{ifs:List Expr}{sc:Scope}{pos:Pos}{wi:TI}{g:TG}{tc:TT}{te:TE}{N':List Str}{src:List (Option Nat)}
theorem B5{it acc:Value}{env:Env}{prog:Program}{w:World}{A:Around}{s:Shared}{R:Z5}(Iv:Nat->Shared->Prop)
  (turn:∀n s,Iv n s->wpAny (model prog w) A (pyNext it) (λr s₁=>match r with
   |none=>R (.ok .next) s₁
   |some v=>wpAny (model prog w) A (letOwnedTupleGo target it v) (λ_ s₁'=>wpAny (model prog w) A (assign target env v) (λ_ s₂ =>
     wpAny (model prog w) A (forIn ifs true λc r=>if r=true then do let ok←isTrue c env (eval c env);pure (ForInStep.yield ok)else pure (ForInStep.yield r)) (λok s₃ =>
      if ok=true then wpAny (model prog w) A (eval elt env) (λx s₄ =>
       wpAny (model prog w) A (call (.builtin "list.append") [acc,x]) (λ_ s₅=>∃m,m<n/\Iv m s₅) (λ_ _=>False) s₄) (λ_ _=>False) s₃
      else∃m,m<n/\Iv m s₃) (λ_ _=>False) s₂) (λ_ _=>False) s₁') (λ_ _=>False) s₁) (λ_ _=>False) s)
  (n:Nat) (h:Iv n s) :
  codeAny (model prog w) A (.compLoop (.ListComp elt [⟨target,iter,ifs,0⟩] sc pos) 0 it acc env) R s:=by
 refine codeAny_loop rfl Iv (λn s hI=>?_) n h;show wpAny _ A ((compTurn (.ListComp elt [⟨target,iter,ifs,0⟩] sc pos) 0 it acc env).onRaise (λx=>do noteFrame x env;theTreesLotGoes x)) _ _ s;refine wpAny_noted ?_;rw[compTurn_list];refine WL (wpAny_standAt (WL (Xl (turn n s hI) (λr s₁ h₁=>?_) λ_ _ h'=>h'.elim)));cases r with
 |none=>exact WM h₁
 |some v =>
  refine WL (Xl h₁ (λ_ s₁' h₁'=>WL (Xl h₁' (λ_ s₂ h₂=>WL (Xl h₂ (λok s₃ h₃=>?_) λ_ _ h'=>h'.elim)) λ_ _ h'=>h'.elim)) λ_ _ h'=>h'.elim);cases ok with
  |false=>exact WM ⟨rfl,h₃⟩
  |true =>exact WL (WL (Xl h₃ (λx s₄ h₄=>WL (Xl h₄ (λ_ s₅ h₅=>WM (WM ⟨rfl,h₅⟩)) λ_ _ h'=>h'.elim)) λ_ _ h'=>h'.elim))
theorem i6{ac:Z1}{σ:St}{H:Hp}{s:Shared}{h1:Heap}{fp:Z8}(S:ba X.env.scope X.N N' src sc)(I:Inv X ac σ H s)(f2:∀b∈fp,dE X ac H b)(o2:∀b∈fp,b<s.heap.objs.size)
  (ns:h1.Ns s.heap.objs.size λx=>(([]:List (Str×Value)).reverse.lookup x)) (sb:Heap.SameBut s.heap.objs.size (s.heap.push {cls:=.type "dict",data:=.dict #[]}) h1) {tk:Nat} :
  Inv (aL X N' sc (bP X.env.cells sc.names []) s.heap.objs.size s H fp) [] (km src σ) H {s with heap:=h1,toks:=tk}:=by
 have old:∀b o,s.heap.get? b=some o->h1.get? b=some o:=λb o e=>(sb.2 b (Xd (WO e))).trans (WN _ e);have clo:∀x c,(bP X.env.cells sc.names []).lookup x=some c->X.env.cells.lookup x=some c/\sc.names.lookup x=some .free:=λx c e=>by
  rcases rE (mem_of_lookup e)with⟨m,q⟩|z
  ·obtain⟨c',e'⟩:=I.ok.has x (S.free _ m rfl);rw[e']at q;exact⟨by rw[e',q];rfl,S.uniq _ m⟩
  ·cases z
 have Lz:∀x,sc.names.lookup x=some .free->∃c,(bP X.env.cells sc.names []).lookup x=some c:=λx e=>kr (r_ (mem_of_lookup e));have kinds:∀(x:Str)(k:NameKind),(relabel sc X.env).names.lookup x=some k->(k=.cell\/k=.free)->sc.names.lookup x=some .free:=λx k e hk=>by
  have gen:∀ns:List (Str×NameKind),(∀y∈ns,y.2≠ .cell)->(ns.map λ(n,k)=>if(k==NameKind.free&&X.env.scope.kind == .function&&X.env.kindOf n==some .cell)then(n,NameKind.cell)else(n,k)).lookup x=some k->ns.lookup x=some .free:=by
   intro ns;induction ns with
   |nil=>intro _ h;cases h
   |cons y r ih =>
    obtain⟨n,k1⟩:=y;intro hn h;rw[XH]at h;dsimp only at h;by_cases hc:(k1==NameKind.free&&X.env.scope.kind == .function&&X.env.kindOf n==some .cell)=true
    ·rw[Xu hc,XG]at h;rw[XG];cases hx:x==n with
     |true =>
      have:k1=NameKind.free:=by
       cases hk1:k1==NameKind.free with
       |true=>simpa using hk1
       |false=>rw[hk1]at hc;simp at hc
      rw[this]
     |false=>rw[hx]at h;exact ih (λy hy=>hn y (W5 _ hy)) h
    ·rw[Xt hc,XG]at h;rw[XG];cases hx:x==n with
     |true =>
      rw[hx]at h;have h':k1=k:=Xf h;rcases hk with hk|hk
      ·exact Xs (h'.trans hk) (hn (n,k1) Xo)
      ·show some k1=_;rw[h',hk]
     |false=>rw[hx]at h;exact ih (λy hy=>hn y (W5 _ hy)) h
  exact gen sc.names S.pR e
 have NX:∀x,sc.names.lookup x=some .free->(relabel sc X.env).names.lookup x=some .cell\/(relabel sc X.env).names.lookup x=some .free:=λx e=>by
  have gen:∀ns:List (Str×NameKind),ns.lookup x=some .free->(ns.map λ(n,k)=>if(k==NameKind.free&&X.env.scope.kind == .function&&X.env.kindOf n==some .cell)then(n,NameKind.cell)else(n,k)).lookup x=some .cell\/
    (ns.map λ(n,k)=>if(k==NameKind.free&&X.env.scope.kind == .function&&X.env.kindOf n==some .cell)then(n,NameKind.cell)else(n,k)).lookup x=some .free:=by
   intro ns;induction ns with
   |nil=>intro h;cases h
   |cons y r ih =>
    obtain⟨n,k1⟩:=y;intro h;rw[XH];dsimp only;rw[XG]at h;by_cases hc:(k1==NameKind.free&&X.env.scope.kind == .function&&X.env.kindOf n==some .cell)=true
    ·rw[Xu hc,XG];cases hx:x==n with
     |true=>exact .inl rfl
     |false=>rw[hx]at h;exact ih h
    ·rw[Xt hc,XG];cases hx:x==n with
     |true =>rw[hx]at h;exact .inr h
     |false=>rw[hx]at h;exact ih h
  exact gen sc.names e
 refine⟨⟨I.mod,?_,I.ok.glob,I.ok.blt,WR _,λx y c h1 h2=>I.ok.inj x y c (clo x c h1).1 (clo y c h2).1,λx hx=>?_,λx c hf h=>?_,I.ok.hd,I.ok.frames,.inl rfl,λb hb=>⟨?_,λx c h=>?_⟩,I.bs,?_,λb o e hb=>?_,λb hb hs=>?_,I.stack,I.ot⟩,
  rfl,I.bare,Un.kept old,⟨_,ns,λi x v h1 h2 h3=>?_⟩,λx c h=>?_,I.hok.fresh (WR _),λx c h=>I.gF x c (clo x c h).1,λp hp=>Xs (show p∈([]:Z1) from hp) (by simp),I.hok.kept old,?_⟩
 ·show(relabel sc X.env).kind=.function;exact S.kind
 ·obtain hx|hx:=hx
  ·exact Lz x (kinds x _ hx (.inl rfl))
  ·exact Lz x (kinds x _ hx (.inr rfl))
 ·have e2:=(clo x c h).2;have hf':(sc.names.lookup x==some NameKind.local)=true:=hf;rw[e2]at hf';cases hf'
 ·exact Xd (o2 b hb)
 ·exact(f2 b hb).2.2.2.2.1 x c (clo x c h).1
 ·exact WS I.ok.Ce I.sz
 ·rcases(f2 b hb).2.2.2.1 with z|z
  ·exact I.ok.vQ b o e z
  ·exact Xs (WZ (WO e) (WS I.ok.Ce z)) (Nat.lt_irrefl _)
 ·rcases Xa.mp (I.xu b hs)with z|z
  ·exact(f2 b hb).2.1 z
  ·exact(f2 b hb).2.2.1 z
 ·obtain⟨j,e1,e2⟩:=C1 h2;obtain⟨e3,e4⟩:=S.src i x j h1 e1;obtain⟨m,hn,hl⟩:=I.loc;have kx:=S.free _ (mem_of_lookup e4) rfl;obtain⟨u,ru,l⟩:=hl j x v e3 e2 (.inr kx);refine⟨u,ru,.inr ⟨NX x e4,?_⟩⟩;obtain⟨c,hc⟩:=Lz x e4;refine⟨c,hc,?_⟩;have hc':=(clo x c hc).1;rcases l with⟨lk,_⟩|⟨_,c',lc,z⟩
  ·have SR:X.env.scope.names.lookup x=some .local:=lk;rcases kx with q|q
   ·have q':X.env.scope.names.lookup x=some .cell:=q;rw[SR]at q';cases q'
   ·have q':X.env.scope.names.lookup x=some .free:=q;rw[SR]at q';cases q'
  ·rw[hc']at lc;cases lc;obtain⟨o,ho,hd⟩:=z;exact⟨o,old _ _ ho,hd⟩
 ·obtain⟨v,o,ho,hd⟩:=I.cell x c (clo x c h).1;exact⟨v,o,old _ _ ho,hd⟩
 ·show(km src σ).length=N'.length;unfold km;rw[WV];exact S.len
theorem qE{ac:Z1}{σ:St}{H2:Hp}{s2:Shared}{it:Addr}{fp:Z8}{tn:Nat->Heap->Prop}{J:It}{Q:VK}{E:Z0}{RR:Value->Addr->Z5}
  (hc:X.calm=true) (S:ba X.env.scope X.N N' src sc)
  (hg:∀cl C s H fp,PG (aL X N' sc cl C s H fp) target g) (ht:∀cl C s H fp,jn (aL X N' sc cl C s H fp) ifs tc) (he:∀cl C s H fp,PE (aL X N' sc cl C s H fp) elt te)
  (I2:Inv X ac σ H2 s2) (T:Turn X.prog X.w X.K target J fp it tn) (st2:tn 0 s2.heap) (f2:∀b∈fp,dE X ac H2 b)
  (hW:∀D,H2 D=none->∃W:Nat->Nat->St->List V->Hp->Prop,(∃m,W 0 m (km src σ) [] (upd H2 D (.lst [])))/\oQ J g tc te D Q W)
  (hRR:∀D C s5 H' m,Inv X ac σ H' s5->s5.heap.Ns C m->dE X ac H' C->Q (.ref D) H'->RR (.ref D) C (.ok .next) s5) :
  wpAny (model X.prog X.w) X.A (newList []) (λacc s₃=>wpAny (model X.prog X.w) X.A (newFunctionEnv sc X.env.globals (bP X.env.cells sc.names []) [] X.env.qual none .none (some X.env)) (λcenv s₄ =>
   codeAny (model X.prog X.w) X.A (.compStart (.ListComp elt [⟨target,iter,ifs,0⟩] sc pos) 0 (.ref it) acc {cenv with scope:=relabel sc X.env}) (RR acc cenv.locals) s₄) E s₃) E s2:=by
 have o2:∀b∈fp,b<s2.heap.objs.size:=λb hb=>by obtain⟨o,e,_⟩:=T.obj 0 _ st2 b hb;exact WO e
 refine Xn ?_;have K3:H2 s2.heap.objs.size=none:=I2.hok.fresh (WR _);obtain⟨W,⟨m0,w0⟩,turn⟩:=hW s2.heap.objs.size K3;have I3:Inv X ac σ (upd H2 s2.heap.objs.size (.lst [])) {s2 with heap:=s2.heap.push {cls:=.type "list",dict:=none,data:=.seq ([]:Z6).toArray}} :=
  I2.laid (t':=s2.toks) (λb u e=>WN _ e) (WR _) ⟨Xe _,[],0,.nil,WQ _ rfl⟩
 have st3:tn 0 (s2.heap.push {cls:=.type "list",dict:=none,data:=.seq ([]:Z6).toArray}):=T.keep 0 _ _ st2 λb hb o e=>WN _ e;generalize hs3:({s2 with heap:=s2.heap.push {cls:=.type "list",dict:=none,data:=.seq ([]:Z6).toArray}}:Shared)=s3 at I3;have hh3:s3.heap=s2.heap.push {cls:=.type "list",dict:=none,data:=.seq ([]:Z6).toArray}:=by rw[←hs3]
 have FT:s2.heap.objs.size<s3.heap.objs.size:=by rw[hh3,Heap.size_push];exact Nat.lt_succ_self _
 have o3:∀b∈fp,b<s3.heap.objs.size:=λb hb=>Nat.lt_trans (o2 b hb) FT;have f3:∀b∈fp,dE X ac (upd H2 s2.heap.objs.size (.lst [])) b:=λb hb=>⟨by rw[aI (Xd (o2 b hb))];exact(f2 b hb).1,(f2 b hb).2⟩;rw[←hh3]at st3;refine wpAny_newFunctionEnv S.pR (by intro y hy;simp at hy) (λh1 hns hsb=>?_) S.kind;have hsb':Heap.SameBut s3.heap.objs.size (s3.heap.push {cls:=.type "dict",data:=.dict #[]}) h1:=hsb;have I4:Inv (aL X N' sc (bP X.env.cells sc.names []) s3.heap.objs.size s3 (upd H2 s2.heap.objs.size (.lst [])) fp) [] (km src σ) (upd H2 s2.heap.objs.size (.lst [])) {s3 with heap:=h1,toks:=s3.toks+([]:List (Str×Value)).length} :=
  i6 S I3 f3 o3 hns hsb'
 have E5:tn 0 h1:=T.keep 0 _ _ st3 λb hb o e=>(hsb'.2 b (Xd (o3 b hb))).trans (WN _ e);have fC:∀(H':Hp),H' s3.heap.objs.size=none->dE X ac H' s3.heap.objs.size:=λH' hn=>I3.ml (WR _) hn;have loop:codeAny (model X.prog X.w) X.A (.compLoop (.ListComp elt [⟨target,iter,ifs,0⟩] sc pos) 0 (.ref it) (.ref s2.heap.objs.size) (compEnvC sc (bP X.env.cells sc.names []) s3.heap.objs.size X.env))
   (RR (.ref s2.heap.objs.size) s3.heap.objs.size) {s3 with heap:=h1,toks:=s3.toks+([]:List (Str×Value)).length}:=by
  have stat:∀{H':Hp},(∀b∈fp,H' b=none)->∀b∈fp,dE (aL X N' sc (bP X.env.cells sc.names []) s3.heap.objs.size s3 (upd H2 s2.heap.objs.size (.lst [])) fp) [] H' b:=λhn b hb =>
   ⟨hn b hb,(I4.ok.AU b hb).1,I4.ok.pZ b hb,.inl hb,(I4.ok.AU b hb).2,λp hp=>Xs (show p∈([]:Z1) from hp) (by simp)⟩
  refine B5 (λn s'=>∃i σ' ys H',Inv (aL X N' sc (bP X.env.cells sc.names []) s3.heap.objs.size s3 (upd H2 s2.heap.objs.size (.lst [])) fp) [] σ' H' s'/\tn i s'.heap/\(∀b∈fp,H' b=none)/\W i n σ' ys H') ?_ m0
   ⟨0,_,[],_,I4,E5,λb hb=>(f3 b hb).1,w0⟩
  rintro n s5 ⟨i,nX,ys,H5,I5,uU,xm,w5⟩;obtain⟨hD,alt⟩:=turn i n nX ys H5 w5;rcases alt with⟨stop,qn⟩|⟨go,hsz,N,hN,step⟩
  ·refine bZ (T.done (aL X N' sc (bP X.env.cells sc.names []) s3.heap.objs.size s3 (upd H2 s2.heap.objs.size (.lst [])) fp) rfl rfl rfl hc i [] s5 nX H5 _ I5 (stat xm) uU stop) λr s6 zz=>?_;obtain⟨hr,I6⟩:=zz;subst hr;obtain⟨m6,n6,_⟩:=id I6.loc;refine hRR _ _ s6 H5 m6 (I3.call' I6.os I6.base I6.hok I6.bare λb hb=>⟨(f3 b hb).2.2.2.1,(f3 b hb).2.1,(f3 b hb).2.2.2.2.1,(f3 b hb).2.2.2.2.2⟩) n6 (fC _ I6.free) qn
  ·refine bZ (T.item (aL X N' sc (bP X.env.cells sc.names []) s3.heap.objs.size s3 (upd H2 s2.heap.objs.size (.lst [])) fp) rfl rfl rfl hc i [] s5 nX H5 _ I5 (stat xm) uU go) λr s6 zz=>?_;obtain⟨u,hr,h6⟩:=zz;subst hr;refine bZ h6 λ_ s7 zz=>?_;obtain⟨x,H7,I7,r7,y7,uD,Ib⟩:=zz;have HS:=I7.pinned (stat Ib) (T.obj _ _ uD);refine bZ (hg _ _ _ _ _ _ s7 nX H7 x u _ HS r7 (step x H7 y7)) λ_ s8 zz=>?_;obtain⟨uV,H8,I8,q8⟩:=zz;refine bZ (ht _ _ _ _ _ _ s8 uV H8 _ I8 q8) λb s9 zz=>?_;obtain⟨H9,I9,q9⟩:=zz;have again:∀{σ':St}{H':Hp}{s':Shared}{ys':List V}{m':Nat},Inv (aL X N' sc (bP X.env.cells sc.names []) s3.heap.objs.size s3 (upd H2 s2.heap.objs.size (.lst [])) fp) ([]++jH fp s7.heap) σ' H' s'->m'<n->W (i+1) m' σ' ys' H'->
     ∃m,m<n/\∃i σ' ys H',Inv (aL X N' sc (bP X.env.cells sc.names []) s3.heap.objs.size s3 (upd H2 s2.heap.objs.size (.lst [])) fp) [] σ' H' s'/\tn i s'.heap/\(∀b∈fp,H' b=none)/\W i m σ' ys H':=λ{σ' H' s' ys' m'} I' hm w'=>by
    refine⟨m',hm,i+1,σ',ys',H',I'.gE,T.keep _ _ _ uD λb hb o e=>(I'.pin (b,o) (W3 _ (W3 _ (cM hb e)))).1,λb hb=>?_,w'⟩;obtain⟨o,e,d⟩:=T.obj _ _ uD b hb;exact(I'.pin (b,o) (W3 _ (W3 _ (cM hb e)))).2.1
   cases b with
   |false =>rw[Xt W6]at q9⊢;obtain⟨m',hm,w'⟩:=hN _ _ _ q9;exact again I9 hm w'
   |true =>rw[Xu rfl]at q9⊢;refine bZ (he _ _ _ _ _ _ s9 uV H9 _ I9 q9) λxv Cd zz=>?_;obtain⟨v,Bl,MG,r10,Fn,w10⟩:=zz;obtain⟨m',hm,w'⟩:=hN _ _ _ w10;have OF:nV (.ref s2.heap.objs.size) [v] Bl λ_ H'=>H'=upd Bl s2.heap.objs.size (.lst (ys++[v])):=⟨_,ys,v,rfl,rfl,Fn,hsz,rfl⟩;refine bZ (cZ _ Cd uV Bl _ _ _ _ _ MG (show RelV (.ref s2.heap.objs.size) (.ref s2.heap.objs.size) from rfl) (.cons r10 .nil) OF) λ_ Sf zz=>?_;obtain⟨_,PL,IV,_,MK⟩:=zz;rw[MK]at IV;exact again IV hm w'
 exact codeAny_compStart_list loop (T.self _ 0 _ _ _ E5 loop)
theorem bz(hc:X.calm=true)(S:ba X.env.scope X.N N' src sc)(hi:PI X target iter wi)
  (hg:∀cl C s H fp,PG (aL X N' sc cl C s H fp) target g) (ht:∀cl C s H fp,jn (aL X N' sc cl C s H fp) ifs tc) (he:∀cl C s H fp,PE (aL X N' sc cl C s H fp) elt te)
  (hs:∀x,foldedSetIterable iter X.env x=pure x:=by intro _;rfl) :
  PE X (.ListComp elt [⟨target,iter,ifs,0⟩] sc pos) (Fb src wi g tc te):=by
 intro ac s σ H Q I h;rw[eval_ListComp];refine wpAny_comprehension_free (use:=none) rfl hs (c7 λy hy hk=>I.ok.has y.1 (S.free y hy hk)) S.kind (λy hy hl=>by rw[←hl];exact S.uniq y hy) ?_;refine bZ (hi ac s σ H _ I h) λv s1 h1=>bZ h1 λitv s2 h2=>?_;obtain⟨it,fp,tn,J,H2,e,I2,T,st2,f2,hW⟩:=h2;subst e;refine qE (Q:=Q) (RR:=λacc C=>compPost (model X.prog X.w) X.A X.xe none (EP X ac σ Q) acc C) hc S hg ht he I2 T st2 f2 hW ?_;intro D C s5 H' m I5 n5 fC q;refine⟨m,n5,λh' sb=>⟨.ref D,H',?_,rfl,q⟩⟩;exact I5.turned (t':=s5.toks) (λb o hb e=>(sb.2 b hb).trans e) fC.1 fC.2.1 fC.2.2.2.1 fC.2.2.2.2.1 fC.2.2.2.2.2
theorem kF{i:Nat}{x:Str}{pos' spos:Pos}(hN:X.N.Nodup)(hi':X.N[i]? = some x)(hx:Loc X.env.scope x)(hsw:swapsWith (.ListComp elt [⟨target,iter,ifs,0⟩] sc pos) (some (.Name x pos')) spos.line X.env=pure true)
  (hc:X.calm=true) (S:ba X.env.scope X.N N' src sc) (hi:PI X target iter wi)
  (hg:∀cl C s H fp,PG (aL X N' sc cl C s H fp) target g) (ht:∀cl C s H fp,jn (aL X N' sc cl C s H fp) ifs tc) (he:∀cl C s H fp,PE (aL X N' sc cl C s H fp) elt te)
  (hf:X.fn x=true\/X.env.scope.names.lookup x=some .local:=by first|exact .inl rfl|exact .inr rfl|assumption)
  (hs:∀x,foldedSetIterable iter X.env x=pure x:=by intro _;rfl) :
  PS X (.Assign [.Name x pos'] (.ListComp elt [⟨target,iter,ifs,0⟩] sc pos) spos) (CJ (Fb src wi g tc te) (bC i)):=by
 intro ac s σ H D I h;rw[exec_Assign_Name_used _ _ _ _ hsw];refine WL (wpAny_standAt (WL ?_));show wpAny _ _ (comprehension _ _ _ _ _ _ _ _ >>= _) _ _ s;refine WL (wpAny_comprehension_free (use:=some (assign (.Name x pos') X.env)) rfl hs (c7 λy hy hk=>I.ok.has y.1 (S.free y hy hk)) S.kind (λy hy hl=>by rw[←hl];exact S.uniq y hy) ?_);refine bZ (hi ac s σ H _ I h) λv s1 h1=>bZ h1 λitv s2 h2=>?_;obtain⟨it,fp,tn,J,H2,e,I2,T,st2,f2,hW⟩:=h2;subst e;refine qE (Q:=λy H'=>D.nx (σ.set i (some y)) H') (RR:=λacc C=>compPost (model X.prog X.w) X.A X.xe (some (assign (.Name x pos') X.env)) _ acc C) hc S hg ht he I2 T st2 f2 hW ?_;intro D' C s5 H' m I5 n5 fC q;refine wpAny_assign_Name (mz I5 hN hi' hx (show RelV (.ref D') (.ref D') from rfl) (λs6 I6 hsb=>?_) hf);obtain⟨a,sb,ha⟩:=hsb;have RA:C≠a:=by
  rcases ha with z|z
  ·rw[z];exact fC.2.1
  ·exact λe=>fC.2.2.2.2.1 x a z e.symm
 refine⟨m,n5.sameBut sb RA,λh' Rr=>?_⟩;refine WM (WM ?_);exact⟨_,H',I6.turned (t':=s6.toks) (λb o hb e=>(Rr.2 b hb).trans e) fC.1 fC.2.1 fC.2.2.2.1 fC.2.2.2.2.1 fC.2.2.2.2.2,q⟩
end
def zN(FJ:Scope)(ON N':List Str)(src:List (Option Nat))(sc:Scope):Bool :=
 sc.kind == .function&&FJ.kind == .function&&sc.names.all (λy=>sc.names.lookup y.1==some y.2&&y.2 != .cell&&(y.2 != .free||FJ.names.lookup y.1==some .cell||FJ.names.lookup y.1==some .free)) &&
 src.length==N'.length&&(N'.zip src).all λy=>match y.2 with|none=>true|some j=>ON[j]? == some y.1&&sc.names.lookup y.1==some .free
theorem ba.j5{FJ:Scope}{ON N':List Str}{src:List (Option Nat)}{sc:Scope}(h:zN FJ ON N' src sc=true):ba FJ ON N' src sc:=by
 unfold zN at h;simp only[Xq]at h;obtain⟨⟨⟨⟨h1,h2⟩,h3⟩,h4⟩,h5⟩:=h;have h3':=List.all_eq_true.mp h3;have V7:=List.all_eq_true.mp h5;refine⟨by simpa using h1,by simpa using h2,λy hy=>?_,λy hy=>?_,λy hy hf=>?_,by simpa using h4,λi x j e1 e2=>?_⟩
 ·have:=h3' y hy;simp only[Xq]at this;simpa using this.1.1
 ·have:=h3' y hy;simp only[Xq]at this;simpa using this.1.2
 ·have:=h3' y hy;simp only[Xq,Bool.or_eq_true]at this;rcases this.2 with(z|z)|z
  ·rw[hf]at z;exact Xs z (by decide)
  ·exact .inl (by simpa using z)
  ·exact .inr (by simpa using z)
 ·have m:(x,some j)∈N'.zip src:=by refine W4 (i:=i) ?_;rw[List.getElem?_zip_eq_some];exact⟨e1,e2⟩
  have:=V7 _ m;simp only[Xq]at this;exact⟨by simpa using this.1,by simpa using this.2⟩
section
variable{g:TG}{tc:TT}{te:TE}{D:Addr}{Q:VK}{rA:St}{H0:Hp}
theorem iZ{lo:Int}{n:Nat}(Pv:Nat->St->List V->Hp->Prop)(h0:Pv 0 rA [] H0)(hD:∀i σ ys H,i<=n->Pv i σ ys H->H D=some (.lst ys)/\ys.length<=i)(hz:n<=sizeLine)
  (hs:∀i σ ys H,i<n->Pv i σ ys H->g (.int (lo+i)) σ H λde H2=>tc de H2 λb H3=>if b=true then te de H3 λv H4=>H4 D=some (.lst ys)/\Pv (i+1) de (ys++[v]) (upd H4 D (.lst (ys++[v])))else Pv (i+1) de ys H3)
  (hd:∀σ ys H,Pv n σ ys H->Q (.ref D) H):∃W:Nat->Nat->St->List V->Hp->Prop,(∃m,W 0 m rA [] H0)/\oQ (KW lo n) g tc te D Q W:=by
 refine⟨λi m σ ys H=>m=n-i/\i<=n/\Pv i σ ys H,⟨n,by simp,Xe _,h0⟩,?_⟩;rintro i m σ ys H ⟨rfl,hi,p⟩;refine⟨(hD i σ ys H hi p).1,?_⟩;by_cases hlt:i<n
 ·refine .inr ⟨hlt,WY (hD i σ ys H hi p).2 (WZ hlt hz),Pv (i+1),λσ' ys' H' p'=>⟨n-(i+1),by omega,rfl,hlt,p'⟩,λx H' y=>?_⟩;obtain⟨e,y⟩:=y;subst e y;exact hs i σ ys _ hlt p
 ·have e:i=n:=by omega
  subst e;exact .inl ⟨WR _,hd σ ys H p⟩
theorem dJ{K:XO}{a:Addr}{xs:List V}(Pv:Nat->St->List V->Hp->Prop)(h0:Pv 0 rA [] H0)(hD:∀i σ ys H,i<=xs.length->Pv i σ ys H->H D=some (.lst ys)/\ys.length<=i)(hl:∀i σ ys H,i<=xs.length->Pv i σ ys H->aZ K H a xs)(hz:xs.length<=sizeLine)
  (hs:∀i x σ ys H,xs[i]? = some x->Pv i σ ys H->g x σ H λde H2=>tc de H2 λb H3=>if b=true then te de H3 λv H4=>H4 D=some (.lst ys)/\Pv (i+1) de (ys++[v]) (upd H4 D (.lst (ys++[v])))else Pv (i+1) de ys H3)
  (hd:∀σ ys H,Pv xs.length σ ys H->Q (.ref D) H):∃W:Nat->Nat->St->List V->Hp->Prop,(∃m,W 0 m rA [] H0)/\oQ (L5 K a) g tc te D Q W:=by
 refine⟨λi m σ ys H=>m=xs.length-i/\i<=xs.length/\Pv i σ ys H,⟨xs.length,by simp,Xe _,h0⟩,?_⟩;rintro i m σ ys H ⟨rfl,hi,p⟩;have q:=hl i σ ys H hi p;refine⟨(hD i σ ys H hi p).1,?_⟩;by_cases hlt:i<xs.length
 ·refine .inr ⟨⟨xs,xs[i],q,by simp[hlt]⟩,WY (hD i σ ys H hi p).2 (WZ hlt hz),Pv (i+1),λσ' ys' H' p'=>⟨xs.length-(i+1),by omega,rfl,hlt,p'⟩,λx H' y=>?_⟩;obtain⟨e,y⟩:=y;subst e;exact hs i x σ ys _ (y xs q) p
 ·have e:i=xs.length:=by omega
  subst e;exact .inl ⟨⟨xs,q,WR _⟩,hd σ ys H p⟩
theorem cF{K:XO}{a:Addr}{xs:List V}(Pv:Nat->St->List V->Hp->Prop)(h0:Pv 0 rA [] H0)(hD:∀i σ ys H,i<=xs.length->Pv i σ ys H->H D=some (.lst ys)/\ys.length<=i)(hl:∀i σ ys H,i<=xs.length->Pv i σ ys H->aJ K H a xs)(hz:xs.length<=sizeLine)
  (hs:∀i x σ ys H,xs[i]? = some x->Pv i σ ys H->g x σ H λde H2=>tc de H2 λb H3=>if b=true then te de H3 λv H4=>H4 D=some (.lst ys)/\Pv (i+1) de (ys++[v]) (upd H4 D (.lst (ys++[v])))else Pv (i+1) de ys H3)
  (hd:∀σ ys H,Pv xs.length σ ys H->Q (.ref D) H):∃W:Nat->Nat->St->List V->Hp->Prop,(∃m,W 0 m rA [] H0)/\oQ (HU K a) g tc te D Q W:=by
 refine⟨λi m σ ys H=>m=xs.length-i/\i<=xs.length/\Pv i σ ys H,⟨xs.length,by simp,Xe _,h0⟩,?_⟩;rintro i m σ ys H ⟨rfl,hi,p⟩;have q:=hl i σ ys H hi p;refine⟨(hD i σ ys H hi p).1,?_⟩;by_cases hlt:i<xs.length
 ·refine .inr ⟨⟨xs,xs[i],q,by simp[hlt]⟩,WY (hD i σ ys H hi p).2 (WZ hlt hz),Pv (i+1),λσ' ys' H' p'=>⟨xs.length-(i+1),by omega,rfl,hlt,p'⟩,λx H' y=>?_⟩;obtain⟨e,y⟩:=y;subst e;exact hs i x σ ys _ (y xs q) p
 ·have e:i=xs.length:=by omega
  subst e;exact .inl ⟨⟨xs,q,WR _⟩,hd σ ys H p⟩
end
section
variable{X:Cx}{N':List Str}{sc:Scope}{cl:List (Str×Addr)}{C:Addr}{s:Shared}{H:Hp}{fp:Z8}
theorem tY{env:Env}{x:Str}(e:sc.names.lookup x=some .free):(relabel sc env).names.lookup x=some .cell\/(relabel sc env).names.lookup x=some .free:=by
 have gen:∀ns:List (Str×NameKind),ns.lookup x=some .free->(ns.map λ(n,k)=>if(k==NameKind.free&&env.scope.kind == .function&&env.kindOf n==some .cell)then(n,NameKind.cell)else(n,k)).lookup x=some .cell\/
   (ns.map λ(n,k)=>if(k==NameKind.free&&env.scope.kind == .function&&env.kindOf n==some .cell)then(n,NameKind.cell)else(n,k)).lookup x=some .free:=by
  intro ns;induction ns with
  |nil=>intro h;cases h
  |cons y r ih =>
   obtain⟨n,k1⟩:=y;intro h;rw[XH];dsimp only;rw[XG]at h;by_cases hc:(k1==NameKind.free&&env.scope.kind == .function&&env.kindOf n==some .cell)=true
   ·rw[Xu hc,XG];cases hx:x==n with
    |true=>exact .inl rfl
    |false=>rw[hx]at h;exact ih h
   ·rw[Xt hc,XG];cases hx:x==n with
    |true =>rw[hx]at h;exact .inr h
    |false=>rw[hx]at h;exact ih h
 exact gen sc.names e
theorem fF{env:Env}{x:Str}{k:NameKind}(hk:(k==NameKind.free)=false)(e:sc.names.lookup x=some k):(relabel sc env).names.lookup x=some k:=by
 have gen:∀ns:List (Str×NameKind),ns.lookup x=some k->(ns.map λ(n,k)=>if(k==NameKind.free&&env.scope.kind == .function&&env.kindOf n==some .cell)then(n,NameKind.cell)else(n,k)).lookup x=some k:=by
  intro ns;induction ns with
  |nil=>intro h;cases h
  |cons y r ih =>
   obtain⟨n,k1⟩:=y;intro h;rw[XH];dsimp only;rw[XG]at h;cases hx:x==n with
   |true =>rw[hx]at h;have h':k1=k:=Xf h;subst h';rw[Xt (by rw[hk];simp),XG,hx]
   |false =>
    rw[hx]at h;split
    ·rw[XG,hx];exact ih h
    ·rw[XG,hx];exact ih h
 exact gen sc.names e
theorem Ae(i:Nat){x:Str}{pos:Pos}(hN:N'[i]? = some x:=by rfl)(hv:sc.names.lookup x=some .free:=by rfl)(hd:(x==("__debug__" : Str))=false:=by decide)(hcd:(x==("__classdict__" : Str))=false:=by decide) :
  PE (aL X N' sc cl C s H fp) (.Name x pos) (bB i):=yz (X:=aL X N' sc cl C s H fp) hN (.inr (tY hv)) hd hcd
theorem ji(i:Nat){x:Str}{pos:Pos}(hN:N'[i]? = some x:=by rfl)(hv:sc.names.lookup x=some .local:=by rfl)(hd:(x==("__debug__" : Str))=false:=by decide)(hcd:(x==("__classdict__" : Str))=false:=by decide) :
  PE (aL X N' sc cl C s H fp) (.Name x pos) (bB i):=yz (X:=aL X N' sc cl C s H fp) hN (.inl (fF rfl hv)) hd hcd
theorem eE{i:Nat}{x:Str}{pos:Pos}(hn:N'.Nodup:=by decide +kernel)(hN:N'[i]? = some x:=by rfl)(hv:sc.names.lookup x=some .local:=by rfl) :
  PG (aL X N' sc cl C s H fp) (.Name x pos) (bC i):=bJ (X:=aL X N' sc cl C s H fp) hn hN (.inl (fF rfl hv)) (.inr (fF rfl hv))
theorem xS{x:Str}(hv:sc.names.lookup x=some .globalImplicit:=by rfl):Gl (aL X N' sc cl C s H fp) x:=fF (env:=X.env) rfl hv
end
section
variable{X:Cx}
theorem ug:eY X (.builtin "divmod") (λxs H Q=>∃i j,xs=[.int i,.int j]/\(0<j/\j.natAbs.log2<9000)/\∀p,H p=none->Q (.ref p) (upd H p (.tup [.int (i / j),.int (i % j)]))):=by intro ac s σ H xs us Q I r h;obtain⟨i,j,rfl,⟨h1,h2⟩,q⟩:=h;obtain⟨u,w',rfl,⟨t,rfl⟩,⟨t',rfl⟩⟩:=vals2 r;refine divmod_int (by omega) ?_ (.inl (PyProof.noPylong_of_log2 h2));rw[Int.fdiv_eq_ediv_of_nonneg i (by omega),Int.fmod_eq_emod_of_nonneg i (by omega)];have hn:H s.heap.objs.size=none:=I.hok.fresh (WR _);refine⟨.ref s.heap.objs.size,_,?_,rfl,q _ hn⟩;refine I.laid (λb o e=>WN _ e) (WR _) ⟨by simp only[Xp,List.length_nil];rw[sizeLine_eq];decide,[.int (i / j) s.toks,.int (i % j) (s.toks+1)],.cons ⟨_,rfl⟩ (.cons ⟨_,rfl⟩ .nil),?_⟩;exact⟨_,WQ s.heap rfl,rfl,⟨0,rfl⟩,rfl⟩
theorem xJ{ys:List Str}:∀{us:Z6},Vals (ys.map V.str) us->StrsAre us ys:=by
 induction ys with
 |nil=>intro us r;cases r;exact .nil
 |cons y ys ih =>
  intro us r;cases r with
  |cons h t =>obtain⟨tk,rfl⟩:=h;exact .cons _ _ (ih t)
def rJoin(K:XO):V->List V->Hp->VK->Prop:=λx vs H Q=>∃sep p ys,x=.str sep/\vs=[.ref p]/\aZ K H p (ys.map V.str)/\(ys.map (·.length)).sum+ys.length*sep.length<=16777216/\Q (.str (Txt.join sep ys)) H
theorem Gs:Si X "str.join" (rJoin X.K):=by intro ac s σ H x vs v us Q I rx rv h;obtain⟨sep,p,ys,rfl,rfl,hS,hz,q⟩:=h;obtain⟨tk,rfl⟩:=rx;obtain⟨u,rfl,ru⟩:=vals1 rv;cases ru;obtain⟨its,r,pl,_⟩:=I.list hS;exact join_list pl.isList (xJ (by simpa using r)) hz λt' k=>⟨.str (Txt.join sep ys),H,I.tok _,⟨_,rfl⟩,q⟩
end
def dh(H:Hp)(p:Addr):Prop:=∃a b:Int,H p=some (.lst [.int a,.int b])/\0<=a/\0<=b/\b<=2147483647
structure bo(p:Addr)(H H':Hp):Prop where
 keep:∀b o,b≠p->H b=some o->H' b=some o
 cn:dh H' p
theorem bo.refl{p:Addr}{H:Hp}(h:dh H p):bo p H H:=⟨λ_ _ _ e=>e,h⟩
theorem bo.trans{p:Addr}{H H1 H2:Hp}(a:bo p H H1)(b:bo p H1 H2):bo p H H2:=⟨λc o n e=>b.keep c o n (a.keep c o n e),b.cn⟩
theorem bo.same{p:Addr}{H H1:Hp}(h:dh H p)(s:aM H H1):bo p H H1:=⟨λc o _ e=>s c o e,let ⟨a,b,e,r⟩:=h;⟨a,b,s _ _ e,r⟩⟩
theorem aj{H:Hp}{p:Addr}(h:H p=none)(o:HO):aM H (upd H p o):=λb u q=>by rw[aI (aV q h)];exact q
theorem bo.new{p q:Addr}{H H1:Hp}{o:HO}(a:bo p H H1)(h:H1 q=none):bo p H (upd H1 q o):=a.trans (.same a.cn (aj h o))
def Eb(K:XO):Sp:=λvs H Q _=>∃(a:Addr)(ns:List Int)(k:Int),vs=[.ref a,.int k]/\aZ K H a (ns.map V.int)/\0<=k/\∀n,Q (.int n) H
def JA(K:XO):Sp:=λvs H Q _=>∃(a:Addr)(ns:List Int)(k:Int),vs=[.ref a,.int k]/\aZ K H a (ns.map V.int)/\0<=k/\k<=1000/\∀p H',H p=none->aM H H'->dh H' p->Q (.ref p) H'
def dn:Sp:=λvs H Q _=>∃(p:Addr)(m:Int),vs=[.ref p,.int m]/\dh H p/\0<m/\m.natAbs.log2<9000/\∀d H',bo p H H'->0<=d->d<m->Q (.int d) H'
def ql:Sp:=λvs H Q _=>∃(p:Addr),vs=[.ref p]/\dh H p/\∀n H',bo p H H'->-(10 ^ 60)<n->n<10 ^ 60->Q (.int n) H'
def isW(x:Str):Prop:=1<=x.length/\x.length<=8/\∀c∈x.cps.toList,97<=c/\c<=122
def uG:Sp:=λvs H Q _=>∃(p:Addr),vs=[.ref p]/\dh H p/\∀x H',bo p H H'->isW x->Q (.str x) H'
theorem Fd{n:Nat}{i:Int}(h0:0<=i)(h1:i<n):w_ n i=some i.toNat:=by unfold w_;rw[Xu h0,Xu h1]
theorem yH{xs:List V}{i:Int}(h0:0<=i)(h1:i<xs.length):∃v,jo xs i=some v/\xs[i.toNat]? = some v:=by
 have e:=Fd h0 h1;have hj:i.toNat<xs.length:=by omega
 refine⟨xs[i.toNat],?_,by simp[hj]⟩;unfold jo;rw[e];show xs[i.toNat]? = _;simp[hj]
theorem zZ{xs:List V}{i:Int}(h0:0<=i)(h1:i<xs.length):∃v,jo xs i=some v/\v∈xs:=by obtain⟨v,h,g⟩:=yH h0 h1;exact⟨v,h,W4 g⟩
theorem G9{z:Str}{i:Int}(h0:0<=i)(h1:i<(z.cps.toList.length:Nat)):∃c,jo z.cps.toList i=some c/\c∈z.cps.toList:=by
 have e:=Fd (n:=z.cps.toList.length) h0 h1;have hj:i.toNat<z.cps.toList.length:=by omega
 refine⟨z.cps.toList[i.toNat],?_,List.getElem_mem hj⟩;unfold jo;rw[e];show z.cps.toList[i.toNat]? = _;simp only[hj,W0]
theorem rC(g:Str):∀(ps:List Str)(acc:Array Nat),(ps.foldl (λacc p=>acc++g.cps++p.cps) acc).toList=acc.toList++(ps.map λp=>g.cps.toList++p.cps.toList).flatten
 |[],acc=>by simp
 |p::r,acc=>by rw[List.foldl_cons,rC g r];simp[List.append_assoc]
theorem ym(g:Str)(ps:List Str):(Txt.join g ps).cps.toList=(ps.headD Str.empty).cps.toList++((ps.drop 1).map λp=>g.cps.toList++p.cps.toList).flatten:=by unfold Txt.join Builtin.Str.glued;exact rC g (ps.drop 1) _
def sgn(c:Nat):Str:=⟨#[c]⟩
theorem M5:(("" : Str).cps).toList=[]:=by decide +kernel
theorem noStr:(Str.empty.cps).toList=[]:=by decide +kernel
theorem yn(zs:List Nat):(Txt.join "" (zs.map sgn)).cps.toList=zs:=by
 rw[ym,M5];cases zs with
 |nil=>exact noStr
 |cons z r =>
  show [z]++((r.map sgn).map λp=>[]++p.cps.toList).flatten=z::r;have e:((r.map sgn).map λp=>[]++p.cps.toList).flatten=r:=by
   induction r with
   |nil=>rfl
   |cons y r ih =>rw[XH,XH,List.flatten_cons,ih];rfl
  rw[e];rfl
theorem Ip(zs:List Nat):((zs.map sgn).map (·.length)).sum=zs.length:=by
 induction zs with
 |nil=>rfl
 |cons z r ih=>rw[XH,XH,List.sum_cons,ih,Xp];show 1+_=_;omega
theorem KU{x:Str}{zs:List Nat}(e:x.cps.toList=zs)(h1:1<=zs.length)(h2:zs.length<=8)(h3:∀c∈zs,97<=c/\c<=122):isW x:=by
 have l:x.length=zs.length:=by show x.cps.size=_;rw[←e];simp
 exact⟨by omega,by omega,by rw[e];exact h3⟩
theorem bo.put{p D:Addr}{H H3 H4:Hp}{o:HO}(g3:bo p H H3)(hD:H3 D=none)(n:D≠p)(g4:bo p H H4):bo p H (upd H4 D o):=by
 refine⟨λb u nb e=>?_,?_⟩
 ·by_cases hb:b=D
  ·subst hb;exact Xs (g3.keep b u n e) (by rw[hD];simp)
  ·rw[aI hb];exact g4.keep b u nb e
 ·obtain⟨x,y,e,r⟩:=g4.cn;exact⟨x,y,by rw[aI (Ne.symm n)];exact e,r⟩
theorem bo.ne{p D:Addr}{H H3:Hp}(g3:bo p H H3)(hD:H3 D=none):D≠p:=λe=>by subst e;obtain⟨_,_,z,_⟩:=g3.cn;rw[z]at hD;cases hD
section
variable{X:Cx}{x:Str}{pos:Pos}{c:Addr}{n:String}{a b:Expr}{ta tb:TE}
theorem Ft(hg:Gl X x)(hm:X.mg x=some (.ref c))(hd:(x==("__debug__" : Str))=false:=by decide):PE X (.Name x pos) (tC (.ref c)):=cT hg hm (show RelV (.ref c) (.ref c) from rfl) hd
theorem yd(hg:Gl X x)(hm:X.mg x=none)(hv:bootBuiltins x=some (.type n))(hn:x≠"__name__":=by decide)(hd:(x==("__debug__" : Str))=false:=by decide):PE X (.Name x pos) (tC (.ty n)):=HE hg hm hv (show RelV (.ty n) (.type n) from rfl) hn hd
theorem Li(ha:PE X a ta)(hb:PE X b tb)(hs:om b):PE X (.Subscript a b pos) (hZ (sY X.K) ta tb):=gv D8 ha hb hs
end
end L2
namespace PySem
open Sem (wp)
section
variable{prog:Program}{w:World}{A:Around}{E:Z0}{h:Heap}{g:Array GenState}{d:Drawn}{t:Nat}{os:OsState}
variable{nm q:Str}{C N:Addr}{bs bm bmB:Z6}{hdct:Bool}{sn:List Str}{sub:Z6}{ab:Bool}{col:Option Bool}{dd:Option Addr}{k0 k1 k2 k3 k5:Z7}{B newId initId:String}
theorem j_(F:ExcBaseFacts B newId initId bmB)(T:OwnTail h bmB bm){mN:Z2}{rest:Z6}{fI:Addr}{oI:Obj}{Q:Fin->Shared->Prop}
  (hC:h.get? C=some (excClassObj nm q C N bs bm hdct sn sub ab col dd k0 k1 k2 k3 k5 newId)) (hn:h.Ns N mN) (hi:mN "__init__"=some (.ref fI))
  (hfI:h.get? fI=some oI) (hfc:oI.cls=.type "function")
  (hq:∀h' e,Heap.MadeExcOf h h' e (.ref C) rest->
   wpAny (model prog w) A (call (.ref fI) (.ref e::rest)) (λr s'=>r=.none/\Q (.done (.ret (.ref e))) s') E ⟨h',g,d,t,os⟩) (hrest:rest.length<=sizeLine:=by size_fits) :
  wpAny (model prog w) A (Builtin.«type.__call__» ⟨.ref C::rest,[]⟩) Q E ⟨h,g,d,t,os⟩:=by
 repeat (first|with_reducible refine wpAny_loadPart_at hC ?_|with_reducible refine wpAny_madeBy_exc hC ?_|wp_step)
 refine codeAny_call_builtin_code (Code.quiet_builtin _ F.quiet) (wpAny_check_new_subT F T hC ?_);refine codeAny_exc_new_subT F T hC ?_ hrest;show wpAny _ _ _ _ _ _;have hC₁:=WN {cls:=.ref C,data:=.fields #[.ref h.objs.size,.none,.none,.none,.bool false,.none]}
  (WN {cls:=.type "tuple",data:=.seq rest.toArray} hC)
 have hfI₁:=WN {cls:=.ref C,data:=.fields #[.ref h.objs.size,.none,.none,.none,.bool false,.none]}
  (WN {cls:=.type "tuple",data:=.seq rest.toArray} hfI)
 have hn₁:((h.push {cls:=.type "tuple",data:=.seq rest.toArray}).push {cls:=.ref C,data:=.fields #[.ref h.objs.size,.none,.none,.none,.bool false,.none]}).Ns N mN :=
  let ⟨o,es,ep,e,r⟩:=hn;⟨o,es,ep,WN _ (WN _ e),r⟩
 have hget:((h.push {cls:=.type "tuple",data:=.seq rest.toArray}).push
   {cls:=.ref C,data:=.fields #[.ref h.objs.size,.none,.none,.none,.bool false,.none]}).get? (h.objs.size+1)=some
   {cls:=.ref C,data:=.fields #[.ref h.objs.size,.none,.none,.none,.bool false,.none]}:=by heap_get
 have hcC:(Value.ref C::bm).contains (.ref C)=true:=by simp
 have T₁:=T.keeps (h':=(h.push {cls:=.type "tuple",data:=.seq rest.toArray}).push {cls:=.ref C,data:=.fields #[.ref h.objs.size,.none,.none,.none,.bool false,.none]})
  λb o e=>WN _ (WN _ e)
 unfold isInstance;repeat (first|with_reducible refine wpAny_loadPart_at hget ?_ | (with_reducible refine wpAny_isSubtype_exc hC₁ ?_;rw[hcC])|wp_step)
 show wpAny _ _ (typeLookup (.ref C) _) _ _ _;refine wpAny_typeLookup_tail hC₁ hn₁ T₁ F.mroIs F.init.lookup ?_;rw[hi];refine Xm (WL ?_);unfold bindSpecial;refine WL (wpAny_typeOf (T:="function") ⟨_,hfI₁,hfc⟩ ?_);rw[Xu (by decide)];refine WM (WL (Xl (hq _ (h.objs.size+1) ⟨λb o hb=>WN _ (WN _ hb),Heap.get?_none_of_le (Nat.le_succ _),h.objs.size,hget,Heap.get?_none_of_le (WR _),?_⟩) (λr s' hr=>?_) λ_ _ x=>x))
 ·exact WN _ (Heap.get?_push_at rfl rfl)
 ·obtain⟨rfl,hQ⟩:=hr
  wp_walk
  exact hQ
theorem pe(F:ExcBaseFacts B newId initId bmB)(T:OwnTail h bmB bm){mN:Z2}{rest:Z6}{fI:Addr}{oI:Obj}{Q:Z0}
  (hC:h.get? C=some (excClassObj nm q C N bs bm hdct sn sub ab col dd k0 k1 k2 k3 k5 newId)) (hn:h.Ns N mN) (hi:mN "__init__"=some (.ref fI))
  (hfI:h.get? fI=some oI) (hfc:oI.cls=.type "function")
  (hq:∀h' e,Heap.MadeExcOf h h' e (.ref C) rest->
   wpAny (model prog w) (A.under (.builtin "type.__call__" ⟨.ref C::rest,[]⟩)) (call (.ref fI) (.ref e::rest)) (λr s'=>r=.none/\Q (.ref e) s') E ⟨h',g,d,t,os⟩) (hrest:rest.length<=sizeLine:=by size_fits) :
  wpAny (model prog w) A (call (.ref C) rest) Q E ⟨h,g,d,t,os⟩:=by
 have f1:=tc_lookup;have f2:=tc_bind (.ref C);have hT:(⟨h,g,d,t,os⟩ : Shared).TypeIs (.ref C) "type":=⟨_,hC,rfl⟩;refine wpAny_call (codeAny_of_tree ?_);show wpAny _ _ (callAny (.ref C) _) _ _ _;repeat (any_goals (first|assumption|with_reducible refine wpAny_loadPart_at hC ?_|wp_step))
 refine⟨rfl,?_⟩;refine codeAny_call_builtin_at (Code.quiet_builtin _ (by decide +kernel)) entry_typeCall (wpAny_check_type_call_sub hC (j_ (hrest:=hrest) F T hC hn hi hfI hfc λh' e hm=>?_));exact hq h' e hm
end
end PySem
namespace L2
open PySem PySem.Spec PyProof.Rows
abbrev s_:Z6:=[.type "ValueError",.type "Exception",.type "BaseException",.type "object"]
abbrev xO(a C:Addr)(od:Option Addr):HO:=.ext λh=>∃fl sl,h.get? a=some {cls:=.ref C,dict:=od,data:=.fields fl,slots:=sl}
abbrev xD(d:Addr)(fs:List (Str×V)):HO:=.ext λh=>∃mA,h.Ns1 d mA/\∀f,iL (fs.lookup f) (mA f)
section
variable{P:Program}{w:World}{H:Hp}{h h':Heap}{a C d:Addr}{od:Option Addr}{fs:List (Str×V)}{o:HO}
theorem DU{fl:Array Value}{sl:Array (Z7)}(e:h.get? a=some {cls:=.ref C,dict:=od,data:=.fields fl,slots:=sl}):cw P w H h a (xO a C od) :=
 ⟨⟨fl,sl,e⟩,⟨_,e⟩,λ_ _ ⟨fl,sl,e⟩ k=>⟨fl,sl,k _ e⟩⟩
theorem EV{mA:Z2}(n:h.Ns1 d mA)(r:∀f,iL (fs.lookup f) (mA f)):cw P w H h d (xD d fs) :=
 ⟨⟨mA,n,r⟩,(let ⟨o,_,_,e,_⟩:=n;⟨o,e⟩),λ_ _ ⟨mA,⟨o,es,ep,e,rest⟩,r⟩ k=>⟨mA,⟨o,es,ep,k _ e,rest⟩,r⟩⟩
theorem cw.there(x:cw P w H h a o):∃u,h.get? a=some u:=by
 cases o with
 |lst xs=>obtain⟨_,_,_,_,e⟩:=x;exact⟨_,e⟩
 |tup xs=>obtain⟨_,_,_,p⟩:=x;obtain⟨o,e,_⟩:=p;exact⟨_,e⟩
 |dK kvs=>obtain⟨_,_,_,_,o,_,_,e,_⟩:=x;exact⟨_,e⟩
 |dT kvs=>obtain⟨_,_,_,_,o,_,_,e,_⟩:=x;exact⟨_,e⟩
 |set S n=>obtain⟨o,_,_,_,e,_⟩:=x;exact⟨_,e⟩
 |ins C dx fs=>obtain⟨_,_,_,e,_⟩:=x;exact⟨_,e⟩
 |own y=>obtain⟨_,e⟩:=x;exact⟨_,e⟩
 |xd fs=>obtain⟨_,⟨_,_,_,e,_⟩,_⟩:=x;exact⟨_,e⟩
 |Pr lo hi=>obtain⟨_,_,_,e⟩:=x;exact⟨_,e⟩
 |yM ob u=>obtain⟨e,_⟩:=x;exact⟨_,e⟩
 |I_ ps=>exact⟨_,(show h.get? a=some _ from x)⟩
 |met f y=>exact⟨_,(show h.get? a=some _ from x)⟩
 |ext φ=>obtain⟨_,⟨_,e⟩,_⟩:=x;exact⟨_,e⟩
theorem jr.none_of(x:jr P w H h)(e:h.get? a=none):H a=none:=by
 cases q:H a with
 |none=>rfl
 |some u =>obtain⟨v,z⟩:=(x a u q).there;rw[e]at z;cases z
theorem jr.laidN(x:jr P w H h)(k:∀b u,h.get? b=some u->h'.get? b=some u)(hp:h.get? a=none)(new:cw P w (upd H a o) h' a o):jr P w (upd H a o) h':=λb u e=>by
 have hn:=x.none_of hp;by_cases hb:b=a
 ·subst hb;rw[ag]at e;cases e;exact new
 ·rw[aI hb]at e;exact(x b u e).stay (λc v _ q=>k c v q) (λc q=>by rw[aI (aV q hn)];exact q) λc xs q=>by rw[aI (aV q hn)];exact q
theorem Un.laidN{fs ex:Z8}(k:∀b u,h.get? b=some u->h'.get? b=some u)(hp:h.get? a=none)(hn:H a=none):Un fs ex H (upd H a o) h h' where
 keep:=λb u q _ _ _=>k b u q
 slot:=λb u q _ _ _=>⟨u.slots,k b u q⟩
 free:=λb u q n _=>by rw[aI (λe=>by rw[e,hp]at q;cases q)];exact n
 there:=λb u q _=>⟨u,k b u q⟩
 tups:=λb xs q=>by rw[aI (aV q hn)];exact q
 ow:=λb u xs q=>by rw[aI (aV q hn)];exact q
 qX:=λb ps q=>⟨#[],by rw[aI (aV q hn),q];simp⟩
end
structure jq(K:XO)(C:Addr):Prop where
 cls:∃cd PE,PySem.W.clsIn K C=some cd/\cd.mro=.ref C :: .ref PE::s_/\cd.hasDict=true
 mo:PySem.W.mroIn K C (.type "object")=some true
 sa:PySem.W.findIn K (.ref C) "__setattr__"=some (some (.builtin "object.__setattr__"))
 ga:PySem.W.findIn K (.ref C) "__getattribute__"=some (some (.builtin "BaseException.__getattribute__"))
 gh:PySem.W.findIn K (.ref C) "__getattr__"=some none
 mb:PySem.W.mroIn K C (.type "BaseException")=some true
 ca:PySem.W.findIn K (.ref C) "__class__"=some (some (.builtin "object.__class__"))
 cg:PySem.W.specialIn K (.builtin "object.__class__") "__get__"=some (some (.builtin "getset_descriptor.__get__"))
 ct:PySem.W.takesIn K (.builtin "object.__class__")=some true
theorem jq.hd{K:XO}{C:Addr}(c:jq K C):PySem.W.hasDictIn K C=true:=by obtain⟨cd,PE,e,_,h⟩:=c.cls;unfold PySem.W.hasDictIn;rw[e];exact h
section
variable{prog:Program}{w:World}{A:Around}{E:Z0}{R:Z5}{s:Shared}{K:XO}{x C:Addr}{ox:Obj}{od:Option Obj}{name:Str}{tk:Tok}{v:Value}
theorem sF(c:jq K C)(X:K.In s.heap)(I:PySem.W.InstAt s.heap x ox C od)(ht:PySem.W.findIn K (.ref C) name=some none)
  (h:∀b,wpAny (model prog w) A.in1 (Builtin.ObjectAttr.storeInOwnDict (.ref x) (.ref C) (.str name tk) name v b)
   (λfin s'=>match fin with | .done f=>R (.ok f) s' | .again c'=>c'.quiet=true/\codeAny (model prog w) A c' R s') (λe s'=>R (.error e) s') s) :
  codeAny (model prog w) A (.call (.builtin "object.__setattr__") ⟨[.ref x,.str name tk,v],[]⟩) R s:=by
 have SF:=PySem.F.store_object;obtain⟨cd,PE,hc,hmro,_⟩:=c.cls;have sub:PySem.W.Looks (model prog w) s.heap (isInstance (.ref x) (.type "object")) true:=I.type.andThen (PySem.W.looks_mroIn X c.mo);refine codeAny_call_builtin SF.slot.plain SF.entry (@PySem.W.check_slot (model prog w) _ _ s "object.__setattr__" "object" "__setattr__" (.ref x) [.str name tk,v] [] _ SF.kind SF.split sub (SF.args (.ref x) (.str name tk) v) ?_);have hm:PySem.W.Looks (model prog w) s.heap (mroOf (.ref C)) cd.mro:=(PySem.W.looks_clsIn X hc).andThen .now;have L3:PySem.W.Looks (model prog w) s.heap (Builtin.ObjectAttr.storeTaker? none) none:=.now;rw[PySem.W.osa_eq,refuse_eq];refine WL (WL (I.type.here (WL (hm.here ?_))));rw[hmro,refuseLoop_ref,refuseLoop_ref,PySem.F.store_ValueError.passes];refine WM (WL (I.type.here (WL ((PySem.W.looks_findIn X ht).here (WL (L3.here ?_))))));exact h _
theorem AF{Q:Fin->Shared->Prop}{r:Builtin.ObjectAttr.Found}(X:K.In s.heap)(I:PySem.W.InstAt s.heap x ox C od)(hf:PySem.W.findObj K C od name=some r)
  (h:wpAny (model prog w) A (match r with | .value v=>ret v | .bind g a=>Builtin.ObjectAttr.bindTo g a (.ref x) (.ref C) | .missing=>Builtin.ObjectAttr.noSuchAttribute (.ref x) name) Q E s) :
  wpAny (model prog w) A (Builtin.«object.__getattribute__» ⟨[.ref x,.str name tk],[]⟩) Q E s:=by
 obtain⟨hh',g,d,t,os⟩:=s;have L0:=I.type (M:=model prog w);have L1:=PySem.W.looks_find (M:=model prog w) X I hf;unfold Builtin.«object.__getattribute__»;refine WL (WM ?_);refine WL (WM (WL (L0.at (WL (L1.at ?_)))));cases r with
 |value v=>exact h
 |bind g a=>exact h
 |missing=>exact h
theorem CA{fill expr:Bool}{Q:Z0}{r:Builtin.ObjectAttr.Found}(c:jq K C)(X:K.In s.heap)(I:PySem.W.InstAt s.heap x ox C od)(hf:PySem.W.findObj K C od name=some r)
  (h:codeAny (model prog w) A (.call (.builtin "BaseException.__getattribute__") ⟨[.ref x,.str name tk],[]⟩) (λr s'=>match r with | .ok (.ret v)=>wpAny (model prog w) A (handedOut v) Q E s'|_=>False) s) :
  wpAny (model prog w) A (getAttrBy (.ref x) (.str name tk) fill expr) Q E s:=by
 obtain⟨hh',g,d,t,os⟩:=s;have L0:=I.type (M:=model prog w);have L1:=PySem.W.looks_findIn (M:=model prog w) X c.ga;have LH:=PySem.W.looks_hook (M:=model prog w) (mc:=.ref C) (r:=none) X (by show PySem.W.findIn K (.ref C) "__getattr__"=_;exact c.gh);have hx2:(Value.builtin "BaseException.__getattribute__"==Value.builtin "object.__getattribute__")=false:=by decide +kernel
 have hx1:(onTheHeap (Value.ref C)&&Value.builtin "BaseException.__getattribute__"==Value.builtin "object.__getattribute__")=false:=by rw[hx2];rfl
 have hx0:(expr&&onTheHeap (Value.builtin "BaseException.__getattribute__"))=false:=by cases expr<;>rfl
 unfold getAttrBy;refine Xm (WL (L0.at (WL (L1.at ?_))));show wpAny _ _ (if(onTheHeap (Value.ref C)&&Value.builtin "BaseException.__getattribute__"==Value.builtin "object.__getattribute__")=true then _ else _) _ _ _;rw[Xt (by rw[hx1];exact W6)];unfold getAttrByItsOwn;refine WL (LH.at (WL (wpAny_attempt (Xm ?_))));unfold callGetattribute;rw[Xt (by rw[hx0];exact W6)];unfold boundAndCalled;rw[PySem.F.excAttr_ValueError.ga.bind];refine WL (WM (wpAny_call (codeAny_mono h λr s' z=>?_)));rcases r with e | (v|_|_|_)<;>first|exact z|exact z.elim
theorem vX{r:Builtin.ObjectAttr.Found}(c:jq K C)(X:K.In s.heap)(I:PySem.W.InstAt s.heap x ox C od)(hf:PySem.W.findObj K C od name=some r)
  (h:wpAny (model prog w) A.in1 (match r with | .value v=>ret v | .bind g a=>Builtin.ObjectAttr.bindTo g a (.ref x) (.ref C) | .missing=>Builtin.ObjectAttr.noSuchAttribute (.ref x) name)
   (λfin s'=>match fin with | .done f=>R (.ok f) s' | .again c'=>c'.quiet=true/\codeAny (model prog w) A c' R s') (λe s'=>R (.error e) s') s) :
  codeAny (model prog w) A (.call (.builtin "BaseException.__getattribute__") ⟨[.ref x,.str name tk],[]⟩) R s:=by
 have sub:PySem.W.Looks (model prog w) s.heap (isInstance (.ref x) (.type "BaseException")) true:=I.type.andThen (PySem.W.looks_mroIn X c.mb);exact codeAny_call_builtin PySem.F.excAttr_ValueError.ga.plain PySem.F.entry_bexc_ga (@PySem.W.check_slot (model prog w) _ _ s "BaseException.__getattribute__" "BaseException" "__getattribute__" (.ref x) [.str name tk] [] _ (by decide +kernel) (by decide +kernel) sub (PySem.F.args_bexc_ga _ _) (AF X I hf h))
theorem yh{expr:Bool}{Q:Z0}(c:jq K C)(X:K.In s.heap)(I:PySem.W.InstAt s.heap x ox C od)(hf:PySem.W.findObj K C od name=some (.value v))(hh:PySem.W.handedIn v=true)(h:Q v {s with toks:=s.toks+1}) :
  wpAny (model prog w) A (getAttr (.ref x) name expr) Q E s:=by
 unfold getAttr;refine WL (wpAny_mkText (CA (s:={s with toks:=s.toks+1}) c X I hf (vX (s:={s with toks:=s.toks+1}) c X I hf (WM ?_))));show wpAny _ _ (handedOut v) _ _ _;rw[PySem.W.handedOut_of hh];exact WM h
theorem yw{Q:Z7->Shared->Prop}(c:jq K C)(X:K.In s.heap)(I:PySem.W.InstAt s.heap x ox C od)(hf:PySem.W.findObj K C od "__class__"=some (.bind (.builtin "getset_descriptor.__get__") (.builtin "object.__class__")))
  (h:Q (some (.ref C)) {s with toks:=s.toks+1}):wpAny (model prog w) A (getAttr? (.ref x) "__class__") Q E s:=by
 unfold getAttr? getAttrBy?;refine WL (wpAny_mkText (WL (wpAny_attempt (CA (s:={s with toks:=s.toks+1}) c X I hf (vX (s:={s with toks:=s.toks+1}) c X I hf ?_)))));show wpAny _ _ (holding [Value.builtin "object.__class__"] (call (.builtin "getset_descriptor.__get__") [.builtin "object.__class__",.ref x,.ref C]) >>= ret) _ _ _;refine WL (Xm (wpAny_call (PySem.W.class_get (s:={s with toks:=s.toks+1}) (ox:=ox) (od:=od) X I c.mo (WM ?_))));show wpAny _ _ (handedOut (.ref C)) _ _ _;rw[PySem.W.handedOut_of rfl];exact WM (WM h)
end
section
variable{X:Cx}{ac:Z1}{σ:St}{H:Hp}{s:Shared}{a C dx:Addr}{fs:List (Str×V)}{f:Str}{v y:V}{u:Value}{A:Around}{E:Z0}
theorem Ic{b:Bool}{Q:Z0}(I:Inv X ac σ H s)(e:H a=some (xO a C (some dx)))(ed:H dx=some (xD dx fs))(c:jq X.K C)(n:jb X.K C f)(l:fs.lookup f=some v)
  (h:∀u s',Inv X ac σ H s'->RelV v u->Q u s'):wpAny (model X.prog X.w) A (getAttr (.ref a) f b) Q E s:=by
 obtain⟨⟨fl,sl,ha⟩,_⟩:=I.hok a _ e;obtain⟨⟨mA,ns,r⟩,_⟩:=I.hok dx _ ed;obtain⟨od,ho,hl⟩:=md ns;have J:PySem.W.InstAt s.heap a {cls:=.ref C,dict:=some dx,data:=.fields fl,slots:=sl} C (some od):=⟨ha,rfl,rfl,ho⟩;have rf:=r f;rw[l]at rf;obtain⟨u,eu,ru⟩:=iL.some_of rf;exact yh c I.j9 J (PySem.W.findObj_own c.hd n rfl (by rw[hl,eu])) (Bm ru) (h _ _ (I.tok _) ru)
theorem sE{mA:Z2}(r:∀f,iL (fs.lookup f) (mA f)):PySem.Within mA (fs.map (·.1)):=by
 intro g hg;have rg:=r g;cases e:fs.lookup g with
 |none=>rw[e]at rg;exact Xs (iL.none_of rg) hg
 |some z =>
  clear rg r hg;induction fs with
  |nil=>cases e
  |cons p t ih =>
   obtain⟨k,w⟩:=p;rw[XG]at e;cases hk:g==k with
   |true =>
    have:g=k:=by simpa using hk
    subst this;exact Xo
   |false=>rw[hk]at e;exact W5 _ (ih e)
end
def iW(K:XO)(C:Addr)(bmB:Z6)(newId:String)(ini:Z7):Bool:=match K.lookup C with
 |some o=>o.cls == .type "type"&&(match o.data with
  | .cls cd=>cd.mro.head? == some (.ref C)&&o.slots.size==6&&o.slots[4]? == some (some (.builtin newId)) && !cd.hasDel&&PySem.W.tailIn K bmB cd.mro.tail&&PySem.W.nsOkIn K cd.ns&&PySem.W.nsIn K cd.ns "__init__"==some ini
  |_=>false)
 |none=>false
theorem oK{α:Type}{l:List α}{n:Nat}(h:l.length=n+1):∃a m,l=a::m/\m.length=n:=by
 cases l with
 |nil=>cases h
 |cons a m=>exact⟨a,m,rfl,Nat.succ.inj h⟩
theorem MI{K:XO}{h:Heap}{N:Addr}{mg:Z2}{n:Str}{r:Z7}(X:K.In h)(G:h.Ns N mg)(e:PySem.W.nsIn K N n=some r):mg n=r:=by
 cases r with
 |none=>exact PySem.W.ns_none_of X G e
 |some v =>
  obtain⟨o,es,ep,ho,hd,_,hf⟩:=G;unfold PySem.W.nsIn at e;split at e
  ·rename_i c d es' n' sl q;have:=X _ _ q;rw[ho]at this;cases this;cases hd;split at e
   ·rename_i en he;cases e;rw[←hf];unfold nsFind findBy;rw[←Array.find?_toList,he];rfl
   ·split at e<;>cases e
  ·cases e
theorem mO{K:XO}{h:Heap}{C:Addr}{bmB:Z6}{newId:String}{ini:Z7}(X:K.In h)(q:iW K C bmB newId ini=true) :
  ∃bm N nm q bs hdct sn sub ab col dd k0 k1 k2 k3 k5 mN,h.get? C=some (excClassObj nm q C N bs bm hdct sn sub ab col dd k0 k1 k2 k3 k5 newId)/\h.Ns N mN/\mN "__init__"=ini/\OwnTail h bmB bm:=by
 unfold iW at q;cases ho:K.lookup C with
 |none=>rw[ho]at q;cases q
 |some o =>
  rw[ho]at q;obtain⟨cl,dd,dat,sl⟩:=o;cases dat with
  |cls cd =>
   simp only[Xq,beq_iff_eq,Bool.not_eq_true']at q;obtain⟨rfl,⟨⟨⟨⟨⟨hm,hz⟩,hs⟩,hdel⟩,ht⟩,hok⟩,hni⟩:=q;obtain⟨nm,bs,mro,ns,qn,hd,sn,sub,ab,col,del⟩:=cd;dsimp only at hm hdel hok hni ht;subst hdel;obtain⟨l⟩:=sl;obtain⟨k0,l,rfl,z0⟩:=oK (show l.length=5+1 from hz);obtain⟨k1,l,rfl,z1⟩:=oK (n:=4) z0;obtain⟨k2,l,rfl,z2⟩:=oK (n:=3) z1;obtain⟨k3,l,rfl,z3⟩:=oK (n:=2) z2;obtain⟨k4,l,rfl,z4⟩:=oK (n:=1) z3;obtain⟨k5,l,rfl,z5⟩:=oK (n:=0) z4;cases List.length_eq_zero_iff.mp z5;cases(show some k4=_ from hs);cases mro with
   |nil=>cases hm
   |cons c bm =>cases hm;exact⟨bm,ns,nm,qn,bs,hd,sn,sub,ab,col,dd,k0,k1,k2,k3,k5,_,X _ _ ho,.of_isNs (PySem.W.isNs_of_in X hok),MI X (.of_isNs (PySem.W.isNs_of_in X hok)) hni,PySem.W.tail_of_in X ht⟩
  |_=>exact Xs ((Xq _ _).mp q).2 W6
section
variable{X:Cx}{CX:rq}{k:Nat}{f C:Addr}{fd:FuncData}{ps:List Str}{sp:Sp}{E:XK}{x:Str}{p pos:Pos}{e:Expr}{es:List Expr}{t:TA}
theorem Inv.Qd{ac:Z1}{σ:St}{H:Hp}{s:Shared}{h':Heap}{a:Addr}{rest:Z6}(I:Inv X ac σ H s)(m:Heap.MadeExcOf s.heap h' a (.ref C) rest):H a=none/\Inv X ac σ (upd H a (xO a C none)) {s with heap:=h'}:=by obtain⟨t,et,_,_⟩:=m.there;have hn:=I.hok.none_of m.new;exact⟨hn,I.un (t':=s.toks) (Un.laidN m.keeps m.new hn) (I.hok.laidN m.keeps m.new (DU et))⟩
end
section
variable{X:Cx}{o value:Expr}{ta tv:TE}{f:Str}{pos pos':Pos}
def Jx(K:XO)(ta:TE)(f:Str):TE:=λσ H Q=>ta σ H λx H1=>∃a C dx fs v,x=.ref a/\H1 a=some (xO a C (some dx))/\H1 dx=some (xD dx fs)/\jq K C/\jb K C f/\fs.lookup f=some v/\Q v H1
theorem FY(he:PE X o ta)(hb:attributeBase o f X.env (eval o X.env)=eval o X.env):PE X (.Attribute o f pos) (Jx X.K ta f):=by intro ac s σ H Q I h;refine Iy hb (bZ (he ac s σ H _ I h) λu s1 zz=>?_);obtain⟨x,H1,I1,rx,a,C,dx,fs,v,ex,ea,ed,c,n,l,q⟩:=zz;subst ex;obtain rfl:u=Value.ref a:=rx;exact Ic I1 ea ed c n l λu' s2 I2 ru=>⟨v,H1,I2,ru,q⟩
end
def O0(K:XO)(H:Hp)(a C:Addr):Prop:=jq K C/\(H a=some (xO a C none)\/∃dx fs,H a=some (xO a C (some dx))/\H dx=some (xD dx fs))
theorem DQ{K:XO}{x D:Addr}(c:jq K D):PySem.W.KitX K (.ref x) (.ref D) (λh=>∃ox od,PySem.W.InstAt h x ox D od) where
 ty:=λ_ _ _ ⟨ox,od,I⟩=>I.type
 it:=λ_ _ X _=>by
  obtain⟨cdD,hcD,_⟩:=PySem.W.any_some c.hd;unfold PySem.W.clsIn at hcD;split at hcD
  ·rename_i c' d' cd' sl' ho;intro A' Q' E' s' k q;unfold isType loadHead;exact WL (wpAny_loadPart (k _ _ (X _ _ ho)) (WM q))
  ·cases hcD
 ne:=λh tp dd its n sl X htp=>by
  obtain⟨cdD,hcD,_⟩:=PySem.W.any_some c.hd;refine Xb.mpr λq=>?_;have e:D=tp:=Value.ref.inj (beq_iff_eq.mp q);subst e;unfold PySem.W.clsIn at hcD;split at hcD
  ·rename_i c' d' cd' sl' ho;have z:=(X _ _ ho).symm.trans htp;cases z
  ·cases hcD
 ca:=λ{prog w A E Q s} X I h=>by
  obtain⟨ox,od,I⟩:=I;have hf:PySem.W.findObj K D od "__class__"=some (.bind (.builtin "getset_descriptor.__get__") (.builtin "object.__class__")):=by obtain⟨cd,PE,hc,_⟩:=c.cls;unfold PySem.W.findObj;rw[hc,Option.bind_some,c.ca,Option.bind_some];simp[c.cg,c.ct]
  exact yw c X I hf h
section
variable{X:Cx}
def SX:V->Value->Prop
 | .ref a,u=>u=.ref a
 | .ty n,u=>u=.type n
 |_,_=>False
theorem vB:eY X (.builtin "isinstance") (λxs H Q=>∃x cv t c b,xs=[x,cv]/\SX cv c/\(kL X.K H x t\/∃a C,x=.ref a/\t=.ref C/\O0 X.K H a C)/\PySem.W.kitOne X.K t c=some b/\Q (.bl b) H):=by
 intro ac s σ H xs us Q I r h;obtain⟨x,cv,t,c,b,rfl,hc,ty,e,q⟩:=h;obtain⟨u,w',rfl,r1,r2⟩:=vals2 r;have e2:w'=c:=by
  cases cv with
  |ref a=>cases(show c=_ from hc);exact r2
  |ty n=>cases(show c=_ from hc);exact r2
  |_=>exact hc.elim
 subst e2;rcases ty with ty|⟨a,C,rfl,rfl,cx,hx⟩
 ·exact rH I r1 ty e λtk=>⟨.bl b,H,I.tok _,rfl,q⟩
 ·cases(show u=Value.ref a from r1);have J:∃ox od,PySem.W.InstAt s.heap a ox C od:=by
   rcases hx with ea|⟨dx,fs,ea,ed⟩
   ·obtain⟨⟨fl,sl,ha⟩,_⟩:=I.hok a _ ea;exact⟨_,none,ha,rfl,rfl,True.intro⟩
   ·obtain⟨⟨fl,sl,ha⟩,_⟩:=I.hok a _ ea;obtain⟨⟨mA,⟨od,_,_,ho,_⟩,_⟩,_⟩:=I.hok dx _ ed;exact⟨_,some od,ha,rfl,rfl,ho⟩
  exact PySem.W.kia_one (DQ cx) I.j9 J e (λz=>nomatch z) λtk=>⟨.bl b,H,I.tok _,rfl,q⟩
end
theorem De{H:Hp}{a:Addr}{o:HO}(h:H a=some o):upd H a o=H:=by
 funext b;unfold upd;by_cases e:b=a
 ·rw[Xu e,e,h]
 ·rw[Xt e]
structure Top(X:Cx)(L:Addr):Prop where
 ex:∃e0 r,X.stack=e0::r/\e0.frame=some L
 fr:X.env.frame=some L
structure La(X:Cx)(H:Hp)(h:Heap)(T:Addr):Prop where
 free:H T=none
 new:X.s₀.heap.objs.size<=T
 pn:∀p∈X.pn,p.1≠T
 obj:∃oT ts,h.get? T=some oT/\oT.data=.fields ts/\3<ts.size
structure PY(X:Cx)(H:Hp)(h:Heap)(e C:Addr)(od:Option Addr):Prop where
 at_:H e=some (xO e C od)
 obj:∃vs sl,h.get? e=some {cls:=.ref C,dict:=od,data:=.fields vs,slots:=sl}/\(vs[1]? = some .none\/∃T,vs[1]? = some (.ref T)/\La X H h T)
structure qg(X:Cx)(H:Hp)(h:Heap)(e C:Addr)(od:Option Addr)(T:Addr):Prop where
 at_:H e=some (xO e C od)
 obj:∃vs sl,h.get? e=some {cls:=.ref C,dict:=od,data:=.fields vs,slots:=sl}/\vs[1]? = some (.ref T)
 tb:La X H h T
section
variable{X:Cx}{ac:Z1}{σ:St}{H:Hp}{s:Shared}{e C T L:Addr}{od:Option Addr}
theorem qg.RP{h:Heap}(f:qg X H h e C od T):PY X H h e C od:=⟨f.at_,let ⟨vs,sl,h1,h2⟩:=f.obj;⟨vs,sl,h1,.inr ⟨T,h2,f.tb⟩⟩⟩
theorem Inv.P0(I:Inv X [] σ H s)(t:La X H s.heap T):T≠X.env.locals/\(∀x c,X.env.cells.lookup x=some c->c≠T)/\∀p∈X.pn++[],p.1≠T:=by
 obtain⟨oT,ts,h1,h2,_⟩:=t.obj;refine⟨λz=>?_,λx c hc z=>?_,λp hp=>t.pn p (by simpa using hp)⟩
 ·obtain⟨m,⟨o',es,ep,ho',hd',_⟩,_⟩:=I.loc;rw[←z,h1]at ho';cases ho';rw[hd']at h2;cases h2
 ·obtain⟨v,o,ho,hd⟩:=I.cell x c hc;rw[z,h1]at ho;cases ho;rw[hd]at h2;cases h2
theorem Inv.mark(I:Inv X [] σ H s)(f:qg X H s.heap e C od T)(x:Value) :
  Inv X [] σ H {s with heap:=s.heap.update T (Obj.mapFields (·.setIfInBounds 3 x))}/\qg X H (s.heap.update T (Obj.mapFields (·.setIfInBounds 3 x))) e C od T:=by
 obtain⟨n1,n2,n3⟩:=I.P0 f.tb;obtain⟨oT,ts,h1,h2,h3⟩:=f.tb.obj;have keep:∀b o,b≠T->s.heap.get? b=some o->(s.heap.update T (Obj.mapFields (·.setIfInBounds 3 x))).get? b=some o:=λb o hb q=>(Heap.get?_update_other _ _ (Ne.symm hb)).trans q;have neT:e≠T:=λz=>by have:=f.at_;rw[z,f.tb.free]at this;cases this
 obtain⟨vs,sl,g1,g2⟩:=f.obj;have hd':=Obj.data_mapFields h2 (·.setIfInBounds 3 x);refine⟨I.turned (t':=s.toks) (it:=T) keep f.tb.free n1 (.inr f.tb.new) n2 n3,f.at_,⟨vs,sl,keep _ _ neT g1,g2⟩,f.tb.free,f.tb.new,f.tb.pn,_,_,Heap.get?_update_self _ h1 (Obj.isFreed_of_fields hd'),hd',by simpa using h3⟩
theorem iG{M:Model}{A:Around}{E:Z0}{Q:Z4}(I:Inv X [] σ H s)(f:qg X H s.heap e C od T)(fr:Option Addr)
  (q:∀s',Inv X [] σ H s'->qg X H s'.heap e C od T->Q () s'):wpAny M A (setFlight (.ref e) fr) Q E s:=by
 obtain⟨vs,sl,g1,g2⟩:=f.obj;obtain⟨oT,ts,h1,h2,h3⟩:=f.tb.obj;unfold setFlight;refine WL (wpAny_field g1 rfl g2 ?_);have ne:(Value.ref T != Value.none)=true:=by simp
 rw[Xu ne];have z:=I.mark f (fr.elim .none λf=>rawInt f);exact wpAny_setField h1 h2 h3 (q _ z.1 z.2)
theorem Dt{M:Model}{A:Around}{E:Z0}{Q:Z0}{env':Env}(hA:A.frames=some X.stack)(tp:Top X L)(hf:env'.frame=some L)(I:Inv X [] σ H s)
  (q:∀h',Inv X [] σ H {s with heap:=h'}->Heap.SlotsOnly (frs X.stack) s.heap h'->Q (.ref L) {s with heap:=h'}):wpAny M A (PySem.frameOf env') Q E s:=by
 obtain⟨e0,r,hst,h0⟩:=tp.ex;have hl:=I.stack;rw[hst]at hA hl;have dw:((e0::r).dropWhile λx=>x.frame != env'.frame)=e0::r:=by rw[hf];simp[List.dropWhile,h0]
 unfold PySem.frameOf;refine WL (wpAny_frameEnvs hA ?_);rw[dw];unfold frameObject;refine WL (WL (wpAny_readyFrames_fun hl λh1 hs1=>WM ?_));rw[h0];have e1:(e0::r).filterMap (·.frame)=frs X.stack:=by rw[hst];rfl
 rw[e1]at hs1;refine WM (q h1 ?_ hs1);refine I.call (g':=s.gens) (t':=s.toks) (d':=s.drawn) (ch:=[]) ⟨λb o hb _ hf _=>(hs1.2.1 b hf).trans hb,λb o hb _ _ _=>hs1.2.2 b o hb,λ_ _ _ n _=>n,λb o hb _=>let ⟨sl,z⟩:=hs1.2.2 b o hb;⟨_,z⟩,λ_ _ z=>z,λ_ _ _ z=>z,λb ps z=>⟨#[],by rw[z];simp⟩⟩ (λb u hb=>?_) I.bare λb hb=>Xs hb (by simp);have nf:∀c v,H c=some v->c∉frs X.stack:=λc v hc hm=>by rw[I.ot c hm]at hc;cases hc
 refine(I.hok b u hb).stay (λc v hc z=>(hs1.2.1 c ?_).trans z) (λ_ z=>z) λ_ _ z=>z;rcases hc with rfl|hc
 ·exact nf c u hb
 ·exact nf c _ hc
theorem wJ{M:Model}{A:Around}{E:Z0}{Q:Z4}{env':Env}{head:Value}{hadNext:Bool}{vs:Array Value}{sl:Array (Z7)}(hA:A.frames=some X.stack)(tp:Top X L)(hf:env'.frame=some L)(I:Inv X [] σ H s)
  (at_:H e=some (xO e C od)) (ho:s.heap.get? e=some {cls:=.ref C,dict:=od,data:=.fields vs,slots:=sl}) (h1:1<vs.size)
  (q:∀s' T,Inv X [] σ H s'->qg X H s'.heap e C od T->Q () s') :
  wpAny M A (do let a←PySem.frameOf env';let pl←entryPlaceOf L hadNext;let b←EntryCells.newEntry head a .none (rawInt L) .none pl;setField (.ref e) 1 b) Q E s:=by
 refine WL (Dt hA tp hf I λh2 I2 hs2=>?_);refine WL (wpAny_entryPlaceOf λpl hpl=>?_);unfold EntryCells.newEntry newFields;refine WL (Xn ?_ (hpl.sizeOk5 _ _ _ _ _));have ne:e∉frs X.stack:=λhm=>by rw[I.ot e hm]at at_;cases at_
 have ho2:h2.get? e=some {cls:=.ref C,dict:=od,data:=.fields vs,slots:=sl}:=(hs2.2.1 e ne).trans ho;generalize hTb:({cls:=.type "traceback",data:=.fields ([head,.ref L,.none,rawInt L,.none]++(if pl.isEmpty then List.replicate 6 Value.none else pl)).toArray}:Obj)=tb;have hTd:tb.data=.fields ([head,.ref L,.none,rawInt L,.none]++(if pl.isEmpty then List.replicate 6 Value.none else pl)).toArray:=by rw[←hTb]
 have hnf:tb.isFreed=false:=by rw[←hTb];rfl
 have I3:Inv X [] σ H {s with heap:=h2.push tb}:=I2.kept (t':=s.toks) λb o z=>WN _ z;have Ss:(h2.push tb).get? e=some {cls:=.ref C,dict:=od,data:=.fields vs,slots:=sl}:=WN _ ho2;have Mg:(h2.push tb).get? h2.objs.size=some tb:=WQ _ hnf;have Qm:H h2.objs.size=none:=I2.hok.fresh (WR _);have neT:h2.objs.size≠e:=λz=>by rw[z]at Qm;rw[Qm]at at_;cases at_
 have UY:∀p∈X.pn,p.1≠h2.objs.size:=λp hp z=>by have:=(I2.pin p (List.mem_append_left _ hp)).1;exact Xs (WO this) (by rw[z];exact Nat.lt_irrefl _)
 refine wpAny_setField Ss rfl h1 ?_;have RM:(Obj.mapFields (·.setIfInBounds 1 (Value.ref h2.objs.size)) {cls:=.ref C,dict:=od,data:=.fields vs,slots:=sl}) ={cls:=.ref C,dict:=od,data:=.fields (vs.setIfInBounds 1 (Value.ref h2.objs.size)),slots:=sl}:=rfl;have Mr:=Heap.get?_update_self (Obj.mapFields (·.setIfInBounds 1 (Value.ref h2.objs.size))) Ss (by rw[RM];rfl);rw[RM]at Mr;have Jj:∀b o,b≠e->(h2.push tb).get? b=some o->((h2.push tb).update e (Obj.mapFields (·.setIfInBounds 1 (Value.ref h2.objs.size)))).get? b=some o:=λb o hb z=>(Heap.get?_update_other _ _ (Ne.symm hb)).trans z;have I4:=I3.write (h':=(h2.push tb).update e (Obj.mapFields (·.setIfInBounds 1 (Value.ref h2.objs.size)))) (t':=s.toks) (x:=e) (e:=e) (o:=xO e C od) (by rw[at_];trivial) (.inl rfl) Jj ⟨_,Mr⟩ (DU Mr);rw[De at_]at I4;refine q _ h2.objs.size I4 ⟨at_,⟨_,sl,Mr,by simp[h1]⟩,Qm,WS I2.sz (WR _),UY,tb,_,Jj _ _ neT Mg,hTd,?_⟩;simp only[W7,WW,Xp,List.length_nil];omega
theorem og{M:Model}{A:Around}{E:Z0}{Q:Z4}{env':Env}(hA:A.frames=some X.stack)(tp:Top X L)(hf:env'.frame=some L)(I:Inv X [] σ H s)(f:PY X H s.heap e C od)
  (q:∀s' T,Inv X [] σ H s'->qg X H s'.heap e C od T->Q () s'):wpAny M A (noteFrame (.ref e) env') Q E s:=by
 obtain⟨vs,sl,ho,alt⟩:=f.obj;unfold noteFrame;simp only[hf];rcases alt with h1|⟨T,h1,tb⟩
 ·refine WL (wpAny_field ho rfl h1 ?_);rw[Xt (by decide)];exact wJ hA tp hf I f.at_ ho (Array.getElem?_eq_some_iff.mp h1).1 q
 ·have fT:qg X H s.heap e C od T:=⟨f.at_,⟨vs,sl,ho,h1⟩,tb⟩;obtain⟨oT,ts,hT,hdT,h3⟩:=tb.obj;refine WL (wpAny_field ho rfl h1 ?_);have ne:(Value.ref T != Value.none)=true:=by simp
  rw[Xu ne];refine WL (wpAny_field hT hdT (Xk h3) ?_);by_cases hm:(ts[3]==rawInt L)=true
  ·rw[Xu hm];exact WM (q s T I fT)
  ·rw[Xt hm];have z:=I.mark fT .none;refine WL (wpAny_setField hT hdT h3 ?_);obtain⟨vs',sl',ho',h1'⟩:=z.2.obj;exact wJ hA tp hf z.1 f.at_ ho' (Array.getElem?_eq_some_iff.mp h1').1 q
end
def XE(X:Cx)(E:XK):Z0:=λev s'=>∃e C od σ' H',ev=.ref e/\Inv X [] σ' H' s'/\PY X H' s'.heap e C od/\E (.ref C) (some e) H'
abbrev Cx.xs(X:Cx)(E:XK):Cx:=X.wish (XE X E)
def yK(P:Program)(w:World):rq:=λouter H s E ev s'=>∃e C od H',ev=.ref e/\s'.os=s.os/\AllBare s'.gens/\Un (frs outer) [] H H' s.heap s'.heap/\jr P w H' s'.heap/\E (.ref C) (some e) H'/\H' e=some (xO e C od)/\
 ∃vs sl T oT ts,s'.heap.get? e=some {cls:=.ref C,dict:=od,data:=.fields vs,slots:=sl}/\vs[1]? = some (.ref T)/\H' T=none/\s.heap.objs.size<=T/\s'.heap.get? T=some oT/\oT.data=.fields ts/\3<ts.size
theorem wA{X:Cx}{E:XK}:Passes (yK X.prog X.w) (X.xs E) E:=by intro ac σ H s ev s' I h;obtain⟨e,C,od,H',rfl,os,bare,un,hok,hE,at_,vs,sl,T,oT,ts,ho,h1,hT,hn,hoT,hd,h3⟩:=h;have I':Inv (X.xs E) ac σ H' s':=I.call' (ch:=[]) os un hok bare λb z=>Xs z (by simp);have I2:Inv X [] σ H' s':=(I'.g_ (pins':=[]) λp hp=>Xs hp (by simp)).dc;refine⟨e,C,od,σ,H',rfl,I2,⟨at_,vs,sl,ho,.inr ⟨T,h1,hT,WS I.sz hn,λp hp z=>?_,oT,ts,hoT,hd,h3⟩⟩,hE⟩;have:=(I.pin p (List.mem_append_left _ hp)).1;exact Xs (WZ (WO this) hn) (by rw[z];exact Nat.lt_irrefl _)
theorem yF{X:Cx}{E:XK}{L:Addr}(tp:Top X L):PassesOwn (model X.prog X.w) X.A X.env (XE X E):=by
 intro ev s' h;obtain⟨e,C,od,σ,H,rfl,I,f,hE⟩:=h;refine og I.ok.frames tp tp.fr I f λs2 T I2 f2=>?_;obtain⟨vs,sl,g1,g2⟩:=f2.obj;show wpAny _ _ (field (.ref e) 1 >>= _) _ _ s2;refine WL (wpAny_field g1 rfl g2 ?_);have ne:¬((Value.ref T==Value.none)=true):=by simp
 rw[Xt ne];have fin:=iG (M:=model X.prog X.w) (A:=X.A) (E:=XE X E) (Q:=λ_ s3=>XE X E (.ref e) s3) I2 f2 X.env.frame λs3 I3 f3=>⟨e,C,od,σ,H,rfl,I3,f3.RP,hE⟩;first
  |exact fin
  |exact WL (WM fin)
theorem DR{X:Cx}{E:XK}{L:Addr}{ev:Value}{s':Shared}{Q:Z4}{E2:Z0}(tp:Top X L)(h:XE X E ev s')(q:∀e C od σ H s2 T,ev=.ref e->Inv X [] σ H s2->qg X H s2.heap e C od T->E (.ref C) (some e) H->Q () s2) :
  wpAny (model X.prog X.w) X.A (leaving X.env ev) Q E2 s':=by
 obtain⟨e,C,od,σ,H,rfl,I,f,hE⟩:=h;unfold leaving;exact WL (og I.ok.frames tp tp.fr I f λs2 T I2 f2=>iG I2 f2 none λs3 I3 f3=>q e C od σ H s3 T rfl I3 f3 hE)
section
variable{P:Program}{w:World}{K:XO}{mg:Z2}{base:Heap}
theorem pU{CX:rq}{N:List Str}{qual:Str}{sc:Scope}{f:Addr}{cd:Value}{A:Around}{outer:List Env}{s:Shared}{H:Hp}{E:XK}:Top (qU CX P w K mg base N qual sc f cd A outer s H E) s.heap.objs.size:=⟨⟨_,_,rfl,rfl⟩,rfl⟩
theorem Cg.LP{x qual:Str}{st:Stmt}{f:Addr}{fd:FuncData}{N ps:List Str}{k:Nat}{sp:Sp}(F:Cg K x qual st f fd)(S:ay N ps (ar st))(len:∀vs H Q E,sp vs H Q E->vs.length=ps.length)
  (hbody:∀(cdv:Value)(A:Around)(outer:List Env)(s:Shared)(H:Hp)(vs:List V)(Q:VK)(E:XK),eV k (A.deeper (envOfC qual (ar st) s.heap.objs.size f cdv))->sp vs H Q E->
   ∃t,oE ((qU (yK P w) P w K mg base N qual (ar st) f cdv A outer s H E).xs E) (cV st) t/\t {nx:=λ_ H'=>Q .non H',rt:=Q} (start N vs) H):fE P w K mg base (yK P w) (k+1) f fd ps sp:=by
 obtain⟨oc,od,kV,doc,pm,an,cdv,ct,osl,rfl,lk,hcd⟩:=F.ex;refine Jg lk hcd S len λA outer s H vs Q E hr hsp=>?_;obtain⟨t,h,q⟩:=hbody cdv A outer s H vs Q E hr hsp;refine⟨t,λac s1 σ H1 D I hw=>?_,q⟩;refine Xl (h ac s1 σ H1 D (I.wish _) hw) (λ_ _ z=>z.dc) λev s2 hx=>?_;refine DR pU hx λe C od de H2 s3 T ee I3 f3 hE=>?_;subst ee;obtain⟨V0,Vm,g1,g2⟩:=f3.obj;obtain⟨oT,ts,t1,t2,t3⟩:=f3.tb.obj;exact⟨e,C,od,H2,rfl,I3.os,I3.bare,I3.base,I3.hok,hE,f3.at_,V0,Vm,T,oT,ts,g1,g2,f3.tb.free,f3.tb.new,t1,t2,t3⟩
end
def Kr(C:Addr)(E:XK)(t:TA):TS:=λ_ σ H=>t σ H λvs H1=>vs.length<=sizeLine/\∀a,H1 a=none->E (.ref C) (some a) (upd H1 a (xO a C none))
theorem Ea{X:Cx}{E:XK}{C:Addr}{x:Str}{np cpos pos:Pos}{e:Expr}{es:List Expr}{t:TA}(hc:X.calm=true)(hx:iW X.K C s_ "ValueError.__new__" none=true)(hg:Gl (X.xs E) x)(hm:X.mg x=some (.ref C))(ha:PA (X.xs E) (e::es) t)
  (hdb:(x==("__debug__" : Str))=false:=by decide) (he:starEach (e::es) X.env=(false,eval e X.env)::starEach es X.env:=by rfl) (hpl:(backTo cpos (starEach es X.env)).any (·.1)=false:=by rfl) :
  PS (X.xs E) (.Raise (some (.Call (.Name x np) (e::es) [] cpos)) none pos) (Kr C E t):=by
 intro ac s σ H D I h;obtain⟨bm,N,nm,q',bs,hd,sn,sub,ab,col,dd,k0,k1,k2,k3,k5,mN,hC,hN,hni,T⟩:=mO I.ok.mod.Ko hx;have hall:(backTo cpos (starEach (e::es) X.env)).any (·.1)=false:=by rw[he];show(false||(backTo cpos (starEach es X.env)).any (·.1))=false;rw[hpl];rfl
 refine wpAny_Raise_call_subT (C:=C) (nm:=nm) (q:=q') (N:=N) (bs:=bs) (bm:=bm) (hdct:=hd) (sn:=sn) (sub:=sub) (ab:=ab) (col:=col) (dd:=dd) (k0:=k0) (k1:=k1) (k2:=k2) (k3:=k3) (k5:=k5)
  PySem.F.excBase_ValueError (mN:=mN) (T.hasType PySem.F.excBase_ValueError.hasBase) (I.ok.hd hc) hall hni (l0 I hg hm ⟨rfl,?_⟩ hdb)
 have hA:=ha cpos ac s σ H _ I h;rw[show starEach (e::es) (X.xs E).env=(false,eval e X.env)::starEach es X.env from he]at hA;rw[show starEach (e::es) (X.xs E).env=(false,eval e X.env)::starEach es X.env from he];refine Calls.evalArgs_plain (bZ hA λus s1 zz=>?_);obtain⟨vs,H1,I1,r,hz,q⟩:=zz;refine⟨rfl,by show us.length<=sizeLine;rw[←r.length];exact hz,I1.bk _ _ hC,hN.keeps I1.bk,T.keeps I1.bk,λh' a m=>?_⟩;obtain⟨tt,et,_,_⟩:=m.there;obtain⟨hn,I2⟩:=I1.Qd m;have I3:=(I2.g_ (pins':=[]) λp hp=>Xs hp (by simp)).dc;exact⟨a,C,none,σ,upd H1 a (xO a C none),rfl,I3,⟨ag,_,_,et,.inl rfl⟩,q a hn⟩
end L2
namespace L2
open PySem PyProof.Rows
theorem fs{N P:List Str}{sc:Scope}(h1:sc.kind=.function:=by rfl)(h2:sc.isCoroutine=false:=by rfl)(h3:sc.isGenerator=false:=by rfl)(h4:N.Nodup:=by decide +kernel)(h5:N.take P.length=P:=by rfl)
  (h6:∀x∈P,sc.names.lookup x=some .local\/sc.names.lookup x=some .cell:=by decide +kernel) (h7:∀y∈sc.names,y.2≠ .free:=by decide +kernel):ay N P sc:=⟨h1,h2,h3,h4,h5,h6,h7⟩
theorem lenS{P:Z6->Prop}{n:Nat}(h:∀a,∀l:Z6,l.length=n->P (a::l)):∀us:Z6,us.length=n+1->P us:=by
 intro us hl;cases us with
 |nil=>cases hl
 |cons a l=>exact h a l (Nat.succ.inj hl)
theorem len0{P:Z6->Prop}(h:P []):∀us:Z6,us.length=0->P us:=by
 intro us hl;cases us with
 |nil=>exact h
 |cons a l=>cases hl
theorem Kb{P:Z6->Prop}(h:∀a0,P [a0]):∀us:Z6,us.length=1->P us:=lenS λa=>len0 (P:=λl=>P (a::l)) (h a)
theorem Lo{P:Z6->Prop}(h:∀a0 a1,P [a0,a1]):∀us:Z6,us.length=2->P us:=lenS λa=>Kb (P:=λl=>P (a::l)) (h a)
theorem Gh{P:Z6->Prop}(h:∀a0 a1 a2,P [a0,a1,a2]):∀us:Z6,us.length=3->P us:=lenS λa=>Lo (P:=λl=>P (a::l)) (h a)
theorem L_{P:Z6->Prop}(h:∀a0 a1 a2 a3,P [a0,a1,a2,a3]):∀us:Z6,us.length=4->P us:=lenS λa=>Gh (P:=λl=>P (a::l)) (h a)
theorem JO{P:Z6->Prop}(h:∀a0 a1 a2 a3 a4,P [a0,a1,a2,a3,a4]):∀us:Z6,us.length=5->P us:=lenS λa=>L_ (P:=λl=>P (a::l)) (h a)
structure FA(K:XO)(mg:Z2)(x:Str)(st:Stmt):Prop where
 ex:∃f fd,Cg K x x st f fd/\mg x=some (.ref f)
structure bc(CX:rq)(P:Program)(w:World)(K:XO)(mg:Z2)(base:Heap)(k:Nat)(x:Str)(ps:List Str)(sp:Sp):Prop where
 ex:∃f fd,fE P w K mg base CX k f fd ps sp/\Binds K fd ps []/\PySem.W.keepIn K (.ref f)=true/\mg x=some (.ref f)
def FnAt(P:Program)(w:World)(K:XO)(mg:Z2)(base:Heap)(k:Nat)(f:Addr)(ps:List Str)(sp:Sp):Prop :=
 ∃fd,fE P w K mg base bf k f fd ps sp/\Binds K fd ps []/\PySem.W.keepIn K (.ref f)=true
section
variable{CX:rq}{P:Program}{w:World}{K:XO}{mg:Z2}{base:Heap}{x:Str}{st:Stmt}{ps N:List Str}{sp:Sp}{j k:Nat}
theorem bc.m(G:bc CX P w K mg base j x ps sp)(h:j<=k:=by decide):bc CX P w K mg base k x ps sp:=by obtain⟨f,fd,h1,h2⟩:=G.ex;exact⟨f,fd,h1.mono h,h2⟩
theorem bc.at{f:Addr}(G:bc bf P w K mg base k x ps sp)(h:mg x=some (.ref f)):FnAt P w K mg base k f ps sp:=by obtain⟨g,fd,h1,h2,h3,h4⟩:=G.ex;cases h4.symm.trans h;exact⟨fd,h1,h2,h3⟩
theorem FA.cal(F:FA K mg x st)(ok:∀f fd,Cg K x x st f fd->fE P w K mg base CX k f fd ps sp)
  (hb:∀(kV doc pm:Value)(an:Option Addr)(cdv ct:Value)(us:Z6),us.length=ps.length->bindArgs (PySem.W.fnOf x x (d9 st) (cV st) (ar st) .none kV doc pm an cdv ct) ⟨us,[]⟩=pure (ps.zip us):=by first
   | (intro _ _ _ _ _ _;refine L2.Kb ?_;intro _;rfl)
   | (intro _ _ _ _ _ _;refine L2.Lo ?_;intro _ _;rfl)
   | (intro _ _ _ _ _ _;refine L2.Gh ?_;intro _ _ _;rfl)
   | (intro _ _ _ _ _ _;refine L2.L_ ?_;intro _ _ _ _;rfl)
   | (intro _ _ _ _ _ _;refine L2.JO ?_;intro _ _ _ _ _;rfl)):bc CX P w K mg base k x ps sp:=by
 obtain⟨f,fd,h1,h2⟩:=F.ex;exact⟨f,fd,ok f fd h1,h1.binds hb,h1.kp,h2⟩
theorem FA.ok(F:FA K mg x st)(S:ay N ps (ar st))
  (hbody:∀(f:Addr)(cdv:Value)(A:Around)(outer:List Env)(s:Shared)(H:Hp)(vs:List V)(Q:VK)(E:XK),eV k (A.deeper (envOfC x (ar st) s.heap.objs.size f cdv))->sp vs H Q E->
   ∃t,oE (qU bf P w K mg base N x (ar st) f cdv A outer s H E).zy (cV st) t/\t {nx:=λ_ H'=>Q .non H',rt:=Q} (start N vs) H)
  (len:∀vs H Q E,sp vs H Q E->vs.length=ps.length:=by
   intro vs H Q E h;first
   |exact Xy h
   | (obtain⟨_,rfl,_⟩:=h;rfl)
   | (obtain⟨_,_,rfl,_⟩:=h;rfl)
   | (obtain⟨_,_,_,rfl,_⟩:=h;rfl)
   | (obtain⟨_,_,_,_,rfl,_⟩:=h;rfl)
   | (obtain⟨_,_,_,_,_,rfl,_⟩:=h;rfl)
   | (obtain⟨_,_,_,_,_,_,rfl,_⟩:=h;rfl)
   | (obtain⟨_,_,_,_,_,_,_,rfl,_⟩:=h;rfl)
   | (obtain⟨_,_,_,_,_,_,_,_,rfl,_⟩:=h;rfl)
   | (obtain⟨_,_,_,_,_,_,_,_,_,rfl,_⟩:=h;rfl)
   | (obtain⟨_,_,_,_,_,_,_,_,_,_,rfl,_⟩:=h;rfl)
   | (obtain⟨_,_,_,_,_,_,_,_,_,_,_,rfl,_⟩:=h;rfl))
  (hb:∀(kV doc pm:Value)(an:Option Addr)(cdv ct:Value)(us:Z6),us.length=ps.length->bindArgs (PySem.W.fnOf x x (d9 st) (cV st) (ar st) .none kV doc pm an cdv ct) ⟨us,[]⟩=pure (ps.zip us):=by first
   | (intro _ _ _ _ _ _;refine L2.Kb ?_;intro _;rfl)
   | (intro _ _ _ _ _ _;refine L2.Lo ?_;intro _ _;rfl)
   | (intro _ _ _ _ _ _;refine L2.Gh ?_;intro _ _ _;rfl)
   | (intro _ _ _ _ _ _;refine L2.L_ ?_;intro _ _ _ _;rfl)
   | (intro _ _ _ _ _ _;refine L2.JO ?_;intro _ _ _ _ _;rfl)):bc bf P w K mg base (k+1) x ps sp :=
 F.cal (λf fd h1=>h1.ok S len λcdv A outer s H vs Q E=>hbody f cdv A outer s H vs Q E) hb
theorem FA.LP(F:FA K mg x st)(S:ay N ps (ar st))
  (hbody:∀(f:Addr)(cdv:Value)(A:Around)(outer:List Env)(s:Shared)(H:Hp)(vs:List V)(Q:VK)(E:XK),eV k (A.deeper (envOfC x (ar st) s.heap.objs.size f cdv))->sp vs H Q E->
   ∃t,oE ((qU (yK P w) P w K mg base N x (ar st) f cdv A outer s H E).xs E) (cV st) t/\t {nx:=λ_ H'=>Q .non H',rt:=Q} (start N vs) H)
  (len:∀vs H Q E,sp vs H Q E->vs.length=ps.length:=by
   intro vs H Q E h;first
   |exact Xy h
   | (obtain⟨_,rfl,_⟩:=h;rfl)
   | (obtain⟨_,_,rfl,_⟩:=h;rfl)
   | (obtain⟨_,_,_,rfl,_⟩:=h;rfl)
   | (obtain⟨_,_,_,_,rfl,_⟩:=h;rfl)
   | (obtain⟨_,_,_,_,_,rfl,_⟩:=h;rfl)
   | (obtain⟨_,_,_,_,_,_,rfl,_⟩:=h;rfl)
   | (obtain⟨_,_,_,_,_,_,_,rfl,_⟩:=h;rfl)
   | (obtain⟨_,_,_,_,_,_,_,_,rfl,_⟩:=h;rfl)
   | (obtain⟨_,_,_,_,_,_,_,_,_,rfl,_⟩:=h;rfl)
   | (obtain⟨_,_,_,_,_,_,_,_,_,_,rfl,_⟩:=h;rfl)
   | (obtain⟨_,_,_,_,_,_,_,_,_,_,_,rfl,_⟩:=h;rfl))
  (hb:∀(kV doc pm:Value)(an:Option Addr)(cdv ct:Value)(us:Z6),us.length=ps.length->bindArgs (PySem.W.fnOf x x (d9 st) (cV st) (ar st) .none kV doc pm an cdv ct) ⟨us,[]⟩=pure (ps.zip us):=by first
   | (intro _ _ _ _ _ _;refine L2.Kb ?_;intro _;rfl)
   | (intro _ _ _ _ _ _;refine L2.Lo ?_;intro _ _;rfl)
   | (intro _ _ _ _ _ _;refine L2.Gh ?_;intro _ _ _;rfl)
   | (intro _ _ _ _ _ _;refine L2.L_ ?_;intro _ _ _ _;rfl)
   | (intro _ _ _ _ _ _;refine L2.JO ?_;intro _ _ _ _ _;rfl)):bc (yK P w) P w K mg base (k+1) x ps sp :=
 F.cal (λf fd h1=>h1.LP S len λcdv A outer s H vs Q E=>hbody f cdv A outer s H vs Q E) hb
end
section
variable{X:Cx}{CX:rq}{x:Str}{ps:List Str}{sp:Sp}{j k:Nat}{E:XK}{e:Expr}{es:List Expr}{t:TA}{p pos:Pos}
theorem sC(G:bc CX X.prog X.w X.K X.mg X.base j x ps sp)(hr:eV k X.A)(hg:Gl X x)(hx:Passes CX X E)(ha:PA X (e::es) t)(hl:j<=k:=by omega)
  (hdb:(x==("__debug__" : Str))=false:=by decide) (he:starEach (e::es) X.env=(false,eval e X.env)::starEach es X.env:=by rfl) (hpl:(backTo pos (starEach es X.env)).any (·.1)=false:=by rfl) :
  PE X (.Call (.Name x p) (e::es) [] pos) (jh sp [] E t):=by
 obtain⟨f,fd,h1,h2,h3,h4⟩:=G.ex;exact F0 (h1.mono hl) hr hg h4 h3 h2 .nil hx ha hdb he hpl
end
section
variable{X:Cx}{a b e:Expr}{ta tb te:TE}{pos p pos2:Pos}{es:List Expr}{t:TA}
theorem az(K:XO)(ha:PE X a ta)(hb:PE X b tb)(e:X.K=K:=by rfl)(hs:om b:=by exact λ_ _=>rfl):PE X (.Subscript a b pos) (hZ (sY K) ta tb):=by subst e;exact gv D8 ha hb hs
theorem bp(K:XO)(ha:PE X a ta)(hb:PE X b tb)(e:X.K=K:=by rfl)(hs:om b:=by exact λ_ _=>rfl):PE X (.Subscript a b pos) (hZ (yv K) ta tb):=by subst e;exact gv fX ha hb hs
theorem aX{op:CmpOp}{r:R2}(ho:jk X (compareOp op) r)(ha:PE X a ta)(hb:PE X b tb)(hm:behindInMarks op b=false:=by exact DP _):PT X (.Compare a [op] [b] pos) (rK (hZ r ta tb)):=dj ho ha hb hm
theorem bY{op:CmpOp}{r:R2}(ho:jk X (compareOp op) r)(ha:PE X a ta)(hb:PE X b tb)(hm:behindInMarks op b=false:=by exact DP _):PE X (.Compare a [op] [b] pos) (hZ r ta tb):=f_ ho ha hb hm
theorem ax{x:Str}{ps:List Str}{sp:Sp}{j k:Nat}(G:bc bf X.prog X.w X.K X.mg X.base j x ps sp)(hr:eV k X.A)(ha:PA X (e::es) t)(hg:Gl X x:=by rfl)(hl:j<=k:=by omega)
  (hdb:(x==("__debug__" : Str))=false:=by decide) (he:starEach (e::es) X.env=(false,eval e X.env)::starEach es X.env:=by rfl) (hpl:(backTo pos (starEach es X.env)).any (·.1)=false:=by rfl) :
  PE X (.Call (.Name x p) (e::es) [] pos) (jh sp [] E0 t):=sC G hr hg vq ha hl hdb he hpl
theorem av(he:PE X e te):oE X [.Return (some e) pos] (CT te):=bA (CD he)
theorem aN{c:Expr}{tc:TT}{u:TS}{rest:List Stmt}(hc:PT X c tc)(he:PE X e te)(hr:oE X rest u):oE X (.If c [.Return (some e) pos] [] pos2::rest) (F2 (MF tc (CT te) C3) u):=aq (dg hc (av he) bU) hr
end
theorem iO{A:Around}{k:Nat}(hr:eV k A):A.units+8<cLine:=by have:=hr.un;omega
theorem wR:0<=sizeLine:=by decide
theorem dz:1<=sizeLine:=by decide
theorem cN:2<=sizeLine:=by decide
theorem f9:3<=sizeLine:=by decide
theorem NM:4<=sizeLine:=by decide
theorem uO:5<=sizeLine:=by decide
theorem Nk:6<=sizeLine:=by decide
theorem Qv:7<=sizeLine:=by decide
theorem Oc:12<=sizeLine:=by decide
def FK(K:XO)(x:Str)(st:Stmt)(f:Addr):Prop:=PySem.W.nsIn K mainGlobals x=some (some (.ref f))/\∃fd,Cg K x x st f fd
theorem FK.fa{K:XO}{h:Heap}{mg:Z2}{x:Str}{st:Stmt}{f:Addr}(F:FK K x st f)(X:K.In h)(G:h.Ns mainGlobals mg):FA K mg x st:=by obtain⟨h1,fd,h2⟩:=F;exact⟨f,fd,h2,XN X G h1⟩
theorem FK.h{K:XO}{h:Heap}{mg:Z2}{x:Str}{st:Stmt}{f:Addr}(F:FK K x st f)(X:K.In h)(G:h.Ns mainGlobals mg):mg x=some (.ref f):=XN X G F.1
theorem M0{K:XO}{x:Str}{st:Stmt}{f:Addr}{oc:Value}{od an:Option Addr}{osl:Array (Z7)}{kV doc pm cdv ct:Value}(a:PySem.W.nsIn K mainGlobals x=some (some (.ref f)))
  (l:K.lookup f=some ⟨oc,od,.func (PySem.W.fnOf x x (d9 st) (cV st) (ar st) .none kV doc pm an cdv ct),osl⟩) (c:PySem.W.codeIn K cdv x=true) (k:PySem.W.keepIn K (.ref f)=true):FK K x st f :=
 ⟨a,_,xZ l c k⟩
end L2
namespace My
open PySem L2
def top(i:Nat):Stmt:=PySem.Challenge.pw_rowpipes_k25_loose_places.main.body.getD i (.Pass ⟨0,0,0,0⟩)
abbrev DX:Stmt:=top 53
abbrev LX:Stmt:=top 54
abbrev Dd:Stmt:=top 55
abbrev uR:Stmt:=top 56
abbrev DB:Stmt:=top 57
abbrev MT:List Str:=["_law_script","_law_k"]
abbrev Qy:List Str:=["_law_script","_law_k","_law_cell_here"]
abbrev Nl:List Str:=["_law_pot_here","_law_many_here","_law_digit"]
abbrev HH:List Str:=["_law_pot_here","_law_near","_law_far"]
abbrev OH:List Str:=["_law_pot_here","_law_letters","_law_some"]
theorem Kk:ay MT ZP (ar DX):=fs
theorem JE:ay Qy ZP (ar LX):=fs
theorem Ej:ay Nl ZD (ar Dd):=fs
theorem oC:ay HH ZF (ar uR):=fs
theorem y6:ay OH ZF (ar DB):=fs
structure kf(mg:Z2):Prop where
 len:mg "len"=none
 max:mg "max"=none
 abs:mg "abs"=none
 divmod:mg "divmod"=none
 range:mg "range"=none
 tuple:mg "tuple"=none
 list:mg "list"=none
 isinstance:mg "isinstance"=none
variable{P:Program}{w:World}{K:XO}{mg:Z2}{base:Heap}
theorem Hy(B:kf mg)(F:FA K mg "_law_cell_at" DX) :
  bc bf P w K mg base 1 "_law_cell_at" ZP (Eb K):=by
 refine F.ok Kk λf cdv A outer s H vs Q E hr h=>?_;obtain⟨a,ns,k,rfl,hS,h0,q⟩:=h;refine⟨_,aq (dg (aX Cw (pv 1) (aW bt rfl B.len XM (ae (pv 0) ah))) (av (gv fX (pv 0) (pv 1) (λ_ _=>rfl))) bU)
  (av ai),?_⟩
 refine⟨_,rfl,_,rfl,a,_,rfl,.inl hS,_,_,rfl,rfl,_,rfl,?_⟩;refine cG (λc=>?_) (λc=>?_)
 ·have c':k<(((ns.map V.int).length:Nat):Int):=Xr c;obtain⟨v,hv,hg⟩:=yH h0 c';rw[Xi]at hg;cases e:ns[k.toNat]? with
  |none=>rw[e]at hg;cases hg
  |some n =>rw[e]at hg;have hg':V.int n=v:=Xf hg;subst hg';exact⟨_,rfl,_,rfl,a,_,_,_,rfl,rfl,hS,hv,q n⟩
 ·exact q 0
theorem J1(B:kf mg)(F:FA K mg "_law_pot" LX)(G:bc bf P w K mg base 1 "_law_cell_at" ZP (Eb K)) :
  bc bf P w K mg base 2 "_law_pot" ZP (JA K):=by
 refine F.ok JE λf cdv A outer s H vs Q E hr h=>?_;obtain⟨a,ns,k,rfl,hS,h0,h1,q⟩:=h;refine⟨_,aq (aK (i:=2) JE.nd rfl (Xw rfl) (ax G hr (ae (pv 0) (ae (pv 1) ah))))
  (av (aP (ae (aW (Bv rfl) rfl B.max PyProof.Rows.boot_max (ae ai (ae (aF bM (pv 2) (aF mw ai ai)) ah)))
   (ae (aF cR (aF pK (aF cR (aF cR (aW DW rfl B.abs PyProof.Rows.boot_abs (ae (pv 2) ah)) (aF mr ai (pv 1))) ai) ai) ai) ah)))),?_⟩
 refine⟨_,rfl,_,rfl,a,ns,k,rfl,hS,h0,λn=>?_⟩;refine⟨_,rfl,_,_,rfl,rfl,⟨by decide,by decide,by decide⟩,_,_,rfl,rfl,_,_,rfl,?_⟩;refine⟨_,rfl,_,rfl,_,rfl,_,_,rfl,rfl,.inl ⟨by decide,by decide⟩,_,_,rfl,rfl,_,_,rfl,rfl,_,_,rfl,rfl,(by show(0:Int)<2147483629;decide),_,_,rfl,rfl,cN,λp hp=>?_⟩;refine q p _ hp (aj hp _) ⟨_,_,ag,?_,?_,?_⟩
 ·split<;>omega
 ·have:=Int.emod_nonneg ((if n<0 then -n else n)+7919*k+3) (show(2147483629:Int)≠0 by decide);omega
 ·have:=Int.emod_lt_of_pos ((if n<0 then -n else n)+7919*k+3) (show(0:Int)<2147483629 by decide);omega
theorem HF(B:kf mg)(F:FA K mg "_law_draw" Dd) :
  bc bf P w K mg base 1 "_law_draw" ZD dn:=by
 refine F.ok Ej λf cdv A outer s H vs Q E hr h=>?_;obtain⟨p,m,rfl,⟨a,b,hp,ha,hb,hb'⟩,hm,hm',q⟩:=h;refine⟨_,aq (dg (aX iC (gv fX (pv 0) ai (λ_ _=>rfl)) ai)
   (aq (pC (aW ug rfl B.divmod PyProof.Rows.boot_divmod (ae (gv fX (pv 0) ai (λ_ _=>rfl)) (ae (pv 1) ah)))
    (cA rfl (aA (DV (pv 0) ai set_list) (aA (bJ (i:=2) Ej.nd rfl (Xw rfl)) bT))))
   (av (pv 2))) bU)
  (aq (pC (aF pK (aF cR (aF mr (gv fX (pv 0) ai (λ_ _=>rfl)) ai) ai) ai) (DV (pv 0) ai set_list))
  (av (aF pK (aF zF (aF pK (aF mr (gv fX (pv 0) ai (λ_ _=>rfl)) (gv fX (pv 0) ai (λ_ _=>rfl))) ai) ai) (pv 1)))),?_⟩
 refine⟨_,rfl,p,_,_,_,rfl,rfl,aZ.of hp,rfl,_,_,rfl,rfl,_,rfl,?_⟩;refine cG (λc=>?_) (λc=>?_)
 ·refine⟨_,rfl,p,_,_,_,rfl,rfl,aZ.of hp,rfl,_,rfl,_,_,rfl,⟨hm,hm'⟩,λt ht=>?_⟩;have np:p≠t:=aV hp ht;refine⟨t,_,rfl,aJ.of ag,rfl,_,_,rfl,_,rfl,p,_,_,0,rfl,rfl,(by rw[aI np];exact hp),rfl,_,_,rfl,rfl,?_⟩;refine⟨_,rfl,q _ _ ⟨λc o nc e=>?_,_,_,ag,Int.ediv_nonneg ha (by omega),hb,hb'⟩ (Int.emod_nonneg _ (by omega)) (Int.emod_lt_of_pos _ hm)⟩;rw[aI nc,aI (aV e ht)];exact e
 ·have h1:=Int.emod_nonneg (b*48271+11) (show(2147483647:Int)≠0 by decide);have h2:=Int.emod_lt_of_pos (b*48271+11) (show(0:Int)<2147483647 by decide);refine⟨_,rfl,p,_,_,_,rfl,rfl,aZ.of hp,rfl,_,_,rfl,rfl,.inr ⟨by decide,by decide⟩,_,_,rfl,rfl,_,_,rfl,rfl,(by show(0:Int)<2147483647;decide),_,rfl,p,_,_,1,rfl,rfl,hp,rfl,?_⟩;refine⟨_,rfl,p,_,_,_,rfl,rfl,aZ.of ag,rfl,_,rfl,p,_,_,_,rfl,rfl,aZ.of ag,rfl,_,_,rfl,rfl,.inl ⟨?_,?_⟩,_,_,rfl,rfl,(by show(0:Int)<2147483629;decide),_,_,rfl,rfl,⟨by decide,by decide⟩,_,rfl,_,_,rfl,rfl,hm,?_⟩
  ·have e:((2:Int) ^ 64)=18446744073709551616:=by decide
   rw[e];omega
  ·have e:((2:Int) ^ 64)=18446744073709551616:=by decide
   rw[e];omega
  ·exact q _ _ ⟨λc o nc e=>by rw[aI nc];exact e,_,_,ag,ha,h1,by omega⟩ (Int.emod_nonneg _ (by omega)) (Int.emod_lt_of_pos _ hm)
theorem Bg(F:FA K mg "_law_number" uR)(G:bc bf P w K mg base 1 "_law_draw" ZD dn) :
  bc bf P w K mg base 2 "_law_number" ZF ql:=by
 refine F.ok oC λf cdv A outer s H vs Q E hr h=>?_;obtain⟨p,rfl,hP,q⟩:=h;refine⟨_,aq (aK (i:=1) oC.nd rfl (Xw rfl) (aF bM (ax G hr (ae (pv 0) (ae ai ah))) ai))
  (aN (aX iC (ax G hr (ae (pv 0) (ae ai ah))) ai) (pv 1)
  (aq (aK (i:=2) oC.nd rfl (Xw rfl) (aP (ae (aF cR (aF bM (ax G hr (ae (pv 0) (ae (aF bM (aF mr ai (aF mw ai ai)) ai) ah))) (aF mw ai ai)) ai)
   (ae (aF bM (aF mw ai ai) ai) (ae (aF bM ai (aF mw ai ai)) ah)))))
  (av (gv fX (pv 2) (aF cR (aF zF (ax G hr (ae (pv 0) (ae ai ah))) ai) (aF pK (pv 1) ai)) (λ_ _=>rfl))))),?_⟩
 refine⟨_,rfl,p,_,rfl,hP,by decide,by decide,λd1 H1 g1 a1 b1=>⟨_,_,rfl,rfl,?_⟩⟩;refine⟨_,rfl,p,_,rfl,g1.cn,by decide,by decide,λd2 H2 g2 a2 b2=>⟨_,_,rfl,rfl,_,rfl,?_⟩⟩;have JF:((10:Int) ^ (60:Nat))=1000000000000000000000000000000000000000000000000000000000000:=by decide
 refine cG (λc=>?_) (λc=>?_)
 ·exact⟨_,rfl,q _ _ (g1.trans g2) (by rw[JF];omega) (by rw[JF];omega)⟩
 ·refine⟨_,rfl,_,_,rfl,rfl,⟨by decide,by decide,by decide⟩,_,_,rfl,rfl,.inl ⟨by decide,by decide⟩,_,_,rfl,rfl,p,_,rfl,g2.cn,by decide +kernel,by decide +kernel,λd3 H3 g3 a3 b3=>?_⟩;have WK:d3<1999999999999999999999999999999999999999999999999999999999999:=b3;refine⟨_,_,rfl,rfl,⟨by decide,by decide,by decide⟩,_,_,rfl,rfl,_,_,rfl,rfl,_,_,rfl,rfl,⟨by decide,by decide,by decide⟩,_,_,rfl,rfl,_,_,rfl,rfl,⟨by decide,by decide,by decide⟩,_,_,rfl,rfl,f9,λl hl=>?_⟩;have Ks:=(g1.trans g2).trans g3;have n1:l≠p:=λe=>by subst e;obtain⟨_,_,z,_⟩:=Ks.cn;rw[z]at hl;cases hl
  refine⟨_,rfl,_,rfl,p,_,rfl,(Ks.new hl).cn,by decide,by decide,λd4 H4 g4 a4 b4=>?_⟩;have UI:=g4.keep l _ n1 ag;refine⟨_,_,rfl,rfl,⟨by decide,by decide⟩,_,rfl,_,_,rfl,rfl,(by show(0:Int)<2;decide),_,_,rfl,rfl,?_⟩;have i0:0<=d4 / 2+(d1-15) % 2:=by omega
  have i1:d4 / 2+(d1-15) % 2<(3:Nat):=by omega
  obtain⟨v,hv,hm⟩:=zZ (xs:=[V.int (d3-10 ^ (60:Int).toNat+1),V.int (10 ^ (60:Int).toNat-1),V.int (1-10 ^ (60:Int).toNat)]) i0 i1;have good:∃n:Int,v=.int n/\-(10 ^ 60)<n/\n<10 ^ 60:=by
   have Bh:((10:Int) ^ ((60:Int).toNat))=1000000000000000000000000000000000000000000000000000000000000:=by decide
   simp only[Xa,Xv,or_false]at hm;rcases hm with rfl|rfl|rfl
   ·exact⟨_,rfl,by rw[JF,Bh];omega,by rw[JF,Bh];omega⟩
   ·exact⟨_,rfl,by rw[JF,Bh];omega,by rw[JF,Bh];omega⟩
   ·exact⟨_,rfl,by rw[JF,Bh];omega,by rw[JF,Bh];omega⟩
  obtain⟨n,rfl,q1,q2⟩:=good;exact⟨l,_,_,_,rfl,rfl,aZ.of UI,hv,q n _ ((Ks.new hl).trans g4) q1 q2⟩
def letters:Str:="abcdefghijklmnopqrstuvwxyz"
theorem zi:∀c∈letters.cps.toList,97<=c/\c<=122:=by decide +kernel
theorem vz:letters.cps.toList.length=26:=by decide +kernel
theorem Hu(B:kf mg)(F:FA K mg "_law_word" DB)(G:bc bf P w K mg base 1 "_law_draw" ZD dn) :
  bc bf P w K mg base 2 "_law_word" ZF uG:=by
 refine F.ok y6 λf cdv A outer s H vs Q E hr h=>?_;obtain⟨p,rfl,hP,q⟩:=h;refine⟨_,aq (aK (i:=1) y6.nd rfl (Or.inr rfl) ao)
  (aq (aK (i:=2) y6.nd rfl (Or.inr rfl) (gv fX (aP (ae ai (ae ai ah))) (ax G hr (ae (pv 0) (ae ai ah))) (λ_ _=>rfl)))
  (av (lF PySem.F.plainAttrs_str PySem.F.slot_str_join PySem.F.type_str_join Gs ao
   (ae (bz (N':=["_law_k","_law_pot_here","_law_letters","_law_some"]) (src:=[none,some 0,some 1,some 2]) rfl (ba.j5 (by kernel_rfl))
    (dA rfl B.range (ae (aF cR ai (aF mr (ax G hr (ae (pv 0) (ae ai ah))) (ax G hr (ae (pv 0) (ae ai ah))))) ah))
    (λcl C s H fp=>eE (i:=0))
    (λcl C s H fp=>aY)
    (λcl C s H fp=>gv LU (Ae 2) (ax (hg:=xS) G hr (ae (Ae 1) (ae (Ae 3) ah))) (λ_ _=>rfl))) ah)))),?_⟩
 refine⟨cN,λl hl=>?_⟩;have n1:l≠p:=λe=>by subst e;obtain⟨_,_,z,_⟩:=hP;rw[z]at hl;cases hl
 refine⟨_,rfl,p,_,rfl,((bo.refl hP).new hl).cn,by decide,by decide,λd1 H1 g1 a1 b1=>?_⟩;have F_:=((bo.refl hP).new hl).trans g1;obtain⟨v,hv,hm⟩:=zZ (xs:=[V.int 3,V.int 26]) a1 b1;have good:∃n:Int,v=.int n/\0<n/\n<=26:=by
  simp only[Xa,Xv,or_false]at hm;rcases hm with rfl|rfl
  ·exact⟨3,rfl,by decide,by decide⟩
  ·exact⟨26,rfl,by decide,by decide⟩
 obtain⟨n,rfl,n0,n26⟩:=good;refine⟨l,_,_,_,rfl,rfl,aZ.of (g1.keep l _ n1 ag),hv,rfl,?_⟩;refine⟨_,rfl,p,_,rfl,F_.cn,by decide,by decide,λd2 H2 g2 a2 b2=>?_⟩;refine⟨_,rfl,p,_,rfl,g2.cn,by decide,by decide,λd3 H3 g3 a3 b3=>?_⟩;have Ks:=(F_.trans g2).trans g3;have Ws:0<=d2*d3/\d2*d3<=7:=by
  have e:d2=0\/d2=1:=by omega
  rcases e with rfl|rfl<;>omega
 refine⟨_,_,rfl,rfl,.inl ⟨?_,?_⟩,_,_,rfl,rfl,_,rfl,?_,?_,λD hD=>?_⟩
 ·have e:((2:Int) ^ 64)=18446744073709551616:=by decide
  rw[e];omega
 ·have e:((2:Int) ^ 64)=18446744073709551616:=by decide
  rw[e];omega
 ·have e:((2:Int) ^ 62)=4611686018427387904:=by decide
  rw[e];omega
 ·have e:((2:Int) ^ 62)=4611686018427387904:=by decide
  rw[e];omega
 have n2:D≠p:=λe=>by subst e;obtain⟨_,_,z,_⟩:=Ks.cn;rw[z]at hD;cases hD
 have log:n.natAbs.log2<9000:=WY (Nat.log2_le_self _) (by omega);refine iZ (λi σ ys H'=>∃(o:Option V)(zs:List Nat),σ=[o,some (.ref p),some (.str letters),some (.int n)]/\ys=zs.map (λc=>V.str (sgn c))/\zs.length=i/\(∀c∈zs,97<=c/\c<=122)/\H' D=some (.lst ys)/\bo p H H')
  ⟨none,[],rfl,rfl,rfl,(λ_ z=>nomatch z),ag,Ks.new hD⟩ ?_ ?_ ?_ ?_
 ·rintro i σ ys H' _ ⟨o,zs,_,rfl,rfl,_,h,_⟩;exact⟨h,by rw[WV];exact WR _⟩
 ·exact WS (show(1+d2*d3).toNat<=8 by omega) (by decide)
 ·rintro i σ ys H' hi ⟨o,zs,rfl,rfl,rfl,hz,hD',g'⟩;refine⟨_,rfl,_,rfl,_,rfl,p,n,rfl,g'.cn,n0,log,λd H4 g4 a4 b4=>?_⟩;obtain⟨c,hc,cm⟩:=G9 (z:=letters) a4 (by rw[vz];omega);refine⟨letters,_,c,rfl,rfl,?_,hc,g4.keep D _ n2 hD',some (.int (0+(zs.length:Nat))),zs++[c],rfl,?_,?_,?_,ag,?_⟩
  ·exact WS (show letters.length<=26 by decide +kernel) (by decide)
  ·rw[WX];rfl
  ·rw[WW];rfl
  ·intro y hy;rcases Xc.mp hy with z|z
   ·exact hz y z
   ·have:y=c:=by simpa using z
    subst this;exact zi y cm
  ·exact Ks.put hD n2 (g'.trans g4)
 ·rintro σ ys H' ⟨o,zs,_,rfl,hl',hz,hD',g'⟩;refine⟨"",D,zs.map sgn,rfl,rfl,?_,?_,?_⟩
  ·rw[List.map_map];exact aZ.of hD'
  ·rw[Ip,WV];have:zs.length<=8:=by omega
   have e:("" : Str).length=0:=by decide +kernel
   rw[e];omega
  ·exact q _ _ g' (KU (yn zs) (by omega) (by omega) hz)
end My
namespace L2
open PySem PySem.Spec PyProof.Rows
section
variable{X:Cx}{ac:Z1}{σ:St}{H:Hp}{s:Shared}
theorem oh{xs:List V}{its:Z6}(r:Vals xs its){j:Nat}(h:j<its.toArray.size):∃x,xs[j]? = some x/\RelV x its.toArray[j]:=by
 have hj:j<its.length:=by simpa using h
 have hx:j<xs.length:=by rw[r.length];exact hj
 refine⟨xs[j],by simp[hx],?_⟩;obtain⟨u,e,ru⟩:=r.get (i:=j) (x:=xs[j]) (by simp[hx]);have e':its[j]=u:=by rw[W0 hj]at e;exact Xf e
 show RelV xs[j] its[j];rw[e'];exact ru
end
section
variable{X:Cx}
theorem vW{bs:List Bool}{its:Z6}(r:Vals (bs.map V.bl) its){i:Nat}{v:Value}(h:its.toArray[i]? = some v):∃b,bs[i]? = some b/\v=.bool b:=by
 have h':its[i]? = some v:=by simpa using h
 have hi:=(W8.mp h').1;have hb:i<bs.length:=by have:=r.length;rw[WV]at this;omega
 obtain⟨u,e,ru⟩:=r.get (i:=i) (x:=.bl bs[i]) (by rw[Xi,W0 hb];rfl);rw[h']at e;cases e;exact⟨bs[i],W0 hb,ru⟩
theorem range_all(bs:List Bool):(List.range bs.length).all (λi=>bs.getD i true)=bs.all id:=by
 induction bs with
 |nil=>rfl
 |cons b r ih =>rw[Xp,List.range_succ_eq_map,List.all_cons,List.all_map,List.all_cons];show(b&&_)=(b&&_);rw[←ih];rfl
theorem range_any(bs:List Bool):(List.range bs.length).any (λi=>bs.getD i true)=bs.any id:=by
 induction bs with
 |nil=>rfl
 |cons b r ih =>rw[Xp,List.range_succ_eq_map,XJ,List.any_map,XJ];show(b||_)=(b||_);rw[←ih];rfl
theorem iK(hc:X.calm=true):eY X (.builtin "all") (λxs H Q=>∃(p:Addr)(bs:List Bool),xs=[.ref p]/\aZ X.K H p (bs.map V.bl)/\Q (.bl (bs.all id)) H):=by
 intro ac s σ H xs us Q I r h;obtain⟨p,bs,rfl,hS,q⟩:=h;obtain⟨u,rfl,ru⟩:=vals1 r;cases ru;obtain⟨its,rv,pl,hz⟩:=I.list hS;have hp:p<s.heap.objs.size:=by obtain⟨o,e,_⟩:=pl.isList;exact WO e
 have hl:its.toArray.size=bs.length:=by have:=rv.length;rw[WV]at this;simp[this]
 refine call_all_walk (wpAny_pyIter_list pl.isList ?_);refine⟨s.heap.objs.size,_,_,_,_,_,λi=>bs.getD i true,rfl,Walks.list (A:=X.A.in1) (I.ok.hd hc) _ p (Xd hp) its.toArray,⟨⟨_,WQ _ rfl,rfl,rfl⟩,?_⟩,?_,λh' tk hk=>?_⟩
 ·obtain⟨o,e,z⟩:=pl.isList;exact⟨o,WN _ e,z⟩
 ·intro i v s' Q' E' hv hq;obtain⟨b,e,rfl⟩:=vW rv hv;refine wpAny_truthy_bool ?_;have:bs.getD i true=b:=by rw[List.getD_eq_getElem?_getD,e];rfl
  rw[←this];exact hq
 ·rw[hl,range_all];have I1:Inv X ac σ H {s with heap:=s.heap.push {cls:=.type "list_iterator",data:=.fields #[.ref p,.int 0 0]}}:=I.kept (t':=s.toks) λb o e=>WN _ e;have f:=I.ml (b:=s.heap.objs.size) (H':=H) (WR _) (I.hok.fresh (WR _));exact⟨.bl _,H,I1.turned (λb o hb e=>hk b o (by simpa using hb) e) f.1 f.2.1 f.2.2.2.1 f.2.2.2.2.1 f.2.2.2.2.2,rfl,q⟩
theorem l9(hc:X.calm=true):eY X (.builtin "any") (λxs H Q=>∃(p:Addr)(bs:List Bool),xs=[.ref p]/\aZ X.K H p (bs.map V.bl)/\Q (.bl (bs.any id)) H):=by
 intro ac s σ H xs us Q I r h;obtain⟨p,bs,rfl,hS,q⟩:=h;obtain⟨u,rfl,ru⟩:=vals1 r;cases ru;obtain⟨its,rv,pl,hz⟩:=I.list hS;have hp:p<s.heap.objs.size:=by obtain⟨o,e,_⟩:=pl.isList;exact WO e
 have hl:its.toArray.size=bs.length:=by have:=rv.length;rw[WV]at this;simp[this]
 refine call_any_walk (wpAny_pyIter_list pl.isList ?_);refine⟨s.heap.objs.size,_,_,_,_,_,λi=>bs.getD i true,rfl,Walks.list (A:=X.A.in1) (I.ok.hd hc) _ p (Xd hp) its.toArray,⟨⟨_,WQ _ rfl,rfl,rfl⟩,?_⟩,?_,λh' tk hk=>?_⟩
 ·obtain⟨o,e,z⟩:=pl.isList;exact⟨o,WN _ e,z⟩
 ·intro i v s' Q' E' hv hq;obtain⟨b,e,rfl⟩:=vW rv hv;refine wpAny_truthy_bool ?_;have:bs.getD i true=b:=by rw[List.getD_eq_getElem?_getD,e];rfl
  rw[←this];exact hq
 ·rw[hl,range_any];have I1:Inv X ac σ H {s with heap:=s.heap.push {cls:=.type "list_iterator",data:=.fields #[.ref p,.int 0 0]}}:=I.kept (t':=s.toks) λb o e=>WN _ e;have f:=I.ml (b:=s.heap.objs.size) (H':=H) (WR _) (I.hok.fresh (WR _));exact⟨.bl _,H,I1.turned (λb o hb e=>hk b o (by simpa using hb) e) f.1 f.2.1 f.2.2.2.1 f.2.2.2.2.1 f.2.2.2.2.2,rfl,q⟩
end
section
variable{elt t1 i1 t2 i2:Expr}{f1 f2:List Expr}{sc:Scope}{pos:Pos}
abbrev qO(elt t1 i1:Expr)(f1:List Expr)(t2 i2:Expr)(f2:List Expr)(sc:Scope)(pos:Pos):Expr:=.ListComp elt [⟨t1,i1,f1,0⟩,⟨t2,i2,f2,0⟩] sc pos
theorem qC(it acc:Value)(env:Env) :
  compTurn (qO elt t1 i1 f1 t2 i2 f2 sc pos) 0 it acc env=(do
   standAt i1.pos
   match←pyNext it with
   |none=>pure (.done .next)
   |some v =>
    letOwnedTupleGo t1 it v
    assign t1 env v
    let mut ok:=true
    for c in f1 do
     if ok then ok←isTrue c env (eval c env)
    if ok then
     let x←eval i2 env
     standAt i2.pos
     let x←foldedSetIterable i2 env x
     let _←runOwn (.compStart (qO elt t1 i1 f1 t2 i2 f2 sc pos) 1 (←holding [x] (pyIter x)) acc env) env
    again (.compLoop (qO elt t1 i1 f1 t2 i2 f2 sc pos) 0 it acc env)):=by rfl
theorem qe(it acc:Value)(env:Env) :
  compTurn (qO elt t1 i1 f1 t2 i2 f2 sc pos) 1 it acc env=(do
   standAt i2.pos
   match←pyNext it with
   |none=>pure (.done .next)
   |some v =>
    letOwnedTupleGo t2 it v
    assign t2 env v
    let mut ok:=true
    for c in f2 do
     if ok then ok←isTrue c env (eval c env)
    if ok then
     (do let _←call (.builtin "list.append") [acc,←eval elt env])
    again (.compLoop (qO elt t1 i1 f1 t2 i2 f2 sc pos) 1 it acc env)):=by rfl
section
variable{it acc:Value}{env:Env}{prog:Program}{w:World}{A:Around}{s:Shared}{R:Z5}
theorem tV(Iv:Nat->Shared->Prop)
  (turn:∀n s,Iv n s->wpAny (model prog w) A (pyNext it) (λr s₁=>match r with
   |none=>R (.ok .next) s₁
   |some v=>wpAny (model prog w) A (letOwnedTupleGo t2 it v) (λ_ s₁'=>wpAny (model prog w) A (assign t2 env v) (λ_ s₂ =>
     wpAny (model prog w) A (forIn f2 true λc r=>if r=true then do let ok←isTrue c env (eval c env);pure (ForInStep.yield ok)else pure (ForInStep.yield r)) (λok s₃ =>
      if ok=true then wpAny (model prog w) A (eval elt env) (λx s₄ =>
       wpAny (model prog w) A (call (.builtin "list.append") [acc,x]) (λ_ s₅=>∃m,m<n/\Iv m s₅) (λ_ _=>False) s₄) (λ_ _=>False) s₃
      else∃m,m<n/\Iv m s₃) (λ_ _=>False) s₂) (λ_ _=>False) s₁') (λ_ _=>False) s₁) (λ_ _=>False) s)
  (n:Nat) (h:Iv n s) :
  codeAny (model prog w) A (.compLoop (qO elt t1 i1 f1 t2 i2 f2 sc pos) 1 it acc env) R s:=by
 refine codeAny_loop rfl Iv (λn s hI=>?_) n h;show wpAny _ A ((compTurn (qO elt t1 i1 f1 t2 i2 f2 sc pos) 1 it acc env).onRaise (λx=>do noteFrame x env;theTreesLotGoes x)) _ _ s;refine wpAny_noted ?_;rw[qe];refine WL (wpAny_standAt (WL (Xl (turn n s hI) (λr s₁ h₁=>?_) λ_ _ h'=>h'.elim)));cases r with
 |none=>exact WM h₁
 |some v =>
  refine WL (Xl h₁ (λ_ s₁' h₁'=>WL (Xl h₁' (λ_ s₂ h₂=>WL (Xl h₂ (λok s₃ h₃=>?_) λ_ _ h'=>h'.elim)) λ_ _ h'=>h'.elim)) λ_ _ h'=>h'.elim);cases ok with
  |false=>exact WM ⟨rfl,h₃⟩
  |true =>exact WL (WL (Xl h₃ (λx s₄ h₄=>WL (Xl h₄ (λ_ s₅ h₅=>WM (WM ⟨rfl,h₅⟩)) λ_ _ h'=>h'.elim)) λ_ _ h'=>h'.elim))
theorem rm(hs:∀x,foldedSetIterable i2 env x=pure x)(Iv:Nat->Shared->Prop)
  (turn:∀n s,Iv n s->wpAny (model prog w) A (pyNext it) (λr s₁=>match r with
   |none=>R (.ok .next) s₁
   |some v=>wpAny (model prog w) A (letOwnedTupleGo t1 it v) (λ_ s₁'=>wpAny (model prog w) A (assign t1 env v) (λ_ s₂ =>
     wpAny (model prog w) A (forIn f1 true λc r=>if r=true then do let ok←isTrue c env (eval c env);pure (ForInStep.yield ok)else pure (ForInStep.yield r)) (λok s₃ =>
      if ok=true then wpAny (model prog w) A (eval i2 env) (λx s₄=>wpAny (model prog w) A (pyIter x) (λRT s₅ =>
       codeAny (model prog w) A (.compStart (qO elt t1 i1 f1 t2 i2 f2 sc pos) 1 RT acc env) (λr s'=>match r with | .ok _=>∃m,m<n/\Iv m s' | .error _=>False) s₅) (λ_ _=>False) s₄) (λ_ _=>False) s₃
      else∃m,m<n/\Iv m s₃) (λ_ _=>False) s₂) (λ_ _=>False) s₁') (λ_ _=>False) s₁) (λ_ _=>False) s)
  (n:Nat) (h:Iv n s) :
  codeAny (model prog w) A (.compLoop (qO elt t1 i1 f1 t2 i2 f2 sc pos) 0 it acc env) R s:=by
 refine codeAny_loop rfl Iv (λn s hI=>?_) n h;show wpAny _ A ((compTurn (qO elt t1 i1 f1 t2 i2 f2 sc pos) 0 it acc env).onRaise (λx=>do noteFrame x env;theTreesLotGoes x)) _ _ s;refine wpAny_noted ?_;rw[qC];refine WL (wpAny_standAt (WL (Xl (turn n s hI) (λr s₁ h₁=>?_) λ_ _ h'=>h'.elim)));cases r with
 |none=>exact WM h₁
 |some v =>
  refine WL (Xl h₁ (λ_ s₁' h₁'=>WL (Xl h₁' (λ_ s₂ h₂=>WL (Xl h₂ (λok s₃ h₃=>?_) λ_ _ h'=>h'.elim)) λ_ _ h'=>h'.elim)) λ_ _ h'=>h'.elim);cases ok with
  |false=>exact WM ⟨rfl,h₃⟩
  |true =>
   refine WL (Xl h₃ (λx s₄ h₄=>?_) λ_ _ h'=>h'.elim);refine WL (wpAny_standAt (WL (wpAny_of_eq (hs x) ?_)));refine WL (Xm (Xl h₄ (λRT s₅ h₅=>?_) λ_ _ h'=>h'.elim));refine WL (wpAny_runOwn (codeAny_mono h₅ λr s' hr=>?_));cases r with
   |ok f=>exact WM ⟨rfl,hr⟩
   |error x=>exact hr.elim
theorem jv
  (h0:codeAny (model prog w) A (.compLoop (qO elt t1 i1 f1 t2 i2 f2 sc pos) 1 it acc env) R s)
  (h:wpAny (model prog w) A (pyIter it) (λit' s'=>codeAny (model prog w) A (.compLoop (qO elt t1 i1 f1 t2 i2 f2 sc pos) 1 it' acc env) R s')
   (notedBy (model prog w) A env λx s'=>R (.error x) s') s) :
  codeAny (model prog w) A (.compStart (qO elt t1 i1 f1 t2 i2 f2 sc pos) 1 it acc env) R s:=by
 refine codeAny_of_tree ?_;show wpAny _ _ ((compStart (qO elt t1 i1 f1 t2 i2 f2 sc pos) 1 it acc env).onRaise (λx=>do noteFrame x env;standAt theWindowsPlace)) _ _ s;refine wpAny_notedAt ?_;unfold compStart;show wpAny _ _ (ask >>= _) _ _ s;refine WL (wpAny_askSetting (wpAny_ite ?_));split
 ·first
   |exact WL (WM (WM (And.intro rfl h0)))
   |exact WM (And.intro rfl h0)
 ·first
   |exact WL (wpAny_rule (WL (wpAny_standAt (WL (Xl h (λit' s' h'=>WM (And.intro rfl h')) λ_ _ x=>x)))))
   | (refine WL (wpAny_rule ?_);show wpAny _ _ (standAt i2.pos >>= _) _ _ s;exact WL (wpAny_standAt (WL (Xl h (λit' s' h'=>WM (And.intro rfl h')) λ_ _ x=>x))))
end
end
def qu(J:It)(g:TG)(tc:TT)(te:TE)(D:Addr)(N:St->List V->Hp->Prop)(W:Nat->Nat->St->List V->Hp->Prop):Prop :=
 ∀i m σ ys H,W i m σ ys H->H D=some (.lst ys)/\((J.stop i H/\N σ ys H)\/(J.go i H/\ys.length<sizeLine/\∃N2:St->List V->Hp->Prop,(∀σ' ys' H',N2 σ' ys' H'->∃m',m'<m/\W (i+1) m' σ' ys' H')/\
  ∀x H',J.FN i H x H'->g x σ H' λde H2=>tc de H2 λb H3 =>
   if b=true then te de H3 λv H4=>H4 D=some (.lst ys)/\N2 de (ys++[v]) (upd H4 D (.lst (ys++[v])))else N2 de ys H3))
def uC(J:It)(g:TG)(tc:TT)(wi2:TI)(g2:TG)(tZ:TT)(te:TE)(D:Addr)(Q:VK)(W:Nat->Nat->St->List V->Hp->Prop):Prop :=
 ∀i m σ ys H,W i m σ ys H->H D=some (.lst ys)/\((J.stop i H/\Q (.ref D) H)\/(J.go i H/\∃N:St->List V->Hp->Prop,(∀σ' ys' H',N σ' ys' H'->∃m',m'<m/\W (i+1) m' σ' ys' H')/\
  ∀x H',J.FN i H x H'->g x σ H' λde H2=>tc de H2 λb H3 =>
   if b=true then wi2 de H3 λJ2 H4=>∃W2:Nat->Nat->St->List V->Hp->Prop,(∃m,W2 0 m de ys H4)/\qu J2 g2 tZ te D N W2 else N de ys H3))
def Dn(src:List (Option Nat))(wi:TI)(g:TG)(tc:TT)(wi2:TI)(g2:TG)(tZ:TT)(te:TE):TE:=λσ H Q=>wi σ H λJ H1=>∀D,H1 D=none->
 ∃W:Nat->Nat->St->List V->Hp->Prop,(∃m,W 0 m (km src σ) [] (upd H1 D (.lst [])))/\uC J g tc wi2 g2 tZ te D Q W
section
variable{X:Cx}{elt t1 i1 t2 i2:Expr}{f1 f2:List Expr}{sc:Scope}{pos:Pos}{wi wi2:TI}{g g2:TG}{tc tZ:TT}{te:TE}{N':List Str}{src:List (Option Nat)}
theorem xA{Y:Cx}(hc:Y.calm=true)(O3:Y.xe = λ_ _=>False)(hg:PG Y t2 g2)(ht:jn Y f2 tZ)(he:PE Y elt te)
  {ac:Z1} {σ:St} {H:Hp} {s:Shared} {ys:List V} {it D:Addr} {fp:Z8} {tn:Nat->Heap->Prop} {J:It} {N:St->List V->Hp->Prop} {R:Z5}
  (I:Inv Y ac σ H s) (T:Turn Y.prog Y.w Y.K t2 J fp it tn) (st:tn 0 s.heap) (ff:∀b∈fp,dE Y ac H b) {W:Nat->Nat->St->List V->Hp->Prop} {m:Nat} (w0:W 0 m σ ys H) (hW:qu J g2 tZ te D N W)
  (hR:∀σ' ys' H' s',Inv Y ac σ' H' s'->N σ' ys' H'->R (.ok .next) s') :
  codeAny (model Y.prog Y.w) Y.A (.compStart (qO elt t1 i1 f1 t2 i2 f2 sc pos) 1 (.ref it) (.ref D) Y.env) R s:=by
 have stat:∀{H':Hp},(∀b∈fp,H' b=none)->∀b∈fp,dE Y ac H' b:=λhn b hb=>⟨hn b hb,(ff b hb).2⟩;have loop:codeAny (model Y.prog Y.w) Y.A (.compLoop (qO elt t1 i1 f1 t2 i2 f2 sc pos) 1 (.ref it) (.ref D) Y.env) R s:=by
  refine tV (λn s'=>∃i σ' ys H',Inv Y ac σ' H' s'/\tn i s'.heap/\(∀b∈fp,H' b=none)/\W i n σ' ys H') ?_ m ⟨0,_,_,_,I,st,λb hb=>(ff b hb).1,w0⟩;rintro n s5 ⟨i,nX,ys,H5,I5,uU,xm,w5⟩;obtain⟨hD,alt⟩:=hW i n nX ys H5 w5;rcases alt with⟨stop,qn⟩|⟨go,hsz,N2,hN,step⟩
  ·refine bZ (T.done Y rfl rfl rfl hc i ac s5 nX H5 _ I5 (stat xm) uU stop) λr s6 zz=>?_;obtain⟨hr,I6⟩:=zz;subst hr;exact hR _ _ _ _ I6 qn
  ·refine bZ (T.item Y rfl rfl rfl hc i ac s5 nX H5 _ I5 (stat xm) uU go) λr s6 zz=>?_;obtain⟨u,hr,h6⟩:=zz;subst hr;refine bZ h6 λ_ s7 zz=>?_;obtain⟨x,H7,I7,r7,y7,uD,Ib⟩:=zz;have HS:=I7.pinned (stat Ib) (T.obj _ _ uD);have hg':=hg _ s7 nX H7 x u _ HS r7 (step x H7 y7);rw[O3]at hg';refine bZ hg' λ_ s8 zz=>?_;obtain⟨uV,H8,I8,q8⟩:=zz;have ht':=ht _ s8 uV H8 _ I8 q8;rw[O3]at ht';refine bZ ht' λb s9 zz=>?_;obtain⟨H9,I9,q9⟩:=zz;have again:∀{σ':St}{H':Hp}{s':Shared}{ys':List V}{m':Nat},Inv Y (ac++jH fp s7.heap) σ' H' s'->m'<n->W (i+1) m' σ' ys' H'->
     ∃m,m<n/\∃i σ' ys H',Inv Y ac σ' H' s'/\tn i s'.heap/\(∀b∈fp,H' b=none)/\W i m σ' ys H':=λ{σ' H' s' ys' m'} I' hm w'=>by
    refine⟨m',hm,i+1,σ',ys',H',I'.gE,T.keep _ _ _ uD λb hb o e=>(I'.pin (b,o) (W3 _ (W3 _ (cM hb e)))).1,λb hb=>?_,w'⟩;obtain⟨o,e,d⟩:=T.obj _ _ uD b hb;exact(I'.pin (b,o) (W3 _ (W3 _ (cM hb e)))).2.1
   cases b with
   |false =>rw[Xt W6]at q9⊢;obtain⟨m',hm,w'⟩:=hN _ _ _ q9;exact again I9 hm w'
   |true =>rw[Xu rfl]at q9⊢;have he':=he _ s9 uV H9 _ I9 q9;rw[O3]at he';refine bZ he' λxv Cd zz=>?_;obtain⟨v,Bl,MG,r10,Fn,w10⟩:=zz;obtain⟨m',hm,w'⟩:=hN _ _ _ w10;have OF:nV (.ref D) [v] Bl λ_ H'=>H'=upd Bl D (.lst (ys++[v])):=⟨_,ys,v,rfl,rfl,Fn,hsz,rfl⟩;have ha':=cZ _ Cd uV Bl _ _ _ _ _ MG (show RelV (.ref D) (.ref D) from rfl) (.cons r10 .nil) OF;rw[O3]at ha';refine bZ ha' λ_ Sf zz=>?_;obtain⟨_,PL,IV,_,MK⟩:=zz;rw[MK]at IV;exact again IV hm w'
 exact jv loop (T.self _ 0 _ _ _ st loop)
theorem mY{ac:Z1}{σ:St}{H2:Hp}{s2:Shared}{it:Addr}{fp:Z8}{tn:Nat->Heap->Prop}{J:It}{Q:VK}{E:Z0}{RR:Value->Addr->Z5}
  (hc:X.calm=true) (S:ba X.env.scope X.N N' src sc)
  (hg:∀cl C s H fp,PG (aL X N' sc cl C s H fp) t1 g) (ht:∀cl C s H fp,jn (aL X N' sc cl C s H fp) f1 tc)
  (hi2:∀cl C s H fp,PI (aL X N' sc cl C s H fp) t2 i2 wi2) (hg2:∀cl C s H fp,PG (aL X N' sc cl C s H fp) t2 g2) (GF:∀cl C s H fp,jn (aL X N' sc cl C s H fp) f2 tZ)
  (he:∀cl C s H fp,PE (aL X N' sc cl C s H fp) elt te) (hs2:∀(env:Env) x,foldedSetIterable i2 env x=pure x)
  (I2:Inv X ac σ H2 s2) (T:Turn X.prog X.w X.K t1 J fp it tn) (st2:tn 0 s2.heap) (Mt:∀b∈fp,dE X ac H2 b)
  (hW:∀D,H2 D=none->∃W:Nat->Nat->St->List V->Hp->Prop,(∃m,W 0 m (km src σ) [] (upd H2 D (.lst [])))/\uC J g tc wi2 g2 tZ te D Q W)
  (hRR:∀D C s5 H' m,Inv X ac σ H' s5->s5.heap.Ns C m->dE X ac H' C->Q (.ref D) H'->RR (.ref D) C (.ok .next) s5) :
  wpAny (model X.prog X.w) X.A (newList []) (λacc s₃=>wpAny (model X.prog X.w) X.A (newFunctionEnv sc X.env.globals (bP X.env.cells sc.names []) [] X.env.qual none .none (some X.env)) (λcenv s₄ =>
   codeAny (model X.prog X.w) X.A (.compStart (qO elt t1 i1 f1 t2 i2 f2 sc pos) 0 (.ref it) acc {cenv with scope:=relabel sc X.env}) (RR acc cenv.locals) s₄) E s₃) E s2:=by
 have o2:∀b∈fp,b<s2.heap.objs.size:=λb hb=>by obtain⟨o,e,_⟩:=T.obj 0 _ st2 b hb;exact WO e
 refine Xn ?_;have K3:H2 s2.heap.objs.size=none:=I2.hok.fresh (WR _);obtain⟨W,⟨m0,w0⟩,turn⟩:=hW s2.heap.objs.size K3;have I3:Inv X ac σ (upd H2 s2.heap.objs.size (.lst [])) {s2 with heap:=s2.heap.push {cls:=.type "list",dict:=none,data:=.seq ([]:Z6).toArray}} :=
  I2.laid (t':=s2.toks) (λb u e=>WN _ e) (WR _) ⟨Xe _,[],0,.nil,WQ _ rfl⟩
 have st3:tn 0 (s2.heap.push {cls:=.type "list",dict:=none,data:=.seq ([]:Z6).toArray}):=T.keep 0 _ _ st2 λb hb o e=>WN _ e;generalize hs3:({s2 with heap:=s2.heap.push {cls:=.type "list",dict:=none,data:=.seq ([]:Z6).toArray}}:Shared)=s3 at I3;have hh3:s3.heap=s2.heap.push {cls:=.type "list",dict:=none,data:=.seq ([]:Z6).toArray}:=by rw[←hs3]
 have FT:s2.heap.objs.size<s3.heap.objs.size:=by rw[hh3,Heap.size_push];exact Nat.lt_succ_self _
 have o3:∀b∈fp,b<s3.heap.objs.size:=λb hb=>Nat.lt_trans (o2 b hb) FT;have f3:∀b∈fp,dE X ac (upd H2 s2.heap.objs.size (.lst [])) b:=λb hb=>⟨by rw[aI (Xd (o2 b hb))];exact(Mt b hb).1,(Mt b hb).2⟩;rw[←hh3]at st3;refine wpAny_newFunctionEnv S.pR (by intro y hy;simp at hy) (λh1 hns hsb=>?_) S.kind;have hsb':Heap.SameBut s3.heap.objs.size (s3.heap.push {cls:=.type "dict",data:=.dict #[]}) h1:=hsb;have I4:Inv (aL X N' sc (bP X.env.cells sc.names []) s3.heap.objs.size s3 (upd H2 s2.heap.objs.size (.lst [])) fp) [] (km src σ) (upd H2 s2.heap.objs.size (.lst [])) {s3 with heap:=h1,toks:=s3.toks+([]:List (Str×Value)).length} :=
  i6 S I3 f3 o3 hns hsb'
 have E5:tn 0 h1:=T.keep 0 _ _ st3 λb hb o e=>(hsb'.2 b (Xd (o3 b hb))).trans (WN _ e);have fC:∀(H':Hp),H' s3.heap.objs.size=none->dE X ac H' s3.heap.objs.size:=λH' hn=>I3.ml (WR _) hn;have loop:codeAny (model X.prog X.w) X.A (.compLoop (qO elt t1 i1 f1 t2 i2 f2 sc pos) 0 (.ref it) (.ref s2.heap.objs.size) (compEnvC sc (bP X.env.cells sc.names []) s3.heap.objs.size X.env))
   (RR (.ref s2.heap.objs.size) s3.heap.objs.size) {s3 with heap:=h1,toks:=s3.toks+([]:List (Str×Value)).length}:=by
  have stat:∀{H':Hp},(∀b∈fp,H' b=none)->∀b∈fp,dE (aL X N' sc (bP X.env.cells sc.names []) s3.heap.objs.size s3 (upd H2 s2.heap.objs.size (.lst [])) fp) [] H' b:=λhn b hb =>
   ⟨hn b hb,(I4.ok.AU b hb).1,I4.ok.pZ b hb,.inl hb,(I4.ok.AU b hb).2,λp hp=>Xs (show p∈([]:Z1) from hp) (by simp)⟩
  refine rm (hs2 _) (λn s'=>∃i σ' ys H',Inv (aL X N' sc (bP X.env.cells sc.names []) s3.heap.objs.size s3 (upd H2 s2.heap.objs.size (.lst [])) fp) [] σ' H' s'/\tn i s'.heap/\(∀b∈fp,H' b=none)/\W i n σ' ys H') ?_ m0
   ⟨0,_,[],_,I4,E5,λb hb=>(f3 b hb).1,w0⟩
  rintro n s5 ⟨i,nX,ys,H5,I5,uU,xm,w5⟩;obtain⟨hD,alt⟩:=turn i n nX ys H5 w5;rcases alt with⟨stop,qn⟩|⟨go,N,hN,step⟩
  ·refine bZ (T.done (aL X N' sc (bP X.env.cells sc.names []) s3.heap.objs.size s3 (upd H2 s2.heap.objs.size (.lst [])) fp) rfl rfl rfl hc i [] s5 nX H5 _ I5 (stat xm) uU stop) λr s6 zz=>?_;obtain⟨hr,I6⟩:=zz;subst hr;obtain⟨m6,n6,_⟩:=id I6.loc;refine hRR _ _ s6 H5 m6 (I3.call' I6.os I6.base I6.hok I6.bare λb hb=>⟨(f3 b hb).2.2.2.1,(f3 b hb).2.1,(f3 b hb).2.2.2.2.1,(f3 b hb).2.2.2.2.2⟩) n6 (fC _ I6.free) qn
  ·refine bZ (T.item (aL X N' sc (bP X.env.cells sc.names []) s3.heap.objs.size s3 (upd H2 s2.heap.objs.size (.lst [])) fp) rfl rfl rfl hc i [] s5 nX H5 _ I5 (stat xm) uU go) λr s6 zz=>?_;obtain⟨u,hr,h6⟩:=zz;subst hr;refine bZ h6 λ_ s7 zz=>?_;obtain⟨x,H7,I7,r7,y7,uD,Ib⟩:=zz;have HS:=I7.pinned (stat Ib) (T.obj _ _ uD);refine bZ (hg _ _ _ _ _ _ s7 nX H7 x u _ HS r7 (step x H7 y7)) λ_ s8 zz=>?_;obtain⟨uV,H8,I8,q8⟩:=zz;refine bZ (ht _ _ _ _ _ _ s8 uV H8 _ I8 q8) λb s9 zz=>?_;obtain⟨H9,I9,q9⟩:=zz;have again:∀{σ':St}{H':Hp}{s':Shared}{ys':List V}{m':Nat},Inv (aL X N' sc (bP X.env.cells sc.names []) s3.heap.objs.size s3 (upd H2 s2.heap.objs.size (.lst [])) fp) ([]++jH fp s7.heap) σ' H' s'->m'<n->W (i+1) m' σ' ys' H'->
     ∃m,m<n/\∃i σ' ys H',Inv (aL X N' sc (bP X.env.cells sc.names []) s3.heap.objs.size s3 (upd H2 s2.heap.objs.size (.lst [])) fp) [] σ' H' s'/\tn i s'.heap/\(∀b∈fp,H' b=none)/\W i m σ' ys H':=λ{σ' H' s' ys' m'} I' hm w'=>by
    refine⟨m',hm,i+1,σ',ys',H',I'.gE,T.keep _ _ _ uD λb hb o e=>(I'.pin (b,o) (W3 _ (W3 _ (cM hb e)))).1,λb hb=>?_,w'⟩;obtain⟨o,e,d⟩:=T.obj _ _ uD b hb;exact(I'.pin (b,o) (W3 _ (W3 _ (cM hb e)))).2.1
   cases b with
   |false =>rw[Xt W6]at q9⊢;obtain⟨m',hm,w'⟩:=hN _ _ _ q9;exact again I9 hm w'
   |true =>rw[Xu rfl]at q9⊢;refine bZ (hi2 _ _ _ _ _ _ s9 uV H9 _ I9 q9) λv sA hA=>bZ hA λitv sB hB=>?_;obtain⟨WJ,WC,WE,JB,HB,eB,IB,TB,VX,fB,WB,⟨mB,wB⟩,UW⟩:=hB;subst eB;refine xA (Y:=aL X N' sc (bP X.env.cells sc.names []) s3.heap.objs.size s3 (upd H2 s2.heap.objs.size (.lst [])) fp) hc rfl (hg2 _ _ _ _ _) (GF _ _ _ _ _) (he _ _ _ _ _) IB TB VX fB wB UW ?_;intro σ' ys' H' s' I' hn;obtain⟨m',hm,w'⟩:=hN _ _ _ hn;exact again I' hm w'
 exact codeAny_compStart_list loop (T.self _ 0 _ _ _ E5 loop)
theorem rB(hc:X.calm=true)(S:ba X.env.scope X.N N' src sc)(hi:PI X t1 i1 wi)
  (hg:∀cl C s H fp,PG (aL X N' sc cl C s H fp) t1 g) (ht:∀cl C s H fp,jn (aL X N' sc cl C s H fp) f1 tc)
  (hi2:∀cl C s H fp,PI (aL X N' sc cl C s H fp) t2 i2 wi2) (hg2:∀cl C s H fp,PG (aL X N' sc cl C s H fp) t2 g2) (GF:∀cl C s H fp,jn (aL X N' sc cl C s H fp) f2 tZ)
  (he:∀cl C s H fp,PE (aL X N' sc cl C s H fp) elt te) (hs:∀x,foldedSetIterable i1 X.env x=pure x:=by intro _;rfl) (hs2:∀(env:Env) x,foldedSetIterable i2 env x=pure x:=by intro _ _;rfl) :
  PE X (qO elt t1 i1 f1 t2 i2 f2 sc pos) (Dn src wi g tc wi2 g2 tZ te):=by
 intro ac s σ H Q I h;rw[eval_ListComp];refine wpAny_comprehension_free (use:=none) rfl hs (c7 λy hy hk=>I.ok.has y.1 (S.free y hy hk)) S.kind (λy hy hl=>by rw[←hl];exact S.uniq y hy) ?_;refine bZ (hi ac s σ H _ I h) λv s1 h1=>bZ h1 λitv s2 h2=>?_;obtain⟨it,fp,tn,J,H2,e,I2,T,st2,Mt,hW⟩:=h2;subst e;refine mY (Q:=Q) (RR:=λacc C=>compPost (model X.prog X.w) X.A X.xe none (EP X ac σ Q) acc C) hc S hg ht hi2 hg2 GF he hs2 I2 T st2 Mt hW ?_;intro D C s5 H' m I5 n5 fC q;refine⟨m,n5,λh' sb=>⟨.ref D,H',?_,rfl,q⟩⟩;exact I5.turned (t':=s5.toks) (λb o hb e=>(sb.2 b hb).trans e) fC.1 fC.2.1 fC.2.2.2.1 fC.2.2.2.2.1 fC.2.2.2.2.2
end
end L2
namespace HT
open PySem PyProof.Rows
open PySem.AutoSeq1 (wpAny_loadPart')
theorem tuple_addW0(l b:Addr)(items items2:Array Value)(n n2:Nat)(dd dd2:Option Addr)(sl sl2:Array (Z7))(hc0:items.isEmpty=true) :
  Meets (Builtin.«tuple.__add__» ⟨[.ref l,.ref b],[]⟩) (λ_ R s=>s.heap.get? l=some {cls:=.type "tuple",dict:=dd,data:=.seq items n,slots:=sl}/\s.heap.get? b=some {cls:=.type "tuple",dict:=dd2,data:=.seq items2 n2,slots:=sl2}/\R (.ok (.ret (Value.ref b))) {s with heap:=s.heap,toks:=s.toks}) :=
 .of_wp λprog w A R s h=>by
  obtain⟨hp,g,d,tk,os⟩:=s;obtain⟨hl,hb,h⟩:=h;have f1:=AutoSeq1.idx_int;have f2:=AutoSeq1.sub_tuple_tuple;have f3:=AutoSeq1.sub_list_list;have f4:=AutoSeq1.sub_tuple_list;have f5:=AutoSeq1.sub_list_tuple
  wp_walk using wpAny_loadPart' hl,wpAny_loadPart' hb
  exact⟨_,rfl,h⟩
section
variable{prog:Program}{w:World}{A:Around}{E:Z0}{s:Shared}
theorem FE{t b:Addr}{ws:Z6}{Q:Z0}(ht:IsTup s.heap t #[])(hb:IsTup s.heap b ws.toArray)(h1:Q (.ref b) s):wpAny (model prog w) A (binaryOp .Add (.ref t) (.ref b)) Q E s:=by
 obtain⟨⟨cls,dd,data,sl⟩,ho,hc,n,hd⟩:=id ht;obtain⟨⟨cls2,dd2,data2,sl2⟩,ho2,hc2,n2,hd2⟩:=id hb;simp only at hc hd hc2 hd2;subst hc hd hc2 hd2;exact concat_meets ⟨_,ho,rfl⟩ ⟨_,ho2,rfl⟩ noFill_tuple_add seq_tuple_add PySem.F.slot_tuple_add PySem.F.entry_tuple_add (PySem.F.args_tuple_add_2 _ _)
   (tuple_addW0 t b #[] ws.toArray n n2 dd dd2 sl sl2 rfl) ⟨ho,ho2,h1⟩
theorem kd{t sl:Addr}{items:Array Value}{vl vu:Value}{lo hi:Option Int}{Q:Z0}(ht:IsTup s.heap t items)(hs:s.heap.IsSliceOf sl vl vu .none)(pl:IsPart vl lo)(pu:IsPart vu hi)
  (hw:dN items.size 0 lo=0/\dN items.size items.size hi=items.size)
  (h:Q (.ref t) s):wpAny (model prog w) A (getItem (.ref t) (.ref sl)) Q E s:=by
 obtain⟨os,hos,hcs,hds⟩:=id hs;have hTs:s.TypeIs (.ref sl) "slice":=⟨os,hos,hcs⟩;unfold getItem;try with_reducible refine Xm ?_
 first|refine WL (WM ?_)|skip
 refine WL (wpAny_sequenceKey ht.typeIs (by decide) ?_);refine WL (wpAny_callSpecial?_slot (name:=Str.ofString "__getitem__") ht.typeIs PyProof.Rows.slot_tuple_getitem
  (XD PyProof.Rows.slot_tuple_getitem ht.typeIs entry_tuple_getitem ?_ (args_tuple_getitem _ _)))
 show wpAny _ _ (Builtin.Tuple.tupleItemsOf (.ref t) >>= _) _ _ s;refine WL (tupleItemsOf_ ht ?_);refine WL (wpAny_typeOf hTs ?_);rw[Xu (by decide)];refine WL (iy hs pl pu ?_);have hno:(((dN items.size 0 lo:Nat):Int)==0&&(1:Int)==1&&(dN items.size items.size hi-dN items.size 0 lo)==items.size)=true:=by rw[hw.1,hw.2];simp
 show wpAny _ _ (if(((dN items.size 0 lo:Nat):Int)==0&&(1:Int)==1&&(dN items.size items.size hi-dN items.size 0 lo)==items.size)=true then _ else _) _ _ s;rw[Xu hno];refine WL (m:=Builtin.Tuple.tupleIsExact _) ?_;unfold Builtin.Tuple.tupleIsExact;refine WL (wpAny_typeOf ht.typeIs (WM ?_));show wpAny _ _ (if((Value.type "tuple")==(Value.type "tuple"))=true then _ else _) _ _ s;rw[Xu (by decide)];exact WL (wpAny_rule (WM ⟨_,rfl,WM h⟩))
end
end HT
namespace L2
open PySem PySem.Spec PyProof.Rows
section
variable{X:Cx}
theorem D7(hu:X.A.units<cLine):jk X (compareOp .NotEq) (λx y H Q=>∃a b xs ys,x=.ref a/\y=.ref b/\aZ X.K H a xs/\aZ X.K H b ys/\xs.length≠ys.length/\Q (.bl true) H):=by intro ac s σ H x y v u Q I rx ry h;obtain⟨a,b,xs,ys,rfl,rfl,ha,hb,hl,q⟩:=h;cases rx;cases ry;obtain⟨its,r1,p1,_⟩:=I.list ha;obtain⟨its',r2,p2,_⟩:=I.list hb;exact SeqAt.RcNeAt.lists_lengths p1.isList p2.isList (by simp[←r1.length,←r2.length,hl]) hu _ _ _ _ ⟨.bl true,H,I,rfl,q⟩
theorem Eg:jk X (binaryOp .Add) (λx y H Q=>∃a b ys,x=.ref a/\y=.ref b/\aJ X.K H a []/\aJ X.K H b ys/\Q (.ref b) H):=by intro ac s σ H x y v u Q I rx ry h;obtain⟨a,b,ys,rfl,rfl,ha,hb,q⟩:=h;cases rx;cases ry;obtain⟨its,r1,p1,_⟩:=I.tuple ha;obtain⟨its2,r2,p2,_⟩:=I.tuple hb;cases r1;exact HT.FE p1 p2 ⟨.ref b,H,I,rfl,q⟩
def JC(K:XO):V->Option Int->Option Int->Hp->VK->Prop:=λx lo hi H Q=>∃a xs,x=.ref a/\aJ K H a xs/\
 (HT.dN xs.length 0 lo=0/\HT.dN xs.length xs.length hi=xs.length)/\Q (.ref a) H
theorem Hs:GX X (JC X.K):=by
 intro ac s σ H x v vl vu lo hi sl Q I rx hs pl pu h;obtain⟨a,xs,rfl,hx,hw,q⟩:=h;cases rx;obtain⟨its,r,ht,hz⟩:=I.tuple hx;have hlen:its.toArray.size=xs.length:=by rw[W7];exact r.length.symm
 refine⟨"tuple",_,PyProof.Rows.slot_tuple_getitem.lookup,ht.typeIs,?_⟩;exact HT.kd ht hs pl pu (by rw[hlen];exact hw) ⟨.ref a,H,I,rfl,q⟩
theorem GY{x:V}{lo hi:Option Int}{H:Hp}{Q:VK}{a:Addr}{xs:List V}{K:XO}(e:x=.ref a)(h:aJ K H a xs)(q1:fP xs lo hi=xs->Q (.ref a) H)(q2:∀p,H p=none->Q (.ref p) (upd H p (.tup (fP xs lo hi)))):NK K x lo hi H Q\/JC K x lo hi H Q:=by
 by_cases hw:HT.dN xs.length 0 lo=0/\HT.dN xs.length xs.length hi=xs.length
 ·refine .inr ⟨a,xs,e,h,hw,q1 ?_⟩;unfold fP;rw[hw.1,hw.2];simp
 ·exact .inl ⟨a,xs,e,h,hw,q2⟩
end
inductive D where
 |int (i:Int)|str (x:Str)|non|bl (b:Bool)|tup (ds:List D)|lst (ds:List D)
deriving Inhabited
mutual
def a_(K:XO)(H:Hp):D->V->Prop
 | .int i,v=>v=.int i
 | .str x,v=>v=.str x
 | .non,v=>v=.non
 | .bl b,v=>v=.bl b
 | .tup ds,v=>∃a vs,v=.ref a/\aJ K H a vs/\bL K H ds vs
 | .lst ds,v=>∃a vs,v=.ref a/\H a=some (.lst vs)/\bL K H ds vs
def bL(K:XO)(H:Hp):List D->List V->Prop
 |[],vs=>vs=[]
 |d::ds,vs=>∃v r,vs=v::r/\a_ K H d v/\bL K H ds r
end
mutual
def D.depth:D->Nat
 | .tup ds=>1+cE ds
 | .lst ds=>1+cE ds
 |_=>0
def cE:List D->Nat
 |[]=>0
 |d::ds=>max d.depth (cE ds)
end
def bI(b:Bool):Int:=if b then 1 else 0
mutual
def cJ:D->D->Bool
 | .int i,.int j=>i==j
 | .int i,.bl b=>i==bI b
 | .bl b,.int j=>bI b==j
 | .bl b,.bl c=>b==c
 | .str x,.str y=>x==y
 | .non,.non=>true
 | .tup ds,.tup es=>fU ds es
 | .lst ds,.lst es=>fU ds es
 |_,_=>false
def fU:List D->List D->Bool
 |[],[]=>true
 |d::ds,e::es=>cJ d e&&fU ds es
 |_,_=>false
end
mutual
theorem oW:∀d:D,cJ d d=true
 | .int i=>by simp[cJ]
 | .str x=>by simp[cJ]
 | .non=>by simp[cJ]
 | .bl b=>by simp[cJ]
 | .tup ds=>by rw[cJ];exact ix ds
 | .lst ds=>by rw[cJ];exact ix ds
theorem ix:∀ds:List D,fU ds ds=true
 |[]=>by simp[fU]
 |d::ds=>by rw[fU,oW d,ix ds];rfl
end
section
variable{K:XO}{H:Hp}
theorem bL.length:∀{ds:List D}{vs:List V},bL K H ds vs->ds.length=vs.length
 |[],vs,h=>by rw[bL]at h;rw[h];rfl
 |d::ds,vs,h=>by rw[bL]at h;obtain⟨v,r,rfl,_,h⟩:=h;rw[Xp,Xp,bL.length h]
theorem bL.get:∀{ds:List D}{vs:List V}{i:Nat}{v:V},bL K H ds vs->vs[i]? = some v->∃d,ds[i]? = some d/\a_ K H d v
 |[],vs,i,v,h,e=>by rw[bL]at h;rw[h]at e;cases e
 |d::ds,vs,i,v,h,e=>by
  rw[bL]at h;obtain⟨u,r,rfl,h1,h2⟩:=h;cases i with
  |zero=>cases e;exact⟨d,rfl,h1⟩
  |succ i=>obtain⟨d',e1,e2⟩:=bL.get (i:=i) h2 e;exact⟨d',e1,e2⟩
theorem bL.of:∀{ds:List D}{vs:List V},ds.length=vs.length->(∀(i:Nat) d v,ds[i]? = some d->vs[i]? = some v->a_ K H d v)->bL K H ds vs
 |[],[],_,_=>by rw[bL]
 |[],v::vs,h,_=>by cases h
 |d::ds,[],h,_=>by cases h
 |d::ds,v::vs,h,k=>by rw[bL];exact⟨v,vs,rfl,k 0 d v rfl rfl,bL.of (by simpa using h) λi d v e1 e2=>k (i+1) d v e1 e2⟩
theorem bL.cons{d:D}{v:V}{ds:List D}{vs:List V}(h1:a_ K H d v)(h2:bL K H ds vs):bL K H (d::ds) (v::vs):=by rw[bL];exact⟨v,vs,rfl,h1,h2⟩
theorem bL.nil:bL K H [] []:=by rw[bL]
mutual
theorem a_.mono{H':Hp}(s:∀a xs,aJ K H a xs->aJ K H' a xs)(t:∀a xs,H a=some (.lst xs)->H' a=some (.lst xs)):∀{d:D}{v:V},a_ K H d v->a_ K H' d v
 | .int _,v,h=>by rw[a_]at h⊢;exact h
 | .str _,v,h=>by rw[a_]at h⊢;exact h
 | .non,v,h=>by rw[a_]at h⊢;exact h
 | .bl _,v,h=>by rw[a_]at h⊢;exact h
 | .tup ds,v,h=>by rw[a_]at h⊢;obtain⟨a,vs,e,q,h⟩:=h;exact⟨a,vs,e,s a vs q,bL.mono s t h⟩
 | .lst ds,v,h=>by rw[a_]at h⊢;obtain⟨a,vs,e,q,h⟩:=h;exact⟨a,vs,e,t a vs q,bL.mono s t h⟩
theorem bL.mono{H':Hp}(s:∀a xs,aJ K H a xs->aJ K H' a xs)(t:∀a xs,H a=some (.lst xs)->H' a=some (.lst xs)):∀{ds:List D}{vs:List V},bL K H ds vs->bL K H' ds vs
 |[],vs,h=>by rw[bL]at h⊢;exact h
 |d::ds,vs,h=>by rw[bL]at h⊢;obtain⟨u,r,e,h1,h2⟩:=h;exact⟨u,r,e,a_.mono s t h1,bL.mono s t h2⟩
end
end
theorem pM:∀{ds es:List D},ds.length≠es.length->fU ds es=false
 |[],[],h=>Xs rfl h
 |[],_::_,_=>by rw[fU];all_goals simp
 |_::_,[],_=>by rw[fU];all_goals simp
 |d::ds,e::es,h=>by rw[fU,pM (by simpa using h),Bool.and_false]
theorem pL:∀{ds es:List D},ds.length=es.length->(List.range ds.length).all (λj=>cJ (ds.getD j .non) (es.getD j .non))=fU ds es
 |[],[],_=>by rw[fU];rfl
 |d::ds,e::es,h=>by rw[fU,Xp,List.range_succ_eq_map,List.all_cons,List.all_map,←pL (by simpa using h)];rfl
 |[],_::_,h=>by cases h
 |_::_,[],h=>by cases h
theorem DL{ds es:List D}:((List.range (min ds.length es.length)).all (λj=>cJ (ds.getD j .non) (es.getD j .non))&&ds.length==es.length)=fU ds es:=by
 by_cases h:ds.length=es.length
 ·rw[←pL h,h,Nat.min_self];simp
 ·rw[pM h,beq_eq_false_iff_ne.mpr h,Bool.and_false]
theorem kK:∀{ds:List D}{i:Nat}{d:D},ds[i]? = some d->d.depth<=cE ds
 |[],i,d,e=>by cases e
 |d'::ds,0,d,e=>by cases e;rw[cE];exact Nat.le_max_left _ _
 |d'::ds,i+1,d,e=>by rw[cE];exact WS (kK (i:=i) (by simpa using e)) (Nat.le_max_right _ _)
section
variable{X:Cx}{ac:Z1}{σ:St}{H:Hp}{s:Shared}
theorem l6{ds:List D}{j:Nat}{d:D}(h:ds[j]? = some d):ds.getD j .non=d:=by rw[List.getD_eq_getElem?_getD,h];rfl
def both(A:Around)(s:Shared)(u v:Value)(b:Bool):Prop:=SeqAt.EqAt A s u v b/\SeqAt.RcAt A s u v b/\SeqAt.RcNeAt A s u v (!b)
def seqs:D->D->Bool
 | .tup _,.tup _=>true
 | .lst _,.lst _=>true
 |_,_=>false
theorem pX(I:Inv X ac σ H s){A:Around}(hu:A.units<cLine):∀{d e:D}{x y:V}{u v:Value},seqs d e=false->a_ X.K H d x->a_ X.K H e y->RelV x u->RelV y v->both A s u v (cJ d e)
 | .int i,.int j,x,y,u,v,hs,h1,h2,r1,r2=>by rw[a_]at h1;subst h1;obtain⟨t,rfl⟩:=r1;rw[a_]at h2;subst h2;obtain⟨w,rfl⟩:=r2;rw[cJ];exact⟨.int_int i t j w,.int_int i t j w,.int_int i t j w⟩
 | .int i,.str j,x,y,u,v,hs,h1,h2,r1,r2=>by rw[a_]at h1;subst h1;obtain⟨t,rfl⟩:=r1;rw[a_]at h2;subst h2;obtain⟨w,rfl⟩:=r2;rw[show cJ (.int i) (.str j)=false by simp[cJ]];exact⟨.int_str i t j w,.int_str i t j w,.int_str i t j w⟩
 | .int i,.non,x,y,u,v,hs,h1,h2,r1,r2=>by rw[a_]at h1;subst h1;obtain⟨t,rfl⟩:=r1;rw[a_]at h2;subst h2;cases r2;rw[show cJ (.int i) (.non)=false by simp[cJ]];exact⟨.int_none i t,.int_none i t,.int_none i t⟩
 | .int i,.bl j,x,y,u,v,hs,h1,h2,r1,r2=>by rw[a_]at h1;subst h1;obtain⟨t,rfl⟩:=r1;rw[a_]at h2;subst h2;cases r2;rw[cJ];exact⟨.int_bool i t j,.int_bool i t j,.int_bool i t j⟩
 | .int i,.tup j,x,y,u,v,hs,h1,h2,r1,r2=>by rw[a_]at h1;subst h1;obtain⟨t,rfl⟩:=r1;rw[a_]at h2;obtain⟨aw,Ga,rfl,q2,_⟩:=h2;cases r2;obtain⟨uB,HP,pw,_⟩:=I.tuple q2;rw[show cJ (.int i) (.tup j)=false by simp[cJ]];exact⟨.int_tuple i t pw hu,.int_tuple i t pw hu,.int_tuple i t pw hu⟩
 | .int i,.lst j,x,y,u,v,hs,h1,h2,r1,r2=>by
  rw[a_]at h1;subst h1;obtain⟨t,rfl⟩:=r1;rw[a_]at h2;obtain⟨aw,Ga,rfl,q2,_⟩:=h2;cases r2;obtain⟨uB,HP,GV,_⟩:=I.list (aZ.of q2);have pw:=GV.isList
  rw[show cJ (.int i) (.lst j)=false by simp[cJ]];exact⟨.int_list i t pw hu,.int_list i t pw hu,.int_list i t pw hu⟩
 | .str i,.int j,x,y,u,v,hs,h1,h2,r1,r2=>by rw[a_]at h1;subst h1;obtain⟨t,rfl⟩:=r1;rw[a_]at h2;subst h2;obtain⟨w,rfl⟩:=r2;rw[show cJ (.str i) (.int j)=false by simp[cJ]];exact⟨.str_int i t j w,.str_int i t j w,.str_int i t j w⟩
 | .str i,.str j,x,y,u,v,hs,h1,h2,r1,r2=>by rw[a_]at h1;subst h1;obtain⟨t,rfl⟩:=r1;rw[a_]at h2;subst h2;obtain⟨w,rfl⟩:=r2;rw[cJ];exact⟨.str_str i t j w,.str_str i t j w,.str_str i t j w⟩
 | .str i,.non,x,y,u,v,hs,h1,h2,r1,r2=>by rw[a_]at h1;subst h1;obtain⟨t,rfl⟩:=r1;rw[a_]at h2;subst h2;cases r2;rw[show cJ (.str i) (.non)=false by simp[cJ]];exact⟨.str_none i t,.str_none i t,.str_none i t⟩
 | .str i,.bl j,x,y,u,v,hs,h1,h2,r1,r2=>by rw[a_]at h1;subst h1;obtain⟨t,rfl⟩:=r1;rw[a_]at h2;subst h2;cases r2;rw[show cJ (.str i) (.bl j)=false by simp[cJ]];exact⟨.str_bool i t j,.str_bool i t j,.str_bool i t j⟩
 | .str i,.tup j,x,y,u,v,hs,h1,h2,r1,r2=>by rw[a_]at h1;subst h1;obtain⟨t,rfl⟩:=r1;rw[a_]at h2;obtain⟨aw,Ga,rfl,q2,_⟩:=h2;cases r2;obtain⟨uB,HP,pw,_⟩:=I.tuple q2;rw[show cJ (.str i) (.tup j)=false by simp[cJ]];exact⟨.str_tuple i t pw hu,.str_tuple i t pw hu,.str_tuple i t pw hu⟩
 | .str i,.lst j,x,y,u,v,hs,h1,h2,r1,r2=>by
  rw[a_]at h1;subst h1;obtain⟨t,rfl⟩:=r1;rw[a_]at h2;obtain⟨aw,Ga,rfl,q2,_⟩:=h2;cases r2;obtain⟨uB,HP,GV,_⟩:=I.list (aZ.of q2);have pw:=GV.isList
  rw[show cJ (.str i) (.lst j)=false by simp[cJ]];exact⟨.str_list i t pw hu,.str_list i t pw hu,.str_list i t pw hu⟩
 | .non,.int j,x,y,u,v,hs,h1,h2,r1,r2=>by rw[a_]at h1;subst h1;cases r1;rw[a_]at h2;subst h2;obtain⟨w,rfl⟩:=r2;rw[show cJ (.non) (.int j)=false by simp[cJ]];exact⟨.none_int j w,.none_int j w,.none_int j w⟩
 | .non,.str j,x,y,u,v,hs,h1,h2,r1,r2=>by rw[a_]at h1;subst h1;cases r1;rw[a_]at h2;subst h2;obtain⟨w,rfl⟩:=r2;rw[show cJ (.non) (.str j)=false by simp[cJ]];exact⟨.none_str j w,.none_str j w,.none_str j w⟩
 | .non,.non,x,y,u,v,hs,h1,h2,r1,r2=>by rw[a_]at h1;subst h1;cases r1;rw[a_]at h2;subst h2;cases r2;rw[cJ];exact⟨.same _,.none_none,.none_none⟩
 | .non,.bl j,x,y,u,v,hs,h1,h2,r1,r2=>by rw[a_]at h1;subst h1;cases r1;rw[a_]at h2;subst h2;cases r2;rw[show cJ (.non) (.bl j)=false by simp[cJ]];exact⟨.none_bool j,.none_bool j,.none_bool j⟩
 | .non,.tup j,x,y,u,v,hs,h1,h2,r1,r2=>by rw[a_]at h1;subst h1;cases r1;rw[a_]at h2;obtain⟨aw,Ga,rfl,q2,_⟩:=h2;cases r2;obtain⟨uB,HP,pw,_⟩:=I.tuple q2;rw[show cJ (.non) (.tup j)=false by simp[cJ]];exact⟨.none_tuple pw hu,.none_tuple pw hu,.none_tuple pw hu⟩
 | .non,.lst j,x,y,u,v,hs,h1,h2,r1,r2=>by
  rw[a_]at h1;subst h1;cases r1;rw[a_]at h2;obtain⟨aw,Ga,rfl,q2,_⟩:=h2;cases r2;obtain⟨uB,HP,GV,_⟩:=I.list (aZ.of q2);have pw:=GV.isList
  rw[show cJ (.non) (.lst j)=false by simp[cJ]];exact⟨.none_list pw hu,.none_list pw hu,.none_list pw hu⟩
 | .bl i,.int j,x,y,u,v,hs,h1,h2,r1,r2=>by rw[a_]at h1;subst h1;cases r1;rw[a_]at h2;subst h2;obtain⟨w,rfl⟩:=r2;rw[cJ];exact⟨.bool_int i j w,.bool_int i j w,.bool_int i j w⟩
 | .bl i,.str j,x,y,u,v,hs,h1,h2,r1,r2=>by rw[a_]at h1;subst h1;cases r1;rw[a_]at h2;subst h2;obtain⟨w,rfl⟩:=r2;rw[show cJ (.bl i) (.str j)=false by simp[cJ]];exact⟨.bool_str i j w,.bool_str i j w,.bool_str i j w⟩
 | .bl i,.non,x,y,u,v,hs,h1,h2,r1,r2=>by rw[a_]at h1;subst h1;cases r1;rw[a_]at h2;subst h2;cases r2;rw[show cJ (.bl i) (.non)=false by simp[cJ]];exact⟨.bool_none i,.bool_none i,.bool_none i⟩
 | .bl i,.bl j,x,y,u,v,hs,h1,h2,r1,r2=>by rw[a_]at h1;subst h1;cases r1;rw[a_]at h2;subst h2;cases r2;rw[cJ];exact⟨.bool_bool i j,.bool_bool i j,.bool_bool i j⟩
 | .bl i,.tup j,x,y,u,v,hs,h1,h2,r1,r2=>by rw[a_]at h1;subst h1;cases r1;rw[a_]at h2;obtain⟨aw,Ga,rfl,q2,_⟩:=h2;cases r2;obtain⟨uB,HP,pw,_⟩:=I.tuple q2;rw[show cJ (.bl i) (.tup j)=false by simp[cJ]];exact⟨.bool_tuple i pw hu,.bool_tuple i pw hu,.bool_tuple i pw hu⟩
 | .bl i,.lst j,x,y,u,v,hs,h1,h2,r1,r2=>by
  rw[a_]at h1;subst h1;cases r1;rw[a_]at h2;obtain⟨aw,Ga,rfl,q2,_⟩:=h2;cases r2;obtain⟨uB,HP,GV,_⟩:=I.list (aZ.of q2);have pw:=GV.isList
  rw[show cJ (.bl i) (.lst j)=false by simp[cJ]];exact⟨.bool_list i pw hu,.bool_list i pw hu,.bool_list i pw hu⟩
 | .tup i,.int j,x,y,u,v,hs,h1,h2,r1,r2=>by rw[a_]at h1;obtain⟨Hr,FW,rfl,q1,_⟩:=h1;cases r1;obtain⟨sG,F9,pt,_⟩:=I.tuple q1;rw[a_]at h2;subst h2;obtain⟨w,rfl⟩:=r2;rw[show cJ (.tup i) (.int j)=false by simp[cJ]];exact⟨.tuple_int j w pt hu,.tuple_int j w pt hu,.tuple_int j w pt hu⟩
 | .tup i,.str j,x,y,u,v,hs,h1,h2,r1,r2=>by rw[a_]at h1;obtain⟨Hr,FW,rfl,q1,_⟩:=h1;cases r1;obtain⟨sG,F9,pt,_⟩:=I.tuple q1;rw[a_]at h2;subst h2;obtain⟨w,rfl⟩:=r2;rw[show cJ (.tup i) (.str j)=false by simp[cJ]];exact⟨.tuple_str j w pt hu,.tuple_str j w pt hu,.tuple_str j w pt hu⟩
 | .tup i,.non,x,y,u,v,hs,h1,h2,r1,r2=>by rw[a_]at h1;obtain⟨Hr,FW,rfl,q1,_⟩:=h1;cases r1;obtain⟨sG,F9,pt,_⟩:=I.tuple q1;rw[a_]at h2;subst h2;cases r2;rw[show cJ (.tup i) (.non)=false by simp[cJ]];exact⟨.tuple_none pt hu,.tuple_none pt hu,.tuple_none pt hu⟩
 | .tup i,.bl j,x,y,u,v,hs,h1,h2,r1,r2=>by rw[a_]at h1;obtain⟨Hr,FW,rfl,q1,_⟩:=h1;cases r1;obtain⟨sG,F9,pt,_⟩:=I.tuple q1;rw[a_]at h2;subst h2;cases r2;rw[show cJ (.tup i) (.bl j)=false by simp[cJ]];exact⟨.tuple_bool j pt hu,.tuple_bool j pt hu,.tuple_bool j pt hu⟩
 | .tup ds,.tup es,x,y,u,v,hs,h1,h2,r1,r2=>by cases hs
 | .tup i,.lst j,x,y,u,v,hs,h1,h2,r1,r2=>by
  rw[a_]at h1;obtain⟨Hr,FW,rfl,q1,_⟩:=h1;cases r1;obtain⟨sG,F9,pt,_⟩:=I.tuple q1;rw[a_]at h2;obtain⟨aw,Ga,rfl,q2,_⟩:=h2;cases r2;obtain⟨uB,HP,GV,_⟩:=I.list (aZ.of q2);have pw:=GV.isList
  rw[show cJ (.tup i) (.lst j)=false by simp[cJ]];exact⟨.tuple_list pt pw hu,.tuple_list pt pw hu,.tuple_list pt pw hu⟩
 | .lst i,.int j,x,y,u,v,hs,h1,h2,r1,r2=>by
  rw[a_]at h1;obtain⟨Hr,FW,rfl,q1,_⟩:=h1;cases r1;obtain⟨sG,F9,II,_⟩:=I.list (aZ.of q1);have pt:=II.isList
  rw[a_]at h2;subst h2;obtain⟨w,rfl⟩:=r2;rw[show cJ (.lst i) (.int j)=false by simp[cJ]];exact⟨.list_int j w pt hu,.list_int j w pt hu,.list_int j w pt hu⟩
 | .lst i,.str j,x,y,u,v,hs,h1,h2,r1,r2=>by
  rw[a_]at h1;obtain⟨Hr,FW,rfl,q1,_⟩:=h1;cases r1;obtain⟨sG,F9,II,_⟩:=I.list (aZ.of q1);have pt:=II.isList
  rw[a_]at h2;subst h2;obtain⟨w,rfl⟩:=r2;rw[show cJ (.lst i) (.str j)=false by simp[cJ]];exact⟨.list_str j w pt hu,.list_str j w pt hu,.list_str j w pt hu⟩
 | .lst i,.non,x,y,u,v,hs,h1,h2,r1,r2=>by
  rw[a_]at h1;obtain⟨Hr,FW,rfl,q1,_⟩:=h1;cases r1;obtain⟨sG,F9,II,_⟩:=I.list (aZ.of q1);have pt:=II.isList
  rw[a_]at h2;subst h2;cases r2;rw[show cJ (.lst i) (.non)=false by simp[cJ]];exact⟨.list_none pt hu,.list_none pt hu,.list_none pt hu⟩
 | .lst i,.bl j,x,y,u,v,hs,h1,h2,r1,r2=>by
  rw[a_]at h1;obtain⟨Hr,FW,rfl,q1,_⟩:=h1;cases r1;obtain⟨sG,F9,II,_⟩:=I.list (aZ.of q1);have pt:=II.isList
  rw[a_]at h2;subst h2;cases r2;rw[show cJ (.lst i) (.bl j)=false by simp[cJ]];exact⟨.list_bool j pt hu,.list_bool j pt hu,.list_bool j pt hu⟩
 | .lst i,.tup j,x,y,u,v,hs,h1,h2,r1,r2=>by
  rw[a_]at h1;obtain⟨Hr,FW,rfl,q1,_⟩:=h1;cases r1;obtain⟨sG,F9,II,_⟩:=I.list (aZ.of q1);have pt:=II.isList
  rw[a_]at h2;obtain⟨aw,Ga,rfl,q2,_⟩:=h2;cases r2;obtain⟨uB,HP,pw,_⟩:=I.tuple q2;rw[show cJ (.lst i) (.tup j)=false by simp[cJ]];exact⟨.list_tuple pt pw hu,.list_tuple pt pw hu,.list_tuple pt pw hu⟩
 | .lst ds,.lst es,x,y,u,v,hs,h1,h2,r1,r2=>by cases hs
theorem mZ(I:Inv X ac σ H s){a:Addr}{xs ys:List V}(h:aZ X.K H a xs)(h':aJ X.K H a ys):False:=by obtain⟨_,_,p,_⟩:=I.list h;obtain⟨_,_,p',_⟩:=I.tuple h';exact SeqAt.ne_of_list_tuple p.isList p' rfl
mutual
theorem a_.inj(I:Inv X ac σ H s):∀{d e:D}{v:V},a_ X.K H d v->a_ X.K H e v->d=e
 | .int i,.int j,v,h1,h2=>by rw[a_]at h1;rw[a_]at h2;subst h1;injection h2 with h2;rw[h2]
 | .int i,.str j,v,h1,h2=>by rw[a_]at h1;rw[a_]at h2;subst h1;cases h2
 | .int i,.non,v,h1,h2=>by rw[a_]at h1;rw[a_]at h2;subst h1;cases h2
 | .int i,.bl j,v,h1,h2=>by rw[a_]at h1;rw[a_]at h2;subst h1;cases h2
 | .int i,.tup j,v,h1,h2=>by rw[a_]at h1;rw[a_]at h2;obtain⟨a,vs,rfl,q,g⟩:=h2;cases h1
 | .int i,.lst j,v,h1,h2=>by rw[a_]at h1;rw[a_]at h2;obtain⟨a,vs,rfl,q,g⟩:=h2;cases h1
 | .str i,.int j,v,h1,h2=>by rw[a_]at h1;rw[a_]at h2;subst h1;cases h2
 | .str i,.str j,v,h1,h2=>by rw[a_]at h1;rw[a_]at h2;subst h1;injection h2 with h2;rw[h2]
 | .str i,.non,v,h1,h2=>by rw[a_]at h1;rw[a_]at h2;subst h1;cases h2
 | .str i,.bl j,v,h1,h2=>by rw[a_]at h1;rw[a_]at h2;subst h1;cases h2
 | .str i,.tup j,v,h1,h2=>by rw[a_]at h1;rw[a_]at h2;obtain⟨a,vs,rfl,q,g⟩:=h2;cases h1
 | .str i,.lst j,v,h1,h2=>by rw[a_]at h1;rw[a_]at h2;obtain⟨a,vs,rfl,q,g⟩:=h2;cases h1
 | .non,.int j,v,h1,h2=>by rw[a_]at h1;rw[a_]at h2;subst h1;cases h2
 | .non,.str j,v,h1,h2=>by rw[a_]at h1;rw[a_]at h2;subst h1;cases h2
 | .non,.non,v,h1,h2=>rfl
 | .non,.bl j,v,h1,h2=>by rw[a_]at h1;rw[a_]at h2;subst h1;cases h2
 | .non,.tup j,v,h1,h2=>by rw[a_]at h1;rw[a_]at h2;obtain⟨a,vs,rfl,q,g⟩:=h2;cases h1
 | .non,.lst j,v,h1,h2=>by rw[a_]at h1;rw[a_]at h2;obtain⟨a,vs,rfl,q,g⟩:=h2;cases h1
 | .bl i,.int j,v,h1,h2=>by rw[a_]at h1;rw[a_]at h2;subst h1;cases h2
 | .bl i,.str j,v,h1,h2=>by rw[a_]at h1;rw[a_]at h2;subst h1;cases h2
 | .bl i,.non,v,h1,h2=>by rw[a_]at h1;rw[a_]at h2;subst h1;cases h2
 | .bl i,.bl j,v,h1,h2=>by rw[a_]at h1;rw[a_]at h2;subst h1;injection h2 with h2;rw[h2]
 | .bl i,.tup j,v,h1,h2=>by rw[a_]at h1;rw[a_]at h2;obtain⟨a,vs,rfl,q,g⟩:=h2;cases h1
 | .bl i,.lst j,v,h1,h2=>by rw[a_]at h1;rw[a_]at h2;obtain⟨a,vs,rfl,q,g⟩:=h2;cases h1
 | .tup i,.int j,v,h1,h2=>by rw[a_]at h1;rw[a_]at h2;obtain⟨a,vs,rfl,q,g⟩:=h1;cases h2
 | .tup i,.str j,v,h1,h2=>by rw[a_]at h1;rw[a_]at h2;obtain⟨a,vs,rfl,q,g⟩:=h1;cases h2
 | .tup i,.non,v,h1,h2=>by rw[a_]at h1;rw[a_]at h2;obtain⟨a,vs,rfl,q,g⟩:=h1;cases h2
 | .tup i,.bl j,v,h1,h2=>by rw[a_]at h1;rw[a_]at h2;obtain⟨a,vs,rfl,q,g⟩:=h1;cases h2
 | .tup i,.tup j,v,h1,h2=>by rw[a_]at h1;rw[a_]at h2;obtain⟨a,vs,rfl,q,g⟩:=h1;obtain⟨b,ws,e,q',g'⟩:=h2;cases e;rw[I.iB q' q]at g';rw[bL.inj I g g']
 | .tup i,.lst j,v,h1,h2=>by rw[a_]at h1;rw[a_]at h2;obtain⟨a,vs,rfl,q,g⟩:=h1;obtain⟨b,ws,e,q',g'⟩:=h2;cases e;exact(mZ I (aZ.of q') q).elim
 | .lst i,.int j,v,h1,h2=>by rw[a_]at h1;rw[a_]at h2;obtain⟨a,vs,rfl,q,g⟩:=h1;cases h2
 | .lst i,.str j,v,h1,h2=>by rw[a_]at h1;rw[a_]at h2;obtain⟨a,vs,rfl,q,g⟩:=h1;cases h2
 | .lst i,.non,v,h1,h2=>by rw[a_]at h1;rw[a_]at h2;obtain⟨a,vs,rfl,q,g⟩:=h1;cases h2
 | .lst i,.bl j,v,h1,h2=>by rw[a_]at h1;rw[a_]at h2;obtain⟨a,vs,rfl,q,g⟩:=h1;cases h2
 | .lst i,.tup j,v,h1,h2=>by rw[a_]at h1;rw[a_]at h2;obtain⟨a,vs,rfl,q,g⟩:=h1;obtain⟨b,ws,e,q',g'⟩:=h2;cases e;exact(mZ I (aZ.of q) q').elim
 | .lst i,.lst j,v,h1,h2=>by rw[a_]at h1;rw[a_]at h2;obtain⟨a,vs,rfl,q,g⟩:=h1;obtain⟨b,ws,e,q',g'⟩:=h2;cases e;rw[q]at q';cases q';rw[bL.inj I g g']
theorem bL.inj(I:Inv X ac σ H s):∀{ds es:List D}{vs:List V},bL X.K H ds vs->bL X.K H es vs->ds=es
 |[],[],vs,h1,h2=>rfl
 |[],e::es,vs,h1,h2=>by rw[bL]at h1;rw[bL]at h2;obtain⟨v,r,rfl,_⟩:=h2;cases h1
 |d::ds,[],vs,h1,h2=>by rw[bL]at h1;rw[bL]at h2;obtain⟨v,r,rfl,_⟩:=h1;cases h2
 |d::ds,e::es,vs,h1,h2=>by rw[bL]at h1;rw[bL]at h2;obtain⟨v,r,rfl,a1,a2⟩:=h1;obtain⟨v',r',z,b1,b2⟩:=h2;injection z with z1 z2;rw[←z1]at b1;rw[←z2]at b2;rw[a_.inj I a1 b1,bL.inj I a2 b2]
end
theorem xy(I:Inv X ac σ H s):∀(n:Nat){A:Around}{d e:D}{x y:V}{u v:Value},d.depth<=n->A.units+n<cLine->a_ X.K H d x->a_ X.K H e y->RelV x u->RelV y v->both A s u v (cJ d e):=by
 intro n;induction n with
 |zero =>intro A d e x y u v hd hu h1 h2 r1 r2;refine pX I (by omega) ?_ h1 h2 r1 r2;cases d<;>cases e<;>first|rfl | (rw[D.depth]at hd;omega)
 |succ n ih =>
  intro A d e x y u v hd hu h1 h2 r1 r2;cases hs:seqs d e with
  |false=>exact pX I (by omega) hs h1 h2 r1 r2
  |true =>
   have items:∀{ds es:List D}{vs ws:List V}{its its':Z6},1+cE ds<=n+1->bL X.K H ds vs->bL X.K H es ws->Vals vs its->Vals ws its'->∀j (h1:j<its.toArray.size) (h2:j<its'.toArray.size),SeqAt.EqAt A.in1 s its.toArray[j] its'.toArray[j] (cJ (ds.getD j .non) (es.getD j .non)):=by intro ds es vs ws its its' hdd g g' rv vg j j1 j2;obtain⟨x,e1,rx⟩:=oh rv j1;obtain⟨y,e2,ry⟩:=oh vg j2;obtain⟨d,ed,gd⟩:=g.get e1;obtain⟨e,ee,ge⟩:=g'.get e2;rw[l6 ed,l6 ee];have:=kK ed;exact(ih (by omega) (by show A.units+1+n<cLine;omega) gd ge rx ry).1
   cases d<;>cases e<;>first|cases hs|skip
   ·rename_i ds es;rw[D.depth]at hd;have g1:=h1;have g2:=h2;rw[a_]at h1;rw[a_]at h2;obtain⟨a,vs,rfl,q,g⟩:=h1;obtain⟨b,ws,rfl,q',g'⟩:=h2;cases r1;cases r2;obtain⟨its,rv,p,_⟩:=I.tuple q;obtain⟨its',vg,p',_⟩:=I.tuple q';have l1:its.toArray.size=ds.length:=by simp[←rv.length,g.length]
    have l2:its'.toArray.size=es.length:=by simp[←vg.length,g'.length]
    have z1:=SeqAt.RcAt.tuples p p' (by omega) (items hd g g' rv vg);have z2:=SeqAt.RcNeAt.tuples p p' (by omega) (items hd g g' rv vg);rw[l1,l2,DL]at z1 z2;rw[cJ];refine⟨?_,z1,z2⟩;by_cases hab:a=b
    ·subst hab;have e:=a_.inj I g1 g2;injection e with e;rw[e,ix];exact .same _
    ·exact .of_refs hab z1
   ·rename_i ds es;rw[D.depth]at hd;have g1:=h1;have g2:=h2;rw[a_]at h1;rw[a_]at h2;obtain⟨a,vs,rfl,q,g⟩:=h1;obtain⟨b,ws,rfl,q',g'⟩:=h2;cases r1;cases r2;obtain⟨its,rv,p,_⟩:=I.list (aZ.of q);obtain⟨its',vg,p',_⟩:=I.list (aZ.of q');have l1:its.toArray.size=ds.length:=by simp[←rv.length,g.length]
    have l2:its'.toArray.size=es.length:=by simp[←vg.length,g'.length]
    have zz:SeqAt.RcAt A s (.ref a) (.ref b) (fU ds es)/\SeqAt.RcNeAt A s (.ref a) (.ref b) (!fU ds es):=by
     by_cases hl:ds.length=es.length
     ·have z1:=SeqAt.RcAt.lists p.isList p'.isList (by rw[l1,l2,hl]) (by omega) (items hd g g' rv vg);have z2:=SeqAt.RcNeAt.lists p.isList p'.isList (by rw[l1,l2,hl]) (by omega) (items hd g g' rv vg);rw[l1,pL hl]at z1 z2;exact⟨z1,z2⟩
     ·rw[pM hl];exact⟨SeqAt.RcAt.lists_lengths p.isList p'.isList (by rw[l1,l2];simpa using hl) (by omega),SeqAt.RcNeAt.lists_lengths p.isList p'.isList (by rw[l1,l2];simpa using hl) (by omega)⟩
    rw[cJ];refine⟨?_,zz.1,zz.2⟩;by_cases hab:a=b
    ·subst hab;have e:=a_.inj I g1 g2;injection e with e;rw[e,ix];exact .same _
    ·exact .of_refs hab zz.1
def Rp(K:XO)(A:Around):R2:=λx y H Q=>∃d e,a_ K H d x/\a_ K H e y/\A.units+d.depth<cLine/\Q (.bl (cJ d e)) H
def Qu(K:XO)(A:Around):R2:=λx y H Q=>∃d e,a_ K H d x/\a_ K H e y/\A.units+d.depth<cLine/\Q (.bl (!cJ d e)) H
theorem CB:jk X (compareOp .Eq) (Rp X.K X.A):=by intro ac s σ H x y v u Q I rx ry h;obtain⟨d,e,h1,h2,hu,q⟩:=h;exact(xy I d.depth (WR _) hu h1 h2 rx ry).2.1 _ _ _ _ ⟨.bl _,H,I,rfl,q⟩
theorem ma:jk X (compareOp .NotEq) (Qu X.K X.A):=by intro ac s σ H x y v u Q I rx ry h;obtain⟨d,e,h1,h2,hu,q⟩:=h;exact(xy I d.depth (WR _) hu h1 h2 rx ry).2.2 _ _ _ _ ⟨.bl _,H,I,rfl,q⟩
def Im(d:D)(es:List D):Bool:=es.any λe=>cJ e d
def Q8(K:XO)(A:Around)(neg:Bool):R2:=λx y H Q=>∃d es p xs,y=.ref p/\(aZ K H p xs\/aJ K H p xs)/\a_ K H d x/\bL K H es xs/\A.units+1+cE es<cLine/\Q (.bl (if neg then !Im d es else Im d es)) H
theorem zc{α:Type}{f:α->Bool}:∀{l:List α},l.any f=(List.range l.length).any λj=>(l[j]?.map f).getD false
 |[]=>rfl
 |a::l=>by rw[XJ,Xp,List.range_succ_eq_map,XJ,List.any_map,@zc _ f l];rfl
open Classical in
noncomputable def BG (its:Z6) (es:List D) (d:D) (y:Value):Bool:=decide (∃j,its[j]? = some y/\cJ (es.getD j .non) d=true)
theorem CU(I:Inv X ac σ H s){its:Z6}{es:List D}{xs:List V}{d:D}(g:bL X.K H es xs)(r:Vals xs its){j:Nat}{y:Value}(h:its[j]? = some y):BG its es d y=cJ (es.getD j .non) d:=by
 have at':∀{j:Nat},its[j]? = some y->∃e v,es.getD j .non=e/\RelV v y/\a_ X.K H e v:=λ{j} h=>by
  have hj:j<its.toArray.size:=by have:=(W8.mp h).1;simpa using this
  obtain⟨v,e1,rv⟩:=oh r hj;obtain⟨e,ee,ge⟩:=g.get e1;have:its.toArray[j]=y:=by have:=(W8.mp h).2;simpa using this
  rw[this]at rv;exact⟨e,v,l6 ee,rv,ge⟩
 obtain⟨e,v,q1,q2,q3⟩:=at' h;unfold BG;cases q:cJ (es.getD j .non) d with
 |true=>exact @WU _ (Classical.propDecidable _) ⟨j,h,q⟩
 |false =>refine @WT _ (Classical.propDecidable _) ?_;rintro⟨j',h',z⟩;obtain⟨e',v',p1,p2,p3⟩:=at' h';have:=RelV.inj p2 q2;subst this;have:=a_.inj I p3 q3;rw[p1,this,←q1,q]at z;cases z
theorem Ag(I:Inv X ac σ H s){its:Z6}{es:List D}{xs:List V}{d:D}(g:bL X.K H es xs)(r:Vals xs its):its.any (BG its es d)=Im d es:=by
 have hl:its.length=es.length:=by rw[←r.length,g.length]
 unfold Im;rw[@zc _ (BG its es d),@zc _ (λe=>cJ e d),hl];have key:∀j∈List.range es.length,((its[j]?.map (BG its es d)).getD false)=((es[j]?.map λe=>cJ e d).getD false):=λj hj=>by have hj':=List.mem_range.mp hj;have e1:its[j]? = some its[j]:=W0 (by omega);have e2:es[j]? = some es[j]:=W0 hj';rw[e1,e2];show BG its es d its[j]=cJ es[j] d;rw[CU I g r e1,l6 e2]
 generalize List.range es.length=l at key;induction l with
 |nil=>rfl
 |cons a l ih=>rw[XJ,XJ,key a (Xo ..),ih λj hj=>key j (W5 _ hj)]
theorem vd(I:Inv X ac σ H s){A:Around}{its:Z6}{es:List D}{xs:List V}{d:D}{x:V}{u:Value}(g:bL X.K H es xs)(r:Vals xs its)(h:a_ X.K H d x)(rx:RelV x u)(hu:A.units+1+cE es<cLine):∀y∈its.toArray,SeqAt.EqAt A.in1 s y u (BG its es d y):=λy hy=>by
 have hy':y∈its:=by simpa using hy
 obtain⟨j,hj,e⟩:=List.getElem_of_mem hy';have e1:its[j]? = some y:=by rw[W0 hj,e]
 rw[CU I g r e1];obtain⟨v,e2,rv⟩:=oh r (j:=j) (by simpa using hj);obtain⟨e',e3,ge⟩:=g.get e2;have:its.toArray[j]'(by simpa using hj)=y:=by simpa using e
 rw[this]at rv;rw[l6 e3];have:=kK e3;exact(xy I e'.depth (WR _) (by show A.units+1+e'.depth<cLine;omega) ge h rv rx).1
theorem r8:jk X (compareOp .NotIn) (Q8 X.K X.A true):=by
 intro ac s σ H x y v u Q I rx ry h;obtain⟨d,es,p,xs,rfl,hq,h1,g,hu,q⟩:=h;cases ry;rcases hq with hq|hq
 ·obtain⟨its,r,pl,hz⟩:=I.list hq;refine SeqAt.notIn_listAt (BG its es d) pl.isList (vd I g r h1 rx hu) ⟨.bl _,H,I,rfl,?_⟩;rw[show its.toArray.any (BG its es d)=its.any (BG its es d) by simp,Ag I g r];exact q
 ·obtain⟨its,r,pl,hz⟩:=I.tuple hq;refine SeqAt.notIn_tupleAt (BG its es d) pl (vd I g r h1 rx hu) ⟨.bl _,H,I,rfl,?_⟩;rw[show its.toArray.any (BG its es d)=its.any (BG its es d) by simp,Ag I g r];exact q
end
section
variable{K:XO}{H H':Hp}{a:Addr}
theorem aM.Rx{xs:List V}(e:aM H H')(h:aJ K H a xs):aJ K H' a xs:=by
 rcases h with h|h
 ·rcases h with h|⟨o,h⟩
  ·exact .inl (.inl (e _ _ h))
  ·exact .inl (.inr ⟨o,e _ _ h⟩)
 ·exact .inr h
theorem a_.same(s:aM H H'){d:D}{v:V}(h:a_ K H d v):a_ K H' d v:=h.mono (λ_ _ q=>s.Rx q) (λ_ _ q=>s _ _ q)
theorem Hv:a_ K H .non .non:=by rw[a_]
theorem Au(x:Int):a_ K H (.int x) (.int x):=by rw[a_]
theorem gW(x:Str):a_ K H (.str x) (.str x):=by rw[a_]
theorem xx(x:Bool):a_ K H (.bl x) (.bl x):=by rw[a_]
theorem lV{vs:List V}{ds:List D}(h:H a=some (.tup vs))(g:bL K H ds vs):a_ K H (.tup ds) (.ref a):=by rw[a_];exact⟨a,vs,rfl,aJ.of h,g⟩
theorem lJ{vs:List V}{ds:List D}(h:H a=some (.lst vs))(g:bL K H ds vs):a_ K H (.lst ds) (.ref a):=by rw[a_];exact⟨a,vs,rfl,h,g⟩
end
def Fi(xs:Array Nat):Prop:=xs.toList.Pairwise (· < ·)
theorem Fi.lt{xs:Array Nat}(h:Fi xs){i j a b:Nat}(hij:i<j)(ha:xs[i]? = some a)(hb:xs[j]? = some b):a<b:=by rw[←Array.getElem?_toList]at ha hb;obtain⟨h1,e1⟩:=W8.mp ha;obtain⟨h2,e2⟩:=W8.mp hb;rw[←e1,←e2];exact List.pairwise_iff_getElem.mp h i j h1 h2 hij
theorem pI{xs:Array Nat}(h:Fi xs)(j:Nat):∀(fuel lo hi:Nat),hi<=xs.size->lo<=hi->hi-lo<=fuel->(∀i a,i<lo->xs[i]? = some a->a<j)->(∀i a,hi<=i->xs[i]? = some a->j<=a)->
  SetTable.below.go xs j fuel lo hi<=xs.size/\(∀i a,i<SetTable.below.go xs j fuel lo hi->xs[i]? = some a->a<j)/\∀i a,SetTable.below.go xs j fuel lo hi<=i->xs[i]? = some a->j<=a
 | 0,lo,hi,h1,h2,h3,h4,h5=>by
  have e:lo=hi:=by omega
  subst e;exact⟨h1,h4,h5⟩
 |fuel+1,lo,hi,h1,h2,h3,h4,h5=>by
  unfold SetTable.below.go;by_cases hlt:lo<hi
  ·rw[Xu hlt];have hm:(lo+hi) / 2<xs.size:=by omega
   have eg:xs[(lo+hi) / 2]? = some xs[(lo+hi) / 2]:=Xk hm;have ed:xs.getD ((lo+hi) / 2) j=xs[(lo+hi) / 2]:=by simp[Array.getD,hm]
   dsimp only;rw[ed];by_cases hc:xs[(lo+hi) / 2]<j
   ·rw[Xu hc];refine pI h j fuel _ hi h1 (by omega) (by omega) (λi a hi' e=>?_) h5;by_cases q:i=(lo+hi) / 2
    ·subst q;rw[eg]at e;cases e;exact hc
    ·exact Nat.lt_trans (h.lt (by omega) e eg) hc
   ·rw[Xt hc];refine pI h j fuel lo _ (by omega) (by omega) (by omega) h4 λi a hi' e=>?_;by_cases q:i=(lo+hi) / 2
    ·subst q;rw[eg]at e;cases e;omega
    ·have:=h.lt (show(lo+hi) / 2<i by omega) eg e;omega
  ·rw[Xt hlt];have e:lo=hi:=by omega
   subst e;exact⟨h1,h4,h5⟩
theorem ll{xs:Array Nat}(h:Fi xs)(j:Nat):SetTable.below xs j<=xs.size/\(∀i a,i<SetTable.below xs j->xs[i]? = some a->a<j)/\∀i a,SetTable.below xs j<=i->xs[i]? = some a->j<=a :=
 pI h j xs.size 0 xs.size (WR _) (Xe _) (by omega) (λi a hi=>Xs hi (by omega)) λi a hi e=>by rw[Array.getElem?_eq_none hi]at e;cases e
theorem yO{xs:Array Nat}(h:Fi xs){j:Nat}(hn:xs[SetTable.below xs j]?≠some j):Fi (SetTable.insertAt xs (SetTable.below xs j) j):=by
 obtain⟨h1,h2,h3⟩:=ll h j;unfold Fi;rw[SetTable.toList_insertAt];have hl:∀a∈xs.toList.take (SetTable.below xs j),a<j:=λa ha=>by
  obtain⟨i,hi⟩:=List.mem_iff_getElem?.mp ha;rw[List.getElem?_take]at hi;split at hi
  ·rename_i hlt;exact h2 i a hlt (by rw[←Array.getElem?_toList];exact hi)
  ·cases hi
 have hr:∀a∈xs.toList.drop (SetTable.below xs j),j<a:=λa ha=>by
  obtain⟨i,hi⟩:=List.mem_iff_getElem?.mp ha;rw[List.getElem?_drop,Array.getElem?_toList]at hi;have q:=h3 _ a (Nat.le_add_right _ i) hi;rcases Nat.lt_or_eq_of_le q with q|q
  ·exact q
  ·exfalso;subst q;cases i with
   |zero=>exact hn hi
   |succ i =>
    have hb:SetTable.below xs j<xs.size:=by have:=(Array.getElem?_eq_some_iff.mp hi).1;omega
    have e0:xs[SetTable.below xs j]? = some xs[SetTable.below xs j]:=Xk hb;have l1:=h3 _ _ (WR _) e0;have l2:=h.lt (show SetTable.below xs j<SetTable.below xs j+(i+1) by omega) e0 hi;omega
 have hp:(xs.toList.take (SetTable.below xs j)++xs.toList.drop (SetTable.below xs j)).Pairwise (· < ·):=by rw[List.take_append_drop];exact h
 rw[List.pairwise_append]at hp;first
 | (rw[List.pairwise_append]
    refine⟨hp.1,?_,λa ha b hb=>?_⟩
    ·exact List.pairwise_cons.mpr ⟨hr,hp.2.1⟩
    ·rcases Xa.mp hb with e|hb
     ·subst e;exact hl a ha
     ·exact hp.2.2 a ha b hb)
 |skip
structure TabOk(t:SetTable)(b:Bool):Prop where
 RE:Fi t.place
 PN:t.dummies = #[]
 led:t.led=b
theorem zw(j:Nat):SetTable.has #[] j=false:=by simp[SetTable.has]
theorem m5{t:SetTable}(hd:t.dummies = #[]){f:Nat->Int}{h:Int}(hf:∀i,(f i==h)=false):∀(fuel:Nat)(p:SetTable.Probe)(j:Nat)(d:Option Nat),p.dummy=none->SetTable.probe.go t f h fuel p=some (.empty j d)->
  d=none/\t.slot j=.empty
 | 0,p,j,d,_,e=>by unfold SetTable.probe.go at e;cases e
 |fuel+1,p,j,d,hp,e=>by
  have VC:∀p:SetTable.Probe,p.dummy=none->(t.advance p).dummy=none:=λp hp=>by
   unfold SetTable.advance;split
   ·exact hp
   ·exact hp
  unfold SetTable.probe.go at e;split at e
  ·rename_i hs;cases e;exact⟨hp,hs⟩
  ·rename_i hs;unfold SetTable.slot at hs;dsimp only at hs;rw[hd,zw]at hs;split at hs<;>cases hs
  ·rename_i i hs;rw[hf i]at e;exact m5 hd hf fuel _ j d (VC p hp) e
theorem ye{t:SetTable}{j:Nat}(h:t.slot j=.empty):t.place[SetTable.below t.place j]?≠some j:=λe=>by unfold SetTable.slot at h;dsimp only at h;rw[e]at h;rw[Xu (by simp)]at h;cases h
theorem BL(n:Nat):Fi (Array.range n):=by unfold Fi;rw[Array.toList_range];exact List.pairwise_lt_range
theorem iP{t:SetTable}{b:Bool}(h:TabOk t b)(n:Nat):TabOk (t.standIn n) b:=⟨BL n,rfl,h.led⟩
theorem A3{t:SetTable}{b:Bool}(ok:TabOk t b)(es:Z3)(h:Int)(x:Value):TabOk (layNew t es h x).2.1 b:=by
 unfold layNew;split
 ·rename_i slot wd e;have hs:t.slot slot=.empty:=by
   unfold SetTable.freeSlot at e;split at e
   ·rename_i j d e2;unfold SetTable.probe at e2;obtain⟨q1,q2⟩:=m5 ok.PN (λ_=>by simp;omega) _ _ _ _ rfl e2;subst q1;cases e;exact q2
   ·cases e
  have o2:TabOk (t.put slot).1 b:=by unfold SetTable.put;refine⟨yO ok.RE (ye hs),?_,ok.led⟩;show(if SetTable.has t.dummies slot=true then _ else t.dummies) = #[];rw[ok.PN,zw];rfl
  dsimp only;unfold SetTable.orStandIn;split
  ·exact o2
  ·exact iP o2 _
 ·exact iP ok _
theorem qM{α:Type}(f:Nat->Option α)(n:Nat):(((List.range n).filterMap λj=>(f j).map (j,·)).map (·.1)).Pairwise (· < ·):=by
 have e:(((List.range n).filterMap λj=>(f j).map (j,·)).map (·.1))=(List.range n).filter λj=>(f j).isSome:=by rw[List.map_filterMap,←List.filterMap_eq_filter];congr 1;funext j;cases hf:f j<;>simp[Option.guard,hf]
 rw[e];exact List.Pairwise.filter _ List.pairwise_lt_range
theorem wL{t:SetTable}{b:Bool}(ok:TabOk t b)(es:Z3)(n:Nat):TabOk (relayAll t es n).2.1 b:=by
 unfold relayAll;split
 ·rename_i t' order e;have o2:TabOk t' b:=by unfold SetTable.relaid SetTable.laid at e;simp only[bind,Option.bind_eq_some_iff]at e;obtain⟨owner,_,e⟩:=e;cases e;exact⟨qM _ _,rfl,ok.led⟩
  dsimp only;split
  ·exact o2
  ·exact iP ok _
 ·exact iP ok _
section
variable{prog:Program}{w:World}{A:Around}{E:Z0}{s:Shared}
def cp(w:World):Bool:=w.params.followText "set-order"
def B9:Value->Key
 | .int i _=>.inl i
 | .str x _=>.inr x
 |_=>.inl 0
theorem yt{k:Key}{v:Value}(h:gx k v=true):B9 v=k:=by rcases bH h with⟨i,t,rfl,rfl⟩|⟨x,t,rfl,rfl⟩<;>rfl
structure fH(prog:Program)(w:World)(h:Heap)(a:Addr)(ks:List Key)(es:Z3)(ep:Nat)(t:SetTable):Prop where
 obj:h.get? a=some {cls:=.type "set",dict:=none,data:=.set es ep t,slots:=#[]}
 els:ElemsOf (bD prog w) es.toList
 few:es.size<scanBound
 fits:t.fits es.size=true
 tab:TabOk t (!cp w)
 O_:ks.Nodup
 keys:(es.toList.map λe=>B9 e.2).Perm ks
theorem fH.keep{h h':Heap}{a:Addr}{ks:List Key}{es:Z3}{ep:Nat}{t:SetTable}(r:fH prog w h a ks es ep t)(k:∀o,h.get? a=some o->h'.get? a=some o):fH prog w h' a ks es ep t :=
 ⟨k _ r.obj,r.els,r.few,r.fits,r.tab,r.O_,r.keys⟩
theorem fH.mem{h:Heap}{a:Addr}{ks:List Key}{es:Z3}{ep:Nat}{t:SetTable}(r:fH prog w h a ks es ep t){k:Key}:(∃e∈es.toList,(bD prog w).is k e.2=true)↔k∈ks:=by
 constructor
 ·rintro⟨e,he,hk⟩;refine r.keys.mem_iff.mp (W_.mpr ⟨e,he,yt hk⟩)
 ·intro hk;obtain⟨e,he,q⟩:=W_.mp (r.keys.mem_iff.mpr hk);obtain⟨⟨k',hk',_⟩,_⟩:=r.els e he;refine⟨e,he,?_⟩;have:B9 e.2=k':=yt hk';rw[←q,this];exact hk'
open Classical in
noncomputable def l5 (ks:List Key) (k:Key):List Key:=if k∈ks then ks else ks++[k]
theorem zv{h:Heap}{a:Addr}{es:Z3}{ep:Nat}{t:SetTable}(ho:h.get? a=some {cls:=.type "set",dict:=none,data:=.set es ep t,slots:=#[]})(es':Z3)(t':SetTable) :
  (h.update a (Obj.putSet es' t')).get? a=some {cls:=.type "set",dict:=none,data:=.set es' (ep+1) t',slots:=#[]}:=by
 have:=Heap.get?_update_self (Obj.putSet es' t') ho (by rw[putSet_of es' t' rfl];rfl);rw[putSet_of es' t' rfl]at this;exact this
theorem vE{g:Bool->Sem Unit}(hg:∀(b:Bool)(s₁:Shared)(Q':Z4),Q' () s₁->wpAny (model prog w) A (g b) Q' E s₁)
  {a:Addr} {es:Z3} {ep:Nat} {t:SetTable} (ho:s.heap.get? a=some {cls:=.type "set",dict:=none,data:=.set es ep t,slots:=#[]})
  {es1:Z3} {t2:SetTable} {ks:List Key} (he:ElemsOf (bD prog w) es1.toList) (hb:es1.size<scanBound) (hf:t2.fits es1.size=true) (ht:TabOk t2 (!cp w)) (hn:ks.Nodup) (hk:(es1.toList.map λe=>B9 e.2).Perm ks)
  {wasDummy:Bool} {R:Option Bool->Shared->Prop}
  (h:∀h' es' ep' t',Heap.SameBut a s.heap h'->fH prog w h' a ks es' ep' t'->R (some true) {s with heap:=h'}) :
  wpAny (model prog w) A (do
    storeSet a es1 t2
    if(!wasDummy&&t2.tooFull)=true then do
      g (relayAll t2 es1 (SetTable.grown es1.size)).2.2
      storeSet a (relayAll t2 es1 (SetTable.grown es1.size)).1 (relayAll t2 es1 (SetTable.grown es1.size)).2.1
      pure (some true)
     else pure (some true)) R E s:=by
 refine WL (wpAny_storeSet_of ho rfl ?_ (fits_of_scanBound hb));have ho1:=zv ho es1 t2;have S3:=Heap.SameBut.update s.heap a (Obj.putSet es1 t2);split
 ·have hp:=relayAll_perm t2 es1 (SetTable.grown es1.size);have hfr:=relayAll_fits t2 es1 (SetTable.grown es1.size);have hto:=wL ht es1 (SetTable.grown es1.size);generalize hRl:relayAll t2 es1 (SetTable.grown es1.size)=Rl at hp hfr hto⊢;obtain⟨es2,t3,gave2⟩:=Rl;dsimp only at hp hfr hto⊢;have hsz:es2.size=es1.size:=by rw[←XI,hp.length_eq,XI]
  have hb2:es2.size<scanBound:=by rw[hsz];exact hb
  refine WL (hg _ _ _ ?_);refine WL (wpAny_storeSet_of ho1 rfl ?_ (fits_of_scanBound hb2));exact WM (h _ es2 _ t3 (S3.trans (Heap.SameBut.update _ a _)) ⟨zv ho1 es2 t3,he.perm hp,hb2,hfr,hto,hn,(hp.map _).trans hk⟩)
 ·exact WM (h _ es1 _ t2 S3 ⟨ho1,he,hb,hf,ht,hn,hk⟩)
theorem yL{a:Addr}{ks:List Key}{es:Z3}{ep:Nat}{t:SetTable}{k:Key}{x:Value}{Q:Bool->Shared->Prop}(hkey:gx k x=true)(hsc:x.scannable=true)(hS:fH prog w s.heap a ks es ep t)
  (hroom:ks.length+1<scanBound)
  (h:∀b h' es' ep' t',Heap.SameBut a s.heap h'->fH prog w h' a (l5 ks k) es' ep' t'->Q b {s with heap:=h'}) :
  wpAny (model prog w) A (setAddHashed a x ((bD prog w).hash k)) Q E s:=by
 have Nh:es.size=ks.length:=by rw[←hS.keys.length_eq,WV,XI]
 have hkey':(bD prog w).is k x=true:=hkey;have hel:=hS.els;unfold setAddHashed setAddHashedIn;refine Xm (WL (wpAny_setState_of hS.obj rfl hS.fits ?_));dsimp only;rw[byScan_of hsc hS.few hel];simp only[↓reduceIte];unfold setAddByScan;refine WL ?_;refine WL (wpAny_rule ?_);refine WL (wpAny_setScan_of hkey' hS.obj rfl hS.fits hel ?_);cases hr:List.findIdx? (λe=>(bD prog w).is k e.2) es.toList with
 |some j =>
  dsimp only;obtain⟨hj,hpj,_⟩:=List.findIdx?_eq_some_iff_getElem.mp hr;have hin:k∈ks:=hS.mem.mp ⟨es.toList[j],List.getElem_mem hj,hpj⟩;refine WM (WM ?_);have e:s ={s with heap:=s.heap}:=by cases s;rfl
  have:=h false s.heap es ep t (Heap.SameBut.refl a s.heap) (by unfold l5;rw[Xu hin];exact hS);rw[e];exact this
 |none =>
  dsimp only;have hout:k∉ks:=λhin=>by obtain⟨e,he,hp⟩:=hS.mem.mpr hin;have:=List.findIdx?_eq_none_iff.mp hr e he;rw[hp]at this;exact Bool.noConfusion this
  have hgw:∀(b:Bool){s₁:Shared}{Q':Z4},Q' () s₁->wpAny (model prog w) A (match b with|true=>rule "set.scan.the-table-gave-way"|false=>pure ()) Q' E s₁ :=
   λb s₁ Q' hq=>by cases b<;>first|exact WM hq|exact wpAny_rule hq
  have hperm:=layNew_perm t es ((bD prog w).hash k) x;have hfits:=layNew_fits t es ((bD prog w).hash k) x;have htab:=A3 hS.tab es ((bD prog w).hash k) x;generalize hL:layNew t es ((bD prog w).hash k) x=L at hperm hfits htab⊢;obtain⟨es1,t1,wasDummy,gave⟩:=L;dsimp only at hperm hfits htab⊢;rw[Array.toList_push]at hperm;have hel1:ElemsOf (bD prog w) es1.toList:=(hel.push hkey' hsc).perm hperm;have hb1':es1.size<scanBound:=by rw[←XI,hperm.length_eq,WW,XI,Nh];simpa using hroom
  have Sd:l5 ks k=ks++[k]:=by unfold l5;rw[Xt hout]
  have BD:(l5 ks k).Nodup:=by rw[Sd,List.nodup_append];exact⟨hS.O_,by simp,λx hx y hy e=>by simp at hy;subst hy;subst e;exact hout hx⟩
  have hkeys:(es1.toList.map λe=>B9 e.2).Perm (l5 ks k):=by rw[Sd];refine(hperm.map _).trans ?_;rw[WX];refine hS.keys.append ?_;show [B9 x].Perm [k];rw[yt hkey]
  refine WL (hgw _ ?_);split
  ·refine WL ?_;rw[hashByValue_scannable 8 hsc];refine WM ?_;refine vE (ks:=l5 ks k) ?_ hS.obj hel1 hb1' ?_ ?_ BD hkeys ?_
   ·intro b s₁ Q' hq;cases b<;>first|exact WM hq|exact wpAny_rule hq
   ·split
    ·exact hfits
    ·exact SetTable.fits_plain_off hfits
   ·split
    ·exact htab
    ·exact⟨htab.RE,htab.PN,htab.led⟩
   ·intro h' es' ep' t' hsb hS';dsimp only;exact WM (h true h' es' ep' t' hsb hS')
  ·refine WL (WM ?_);simp only[↓reduceIte];refine vE (ks:=l5 ks k) ?_ hS.obj hel1 hb1' hfits htab BD hkeys ?_
   ·intro b s₁ Q' hq;cases b<;>first|exact WM hq|exact wpAny_rule hq
   ·intro h' es' ep' t' hsb hS';dsimp only;exact WM (h true h' es' ep' t' hsb hS')
noncomputable def lb (key:Nat->Key):Nat->List Key
 | 0=>[]
 |i+1=>l5 (lb key i) (key i)
theorem CQ(ks:List Key)(k:Key):(l5 ks k).length<=ks.length+1:=by
 unfold l5;split
 ·omega
 ·simp
theorem pA(key:Nat->Key):∀i,(lb key i).length<=i
 | 0=>WR _
 |i+1=>WS (CQ _ _) (Nat.succ_le_succ (pA key i))
theorem Df{ks:List Key}{k x:Key}:x∈l5 ks k↔x∈ks\/x=k:=by
 unfold l5;split
 ·rename_i h;exact⟨.inl,λq=>q.elim id λe=>e▸h⟩
 ·simp
theorem wO{key:Nat->Key}{x:Key}:∀{i:Nat},x∈lb key i↔∃j,j<i/\key j=x
 | 0=>by simp[lb]
 |i+1=>by
  show x∈l5 (lb key i) (key i)↔_;rw[Df,wO];constructor
  ·rintro(⟨j,hj,e⟩|e)
   ·exact⟨j,Nat.lt_succ_of_lt hj,e⟩
   ·exact⟨i,Nat.lt_succ_self _,e.symm⟩
  ·rintro⟨j,hj,e⟩;rcases Nat.lt_succ_iff_lt_or_eq.mp hj with q|q
   ·exact .inl ⟨j,q,e⟩
   ·exact .inr (by rw[←e,q])
end
section
variable{prog:Program}{w:World}{A:Around}{R:Z5}{I:Addr}{fp wr:Z8}{G:Array GenState->Array GenState->Prop}{n:Nat}{P:Nat->Value->Prop}{St:Nat->Shared->Prop}
theorem EM(W:WalksS prog w A.in1 I fp wr G n P St)(S:Addr)(hSf:S∉fp)(key:Nat->Key)(hval:∀i v,P i v->gx (key i) v=true/\v.scannable=true)(hb:n+1<scanBound) :
  ∀(k i:Nat)(s:Shared)(es:Z3)(ep:Nat)(t:SetTable),n-i=k->i<=n->St i s->fH prog w s.heap S (lb key i) es ep t->
   (∀s' es' ep' t',Moved (S::wr) G s s'->fH prog w s'.heap S (lb key n) es' ep' t'->R (.ok (.ret .none)) s')->
   codeAny (model prog w) A (.builtin "set.update.loop" ⟨[.ref S,.ref I],[]⟩) R s:=by
 have hSw:S∉wr:=λh=>hSf (W.sub _ h);have hsub:∀b∈wr,b∈S::wr:=λb hb=>W5 _ hb;intro k;induction k with
 |zero =>
  intro i s es ep t hk hi hst hS hR;have hin:i=n:=by omega
  subst hin;refine codeAny_builtin F.entry_set_update_loop ?_;rw[Around.under_plainId F.plain_set_update_loop _];show wpAny _ A.in1 (pyNext (.ref I) >>= _) _ _ s;refine WL (W.done s _ _ hst λs' hm=>?_);show wpAny _ A.in1 (ret Value.none) _ _ s';exact WM (hR s' es ep t (hm.mono hsub) (hS.keep λo e=>hm.heap S o hSw e))
 |succ k ih =>
  intro i s es ep t hk hi hst hS hR;have hlt:i<n:=by omega
  refine codeAny_builtin F.entry_set_update_loop ?_;rw[Around.under_plainId F.plain_set_update_loop _];show wpAny _ A.in1 (pyNext (.ref I) >>= _) _ _ s;refine WL (W.item i s _ _ hlt hst λv s' hP hst' hm=>?_);obtain⟨hv1,hv2⟩:=hval i v hP;have hS':=hS.keep (h':=s'.heap) λo e=>hm.heap S o hSw e;show wpAny _ A.in1 (holding [v] (setAdd S v) >>= _) _ _ s';refine WL (Xm ?_);unfold setAdd;refine Xm ?_;refine WL ((bD prog w).pyHash (k:=key i) hv1 ?_);have hroom:(lb key i).length+1<scanBound:=by have:=pA key i;omega
  refine yL (s:={s' with toks:=s'.toks+1}) hv1 hv2 hS' hroom λb h' es' ep' t' hsb hS2=>?_;refine WM ⟨plainId_quiet F.plain_set_update_loop _,ih (i+1) _ es' ep' t' (by omega) hlt (W.frame _ s' _ _ hst' (Nat.le_succ _) λb hb o e=>?_) hS2 λs'' es2 Vs t2 hm'' hS''=>?_⟩
  ·rw[hsb.2 b (λh:b=S=>hSf (by rw[←h];exact hb))];exact e
  ·refine hR s'' es2 Vs t2 (Moved.trans W.gtrans ((hm.mono hsub).then_heap (Nat.le_succ _) λb o hb e=>?_) hm'') hS'';rw[hsb.2 b (λh:b=S=>hb (by rw[h];exact Xo))];exact e
end
section
variable{prog:Program}{w:World}{A:Around}{E:Z0}{s:Shared}
theorem vx(a:Value){Q₁:Z0}
  (h:Q₁ (.ref s.heap.objs.size) {s with heap:=s.heap.push {cls:=.type "set",dict:=none,data:=.set #[] 0 (.fresh 0 0 (!cp w))}}) :
  codeAny (model prog w) A (.call (.builtin "set.__new__") ⟨[.type "set",a],[]⟩) (wants Q₁ E) s:=by
 refine codeAny_of_tree ?_;show wpAny _ A.in1 (do checkBuiltinCall "set.__new__" ⟨[.type "set",a],[]⟩;again (.builtin "set.__new__" ⟨[.type "set",a],[]⟩)) _ _ s;refine WL (wpAny_of_eq (F.newCall_set_1 a) (WM ⟨plainId_quiet F.plain_set_new _,codeAny_builtin F.entry_set_new ?_⟩));rw[Around.under_plainId F.plain_set_new _];unfold Builtin.«set.__new__» Builtin.Frozenset.newClass;have hsub:=sub_set_self;obtain⟨hp,g,d,tk,os⟩:=s;dsimp only
 wp_walk
 refine wpAny_askSetting (WM ?_);dsimp only;simp only[newObj];refine WL (wpAny_alloc (WM ?_));exact WM h
end
theorem sub_tuple_set:isSubtype (.type "tuple") (.type "set")=pure false:=by rw[isSubtype_type];kernel_rfl
theorem sub_tuple_frozenset:isSubtype (.type "tuple") (.type "frozenset")=pure false:=by rw[isSubtype_type];kernel_rfl
structure sZ(prog:Program)(w:World)(T:String)(l:Addr)(items:Array Value):Prop where
 KZ:isSubtype (.type T) (.type "set")=pure false
 JS:isSubtype (.type T) (.type "frozenset")=pure false
 nd:(Value.type T==Value.type "dict")=false
 it:∀(A:Around)(s:Shared)(o:Obj),A.handled=none->s.heap.get? l=some o->o.cls=.type T->(∃n,o.data=.seq items n)->∃(oI:Obj)(St:Nat->Heap->Prop),
  (∀(E:Z0)(Q:Z0),Q (.ref s.heap.objs.size) {s with heap:=s.heap.push oI}->wpAny (model prog w) A (pyIter (.ref l)) Q E s)/\
  Walks prog w A s.heap.objs.size [s.heap.objs.size,l] [s.heap.objs.size] items.size (λi v=>items[i]? = some v) St/\St 0 (s.heap.push oI)
theorem src_list{prog:Program}{w:World}{l:Addr}{items:Array Value}:sZ prog w "list" l items where
 KZ:=F.sub_list_set
 JS:=F.sub_list_frozenset
 nd:=by decide
 it:=λA s o hh ho hc hd=>by have hl:s.heap.IsList l items:=⟨o,ho,hc,hd⟩;refine⟨_,_,λE Q q=>wpAny_pyIter_list hl q,Walks.list hh _ l (Xd (WO ho)) items,⟨_,WQ _ rfl,rfl,rfl⟩,hl.push _⟩
theorem Ht{prog:Program}{w:World}{l:Addr}{items:Array Value}:sZ prog w "tuple" l items where
 KZ:=sub_tuple_set
 JS:=sub_tuple_frozenset
 nd:=by decide
 it:=λA s o hh ho hc hd=>by have hl:s.heap.IsTuple l items:=⟨o,ho,hc,hd⟩;refine⟨_,_,λE Q q=>wpAny_pyIter_tuple hl q,Walks.tuple hh _ l (Xd (WO ho)) items,⟨_,WQ _ rfl,rfl,rfl⟩,hl.push _⟩
section
variable{prog:Program}{w:World}{A:Around}{E:Z0}{s:Shared}
theorem wo{T:String}{l:Addr}{items:Array Value}{o:Obj}{key:Nat->Key}{Q:Z0}(src:sZ prog w T l items)
  (hh:A.handled=none) (ho:s.heap.get? l=some o) (hc:o.cls=.type T) (hdt:∃n,o.data=.seq items n) (hi:∀i v,items[i]? = some v->gx (key i) v=true/\v.scannable=true) (hb:items.size+1<scanBound)
  (h:∀(h':Heap)(tk:Nat) es ep t,fH prog w h' s.heap.objs.size (lb key items.size) es ep t->(∀b o,s.heap.get? b=some o->h'.get? b=some o)->Q (.ref s.heap.objs.size) {s with heap:=h',toks:=tk}) :
  wpAny (model prog w) A (call (.type "set") [.ref l]) Q E s:=by
 obtain⟨c,tl,hmro⟩:=F.called_set.mro;have hmade:=F.called_set.made;have hsub:=F.called_set.sub;refine wpAny_call (codeAny_of_tree ?_);show wpAny _ _ (callAny (.type "set") _) _ _ _;refine WM ⟨Code.quiet_builtin _ (by decide +kernel),codeAny_builtin F.entry_type_call ?_⟩;rw[Around.under_plain (weight_type_call_type "set" [.ref l] []) rfl];have h1:=F.called_set.notType;have h2:=F.called_set.canCreate;have hct:=F.typeCall_set_1 (.ref l);repeat (any_goals (first|assumption|wp_step))
 refine codeAny_mono (vx (.ref l) (E:=E) (Q₁:=λobj s₁=>obj=.ref s.heap.objs.size/\s₁ ={s with heap:=s.heap.push {cls:=.type "set",dict:=none,data:=.set #[] 0 (.fresh 0 0 (!cp w))}}) ⟨rfl,rfl⟩) λr s₁ hr=>?_;cases r with
 |error e=>exact hr
 |ok fl =>
  cases fl with
  |ret obj =>
   obtain⟨rfl,rfl⟩:=hr;have hS:(s.heap.push {cls:=.type "set",dict:=none,data:=.set #[] 0 (.fresh 0 0 (!cp w))}).get? s.heap.objs.size=some {cls:=.type "set",dict:=none,data:=.set #[] 0 (.fresh 0 0 (!cp w))}:=WQ _ rfl;have hT:Shared.TypeIs {s with heap:=s.heap.push {cls:=.type "set",dict:=none,data:=.set #[] 0 (.fresh 0 0 (!cp w))}} (.ref s.heap.objs.size) "set":=⟨_,hS,rfl⟩;have hli:=F.called_set.init.lookup;have hbi:=F.called_set.init.bind (.ref s.heap.objs.size);repeat (any_goals (first|assumption|wp_step))
   refine codeAny_mono (codeAny_call_builtin (R:=wants (λr s₂=>r=.none/\∃h' tk es ep t,s₂ ={s with heap:=h',toks:=tk}/\
     fH prog w h' s.heap.objs.size (lb key items.size) es ep t/\(∀b o,s.heap.get? b=some o->h'.get? b=some o)) E) F.called_set.init.plain F.entry_set_init (check_set_init_1 hT ?_)) λr₂ s₂ hr₂=>?_
   ·have ho':(s.heap.push {cls:=.type "set",dict:=none,data:=.set #[] 0 (.fresh 0 0 (!cp w))}).get? l=some o:=WN _ ho;have WI:Shared.TypeIs {s with heap:=s.heap.push {cls:=.type "set",dict:=none,data:=.set #[] 0 (.fresh 0 0 (!cp w))}} (.ref l) T:=⟨_,ho',hc⟩;have hsls:=src.KZ;have hslf:=src.JS;have hne:=src.nd;obtain⟨oI,St,hit,W,st⟩:=src.it A.in1.in1.in1 {s with heap:=s.heap.push {cls:=.type "set",dict:=none,data:=.set #[] 0 (.fresh 0 0 (!cp w))}} o (by simpa using hh) ho' hc hdt;unfold Builtin.«set.__init__» noKeywords Builtin.Frozenset.updateFrom;generalize hPI:pyIter=PI
    wp_walk
    subst hPI;refine wpAny_of_in1 (hit _ _ ?_);refine WL (wpAny_runValue ?_);have hlS:l<s.heap.objs.size:=WO ho;have hsz:(s.heap.push {cls:=.type "set",dict:=none,data:=.set #[] 0 (.fresh 0 0 (!cp w))}).objs.size=s.heap.objs.size+1:=Heap.size_push _ _;have hSf:s.heap.objs.size∉[(s.heap.push {cls:=.type "set",dict:=none,data:=.set #[] 0 (.fresh 0 0 (!cp w))}).objs.size,l]:=by rw[hsz];simp only[Xa,Xv,or_false,not_or];exact⟨Xd (Nat.lt_succ_self _),Nat.ne_of_gt hlS⟩
    refine EM W.toS s.heap.objs.size hSf key (λi v hv=>hi i v hv) hb (items.size-0) 0 _ #[] 0 (SetTable.fresh 0 0 (!cp w)) (by omega) (Xe _) st ?hS0 ?hR
    case hS0 =>have hget:=WN oI hS;exact⟨hget,λe he=>Xs he (by simp),by unfold scanBound;decide,by simp[SetTable.fits,SetTable.fresh,SetTable.fill],⟨List.Pairwise.nil,rfl,rfl⟩,List.nodup_nil,by simp[lb]⟩
    case hR =>
     intro s' es' ep' t' hm hS';obtain⟨h',g',d',tk',os'⟩:=s';have eg:g'=s.gens:=hm.gens;have ed:d'=s.drawn:=hm.drawn;have eo:os'=s.os:=hm.os;subst eg;subst ed;subst eo;show wpAny _ _ _ _ _ _;refine WM ?_;show wpAny _ _ (ret Value.none) _ _ _;refine WM ⟨rfl,h',tk',es',ep',t',rfl,hS',λb o e=>?_⟩;have hb1:b≠s.heap.objs.size:=Xd (WO e);have hb2:b≠(s.heap.push {cls:=.type "set",dict:=none,data:=.set #[] 0 (.fresh 0 0 (!cp w))}).objs.size:=by rw[hsz];exact Xd (Nat.lt_succ_of_lt (WO e))
     exact hm.heap b o (by simp only[Xa,Xv,or_false,not_or];exact⟨hb1,hb2⟩) (WN _ (WN _ e))
   ·cases r₂ with
    |error e=>exact hr₂
    |ok fl₂ =>
     cases fl₂ with
     |ret r =>
      obtain⟨rfl,h',tk,es,ep,t,rfl,hS',hk'⟩:=hr₂;repeat (any_goals (first|assumption|wp_step))
      exact h _ _ es ep t hS' hk'
     |_=>exact hr₂.elim
  |_=>exact hr.elim
end
theorem nI:entryFor table "set.__iter__"=some Builtin.«frozenset.__iter__» :=
 entryFor_alias (id':="frozenset.__iter__") (by kernel_rfl) rfl (by decide +kernel) (by kernel_rfl)
theorem eK:Slot "set_iterator" "__next__" "set_iterator.__next__" :=
 .of (owner:="set_iterator") (n:="__next__") (by rw[typeLookup_type,builtinLookup_eq_fast];kernel_rfl) (by decide +kernel) (by decide +kernel) (by decide +kernel)
  (by first|exact .inl (by decide +kernel)|exact .inr (by decide +kernel)) (by rw[isSubtype_type];kernel_rfl)
theorem qQ:entryFor table "set_iterator.__next__"=some Builtin.«set_iterator.__next__»:=entryFor_of_fast (by kernel_rfl)
theorem um(a:Value):argsOk "set_iterator.__next__" ⟨[a],[]⟩:=by unfold argsOk;kernel_rfl
section
variable{prog:Program}{w:World}{A:Around}{E:Z0}{s:Shared}
theorem AS{src:Source}{n:Nat}{Q:Nat->Shared->Prop}(hn:n≠0)(h:∀k d,k<n->Q k {s with drawn:=d}):wpAny (model prog w) A (choose src n) Q E s:=λ_ _ _ =>
 ⟨hn,h _ _ (Nat.mod_lt _ (Nat.pos_of_ne_zero hn))⟩
theorem ib{α:Type}:∀{xs:List α}{i:Nat}{x:α},xs[i]? = some x->(x::xs.eraseIdx i).Perm xs
 |[],i,x,h=>by simp at h
 |y::ys,0,x,h=>by
  have e:y=x:=by simpa using h
  subst e;exact List.Perm.refl _
 |y::ys,i+1,x,h=>by
  have h':ys[i]? = some x:=by simpa using h
  exact(List.Perm.swap _ _ _).trans ((ib h').cons y)
theorem lK{α:Type}:∀(n:Nat)(xs:List α)(s:Shared){Q:List α->Shared->Prop},xs.length=n->(∀ys d,ys.Perm xs->Q ys {s with drawn:=d})->wpAny (model prog w) A (drawOrder n xs) Q E s
 | 0,xs,s,Q,e,h=>by have:xs=[]:=List.length_eq_zero_iff.mp e;subst this;unfold drawOrder;exact WM (h [] s.drawn (List.Perm.refl _))
 |n+1,[],s,Q,e,h=>by cases e
 |n+1,x::xs,s,Q,e,h=>by unfold drawOrder;refine WL (AS (by simp) λk d hk=>?_);have hk':(x::xs)[k]? = some (x::xs)[k]:=W0 hk;rw[hk'];dsimp only;refine WL (lK n _ _ (by rw[List.length_eraseIdx_of_lt hk,e];rfl) λys d' hp=>?_);exact WM (h _ d' ((hp.cons _).trans (ib hk')))
abbrev eZ(first:Value)(i:Nat)(S:Addr)(n ep:Nat):Obj:={cls:=.type "set_iterator",data:=.fields #[first,.int i 0,.ref S,.int n 0,.int ep 0]}
def mR(es:Z3)(t:SetTable):Bool:=!t.plain&&decide (es.size > 1)
theorem Dm{S:Addr}{ks:List Key}{es:Z3}{ep:Nat}{t:SetTable}{Q:Z0}(hS:fH prog w s.heap S ks es ep t)
  (h1:(!cp w&&mR es t)=false->Q (.ref s.heap.objs.size) {s with heap:=s.heap.push (eZ (.int 0 0) 0 S es.size ep)})
  (h2:(!cp w&&mR es t)=true->∀(d:Drawn)(ps:List Nat),ps.Perm (List.range es.size)->Q (.ref (s.heap.objs.size+1)) {s with heap:=(s.heap.push {cls:=.type "tuple",data:=.seq (ps.map λ(i:Nat)=>Value.int i 0).toArray}).push (eZ (.ref s.heap.objs.size) 0 S es.size ep),drawn:=d}) :
  wpAny (model prog w) A (pyIter (.ref S)) Q E s:=by
 have hT:s.TypeIs (.ref S) "set":=⟨_,hS.obj,rfl⟩;have hz:es.size<=sizeLine:=fits_of_scanBound hS.few;refine wpAny_pyIter_slot hT F.slot_set_iter (XD F.slot_set_iter hT nI ?_ (F.args_set_iter_1 _));unfold Builtin.«frozenset.__iter__» Builtin.Frozenset.slot0 slotArgs;simp only[List.isEmpty_nil,Bool.not_true,Bool.false_eq_true,↓reduceIte,bind_assoc,List.length_nil,bne_self_eq_false];unfold Builtin.Frozenset.addrOf Builtin.Frozenset.sizeOf;refine WL (WM ?_);try dsimp only
 refine WL (WM ?_);refine WL (WL (wpAny_setEntries_of hS.obj rfl hS.fits (WM ?_)));unfold setDrawn setsByText;refine WL (WL (wpAny_setState_of hS.obj rfl hS.fits (WL (WL (wpAny_askSetting (WM (WM ?_)))))));show wpAny _ _ (if(!cp w&&mR es t)=true then _ else _) _ _ _;cases hb:(!cp w&&mR es t)
 ·rw[Xt (by simp)];refine WL (WM ?_);refine WL (wpAny_setEpoch_of hS.obj rfl hS.fits ?_);refine WL (Xn (WM ⟨_,rfl,"set_iterator",_,⟨_,WQ _ rfl,rfl⟩,eK.lookup,?_⟩));exact h1 hb
 ·rw[Xu rfl];refine WL (lK es.size (List.range es.size) s (by simp) λps d hp=>?_);have hl:ps.length=es.size:=by rw[hp.length_eq];simp
  refine WL (wpAny_newTuple ?_ (by rw[WV,hl];exact hz));have hS2:=hS.keep (h':=s.heap.push {cls:=.type "tuple",data:=.seq (ps.map λ(i:Nat)=>rawInt i).toArray}) λo e=>WN _ e;refine WL (wpAny_setEpoch_of hS2.obj rfl hS2.fits ?_);refine WL (Xn (WM ⟨_,rfl,"set_iterator",_,⟨_,WQ _ rfl,rfl⟩,eK.lookup,?_⟩));have:=h2 hb d ps hp;rw[size_push'];exact this
theorem lE{I S:Addr}{first:Value}{i n ep:Nat}{Q:Z7->Shared->Prop}(hI:s.heap.get? I=some (eZ first i S n ep))
  (h:wpAny (model prog w) A.in1 (Builtin.«set_iterator.__next__» ⟨[.ref I],[]⟩) (λfin s'=>∃r,fin=.done (.ret r)/\Q (some r) s') (λe s'=>wpAny (model prog w) A (do if←isInstance e (.type "StopIteration")then pure none else throw e) Q E s') s) :
  wpAny (model prog w) A (pyNext (.ref I)) Q E s:=by
 have hT:s.TypeIs (.ref I) "set_iterator":=⟨_,hI,rfl⟩;unfold pyNext;refine WL (wpAny_attempt (wpAny_callSpecial?_slot (name:=Str.ofString "__next__") hT eK (XD eK hT qQ ?_ (um _))));refine Xl h (λfin s' q=>?_) λe s' q=>?_
 ·obtain⟨r,rfl,q⟩:=q;exact⟨_,rfl,WM q⟩
 ·exact q
theorem lP{I S:Addr}{first:Value}{i n ep:Nat}(hI:s.heap.get? I=some (eZ first i S n ep)){first':Value}{i':Nat}{fs:Array Value}(k:Nat)(v:Value)(hk:k<5)(e:(#[first,.int i 0,.ref S,.int n 0,.int ep 0]:Array Value).setIfInBounds k v=fs) :
  (s.heap.update I (Obj.mapFields (·.setIfInBounds k v))).get? I=some {cls:=.type "set_iterator",data:=.fields fs}:=by
 have:=Heap.get?_update_self (Obj.mapFields (·.setIfInBounds k v)) hI (Obj.isFreed_of_fields (Obj.data_mapFields (o:=eZ first i S n ep) rfl _));rw[this,←e];rfl
end
section
variable{prog:Program}{w:World}{A:Around}{E:Z0}{s:Shared}
theorem vw{Q:Z7->Shared->Prop}{h0:Heap}{I:Addr}(hh:A.handled=none)(hQ:∀h',Heap.ExtBut I h0 h'->Q none {s with heap:=h'})(hs:Heap.ExtBut I h0 s.heap) :
  wpAny (model prog w) A.in1 (newExc (.type "StopIteration") [] >>= λe=>(raiseNew e:Sem Fin)) (λfin s'=>∃r,fin=.done (.ret r)/\Q (some r) s') (λe s'=>wpAny (model prog w) A (do if←isInstance e (.type "StopIteration")then pure none else throw e) Q E s') s:=by
 refine WL ?_;simp only[newExc,newTuple];refine WL (Xn ?_ (by size_fits));refine WL (m:=firstArgMember _ _) (wpAny_of_eq (a:=Value.none) (by first|rfl | (simp only[firstArgMember];rfl)) ?_);refine Xn ?_ (by size_fits);simp only[raiseNew];refine WL (wpAny_handled ?_);rw[show A.in1.handled=none from hh];refine WL (WM (wpAny_throw ?_));refine WL (wpAny_isInstance (T:="StopIteration") (b:=true) ⟨_,WQ _ rfl,rfl⟩ isSubtype_stop ?_);exact WM (hQ _ ((hs.push _).push _))
theorem nP{I S:Addr}{ks:List Key}{es:Z3}{i ep:Nat}{t:SetTable}{first:Value}{R:Fin->Shared->Prop}{F:Z0}(hI:s.heap.get? I=some (eZ first i S es.size ep))(hS:fH prog w s.heap S ks es ep t)
  (h:wpAny (model prog w) A (if let .int slot _:=first then do
    match←setNext S slot.toNat i ep with
    |some (x,next) =>
     setField (.ref I) 0 (rawInt next)
     setField (.ref I) 1 (rawInt (i+1))
     ret x
    |none=>setField (.ref I) 2 .none;raiseNew (←newExc (.type "StopIteration") [])
   else do
    let some places←seqItems? first|unsupported "internal:set_iterator"
    match places[i]? with
    |some (.int place _) =>
     let x←setNextDrawn S place.toNat ep
     setField (.ref I) 1 (rawInt (i+1))
     ret x
    |some _=>unsupported "internal:set_iterator"
    |none=>setField (.ref I) 0 (rawInt 0);setField (.ref I) 2 .none;raiseNew (←newExc (.type "StopIteration") [])) R F s) :
  wpAny (model prog w) A (Builtin.«set_iterator.__next__» ⟨[.ref I],[]⟩) R F s:=by
 unfold Builtin.«set_iterator.__next__» slotArgs;simp only[List.isEmpty_nil,Bool.not_true,Bool.false_eq_true,↓reduceIte,bind_assoc,List.length_nil,bne_self_eq_false];refine WL (WM ?_);try dsimp only
 refine WL (wpAny_fieldsOf hI rfl ?_);dsimp only;refine WL (wpAny_setEntries_of hS.obj rfl hS.fits ?_);rw[Xt (by simp)];exact h
theorem HZ{I S:Addr}{ks:List Key}{es:Z3}{i ep slot next:Nat}{t:SetTable}{v:Value}{Q:Z7->Shared->Prop}(hI:s.heap.get? I=some (eZ (.int slot 0) i S es.size ep))(hS:fH prog w s.heap S ks es ep t)
  (hn:∀(Q:Option (Value×Nat)->Shared->Prop)(E:Z0),Q (some (v,next)) s->wpAny (model prog w) A.in1 (setNext S slot i ep) Q E s)
  (hQ:∀h',h'.get? I=some (eZ (.int next 0) (i+1) S es.size ep)->(∀b,b≠I->h'.get? b=s.heap.get? b)->Q (some v) {s with heap:=h'}):wpAny (model prog w) A (pyNext (.ref I)) Q E s:=by
 refine lE hI (nP hI hS ?_);dsimp only;refine WL (hn _ _ ?_);dsimp only;refine WL (wpAny_setField hI rfl (by simp) ?_);have h1:=lP (s:=s) hI (first':=.none) (i':=0) (fs:=#[.int next 0,.int i 0,.ref S,.int es.size 0,.int ep 0]) 0 (rawInt next) (by decide) (by simp[rawInt]);refine WL (wpAny_setField h1 rfl (by simp) ?_);have h2:=lP (s:={s with heap:=s.heap.update I (Obj.mapFields (·.setIfInBounds 0 (rawInt next)))}) (first:=.int next 0) (i:=i) (S:=S) (n:=es.size) (ep:=ep) h1 (first':=.none) (i':=0) (fs:=#[.int next 0,.int ((i+1:Nat):Int) 0,.ref S,.int es.size 0,.int ep 0]) 1 (rawInt ((i:Int)+1)) (by decide) (by simp[rawInt]);refine WM ⟨_,rfl,hQ _ h2 λb hb=>?_⟩;exact((Heap.SameBut.update _ I _).2 b hb).trans ((Heap.SameBut.update _ I _).2 b hb)
theorem Lk{I S:Addr}{ks:List Key}{es:Z3}{i ep slot:Nat}{t:SetTable}{Q:Z7->Shared->Prop}(hh:A.handled=none)(hI:s.heap.get? I=some (eZ (.int slot 0) i S es.size ep))(hS:fH prog w s.heap S ks es ep t)
  (hn:∀(Q:Option (Value×Nat)->Shared->Prop)(E:Z0),Q none s->wpAny (model prog w) A.in1 (setNext S slot i ep) Q E s)
  (hQ:∀h',Heap.ExtBut I s.heap h'->Q none {s with heap:=h'}):wpAny (model prog w) A (pyNext (.ref I)) Q E s:=by
 refine lE hI (nP hI hS ?_);dsimp only;refine WL (hn _ _ ?_);dsimp only;refine WL (wpAny_setField hI rfl (by simp) ?_);exact vw (s:={s with heap:=s.heap.update I (Obj.mapFields (·.setIfInBounds 2 .none))}) (I:=I) (h0:=s.heap) hh hQ (Heap.SameBut.update ..).extBut
theorem IC{I S T:Addr}{ks:List Key}{es:Z3}{i ep p:Nat}{t:SetTable}{ps:Array Value}{hv:Int}{v:Value}{Q:Z7->Shared->Prop}(hI:s.heap.get? I=some (eZ (.ref T) i S es.size ep))(hS:fH prog w s.heap S ks es ep t)
  (hT:s.heap.get? T=some {cls:=.type "tuple",data:=.seq ps}) (hp:ps[i]? = some (.int p 0)) (he:es[p]? = some (hv,v))
  (hQ:∀h',h'.get? I=some (eZ (.ref T) (i+1) S es.size ep)->(∀b,b≠I->h'.get? b=s.heap.get? b)->Q (some v) {s with heap:=h'}):wpAny (model prog w) A (pyNext (.ref I)) Q E s:=by
 refine lE hI (nP hI hS ?_);dsimp only;unfold seqItems?;refine WL (WL (wpAny_load hT (WM ?_)));dsimp only;rw[hp];dsimp only;unfold setNextDrawn;refine WL (WL (wpAny_setState_of hS.obj rfl hS.fits ?_));dsimp only;rw[Xt (by simp)];rw[show es[(p:Int).toNat]? = some (hv,v) from he];refine WM ?_;refine WL (wpAny_setField hI rfl (by simp) ?_);have h2:=lP (s:=s) hI (first':=.none) (i':=0) (fs:=#[.ref T,.int ((i+1:Nat):Int) 0,.ref S,.int es.size 0,.int ep 0]) 1 (rawInt ((i:Int)+1)) (by decide) (by simp[rawInt]);exact WM ⟨_,rfl,hQ _ h2 λb hb=>(Heap.SameBut.update _ I _).2 b hb⟩
theorem L6{I S T:Addr}{ks:List Key}{es:Z3}{i ep:Nat}{t:SetTable}{ps:Array Value}{Q:Z7->Shared->Prop}(hh:A.handled=none)(hI:s.heap.get? I=some (eZ (.ref T) i S es.size ep))(hS:fH prog w s.heap S ks es ep t)
  (hT:s.heap.get? T=some {cls:=.type "tuple",data:=.seq ps}) (hp:ps[i]? = none)
  (hQ:∀h',Heap.ExtBut I s.heap h'->Q none {s with heap:=h'}):wpAny (model prog w) A (pyNext (.ref I)) Q E s:=by
 refine lE hI (nP hI hS ?_);dsimp only;unfold seqItems?;refine WL (WL (wpAny_load hT (WM ?_)));dsimp only;rw[hp];dsimp only;refine WL (wpAny_setField hI rfl (by simp) ?_);have h1:=lP (s:=s) hI (first':=.none) (i':=0) (fs:=#[.int 0 0,.int i 0,.ref S,.int es.size 0,.int ep 0]) 0 (rawInt 0) (by decide) (by simp[rawInt]);refine WL (wpAny_setField h1 rfl (by simp) ?_);refine vw (s:={s with heap:=(s.heap.update I (Obj.mapFields (·.setIfInBounds 0 (rawInt 0)))).update I (Obj.mapFields (·.setIfInBounds 2 .none))}) (I:=I) (h0:=s.heap) hh hQ ?_;exact((Heap.SameBut.update s.heap I _).trans (Heap.SameBut.update _ I _)).extBut
end
theorem zx{α:Type}(next:Nat->Nat):∀(fuel k:Nat)(left:List α)(out:Array α),left.length=fuel->(pickOrder.go next fuel k left out).toList.Perm (out.toList++left)
 | 0,k,left,out,e=>by have:left=[]:=List.length_eq_zero_iff.mp e;subst this;unfold pickOrder.go;simp
 |fuel+1,k,left,out,e=>by
  unfold pickOrder.go;have hlt:next k % left.length<left.length:=Nat.mod_lt _ (by omega)
  have hg:left[next k % left.length]? = some left[next k % left.length]:=W0 hlt;rw[hg];dsimp only;refine(zx next fuel (k+1) _ _ (by rw[List.length_eraseIdx_of_lt hlt,e];rfl)).trans ?_;rw[Array.toList_push,List.append_assoc];refine List.Perm.append_left _ ?_;exact ib hg
theorem sq{α:Type}(next:Nat->Nat)(xs:Array α):(pickOrder next xs).toList.Perm xs.toList:=by
 unfold pickOrder;have:=zx next xs.size 0 xs.toList #[] (by simp)
 simpa using this
def Ge(place:Array Nat):Nat->Nat
 | 0=>0
 |i+1=>(place[i]?.getD 0)+1
theorem x4{place:Array Nat}(h:Fi place):∀{i:Nat},i<=place.size->SetTable.below place (Ge place i)=i
 | 0,_=>by
  obtain⟨h1,h2,h3⟩:=ll h 0;show SetTable.below place 0=0;rcases Nat.eq_zero_or_pos (SetTable.below place 0)with q|q
  ·exact q
  ·have hz:0<place.size:=by omega
   have:=h2 0 _ q (Xk hz);omega
 |i+1,hi=>by
  have hlt:i<place.size:=hi;have eg:place[i]? = some place[i]:=Xk hlt;have es:Ge place (i+1)=place[i]+1:=by show(place[i]?.getD 0)+1=_;rw[eg];rfl
  rw[es];obtain⟨h1,h2,h3⟩:=ll h (place[i]+1);rcases Nat.lt_trichotomy (SetTable.below place (place[i]+1)) (i+1)with q|q|q
  ·have:=h3 i _ (by omega) eg;omega
  ·exact q
  ·have hlt2:i+1<place.size:=by omega
   have e2:place[i+1]? = some place[i+1]:=Xk hlt2;have a:=h2 (i+1) _ q e2;have b:=h.lt (Nat.lt_succ_self i) eg e2;omega
section
variable{prog:Program}{w:World}
def Nx(prog:Program)(w:World)(S:Addr)(ks:List Key)(es:Z3)(ep:Nat)(t:SetTable)(sl:Nat->Nat)(vs:Z6):Prop :=
 ∀(i:Nat)(s:Shared)(A:Around)(E:Z0)(Q:Option (Value×Nat)->Shared->Prop),fH prog w s.heap S ks es ep t->i<=es.size->Q ((vs[i]?).map λv=>(v,sl (i+1))) s->wpAny (model prog w) A (setNext S (sl i) i ep) Q E s
theorem Hq{S:Addr}{ks:List Key}{es:Z3}{ep:Nat}{t:SetTable}(hb:cp w=true):Nx prog w S ks es ep t (λ_=>0) ((pickOrder (w.params.setOrder S ep) es).toList.map (·.2)):=by intro i s A E Q hS hi q;unfold setNext setsByText;refine WL (wpAny_setState_of hS.obj rfl hS.fits ?_);dsimp only;refine WL (WL (wpAny_askSetting (WM ?_)));rw[Xu (show(model prog w).w.params.followText "set-order"=true from hb),Xt (by simp)];unfold setWalk setsByText;refine WL (WL (wpAny_setState_of hS.obj rfl hS.fits ?_));dsimp only;refine WL (WL (wpAny_askSetting (WM ?_)));rw[Xu (show(model prog w).w.params.followText "set-order"=true from hb)];refine WL (wpAny_askSetting (WM (WM ?_)));rw[Xi,Option.map_map,Array.getElem?_toList]at q;exact q
theorem Cr{S:Addr}{ks:List Key}{es:Z3}{ep:Nat}{t:SetTable}(hb:cp w=false)(hd:mR es t=false):Nx prog w S ks es ep t (Ge t.place) (es.toList.map (·.2)):=by
 intro i s A E Q hS hi q;have hps:t.place.size=es.size:=by have:=hS.fits;simp[SetTable.fits]at this;exact this.1
 unfold setNext setsByText;refine WL (wpAny_setState_of hS.obj rfl hS.fits ?_);dsimp only;refine WL (WL (wpAny_askSetting (WM ?_)));rw[Xt (show¬(model prog w).w.params.followText "set-order"=true by show¬cp w=true;rw[hb];decide)];have PV:t.led=true:=by rw[hS.tab.led,hb];rfl
 show wpAny _ _ (if mR es t=true then _ else _) _ _ _;rw[Xt (by rw[hd];decide)];show wpAny _ _ ((if(!t.led && !es.isEmpty)=true then unsupported _ else pure ()) >>= _) _ _ _;rw[Xt (by rw[PV];simp)];refine WL (WM (WM ?_));rw[x4 hS.tab.RE (by rw[hps];exact hi)];rw[Xi,Option.map_map,Array.getElem?_toList]at q;by_cases hlt:i<es.size
 ·rw[Xk hlt]at q⊢;have hp2:i<t.place.size:=by rw[hps];exact hlt
  have e2:Ge t.place (i+1)=t.place[i]+1:=by show(t.place[i]?.getD 0)+1=_;rw[Xk hp2];rfl
  rw[Xk hp2];dsimp only[Option.map_some,Function.comp]at q⊢;rw[e2]at q;exact q
 ·rw[Array.getElem?_eq_none (by omega)]at q⊢;exact q
theorem lS:Slot "set_iterator" "__iter__" "set_iterator.__iter__" :=
 .of (owner:="set_iterator") (n:="__iter__") (by rw[typeLookup_type,builtinLookup_eq_fast];kernel_rfl) (by decide +kernel) (by decide +kernel) (by decide +kernel)
  (by first|exact .inl (by decide +kernel)|exact .inr (by decide +kernel)) (by rw[isSubtype_type];kernel_rfl)
theorem rk:entryFor table "set_iterator.__iter__"=some Builtin.«dict_keyiterator.__iter__» :=
 entryFor_alias (id':="dict_keyiterator.__iter__") (by kernel_rfl) rfl (by decide +kernel) (by kernel_rfl)
theorem uS(a:Value):argsOk "set_iterator.__iter__" ⟨[a],[]⟩:=by unfold argsOk;kernel_rfl
theorem zV{A:Around}{E:Z0}{s:Shared}{I S:Addr}{first:Value}{i n ep:Nat}{Q:Z0}(hI:s.heap.get? I=some (eZ first i S n ep))(h:Q (.ref I) s):wpAny (model prog w) A (pyIter (.ref I)) Q E s:=by have hT:s.TypeIs (.ref I) "set_iterator":=⟨_,hI,rfl⟩;refine wpAny_pyIter_slot hT lS (XD lS hT rk ?_ (uS _));show wpAny _ _ (ret (.ref I)) _ _ s;exact WM ⟨_,rfl,"set_iterator",_,hT,eK.lookup,h⟩
theorem DI{A:Around}(hh:A.handled=none){I S:Addr}(hne:S≠I){ks:List Key}{es:Z3}{ep:Nat}{t:SetTable}{sl:Nat->Nat}{vs:Z6}(hv:vs.length=es.size)(hn:Nx prog w S ks es ep t sl vs) :
  Walks prog w A I [I,S] [I] es.size (λi v=>vs[i]? = some v) (λi h=>h.get? I=some (eZ (.int (sl i) 0) i S es.size ep)/\fH prog w h S ks es ep t) where
 sub:=λb hb=>by simp at hb;simp[hb]
 frame:=λ_ _ _ st hk=>⟨hk I (by simp) _ st.1,st.2.keep λo e=>hk S (by simp) o e⟩
 item:=λi s Q E hi st hQ=>by have e:vs[i]? = some (vs[i]'(by omega)):=W0 (by omega);refine HZ (v:=vs[i]'(by omega)) (next:=sl (i+1)) st.1 st.2 (λQ E q=>hn i s _ E Q st.2 (Nat.le_of_lt hi) (by rw[e];exact q)) λh' h1 h2=>?_;exact hQ _ h' s.toks e ⟨h1,st.2.keep λo q=>(h2 S hne).trans q⟩ λb o hb q=>(h2 b (by simpa using hb)).trans q
 done:=λs Q E st hQ=>Lk hh st.1 st.2 (λQ E q=>hn es.size s _ E Q st.2 (WR _) (by rw[List.getElem?_eq_none (by omega)];exact q)) λh' he=>hQ h' s.toks λb o hb e=>he b o (λh=>hb (by simp[h])) e
 self:=λi s Q E st hQ=>zV st.1 hQ
theorem y9{A:Around}(hh:A.handled=none){I S T:Addr}(hne:S≠I)(hnt:T≠I){ks:List Key}{es:Z3}{ep:Nat}{t:SetTable}{ps:List Nat}(hp:ps.Perm (List.range es.size)) :
  Walks prog w A I [I,S,T] [I] es.size (λi v=>(ps.filterMap λj=>(es[j]?).map (·.2))[i]? = some v) (λi h=>h.get? I=some (eZ (.ref T) i S es.size ep)/\fH prog w h S ks es ep t/\h.get? T=some {cls:=.type "tuple",data:=.seq (ps.map λ(i:Nat)=>Value.int i 0).toArray}) where
 sub:=λb hb=>by simp at hb;simp[hb]
 frame:=λ_ _ _ st hk=>⟨hk I (by simp) _ st.1,st.2.1.keep λo e=>hk S (by simp) o e,hk T (by simp) _ st.2.2⟩
 item:=λi s Q E hi st hQ=>by
  have hl:ps.length=es.size:=by rw[hp.length_eq];simp
  have hlt:i<ps.length:=by omega
  have hpi:ps[i]<es.size:=List.mem_range.mp (hp.mem_iff.mp (List.getElem_mem hlt));have em:(ps.filterMap λj=>(es[j]?).map (·.2))=ps.map λj=>(es.getD j (0,.none)).2:=by
   have gen:∀l:List Nat,(∀j∈l,j<es.size)->(l.filterMap λj=>(es[j]?).map (·.2))=l.map λj=>(es.getD j (0,.none)).2:=by
    intro l;induction l with
    |nil=>intro _;rfl
    |cons a l ih =>intro hl;have ha:=hl a Xo;rw[List.filterMap_cons,ih λj hj=>hl j (W5 _ hj)];simp[Array.getD,ha]
   exact gen ps λj hj=>List.mem_range.mp (hp.mem_iff.mp hj)
  refine IC (p:=ps[i]) (hv:=es[ps[i]].1) (v:=es[ps[i]].2) st.1 st.2.1 st.2.2 (by simp[hlt]) (by rw[Xk hpi]) λh' h1 h2=>?_;refine hQ _ h' s.toks ?_ ⟨h1,st.2.1.keep λo q=>(h2 S hne).trans q,(h2 T hnt).trans st.2.2⟩ λb o hb q=>(h2 b (by simpa using hb)).trans q;rw[em,Xi,W0 hlt];simp[Array.getD,hpi]
 done:=λs Q E st hQ=>by
  have hl:ps.length=es.size:=by rw[hp.length_eq];simp
  exact L6 hh st.1 st.2.1 st.2.2 (by simp[hl]) λh' he=>hQ h' s.toks λb o hb e=>he b o (λh=>hb (by simp[h])) e
 self:=λi s Q E st hQ=>zV st.1 hQ
end
section
variable{prog:Program}{w:World}{A:Around}{E:Z0}{s:Shared}
theorem ED(hh:A.handled=none){S:Addr}{ks:List Key}{es:Z3}{ep:Nat}{t:SetTable}{Q:Z0}(hS:fH prog w s.heap S ks es ep t)
  (h:∀(I:Addr)(h1:Heap)(d:Drawn)(fp:Z8)(vs:Z6)(St:Nat->Heap->Prop),(∀b o,s.heap.get? b=some o->h1.get? b=some o)->s.heap.objs.size<=I->(∀b∈fp,b=S\/s.heap.objs.size<=b)->
   Walks prog w A I fp [I] es.size (λi v=>vs[i]? = some v) St->St 0 h1->vs.length=es.size->vs.Perm (es.toList.map (·.2))->Q (.ref I) {s with heap:=h1,drawn:=d}) :
  wpAny (model prog w) A (pyIter (.ref S)) Q E s:=by
 have hlt:S<s.heap.objs.size:=WO hS.obj;refine Dm hS (λhb=>?_) λhb d ps hp=>?_
 ·have key:∀sl vs,sl 0=0->vs.length=es.size->vs.Perm (es.toList.map (·.2))->Nx prog w S ks es ep t sl vs->Q (.ref s.heap.objs.size) {s with heap:=s.heap.push (eZ (.int 0 0) 0 S es.size ep)}:=λsl vs h0 hl hpm hn=>by
   have W:=DI (A:=A) hh (I:=s.heap.objs.size) (S:=S) (Xd hlt) hl hn;have:=h s.heap.objs.size (s.heap.push (eZ (.int 0 0) 0 S es.size ep)) s.drawn _ vs _ (λb o e=>WN _ e) (WR _) (λb hb=>?_) W ⟨?_,hS.keep λo e=>WN _ e⟩ hl hpm
   ·exact this
   ·simp only[Xa,Xv,or_false]at hb;rcases hb with rfl|rfl
    ·exact .inr (WR _)
    ·exact .inl rfl
   ·rw[h0];exact WQ _ rfl
  cases hbt:cp w with
  |true=>exact key _ _ rfl (by rw[WV,(sq _ _).length_eq,XI]) ((sq _ _).map _) (Hq hbt)
  |false =>rw[hbt]at hb;exact key _ _ rfl (by rw[WV,XI]) (List.Perm.refl _) (Cr hbt (by simpa using hb))
 ·have hl:ps.length=es.size:=by rw[hp.length_eq];simp
  have W:=y9 (prog:=prog) (w:=w) (A:=A) hh (I:=s.heap.objs.size+1) (S:=S) (T:=s.heap.objs.size) (Xd (Nat.lt_succ_of_lt hlt)) (Xd (Nat.lt_succ_self _)) (ks:=ks) (es:=es) (ep:=ep) (t:=t) hp;have pm:(ps.filterMap λj=>(es[j]?).map (·.2)).Perm (es.toList.map (·.2)):=by refine(hp.filterMap _).trans ?_;rw[←List.map_filterMap];rw[filterMap_getElem?_range]
  refine h (s.heap.objs.size+1) _ d _ _ _ (λb o e=>WN _ (WN _ e)) (Nat.le_succ _) (λb hb=>?_) W ⟨?_,hS.keep λo e=>WN _ (WN _ e),WN _ (WQ _ rfl)⟩ (by rw[pm.length_eq,WV,XI]) pm
  ·simp only[Xa,Xv,or_false]at hb;rcases hb with rfl|rfl|rfl
   ·exact .inr (Nat.le_succ _)
   ·exact .inl rfl
   ·exact .inr (WR _)
  ·have:=WQ (s.heap.push {cls:=.type "tuple",data:=.seq (ps.map λ(i:Nat)=>Value.int i 0).toArray}) (o:=eZ (.ref s.heap.objs.size) 0 S es.size ep) rfl;rw[size_push']at this;exact this
theorem D9{r:Addr}{Q:Bool->Shared->Prop}(hT:s.TypeIs (.ref r) "set")(h:Q false s):wpAny (model prog w) A (Builtin.List.listLengthHint (.ref r)) Q E s:=by
 unfold Builtin.List.listLengthHint;refine WL (wpAny_specialOf hT PySem.F.slot_set_len.lookup ?_);generalize hid:("set.__len__" : String)=id0
 wp_delta
 rw[show splitId id0=some ("set","__len__") from by subst hid;decide +kernel];subst hid;refine WL (wpAny_isInstance (T:="set") (b:=true) hT (by rw[isSubtype_type];kernel_rfl) ?_);refine wpAny_ite_split (λhab=>Xs hab (by decide)) (λ_=>?_);refine wpAny_ite_split (λ_=>?_) (λhab=>Xs (by decide +kernel) hab);refine WL (wpAny_typeOf hT ?_);exact WM h
theorem yl{S L:Addr}{ks:List Key}{es:Z3}{ep:Nat}{t:SetTable}{R:Z5}(hh:A.handled=none)(hS:fH prog w s.heap S ks es ep t)(Sw:L≠S)(res:Value)(c₀:Nat)(hL:s.heap.get? L=some {cls:=.type "list",data:=.seq #[] c₀})
  (hR:∀h' tk d acc' c',(∀b o,b≠L->s.heap.get? b=some o->h'.get? b=some o)->h'.get? L=some {cls:=.type "list",dict:=none,data:=.seq acc' c',slots:=#[]}->acc'.toList.Perm (es.toList.map (·.2))->R (.ok (.ret res)) {s with heap:=h',toks:=tk,drawn:=d}) :
  wpAny (model prog w) A.in1 (Builtin.List.listExtendWith (.ref L) (.ref S) res)
   (λfin s'=>match fin with | .done f=>R (.ok f) s' | .again c'=>c'.quiet=true/\codeAny (model prog w) A c' R s') (λe s'=>R (.error e) s') s:=by
 have hT:s.TypeIs (.ref S) "set":=⟨_,hS.obj,rfl⟩;have hz:es.size<=sizeLine:=fits_of_scanBound hS.few;unfold Builtin.List.listExtendWith;refine WL (wpAny_typeOf hT ?_);have h1:Builtin.List.listSameRef (.ref L) (.ref S)=false:=by simp[Builtin.List.listSameRef,Sw]
 have h2:(Value.type "set"==Value.type "list")=false:=by decide
 have h3:(Value.type "set"==Value.type "tuple")=false:=by decide
 simp only[h1,h2,h3,Bool.or_false,Bool.false_eq_true,if_false];refine WL (ED (A:=A.in1) hh hS λI h1 d fp vs St hk hI hfp W st hvl hpm=>?_);have hLlt:L<s.heap.objs.size:=WO hL;have hLI:L≠I:=Xd (WZ hLlt hI);have hLf:L∉fp:=λhb=>by
  rcases hfp L hb with e|e
  ·exact Sw e
  ·exact Xs hLlt (Nat.not_lt.mpr e)
 have key:∀(h:Heap)(c₁ tk:Nat),St 0 h->(∀b o,b≠L->s.heap.get? b=some o->h.get? b=some o)->
   h.get? L=some {cls:=.type "list",data:=.seq #[] c₁}->codeAny (model prog w) A (.builtin "list.extend.loop" ⟨[.ref L,.ref I,res],[]⟩) R {s with heap:=h,toks:=tk,drawn:=d}:=by
  intro h c₁ tk hst hkk hS₁;refine codeAny_extend_loopS W.toS hz L hLf res es.size 0 _ #[] c₁ rfl (Xe _) hst hS₁ (ItemsOf.nil _) λs' acc' c' hm hS' hacc=>?_;rw[Moved.eq_with hm];refine hR s'.heap s'.toks d acc' c' (λb o hb e=>hm.heap b o (λhmem=>?_) (hkk b o hb e)) hS' ?_
  ·rcases Xa.mp hmem with e'|hmem
   ·exact hb e'
   ·have:=W9.mp hmem;subst this;exact Xs (WO e) (Nat.not_lt.mpr hI)
  ·have ev:acc'.toList=vs:=by
    refine List.ext_getElem? λi=>?_;rw[Array.getElem?_toList];by_cases hlt:i<es.size
    ·have:i<acc'.size:=by rw[hacc.1];exact hlt
     rw[Xk this];exact(hacc.2 i _ (Xk this)).symm
    ·rw[Array.getElem?_eq_none (by rw[hacc.1];omega),List.getElem?_eq_none (by omega)]
   rw[ev];exact hpm
 have hS₁:h1.get? L=some {cls:=.type "list",data:=.seq #[] c₀}:=hk _ _ hL;refine WL (Xm (D9 (s:={s with heap:=h1,drawn:=d}) ⟨_,hk _ _ hS.obj,rfl⟩ ?_));refine wpAny_ite_split (λ_=>?_) (λ_=>WM ⟨plainId_quiet PySem.F.plain_extend_loop _,key _ c₀ _ st (λb o _ e=>hk b o e) hS₁⟩);refine WL (wpAny_rule ?_);refine WL ?_;show wpAny _ _ (updateSeq L (·.push .none) >>= λ_=>updateSeq L (·.pop)) _ _ _;refine WL (wpAny_updateSeq hS₁ rfl ?_);have hS₂:=Heap.get?_update_self (Obj.mapSeq (·.push Value.none)) hS₁ rfl;refine wpAny_updateSeq (hz:=by seq_fits) hS₂ rfl ?_;have hS₃:=Heap.get?_update_self (Obj.mapSeq (·.pop)) hS₂ rfl;refine WM ⟨plainId_quiet PySem.F.plain_extend_loop _,key _ _ _ ?_ (λb o hb e=>?_) hS₃⟩
 ·refine W.frame 0 _ _ st λb hb o e=>?_;have hbS:b≠L:=λh=>hLf (h▸hb);exact(Heap.get?_update_other _ _ (Ne.symm hbS)).trans ((Heap.get?_update_other _ _ (Ne.symm hbS)).trans e)
 ·exact(Heap.get?_update_other _ _ (Ne.symm hb)).trans ((Heap.get?_update_other _ _ (Ne.symm hb)).trans (hk _ _ e))
theorem vY{S:Addr}{ks:List Key}{es:Z3}{ep:Nat}{t:SetTable}{R:Z6->Shared->Prop}(hh:A.handled=none)(hS:fH prog w s.heap S ks es ep t)
  (h:∀(h':Heap)(tk:Nat)(d:Drawn)(vs:Z6),s.heap.objs.size<=h'.objs.size->(∀b o,s.heap.get? b=some o->h'.get? b=some o)->vs.Perm (es.toList.map (·.2))->R vs {s with heap:=h',toks:=tk,drawn:=d}) :
  wpAny (model prog w) A (collect (.ref S)) R E s:=by
 have hlt:S<s.heap.objs.size:=WO hS.obj;unfold collect;refine WL (wpAny_runValue (codeAny_builtin entry_proto_collect' ?_));rw[Around.under_plainId PySem.F.plain_proto_collect _];show wpAny _ A.in1 (newList [] >>= λl=>again (.builtin "list.__iadd__" ⟨[l,.ref S],[]⟩)) _ _ s;refine WL (Xn ?_);refine WM ⟨plainId_quiet PySem.F.plain_list_iadd _,codeAny_builtin entry_list_iadd' ?_⟩;rw[Around.under_plainId PySem.F.plain_list_iadd _];have hL:(s.heap.push {cls:=.type "list",data:=.seq ([]:Z6).toArray}).get? s.heap.objs.size=some {cls:=.type "list",data:=.seq #[]}:=WQ _ rfl;show wpAny _ A.in1 (Builtin.List.listExtendWith (.ref s.heap.objs.size) (.ref S) (.ref s.heap.objs.size)) _ _ _;have key:=yl (A:=A) (s:={s with heap:=s.heap.push {cls:=.type "list",data:=.seq ([]:Z6).toArray}})
  (R:=λ(q:Result) (s':Shared)=>∃(h':Heap)(tk:Nat)(d:Drawn)(acc':Array Value)(c':Nat),q=.ok (.ret (.ref s.heap.objs.size))/\s' ={s with heap:=h',toks:=tk,drawn:=d}/\
   (∀b o,s.heap.get? b=some o->h'.get? b=some o)/\h'.get? s.heap.objs.size=some {cls:=.type "list",dict:=none,data:=.seq acc' c',slots:=#[]}/\acc'.toList.Perm (es.toList.map (·.2)))
  hh (hS.keep λo e=>WN _ e) (Nat.ne_of_gt hlt) (.ref s.heap.objs.size) 0 hL
  (λh' tk d acc' c' hk hS' hacc=>⟨h',tk,d,acc',c',rfl,rfl,λb o e=>hk b o (Xd (WO e)) (WN _ e),hS',hacc⟩)
 refine Xl key (λfin s' x=>?_) λe s' x=>?_
 ·cases fin with
  |done f =>obtain⟨h',tk,d,acc',c',e,rfl,hk,hS',hacc⟩:=x;cases e;show wpAny _ A (load s.heap.objs.size >>= _) _ _ _;refine WL (wpAny_load hS' ?_);exact WM (h h' tk d acc'.toList (Nat.le_of_lt (WO hS')) hk hacc)
  |again c₁ =>refine⟨x.1,codeAny_mono x.2 λq s₂ y=>?_⟩;obtain⟨h',tk,d,acc',c',rfl,rfl,hk,hS',hacc⟩:=y;show wpAny _ A (load s.heap.objs.size >>= _) _ _ _;refine WL (wpAny_load hS' ?_);exact WM (h h' tk d acc'.toList (Nat.le_of_lt (WO hS')) hk hacc)
 ·obtain⟨_,_,_,_,_,e',_⟩:=x;cases e'
theorem xU{S:Addr}{ks:List Key}{es:Z3}{ep:Nat}{t:SetTable}{Q:Z0}(hh:A.handled=none)(hS:fH prog w s.heap S ks es ep t)
  (h:∀(h':Heap)(tk:Nat)(d:Drawn)(vs:Z6),s.heap.objs.size<=h'.objs.size->(∀b o,s.heap.get? b=some o->h'.get? b=some o)->vs.Perm (es.toList.map (·.2))->
   wpAny (model prog w) A.in1 (call (.builtin "list.sort") [.ref h'.objs.size]) (λ_ s'=>Q (.ref h'.objs.size) s') E {s with heap:=h'.push (seqObj "list" vs.toArray 0),toks:=tk,drawn:=d}) :
  wpAny (model prog w) A (call (.builtin "sorted") [.ref S]) Q E s:=by
 refine Calls.call_function_entry kind_sorted plain_sorted entry_sorted (args_sorted1 _) ?_;unfold Builtin.«sorted»;refine WL (m:=checkCount "sorted" 1 1 _) (WM ?_);refine WL (vY (A:=A.in1) hh hS λh' tk d vs hz hk hp=>?_);have hl:vs.length<=sizeLine:=by rw[hp.length_eq,WV,XI];exact fits_of_scanBound hS.few
 refine WL (wpAny_newList ?_ hl);refine WL (Xm (Xl (h h' tk d vs hz hk hp) (λ_ s' x=>?_) λ_ _ e=>e));exact WM ⟨_,rfl,x⟩
end
def wZ(x y:Str):Prop:=x.cps.toList<y.cps.toList
theorem BO:bootBuiltins "set"=some (.type "set"):=by kernel_rfl
theorem Kl{x y:Str}(h:¬y.cps.toList<x.cps.toList)(n:x≠y):wZ x y:=by unfold wZ;have hle:x.cps.toList<=y.cps.toList:=List.not_lt.mp h;refine Decidable.byContradiction λh2=>n ?_;have RB:y.cps.toList<=x.cps.toList:=List.not_lt.mp h2;have e:=List.le_antisymm hle RB;cases x;cases y;simp at e;subst e;rfl
theorem GR{vs:Z6}{ss:List Str}(hS:StrsAre vs ss){xs:Array Keyed}(hp:xs.Perm (pairsOf vs))(hs:SortedToK strKind xs (pairsOf vs).size) :
  ∃ss',StrsAre (xs.map (·.2)).toList ss'/\ss'.Perm ss/\ss'.Pairwise λa b=>¬b.cps.toList<a.cps.toList:=by
 have hl:xs.toList.Perm (vs.zip vs):=by rw[←pairsOf_toList];exact Array.perm_iff_toList_perm.mp hp
 have hmem:∀p,p∈xs.toList->p.1=p.2/\p.1∈vs:=λp hp'=>mem_zip_self (hl.mem_iff.mp hp');refine⟨xs.toList.map (λp=>strOf p.1),?_,?_,?_⟩
 ·have e:(xs.map (·.2)).toList=xs.toList.map (·.1):=by rw[Array.toList_map];exact List.map_congr_left λp hp'=>(hmem p hp').1.symm
  rw[e];have h1:=strsAre_map (xs.toList.map (·.1)) (by intro v hv;obtain⟨p,hp',rfl⟩:=W_.mp hv;exact hS.all _ (hmem p hp').2)
  rwa[List.map_map]at h1
 ·have h1:=hl.map (λp=>strOf p.1);have e2:(vs.zip vs).map (λp=>strOf p.1)=ss:=by
   have:(vs.zip vs).map (λp=>strOf p.1)=((vs.zip vs).map Prod.fst).map strOf:=by rw[List.map_map];rfl
   rw[this,List.map_fst_zip (WR _),hS.strs]
  rwa[e2]at h1
 ·rw[List.pairwise_iff_getElem];intro i j hi hj hij;have hi':i<xs.size:=by simpa using hi
  have hj':j<xs.size:=by simpa using hj
  have h1:=hs i j (Nat.le_of_lt hij) (by rw[←hp.size_eq];exact hj');obtain⟨x,t,ex⟩:=hS.all _ (hmem xs[i] (by simp)).2;obtain⟨y,u,ey⟩:=hS.all _ (hmem xs[j] (by simp)).2;rw[KK_str hi' (x:=x) (t:=t) (q:=xs[i].2) (Prod.ext ex rfl),KK_str hj' (x:=y) (t:=u) (q:=xs[j].2) (Prod.ext ey rfl)]at h1;change decide (y.cps.toList<x.cps.toList)=false at h1;simp only[List.getElem_map,Array.getElem_toList];rw[show strOf xs[i].1=x by rw[ex];rfl,show strOf xs[j].1=y by rw[ey];rfl];exact of_decide_eq_false h1
section
variable{prog:Program}{w:World}{A:Around}{E:Z0}{s:Shared}
theorem BS{a:Addr}{vs:Z6}{ns:List Int}{Q:Z0}(ho:s.heap.get? a=some (seqObj "list" vs.toArray 0))(hI:IntsAre vs ns)(h64:vs.length<64)
  (h:∀(out:Array Value)(ns':List Int),IntsAre out.toList ns'->ns'.Perm ns->ns'.Pairwise (·<=·)->Q .none {s with heap:=sortedHeap s.heap a vs out}):wpAny (model prog w) A (call (.builtin "list.sort") [.ref a]) Q E s :=
 XD slot_list_sort ⟨_,ho,rfl⟩ entry_list_sort (list_sort_tree ho hI h64 λout ns' a1 a2 a3=>⟨_,rfl,h out ns' a1 a2 a3⟩) (args_list_sort _)
theorem BA{a:Addr}{vs:Z6}{ss:List Str}{Q:Z0}(ho:s.heap.get? a=some (seqObj "list" vs.toArray 0))(hS:StrsAre vs ss)(h64:vs.length<64)
  (h:∀(out:Array Value)(ss':List Str),StrsAre out.toList ss'->ss'.Perm ss->(ss'.Pairwise λa b=>¬b.cps.toList<a.cps.toList)->Q .none {s with heap:=sortedHeap s.heap a vs out}):wpAny (model prog w) A (call (.builtin "list.sort") [.ref a]) Q E s :=
 XD slot_list_sort ⟨_,ho,rfl⟩ entry_list_sort (list_sort_treeK strKind_oneLt ho hS.keysOf (λv₁ v₂ rest e=>keyKind_strs (by rw[←e];exact hS)) h64 λst' hp hs=>⟨_,rfl,by obtain⟨ss',h1,h2,h3⟩:=GR hS hp hs;exact h _ ss' h1 h2 h3⟩) (args_list_sort _)
end
def l8(xs ys:List V):Prop :=
 (∃ns ms:List Int,xs=ns.map V.int/\ys=ms.map V.int/\ms.Pairwise (· < ·)/\∀n,n∈ms↔n∈ns)\/∃ns ms:List Str,xs=ns.map V.str/\ys=ms.map V.str/\ms.Pairwise wZ/\∀n,n∈ms↔n∈ns
def Dx(K:XO)(te:TE):TE:=λσ H Q=>te σ H λx H1=>∃a xs,x=.ref a/\(aZ K H1 a xs\/aJ K H1 a xs)/\xs.length<64/\((∃ns:List Int,xs=ns.map V.int)\/∃ss:List Str,xs=ss.map V.str)/\
 ∀p ys,H1 p=none->l8 xs ys->Q (.ref p) (upd H1 p (.lst ys))
theorem LF{ms ms':List Int}(h:ms.Pairwise (·<=·))(n:ms.Nodup):ms.Pairwise (· < ·):=by rw[List.pairwise_iff_getElem]at h⊢;intro i j hi hj hij;have h1:=h i j hi hj hij;have h2:=List.pairwise_iff_getElem.mp n i j hi hj hij;omega
theorem yu{ns:List Int}:∀{us:Z6},IntsAre us ns->Vals (ns.map V.int) us:=by
 induction ns with
 |nil=>intro us r;cases r;exact .nil
 |cons y ys ih=>intro us r;cases r with|cons _ t r=>exact .cons ⟨t,rfl⟩ (ih r)
theorem xp{ns:List Str}:∀{us:Z6},StrsAre us ns->Vals (ns.map V.str) us:=by
 induction ns with
 |nil=>intro us r;cases r;exact .nil
 |cons y ys ih=>intro us r;cases r with|cons _ t r=>exact .cons ⟨t,rfl⟩ (ih r)
def keyV:V->Key
 | .int n=>.inl n
 | .str x=>.inr x
 |_=>.inl 0
def jR(xs:List V)(i:Nat):Key:=((xs[i]?).map keyV).getD (.inl 0)
theorem j3{xs:List V}{k:Key}:k∈lb (jR xs) xs.length↔∃x∈xs,keyV x=k:=by
 rw[wO];constructor
 ·rintro⟨j,hj,e⟩;refine⟨xs[j],List.getElem_mem hj,?_⟩;unfold jR at e;rw[W0 hj]at e;exact e
 ·rintro⟨x,hx,e⟩;obtain⟨j,hj,rfl⟩:=List.mem_iff_getElem.mp hx;refine⟨j,hj,?_⟩;unfold jR;rw[W0 hj];exact e
theorem EU{xs:List V}{its:Z6}(r:Vals xs its)(hx:∀x∈xs,(∃n,x=.int n)\/∃y,x=.str y)(i:Nat)(v:Value)(e:its.toArray[i]? = some v):gx (jR xs i) v=true/\v.scannable=true:=by
 have e':its[i]? = some v:=by simpa using e
 have hl:=r.length;have hi:i<xs.length:=by rw[hl];exact(W8.mp e').1
 obtain⟨u,hu,ru⟩:=r.get (W0 hi);rw[e']at hu;cases hu;have ek:jR xs i=keyV xs[i]:=by unfold jR;rw[W0 hi];rfl
 rw[ek];rcases hx xs[i] (List.getElem_mem hi)with⟨n,q⟩|⟨y,q⟩
 ·rw[q]at ru⊢;obtain⟨t,rfl⟩:=ru;exact⟨mK n t,rfl⟩
 ·rw[q]at ru⊢;obtain⟨t,rfl⟩:=ru;exact⟨mF y t,rfl⟩
section
variable{X:Cx}{e:Expr}{te:TE}{p1 p2 pos pos2:Pos}
theorem vJ{ac:Z1}{σ:St}{H:Hp}{s:Shared}{Q:VK}{S:Addr}{xs:List V}{es:Z3}{ep:Nat}{t:SetTable}(hc:X.calm=true)(I:Inv X ac σ H s)(hS:fH X.prog X.w s.heap S (lb (jR xs) xs.length) es ep t)(h64:xs.length<64)
  (hx:(∃ns:List Int,xs=ns.map V.int)\/∃ss:List Str,xs=ss.map V.str) (q:∀p ys,H p=none->l8 xs ys->Q (.ref p) (upd H p (.lst ys))) :
  wpAny (model X.prog X.w) X.A (call (.builtin "sorted") [.ref S]) (EP X ac σ Q) X.xe s:=by
 refine xU (I.ok.hd hc) hS λh' tk d vs hz hk hp=>?_;have hn:H h'.objs.size=none:=I.hok.fresh hz;have hperm:(vs.map B9).Perm (lb (jR xs) xs.length):=by refine(hp.map B9).trans ?_;rw[List.map_map];exact hS.keys
 have hlen:vs.length<64:=by have h1:=hperm.length_eq;have h2:=pA (jR xs) xs.length;rw[WV]at h1;omega
 have hel:∀v∈vs,∃k,gx k v=true/\k∈lb (jR xs) xs.length:=λv hv=>by obtain⟨e,he,rfl⟩:=W_.mp (hp.mem_iff.mp hv);obtain⟨⟨k,hk',_⟩,_⟩:=hS.els e he;exact⟨k,hk',hS.mem.mp ⟨e,he,hk'⟩⟩
 have hob:(h'.push (seqObj "list" vs.toArray 0)).get? h'.objs.size=some (seqObj "list" vs.toArray 0):=WQ _ rfl;have fin:∀(ys:List V)(out:Array Value),Vals ys out.toList->ys.length<64->l8 xs ys->EP X ac σ Q (.ref h'.objs.size) {s with heap:=sortedHeap (h'.push (seqObj "list" vs.toArray 0)) h'.objs.size vs out,toks:=tk,drawn:=d}:=λys out r hl so=>by
  have keep:∀b o,s.heap.get? b=some o->(sortedHeap (h'.push (seqObj "list" vs.toArray 0)) h'.objs.size vs out).get? b=some o:=λb o e=>by have hb:=hk b o e;have hlt:=WO hb;rw[sortedHeap_old (Xd hlt) (by rw[size_push'];exact Nat.lt_succ_of_lt hlt)];exact WN _ hb
  obtain⟨c,hat⟩ :∃c,(sortedHeap (h'.push (seqObj "list" vs.toArray 0)) h'.objs.size vs out).get? h'.objs.size=some (seqObj "list" out c):=sortedHeap_at hob;have hobj:cw X.prog X.w (upd H h'.objs.size (.lst ys)) (sortedHeap (h'.push (seqObj "list" vs.toArray 0)) h'.objs.size vs out) h'.objs.size (.lst ys):=⟨by rw[sizeLine_eq];omega,out.toList,c,r,by rw[hat]⟩;refine⟨.ref h'.objs.size,upd H h'.objs.size (.lst ys),?_,rfl,q _ _ hn so⟩;exact I.call' (s':={s with heap:=sortedHeap (h'.push (seqObj "list" vs.toArray 0)) h'.objs.size vs out,toks:=tk,drawn:=d}) (ch:=[]) rfl (Un.laid keep hz hn) (I.hok.laid keep hz hobj) I.bare λb hb=>Xs hb (by simp)
 rcases hx with⟨ns,rfl⟩|⟨ss,rfl⟩
 ·have hint:∀v∈vs,∃n t,v=Value.int n t:=λv hv=>by
   obtain⟨k,hk1,hk2⟩:=hel v hv;obtain⟨x,hx,e⟩:=j3.mp hk2;obtain⟨n,hn',rfl⟩:=W_.mp hx;subst e;rcases bH hk1 with⟨i,t,e1,e2⟩|⟨y,t,e1,e2⟩
   ·exact⟨i,t,e2⟩
   ·cases e1
  have hI:=intsAre_map vs hint;refine BS hob hI hlen λout ns' a1 a2 a3=>?_;have ek:vs.map B9=(vs.map numOf).map Sum.inl:=by rw[List.map_map];refine List.map_congr_left λv hv=>?_;obtain⟨n,t,rfl⟩:=hint v hv;rfl
  have BD:ns'.Nodup:=by refine a2.nodup_iff.mpr ?_;have h1:=hperm.nodup_iff.mpr hS.O_;rw[ek]at h1;exact(List.pairwise_map.mp h1).imp λhne e=>hne (congrArg _ e)
  refine fin (ns'.map V.int) out (yu a1) (by rw[WV,a2.length_eq,WV];exact hlen) (.inl ⟨ns,ns',rfl,rfl,LF (ms':=[]) a3 BD,λn=>?_⟩);rw[a2.mem_iff];have:n∈vs.map numOf↔(Sum.inl n:Key)∈vs.map B9:=by
   rw[ek];constructor
   ·exact λh=>W_.mpr ⟨n,h,rfl⟩
   ·intro h;obtain⟨m,hm,e⟩:=W_.mp h;cases e;exact hm
  rw[this,hperm.mem_iff,j3];constructor
  ·rintro⟨x,hx,e⟩;obtain⟨m,hm,rfl⟩:=W_.mp hx;cases e;exact hm
  ·exact λh=>⟨.int n,W_.mpr ⟨n,h,rfl⟩,rfl⟩
 ·have hstr:∀v∈vs,∃n t,v=Value.str n t:=λv hv=>by
   obtain⟨k,hk1,hk2⟩:=hel v hv;obtain⟨x,hx,e⟩:=j3.mp hk2;obtain⟨n,hn',rfl⟩:=W_.mp hx;subst e;rcases bH hk1 with⟨i,t,e1,e2⟩|⟨y,t,e1,e2⟩
   ·cases e1
   ·exact⟨y,t,e2⟩
  have hI:=strsAre_map vs hstr;refine BA hob hI hlen λout ns' a1 a2 a3=>?_;have ek:vs.map B9=(vs.map strOf).map Sum.inr:=by rw[List.map_map];refine List.map_congr_left λv hv=>?_;obtain⟨n,t,rfl⟩:=hstr v hv;rfl
  have BD:ns'.Nodup:=by refine a2.nodup_iff.mpr ?_;have h1:=hperm.nodup_iff.mpr hS.O_;rw[ek]at h1;exact(List.pairwise_map.mp h1).imp λhne e=>hne (congrArg _ e)
  refine fin (ns'.map V.str) out (xp a1) (by rw[WV,a2.length_eq,WV];exact hlen) (.inr ⟨ss,ns',rfl,rfl,?_,λn=>?_⟩)
  ·rw[List.pairwise_iff_getElem]at a3⊢;intro i j hi hj hij;exact Kl (a3 i j hi hj hij) (List.pairwise_iff_getElem.mp BD i j hi hj hij)
  rw[a2.mem_iff];have:n∈vs.map strOf↔(Sum.inr n:Key)∈vs.map B9:=by
   rw[ek];constructor
   ·exact λh=>W_.mpr ⟨n,h,rfl⟩
   ·intro h;obtain⟨m,hm,e⟩:=W_.mp h;cases e;exact hm
  rw[this,hperm.mem_iff,j3];constructor
  ·rintro⟨x,hx,e⟩;obtain⟨m,hm,rfl⟩:=W_.mp hx;cases e;exact hm
  ·exact λh=>⟨.str n,W_.mpr ⟨n,h,rfl⟩,rfl⟩
theorem lq(hc:X.calm=true)(hg1:Gl X "sorted")(hm1:X.mg "sorted"=none)(hg2:Gl X "set")(hm2:X.mg "set"=none)(he:PE X e te)(hs1:starEach [e] X.env=[(false,eval e X.env)]:=by rfl)
  (hs2:starEach [Expr.Call (.Name "set" p2) [e] [] pos2] X.env=[(false,eval (.Call (.Name "set" p2) [e] [] pos2) X.env)]:=by rfl) :
  PE X (.Call (.Name "sorted" p1) [.Call (.Name "set" p2) [e] [] pos2] [] pos) (Dx X.K te):=by
 intro ac s σ H Q I h;refine wpAny_Call_Name_kw (iR I hg1 hm1 boot_sorted ?_ (by decide) (by decide));refine PyProof.Rows.callWith_builtin1 ?_ hs2 rfl;rw[hs2];refine Calls.spliced_cons ?_;refine wpAny_Call_Name_kw (iR I hg2 hm2 BO ?_ (by decide) (by decide));refine PyProof.Rows.callWith_type1 ?_ hs1 rfl;rw[hs1];refine Calls.spliced_cons (bZ (he ac s σ H _ I h) λu s1 zz=>?_);obtain⟨x,H1,I1,r1,a,xs,ex,NV,h64,hx,q⟩:=zz;refine Calls.spliced_nil ?_;subst ex;cases r1;have hx':∀x∈xs,(∃n,x=.int n)\/∃y,x=.str y:=λx RV=>by
  rcases hx with⟨ns,rfl⟩|⟨ss,rfl⟩
  ·obtain⟨n,_,rfl⟩:=W_.mp RV;exact .inl ⟨n,rfl⟩
  ·obtain⟨n,_,rfl⟩:=W_.mp RV;exact .inr ⟨n,rfl⟩
 have go:∀{T:String}{its:Z6}{o:Obj},sZ X.prog X.w T a its.toArray->Vals xs its->s1.heap.get? a=some o->o.cls=.type T->(∃n,o.data=.seq its.toArray n)->
   wpAny (model X.prog X.w) X.A (call (.type "set") [.ref a]) (λv s2=>wpAny (model X.prog X.w) X.A (spliced []) (λvs s3=>wpAny (model X.prog X.w) X.A (call (.builtin "sorted") (v::vs)) (EP X ac σ Q) X.xe s3) X.xe s2) X.xe s1:=λ{T its o} src r ho hcl hd=>by
  have hl:=r.length;refine wo (key:=jR xs) src (I1.ok.hd hc) ho hcl hd (EU r hx') (by simp[scanBound];omega) λh' tk es ep t hS hk=>?_;refine Calls.spliced_nil ?_;have UL:its.toArray.size=xs.length:=by rw[W7,hl]
  rw[UL]at hS;exact vJ hc (I1.kept (t':=tk) hk) hS h64 hx q
 rcases NV with NV|NV
 ·obtain⟨its,r,pl,_⟩:=I1.list NV;obtain⟨o,ho,hcl,hd⟩:=pl.isList;exact go src_list r ho hcl hd
 ·obtain⟨its,r,pl,_⟩:=I1.tuple NV;obtain⟨o,ho,hcl,hd⟩:=pl;exact go Ht r ho hcl hd
end
end L2
namespace CS
open PySem L2
theorem xt{x:Str}(h:wZ x x):False:=List.lt_irrefl _ h
theorem FI{ws:List Str}(h:ws.Pairwise wZ):ws.Nodup:=h.imp λhl e=>by subst e;exact xt hl
end CS
namespace My
open PySem L2 CS
abbrev xI:Stmt:=top 58
abbrev yN:Stmt:=top 59
abbrev Kj:Stmt:=top 60
abbrev uK:Stmt:=top 61
abbrev qm:Stmt:=top 62
abbrev zk:Stmt:=top 63
abbrev y4:Stmt:=top 64
abbrev uu:Stmt:=top 65
abbrev yb:Stmt:=top 66
abbrev tQ:Stmt:=top 67
abbrev yD:Stmt:=top 68
theorem IA:ay ZG ZG (ar xI):=fs
theorem GN:ay ZG ZG (ar yN):=fs
theorem Ck:ay ["_law_pot_here","_law_sort","_law_low","_law_some"] ZG (ar Kj):=fs
theorem Ep:ay ZJ ZJ (ar uK):=fs
theorem AJ:ay ["_law_pot_here","_law_head","_law_many_here"] ["_law_pot_here","_law_head","_law_many_here"] (ar qm):=fs
theorem GW:ay ZF ZF (ar y4):=fs
structure iY(mg:Z2):Prop where
 int:mg "int"=none
 min:mg "min"=none
 all:mg "all"=none
 sorted:mg "sorted"=none
 set:mg "set"=none
def dP(v:V):Prop:=(∃n,v=.int n)\/∃x,v=.str x
structure c_(K:XO)(H:Hp)(a:Addr)(hs:List Str):Prop where
 tup:H a=some (.tup (hs.map V.str))
 pos:1<=hs.length
 few:hs.length<=6
theorem c_.grow{K:XO}{p a:Addr}{H H1:Hp}{hs:List Str}(hP:dh H p)(g:bo p H H1)(h:c_ K H a hs):c_ K H1 a hs :=
 ⟨g.keep _ _ (λz=>by obtain⟨x,y,e,_⟩:=hP;have:=h.tup;rw[z,e]at this;cases this) h.tup,h.pos,h.few⟩
def uM:Sp:=λvs H Q _=>∃(p:Addr)(s:Str),vs=[.ref p,.str s]/\dh H p/\∀x H',bo p H H'->Q (.str x) H'
def tL:Sp:=λvs H Q _=>∃(p:Addr)(s:Str),vs=[.ref p,.str s]/\dh H p/\∀v H',bo p H H'->dP v->Q v H'
def iD(K:XO):Sp:=λvs H Q _=>∃(p a:Addr)(hs:List Str),vs=[.ref p,.ref a]/\dh H p/\c_ K H a hs/\∀(n:Int) H',bo p H H'->1<=n->n<=12->Q (.int n) H'
def mh(K:XO):Sp:=λvs H Q _=>∃(p a:Addr)(hs:List Str)(m:Int),vs=[.ref p,.ref a,.int m]/\dh H p/\c_ K H a hs/\0<=m/\m<=10/\∀t (ns:List Int) H',bo p H H'->H' t=some (.tup (ns.map V.int))->ns.length=m.toNat->(∀n∈ns,1<=n)->Q (.ref t) H'
def ux:Sp:=λvs H Q _=>∃(p:Addr),vs=[.ref p]/\dh H p/\∀x H',bo p H H'->Q (.str x) H'
theorem rM{m:Int}(h0:0<m)(h1:m<=1000):m.natAbs.log2<9000:=WY (Nat.log2_le_self _) (by omega)
theorem ke{j:Int}(h:0<=j)(h1:j<=1000):-(2 ^ 62)<=j/\j<2 ^ 62:=by
 have e:((2:Int) ^ 62)=4611686018427387904:=by decide
 rw[e];omega
variable{P:Program}{w:World}{K:XO}{mg:Z2}{base:Heap}
theorem Cn(B2:iY mg)(F:FA K mg "_law_a_sort" xI)(G:bc bf P w K mg base 1 "_law_draw" ZD dn) :
  bc bf P w K mg base 2 "_law_a_sort" ZG uM:=by
 refine F.ok IA λf cdv A outer s H vs Q E hr h=>?_;obtain⟨p,x,rfl,hP,q⟩:=h;refine⟨_,aq (dg (aX aQ (ax G hr (ae (pv 0) (ae ai ah))) ai) (av (bp K (aP (ae ao (ae ao ah))) (ax G hr (ae (pv 0) (ae ai ah))))) bU)
  (av (bp K (aP (ae ao (ae (pv 1) ah))) (aU cB rfl B2.int XB (ae (bY nu (pv 1) ao) ah)))),?_⟩
 refine⟨_,rfl,p,_,rfl,hP,by decide,by decide,λe1 H1 g1 a1 b1=>⟨rfl,_,rfl,?_⟩⟩;refine cG (λ_=>?_) (λ_=>?_)
 ·refine⟨cN,λD hD=>?_⟩;have g2:=g1.new (o:=.lst [.str "n",.str "w"]) hD;refine⟨_,rfl,p,_,rfl,g2.cn,by decide,by decide,λe2 H2 g3 a2 b2=>?_⟩;have hd:e2=0\/e2=1:=by omega
  have hk:=g3.keep D _ (g1.ne hD) ag;rcases hd with z|z<;>subst z
  ·exact⟨D,_,_,_,rfl,rfl,aZ.of hk,rfl,q _ _ (g2.trans g3)⟩
  ·exact⟨D,_,_,_,rfl,rfl,aZ.of hk,rfl,q _ _ (g2.trans g3)⟩
 ·refine⟨_,rfl,cN,λD hD=>?_⟩;have g2:=g1.new (o:=.lst [.str "n",.str x]) hD;refine⟨_,rfl,rfl,.inr ⟨_,rfl,?_⟩⟩;have qG:∃z:Str,jo [V.str "n",V.str x] (if(!decide (V.str x=V.str "t"))=true then 1 else 0)=some (.str z):=by
   cases(!decide (V.str x=V.str "t"))
   ·exact⟨_,rfl⟩
   ·exact⟨_,rfl⟩
  obtain⟨z,hz⟩:=qG;exact⟨D,_,_,_,rfl,rfl,aZ.of ag,hz,q z _ g2⟩
theorem Cz(F:FA K mg "_law_cell" yN)(G:bc bf P w K mg base 2 "_law_a_sort" ZG uM)(G3:bc bf P w K mg base 2 "_law_word" ZF uG)(G2:bc bf P w K mg base 2 "_law_number" ZF ql) :
  bc bf P w K mg base 3 "_law_cell" ZG tL:=by
 refine F.ok GN λf cdv A outer s H vs Q E hr h=>?_;obtain⟨p,x,rfl,hP,q⟩:=h;refine⟨_,aq (dg (aX aQ (ax G hr (ae (pv 0) (ae (pv 1) ah))) ao) (av (ax G3 hr (ae (pv 0) ah))) bU)
  (av (ax G2 hr (ae (pv 0) ah))),?_⟩
 refine⟨_,rfl,_,rfl,p,x,rfl,hP,λy H1 g1=>⟨rfl,_,rfl,?_⟩⟩;refine cG (λ_=>?_) (λ_=>?_)
 ·exact⟨_,rfl,p,rfl,g1.cn,λz H2 g2 n1=>q _ _ (g1.trans g2) (.inr ⟨z,rfl⟩)⟩
 ·exact⟨_,rfl,p,rfl,g1.cn,λn H2 g2 n1 n2=>q _ _ (g1.trans g2) (.inl ⟨n,rfl⟩)⟩
theorem Bx(B:kf mg)(F:FA K mg "_law_column" uK)(G:bc bf P w K mg base 1 "_law_draw" ZD dn) :
  bc bf P w K mg base 2 "_law_column" ZJ (iD K):=by
 refine F.ok Ep λf cdv A outer s H vs Q E hr h=>?_;obtain⟨p,a,hs,rfl,hP,hh,q⟩:=h;refine⟨_,aq (dg (aX aQ (ax G hr (ae (pv 0) (ae ai ah))) ai) (av (aF cR ai (ax G hr (ae (pv 0) (ae ai ah))))) bU)
  (av (aF cR ai (ax G hr (ae (pv 0) (ae (aW bt rfl B.len XM (ae (pv 1) ah)) ah))))),?_⟩
 refine⟨_,rfl,p,_,rfl,hP,by decide,by decide,λe1 H1 g1 a1 b1=>⟨rfl,_,rfl,?_⟩⟩;refine cG (λ_=>?_) (λ_=>?_)
 ·exact⟨_,rfl,p,_,rfl,g1.cn,by decide,by decide,λe2 H2 g2 a2 b2=>⟨_,_,rfl,rfl,q _ _ (g1.trans g2) (by omega) (by omega)⟩⟩
 ·have h1:=hh.grow hP g1;have hl:(hs.map V.str).length=hs.length:=WV _;have:=hh.pos;have:=hh.few;exact⟨_,rfl,_,rfl,a,_,rfl,.inr (aJ.of h1.tup),p,_,rfl,g1.cn,by omega,rM (by omega) (by omega),λe2 H2 g2 a2 b2=>⟨_,_,rfl,rfl,q _ _ (g1.trans g2) (by omega) (by omega)⟩⟩
theorem xN(B:kf mg)(F:FA K mg "_law_columns" qm)(G:bc bf P w K mg base 2 "_law_column" ZJ (iD K)) :
  bc bf P w K mg base 3 "_law_columns" ["_law_pot_here","_law_head","_law_many_here"] (mh K):=by
 refine F.ok AJ λf cdv A outer s H vs Q E hr h=>?_;obtain⟨p,a,hs,m,rfl,hP,hh,m0,m1,q⟩:=h;refine⟨_,bA (CD (aU bE rfl B.tuple XA (ae (bz (N':=["_law_k","_law_pot_here","_law_head"]) (src:=[none,some 0,some 1]) rfl (ba.j5 (by kernel_rfl)) (dA rfl B.range (ae (pv 2) ah)) (λcl C s H fp=>eE (i:=0)) (λcl C s H fp=>aY)
   (λcl C s H fp=>ax (hg:=xS) G hr (ae (Ae 1) (ae (Ae 2) ah)))) ah))),?_⟩
 have g0:=bo.refl hP;refine⟨_,rfl,m,rfl,(ke m0 (by omega)).1,(ke m0 (by omega)).2,λD hD=>?_⟩;have nD:=g0.ne hD;refine iZ (n:=m.toNat) (λi σ ys H'=>(∃o,σ=[o,some (.ref p),some (.ref a)])/\(∃ns:List Int,ys=ns.map V.int/\ns.length=i/\∀n∈ns,1<=n)/\H' D=some (.lst ys)/\bo p H H')
  ⟨⟨none,rfl⟩,⟨[],rfl,rfl,by simp⟩,ag,g0.new hD⟩ ?_ ?_ ?_ ?_
 ·rintro i σ ys H' _ ⟨_,⟨ns,rfl,rfl,_⟩,h,_⟩;exact⟨h,by rw[WV];exact WR _⟩
 ·exact WS (show m.toNat<=10 by omega) (by decide)
 ·rintro i σ ys H' hi ⟨⟨o,rfl⟩,⟨ns,rfl,rfl,hp⟩,h,g⟩;exact⟨_,rfl,_,rfl,p,a,hs,rfl,g.cn,hh.grow hP g,λn H2 g2 n1 n2=>⟨g2.keep D _ nD h,⟨_,rfl⟩,⟨ns++[n],by rw[WX];rfl,by rw[WW];rfl,λk hk=>by rcases Xc.mp hk with z|z;exact hp k z;rw[W9.mp z];exact n1⟩,ag,g0.put hD nD (g.trans g2)⟩⟩
 ·rintro σ ys H' ⟨_,⟨ns,rfl,hn,hp⟩,h,g⟩;exact⟨D,_,rfl,.inl ⟨aZ.of h,λt ht=>q t ns _ (g.new ht) ag hn hp⟩⟩
theorem Fj(F:FA K mg "_law_state" y4)(G:bc bf P w K mg base 2 "_law_draw" ZD dn)(G3:bc bf P w K mg base 2 "_law_word" ZF uG) :
  bc bf P w K mg base 3 "_law_state" ZF ux:=by
 refine F.ok GW λf cdv A outer s H vs Q E hr h=>?_;obtain⟨p,rfl,hP,q⟩:=h;refine⟨_,aq (dg (aX aQ (ax G hr (ae (pv 0) (ae ai ah))) ai) (av (ax G3 hr (ae (pv 0) ah))) bU)
  (av (bp K (aP (ae ao (ae ao (ae ao ah)))) (ax G hr (ae (pv 0) (ae ai ah))))),?_⟩
 refine⟨_,rfl,p,_,rfl,hP,by decide,by decide,λe1 H1 g1 a1 b1=>⟨rfl,_,rfl,?_⟩⟩;refine cG (λ_=>?_) (λ_=>?_)
 ·exact⟨_,rfl,p,rfl,g1.cn,λz H2 g2 n1=>q _ _ (g1.trans g2)⟩
 ·refine⟨f9,λD hD=>?_⟩;have g2:=g1.new (o:=.lst [.str "s",.str "t",.str "u"]) hD;refine⟨_,rfl,p,_,rfl,g2.cn,by decide,by decide,λe2 H2 g3 a2 b2=>?_⟩;have hd:e2=0\/e2=1\/e2=2:=by omega
  have hk:=g3.keep D _ (g1.ne hD) ag;rcases hd with z|z|z<;>subst z
  ·exact⟨D,_,_,_,rfl,rfl,aZ.of hk,rfl,q _ _ (g2.trans g3)⟩
  ·exact⟨D,_,_,_,rfl,rfl,aZ.of hk,rfl,q _ _ (g2.trans g3)⟩
  ·exact⟨D,_,_,_,rfl,rfl,aZ.of hk,rfl,q _ _ (g2.trans g3)⟩
end My
namespace My
open PySem L2
theorem iM{p a:Addr}{H H':Hp}{xs:List V}(hP:dh H p)(g:bo p H H')(e:H a=some (.tup xs)):H' a=some (.tup xs):=g.keep _ _ (λz=>by obtain⟨x,y,e2,_⟩:=hP;rw[z,e2]at e;cases e) e
def aD(H H':Hp):Prop:=∀a xs,H a=some (.tup xs)->H' a=some (.tup xs)
theorem aD.of{H H':Hp}(s:aM H H'):aD H H':=λ_ _ e=>s _ _ e
theorem aD.grow{p:Addr}{H H':Hp}(hP:dh H p)(g:bo p H H'):aD H H':=λa xs e=>iM hP g e
abbrev Hd:=List Str
theorem bu{H H':Hp}{D:Addr}{o:HO}(hD:H D=none)(s:aM H H'):aM H (upd H' D o):=λb u e=>by rw[aI (aV e hD)];exact s _ _ e
theorem take_one{α:Type}{ws:List α}{i:Nat}{w:α}(h:ws[i]? = some w):ws.take (i+1)=ws.take i++[w]:=by rw[List.take_add_one,h];rfl
theorem aG{D:Ends}{σ:St}{H:Hp}(h:D.nx σ H):C3 D σ H:=h
def sW:V->Str
 | .str _=>"w"
 |_=>"n"
def bx(hd:Hd)(c:Int):Str:=hd.getD (c-1).toNat ""
inductive W1 where
 |keep (c:Int) (t:Str)
 |same (c d:Int)
 |cut (cs:List Int)
 |turn (c:Int) (ps:List (V×V))
 |must (c:Int) (ps:List (V×V))
 |walk (c:Int) (mv:List V)
 |sort (cs:List Int)
 |apart
 |count (cs:List Int)
 |sum (cs:List Int) (c:Int)
 |number
 |first (n:Int)
inductive Wk where
 |one (x:W1)
 |both (p q:List Wk)
 |meet (c d:Int) (p q:List Wk)
def W1.nm:W1->Str
 | .keep ..=>"keep"
 | .same ..=>"same"
 | .cut ..=>"cut"
 | .turn ..=>"turn"
 | .must ..=>"must"
 | .walk ..=>"walk"
 | .sort ..=>"sort"
 | .apart=>"apart"
 | .count ..=>"count"
 | .sum ..=>"sum"
 | .number=>"number"
 | .first ..=>"first"
def Wk.nm:Wk->Str
 | .one x=>x.nm
 | .both ..=>"both"
 | .meet ..=>"meet"
structure bR{α:Type}(At:Hp->Addr->α->Prop)(H:Hp)(p:Addr)(bs:Z8)(xs:List α):Prop where
 tup:H p=some (.tup (bs.map V.ref))
 len:bs.length=xs.length
 at_:∀(i:Nat) a x,bs[i]? = some a->xs[i]? = some x->At H a x
theorem bR.keep{α:Type}{At:Hp->Addr->α->Prop}{H H':Hp}{p:Addr}{bs:Z8}{xs:List α}(k:aD H H')(kA:∀a x,At H a x->At H' a x)(h:bR At H p bs xs):bR At H' p bs xs:=⟨k _ _ h.tup,h.len,λi a x e1 e2=>kA _ _ (h.at_ i a x e1 e2)⟩
theorem bR.get{α:Type}{At:Hp->Addr->α->Prop}{H:Hp}{p:Addr}{bs:Z8}{xs:List α}(h:bR At H p bs xs){i:Nat}{x:V}(hx:(bs.map V.ref)[i]? = some x):∃(a:Addr)(y:α),x=.ref a/\xs[i]? = some y/\At H a y:=by
 rw[Xi]at hx;cases e:bs[i]? with
 |none=>rw[e]at hx;cases hx
 |some b =>
  rw[e]at hx;have hx':V.ref b=x:=Xf hx;subst hx';have hi:i<xs.length:=by rw[←h.len];exact(W8.mp e).1
  have er:xs[i]? = some xs[i]:=W0 hi;exact⟨b,xs[i],rfl,er,h.at_ i b _ e er⟩
abbrev lh(H:Hp)(a:Addr)(p:V×V):Prop:=H a=some (.tup [p.1,p.2])
def AV(H:Hp)(a:Addr)(v:V):Prop:=∃s t,H a=some (.tup [.str s,v,.str t])
def Bc(H:Hp)(a:Addr)(c:Int):Prop:=∃b,H a=some (.tup [.int c,.bl b])
def kh(H:Hp)(a:Addr):W1->Prop
 | .keep c t=>∃s xs,H a=some (.tup [.str "keep",.int c,.ref s])/\H s=some (.tup (.str t::xs))
 | .same c d=>H a=some (.tup [.str "same",.int c,.int d])
 | .cut cs=>∃t,H a=some (.tup [.str "cut",.ref t])/\H t=some (.tup (cs.map V.int))
 | .turn c ps=>∃t bs,H a=some (.tup [.str "turn",.int c,.ref t])/\bR lh H t bs ps
 | .must c ps=>∃t bs,H a=some (.tup [.str "must",.int c,.ref t])/\bR lh H t bs ps
 | .walk c mv=>∃s t bs,H a=some (.tup [.str "walk",.int c,.str s,.ref t])/\bR AV H t bs mv
 | .sort cs=>∃t bs,H a=some (.tup [.str "sort",.ref t])/\bR Bc H t bs cs
 | .apart=>H a=some (.tup [.str "apart"])
 | .count cs=>∃t,H a=some (.tup [.str "count",.ref t])/\H t=some (.tup (cs.map V.int))
 | .sum cs c=>∃t,H a=some (.tup [.str "sum",.ref t,.int c])/\H t=some (.tup (cs.map V.int))
 | .number=>H a=some (.tup [.str "number"])
 | .first n=>H a=some (.tup [.str "first",.int n])
theorem AV.keep{H H':Hp}(k:aD H H'){a:Addr}{v:V}(h:AV H a v):AV H' a v:=by obtain⟨s,t,h⟩:=h;exact⟨s,t,k _ _ h⟩
theorem Bc.keep{H H':Hp}(k:aD H H'){a:Addr}{c:Int}(h:Bc H a c):Bc H' a c:=by obtain⟨b,h⟩:=h;exact⟨b,k _ _ h⟩
theorem kh.keep{H H':Hp}{a:Addr}{x:W1}(k:aD H H')(h:kh H a x):kh H' a x:=by
 cases x with
 |keep c t=>obtain⟨s,xs,h1,h2⟩:=h;exact⟨s,xs,k _ _ h1,k _ _ h2⟩
 |same c d=>exact k _ _ h
 |cut cs=>obtain⟨t,h1,h2⟩:=h;exact⟨t,k _ _ h1,k _ _ h2⟩
 |turn c ps=>obtain⟨t,bs,h1,h2⟩:=h;exact⟨t,bs,k _ _ h1,h2.keep k λ_ _ z=>k _ _ z⟩
 |must c ps=>obtain⟨t,bs,h1,h2⟩:=h;exact⟨t,bs,k _ _ h1,h2.keep k λ_ _ z=>k _ _ z⟩
 |walk c mv=>obtain⟨s,t,bs,h1,h2⟩:=h;exact⟨s,t,bs,k _ _ h1,h2.keep k λ_ _ z=>z.keep k⟩
 |sort cs=>obtain⟨t,bs,h1,h2⟩:=h;exact⟨t,bs,k _ _ h1,h2.keep k λ_ _ z=>z.keep k⟩
 |apart=>exact k _ _ h
 |count cs=>obtain⟨t,h1,h2⟩:=h;exact⟨t,k _ _ h1,k _ _ h2⟩
 |sum cs c=>obtain⟨t,h1,h2⟩:=h;exact⟨t,k _ _ h1,k _ _ h2⟩
 |number=>exact k _ _ h
 |first n=>exact k _ _ h
theorem kh.first{H:Hp}{a:Addr}{x:W1}(h:kh H a x):∃xs,H a=some (.tup (.str x.nm::xs)):=by
 cases x with
 |keep c t=>obtain⟨s,xs,h1,h2⟩:=h;exact⟨_,h1⟩
 |same c d=>exact⟨_,h⟩
 |cut cs=>obtain⟨t,h1,h2⟩:=h;exact⟨_,h1⟩
 |turn c ps=>obtain⟨t,bs,h1,h2⟩:=h;exact⟨_,h1⟩
 |must c ps=>obtain⟨t,bs,h1,h2⟩:=h;exact⟨_,h1⟩
 |walk c mv=>obtain⟨s,t,bs,h1,h2⟩:=h;exact⟨_,h1⟩
 |sort cs=>obtain⟨t,bs,h1,h2⟩:=h;exact⟨_,h1⟩
 |apart=>exact⟨_,h⟩
 |count cs=>obtain⟨t,h1,h2⟩:=h;exact⟨_,h1⟩
 |sum cs c=>obtain⟨t,h1,h2⟩:=h;exact⟨_,h1⟩
 |number=>exact⟨_,h⟩
 |first n=>exact⟨_,h⟩
def dv:Nat->Hp->Addr->Wk->Prop
 |_,H,a,.one x=>kh H a x
 | 0,_,_,_=>False
 |n+1,H,a,.both p q=>∃b c bs cs,H a=some (.tup [.str "both",.ref b,.ref c])/\bR (dv n) H b bs p/\bR (dv n) H c cs q
 |n+1,H,a,.meet c d p q=>∃b e bs es,H a=some (.tup [.str "meet",.int c,.int d,.ref b,.ref e])/\bR (dv n) H b bs p/\bR (dv n) H e es q
abbrev jP(n:Nat)(H:Hp)(p:Addr)(ws:List Wk):Prop:=∃bs,bR (dv n) H p bs ws
theorem dv.keep{H H':Hp}(k:aD H H'):∀{n:Nat}{a:Addr}{x:Wk},dv n H a x->dv n H' a x
 | 0,a,.one x,h=>kh.keep k h
 |n+1,a,.one x,h=>kh.keep k h
 |n+1,a,.both p q,h=>by obtain⟨b,c,bs,cs,h1,h2,h3⟩:=h;exact⟨b,c,bs,cs,k _ _ h1,h2.keep k λ_ _ z=>z.keep k,h3.keep k λ_ _ z=>z.keep k⟩
 |n+1,a,.meet c d p q,h=>by obtain⟨b,e,bs,es,h1,h2,h3⟩:=h;exact⟨b,e,bs,es,k _ _ h1,h2.keep k λ_ _ z=>z.keep k,h3.keep k λ_ _ z=>z.keep k⟩
theorem dv.first{H:Hp}:∀{n:Nat}{a:Addr}{x:Wk},dv n H a x->∃xs,H a=some (.tup (.str x.nm::xs))
 | 0,a,.one x,h=>kh.first h
 |n+1,a,.one x,h=>kh.first h
 |n+1,a,.both p q,h=>by obtain⟨b,c,bs,cs,h1,_⟩:=h;exact⟨_,h1⟩
 |n+1,a,.meet c d p q,h=>by obtain⟨b,e,bs,es,h1,_⟩:=h;exact⟨_,h1⟩
theorem jP.keep{n:Nat}{H H':Hp}{p:Addr}{ws:List Wk}(k:aD H H')(h:jP n H p ws):jP n H' p ws:=by obtain⟨bs,h⟩:=h;exact⟨bs,h.keep k λ_ _ z=>z.keep k⟩
abbrev eN(H:Hp)(a:Addr)(h:Hd):Prop:=H a=some (.tup (h.map V.str))
structure gy(H:Hp)(l:Addr)(as:Z8)(hs:List Hd):Prop where
 lst:H l=some (.lst (as.map V.ref))
 len:as.length=hs.length
 at_:∀(i:Nat) a h,as[i]? = some a->hs[i]? = some h->eN H a h
theorem gy.same{H H':Hp}{l:Addr}{as:Z8}{hs:List Hd}(s:aM H H')(h:gy H l as hs):gy H' l as hs:=⟨s _ _ h.lst,h.len,λi a r e1 e2=>s _ _ (h.at_ i a r e1 e2)⟩
theorem gy.nth{H:Hp}{l:Addr}{as:Z8}{hs:List Hd}{i:Nat}{h:Hd}(x:gy H l as hs)(e:hs[i]? = some h):∃a,(as.map V.ref)[i]? = some (.ref a)/\eN H a h:=by
 have hi:i<as.length:=by rw[x.len];exact(W8.mp e).1
 exact⟨as[i],by rw[Xi,W0 hi];rfl,x.at_ i _ _ (W0 hi) e⟩
theorem dF{hd:List Str}{c:Int}(h:1<=c/\c<=hd.length):jo (hd.map V.str) (c-1)=some (.str (bx hd c)):=by
 have hi:(c-1).toNat<hd.length:=by omega
 have e:(((c-1).toNat:Nat):Int)=c-1:=by omega
 have:=au (xs:=hd.map V.str) (j:=(c-1).toNat) (v:=.str (bx hd c)) (by rw[Xi,W0 hi];unfold bx;rw[List.getD_eq_getElem?_getD,W0 hi];rfl)
 rw[e]at this;exact this
def df:W1->List Int
 | .keep c _=>[c]
 | .same c d=>[c,d]
 | .cut cs=>cs
 | .turn c _=>[c]
 | .must c _=>[c]
 | .walk c _=>[c]
 | .sort cs=>cs
 | .count cs=>cs
 | .sum cs c=>cs++[c]
 |_=>[]
def qr:W1->Prop
 | .cut cs=>cs.length<=1000
 | .sort cs=>cs.length<=1000
 | .count cs=>cs.length<=1000
 | .sum cs _=>cs.length<=1000
 | .turn _ ps=>ps.length<=1000
 | .must _ ps=>ps.length<=1000
 | .walk _ mv=>mv.length<=1000
 |_=>True
def JK:W1->Prop
 | .turn _ ps=>∀p∈ps,dP p.1/\dP p.2
 | .must _ ps=>∀p∈ps,dP p.1/\dP p.2
 | .walk _ mv=>∀v∈mv,v=.non\/dP v
 |_=>True
def ne1:W1->Prop
 | .turn _ ps=>ps≠[]/\ps.length<=50
 | .must _ ps=>ps≠[]/\ps.length<=50
 | .walk _ mv=>mv.length<=50
 | .cut cs=>cs≠[]
 |_=>True
structure DS(x:W1):Prop where
 sm:qr x
 good:JK x
 ne:ne1 x
 pos:∀c∈df x,1<=c
end My
namespace CS
open PySem L2
theorem v7{α:Type} [DecidableEq α]:∀{ms ns:List α},ms.Nodup->(∀m∈ms,m∈ns)->ms.length<=ns.length
 |[],_,_,_=>Xe _
 |m::ms,ns,nd,h=>by have Sm:=List.nodup_cons.mp nd;have hm:=h m Xo;have ih:=v7 (ms:=ms) (ns:=ns.erase m) Sm.2 λx hx=>(List.mem_erase_of_ne (λe=>Sm.1 (by rw[←e];exact hx))).mpr (h x (W5 _ hx));rw[List.length_erase_of_mem hm]at ih;have:0<ns.length:=List.length_pos_of_mem hm;rw[Xp];omega
theorem sorted_strs{ns:List Str}{ys:List V}(h:l8 (ns.map V.str) ys):∃ms:List Str,ys=ms.map V.str/\ms.Pairwise wZ/\(∀n∈ms,n∈ns)/\ms.length<=ns.length:=by
 rcases h with⟨ss,ms,e1,e2,h1,h2⟩|⟨ns',ms,e1,e2,h1,h2⟩
 ·cases ns with
  |nil =>
   cases ss with
   |nil =>
    cases ms with
    |nil=>exact⟨[],e2,.nil,by simp,WR _⟩
    |cons m ms=>exact Xs ((h2 m).mp Xo) (by simp)
   |cons s ss=>cases e1
  |cons n ns =>
   cases ss with
   |nil=>cases e1
   |cons s ss=>simp at e1
 ·have:ns=ns':=by have:=congrArg (List.map λv=>match v with|V.str n=>n|_=>"") e1;simpa[List.map_map,Function.comp_def] using this
  subst this;exact⟨ms,e2,h1,λn hn=>(h2 n).mp hn,v7 (FI h1) λn hn=>(h2 n).mp hn⟩
end CS
namespace My
open PySem L2 CS
theorem ak{i:Nat}{v:V}{σ:St}{H:Hp}{k:St->Hp->Prop}(h:k (σ.set i (some v)) H):bC i v σ H k:=h
def DT(K:XO):Sp:=λvs H Q _=>∃(p:Addr)(s:Str),vs=[.ref p,.str s]/\dh H p/\∀(a:Addr)(t:Str)(xs:List V) H',bo p H H'->H' a=some (.tup (.str t::xs))->Q (.ref a) H'
theorem mq{K:XO}{H:Hp}:∀ws:List Str,bL K H (ws.map D.str) (ws.map V.str)
 |[]=>bL.nil
 |w::ws=>bL.cons (gW w) (mq ws)
variable{P:Program}{w:World}{K:XO}{mg:Z2}{base:Heap}
theorem KI(B:kf mg)(B2:iY mg)(F:FA K mg "_law_set" Kj)(GA:bc bf P w K mg base 2 "_law_a_sort" ZG uM)(G:bc bf P w K mg base 2 "_law_draw" ZD dn)(G3:bc bf P w K mg base 2 "_law_word" ZF uG)(G2:bc bf P w K mg base 2 "_law_number" ZF ql) :
  bc bf P w K mg base 3 "_law_set" ZG (DT K):=by
 refine F.ok Ck λf cdv A outer s H vs Q E hr h=>?_;obtain⟨p,x,rfl,hP,q⟩:=h;refine⟨_,aq (dg (aX aQ (ax GA hr (ae (pv 0) (ae (pv 1) ah))) ao)
   (av (aH (ae ao (ae (bY aQ (ax G hr (ae (pv 0) (ae ai ah))) ai) (ae (aU bE rfl B.tuple XA (ae (lq rfl rfl B2.sorted rfl B2.set
    (bz (N':=["_law_k","_law_pot_here"]) (src:=[none,some 0]) rfl (ba.j5 (by kernel_rfl)) (dA rfl B.range (ae (ax G hr (ae (pv 0) (ae ai ah))) ah)) (λcl C s H fp=>eE (i:=0)) (λcl C s H fp=>aY)
     (λcl C s H fp=>ax (hg:=xS) G3 hr (ae (Ae 1) ah)))) ah)) ah))))) bU)
  (aq (aK (i:=2) Ck.nd rfl (Xw rfl) (aW (rP rfl) rfl B2.min PyProof.Rows.boot_min (ae (ax G2 hr (ae (pv 0) ah)) (ae (aF bM (aF mw ai ai) ai) ah))))
  (aq (aK (i:=3) Ck.nd rfl (Xw rfl) (aP (ae (aH ah) (ae (aH (ae (aH (ae jg (ae jg ah))) ah)) (ae (aH (ae (aH (ae (pv 2) (ae (aF cR (pv 2) (ax G hr (ae (pv 0) (ae ai ah)))) ah))) ah))
    (ae (aH (ae (aH (ae jg (ae (pv 2) ah))) ah)) (ae (aH (ae (aH (ae (pv 2) (ae jg ah))) ah)) ah)))))))
  (av (aH (ae ao (ae (bp K (aF mx (pv 3) (aP (ae (aH (ae (aH (ae (pv 2) (ae (pv 2) ah))) (ae (aH (ae (aF cR (pv 2) ai) (ae (aF cR (pv 2) ai) ah))) ah))) ah))) (ax G hr (ae (pv 0) (ae ai ah)))) ah)))))),?_⟩
 refine⟨_,rfl,_,rfl,p,x,rfl,hP,λy H1 g1=>⟨rfl,_,rfl,?_⟩⟩;refine cG (λ_=>?_) (λ_=>?_)
 ·refine⟨_,rfl,p,_,rfl,g1.cn,by decide,by decide,λe2 H2 g2 a2 b2=>⟨rfl,_,rfl,p,_,rfl,g2.cn,by decide,by decide,λj H3 g3 j0 j1=>?_⟩⟩;have gg:=(g1.trans g2).trans g3;refine⟨j,rfl,(ke j0 (by omega)).1,(ke j0 (by omega)).2,λDw hD=>?_⟩;have nD:Dw≠p:=gg.ne hD;refine iZ (n:=j.toNat) (λi σ ys H'=>∃(o:Option V)(ns:List Str),σ=[o,some (.ref p)]/\ys=ns.map V.str/\ns.length=i/\H' Dw=some (.lst ys)/\bo p H H')
   ⟨none,[],rfl,rfl,rfl,ag,gg.new hD⟩ ?_ ?_ ?_ ?_
  ·rintro i σ ys H' _ ⟨o,ns,_,rfl,rfl,h,_⟩;exact⟨h,by rw[WV];exact WR _⟩
  ·exact WS (show j.toNat<=40 by omega) (by decide)
  ·rintro i σ ys H' hi ⟨o,ns,rfl,rfl,rfl,h,g'⟩;exact⟨_,rfl,p,rfl,g'.cn,λn H4 g4 n1=>⟨g4.keep Dw _ nD h,some (.int (0+(ns.length:Nat))),ns++[n],rfl,by rw[WX];rfl,by rw[WW];rfl,ag,gg.put hD nD (g'.trans g4)⟩⟩
  rintro rA OX H4 ⟨o0,ns,_,rfl,hns,Vr,g4⟩;refine⟨Dw,_,rfl,.inl (aZ.of Vr),by rw[WV];omega,.inr ⟨ns,rfl⟩,λSA ys U9 hso=>?_⟩;obtain⟨ms,rfl,hms,hsub,RN⟩:=sorted_strs hso;refine⟨SA,_,rfl,.inl ⟨aZ.of ag,λt ht=>⟨f9,λa ha=>?_⟩⟩⟩;have gf:=((g4.new (o:=.lst (ms.map V.str)) U9).new (o:=.tup (ms.map V.str)) ht).new (o:=.tup [.str "w",.bl (decide (V.int e2=V.int 0)),.ref t]) ha;exact q a "w" _ _ gf ag
 ·refine⟨_,rfl,p,rfl,g1.cn,λn H2 g2 n1 n2=>⟨_,_,rfl,rfl,⟨by decide,by decide,by decide⟩,_,_,rfl,rfl,_,_,rfl,?_⟩⟩;have gg:=g1.trans g2;generalize (if _<n then _ else n:Int)=low;refine⟨Xe _,λt0 h0=>⟨cN,λt1 h1=>⟨dz,λt2 h2=>?_⟩⟩⟩;have k0:=gg.new (o:=.tup []) h0;have k1:=k0.new (o:=.tup [.non,.non]) h1;have k2:=k1.new (o:=.tup [.ref t1]) h2;refine⟨_,rfl,_,rfl,_,rfl,p,_,rfl,k2.cn,by decide,by decide,λe3 H3 g3 a3 b3=>?_⟩;have k3:=k2.trans g3;refine⟨_,_,rfl,rfl,cN,λt3 h3=>⟨dz,λt4 h4=>?_⟩⟩;refine⟨_,rfl,cN,λt5 h5=>⟨dz,λt6 h6=>?_⟩⟩;refine⟨_,rfl,cN,λt7 h7=>⟨dz,λt8 h8=>?_⟩⟩;refine⟨uO,λL hL=>?_⟩;have k5:=k3.new (o:=.tup [.int low,.int (low+e3)]) h3;have k6:=k5.new (o:=.tup [.ref t3]) h4;have k7:=k6.new (o:=.tup [.non,.int low]) h5;have k8:=k7.new (o:=.tup [.ref t5]) h6;have k9:=k8.new (o:=.tup [.int low,.non]) h7;have k10:=k9.new (o:=.tup [.ref t7]) h8;have k11:=k10.new (o:=.lst [.ref t0,.ref t2,.ref t4,.ref t6,.ref t8]) hL;have nL:=k10.ne hL;refine ak ?_;dsimp only;refine⟨_,rfl,_,rfl,_,rfl,cN,λt9 h9=>?_⟩;refine⟨_,rfl,_,_,rfl,rfl,_,rfl,_,_,rfl,rfl,cN,λSK h10=>⟨cN,λPb h11=>⟨dz,λL2 hL2=>?_⟩⟩⟩;have k12:=k11.new (o:=.tup [.int low,.int low]) h9;have k13:=k12.new (o:=.tup [.int (low+2),.int (low+5)]) h10;have k14:=k13.new (o:=.tup [.ref t9,.ref SK]) h11;have RU:=k14.new (o:=.lst [.ref Pb]) hL2;have s12:=(aj h9 (.tup [.int low,.int low])).trans ((aj h10 (.tup [.int (low+2),.int (low+5)])).trans ((aj h11 (.tup [.ref t9,.ref SK])).trans (aj hL2 (.lst [.ref Pb]))));refine⟨L,L2,_,_,rfl,rfl,s12 _ _ ag,ag,Nk,λL3 Mu=>?_⟩;have SW:=RU.new (o:=.lst ([.ref t0,.ref t2,.ref t4,.ref t6,.ref t8]++[.ref Pb])) Mu;have Vo:=RU.ne Mu;refine⟨_,rfl,p,_,rfl,SW.cn,by decide,by decide,λe4 H4 g4 a4 b4=>?_⟩;have Wc:=g4.keep L3 _ Vo ag;have qG:∃v,jo ([V.ref t0,.ref t2,.ref t4,.ref t6,.ref t8]++[.ref Pb]) e4=some v:=by
   have hd:e4=0\/e4=1\/e4=2\/e4=3\/e4=4\/e4=5:=by omega
   rcases hd with z|z|z|z|z|z<;>rw[z]<;>exact⟨_,rfl⟩
  obtain⟨v,hv⟩:=qG;refine⟨L3,_,_,v,rfl,rfl,aZ.of Wc,hv,cN,λa ha=>?_⟩;exact q a "n" _ _ ((SW.trans g4).new ha) ag
theorem oi:ay ["_law_pot_here","_law_here","_law_there","_law_pairs_here","_law_k","_law_pair"] ["_law_pot_here","_law_here","_law_there"] (ar zk):=fs
theorem oo:ay ["_law_pot_here","_law_head","_law_order_here","_law_k","_law_column_here"] ZJ (ar yb):=fs
def zY:Sp:=λvs H Q _=>∃(p:Addr)(s1 s2:Str),vs=[.ref p,.str s1,.str s2]/\dh H p/\∀t bs (ps:List (V×V)) H',bo p H H'->bR lh H' t bs ps->ps≠[]->ps.length<=8->(∀q∈ps,dP q.1/\dP q.2)->Q (.ref t) H'
def Aq(K:XO):Sp:=λvs H Q _=>∃(p a:Addr)(hs:List Str),vs=[.ref p,.ref a]/\c_ K H a hs/\dh H p/\∀t bs (cs:List Int) H',bo p H H'->bR Bc H' t bs cs->cs.length<=8->(∀c∈cs,1<=c)->Q (.ref t) H'
structure el{α:Type}(At:Hp->Addr->α->Prop)(H:Hp)(bs:Z8)(xs:List α):Prop where
 len:bs.length=xs.length
 at_:∀(i:Nat) a x,bs[i]? = some a->xs[i]? = some x->At H a x
theorem el.nil{α:Type}{At:Hp->Addr->α->Prop}{H:Hp}:el At H [] []:=⟨rfl,λi a x e=>by cases e⟩
theorem el.keep{α:Type}{At:Hp->Addr->α->Prop}{H H':Hp}{bs:Z8}{xs:List α}(k:∀a x,At H a x->At H' a x)(h:el At H bs xs):el At H' bs xs:=⟨h.len,λi a x e1 e2=>k _ _ (h.at_ i a x e1 e2)⟩
theorem el.snoc{α:Type}{At:Hp->Addr->α->Prop}{H:Hp}{bs:Z8}{xs:List α}{b:Addr}{x:α}(h:el At H bs xs)(hx:At H b x):el At H (bs++[b]) (xs++[x]):=by
 refine⟨by rw[WW,WW,h.len];rfl,λi a y e1 e2=>?_⟩;by_cases hi:i<bs.length
 ·rw[Xh hi]at e1;rw[Xh (by rw[←h.len];exact hi)]at e2;exact h.at_ i a y e1 e2
 ·have hi':i=bs.length:=by have:=(W8.mp e1).1;rw[WW]at this;simp at this;omega
  rw[hi',Xg (WR _),Nat.sub_self]at e1;rw[hi',h.len,Xg (WR _),Nat.sub_self]at e2;cases e1;cases e2;exact hx
theorem el.get{α:Type}{At:Hp->Addr->α->Prop}{H:Hp}{bs:Z8}{xs:List α}(h:el At H bs xs){i:Nat}{v:V}(hx:(bs.map V.ref)[i]? = some v):∃(a:Addr)(y:α),v=.ref a/\xs[i]? = some y/\At H a y:=by
 rw[Xi]at hx;cases e:bs[i]? with
 |none=>rw[e]at hx;cases hx
 |some b =>
  rw[e]at hx;have hx':V.ref b=v:=Xf hx;subst hx';have hi:i<xs.length:=by rw[←h.len];exact(W8.mp e).1
  have er:xs[i]? = some xs[i]:=W0 hi;exact⟨b,xs[i],rfl,er,h.at_ i b _ e er⟩
theorem uz{v:V}(h:dP v):fK v=true:=by rcases h with⟨n,rfl⟩|⟨x,rfl⟩<;>rfl
theorem Dz(B:kf mg)(B2:iY mg)(F:FA K mg "_law_pairs" zk)(G:bc bf P w K mg base 3 "_law_draw" ZD dn)(G2:bc bf P w K mg base 3 "_law_cell" ZG tL) :
  bc bf P w K mg base 4 "_law_pairs" ["_law_pot_here","_law_here","_law_there"] zY:=by
 refine F.ok oi λf cdv A outer s H vs Q E hr h=>?_;obtain⟨p,s1,s2,rfl,hP,q⟩:=h;refine⟨_,aq (aK (i:=3) oi.nd rfl (Xw rfl) (aP ah))
  (aq (fN PassesOwn.never rfl (dA rfl B.range (ae (bp K (aP (ae (aF cR ai (ax G hr (ae (pv 0) (ae ai ah)))) (ae ai ah))) (aU cB rfl B2.int XB (ae (bY aQ (ax G hr (ae (pv 0) (ae ai ah))) ai) ah))) ah)) (bJ (i:=4) oi.nd rfl (Xw rfl))
   (aq (aK (i:=5) oi.nd rfl (Xw rfl) (aH (ae (ax G2 hr (ae (pv 0) (ae (pv 1) ah))) (ae (ax G2 hr (ae (pv 0) (ae (pv 2) ah))) ah))))
   (bA (dg (dj je (Li (pv 5) ai (λ_ _=>rfl)) (bz (N':=["_law_a","_law_b"]) (src:=[none,none]) rfl (ba.j5 (by kernel_rfl)) (dX (pv 3))
     (g:=ja K 2 (bS (bC 0) (bS (bC 1) i5))) (λcl C s H fp=>cA rfl (aA (eE (i:=0)) (aA (eE (i:=1)) bT))) (λcl C s H fp=>aY) (λcl C s H fp=>ji 0)) rfl)
    (bA (fY (lF PySem.F.plainAttrs_list PySem.F.slot_list_append PySem.F.type_list_append cZ (pv 3) (ae (pv 5) ah)))) bU))))
  (av (aU bE rfl B.tuple XA (ae (pv 3) ah)))),?_⟩
 have g0:=bo.refl hP;refine⟨Xe _,λL hL=>?_⟩;have nL:=g0.ne hL;have gL:=g0.new (o:=.lst []) hL;refine⟨_,rfl,p,_,rfl,gL.cn,by decide,by decide,λe1 H1 g1 a1 b1=>⟨_,_,rfl,rfl,cN,λR hR=>?_⟩⟩;have k1:=gL.trans g1;have k2:=k1.new (o:=.lst [.int (1+e1),.int 8]) hR;refine⟨_,rfl,p,_,rfl,k2.cn,by decide,by decide,λe2 H2 g2 a2 b2=>⟨rfl,.inr ⟨_,rfl,?_⟩⟩⟩;have k3:=k2.trans g2;have qG:∃m:Int,jo [V.int (1+e1),V.int 8] (if decide (V.int e2=V.int 8)=true then 1 else 0)=some (.int m)/\1<=m/\m<=8:=by
  cases decide (V.int e2=V.int 8)
  ·exact⟨_,rfl,by omega,by omega⟩
  ·exact⟨_,rfl,by decide,by decide⟩
 obtain⟨m,hm,m0,m1⟩:=qG;refine⟨R,_,_,_,rfl,rfl,aZ.of (g2.keep R _ (k1.ne hR) ag),hm,m,rfl,(ke (by omega) (by omega)).1,(ke (by omega) (by omega)).2,?_⟩;have Mu:=g2.keep L _ nL ((aj hR (.lst [.int (1+e1),.int 8])) _ _ (g1.keep L _ nL ag));refine gj (n:=m.toNat) (λi σ H'=>(∃o4 o5,σ=[some (.ref p),some (.str s1),some (.str s2),some (.ref L),o4,o5])/\(∃(bs:Z8)(ps:List (V×V)),H' L=some (.lst (bs.map V.ref))/\ps.length<=i/\el lh H' bs ps/\(∀q∈ps,dP q.1/\dP q.2)/\(1<=i->ps≠[]))/\bo p H H')
  ⟨⟨none,none,rfl⟩,⟨[],[],Mu,WR _,el.nil,by simp,λz=>Xs z (by decide)⟩,k3⟩ ?_ ?_
 ·rintro i σ H' hi ⟨⟨o4,o5,rfl⟩,⟨bs,ps,hv,hl,hp,hcl,hne⟩,g⟩;refine⟨_,rfl,_,rfl,p,s1,rfl,g.cn,λx H4 g4 cx=>?_⟩;refine⟨_,rfl,_,rfl,p,s2,rfl,g4.cn,λy H5 g5 cy=>⟨cN,λT hT=>?_⟩⟩;have sT:=aj hT (.tup [x,y]);have Mn:=g4.trans g5;have gT:=(g.trans Mn).new (o:=.tup [x,y]) hT;have B_:=sT _ _ (Mn.keep L _ nL hv);have Cy:el lh (upd H5 T (.tup [x,y])) bs ps:=hp.keep λ_ _ e=>sT _ _ (iM g.cn Mn e);have hlb:(bs.map V.ref).length=ps.length:=by rw[WV,hp.len]
  refine⟨_,rfl,T,_,_,_,rfl,rfl,aJ.of ag,rfl,?_⟩;refine⟨_,rfl,L,rfl,⟨_,aZ.of B_⟩,λDc Gp=>?_⟩;refine dJ (xs:=bs.map V.ref) (λi σ ys H'=>(∃o o',σ=[o,o'])/\ys.length=i/\ys.all fK=true/\H' Dc=some (.lst ys)/\aM (upd H5 T (.tup [x,y])) H')
   ⟨⟨none,none,rfl⟩,rfl,rfl,ag,aj Gp _⟩ ?_ ?_ ?_ ?_ ?_
  ·rintro i σ ys H' _ ⟨_,hl,_,h,_⟩;exact⟨h,XF hl⟩
  ·rintro i σ ys H' _ ⟨_,_,_,_,sm⟩;exact aZ.of (sm _ _ B_)
  ·rw[hlb];exact WS (show ps.length<=1000 by omega) (by decide)
  ·rintro i v σ ys H' hv ⟨⟨o,o',rfl⟩,hl,hf,h,sm⟩;obtain⟨t,q',rfl,eq',ht⟩:=Cy.get hv;have fx:=uz (hcl q' (W4 eq')).1;refine⟨t,_,rfl,aJ.of (sm _ _ ht),rfl,_,_,rfl,_,_,rfl,rfl,_,rfl,h,⟨_,_,rfl⟩,by rw[WW,hl];rfl,?_,ag,λb u eb=>?_⟩
   ·rw[List.all_append,hf];simp[fx]
   ·by_cases hb:b=Dc
    ·subst hb;exact Xs eb (by rw[Gp];simp)
    ·rw[aI hb];exact sm _ _ eb
  ·rintro σ ys H6 ⟨_,hyl,hf,h,sm⟩;refine⟨Dc,_,rfl,.inl (aZ.of h),uz cx,hf,_,rfl,?_⟩;have gS:=gT.trans (bo.same gT.cn sm);refine cG (λ_=>?_) (λc=>?_)
   ·refine⟨_,rfl,.inl ⟨rfl,_,aZ.of (sm _ _ B_)⟩,_,rfl,L,_,_,rfl,rfl,sm _ _ B_,by rw[hlb];exact WY (show ps.length<=1000 by omega) (by decide),?_⟩;have kk:∀a xs,upd H5 T (.tup [x,y]) a=some (.tup xs)->upd H6 L (.lst (bs.map V.ref++[.ref T])) a=some (.tup xs):=λa xs e=>by rw[aI (λz=>by rw[z,B_]at e;cases e)];exact sm _ _ e
    refine⟨⟨_,_,rfl⟩,⟨bs++[T],ps++[(x,y)],by rw[ag,WX];rfl,by rw[WW];exact Nat.add_le_add_right hl 1,(Cy.keep λ_ _ e=>kk _ _ e).snoc (kk _ _ ag),λq' hq'=>?_,λ_=>by simp⟩,g0.put hL nL gS⟩;rcases Xc.mp hq' with z|z
    ·exact hcl q' z
    ·rw[W9.mp z];exact⟨cx,cy⟩
   ·refine⟨⟨_,_,rfl⟩,⟨bs,ps,sm _ _ B_,Nat.le_succ_of_le hl,Cy.keep λ_ _ e=>sm _ _ e,hcl,λ_=>?_⟩,gS⟩;rintro rfl;have:ys=[]:=List.eq_nil_of_length_eq_zero (by rw[hyl,hlb];rfl);subst this;exact c rfl
 ·rintro σ H' ⟨⟨o4,o5,rfl⟩,⟨bs,ps,hv,hl,hp,hcl,hne⟩,g⟩;refine⟨_,rfl,L,_,rfl,.inl ⟨aZ.of hv,λt ht=>?_⟩⟩;have st:=aj ht (.tup (bs.map V.ref));exact q t bs ps _ (g.new ht) ⟨ag,hp.len,λi a x e1 e2=>st _ _ (hp.at_ i a x e1 e2)⟩ (hne (by omega)) (by omega) hcl
theorem el.cons{α:Type}{At:Hp->Addr->α->Prop}{H:Hp}{bs:Z8}{xs:List α}{b:Addr}{x:α}(hx:At H b x)(h:el At H bs xs):el At H (b::bs) (x::xs) :=
 ⟨by rw[Xp,Xp,h.len],λi a y e1 e2=>by
  cases i with
  |zero=>cases e1;cases e2;exact hx
  |succ i=>exact h.at_ i a y e1 e2⟩
def Mo(H:Hp)(v:V):Prop:=∃t n b,v=.ref t/\H t=some (.tup [.int n,.bl b])/\1<=n
theorem Mo.keep{H H':Hp}{v:V}(k:∀a xs,H a=some (.tup xs)->H' a=some (.tup xs))(h:Mo H v):Mo H' v:=by obtain⟨t,x,y,e,h1,h2⟩:=h;exact⟨t,x,y,e,k _ _ h1,h2⟩
theorem sD{H:Hp}:∀{vs:List V},(∀v∈vs,Mo H v)->∃(bs:Z8)(cs:List Int),vs=bs.map V.ref/\el Bc H bs cs/\∀c∈cs,1<=c
 |[],_=>⟨[],[],rfl,el.nil,by simp⟩
 |v::vs,h=>by
  obtain⟨bs,cs,rfl,h1,h2⟩:=sD (vs:=vs) λw hw=>h w (W5 _ hw);obtain⟨t,n,b,rfl,ht,hn⟩:=h v (Xo ..);refine⟨t::bs,n::cs,rfl,h1.cons ⟨b,ht⟩,λc hc=>?_⟩;rcases Xa.mp hc with rfl|z
  ·exact hn
  ·exact h2 c z
theorem Dq(B:kf mg)(F:FA K mg "_law_order" yb)(G:bc bf P w K mg base 2 "_law_draw" ZD dn)(G2:bc bf P w K mg base 2 "_law_column" ZJ (iD K)) :
  bc bf P w K mg base 3 "_law_order" ZJ (Aq K):=by
 refine F.ok oo λf cdv A outer s H vs Q E hr h=>?_;obtain⟨p,a,hs,rfl,hh,hP,q⟩:=h;refine⟨_,aq (aK (i:=2) oo.nd rfl (Xw rfl) (aP ah))
  (aq (fN PassesOwn.never rfl (dA rfl B.range (ae (aF cR ai (ax G hr (ae (pv 0) (ae ai ah)))) ah)) (bJ (i:=3) oo.nd rfl (Xw rfl))
   (aq (aK (i:=4) oo.nd rfl (Xw rfl) (ax G2 hr (ae (pv 0) (ae (pv 1) ah))))
   (bA (dg (dj je (pv 4) (bz (N':=["_law_other_here","_law_is_falling"]) (src:=[none,none]) rfl (ba.j5 (by kernel_rfl)) (dX (pv 2))
     (g:=ja K 2 (bS (bC 0) (bS (bC 1) i5))) (λcl C s H fp=>cA rfl (aA (eE (i:=0)) (aA (eE (i:=1)) bT))) (λcl C s H fp=>aY) (λcl C s H fp=>ji 0)) rfl)
    (bA (fY (lF PySem.F.plainAttrs_list PySem.F.slot_list_append PySem.F.type_list_append cZ (pv 2) (ae (aH (ae (pv 4) (ae (bY aQ (ax G hr (ae (pv 0) (ae ai ah))) ai) ah))) ah)))) bU))))
  (av (aU bE rfl B.tuple XA (ae (pv 2) ah)))),?_⟩
 have g0:=bo.refl hP;refine⟨Xe _,λL hL=>?_⟩;have nL:=g0.ne hL;have gL:=g0.new (o:=.lst []) hL;refine⟨_,rfl,p,_,rfl,gL.cn,by decide,by decide,λe1 H1 g1 a1 b1=>⟨_,_,rfl,rfl,1+e1,rfl,(ke (by omega) (by omega)).1,(ke (by omega) (by omega)).2,?_⟩⟩;have k1:=gL.trans g1;have hL1:=g1.keep L _ nL ag;refine gj (n:=(1+e1).toNat) (λi σ H'=>(∃o4 o5,σ=[some (.ref p),some (.ref a),some (.ref L),o4,o5])/\(∃vs,H' L=some (.lst vs)/\vs.length<=i/\∀v∈vs,Mo H' v)/\bo p H H')
  ⟨⟨none,none,rfl⟩,⟨[],hL1,WR _,by simp⟩,k1⟩ ?_ ?_
 ·rintro i σ H' hi ⟨⟨o4,o5,rfl⟩,⟨vs,hv,hl,hp⟩,g⟩;refine⟨_,rfl,_,rfl,p,a,hs,rfl,g.cn,hh.grow hP g,λn H5 g5 n1 n2=>?_⟩;refine ak ?_;dsimp only;have B_:=g5.keep L _ nL hv;have Cy:∀v∈vs,Mo H5 v:=λv h=>(hp v h).keep λa xs e=>iM g.cn g5 e;refine⟨_,rfl,_,rfl,L,rfl,⟨_,aZ.of B_⟩,λDc Gp=>?_⟩;refine dJ (xs:=vs) (λi σ ys H'=>(∃o o',σ=[o,o'])/\ys.length<=i/\ys.all fK=true/\H' Dc=some (.lst ys)/\aM H5 H')
   ⟨⟨none,none,rfl⟩,WR _,rfl,ag,aj Gp _⟩ ?_ ?_ ?_ ?_ ?_
  ·rintro i σ ys H' _ ⟨_,hl,_,h,_⟩;exact⟨h,hl⟩
  ·rintro i σ ys H' _ ⟨_,_,_,_,sm⟩;exact aZ.of (sm _ _ B_)
  ·exact WS (show vs.length<=1000 by omega) (by decide)
  ·rintro i v σ ys H' hv ⟨⟨o,o',rfl⟩,hl,hf,h,sm⟩;obtain⟨t,x',y',rfl,ht,_⟩:=Cy v (W4 hv);refine⟨t,_,rfl,aJ.of (sm _ _ ht),rfl,_,_,rfl,_,_,rfl,rfl,_,rfl,h,⟨_,_,rfl⟩,by rw[WW];exact Nat.add_le_add_right hl 1,?_,ag,λb u eb=>?_⟩
   ·rw[List.all_append,hf];rfl
   ·by_cases hb:b=Dc
    ·subst hb;exact Xs eb (by rw[Gp];simp)
    ·rw[aI hb];exact sm _ _ eb
  ·rintro σ ys H6 ⟨_,_,hf,h,sm⟩;refine⟨Dc,_,rfl,.inl (aZ.of h),rfl,hf,_,rfl,?_⟩;have Sk:=g.trans g5;have gS:=Sk.trans (bo.same Sk.cn sm);refine cG (λ_=>?_) (λ_=>?_)
   ·refine⟨_,rfl,.inl ⟨rfl,_,aZ.of (sm _ _ B_)⟩,_,rfl,_,rfl,p,_,rfl,gS.cn,by decide,by decide,λe7 H7 g7 a7 b7=>⟨rfl,cN,λT hT=>?_⟩⟩;have sT:=aj hT (.tup [.int n,.bl (decide (V.int e7=V.int 0))]);have Gd:=sT _ _ (g7.keep L _ nL (sm _ _ B_));refine⟨L,_,_,rfl,rfl,Gd,WY (show vs.length<=1000 by omega) (by decide),?_⟩;refine⟨⟨_,_,rfl⟩,⟨vs++[.ref T],ag,by rw[WW];exact Nat.add_le_add_right hl 1,λv hv=>?_⟩,g0.put hL nL ((gS.trans g7).new hT)⟩;have kk:∀a xs,upd H7 T (.tup [.int n,.bl (decide (V.int e7=V.int 0))]) a=some (.tup xs)->upd (upd H7 T (.tup [.int n,.bl (decide (V.int e7=V.int 0))])) L (.lst (vs++[.ref T])) a=some (.tup xs):=λa xs e=>by rw[aI (λz=>by rw[z,Gd]at e;cases e)];exact e
    rcases Xc.mp hv with z|z
    ·exact(Cy v z).keep λa xs e=>kk _ _ (sT _ _ (iM gS.cn g7 (sm _ _ e)))
    ·rw[W9.mp z];exact⟨T,n,_,rfl,kk _ _ ag,n1⟩
   ·exact⟨⟨_,_,rfl⟩,⟨vs,sm _ _ B_,Nat.le_succ_of_le hl,λv hv=>(Cy v hv).keep λa xs e=>sm _ _ e⟩,gS⟩
 ·rintro σ H' ⟨⟨o4,o5,rfl⟩,⟨vs,hv,hl,hp⟩,g⟩;refine⟨_,rfl,L,_,rfl,.inl ⟨aZ.of hv,λt ht=>?_⟩⟩;have st:=aj ht (.tup vs);obtain⟨bs,cs,rfl,h1,h2⟩:=sD hp;exact q t bs cs _ (g.new ht) ⟨ag,h1.len,λi a x e1 e2=>by obtain⟨b,hb⟩:=h1.at_ i a x e1 e2;exact⟨b,st _ _ hb⟩⟩ (by rw[←h1.len];rw[WV]at hl;omega) h2
theorem nQ:ay ["_law_pot_here","_law_sort","_law_moves_here","_law_k","_law_move"] ZG (ar uu):=fs
def zE:Sp:=λvs H Q _=>∃(p:Addr)(s1:Str),vs=[.ref p,.str s1]/\dh H p/\∀t bs (mv:List V) H',bo p H H'->bR AV H' t bs mv->mv.length<=16->(∀v∈mv,v=.non\/dP v)->Q (.ref t) H'
def vv(H:Hp)(v:V):Prop:=∃t x y,v=.ref t/\H t=some (.tup [x,y])/\fK x=true/\fK y=true
theorem vv.keep{H H':Hp}{v:V}(k:∀a xs,H a=some (.tup xs)->H' a=some (.tup xs))(h:vv H v):vv H' v:=by obtain⟨t,x,y,e,h1,h2,h3⟩:=h;exact⟨t,x,y,e,k _ _ h1,h2,h3⟩
def Mh:V->D
 | .int i=>.int i
 | .str x=>.str x
 | .bl b=>.bl b
 |_=>.non
theorem oH{K:XO}{H:Hp}{v:V}(h:fK v=true):a_ K H (Mh v) v:=by cases v<;>first | (first|exact Au _|exact gW _|exact xx _|exact Hv) | (simp[fK]at h)
def qo(H:Hp)(v:V):Prop:=∃t x y z,v=.ref t/\H t=some (.tup [.str x,y,.str z])/\(y=.non\/dP y)
theorem qo.keep{H H':Hp}{v:V}(k:∀a xs,H a=some (.tup xs)->H' a=some (.tup xs))(h:qo H v):qo H' v:=by obtain⟨t,x,y,z,e,h1,h2⟩:=h;exact⟨t,x,y,z,e,k _ _ h1,h2⟩
theorem m8{H:Hp}:∀{vs:List V},(∀v∈vs,qo H v)->∃(bs:Z8)(mv:List V),vs=bs.map V.ref/\el AV H bs mv/\∀c∈mv,c=.non\/dP c
 |[],_=>⟨[],[],rfl,el.nil,by simp⟩
 |v::vs,h=>by
  obtain⟨bs,cs,rfl,h1,h2⟩:=m8 (vs:=vs) λw hw=>h w (W5 _ hw);obtain⟨t,x,y,z,rfl,ht,hn⟩:=h v (Xo ..);refine⟨t::bs,y::cs,rfl,h1.cons ⟨x,z,ht⟩,λc hc=>?_⟩;rcases Xa.mp hc with rfl|z
  ·exact hn
  ·exact h2 c z
theorem wF{y:V}(h:y=.non\/dP y):fK y=true:=by
 rcases h with rfl|h
 ·rfl
 ·exact uz h
theorem By(v:V):(Mh v).depth=0:=by cases v<;>simp[Mh,D.depth]
theorem pY{K:XO}{H:Hp}:∀{vs:List V},(∀v∈vs,vv H v)->∃ds,bL K H ds vs/\cE ds<=1
 |[],_=>⟨[],bL.nil,by simp[cE]⟩
 |v::vs,h=>by obtain⟨ds,h1,h2⟩:=pY (K:=K) (vs:=vs) λw hw=>h w (W5 _ hw);obtain⟨t,x,y,rfl,ht,fx,fy⟩:=h v (Xo ..);refine⟨.tup [Mh x,Mh y]::ds,bL.cons (lV ht (bL.cons (oH fx) (bL.cons (oH fy) bL.nil))) h1,?_⟩;simp only[cE,D.depth,By];omega
theorem Er(B:kf mg)(B2:iY mg)(F:FA K mg "_law_moves" uu)(G:bc bf P w K mg base 3 "_law_draw" ZD dn)(G3:bc bf P w K mg base 3 "_law_state" ZF ux)(G2:bc bf P w K mg base 3 "_law_cell" ZG tL) :
  bc bf P w K mg base 4 "_law_moves" ZG zE:=by
 refine F.ok nQ λf cdv A outer s H vs Q E hr h=>?_;obtain⟨p,s1,rfl,hP,q⟩:=h;have hu:(A.deeper (PyProof.Rows.envOfC "_law_moves" (ar uu) s.heap.objs.size f cdv)).units+1+1<cLine:=by have:=hr.units;omega
 refine⟨_,aq (aK (i:=2) nQ.nd rfl (Xw rfl) (aP ah))
  (aq (fN PassesOwn.never rfl (dA rfl B.range (ae (bp K (aP (ae (ax G hr (ae (pv 0) (ae ai ah))) (ae ai ah))) (aU cB rfl B2.int XB (ae (bY aQ (ax G hr (ae (pv 0) (ae ai ah))) ai) ah))) ah)) (bJ (i:=3) nQ.nd rfl (Xw rfl))
   (aq (aK (i:=4) nQ.nd rfl (Xw rfl) (aH (ae (ax G3 hr (ae (pv 0) ah)) (ae (bp K (aP (ae (ax G2 hr (ae (pv 0) (ae (pv 1) ah))) (ae jg ah))) (aU cB rfl B2.int XB (ae (bY aQ (ax G hr (ae (pv 0) (ae ai ah))) ai) ah))) (ae (ax G3 hr (ae (pv 0) ah)) ah)))))
   (bA (dg (dj r8 (cq Fv (pv 4) dm (cz ai)) (bz (N':=["_law_state_here","_law_cell_here","_law_after"]) (src:=[none,none,none]) rfl (ba.j5 (by kernel_rfl)) (dX (pv 2))
     (g:=ja K 3 (bS (bC 0) (bS (bC 1) (bS (bC 2) i5)))) (λcl C s H fp=>cA rfl (aA (eE (i:=0)) (aA (eE (i:=1)) (aA (eE (i:=2)) bT)))) (λcl C s H fp=>aY) (λcl C s H fp=>aH (ae (ji 0) (ae (ji 1) ah)))) rfl)
    (bA (fY (lF PySem.F.plainAttrs_list PySem.F.slot_list_append PySem.F.type_list_append cZ (pv 2) (ae (pv 4) ah)))) bU))))
  (av (aU bE rfl B.tuple XA (ae (pv 2) ah)))),?_⟩
 have g0:=bo.refl hP;refine⟨Xe _,λL hL=>?_⟩;have nL:=g0.ne hL;have gL:=g0.new (o:=.lst []) hL;refine⟨_,rfl,p,_,rfl,gL.cn,by decide,by decide,λe1 H1 g1 a1 b1=>⟨cN,λR hR=>?_⟩⟩;have k1:=gL.trans g1;have k2:=k1.new (o:=.lst [.int e1,.int 16]) hR;refine⟨_,rfl,p,_,rfl,k2.cn,by decide,by decide,λe2 H2 g2 a2 b2=>⟨rfl,.inr ⟨_,rfl,?_⟩⟩⟩;have k3:=k2.trans g2;have qG:∃m:Int,jo [V.int e1,V.int 16] (if decide (V.int e2=V.int 8)=true then 1 else 0)=some (.int m)/\0<=m/\m<=16:=by
  cases decide (V.int e2=V.int 8)
  ·exact⟨_,rfl,by omega,by omega⟩
  ·exact⟨_,rfl,by decide,by decide⟩
 obtain⟨m,hm,m0,m1⟩:=qG;refine⟨R,_,_,_,rfl,rfl,aZ.of (g2.keep R _ (k1.ne hR) ag),hm,m,rfl,(ke m0 (by omega)).1,(ke m0 (by omega)).2,?_⟩;have Mu:=g2.keep L _ nL ((aj hR (.lst [.int e1,.int 16])) _ _ (g1.keep L _ nL ag));refine gj (n:=m.toNat) (λi σ H'=>(∃o4 o5,σ=[some (.ref p),some (.str s1),some (.ref L),o4,o5])/\(∃vs,H' L=some (.lst vs)/\vs.length<=i/\∀v∈vs,qo H' v)/\bo p H H')
  ⟨⟨none,none,rfl⟩,⟨[],Mu,WR _,by simp⟩,k3⟩ ?_ ?_
 ·rintro i σ H' hi ⟨⟨o4,o5,rfl⟩,⟨vs,hv,hl,hp⟩,g⟩;refine⟨_,rfl,p,rfl,g.cn,λx H3 g3=>?_⟩;refine⟨_,rfl,_,rfl,p,s1,rfl,g3.cn,λy H4 g4 cy=>⟨cN,λR2 Ak=>?_⟩⟩;have l1:=(g3.trans g4).new (o:=.lst [y,.non]) Ak;refine⟨_,rfl,p,_,rfl,l1.cn,by decide,by decide,λe5 H5 g5 a5 b5=>⟨rfl,.inr ⟨_,rfl,?_⟩⟩⟩;have DN:∃y2:V,jo [y,V.non] (if decide (V.int e5=V.int 0)=true then 1 else 0)=some y2/\(y2=.non\/dP y2):=by
   cases decide (V.int e5=V.int 0)
   ·exact⟨_,rfl,.inr cy⟩
   ·exact⟨_,rfl,.inl rfl⟩
  obtain⟨y2,hy2,Tc⟩:=DN;have VO:=wF Tc;refine⟨R2,_,_,_,rfl,rfl,aZ.of (g5.keep R2 _ ((g3.trans g4).ne Ak) ag),hy2,?_⟩;have l2:=l1.trans g5;refine⟨_,rfl,p,rfl,l2.cn,λz H6 g6=>⟨f9,λT hT=>?_⟩⟩;have l3:=l2.trans g6;have sT:=aj hT (.tup [.str x,y2,.str z]);have VN:=sT _ _ (l3.keep L _ nL hv);have VT:∀v∈vs,qo (upd H6 T (.tup [.str x,y2,.str z])) v:=λv h=>(hp v h).keep λa xs e=>sT _ _ (iM g.cn l3 e);have gT:=(g.trans l3).new (o:=.tup [.str x,y2,.str z]) hT;refine ak ?_;dsimp only;refine⟨_,rfl,_,rfl,T,_,rfl,aJ.of ag,(by show¬(HT.dN 3 0 none=0/\HT.dN 3 3 (some 2)=3);decide),λr hr=>?_⟩;have sr:=aj hr (.tup [.str x,y2]);have Gd:=sr _ _ VN;have Gw:∀v∈vs,qo (upd (upd H6 T (.tup [.str x,y2,.str z])) r (.tup [.str x,y2])) v:=λv h=>(VT v h).keep λa xs e=>sr _ _ e;have VY:=sr _ _ (ag (H:=H6) (a:=T) (o:=.tup [.str x,y2,.str z]));have Vi:=ag (H:=upd H6 T (.tup [.str x,y2,.str z])) (a:=r) (o:=.tup [.str x,y2]);have gr:=gT.trans (bo.same gT.cn sr);refine⟨_,rfl,L,rfl,⟨_,aZ.of Gd⟩,λDc Gp=>?_⟩;rw[show fP [V.str x,y2,V.str z] none (some 2)=[V.str x,y2] from rfl]at Gp⊢;generalize upd (upd H6 T (.tup [.str x,y2,.str z])) r (.tup [.str x,y2])=H7 at *;refine dJ (xs:=vs) (λi σ ys H'=>(∃o o' R6,σ=[o,o',R6])/\ys.length<=i/\(∀v∈ys,vv H' v)/\H' Dc=some (.lst ys)/\aM H7 H')
   ⟨⟨none,none,none,rfl⟩,WR _,by simp,ag,aj Gp _⟩ ?_ ?_ ?_ ?_ ?_
  ·rintro i σ ys H' _ ⟨_,hl,_,h,_⟩;exact⟨h,hl⟩
  ·rintro i σ ys H' _ ⟨_,_,_,_,sm⟩;exact aZ.of (sm _ _ Gd)
  ·exact WS (show vs.length<=1000 by omega) (by decide)
  ·rintro i v σ ys H' hv ⟨⟨o,o',R6,rfl⟩,hl,hf,h,sm⟩;obtain⟨t,x',y',z',rfl,ht,UT⟩:=Gw v (W4 hv);refine⟨t,_,rfl,aJ.of (sm _ _ ht),rfl,_,_,rfl,_,_,rfl,_,_,rfl,rfl,_,rfl,_,rfl,cN,λU hU=>?_⟩;have sU:=aj hU (.tup [.str x',y']);have S8:=sU _ _ h;refine⟨S8,⟨_,_,_,rfl⟩,by rw[WW];exact Nat.add_le_add_right hl 1,λv hv=>?_,ag,λb u eb=>?_⟩
   ·have kk:∀a xs,upd H' U (.tup [.str x',y']) a=some (.tup xs)->upd (upd H' U (.tup [.str x',y'])) Dc (.lst (ys++[.ref U])) a=some (.tup xs):=λa xs e=>by rw[aI (λz=>by rw[z,S8]at e;cases e)];exact e
    rcases Xc.mp hv with z|z
    ·exact(hf v z).keep λa xs e=>kk _ _ (sU _ _ e)
    ·rw[W9.mp z];exact⟨U,.str x',y',rfl,kk _ _ ag,rfl,wF UT⟩
   ·by_cases hb:b=Dc
    ·subst hb;exact Xs eb (by rw[Gp];simp)
    ·rw[aI hb];exact sU _ _ (sm _ _ eb)
  ·rintro σ ys H8 ⟨_,_,hf,h,sm⟩;obtain⟨es,h1,h2⟩:=pY (K:=K) hf;refine⟨.tup [.str x,Mh y2],es,Dc,ys,rfl,.inl (aZ.of h),lV (sm _ _ Vi) (bL.cons (gW _) (bL.cons (oH VO) bL.nil)),h1,?_,_,rfl,?_⟩
   ·exact WY (Nat.add_le_add_left h2 _) hu
   have gS:=gr.trans (bo.same gr.cn sm);refine cG (λ_=>?_) (λ_=>?_)
   ·refine⟨_,rfl,.inl ⟨rfl,_,aZ.of (sm _ _ Gd)⟩,_,rfl,L,_,_,rfl,rfl,sm _ _ Gd,WY (show vs.length<=1000 by omega) (by decide),?_⟩;refine⟨⟨_,_,rfl⟩,⟨vs++[.ref T],ag,by rw[WW];exact Nat.add_le_add_right hl 1,λv hv=>?_⟩,g0.put hL nL gS⟩;have kk:∀a xs,H7 a=some (.tup xs)->upd H8 L (.lst (vs++[.ref T])) a=some (.tup xs):=λa xs e=>by rw[aI (λz=>by rw[z,Gd]at e;cases e)];exact sm _ _ e
    rcases Xc.mp hv with z|z
    ·exact(Gw v z).keep kk
    ·rw[W9.mp z];exact⟨T,_,_,_,rfl,kk _ _ VY,Tc⟩
   ·exact⟨⟨_,_,rfl⟩,⟨vs,sm _ _ Gd,Nat.le_succ_of_le hl,λv hv=>(Gw v hv).keep λa xs e=>sm _ _ e⟩,gS⟩
 ·rintro σ H' ⟨⟨o4,o5,rfl⟩,⟨vs,hv,hl,hp⟩,g⟩;refine⟨_,rfl,L,_,rfl,.inl ⟨aZ.of hv,λt ht=>?_⟩⟩;have st:=aj ht (.tup vs);obtain⟨bs,mv,rfl,h1,h2⟩:=m8 hp;exact q t bs mv _ (g.new ht) ⟨ag,h1.len,λi a x e1 e2=>by obtain⟨b,c,hb⟩:=h1.at_ i a x e1 e2;exact⟨b,c,st _ _ hb⟩⟩ (by rw[←h1.len];rw[WV]at hl;omega) h2
end My
namespace L2
open PySem PySem.Spec PyProof.Rows
theorem gq:fillsNumberSlot (.type "tuple") "mul"=pure false:=PySem.fillsNumberSlot_seq (id:="tuple.__mul__") (r:=some (.builtin "tuple.__rmul__")) F.slot_tuple_mul.lookup (by decide +kernel) F.slot_tuple_rmul.lookup (by decide +kernel)
theorem uJ:seqRepeat? (.type "tuple")=pure (some (.builtin "tuple.__mul__")):=by unfold seqRepeat?;rw[PySem.seqSlot_of (T:="tuple") (name:="__mul__") F.slot_tuple_mul.lookup (by decide +kernel),PySem.seqSlot_of (T:="tuple") (name:="__rmul__") F.slot_tuple_rmul.lookup (by decide +kernel)];rfl
theorem iQ(a:Int)(t:Tok)(l:Addr)(items:Array Value)(n:Nat)(dd:Option Addr)(sl:Array (Z7)):Meets (Builtin.«int.__rmul__» ⟨[.int a t,.ref l],[]⟩) (λ_ R s=>s.heap.get? l=some ⟨.type "tuple",dd,.seq items n,sl⟩/\R (.ok (.ret Value.notImplemented)) s) :=
 .of_wp λprog w A R s h=>by
  obtain⟨hp,g,d,tk,os⟩:=s;obtain⟨hl,h⟩:=h
  wp_walk
  exact⟨_,rfl,h⟩
theorem Gu(l:Addr)(items:Array Value)(n:Nat)(dd:Option Addr)(sl:Array (Z7))(k:Int)(t:Tok)(h1:2<=k)(h2:k<1000)(hi:items.isEmpty=false)(hz:items.size*k.toNat<=10000) :
  Meets (Builtin.«tuple.__mul__» ⟨[.ref l,.int k t],[]⟩) (λ_ R s=>s.heap.get? l=some ⟨.type "tuple",dd,.seq items n,sl⟩/\
   R (.ok (.ret (.ref s.heap.objs.size))) {s with heap:=s.heap.push {cls:=.type "tuple",data:=.seq ((List.replicate k.toNat items).foldl (· ++ ·) #[])}}) :=
 .of_wp λprog w A R s h=>by
  obtain⟨hp,g,d,tk,os⟩:=s;obtain⟨hl,h⟩:=h;have Th:(2:Int) ^ 63=9223372036854775808:=by decide
  have hsk:(items.size:Int)*k<=10000:=by
   have:((items.size*k.toNat:Nat):Int)<=10000:=by exact_mod_cast hz
   rw[Int.natCast_mul,Int.toNat_of_nonneg (by omega)]at this;exact this
  have c1:¬(decide (k < -2 ^ 63)||decide (k≥2 ^ 63))=true:=by rw[Th];simp;omega
  have c2:¬(items.isEmpty||k==1)=true:=by rw[hi,Bool.false_or];simp;omega
  have c3:¬(decide (k<=0)||items.isEmpty)=true:=by rw[hi,Bool.or_false];simp;omega
  have c4:¬(items.size:Int)*k > (2 ^ 63-1) / 8:=by rw[Th];omega
  have c5:¬Builtin.Tuple.tupleTooMany ((items.size:Int)*k)=true:=by
   unfold Builtin.Tuple.tupleTooMany;have:((sizeLine:Nat):Int)≥10000:=by decide
   simp;omega
  have c6:¬(List.foldl (λx1 x2=>x1++x2) #[] (List.replicate k.toNat items)).size > sizeLine:=by
   have e:List.foldl (λx1 x2=>x1++x2) #[] (List.replicate k.toNat items)=(List.replicate k.toNat items.toList).flatten.toArray:=by have:=foldl_rep items.toList k.toNat [];rw[List.nil_append]at this;exact this
   rw[e,W7,len_rep,XI,Nat.mul_comm];have:10000<=sizeLine:=by decide
   omega
  wp_walk
  rw[Xt c1]
  wp_walk
  rw[Xt c2]
  wp_walk
  rw[Xt c3]
  wp_walk
  rw[Xt c4]
  wp_walk
  exact⟨_,rfl,h⟩
section
variable{X:Cx}
def Jh(K:XO):R2:=λx y H Q=>∃l k xs,x=.ref l/\y=.int k/\aJ K H l xs/\xs≠[]/\2<=k/\k<1000/\xs.length*k.toNat<=10000/\
 ∀p,H p=none->Q (.ref p) (upd H p (.tup (List.replicate k.toNat xs).flatten))
theorem Aj:jk X (binaryOp .Mult) (Jh X.K):=by
 intro ac s σ H x y v u Q I rx ry h;obtain⟨l,k,xs,rfl,rfl,hq,hx,h1,h2,hz,q⟩:=h;cases rx;obtain⟨t,rfl⟩:=ry;obtain⟨its,r,⟨o,e,hc,n,hd⟩,_⟩:=I.tuple hq;obtain⟨c,dd,da,sl⟩:=o;cases(show c=.type "tuple" from hc);cases(show da=.seq its.toArray n from hd);have hl:=r.length;have hi:its.toArray.isEmpty=false:=by
  cases its with
  |nil=>exact Xs (List.eq_nil_of_length_eq_zero (by rw[hl];rfl)) hx
  |cons a r=>rfl
 have hnew:List.foldl (λx1 x2=>x1++x2) #[] (List.replicate k.toNat its.toArray)=(List.replicate k.toNat its).flatten.toArray:=by have:=foldl_rep its k.toNat [];rw[List.nil_append]at this;exact this
 refine wpAny_binaryOp_repeat_ref (T:="tuple") (U:="int") (by decide) ⟨_,e,rfl⟩ (λs'=>typeIs_int s' k t) gq F.fills_int_mul F.slot_int_rmul uJ F.slot_int_index.lookup
  (call_meets F.slot_int_rmul (typeIs_int s k t) F.entry_int_rmul (F.args_int_rmul_2 _ _) (iQ k t l its.toArray n dd sl)
   ⟨e,rfl,⟨_,e,rfl⟩,call_meets F.slot_tuple_mul ⟨_,e,rfl⟩ F.entry_tuple_mul (F.args_tuple_mul_2 _ _) (Gu l its.toArray n dd sl k t h1 h2 hi (by rw[W7,←hl];exact hz)) ⟨e,?_⟩⟩)
 rw[hnew];refine⟨.ref s.heap.objs.size,_,I.laid (t':=s.toks) (o:=.tup (List.replicate k.toNat xs).flatten) (λb ob q=>WN _ q) (WR _) ?_,rfl,q _ (I.hok.fresh (WR _))⟩;exact⟨by rw[len_rep,Nat.mul_comm];exact WS hz (by decide),_,r.rep k.toNat,il.new _ _⟩
end
end L2
namespace My
open PySem L2 CS
theorem pq:ay ["_law_pot_here","_law_head","_law_word_here","_law_column_here","_law_sort"] ZR (ar tQ):=fs
theorem zK:ay ["_law_pot_here","_law_head","_law_word_here","_law_column_here"] ZR (ar yD):=fs
def nY(K:XO)(ok:Str->Prop):Sp:=λvs H Q _=>∃(p a:Addr)(hs:List Str)(wd:Str),vs=[.ref p,.ref a,.str wd]/\dh H p/\c_ K H a hs/\ok wd/\∀t (x:W1) H',bo p H H'->kh H' t x->DS x->x.nm=wd->Q (.ref t) H'
def Ly(s:Str):Prop:=s="keep"\/s="same"\/s="cut"\/s="turn"\/s="must"
def EX(s:Str):Prop:=s="walk"\/s="sort"\/s="apart"\/s="count"\/s="sum"\/s="number"\/s="first"
theorem Af{K:XO}{H:Hp}{p a:Addr}{hs:List Str}{σ:St}{Q:VK}{c:Int}{i j:Nat}(hP:dh H p)(hh:c_ K H a hs)(e1:σ[i]? = some (some (.ref a)))(e2:σ[j]? = some (some (.int c)))(c1:1<=c)(c2:c<=12)(q:∀x H',bo p H H'->Q (.str x) H') :
  hZ (sY K) (hZ (Js K) (bB i) (hZ (Jh K) (IE (bq (tC (.str "n")) fR)) (tC (.int 12)))) (hZ (BN λi j=>.int (i-j)) (bB j) (tC (.int 1))) σ H Q:=by
 refine⟨_,e1,dz,λt ht=>⟨t,12,_,rfl,rfl,aJ.of ag,by simp,by decide,by decide,by decide,λu hu=>?_⟩⟩;have g0:=bo.refl hP;have g1:=g0.new (o:=.tup [.str "n"]) ht;have g2:=g1.new (o:=.tup (List.replicate (12:Int).toNat [V.str "n"]).flatten) hu;have h2:=hh.grow hP g2;have hp1:=hh.pos;have hf:=hh.few;refine⟨a,u,_,_,rfl,rfl,aJ.of h2.tup,aJ.of ag,?_,?_,λz=>Xs z (by decide),λ_ w hw=>?_⟩
 ·intro z;rw[List.map_eq_nil_iff.mp z]at hp1;exact Xs hp1 (by decide)
 ·rw[WV];exact WS (show hs.length+12<=18 by omega) (by decide)
 have hl:(hs.map V.str++(List.replicate (12:Int).toNat [V.str "n"]).flatten).length=hs.length+12:=by rw[WW,WV];rfl
 have hi:(c-1).toNat<(hs.map V.str++(List.replicate (12:Int).toNat [V.str "n"]).flatten).length:=by rw[hl];omega
 have hv:jo (hs.map V.str++(List.replicate (12:Int).toNat [V.str "n"]).flatten) (c-1)=some ((hs.map V.str++(List.replicate (12:Int).toNat [V.str "n"]).flatten)[(c-1).toNat]):=by have:=au (j:=(c-1).toNat) (W0 hi);rw[show(((c-1).toNat:Nat):Int)=c-1 by omega]at this;exact this
 have hm:=List.getElem_mem hi;have hx:∃x:Str,(hs.map V.str++(List.replicate (12:Int).toNat [V.str "n"]).flatten)[(c-1).toNat]=.str x:=by
  rcases Xc.mp hm with z|z
  ·obtain⟨x,_,e⟩:=W_.mp z;exact⟨x,e.symm⟩
  ·obtain⟨l,hl,hz⟩:=List.mem_flatten.mp z;rw[List.eq_of_mem_replicate hl]at hz;exact⟨"n",W9.mp hz⟩
 obtain⟨x,ex⟩:=hx;rw[ex]at hv;exact⟨_,e2,_,_,rfl,rfl,w,_,_,_,rfl,rfl,aJ.of ag,hv,q x _ (g2.new hw)⟩
variable{P:Program}{w:World}{K:XO}{mg:Z2}{base:Heap}
theorem BV(B2:iY mg)(F:FA K mg "_law_one_row" tQ)(GC:bc bf P w K mg base 4 "_law_column" ZJ (iD K))(O8:bc bf P w K mg base 4 "_law_columns" ["_law_pot_here","_law_head","_law_many_here"] (mh K))(GD:bc bf P w K mg base 4 "_law_draw" ZD dn)(GS:bc bf P w K mg base 4 "_law_set" ZG (DT K))(GP:bc bf P w K mg base 4 "_law_pairs" ["_law_pot_here","_law_here","_law_there"] zY) :
  bc bf P w K mg base 5 "_law_one_row" ZR (nY K Ly):=by
 refine F.ok pq λf cdv A outer s H vs Q E hr h=>?_;obtain⟨p,a,hs,wd,rfl,hP,hh,Jb,q⟩:=h;refine⟨_,aq (dg (aX aQ (pv 2) ao) (av (aH (ae ao (ae (ax GC hr (ae (pv 0) (ae (pv 1) ah))) (ae (ax GC hr (ae (pv 0) (ae (pv 1) ah))) ah))))) bU)
  (aN (aX aQ (pv 2) ao) (aH (ae ao (ae (ax O8 hr (ae (pv 0) (ae (pv 1) (ae (aF cR ai (ax GD hr (ae (pv 0) (ae ai ah)))) ah)))) ah)))
  (aq (aK (i:=3) pq.nd rfl (Xw rfl) (ax GC hr (ae (pv 0) (ae (pv 1) ah))))
  (aq (aK (i:=4) pq.nd rfl (Xw rfl) (az K (aF uk (pv 1) (aF Aj (aH (ae ao ah)) ai)) (aF bM (pv 3) ai)))
  (aN (aX aQ (pv 2) ao) (aH (ae ao (ae (pv 3) (ae (ax GS hr (ae (pv 0) (ae (pv 4) ah))) ah))))
  (av (aH (ae (pv 2) (ae (pv 3) (ae (ax GP hr (ae (pv 0) (ae (pv 4) (ae (bp K (aP (ae (pv 4) (ae (bp K (aP (ae ao (ae ao ah))) (ax GD hr (ae (pv 0) (ae ai ah)))) ah))) (aU cB rfl B2.int XB (ae (bY aQ (pv 2) ao) ah))) ah)))) ah))))))))),?_⟩
 refine⟨_,rfl,rfl,_,rfl,?_⟩;refine cG (λc=>?_) (λns=>?_)
 ·have e:wd="same":=by have:=Xr c;injection this
  subst e;refine⟨_,rfl,_,rfl,p,a,hs,rfl,hP,hh,λn H1 g1 n1 _=>?_⟩;refine⟨_,rfl,_,rfl,p,a,hs,rfl,g1.cn,hh.grow hP g1,λm H2 g2 m1 _=>⟨f9,λt ht=>?_⟩⟩;exact q t (.same n m) _ ((g1.trans g2).new ht) ag ⟨trivial,trivial,trivial,λc hc=>by rcases Xa.mp hc with rfl|z;exact n1;rw[W9.mp z];exact m1⟩ rfl
 refine⟨_,rfl,rfl,_,rfl,?_⟩;refine cG (λc=>?_) (λnc=>?_)
 ·have e:wd="cut":=by have:=Xr c;injection this
  subst e;refine⟨_,rfl,_,rfl,_,rfl,p,_,rfl,hP,by decide,by decide,λd H1 g1 a1 b1=>⟨_,_,rfl,rfl,?_⟩⟩;refine⟨p,a,hs,_,rfl,g1.cn,hh.grow hP g1,by omega,by omega,λt2 ns H2 g2 h2 hn hp=>⟨cN,λt ht=>?_⟩⟩;exact q t (.cut ns) _ ((g1.trans g2).new ht) ⟨t2,ag,aj ht _ _ _ h2⟩ ⟨by show ns.length<=1000;omega,trivial,by rintro rfl;rw[List.length_nil]at hn;omega,hp⟩ rfl
 refine⟨_,rfl,_,rfl,p,a,hs,rfl,hP,hh,λn H1 g1 n1 n2=>?_⟩;refine ak ?_;dsimp only;have hh1:=hh.grow hP g1;refine Af g1.cn hh1 rfl rfl n1 n2 λx H2 g2=>?_;have gg:=g1.trans g2;refine ak ?_;dsimp only;refine⟨_,rfl,rfl,_,rfl,?_⟩;refine cG (λc=>?_) (λnk=>?_)
 ·have e:wd="keep":=by have:=Xr c;injection this
  subst e;refine⟨_,rfl,_,rfl,_,rfl,p,x,rfl,gg.cn,λv d xs H3 g3 hd=>⟨f9,λt ht=>?_⟩⟩;have st:=aj ht (.tup [.str "keep",.int n,.ref v]);exact q t (.keep n d) _ ((gg.trans g3).new ht) ⟨v,xs,ag,st _ _ hd⟩ ⟨trivial,trivial,trivial,λc hc=>by rw[W9.mp hc];exact n1⟩ rfl
 refine⟨_,rfl,_,rfl,_,rfl,_,rfl,_,rfl,cN,λR hR=>?_⟩;have k1:=gg.new (o:=.lst [.str "n",.str "w"]) hR;refine⟨_,rfl,p,_,rfl,k1.cn,by decide,by decide,λd H3 g3 a3 b3=>?_⟩;have hk:=g3.keep R _ (gg.ne hR) ag;have DE:∃y:Str,jo [V.str "n",V.str "w"] d=some (.str y):=by
  have hd:d=0\/d=1:=by omega
  rcases hd with z|z<;>rw[z]
  ·exact⟨_,rfl⟩
  ·exact⟨_,rfl⟩
 obtain⟨y,hy⟩:=DE;refine⟨R,_,_,_,rfl,rfl,aZ.of hk,hy,cN,λR2 Ak=>?_⟩;have k2:=(k1.trans g3).new (o:=.lst [.str x,.str y]) Ak;refine⟨_,rfl,rfl,.inr ⟨_,rfl,?_⟩⟩;have DN:∃z:Str,jo [V.str x,V.str y] (if decide (V.str wd=V.str "must")=true then 1 else 0)=some (.str z):=by
  cases decide (V.str wd=V.str "must")
  ·exact⟨_,rfl⟩
  ·exact⟨_,rfl⟩
 obtain⟨z,hz⟩:=DN;refine⟨R2,_,_,_,rfl,rfl,aZ.of ag,hz,?_⟩;refine⟨p,x,z,rfl,k2.cn,λt2 bs ps H4 g4 hI hne hz8 hcl=>⟨f9,λt ht=>?_⟩⟩;have st:=aj ht (.tup [.str wd,.int n,.ref t2]);have hI':bR lh (upd H4 t (.tup [.str wd,.int n,.ref t2])) t2 bs ps:=hI.keep (aD.of st) λ_ _ e=>st _ _ e;have hpos:∀c∈[n],1<=c:=λc hc=>by rw[W9.mp hc];exact n1
 rcases Jb with e|e|e|e|e
 ·exact Xs (by rw[e];rfl) nk
 ·exact Xs (by rw[e];rfl) ns
 ·exact Xs (by rw[e];rfl) nc
 ·subst e;exact q t (.turn n ps) _ ((k2.trans g4).new ht) ⟨t2,bs,ag,hI'⟩ ⟨by show ps.length<=1000;omega,hcl,⟨hne,by omega⟩,hpos⟩ rfl
 ·subst e;exact q t (.must n ps) _ ((k2.trans g4).new ht) ⟨t2,bs,ag,hI'⟩ ⟨by show ps.length<=1000;omega,hcl,⟨hne,by omega⟩,hpos⟩ rfl
theorem EY(F:FA K mg "_law_other" yD)(GC:bc bf P w K mg base 4 "_law_column" ZJ (iD K))(GT:bc bf P w K mg base 4 "_law_state" ZF ux)(GM:bc bf P w K mg base 4 "_law_moves" ZG zE)(GO:bc bf P w K mg base 4 "_law_order" ZJ (Aq K))(O8:bc bf P w K mg base 4 "_law_columns" ["_law_pot_here","_law_head","_law_many_here"] (mh K))(GD:bc bf P w K mg base 4 "_law_draw" ZD dn) :
  bc bf P w K mg base 5 "_law_other" ZR (nY K EX):=by
 refine F.ok zK λf cdv A outer s H vs Q E hr h=>?_;obtain⟨p,a,hs,wd,rfl,hP,hh,Jb,q⟩:=h;refine⟨_,aq (dg (aX aQ (pv 2) ao) (aq (aK (i:=3) zK.nd rfl (Xw rfl) (ax GC hr (ae (pv 0) (ae (pv 1) ah))))
   (av (aH (ae ao (ae (pv 3) (ae (ax GT hr (ae (pv 0) ah)) (ae (ax GM hr (ae (pv 0) (ae (az K (aF uk (pv 1) (aF Aj (aH (ae ao ah)) ai)) (aF bM (pv 3) ai)) ah))) ah))))))) bU)
  (aN (aX aQ (pv 2) ao) (aH (ae ao (ae (ax GO hr (ae (pv 0) (ae (pv 1) ah))) ah)))
  (aN (aX aQ (pv 2) ao) (aH (ae ao (ae (ax O8 hr (ae (pv 0) (ae (pv 1) (ae (ax GD hr (ae (pv 0) (ae ai ah))) ah)))) ah)))
  (aN (aX aQ (pv 2) ao) (aH (ae ao (ae (ax O8 hr (ae (pv 0) (ae (pv 1) (ae (ax GD hr (ae (pv 0) (ae ai ah))) ah)))) (ae (ax GC hr (ae (pv 0) (ae (pv 1) ah))) ah))))
  (aN (aX aQ (pv 2) ao) (aH (ae ao (ae (bp K (aP (ae (ax GD hr (ae (pv 0) (ae ai ah))) (ae (ax GD hr (ae (pv 0) (ae ai ah))) ah))) (ax GD hr (ae (pv 0) (ae ai ah)))) ah)))
  (av (aH (ae (pv 2) ah))))))),?_⟩
 refine⟨_,rfl,rfl,_,rfl,?_⟩;refine cG (λc=>?_) (λn1=>?_)
 ·have e:wd="walk":=by have:=Xr c;injection this
  subst e;refine⟨_,rfl,_,rfl,p,a,hs,rfl,hP,hh,λn H1 g1 n1 n2=>?_⟩;refine ak ?_;dsimp only;refine⟨_,rfl,_,rfl,p,rfl,g1.cn,λst H2 g2=>?_⟩;have gg:=g1.trans g2;refine⟨_,rfl,Af gg.cn (hh.grow hP gg) rfl rfl n1 n2 λx H3 g3=>?_⟩;have g5:=gg.trans g3;refine⟨p,x,rfl,g5.cn,λt2 bs mv H4 g4 hI Vb hcl=>⟨NM,λt ht=>?_⟩⟩;have sn:=aj ht (.tup [.str "walk",.int n,.str st,.ref t2]);exact q t (.walk n mv) _ ((g5.trans g4).new ht) ⟨st,t2,bs,ag,hI.keep (aD.of sn) λ_ _ e=>e.keep (aD.of sn)⟩ ⟨by show mv.length<=1000;omega,hcl,by show mv.length<=50;omega,λc hc=>by rw[W9.mp hc];exact n1⟩ rfl
 refine⟨_,rfl,rfl,_,rfl,?_⟩;refine cG (λc=>?_) (λn2=>?_)
 ·have e:wd="sort":=by have:=Xr c;injection this
  subst e;refine⟨_,rfl,_,rfl,p,a,hs,rfl,hh,hP,λt2 bs cs H4 g4 hI Rh hcp=>⟨cN,λt ht=>?_⟩⟩;have sn:=aj ht (.tup [.str "sort",.ref t2]);exact q t (.sort cs) _ (g4.new ht) ⟨t2,bs,ag,hI.keep (aD.of sn) λ_ _ e=>e.keep (aD.of sn)⟩ ⟨by show cs.length<=1000;omega,trivial,trivial,hcp⟩ rfl
 refine⟨_,rfl,rfl,_,rfl,?_⟩;refine cG (λc=>?_) (λn3=>?_)
 ·have e:wd="count":=by have:=Xr c;injection this
  subst e;refine⟨_,rfl,_,rfl,_,rfl,p,_,rfl,hP,by decide,by decide,λd H1 g1 a1 b1=>?_⟩;refine⟨p,a,hs,_,rfl,g1.cn,hh.grow hP g1,by omega,by omega,λt2 ns H2 g2 h2 hn hp=>⟨cN,λt ht=>?_⟩⟩;exact q t (.count ns) _ ((g1.trans g2).new ht) ⟨t2,ag,aj ht _ _ _ h2⟩ ⟨by show ns.length<=1000;omega,trivial,trivial,hp⟩ rfl
 refine⟨_,rfl,rfl,_,rfl,?_⟩;refine cG (λc=>?_) (λn4=>?_)
 ·have e:wd="sum":=by have:=Xr c;injection this
  subst e;refine⟨_,rfl,_,rfl,_,rfl,p,_,rfl,hP,by decide,by decide,λd H1 g1 a1 b1=>?_⟩;refine⟨p,a,hs,_,rfl,g1.cn,hh.grow hP g1,by omega,by omega,λt2 ns H2 g2 h2 hn hp=>?_⟩;have gg:=g1.trans g2;refine⟨_,rfl,_,rfl,p,a,hs,rfl,gg.cn,hh.grow hP gg,λn H3 g3 n1 n2=>⟨f9,λt ht=>?_⟩⟩;have h3:=iM gg.cn g3 h2;exact q t (.sum ns n) _ ((gg.trans g3).new ht) ⟨t2,ag,aj ht _ _ _ h3⟩ ⟨by show ns.length<=1000;omega,trivial,trivial,λc hc=>by rcases Xc.mp hc with z|z;exact hp c z;rw[W9.mp z];exact n1⟩ rfl
 refine⟨_,rfl,rfl,_,rfl,?_⟩;refine cG (λc=>?_) (λn5=>?_)
 ·have e:wd="first":=by have:=Xr c;injection this
  subst e;refine⟨_,rfl,p,_,rfl,hP,by decide,by decide,λd H1 g1 a1 b1=>?_⟩;refine⟨_,rfl,p,_,rfl,g1.cn,by decide,by decide,λd2 H2 g2 a2 b2=>⟨cN,λR hR=>?_⟩⟩;have gg:=(g1.trans g2).new (o:=.lst [.int d,.int d2]) hR;refine⟨_,rfl,p,_,rfl,gg.cn,by decide,by decide,λd3 H3 g3 a3 b3=>?_⟩;have hk:=g3.keep R _ ((g1.trans g2).ne hR) ag;have DE:∃y:Int,jo [V.int d,V.int d2] d3=some (.int y):=by
   have hd:d3=0\/d3=1:=by omega
   rcases hd with z|z<;>rw[z]
   ·exact⟨_,rfl⟩
   ·exact⟨_,rfl⟩
  obtain⟨y,hy⟩:=DE;refine⟨R,_,_,_,rfl,rfl,aZ.of hk,hy,cN,λt ht=>?_⟩;exact q t (.first y) _ ((gg.trans g3).new ht) ag ⟨trivial,trivial,trivial,λc hc=>by cases hc⟩ rfl
 refine⟨_,rfl,dz,λt ht=>?_⟩;have g9:=(bo.refl hP).new (o:=.tup [.str wd]) ht;rcases Jb with e|e|e|e|e|e|e
 ·exact Xs (by rw[e];rfl) n1
 ·exact Xs (by rw[e];rfl) n2
 ·subst e;exact q t .apart _ g9 ag ⟨trivial,trivial,trivial,λc hc=>by cases hc⟩ rfl
 ·exact Xs (by rw[e];rfl) n3
 ·exact Xs (by rw[e];rfl) n4
 ·subst e;exact q t .number _ g9 ag ⟨trivial,trivial,trivial,λc hc=>by cases hc⟩ rfl
 ·exact Xs (by rw[e];rfl) n5
end My
namespace L2
open PySem
def NW(K:XO):List V->Hp->VK->Prop:=λxs H Q=>∃p ys,xs=[.ref p]/\(aZ K H p ys\/aJ K H p ys)/\Q (.int ys.length) H
variable{X:Cx}
theorem BC:eY X (.builtin "len") (NW X.K):=bt
end L2
namespace L2
open PySem PySem.Spec PyProof.Rows
variable{X:Cx}
def NI(K:XO)(n:String):List V->Hp->VK->Prop:=λxs H Q=>∃x t b,xs=[x,.ty n]/\kL K H x t/\PySem.W.kitOne K t (.type n)=some b/\Q (.bl b) H
theorem v9{n:String}:eY X (.builtin "isinstance") (NI X.K n):=by intro ac s σ H xs us Q I r h;obtain⟨x,t,b,rfl,ty,e,q⟩:=h;obtain⟨u,w',rfl,r1,r2⟩:=vals2 r;cases(show w'=Value.type n from r2);exact rH I r1 ty e λtk=>⟨.bl b,H,I.tok _,rfl,q⟩
def PU(K:XO)(ta tb:TE):TE:=λσ H Q=>ta σ H λx H1=>∃k,Om K x H1 k/\if k=true then Q x H1 else tb σ H1 Q
theorem Kc{a b:Expr}{ta tb:TE}{pos:Pos}(ha:PE X a ta)(hb:PE X b tb):PE X (.BoolOp .Or [a,b] pos) (PU X.K ta tb):=by
 intro ac s σ H Q I h;refine BoolOp_or (bZ (ha ac s σ H _ I h) λv s1 zz=>?_);obtain⟨x,H1,I1,r1,k,hk,q1⟩:=zz;refine bZ (LJ ac s1 σ H1 x v (λb H2=>b=k/\H2=H1) I1 r1 ⟨k,hk,rfl,rfl⟩) λb s2 zz=>?_;obtain⟨H2,I2,e1,e2⟩:=zz;subst e1 e2;cases b with
 |false=>exact c9 hb ac s2 σ _ Q I2 q1
 |true=>exact⟨x,_,I2,r1,q1⟩
end L2
namespace L2
open PySem
def IW:R2:=λx y H Q=>∃a b xs ys,x=.ref a/\y=.ref b/\H a=some (.tup xs)/\H b=some (.tup ys)/\xs.length+ys.length<=sizeLine/\∀t H',aM H H'->H' t=some (.tup (xs++ys))->Q (.ref t) H'
theorem bN{X:Cx}:jk X (binaryOp .Add) IW:=by
 intro ac s σ H x y v u Q I rx ry h;obtain⟨a,b,xs,ys,rfl,rfl,ha,hb,hz,q⟩:=h;by_cases hx:xs=[]
 ·subst hx;exact Eg ac s σ H _ _ v u Q I rx ry ⟨a,b,ys,rfl,rfl,aJ.of ha,aJ.of hb,q b H (aM.refl _) hb⟩
 ·exact uk ac s σ H _ _ v u Q I rx ry ⟨a,b,xs,ys,rfl,rfl,aJ.of ha,aJ.of hb,hx,hz,λz=>q a H (aM.refl _) (by rw[z,XC];exact ha),λ_ p hp=>q p _ (λb' u' e=>by rw[aI (aV e hp)];exact e) ag⟩
def Qw:V->Option Int->Option Int->Hp->VK->Prop:=λx lo hi H Q=>∃a xs,x=.ref a/\H a=some (.tup xs)/\∀t H',aM H H'->H' t=some (.tup (fP xs lo hi))->Q (.ref t) H'
theorem cU{X:Cx}:GX X Qw:=by intro ac s σ H x v vl vu lo hi sl Q I rx hs pl pu h;obtain⟨a,xs,rfl,hx,q⟩:=h;exact(Fv.or Hs) ac s σ H _ v vl vu lo hi sl Q I rx hs pl pu (GY rfl (aJ.of hx) (λz=>q a H (aM.refl _) (by rw[z];exact hx)) λp hp=>q p _ (λb' u' e=>by rw[aI (aV e hp)];exact e) ag)
theorem yf{xs:List V}{n:Nat}(h:n<=xs.length):fP xs none (some (n:Int))=xs.take n:=by unfold fP;rw[HT.Az,HT.lY];simp[Nat.min_eq_left h]
theorem Du{xs:List V}{n:Nat}(h:n<=xs.length):fP xs (some (n:Int)) none=xs.drop n:=by unfold fP;rw[HT.Az,HT.lY,Nat.min_eq_left h];exact List.take_of_length_le (by rw[List.length_drop];exact WR _)
structure EO(X:Cx)(e:Expr)(t:TE):Prop where
 h:PE X e t
structure AO(X:Cx)(es:List Expr)(t:TA):Prop where
 h:PA X es t
structure SO(X:Cx)(sts:List Stmt)(t:TS):Prop where
 h:oE X sts t
section
variable{X:Cx}{a b e:Expr}{es:List Expr}{ta tb te:TE}{t:TA}{pos pos':Pos}
theorem LC:AO X [] fR:=⟨ah⟩
theorem dZ(ha:EO X e te)(hr:AO X es t)(hs:starEach (e::es) X.env=(false,eval e X.env)::starEach es X.env:=by rfl):AO X (e::es) (bq te t):=⟨ae ha.h hr.h hs⟩
theorem Ll(h:AO X es t):EO X (.List es pos) (yP t):=⟨aP h.h⟩
theorem Ls{i:Nat}{x:Str}{rest:List Stmt}{u:TS}(hN:X.N.Nodup)(hi:X.N[i]? = some x)(hx:Loc X.env.scope x)(he:EO X e te)(h2:SO X rest u)(hs:swapsWith e (some (.Name x pos')) pos.line X.env=pure false:=by rfl)(hf:X.fn x=true\/X.env.scope.names.lookup x=some .local:=by first|exact .inl rfl|exact .inr rfl|assumption) :
  SO X (.Assign [.Name x pos'] e pos::rest) (F2 (CJ te (bC i)) u):=⟨aq (aK hN hi hx he.h hs hf) h2.h⟩
end
theorem MM{X:Cx}{sts:List Stmt}{t:TS}{R:TS->Prop}(h:SO X sts t)(r:R t):∃t,oE X sts t/\R t:=⟨t,h.h,r⟩
end L2
namespace L2
open PySem PySem.Spec PyProof.Rows
def dG(K:XO)(d:Addr)(key:Str)(f:Addr):Prop :=
 ∃(es:Array DictEntry)(ep:Nat)(i:Nat)(x:Int)(t:Tok),K.lookup d=some ⟨.type "dict",none,.dict es ep,#[]⟩/\es.all (λe=>isExactStrKey e.key)=true/\es.findIdx? (λe=>e.key.isStr key)=some i/\es[i]? = some ⟨x,.str key t,.ref f⟩
def Io(K:XO):R2:=λx y H Q=>∃d k f,x=.ref d/\y=.str k/\dG K d k f/\Q (.ref f) H
section
variable{X:Cx}
theorem qv:NZ X (Io X.K):=by
 intro value slice ac s σ H x y v u Q I rx ry h hs;obtain⟨d,k,f,rfl,rfl,⟨es,ep,i,hx,te,lk,ha,hi,he⟩,q⟩:=h;cases rx;obtain⟨t,rfl⟩:=ry;have ho:s.heap.get? d=some ⟨.type "dict",none,.dict es ep,#[]⟩:=I.j9 _ _ lk;have hT:s.TypeIs (.ref d) "dict":=⟨_,ho,rfl⟩;have fin:EP X ac σ Q (.ref f) {s with toks:=s.toks+1}:=⟨.ref f,H,I.kept (h':=s.heap) (t':=s.toks+1) λ_ _ e=>e,rfl,q⟩;refine subscriptTail_builtinR (x:=.ref f) hT slot_dict_getitem.lookup ?_ hs;unfold getItem;try with_reducible refine Xm ?_
 refine WL (wpAny_sequenceKey hT (by decide) ?_);refine WL (wpAny_callSpecial?_slot (name:=Str.ofString "__getitem__") hT slot_dict_getitem
  (XD slot_dict_getitem hT entry_dict_getitem ?_ (args_dict_getitem _ _)))
 show wpAny _ _ (dictGet d (.str k t) >>= _) _ _ s;refine WL ?_;unfold dictGet;try with_reducible refine Xm ?_
 refine WL (wpAny_pyHash_str ?_);unfold dictFind;refine WL ?_;try with_reducible refine Xm ?_
 refine WL (wpAny_dictEntries (s:={s with toks:=s.toks+1}) ho rfl ?_);dsimp only;rw[Xu ha];unfold foundByValue;rw[hi];dsimp only;rw[he];dsimp only;refine WL (wpAny_dictEpoch (s:={s with toks:=s.toks+1}) ho rfl ?_);refine WL (wpAny_eqBool_str ?_);refine WL (wpAny_dictEpoch (s:={s with toks:=s.toks+1}) ho rfl ?_);rw[Xt (by simp),WU rfl];refine WL (wpAny_rule (WM ?_));refine WL (wpAny_dictEntries (s:={s with toks:=s.toks+1}) ho rfl (WM ?_));rw[he];refine WM ⟨.ref f,rfl,WM ⟨rfl,fin⟩⟩
def KJ(X:Cx)(CX:rq)(k:Nat)(E:XK)(te:TE)(t:TA):TE:=λσ H Q=>te σ H λv H1=>∃f fd ps sp,v=.ref f/\fE X.prog X.w X.K X.mg X.base CX k f fd ps sp/\PySem.W.keepIn X.K (.ref f)=true/\Binds X.K fd ps []/\t σ H1 λvs H2=>sp vs H2 Q E
variable{CX:rq}{k:Nat}{E:XK}{x:Str}{p pos:Pos}{e:Expr}{es:List Expr}{te:TE}{t:TA}
theorem p6(hn:PE X (.Name x p) te)(hr:eV k X.A)(hx:Passes CX X E)(ha:PA X (e::es) t)
  (he:starEach (e::es) X.env=(false,eval e X.env)::starEach es X.env:=by rfl) (hpl:(backTo pos (starEach es X.env)).any (·.1)=false:=by rfl) :
  PE X (.Call (.Name x p) (e::es) [] pos) (KJ X CX k E te t):=by
 intro ac s σ H Q I h;refine wpAny_Call_Name_kw (bZ (hn ac s σ H _ I h) λu s1 zz=>?_);obtain⟨v,H1,I1,rv,f,fd,ps,sp,ev,F,hk,hb,q⟩:=zz;subst ev;cases rv;refine PySem.W.callWith_K (h₀:=X.base) I1.ok.mod.Ko hk (bZ (ha pos ac s1 σ H1 _ I1 q) λus s2 ⟨vs,H2,I2,r,q2⟩=>⟨I2.j9,?_⟩) he hpl;exact C5 F hr hb .nil hx I2 r (by rw[XC];exact q2)
end
end L2
namespace My
open PySem L2
structure A0(mg:Z2):Prop where
 str:mg "str"=none
 any:mg "any"=none
 zip:mg "zip"=none
 enumerate:mg "enumerate"=none
theorem vf{K:XO}{t:Value}(h:(t==t)=true):PySem.W.kitOne K t t=some true:=by unfold PySem.W.kitOne;exact Xu h
def gp:Sp:=λvs H Q _=>∃v,vs=[v]/\dP v/\Q (.str (sW v)) H
abbrev l_:Stmt:=top 9
theorem yq:ay ["cell"] ["cell"] (ar l_):=fs
variable{P:Program}{w:World}{K:XO}{mg:Z2}{base:Heap}
theorem AA(B:kf mg)(B3:A0 mg)(Ki:PySem.W.kitOne K (.type "int") (.type "str")=some false)(F:FA K mg "sort_of" l_) :
  bc bf P w K mg base 1 "sort_of" ["cell"] gp:=by
 refine F.ok yq λf cdv A outer s H vs Q E hr h=>?_;obtain⟨v,rfl,hv,q⟩:=h;refine⟨_,(av (eP (e_ (aW (v9 (n:="str")) rfl B.isinstance PyProof.Rows.boot_isinstance (ae (pv 0) (ae (yd (n:="str") rfl B3.str (by decide +kernel)) ah)))) ao ao)),?_⟩;rcases hv with⟨n,rfl⟩|⟨x,rfl⟩
 ·exact⟨_,rfl,_,_,false,rfl,.int n,Ki,_,rfl,bF q⟩
 ·exact⟨_,rfl,_,_,true,rfl,.str x,vf (by decide),_,rfl,b_ q⟩
def eI(ok:W1->Prop):Sp:=λvs H Q _=>∃(a:Addr)(x:W1),vs=[.ref a]/\kh H a x/\ok x/\qr x/\∀(u:Addr)(H':Hp),aM H H'->H' u=some (.tup ((df x).map V.int))->Q (.ref u) H'
def Qo(x:W1):Prop:=x=.apart\/x=.number\/∃n,x=.first n
def As:Sp:=λvs H Q _=>∃v,vs=[v]/\∀(u:Addr)(H':Hp),aM H H'->H' u=some (.tup [])->Q (.ref u) H'
abbrev i9:Stmt:=top 13
theorem qP:ay ZC ZC (ar i9):=fs
theorem BZ(F:FA K mg "no_columns" i9) :
  bc bf P w K mg base 1 "no_columns" ZC As:=by
 refine F.ok qP λf cdv A outer s H vs Q E hr h=>?_;have hu:=iO hr;obtain⟨v,rfl,q⟩:=h;refine⟨_,(av (aH ah)),?_⟩;exact⟨Xe _,λu hu=>q u _ (aj hu _) ag⟩
theorem ER:∀vs H Q E,eI Qo vs H Q E->As vs H Q E:=by rintro vs H Q E ⟨a,x,rfl,_,ho,_,q⟩;refine⟨_,rfl,λu H' s hu=>q u H' s ?_⟩;rw[hu];rcases ho with rfl|rfl|⟨n,rfl⟩<;>rfl
def vZ(x:W1):Prop:=∃c,(∃t,x=.keep c t)\/(∃ps,x=.turn c ps)\/(∃ps,x=.must c ps)\/∃mv,x=.walk c mv
theorem vZ.at_{x:W1}{H:Hp}{a:Addr}(h:vZ x)(ha:kh H a x):∃c y ys,H a=some (.tup (y :: .int c::ys))/\df x=[c]:=by
 obtain⟨c,⟨t,rfl⟩|⟨ps,rfl⟩|⟨ps,rfl⟩|⟨mv,rfl⟩⟩:=h
 ·obtain⟨s,xs,h1,h2⟩:=ha;exact⟨c,_,_,h1,rfl⟩
 ·obtain⟨t,bs,h1,h2⟩:=ha;exact⟨c,_,_,h1,rfl⟩
 ·obtain⟨t,bs,h1,h2⟩:=ha;exact⟨c,_,_,h1,rfl⟩
 ·obtain⟨s,t,bs,h1,h2⟩:=ha;exact⟨c,_,_,h1,rfl⟩
abbrev jc:Stmt:=top 14
theorem rh:ay ZC ZC (ar jc):=fs
theorem Bt(F:FA K mg "one_column" jc) :
  bc bf P w K mg base 1 "one_column" ZC (eI vZ):=by
 refine F.ok rh λf cdv A outer s H vs Q E hr h=>?_;have hu:=iO hr;obtain⟨a,x,rfl,ha,ho,hs,q⟩:=h;refine⟨_,(av (aH (ae (az K (pv 0) ai) ah))),?_⟩;obtain⟨c,y,ys,h1,hc⟩:=ho.at_ ha;refine⟨_,rfl,a,_,1,_,rfl,rfl,aJ.of h1,au (j:=1) rfl,dz,λu hu=>q u _ (aj hu _) ?_⟩;rw[ag,hc];rfl
def Jk(x:W1):Prop:=∃c d,x=.same c d
abbrev ia:Stmt:=top 15
theorem oR:ay ZC ZC (ar ia):=fs
theorem za(F:FA K mg "two_columns" ia) :
  bc bf P w K mg base 1 "two_columns" ZC (eI Jk):=by
 refine F.ok oR λf cdv A outer s H vs Q E hr h=>?_;obtain⟨a,x,rfl,ha,ho,hs,q⟩:=h;refine⟨_,(av (cq cU (pv 0) (cz ai) (cz ai))),?_⟩;obtain⟨c,d,rfl⟩:=ho;have h1:H a=some (.tup [.str "same",.int c,.int d]):=ha;exact⟨_,rfl,_,rfl,_,rfl,a,_,rfl,h1,λt H' s' ht=>q t H' s' (by rw[ht];rfl)⟩
def yr(x:W1):Prop:=∃cs,x=.cut cs\/x=.count cs
abbrev fD:Stmt:=top 16
theorem lD:ay ZC ZC (ar fD):=fs
theorem ve(F:FA K mg "listed_columns" fD) :
  bc bf P w K mg base 1 "listed_columns" ZC (eI yr):=by
 refine F.ok lD λf cdv A outer s H vs Q E hr h=>?_;obtain⟨a,x,rfl,ha,ho,hs,q⟩:=h;refine⟨_,(av (az K (pv 0) ai)),?_⟩;obtain⟨cs,rfl|rfl⟩:=ho
 ·obtain⟨t,h1,h2⟩:=ha;exact⟨_,rfl,a,_,1,_,rfl,rfl,aJ.of h1,rfl,q t H (aM.refl _) h2⟩
 ·obtain⟨t,h1,h2⟩:=ha;exact⟨_,rfl,a,_,1,_,rfl,rfl,aJ.of h1,rfl,q t H (aM.refl _) h2⟩
def El(x:W1):Prop:=∃cs,x=.sort cs
abbrev gG:Stmt:=top 17
theorem nz:ay ZC ZC (ar gG):=fs
theorem vU(B:kf mg)(F:FA K mg "sort_columns" gG) :
  bc bf P w K mg base 1 "sort_columns" ZC (eI El):=by
 refine F.ok nz λf cdv A outer s H vs Q E hr h=>?_;have hu:=iO hr;obtain⟨a,x,rfl,ha,ho,hs,q⟩:=h;refine⟨_,(av (aU bE rfl B.tuple XA (ae (bz (N':=["column","greatest_first"]) (src:=[none,none]) rfl (ba.j5 (by kernel_rfl)) (cL (az K (pv 0) ai)) (g:=(ja K 2 (bS (bC 0) (bS (bC 1) i5)))) (λcl C s H fp=>(cA rfl (aA (eE (i:=0)) (aA (eE (i:=1)) bT)))) (λcl C s H fp=>aY) (te:=(bB 0)) (λcl C s H fp=>(ji 0))) ah))),?_⟩;obtain⟨cs,rfl⟩:=ho;obtain⟨t,bs,h1,hI⟩:=ha;have hs:cs.length<=1000:=hs;have hl:(bs.map V.ref).length=cs.length:=by rw[WV,hI.len]
 refine⟨_,rfl,a,_,1,_,rfl,rfl,aJ.of h1,rfl,t,rfl,⟨_,aJ.of hI.tup⟩,λD hD=>?_⟩;refine cF (xs:=bs.map V.ref) (λi σ ys H'=>(∃o1 o2,σ=[o1,o2])/\ys=(cs.take i).map V.int/\ys.length=i/\H' D=some (.lst ys)/\aM H H') ⟨⟨none,none,rfl⟩,rfl,rfl,ag,aj hD _⟩ ?_ ?_ ?_ ?_ ?_
 ·rintro i σ ys H' _ ⟨_,_,hi,h,_⟩;exact⟨h,XF hi⟩
 ·rintro i σ ys H' _ ⟨_,_,_,_,sm⟩;exact aJ.of (sm _ _ hI.tup)
 ·rw[hl];exact WS hs (by decide)
 ·rintro i x σ ys H' hx ⟨⟨o1,o2,rfl⟩,rfl,hi,h,sm⟩;obtain⟨b,c,rfl,ec,bb,hb⟩:=hI.get hx;refine⟨b,_,rfl,aJ.of (sm _ _ hb),rfl,_,_,rfl,ak ⟨_,_,rfl,ak ⟨rfl,?_⟩⟩⟩;refine⟨_,rfl,h,⟨_,_,rfl⟩,?_,?_,ag,bu hD sm⟩
  ·rw[List.take_add_one,ec,WX];rfl
  ·rw[WW,hi];rfl
 ·rintro σ ys H' ⟨_,rfl,_,h,sm⟩;rw[hl,Xx]at h;exact⟨D,_,rfl,.inl ⟨aZ.of h,λu hu=>q u _ (sm.trans (aj hu _)) ag⟩⟩
def JH(x:W1):Prop:=∃cs c,x=.sum cs c
abbrev ip:Stmt:=top 18
theorem qy:ay ZC ZC (ar ip):=fs
theorem xH(F:FA K mg "sum_columns" ip) :
  bc bf P w K mg base 1 "sum_columns" ZC (eI JH):=by
 refine F.ok qy λf cdv A outer s H vs Q E hr h=>?_;have hu:=iO hr;obtain⟨a,x,rfl,ha,ho,hs,q⟩:=h;refine⟨_,(av (aF bN (az K (pv 0) ai) (aH (ae (az K (pv 0) ai) ah)))),?_⟩;obtain⟨cs,c,rfl⟩:=ho;obtain⟨t,h1,h2⟩:=ha;have hs:cs.length<=1000:=hs;refine⟨_,rfl,a,_,1,_,rfl,rfl,aJ.of h1,rfl,_,rfl,a,_,2,_,rfl,rfl,aJ.of h1,rfl,dz,λu hu=>?_⟩;have su:=aj hu (.tup [.int c]);refine⟨t,u,_,_,rfl,rfl,su _ _ h2,ag,?_,λt' H' s' ht'=>q t' H' (su.trans s') ?_⟩
 ·rw[WV];exact WS (show cs.length+1<=1001 by omega) (by decide)
 ·rw[ht'];show _=some (HO.tup ((cs++[c]).map V.int));rw[WX];rfl
def there(c:Int)(h:Hd):Bool:=decide (1<=c)&&decide (c<=(h.length:Nat))
def uf:Sp:=λvs H Q _=>∃(c:Int)(a:Addr)(h:Hd),vs=[.int c,.ref a]/\eN H a h/\Q (.bl (there c h)) H
abbrev kM:Stmt:=top 20
theorem uX:ay ["column","head"] ["column","head"] (ar kM):=fs
theorem Di(B:kf mg)(F:FA K mg "is_there" kM) :
  bc bf P w K mg base 1 "is_there" ["column","head"] uf:=by
 refine F.ok uX λf cdv A outer s H vs Q E hr h=>?_;obtain⟨c,a,h,rfl,ha,q⟩:=h;refine⟨_,(av (E1 C9 C9 ai (pv 0) (aW bt rfl B.len XM (ae (pv 1) ah)))),?_⟩;refine⟨_,rfl,_,_,rfl,rfl,_,rfl,?_⟩;unfold there at q;refine cG (λk=>?_) (λk=>?_)
 ·rw[k]at q;refine⟨_,rfl,a,_,rfl,.inr (aJ.of ha),_,_,rfl,rfl,?_⟩;rw[WV];rw[Bool.true_and]at q;exact q
 ·rw[Xb.mpr k]at q;exact q
def dk:Wk->List Hd->Bool
 | .one x,hs=>(df x).all λc=>there c (hs.headD [])
 | .both ..,_=>true
 | .meet c d _ _,hs=>there c (hs.headD [])&&there d (hs.getD 1 [])
def C8:Wk->Nat
 | .one _=>1
 |_=>2
def kP:Wk->Prop
 | .one x=>qr x
 |_=>True
def dH(n:Nat)(F:Wk->List Hd->Bool)(ok:Wk->List Hd->Prop):Sp:=λvs H Q _=>∃(a l:Addr)(x:Wk)(as:Z8)(hs:List Hd),vs=[.ref a,.ref l]/\dv n H a x/\gy H l as hs/\hs.length=C8 x/\kP x/\ok x hs/\∀H',aM H H'->Q (.bl (F x hs)) H'
def Jw(P:Program)(w:World)(K:XO)(mg:Z2)(base:Heap)(aR:Addr)(L:Nat)(x:W1):Prop :=
 ∃(f:Addr)(fd:FuncData),dG K aR x.nm f/\fE P w K mg base bf L f fd ZC (eI λy=>y=x)/\PySem.W.keepIn K (.ref f)=true/\Binds K fd ZC []
theorem cD{ok ok':W1->Prop}(h:∀x,ok' x->ok x):∀vs H Q E,eI ok' vs H Q E->eI ok vs H Q E:=by rintro vs H Q E ⟨a,x,h1,h2,h3,h4⟩;exact⟨a,x,h1,h2,h x h3,h4⟩
theorem BX{aR:Addr}{f1 f2 f3 f4 f5 f6:Addr}
  (tk:dG K aR "keep" f2) (ts:dG K aR "same" f3) (tc:dG K aR "cut" f4) (tt:dG K aR "turn" f2) (tm:dG K aR "must" f2) (tw:dG K aR "walk" f2) (to:dG K aR "sort" f5) (ta:dG K aR "apart" f1) (tn:dG K aR "count" f4) (tu:dG K aR "sum" f6) (tb:dG K aR "number" f1) (tf:dG K aR "first" f1)
  (G0:FnAt P w K mg base 1 f1 ZC As) (G2:FnAt P w K mg base 1 f2 ZC (eI vZ)) (G3:FnAt P w K mg base 1 f3 ZC (eI Jk)) (G4:FnAt P w K mg base 1 f4 ZC (eI yr)) (G5:FnAt P w K mg base 1 f5 ZC (eI El)) (G6:FnAt P w K mg base 1 f6 ZC (eI JH)):∀x,Jw P w K mg base aR 1 x:=by
 obtain⟨d1,G0,b1,k1⟩:=G0;obtain⟨d2,G2,b2,k2⟩:=G2;obtain⟨d3,G3,b3,k3⟩:=G3;obtain⟨d4,G4,b4,k4⟩:=G4;obtain⟨d5,G5,b5,k5⟩:=G5;obtain⟨d6,G6,b6,k6⟩:=G6;have G1:=G0.imp ER;intro x;cases x with
 |keep c t=>exact⟨f2,d2,tk,G2.imp (cD λ_ e=>⟨c,.inl ⟨t,e⟩⟩),k2,b2⟩
 |same c d=>exact⟨f3,d3,ts,G3.imp (cD λ_ e=>⟨c,d,e⟩),k3,b3⟩
 |cut cs=>exact⟨f4,d4,tc,G4.imp (cD λ_ e=>⟨cs,.inl e⟩),k4,b4⟩
 |turn c ps=>exact⟨f2,d2,tt,G2.imp (cD λ_ e=>⟨c,.inr (.inl ⟨ps,e⟩)⟩),k2,b2⟩
 |must c ps=>exact⟨f2,d2,tm,G2.imp (cD λ_ e=>⟨c,.inr (.inr (.inl ⟨ps,e⟩))⟩),k2,b2⟩
 |walk c mv=>exact⟨f2,d2,tw,G2.imp (cD λ_ e=>⟨c,.inr (.inr (.inr ⟨mv,e⟩))⟩),k2,b2⟩
 |sort cs=>exact⟨f5,d5,to,G5.imp (cD λ_ e=>⟨cs,e⟩),k5,b5⟩
 |apart=>exact⟨f1,d1,ta,G1.imp (cD λ_ e=>.inl e),k1,b1⟩
 |count cs=>exact⟨f4,d4,tn,G4.imp (cD λ_ e=>⟨cs,.inr e⟩),k4,b4⟩
 |sum cs c=>exact⟨f6,d6,tu,G6.imp (cD λ_ e=>⟨cs,c,e⟩),k6,b6⟩
 |number=>exact⟨f1,d1,tb,G1.imp (cD λ_ e=>.inr (.inl e)),k1,b1⟩
 |first n=>exact⟨f1,d1,tf,G1.imp (cD λ_ e=>.inr (.inr ⟨n,e⟩)),k1,b1⟩
theorem dq{x:W1}{hs:List Hd}(h:hs.length=C8 (.one x)):∃hd,hs=[hd]:=by
 cases hs with
 |nil=>cases h
 |cons hd r =>
  cases r with
  |nil=>exact⟨hd,rfl⟩
  |cons _ _=>cases h
theorem dM{hs:List Hd}(h:hs.length=2):∃h1 h2,hs=[h1,h2]:=by
 match hs,h with
 |[h1,h2],_=>exact⟨h1,h2,rfl⟩
theorem BM{x:W1}(h:qr x):(df x).length<=1001:=by cases x<;>simp only[df,WW,Xp,List.length_nil]<;>first|omega | (simp only[qr]at h;omega)
theorem NN{x:W1}:x.nm≠"meet"/\x.nm≠"both":=by cases x<;>(simp only[W1.nm];decide +kernel)
def gV:Wk->List Int
 | .one x=>df x
 |_=>[]
def zJ(n:Nat)(x:Wk):Sp:=λvs H Q _=>∃(a:Addr),vs=[.ref a]/\dv n H a x/\kP x/\∀(u:Addr)(H':Hp),aM H H'->H' u=some (.tup ((gV x).map V.int))->Q (.ref u) H'
def Fo(P:Program)(w:World)(K:XO)(mg:Z2)(base:Heap)(aR:Addr)(n:Nat)(x:Wk):Prop :=
 ∃(f:Addr)(fd:FuncData),dG K aR x.nm f/\fE P w K mg base bf 1 f fd ZC (zJ n x)/\PySem.W.keepIn K (.ref f)=true/\Binds K fd ZC []
theorem cb{n:Nat}{H:Hp}{a:Addr}{x:W1}:dv n H a (.one x)↔kh H a x:=by cases n<;>exact Iff.rfl
theorem Ln{P:Program}{w:World}{K:XO}{mg:Z2}{base:Heap}{aR f:Addr}{n:Nat}(h:∀x,Jw P w K mg base aR 1 x)(tb:dG K aR "both" f)(G:FnAt P w K mg base 1 f ZC As) :
  ∀x:Wk,x.nm≠"meet"->Fo P w K mg base aR n x:=by
 obtain⟨fd,G,b,k⟩:=G;intro x hx;cases x with
 |one x =>obtain⟨g,gd,h1,h2,h3⟩:=h x;refine⟨g,gd,h1,h2.imp ?_,h3⟩;rintro vs H Q E ⟨a,rfl,ha,hs,q⟩;exact⟨a,x,rfl,cb.mp ha,rfl,hs,q⟩
 |both p q =>refine⟨f,fd,tb,G.imp ?_,k,b⟩;rintro vs H Q E ⟨a,rfl,ha,hs,q⟩;exact⟨_,rfl,q⟩
 |meet c d p q=>exact Xs rfl hx
theorem rF{x:Wk}(h:kP x):(gV x).length<=1001:=by
 cases x with
 |one x=>exact BM h
 |both p q=>exact Xe _
 |meet c d p q=>exact Xe _
abbrev ir:Stmt:=top 21
theorem jA:ay ["worker","heads","columns_of"] Z9 (ar ir):=fs
theorem Be{n:Nat}{aC:Addr}(B:kf mg)(B2:iY mg)(mC:mg "COLUMNS_OF"=some (.ref aC))(GC:∀x:Wk,x.nm≠"meet"->Fo P w K mg base aC n x)(F:FA K mg "columns_fit" ir)
  (kO:bc bf P w K mg base 1 "is_there" ["column","head"] uf) :
  bc bf P w K mg base 2 "columns_fit" Z9 (dH n dk (λ_ _=>True)):=by
 refine F.ok jA λf cdv A outer s H vs Q E hr h=>?_;have hu:=iO hr;have hu1:=jD hr;obtain⟨a,l,x,as,hs,rfl,ha,hL,hn,hsm,WG,q⟩:=h;refine⟨_,(aN (aX aQ (az K (pv 0) ai) ao) (qF (ax kO hr (ae (az K (pv 0) ai) (ae (bp K (pv 1) ai) ah))) (c9 (ax kO hr (ae (az K (pv 0) ai) (ae (bp K (pv 1) ai) ah)))))
   (aq (aK (i:=2) jA.nd rfl (Xw rfl) (gv (r:=Io K) qv (cT rfl mC (show RelV (.ref aC) (.ref aC) from rfl)) (az K (pv 0) ai) (λ_ _=>rfl)))
   (av (aW (iK rfl) rfl B2.all PyProof.Rows.boot_all (ae (bz (N':=["column","heads"]) (src:=[none,some 1]) rfl (ba.j5 (by kernel_rfl)) (cL (p6 (k:=1) (pv 2) hr vq (ae (pv 0) ah))) (λcl C s H fp=>(eE (i:=0))) (λcl C s H fp=>aY) (te:=(jh uf [] E0 (bq (bB 0) (bq (hZ (yv K) (bB 1) (tC (.int 0))) fR)))) (λcl C s H fp=>(ax (hg:=xS) kO hr (ae (ji 0) (ae (bp K (Ae 1) ai) ah))))) ah))))),?_⟩
 obtain⟨xs,h1⟩:=ha.first;refine⟨_,rfl,a,_,0,_,rfl,rfl,aJ.of h1,au (j:=0) rfl,rfl,_,rfl,cG (λk=>?_) (λk=>aG ?_)⟩
 ·have k:V.str x.nm=V.str "meet":=Xr k;injection k with k;cases x with
  |one x=>exact Xs k NN.1
  |both p q=>exact Xs k (by show("both" : Str)≠"meet";decide +kernel)
  |meet c d p q' =>
  obtain⟨h0,h2,rfl⟩:=dM hn;obtain⟨a0,e0,gJ⟩:=hL.nth (i:=0) rfl;obtain⟨a1,e1,vp⟩:=hL.nth (i:=1) rfl;cases n with
  |zero=>exact Xy ha
  |succ n =>
  obtain⟨b,e,bs,es,h1,_⟩:=ha;refine⟨_,rfl,a,_,1,_,rfl,rfl,aJ.of h1,rfl,_,rfl,l,_,0,_,rfl,rfl,aZ.of hL.lst,au (j:=0) e0,c,a0,h0,rfl,gJ,_,rfl,?_⟩;have q:=q H (aM.refl _);have q:Q (.bl (there c h0&&there d h2)) H:=q;refine cG (λk=>?_) (λk=>?_)
  ·rw[k,Bool.true_and]at q;exact⟨_,rfl,a,_,2,_,rfl,rfl,aJ.of h1,rfl,_,rfl,l,_,1,_,rfl,rfl,aZ.of hL.lst,au (j:=1) e1,d,a1,h2,rfl,vp,q⟩
  ·rw[Xb.mpr k]at q;exact q
 ·have hx:x.nm≠"meet":=λe=>k (WU (by rw[e]));obtain⟨g,gd,J4,FG,kG,bG⟩:=GC x hx;refine⟨_,rfl,a,_,0,_,rfl,rfl,aJ.of h1,au (j:=0) rfl,aC,x.nm,g,rfl,rfl,J4,ak ?_⟩;dsimp only;refine⟨_,rfl,g,gd,_,zJ n x,rfl,FG,kG,bG,_,rfl,a,rfl,ha,hsm,λu H1 s1 hu1=>⟨u,rfl,⟨_,aJ.of hu1⟩,λD hD=>?_⟩⟩;have hh:∃h0,hs[0]? = some h0/\hs.headD []=h0:=by
   cases hs with
   |nil=>cases x<;>cases hn
   |cons h0 r=>exact⟨h0,rfl,rfl⟩
  obtain⟨h0,Up,eh⟩:=hh;obtain⟨a0,e0,gJ⟩:=hL.nth Up;refine cF (xs:=(gV x).map V.int) (λi σ ys H'=>(∃o,σ=[o,some (.ref l)])/\ys=(((gV x).take i).map λc=>there c h0).map V.bl/\ys.length=i/\H' D=some (.lst ys)/\aM H1 H') ⟨⟨none,rfl⟩,rfl,rfl,ag,aj hD _⟩ ?_ ?_ ?_ ?_ ?_
  ·rintro i σ ys H' _ ⟨_,_,hi,h,_⟩;exact⟨h,XF hi⟩
  ·rintro i σ ys H' _ ⟨_,_,_,_,sm⟩;exact aJ.of (sm _ _ hu1)
  ·rw[WV];exact WS (rF hsm) (by decide)
  ·rintro i v σ ys H' hv ⟨⟨o,rfl⟩,rfl,hi,h,sm⟩;rw[Xi]at hv;cases ec:(gV x)[i]? with
   |none=>rw[ec]at hv;cases hv
   |some c =>
    rw[ec]at hv;have hv:V.int c=v:=Xf hv;subst hv;have s2:=s1.trans sm;refine⟨_,rfl,_,rfl,l,_,0,_,rfl,rfl,aZ.of (s2 _ _ hL.lst),au (j:=0) e0,c,a0,h0,rfl,s2 _ _ gJ,h,⟨_,rfl⟩,?_,?_,ag,bu hD sm⟩
    ·rw[take_one ec,WX,WX];rfl
    ·rw[WW,hi];rfl
  ·rintro σ ys H' ⟨_,rfl,_,h,sm⟩;rw[WV,Xx]at h;refine⟨D,_,rfl,aZ.of h,?_⟩;have e:dk x hs=((gV x).map λc=>there c h0).all id:=by
    cases x with
    |one x =>show(df x).all (λc=>there c (hs.headD []))=_;rw[eh,List.all_map];rfl
    |both p q=>rfl
    |meet c d p q=>exact Xs rfl hx
   rw[←e];exact q H' (s1.trans sm)
end My
namespace L2
open PySem
section
variable{g g2:TG}{tc tZ:TT}{te:TE}{wi2:TI}{D:Addr}{Q:VK}{N:St->List V->Hp->Prop}{rA:St}{H0:Hp}{OX:List V}{K:XO}{a:Addr}{xs:List V}
theorem ze(Pv:Nat->St->List V->Hp->Prop)(h0:Pv 0 rA [] H0)(hD:∀i σ ys H,i<=xs.length->Pv i σ ys H->H D=some (.lst ys))(hl:∀i σ ys H,i<=xs.length->Pv i σ ys H->aZ K H a xs)
  (hs:∀i x σ ys H,xs[i]? = some x->Pv i σ ys H->g x σ H λde H2=>tc de H2 λb H3=>if b=true then wi2 de H3 λJ2 H4=>∃W2:Nat->Nat->St->List V->Hp->Prop,(∃m,W2 0 m de ys H4)/\qu J2 g2 tZ te D (Pv (i+1)) W2 else Pv (i+1) de ys H3)
  (hd:∀σ ys H,Pv xs.length σ ys H->Q (.ref D) H):∃W:Nat->Nat->St->List V->Hp->Prop,(∃m,W 0 m rA [] H0)/\uC (L5 K a) g tc wi2 g2 tZ te D Q W:=by
 refine⟨λi m σ ys H=>m=xs.length-i/\i<=xs.length/\Pv i σ ys H,⟨xs.length,by simp,Xe _,h0⟩,?_⟩;rintro i m σ ys H ⟨rfl,hi,p⟩;have q:=hl i σ ys H hi p;refine⟨hD i σ ys H hi p,?_⟩;by_cases hlt:i<xs.length
 ·refine .inr ⟨⟨xs,xs[i],q,by simp[hlt]⟩,Pv (i+1),λσ' ys' H' p'=>⟨xs.length-(i+1),by omega,rfl,hlt,p'⟩,λx H' y=>?_⟩;obtain⟨e,y⟩:=y;subst e;exact hs i x σ ys _ (y xs q) p
 ·have e:i=xs.length:=by omega
  subst e;exact .inl ⟨⟨xs,q,WR _⟩,hd σ ys H p⟩
end
end L2
namespace My
open PySem L2
def alike(s t:Str):Bool:=decide (s=t) && !decide (s="t")
def sM:Sp:=λvs H Q _=>∃s t:Str,vs=[.str s,.str t]/\Q (.bl (alike s t)) H
theorem bQ(s t:Str):decide (V.str s=V.str t)=decide (s=t):=by
 by_cases e:s=t
 ·rw[e];simp
 ·rw[WT e,WT (λz=>e (V.str.inj z))]
abbrev fQ:Stmt:=top 22
theorem mQ:ay ["one","other"] ["one","other"] (ar fQ):=fs
variable{P:Program}{w:World}{K:XO}{mg:Z2}{base:Heap}
theorem CW{tk:Tok}(mT:mg "TALLY"=some (.str "t" tk))(F:FA K mg "are_same_sort" fQ) :
  bc bf P w K mg base 1 "are_same_sort" ["one","other"] sM:=by
 refine F.ok mQ λf cdv A outer s H vs Q E hr h=>?_;obtain⟨s1,t1,rfl,q⟩:=h;refine⟨_,(av (qF (bY aQ (pv 0) (pv 1)) (c9 (bY nu (pv 0) (cT (v:=.str "t") rfl mT ⟨_,rfl⟩))))),?_⟩;unfold alike at q;refine⟨_,rfl,_,rfl,rfl,_,rfl,?_⟩;rw[bQ];refine cG (λk=>?_) (λk=>?_)
 ·rw[k,Bool.true_and,←bQ]at q;exact⟨_,rfl,rfl,q⟩
 ·rw[Xb.mpr k]at q;exact q
def cY(vs:List V)(t:Str):Bool:=!decide (t="t")&&vs.all λv=>decide (sW v=t)
def iU:Sp:=λvs H Q _=>∃(l:Addr)(us:List V)(t:Str),vs=[.ref l,.str t]/\H l=some (.lst us)/\us.length<=100000/\(∀v∈us,dP v)/\∀H',aM H H'->Q (.bl (cY us t)) H'
abbrev jI:Stmt:=top 23
theorem ud:ay ZS ZS (ar jI):=fs
theorem wC{tk:Tok}(B2:iY mg)(mT:mg "TALLY"=some (.str "t" tk))(F:FA K mg "cells_fit" jI)
  (iA:bc bf P w K mg base 1 "sort_of" ["cell"] gp) :
  bc bf P w K mg base 2 "cells_fit" ZS iU:=by
 refine F.ok ud λf cdv A outer s H vs Q E hr h=>?_;obtain⟨l,us,t,rfl,hl,hz,hc,q⟩:=h;refine⟨_,(av (qF (bY nu (pv 1) (cT (v:=.str "t") rfl mT ⟨_,rfl⟩)) (c9 (aW (iK rfl) rfl B2.all PyProof.Rows.boot_all (ae (bz (N':=["cell","column_sort"]) (src:=[none,some 1]) rfl (ba.j5 (by kernel_rfl)) (dX (pv 0)) (λcl C s H fp=>(eE (i:=0))) (λcl C s H fp=>aY) (te:=(hZ Jt (jh gp [] E0 (bq (bB 0) fR)) (bB 1))) (λcl C s H fp=>(bY aQ (ax (hg:=xS) iA hr (ae (ji 0) ah)) (Ae 1)))) ah))))),?_⟩;unfold cY at q;refine⟨_,rfl,rfl,_,rfl,?_⟩;rw[bQ];refine cG (λk=>?_) (λk=>?_)
 ·rw[k,Bool.true_and]at q;refine⟨_,rfl,l,rfl,⟨_,aZ.of hl⟩,λD hD=>?_⟩;refine dJ (xs:=us) (λi σ ys H'=>(∃o,σ=[o,some (.str t)])/\ys=((us.take i).map λv=>decide (sW v=t)).map V.bl/\ys.length=i/\H' D=some (.lst ys)/\aM H H') ⟨⟨none,rfl⟩,rfl,rfl,ag,aj hD _⟩ ?_ ?_ ?_ ?_ ?_
  ·rintro i σ ys H' _ ⟨_,_,hi,h,_⟩;exact⟨h,XF hi⟩
  ·rintro i σ ys H' _ ⟨_,_,_,_,sm⟩;exact aZ.of (sm _ _ hl)
  ·exact WS hz (by decide)
  ·rintro i v σ ys H' hv ⟨⟨o,rfl⟩,rfl,hi,h,sm⟩;refine⟨_,rfl,v,rfl,hc v (W4 hv),_,rfl,rfl,h,⟨_,rfl⟩,?_,?_,ag,bu hD sm⟩
   ·rw[take_one hv,WX,WX,bQ];rfl
   ·rw[WW,hi];rfl
  ·rintro σ ys H' ⟨_,rfl,_,h,sm⟩;rw[Xx]at h;refine⟨D,_,rfl,aZ.of h,?_⟩;have e:(us.all λv=>decide (sW v=t))=(us.map λv=>decide (sW v=t)).all id:=by rw[List.all_map];rfl
   rw[←e];exact q H' sm
 ·rw[Xb.mpr k]at q;exact q H (aM.refl _)
def goodW:Wk->Prop
 | .one x=>JK x
 |_=>True
def cX(ss:List Str):Bool:=ss.all λs=>decide (s=ss.headD "")
def fW(t:Str):Str:=if t="t" then "n" else t
def bg:Wk->List Hd->Bool
 | .one (.keep c t),hs=>decide (t=fW (bx (hs.headD []) c))
 | .one (.same c d),hs=>alike (bx (hs.headD []) c) (bx (hs.headD []) d)
 | .one (.turn c ps),hs=>cY (ps.flatMap λp=>[p.1,p.2]) (bx (hs.headD []) c)
 | .one (.must c ps),hs=>cX (ps.map λp=>sW p.2)&&cY (ps.map λp=>p.1) (bx (hs.headD []) c)
 | .one (.walk c mv),hs=>cY (mv.filter λv=>!decide (v=.non)) (bx (hs.headD []) c)
 | .one (.sum _ c),hs=>!decide (bx (hs.headD []) c="w")
 | .both ..,hs=>decide (hs.headD []=hs.getD 1 [])
 | .meet c d _ _,hs=>alike (bx (hs.headD []) c) (bx (hs.getD 1 []) d)
 |_,_=>true
def qK(k:Wk->Prop)(x:Wk)(hs:List Hd):Prop:=k x/\dk x hs=true/\goodW x
theorem fA{c:Int}{h:Hd}(e:there c h=true):1<=c/\c<=h.length:=by unfold there at e;simp only[Xq,decide_eq_true_eq]at e;exact e
theorem cI{x:W1}{h:Hd}{c:Int}(e:dk (.one x) [h]=true)(hc:c∈df x):1<=c/\c<=h.length:=fA (List.all_eq_true.mp e c hc)
abbrev jS:Stmt:=top 24
theorem lR:ay ["worker","heads","column_sort"] Z9 (ar jS):=fs
theorem v3{n:Nat}{tk:Tok}(mT:mg "TALLY"=some (.str "t" tk))(F:FA K mg "keep_fits" jS) :
  bc bf P w K mg base 1 "keep_fits" Z9 (dH n bg (qK λx=>∃c t,x=.one (.keep c t))):=by
 refine F.ok lR λf cdv A outer s H vs Q E hr h=>?_;obtain⟨a,l,x,as,hs,rfl,ha,hL,hn,hsm,ho,q⟩:=h;refine⟨_,(aq (aK (i:=2) lR.nd rfl (Xw rfl) (az K (bp K (pv 1) ai) (aF bM (az K (pv 0) ai) ai)))
   (av (bY aQ (az K (az K (pv 0) ai) ai) (eP (aX aQ (pv 2) (cT (v:=.str "t") rfl mT ⟨_,rfl⟩)) ao (pv 2))))),?_⟩
 obtain⟨⟨c,t,rfl⟩,hf,hg⟩:=ho;obtain⟨hd,rfl⟩:=dq hn;obtain⟨a0,e0,gJ⟩:=hL.nth (i:=0) rfl;obtain⟨st,xs,h1,h2⟩:=cb.mp ha;have hc:=cI hf (c:=c) (by simp[df]);refine⟨_,rfl,l,_,0,_,rfl,rfl,aZ.of hL.lst,au (j:=0) e0,_,rfl,a,_,1,_,rfl,rfl,aJ.of h1,rfl,_,_,rfl,rfl,a0,_,_,_,rfl,rfl,aJ.of gJ,dF hc,ak ?_⟩;dsimp only;refine⟨_,rfl,a,_,2,_,rfl,rfl,aJ.of h1,rfl,st,_,0,_,rfl,rfl,aJ.of h2,au (j:=0) rfl,_,rfl,rfl,_,rfl,?_⟩;have q:=q H (aM.refl _);have q:Q (.bl (decide (t=fW (bx hd c)))) H:=q;unfold fW at q;rw[bQ];refine cG (λk=>?_) (λk=>?_)
 ·rw[Xu (Xr k),←bQ]at q;exact⟨rfl,q⟩
 ·rw[Xt (λe=>k (WU e)),←bQ]at q;exact⟨_,rfl,rfl,q⟩
abbrev jC:Stmt:=top 25
theorem tE:ay Z9 Z9 (ar jC):=fs
theorem vR{n:Nat}(F:FA K mg "same_fits" jC)
  (fV:bc bf P w K mg base 1 "are_same_sort" ["one","other"] sM) :
  bc bf P w K mg base 2 "same_fits" Z9 (dH n bg (qK λx=>∃c d,x=.one (.same c d))):=by
 refine F.ok tE λf cdv A outer s H vs Q E hr h=>?_;obtain⟨a,l,x,as,hs,rfl,ha,hL,hn,hsm,ho,q⟩:=h;refine⟨_,(av (ax fV hr (ae (az K (bp K (pv 1) ai) (aF bM (az K (pv 0) ai) ai)) (ae (az K (bp K (pv 1) ai) (aF bM (az K (pv 0) ai) ai)) ah)))),?_⟩;obtain⟨⟨c,d,rfl⟩,hf,hg⟩:=ho;obtain⟨hd,rfl⟩:=dq hn;obtain⟨a0,e0,gJ⟩:=hL.nth (i:=0) rfl;have h1:H a=some (.tup [.str "same",.int c,.int d]):=cb.mp ha;have hc:=cI hf (c:=c) (by simp[df]);have hc2:=cI hf (c:=d) (by simp[df]);refine⟨_,rfl,l,_,0,_,rfl,rfl,aZ.of hL.lst,au (j:=0) e0,_,rfl,a,_,1,_,rfl,rfl,aJ.of h1,rfl,_,_,rfl,rfl,a0,_,_,_,rfl,rfl,aJ.of gJ,dF hc,?_⟩;exact⟨_,rfl,l,_,0,_,rfl,rfl,aZ.of hL.lst,au (j:=0) e0,_,rfl,a,_,2,_,rfl,rfl,aJ.of h1,rfl,_,_,rfl,rfl,a0,_,_,_,rfl,rfl,aJ.of gJ,dF hc2,_,_,rfl,q H (aM.refl _)⟩
abbrev kW:Stmt:=top 29
theorem vF:ay Z9 Z9 (ar kW):=fs
theorem xC{n:Nat}(F:FA K mg "sum_fits" kW) :
  bc bf P w K mg base 1 "sum_fits" Z9 (dH n bg (qK λx=>∃cs c,x=.one (.sum cs c))):=by
 refine F.ok vF λf cdv A outer s H vs Q E hr h=>?_;obtain⟨a,l,x,as,hs,rfl,ha,hL,hn,hsm,ho,q⟩:=h;refine⟨_,(av (bY nu (az K (bp K (pv 1) ai) (aF bM (az K (pv 0) ai) ai)) ao)),?_⟩;obtain⟨⟨cs,c,rfl⟩,hf,hg⟩:=ho;obtain⟨hd,rfl⟩:=dq hn;obtain⟨a0,e0,gJ⟩:=hL.nth (i:=0) rfl;obtain⟨t,h1,h2⟩:=cb.mp ha;have hc:=cI hf (c:=c) (by simp[df]);have q:=q H (aM.refl _);have q:Q (.bl (!decide (bx hd c="w"))) H:=q;rw[←bQ]at q;exact⟨_,rfl,l,_,0,_,rfl,rfl,aZ.of hL.lst,au (j:=0) e0,_,rfl,a,_,2,_,rfl,rfl,aJ.of h1,rfl,_,_,rfl,rfl,a0,_,_,_,rfl,rfl,aJ.of gJ,dF hc,rfl,q⟩
abbrev jx:Stmt:=top 31
theorem uN:ay Z9 Z9 (ar jx):=fs
theorem vy{n:Nat}(F:FA K mg "meet_fits" jx)
  (fV:bc bf P w K mg base 1 "are_same_sort" ["one","other"] sM) :
  bc bf P w K mg base 2 "meet_fits" Z9 (dH n bg (qK λx=>∃c d p q,x=.meet c d p q)):=by
 refine F.ok uN λf cdv A outer s H vs Q E hr h=>?_;obtain⟨a,l,x,as,hs,rfl,ha,hL,hn,hsm,ho,q⟩:=h;refine⟨_,(av (ax fV hr (ae (az K (bp K (pv 1) ai) (aF bM (az K (pv 0) ai) ai)) (ae (az K (bp K (pv 1) ai) (aF bM (az K (pv 0) ai) ai)) ah)))),?_⟩;obtain⟨⟨c,d,p1,p2,rfl⟩,hf,hg⟩:=ho;obtain⟨h0,h2,rfl⟩:=dM hn;obtain⟨a0,e0,gJ⟩:=hL.nth (i:=0) rfl;obtain⟨a1,e1,vp⟩:=hL.nth (i:=1) rfl;cases n with
 |zero=>exact Xy ha
 |succ n =>
 obtain⟨b,e,bs,es,h1,_⟩:=ha;have hf:(there c h0&&there d h2)=true:=hf;rw[Xq]at hf;refine⟨_,rfl,l,_,0,_,rfl,rfl,aZ.of hL.lst,au (j:=0) e0,_,rfl,a,_,1,_,rfl,rfl,aJ.of h1,rfl,_,_,rfl,rfl,a0,_,_,_,rfl,rfl,aJ.of gJ,dF (fA hf.1),?_⟩;exact⟨_,rfl,l,_,1,_,rfl,rfl,aZ.of hL.lst,au (j:=1) e1,_,rfl,a,_,2,_,rfl,rfl,aJ.of h1,rfl,_,_,rfl,rfl,a1,_,_,_,rfl,rfl,aJ.of vp,dF (fA hf.2),_,_,rfl,q H (aM.refl _)⟩
theorem p8(s t:List Str):cJ (.tup (s.map D.str)) (.tup (t.map D.str))=decide (s=t):=by
 have gen:∀s t:List Str,fU (s.map D.str) (t.map D.str)=decide (s=t):=by
  intro s;induction s with
  |nil=>intro t;cases t<;>simp[fU]
  |cons x s ih =>
   intro t;cases t with
   |nil=>simp[fU]
   |cons y t =>rw[XH,XH,fU,ih t];by_cases e1:x=y<;>by_cases e2:s=t<;>simp[cJ,e1,e2]
 rw[cJ,gen]
theorem zt{K:XO}{H:Hp}{a:Addr}{h:Hd}(e:eN H a h):a_ K H (.tup (h.map D.str)) (.ref a):=lV e (mq h)
theorem kH(h:List Str):(D.tup (h.map D.str)).depth<=1:=by
 rw[D.depth];have:cE (h.map D.str)<=0:=by
  induction h with
  |nil=>rw[List.map_nil,cE];exact WR _
  |cons x h ih=>rw[XH,cE];exact Nat.max_le.mpr ⟨by simp[D.depth],ih⟩
 omega
abbrev jV:Stmt:=top 30
theorem uo:ay Z9 Z9 (ar jV):=fs
theorem wq{n:Nat}(F:FA K mg "both_fits" jV) :
  bc bf P w K mg base 1 "both_fits" Z9 (dH n bg (qK λx=>∃p q,x=.both p q)):=by
 refine F.ok uo λf cdv A outer s H vs Q E hr h=>?_;have hu:=iO hr;obtain⟨a,l,x,as,hs,rfl,ha,hL,hn,hsm,ho,q⟩:=h;refine⟨_,(av (bY CB (bp K (pv 1) ai) (bp K (pv 1) ai))),?_⟩;obtain⟨⟨p1,p2,rfl⟩,hf,hg⟩:=ho;obtain⟨h0,h2,rfl⟩:=dM hn;obtain⟨a0,e0,gJ⟩:=hL.nth (i:=0) rfl;obtain⟨a1,e1,vp⟩:=hL.nth (i:=1) rfl;refine⟨_,rfl,l,_,0,_,rfl,rfl,aZ.of hL.lst,au (j:=0) e0,_,rfl,l,_,1,_,rfl,rfl,aZ.of hL.lst,au (j:=1) e1,_,_,zt gJ,zt vp,?_,?_⟩
 ·exact WY (Nat.add_le_add_left (WS (kH h0) (by decide:1<=8)) _) hu
 ·rw[p8];exact q H (aM.refl _)
end My
namespace L2
open PySem
section
variable{g g2:TG}{tc tZ:TT}{te:TE}{wi2:TI}{D:Addr}{Q:VK}{N:St->List V->Hp->Prop}{rA:St}{H0:Hp}{OX:List V}{K:XO}{a:Addr}{xs:List V}
theorem rD(Pv:Nat->St->List V->Hp->Prop)(h0:Pv 0 rA [] H0)(hD:∀i σ ys H,i<=xs.length->Pv i σ ys H->H D=some (.lst ys))(hl:∀i σ ys H,i<=xs.length->Pv i σ ys H->aJ K H a xs)
  (hs:∀i x σ ys H,xs[i]? = some x->Pv i σ ys H->g x σ H λde H2=>tc de H2 λb H3=>if b=true then wi2 de H3 λJ2 H4=>∃W2:Nat->Nat->St->List V->Hp->Prop,(∃m,W2 0 m de ys H4)/\qu J2 g2 tZ te D (Pv (i+1)) W2 else Pv (i+1) de ys H3)
  (hd:∀σ ys H,Pv xs.length σ ys H->Q (.ref D) H):∃W:Nat->Nat->St->List V->Hp->Prop,(∃m,W 0 m rA [] H0)/\uC (HU K a) g tc wi2 g2 tZ te D Q W:=by
 refine⟨λi m σ ys H=>m=xs.length-i/\i<=xs.length/\Pv i σ ys H,⟨xs.length,by simp,Xe _,h0⟩,?_⟩;rintro i m σ ys H ⟨rfl,hi,p⟩;have q:=hl i σ ys H hi p;refine⟨hD i σ ys H hi p,?_⟩;by_cases hlt:i<xs.length
 ·refine .inr ⟨⟨xs,xs[i],q,by simp[hlt]⟩,Pv (i+1),λσ' ys' H' p'=>⟨xs.length-(i+1),by omega,rfl,hlt,p'⟩,λx H' y=>?_⟩;obtain⟨e,y⟩:=y;subst e;exact hs i x σ ys _ (y xs q) p
 ·have e:i=xs.length:=by omega
  subst e;exact .inl ⟨⟨xs,q,WR _⟩,hd σ ys H p⟩
theorem mL(Pv:Nat->St->List V->Hp->Prop)(h0:Pv 0 rA OX H0)(hD:∀i σ ys H,i<=xs.length->Pv i σ ys H->H D=some (.lst ys)/\(i<xs.length->ys.length<sizeLine))(hl:∀i σ ys H,i<=xs.length->Pv i σ ys H->aJ K H a xs)
  (hs:∀i x σ ys H,xs[i]? = some x->Pv i σ ys H->g x σ H λde H2=>tc de H2 λb H3=>if b=true then te de H3 λv H4=>H4 D=some (.lst ys)/\Pv (i+1) de (ys++[v]) (upd H4 D (.lst (ys++[v])))else Pv (i+1) de ys H3)
  (hd:∀σ ys H,Pv xs.length σ ys H->N σ ys H):∃W:Nat->Nat->St->List V->Hp->Prop,(∃m,W 0 m rA OX H0)/\qu (HU K a) g tc te D N W:=by
 refine⟨λi m σ ys H=>m=xs.length-i/\i<=xs.length/\Pv i σ ys H,⟨xs.length,by simp,Xe _,h0⟩,?_⟩;rintro i m σ ys H ⟨rfl,hi,p⟩;have q:=hl i σ ys H hi p;refine⟨(hD i σ ys H hi p).1,?_⟩;by_cases hlt:i<xs.length
 ·refine .inr ⟨⟨xs,xs[i],q,by simp[hlt]⟩,(hD i σ ys H hi p).2 hlt,Pv (i+1),λσ' ys' H' p'=>⟨xs.length-(i+1),by omega,rfl,hlt,p'⟩,λx H' y=>?_⟩;obtain⟨e,y⟩:=y;subst e;exact hs i x σ ys _ (y xs q) p
 ·have e:i=xs.length:=by omega
  subst e;exact .inl ⟨⟨xs,q,WR _⟩,hd σ ys H p⟩
end
end L2
namespace My
open PySem L2
abbrev jU:Stmt:=top 26
theorem sO:ay Z9 Z9 (ar jU):=fs
variable{P:Program}{w:World}{K:XO}{mg:Z2}{base:Heap}
theorem vI{n:Nat}(F:FA K mg "turn_fits" jU)
  (fJ:bc bf P w K mg base 2 "cells_fit" ZS iU) :
  bc bf P w K mg base 3 "turn_fits" Z9 (dH n bg (qK λx=>∃c ps,x=.one (.turn c ps))):=by
 refine F.ok sO λf cdv A outer s H vs Q E hr h=>?_;have hu:=iO hr;obtain⟨a,l,x,as,hs,rfl,ha,hL,hn,hsm,ho,q⟩:=h;refine⟨_,(av (ax fJ hr (ae (rB (N':=["pair","cell"]) (src:=[none,none]) rfl (ba.j5 (by kernel_rfl)) (cL (az K (pv 0) ai)) (λcl C s H fp=>(eE (i:=0))) (λcl C s H fp=>aY) (wi2:=(HY K (bB 0))) (λcl C s H fp=>(cL (ji 0))) (λcl C s H fp=>(eE (i:=1))) (λcl C s H fp=>aY) (te:=(bB 1)) (λcl C s H fp=>(ji 1))) (ae (az K (bp K (pv 1) ai) (aF bM (az K (pv 0) ai) ai)) ah)))),?_⟩;obtain⟨⟨c,ps,rfl⟩,hf,hg⟩:=ho;obtain⟨hd,rfl⟩:=dq hn;obtain⟨a0,e0,gJ⟩:=hL.nth (i:=0) rfl;obtain⟨t,bs,h1,hI⟩:=cb.mp ha;have hc:=cI hf (c:=c) (by simp[df]);have hz:ps.length<=1000:=hsm;have hg:∀p∈ps,dP p.1/\dP p.2:=hg;have hlb:(bs.map V.ref).length=ps.length:=by rw[WV,hI.len]
 refine⟨_,rfl,a,_,2,_,rfl,rfl,aJ.of h1,rfl,t,rfl,⟨_,aJ.of hI.tup⟩,λD hD=>?_⟩;refine rD (xs:=bs.map V.ref) (λi σ ys H'=>(∃o1 o2,σ=[o1,o2])/\ys=(ps.take i).flatMap (λp=>[p.1,p.2])/\ys.length=2*i/\H' D=some (.lst ys)/\aM H H') ⟨⟨none,none,rfl⟩,rfl,rfl,ag,aj hD _⟩ ?_ ?_ ?_ ?_
 ·rintro i σ ys H' _ ⟨_,_,_,h,_⟩;exact h
 ·rintro i σ ys H' _ ⟨_,_,_,_,sm⟩;exact aJ.of (sm _ _ hI.tup)
 ·rintro i v σ ys H' hv ⟨⟨o1,o2,rfl⟩,rfl,hi,h,sm⟩;obtain⟨b,p,rfl,ep,hb⟩:=hI.get hv;have hib:i<1000:=by have:=(W8.mp ep).1;omega
  refine ak ⟨_,rfl,b,rfl,⟨_,aJ.of (sm _ _ hb)⟩,?_⟩;refine mL (xs:=[p.1,p.2]) (λj σ zs H2=>(∃o,σ=[some (.ref b),o])/\zs=(ps.take i).flatMap (λp=>[p.1,p.2])++[p.1,p.2].take j/\zs.length=2*i+j/\H2 D=some (.lst zs)/\aM H H2) ⟨⟨o2,rfl⟩,by rw[List.take_zero,XC],hi,h,sm⟩ ?_ ?_ ?_ ?_
  ·rintro j σ zs H2 hj ⟨_,_,Nr,h2,_⟩;refine⟨h2,λ_=>?_⟩;rw[Nr];exact WY (show 2*i+j<=3000 by have:j<=2:=hj;omega) (by decide)
  ·rintro j σ zs H2 _ ⟨_,_,_,_,s2⟩;exact aJ.of (s2 _ _ hb)
  ·rintro j u σ zs H2 hu' ⟨⟨o,rfl⟩,rfl,Nr,h2,s2⟩;refine ak ⟨_,rfl,h2,⟨_,rfl⟩,?_,?_,ag,bu hD s2⟩
   ·rw[take_one hu',List.append_assoc]
   ·rw[WW,Nr];rfl
  ·rintro σ zs H2 ⟨⟨o,rfl⟩,rfl,Nr,h2,s2⟩;refine⟨⟨_,_,rfl⟩,?_,by rw[Nr];show 2*i+2=_;omega,h2,s2⟩;rw[take_one ep,List.flatMap_append];rfl
 ·rintro σ ys H1 ⟨_,rfl,hyl,h,sm⟩;rw[hlb,Xx]at h hyl;refine⟨_,rfl,l,_,0,_,rfl,rfl,aZ.of (sm _ _ hL.lst),au (j:=0) e0,_,rfl,a,_,1,_,rfl,rfl,aJ.of (sm _ _ h1),rfl,_,_,rfl,rfl,a0,_,_,_,rfl,rfl,aJ.of (sm _ _ gJ),dF hc,?_⟩;refine⟨D,_,_,rfl,h,by omega,λv hv=>?_,λH' s'=>q H' (sm.trans s')⟩;obtain⟨p,hp,hv⟩:=List.mem_flatMap.mp hv;simp only[Xa,Xv,or_false]at hv;rcases hv with rfl|rfl
  ·exact(hg p hp).1
  ·exact(hg p hp).2
abbrev jB:Stmt:=top 28
theorem lG:ay ["worker","heads","cells"] Z9 (ar jB):=fs
theorem vT{n:Nat}(F:FA K mg "walk_fits" jB)
  (fJ:bc bf P w K mg base 2 "cells_fit" ZS iU) :
  bc bf P w K mg base 3 "walk_fits" Z9 (dH n bg (qK λx=>∃c mv,x=.one (.walk c mv))):=by
 refine F.ok lG λf cdv A outer s H vs Q E hr h=>?_;obtain⟨a,l,x,as,hs,rfl,ha,hL,hn,hsm,ho,q⟩:=h;refine⟨_,(aq (kF (i:=2) (N':=["state","cell","after"]) (src:=[none,none,none]) lG.nd rfl (Xw rfl) rfl rfl (ba.j5 (by kernel_rfl)) (cL (az K (pv 0) ai)) (g:=(ja K 3 (bS (bC 0) (bS (bC 1) (bS (bC 2) i5))))) (λcl C s H fp=>(cA rfl (aA (eE (i:=0)) (aA (eE (i:=1)) (aA (eE (i:=2)) bT))))) (tc:=(rK (hZ (λx y H Q=>y=.non/\Q (.bl (!decide (x=.non))) H) (bB 1) (tC .non)))) (λcl C s H fp=>qa (aX uL (ji 1) jg)) (te:=(bB 1)) (λcl C s H fp=>(ji 1)))
   (av (ax fJ hr (ae (pv 2) (ae (az K (bp K (pv 1) ai) (aF bM (az K (pv 0) ai) ai)) ah))))),?_⟩
 obtain⟨⟨c,mv,rfl⟩,hf,hg⟩:=ho;obtain⟨hd,rfl⟩:=dq hn;obtain⟨a0,e0,gJ⟩:=hL.nth (i:=0) rfl;obtain⟨st,t,bs,h1,hI⟩:=cb.mp ha;have hc:=cI hf (c:=c) (by simp[df]);have hz:mv.length<=1000:=hsm;have hg:∀v∈mv,v=.non\/dP v:=hg;have hlb:(bs.map V.ref).length=mv.length:=by rw[WV,hI.len]
 refine⟨_,rfl,a,_,3,_,rfl,rfl,aJ.of h1,rfl,t,rfl,⟨_,aJ.of hI.tup⟩,λD hD=>?_⟩;refine cF (xs:=bs.map V.ref) (λi σ ys H'=>(∃o1 o2 o3,σ=[o1,o2,o3])/\ys=(mv.take i).filter (λv=>!decide (v=.non))/\ys.length<=i/\H' D=some (.lst ys)/\aM H H') ⟨⟨none,none,none,rfl⟩,rfl,WR _,ag,aj hD _⟩ ?_ ?_ ?_ ?_ ?_
 ·rintro i σ ys H' _ ⟨_,_,hi,h,_⟩;exact⟨h,hi⟩
 ·rintro i σ ys H' _ ⟨_,_,_,_,sm⟩;exact aJ.of (sm _ _ hI.tup)
 ·rw[hlb];exact WS hz (by decide)
 ·rintro i v σ ys H' hv ⟨⟨o1,o2,o3,rfl⟩,rfl,hi,h,sm⟩;obtain⟨b,u,rfl,eu,s1,t1,hb⟩:=hI.get hv;refine⟨b,_,rfl,aJ.of (sm _ _ hb),rfl,_,_,rfl,ak ⟨_,_,rfl,ak ⟨_,_,rfl,ak ⟨rfl,?_⟩⟩⟩⟩;refine⟨_,rfl,rfl,_,rfl,?_⟩;refine cG (λk=>?_) (λk=>?_)
  ·refine⟨_,rfl,h,⟨_,_,_,rfl⟩,?_,by rw[WW];simp only[List.length_singleton];omega,ag,bu hD sm⟩;rw[take_one eu,List.filter_append,List.filter_cons,Xu k];rfl
  ·refine⟨⟨_,_,_,rfl⟩,?_,by omega,h,sm⟩;rw[take_one eu,List.filter_append,List.filter_cons,Xt k];simp
 ·rintro σ ys H1 ⟨_,rfl,hyl,h,sm⟩;rw[hlb,Xx]at h hyl;refine ak ?_;dsimp only;refine⟨_,rfl,_,rfl,l,_,0,_,rfl,rfl,aZ.of (sm _ _ hL.lst),au (j:=0) e0,_,rfl,a,_,1,_,rfl,rfl,aJ.of (sm _ _ h1),rfl,_,_,rfl,rfl,a0,_,_,_,rfl,rfl,aJ.of (sm _ _ gJ),dF hc,?_⟩;refine⟨D,_,_,rfl,h,by omega,λv hv=>?_,λH' s'=>q H' (sm.trans s')⟩;obtain⟨hm,hk⟩:=List.mem_filter.mp hv;rcases hg v hm with rfl|z
  ·simp at hk
  ·exact z
end My
namespace L2
open PySem PySem.Spec PyProof.Rows
open Classical in
noncomputable def lW (ks:List Key) (k:Key):Bool:=decide (k∈ks)
open Classical in
theorem gB{ks:List Key}{k:Key}:lW ks k=true↔k∈ks:=by unfold lW;exact decide_eq_true_iff
noncomputable def gc (ks:List Key) (k:Key):List Key:=if lW ks k=true then ks else ks++[k]
theorem CM(ks:List Key)(k k':Key):lW (gc ks k) k'=(lW ks k'||decide (k'=k)):=by
 rw[Bool.eq_iff_iff,Bool.or_eq_true,decide_eq_true_eq,gB,gB];unfold gc;by_cases h:lW ks k=true
 ·rw[Xu h];exact⟨.inl,λz=>z.elim id λe=>by rw[e];exact gB.mp h⟩
 ·rw[Xt h,Xc,W9]
def yJ(J:It)(g:TG)(te:TE)(Q:VK)(W:Nat->Nat->St->List Key->Hp->Prop):Prop :=
 ∀i m σ ks H,W i m σ ks H->ks.length+1<scanBound/\((J.stop i H/\Q (.int (ks.length:Nat)) H)\/(J.go i H/\∃N:St->List Key->Hp->Prop,(∀σ' ks' H',N σ' ks' H'->∃m',m'<m/\W (i+1) m' σ' ks' H')/\
  ∀x H',J.FN i H x H'->g x σ H' λde H2=>te de H2 λv H3=>∃k,v=kV k/\N de (gc ks k) H3))
def HN(src:List (Option Nat))(wi:TI)(g:TG)(te:TE):TE:=λσ H Q=>wi σ H λJ H1=>∃W:Nat->Nat->St->List Key->Hp->Prop,(∃m,W 0 m (km src σ) [] H1)/\yJ J g te Q W
section
variable{prog:Program}{w:World}{A:Around}{s:Shared}{R:Z5}{elt target iter:Expr}{sc:Scope}{pos:Pos}{it acc:Value}{env:Env}
theorem B4:compTurn (.SetComp elt [⟨target,iter,[],0⟩] sc pos) 0 it acc env=(standAt iter.pos >>= λ_=>pyNext it >>= λr=>match r with
   |none=>pure (.done .next)
   |some v=>letOwnedTupleGo target it v >>= λ_=>assign target env v >>= λ_=>(eval elt env >>= λx=>standAt elt.pos >>= λ_=>call (.builtin "set.add") [acc,x] >>= λ_=>pure ()) >>= λ_=>again (.compLoop (.SetComp elt [⟨target,iter,[],0⟩] sc pos) 0 it acc env)):=by rfl
theorem yT(h0:codeAny (model prog w) A (.compLoop (.SetComp elt [⟨target,iter,[],0⟩] sc pos) 0 it acc env) R s)
  (h:wpAny (model prog w) A (pyIter it) (λit' s'=>codeAny (model prog w) A (.compLoop (.SetComp elt [⟨target,iter,[],0⟩] sc pos) 0 it' acc env) R s') (notedBy (model prog w) A env λx s'=>R (.error x) s') s) :
  codeAny (model prog w) A (.compStart (.SetComp elt [⟨target,iter,[],0⟩] sc pos) 0 it acc env) R s:=by
 refine codeAny_of_tree (show wpAny _ _ ((compStart (.SetComp elt [⟨target,iter,[],0⟩] sc pos) 0 it acc env).onRaise (λx=>do noteFrame x env;standAt theWindowsPlace)) _ _ s from wpAny_notedAt ?_);unfold compStart;refine show wpAny _ _ (ask >>= _) _ _ s from WL (wpAny_askSetting (wpAny_ite ?_))
 split
 ·first|exact WL (WM (WM ⟨rfl,h0⟩))|exact WM ⟨rfl,h0⟩
 ·refine WL (wpAny_rule (show wpAny _ _ (standAt iter.pos >>= _) _ _ s from ?_));exact WL (wpAny_standAt (WL (bZ h λit' s' h'=>WM ⟨rfl,h'⟩)))
theorem AK(Iv:Nat->Shared->Prop)
  (turn:∀n s,Iv n s->wpAny (model prog w) A (pyNext it) (λr s₁=>match r with
   |none=>R (.ok .next) s₁
   |some v=>wpAny (model prog w) A (letOwnedTupleGo target it v) (λ_ s₁'=>wpAny (model prog w) A (assign target env v) (λ_ s₂=>wpAny (model prog w) A (eval elt env) (λx s₄ =>
       wpAny (model prog w) A (call (.builtin "set.add") [acc,x]) (λ_ s₅=>∃m,m<n/\Iv m s₅) (λ_ _=>False) s₄) (λ_ _=>False) s₂) (λ_ _=>False) s₁') (λ_ _=>False) s₁) (λ_ _=>False) s)
  (n:Nat) (h:Iv n s):codeAny (model prog w) A (.compLoop (.SetComp elt [⟨target,iter,[],0⟩] sc pos) 0 it acc env) R s:=by
 refine codeAny_loop rfl Iv (λn s hI=>?_) n h;show wpAny _ A ((compTurn (.SetComp elt [⟨target,iter,[],0⟩] sc pos) 0 it acc env).onRaise (λx=>do noteFrame x env;theTreesLotGoes x)) _ _ s;refine wpAny_noted ?_;rw[B4];refine WL (wpAny_standAt (WL (Xl (turn n s hI) (λr s₁ h₁=>?_) λ_ _ h'=>h'.elim)));cases r with
 |none=>exact WM h₁
 |some v =>refine WL (Xl h₁ (λ_ s₁' h₁'=>WL (Xl h₁' (λ_ s₂ h₂=>?_) λ_ _ h'=>h'.elim)) λ_ _ h'=>h'.elim);exact WL (WL (Xl h₂ (λx s₄ h₄=>WL (wpAny_standAt (WL (Xl h₄ (λ_ s₅ h₅=>WM (WM ⟨rfl,h₅⟩)) λ_ _ h'=>h'.elim)))) λ_ _ h'=>h'.elim))
end
theorem K2{k:Key}{u:Value}(r:RelV (kV k) u):gx k u=true/\u.scannable=true:=by
 cases k with
 |inl i=>obtain⟨t,rfl⟩:=r;exact⟨mK _ _,rfl⟩
 |inr x=>obtain⟨t,rfl⟩:=r;exact⟨mF _ _,rfl⟩
section
variable{X:Cx}{elt target iter:Expr}{sc:Scope}{pos:Pos}{wi:TI}{g:TG}{te:TE}{N':List Str}{src:List (Option Nat)}
abbrev uv(h:Heap)(prog:Program)(w:World)(S:Addr)(ks:List Key):Prop:=h.SetOf (bD prog w) S (λk=>lW ks k) ks.length
theorem FH{h:Heap}{prog:Program}{w:World}{S:Addr}{ks:List Key}(x:uv h prog w S ks):∃o,h.get? S=some o/\∀v,o.data≠ .cell v:=by obtain⟨o,es,ep,t,ho,_,hd,_⟩:=x;exact⟨o,ho,λv z=>by rw[hd]at z;cases z⟩
theorem jX{h h':Heap}{prog:Program}{w:World}{S:Addr}{ks:List Key}(x:uv h prog w S ks)(k:∀o,h.get? S=some o->h'.get? S=some o):uv h' prog w S ks:=by obtain⟨o,es,ep,t,ho,z⟩:=x;exact⟨o,es,ep,t,k _ ho,z⟩
theorem xM{ac:Z1}{σ:St}{H2:Hp}{s2:Shared}{it:Addr}{fp:Z8}{tn:Nat->Heap->Prop}{J:It}{Q:VK}{E:Z0}{RR:Value->Addr->Z5}
  (hc:X.calm=true) (S:ba X.env.scope X.N N' src sc)
  (hg:∀cl C s H fp,PG (aL X N' sc cl C s H fp) target g) (he:∀cl C s H fp,PE (aL X N' sc cl C s H fp) elt te)
  (I2:Inv X ac σ H2 s2) (T:Turn X.prog X.w X.K target J fp it tn) (st2:tn 0 s2.heap) (f2:∀b∈fp,dE X ac H2 b)
  (hW:∃W:Nat->Nat->St->List Key->Hp->Prop,(∃m,W 0 m (km src σ) [] H2)/\yJ J g te Q W)
  (hRR:∀D C s5 H' m ks,Inv X ac σ H' s5->s5.heap.Ns C m->dE X ac H' C->C≠D->uv s5.heap X.prog X.w D ks->Q (.int (ks.length:Nat)) H'->RR (.ref D) C (.ok .next) s5) :
  wpAny (model X.prog X.w) X.A (newSet (.type "set")) (λacc s₃=>wpAny (model X.prog X.w) X.A (newFunctionEnv sc X.env.globals (bP X.env.cells sc.names []) [] X.env.qual none .none (some X.env)) (λcenv s₄ =>
   codeAny (model X.prog X.w) X.A (.compStart (.SetComp elt [⟨target,iter,[],0⟩] sc pos) 0 (.ref it) acc {cenv with scope:=relabel sc X.env}) (RR acc cenv.locals) s₄) E s₃) E s2:=by
 have o2:∀b∈fp,b<s2.heap.objs.size:=λb hb=>by obtain⟨o,e,_⟩:=T.obj 0 _ st2 b hb;exact WO e
 refine wpAny_newSet_of (knd:=bD X.prog X.w) λled hS=>?_;have K3:H2 s2.heap.objs.size=none:=I2.hok.fresh (WR _);obtain⟨W,⟨m0,w0⟩,turn⟩:=hW;have Jy:∀b o,s2.heap.get? b=some o->(s2.heap.push {cls:=.type "set",dict:=none,data:=.set #[] 0 (.fresh 0 0 led)}).get? b=some o:=λb o e=>WN _ e;have I3:Inv X ac σ H2 {s2 with heap:=s2.heap.push {cls:=.type "set",dict:=none,data:=.set #[] 0 (.fresh 0 0 led)}}:=I2.kept (t':=s2.toks) Jy;have fS:dE X ac H2 s2.heap.objs.size:=I2.ml (WR _) K3;have st3:tn 0 (s2.heap.push {cls:=.type "set",dict:=none,data:=.set #[] 0 (.fresh 0 0 led)}):=T.keep 0 _ _ st2 λb hb o e=>Jy b o e;generalize hs3:({s2 with heap:=s2.heap.push {cls:=.type "set",dict:=none,data:=.set #[] 0 (.fresh 0 0 led)}}:Shared)=s3 at I3;have hh3:s3.heap=s2.heap.push {cls:=.type "set",dict:=none,data:=.set #[] 0 (.fresh 0 0 led)}:=by rw[←hs3]
 have FT:s2.heap.objs.size<s3.heap.objs.size:=by rw[hh3,Heap.size_push];exact Nat.lt_succ_self _
 generalize WA:s2.heap.objs.size=Sa at *;have o3:∀b∈Sa::fp,b<s3.heap.objs.size:=λb hb=>by
  rcases Xa.mp hb with rfl|hb
  ·exact FT
  ·exact Nat.lt_trans (o2 b hb) FT
 have nS:∀b∈fp,b≠Sa:=λb hb=>Xd (o2 b hb);have f3:∀b∈Sa::fp,dE X ac H2 b:=λb hb=>by
  rcases Xa.mp hb with rfl|hb
  ·exact fS
  ·exact f2 b hb
 rw[←hh3]at st3 hS;refine wpAny_newFunctionEnv S.pR (by intro y hy;simp at hy) (λh1 hns hsb=>?_) S.kind;have hsb':Heap.SameBut s3.heap.objs.size (s3.heap.push {cls:=.type "dict",data:=.dict #[]}) h1:=hsb;have I4:Inv (aL X N' sc (bP X.env.cells sc.names []) s3.heap.objs.size s3 H2 (Sa::fp)) [] (km src σ) H2 {s3 with heap:=h1,toks:=s3.toks+([]:List (Str×Value)).length} :=
  i6 S I3 f3 o3 hns hsb'
 have k4:∀b o,b<s3.heap.objs.size->s3.heap.get? b=some o->h1.get? b=some o:=λb o hb e=>(hsb'.2 b (Xd hb)).trans (WN _ e);have E5:tn 0 h1:=T.keep 0 _ _ st3 λb hb o e=>k4 b o (o3 b (W5 _ hb)) e;have e0:(λk:Key=>lW [] k) = λ_=>false:=by funext k;exact Xb.mpr λz=>by cases gB.mp z
 have Ve:uv s3.heap X.prog X.w Sa []:=by show Heap.SetOf _ _ _ (λk=>lW [] k) _;rw[e0];exact hS
 have Ui:uv h1 X.prog X.w Sa []:=jX Ve λo e=>k4 _ o FT e;have fC:∀(H':Hp),H' s3.heap.objs.size=none->dE X ac H' s3.heap.objs.size:=λH' hn=>I3.ml (WR _) hn;generalize hY:aL X N' sc (bP X.env.cells sc.names []) s3.heap.objs.size s3 H2 (Sa::fp)=Y at I4;have OS:Y.prog=X.prog:=by rw[←hY]
 have OO:Y.w=X.w:=by rw[←hY]
 have Sg:Y.K=X.K:=by rw[←hY]
 have Ti:Y.calm=X.calm:=by rw[←hY]
 have Ph:Y.A=X.A:=by rw[←hY]
 have RJ:Y.env=compEnvC sc (bP X.env.cells sc.names []) s3.heap.objs.size X.env:=by rw[←hY]
 have Po:Y.ex=Sa::fp:=by rw[←hY]
 have Sn:Y.xe = λ_ _=>False:=by rw[←hY]
 have VS:Y.pn=[]:=by rw[←hY]
 have QJ:PG Y target g:=by rw[←hY];exact hg _ _ _ _ _
 have QF:PE Y elt te:=by rw[←hY];exact he _ _ _ _ _
 have stat:∀{pl:Z1}{H':Hp}{b:Addr},H' b=none->b∈Sa::fp->(∀p∈pl,p.1≠b)->dE Y pl H' b:=λ{pl H' b} hn hb hp =>
  ⟨hn,(I4.ok.AU b (by rw[Po];exact hb)).1,I4.ok.pZ b (by rw[Po];exact hb),.inl (by rw[Po];exact hb),(I4.ok.AU b (by rw[Po];exact hb)).2,λp h=>hp p (by rw[VS]at h;exact h)⟩
 have Nz:∀{σ':St}{H':Hp}{s':Shared}{pl:Z1}{o:Obj},Inv Y pl σ' H' s'->s'.heap.get? Sa=some o->(∀v,o.data≠ .cell v)->H' Sa=none->Inv Y [(Sa,o)] σ' H' s':=λ{σ' H' s' pl o} J e d hn =>
  J.g_ λp hp=>by
   have:p=(Sa,o):=by simpa using hp
   subst this;exact⟨e,hn,(stat (pl:=[]) hn Xo λ_ z=>nomatch z).2.1,(stat (pl:=[]) hn Xo λ_ z=>nomatch z).2.2.1,d⟩
 have loop:codeAny (model X.prog X.w) X.A (.compLoop (.SetComp elt [⟨target,iter,[],0⟩] sc pos) 0 (.ref it) (.ref Sa) (compEnvC sc (bP X.env.cells sc.names []) s3.heap.objs.size X.env))
   (RR (.ref Sa) s3.heap.objs.size) {s3 with heap:=h1,toks:=s3.toks+([]:List (Str×Value)).length}:=by
  refine AK (λn s'=>∃i σ' ks H',Inv Y [] σ' H' s'/\tn i s'.heap/\(∀b∈Sa::fp,H' b=none)/\uv s'.heap X.prog X.w Sa ks/\W i n σ' ks H') ?_ m0
   ⟨0,_,[],_,I4,E5,λb hb=>(f3 b hb).1,Ui,w0⟩
  rintro n s5 ⟨i,nX,ks,H5,I5,uU,xm,QN,w5⟩;obtain⟨hroom,alt⟩:=turn i n nX ks H5 w5;obtain⟨oS,eS,dS⟩:=FH QN;have SV:=Nz I5 eS dS (xm _ Xo);have EI:∀{H':Hp},(∀b∈fp,H' b=none)->∀b∈fp,dE Y [(Sa,oS)] H' b:=λhn b hb=>stat (hn b hb) (W5 _ hb) λp hp=>by
   have:p=(Sa,oS):=by simpa using hp
   subst this;exact(nS b hb).symm
  have Tf:∀b∈fp,H5 b=none:=λb hb=>xm b (W5 _ hb);rcases alt with⟨stop,qn⟩|⟨go,N,hN,step⟩
  ·have:=T.done Y OS OO Sg (by rw[Ti];exact hc) i [(Sa,oS)] s5 nX H5 (λ_ _=>False) SV (EI Tf) uU stop;rw[Ph]at this;refine bZ this λr s6 zz=>?_;obtain⟨hr,I6⟩:=zz;subst hr;have Us:uv s6.heap X.prog X.w Sa ks:=jX QN λo e=>by rw[eS]at e;cases e;exact(I6.pin (Sa,oS) (W3 _ (.head _))).1
   subst hY;obtain⟨m6,n6,_⟩:=id I6.loc;exact hRR _ _ s6 H5 m6 ks (I3.call' I6.os I6.base I6.hok I6.bare λb hb=>⟨(f3 b hb).2.2.2.1,(f3 b hb).2.1,(f3 b hb).2.2.2.2.1,(f3 b hb).2.2.2.2.2⟩) n6 (fC _ I6.free) (Nat.ne_of_gt FT) Us qn
  ·have:=T.item Y OS OO Sg (by rw[Ti];exact hc) i [(Sa,oS)] s5 nX H5 (λ_ _=>False) SV (EI Tf) uU go;rw[Ph]at this;refine bZ this λr s6 zz=>?_;obtain⟨u,hr,h6⟩:=zz;subst hr;refine bZ h6 λ_ s7 zz=>?_;obtain⟨x,H7,I7,r7,y7,uD,Ib⟩:=zz;have HS:=I7.pinned (EI Ib) (T.obj _ _ uD);have SI:=QJ _ s7 nX H7 x u _ HS r7 (step x H7 y7);rw[OS,OO,Ph,RJ,Sn]at SI;refine bZ SI λ_ s8 zz=>?_;obtain⟨uV,H8,I8,q8⟩:=zz;have RZ:=QF _ s8 uV H8 _ I8 q8;rw[OS,OO,Ph,RJ,Sn]at RZ;refine bZ RZ λxv s9 zz=>?_;obtain⟨v,H9,I9,r9,k,ek,w9⟩:=zz;subst ek;obtain⟨hk1,hk2⟩:=K2 r9;have pS:=I9.pin (Sa,oS) (W3 _ (List.mem_append_left _ (.head _)));have T9:uv s9.heap X.prog X.w Sa ks:=jX QN λo e=>by rw[eS]at e;cases e;exact pS.1
   refine call_set_add (knd:=bD X.prog X.w) (k:=k) hk1 hk2 T9 hroom λh' hsb hS'=>?_;obtain⟨m',hm,w'⟩:=hN _ _ _ w9;have Ju:∀b∈fp,∀o,s7.heap.get? b=some o->s9.heap.get? b=some o/\H9 b=none:=λb hb o e=>by have:=I9.pin (b,o) (W3 _ (W3 _ (cM hb e)));exact⟨this.1,this.2.1⟩
   have U5:Inv Y [] uV H9 s9:=I9.g_ λp hp=>nomatch hp
   have MZ:=stat (pl:=[]) (H':=H9) (b:=Sa) pS.2.1 Xo λ_ z=>nomatch z
   refine⟨m',hm,i+1,uV,gc ks k,H9,U5.turned (t':=s9.toks+1) (λb o hb e=>(hsb.2 b hb).trans e) MZ.1 MZ.2.1 MZ.2.2.2.1 MZ.2.2.2.2.1 MZ.2.2.2.2.2,T.keep _ _ _ uD λb hb o e=>(hsb.2 b (nS b hb)).trans (Ju b hb o e).1,λb hb=>?_,?_,w'⟩
   ·rcases Xa.mp hb with rfl|hb
    ·exact pS.2.1
    ·obtain⟨o,e,_⟩:=T.obj _ _ uD b hb;exact(Ju b hb o e).2
   ·have e1:(λk'=>lW ks k'||decide (k'=k)) = λk'=>lW (gc ks k) k':=by funext k';exact(CM ks k k').symm
    have e2:(if lW ks k=true then ks.length else ks.length+1)=(gc ks k).length:=by
     unfold gc;by_cases h:lW ks k=true
     ·rw[Xu h,Xu h]
     ·rw[Xt h,Xt h,WW];rfl
    show h'.SetOf (bD X.prog X.w) Sa (λk'=>lW (gc ks k) k') (gc ks k).length;rw[←e1,←e2];exact hS'
 exact yT loop (T.self _ 0 _ _ _ E5 loop)
theorem y3{np lp:Pos}(hc:X.calm=true)(Tv:Gl X "len")(RN:X.mg "len"=none)(S:ba X.env.scope X.N N' src sc)(hi:PI X target iter wi)
  (hg:∀cl C s H fp,PG (aL X N' sc cl C s H fp) target g) (he:∀cl C s H fp,PE (aL X N' sc cl C s H fp) elt te)
  (hs:∀x,foldedSetIterable iter X.env x=pure x:=by intro _;rfl) (hs1:starEach [Expr.SetComp elt [⟨target,iter,[],0⟩] sc pos] X.env=[(false,eval (.SetComp elt [⟨target,iter,[],0⟩] sc pos) X.env)]:=by rfl) :
  PE X (.Call (.Name "len" np) [.SetComp elt [⟨target,iter,[],0⟩] sc pos] [] lp) (HN src wi g te):=by
 intro ac s σ H Q I h;refine wpAny_Call_Name_kw (iR I Tv RN XM ?_ (by decide) (by decide));refine PyProof.Rows.callWith_builtin1 ?_ hs1 rfl;rw[hs1];refine Calls.spliced_cons ?_;rw[arm_eval_SetComp];refine wpAny_comprehension_free (use:=none) (e:=.SetComp elt [⟨target,iter,[],0⟩] sc pos) (g:=⟨target,iter,[],0⟩) (gs:=[]) rfl hs (c7 λy hy hk=>I.ok.has y.1 (S.free y hy hk)) S.kind (λy hy hl=>by rw[←hl];exact S.uniq y hy) ?_;refine bZ (hi ac s σ H _ I h) λv s1 h1=>bZ h1 λitv s2 h2=>?_;obtain⟨it,fp,tn,J,H2,e,I2,T,st2,f2,hW⟩:=h2;subst e;refine xM (Q:=Q) (RR:=λacc C=>compPost (model X.prog X.w) X.A X.xe none (λv s2=>wpAny (model X.prog X.w) X.A (spliced []) (λvs s3=>wpAny (model X.prog X.w) X.A (call (.builtin "len") (v::vs)) (EP X ac σ Q) X.xe s3) X.xe s2) acc C) hc S hg he I2 T st2 f2 hW ?_;intro D C s5 H' m ks I5 n5 fC hCD hS q;refine⟨m,n5,λh' sb=>Calls.spliced_nil ?_⟩;have I6:=I5.turned (t':=s5.toks) (λb o hb e=>(sb.2 b hb).trans e) fC.1 fC.2.1 fC.2.2.2.1 fC.2.2.2.2.1 fC.2.2.2.2.2;obtain⟨o,es,ep,t,ho,hex,hd,hel,_,hb,hf,hn⟩:=jX (h':=h') hS λo e=>(sb.2 _ hCD.symm).trans e;have hsc:(scanBound:Int)<2 ^ 63:=by decide
 have hlt:((es.size:Nat):Int)<2 ^ 63:=Int.lt_trans (Int.ofNat_lt.mpr hb) hsc;refine call_len_set (s:={s5 with heap:=h',toks:=s5.toks}) ho hex hd hf hlt ?_;exact⟨.int (ks.length:Nat),H',I6.kept (h':=h') (t':=s5.toks+1+1) λ_ _ e=>e,⟨_,by rw[hn]⟩,q⟩
end
end L2
namespace L2
open PySem
theorem y0{K:XO}{a:Addr}{xs:List V}{g:TG}{te:TE}{Q:VK}{rA:St}{H0:Hp}(Pv:Nat->St->List Key->Hp->Prop)(h0:Pv 0 rA [] H0)(hb:∀i σ ks H,i<=xs.length->Pv i σ ks H->ks.length+1<scanBound)(hl:∀i σ ks H,i<=xs.length->Pv i σ ks H->aJ K H a xs)
  (hs:∀i x σ ks H,xs[i]? = some x->Pv i σ ks H->g x σ H λde H2=>te de H2 λv H3=>∃k,v=kV k/\Pv (i+1) de (gc ks k) H3)
  (hd:∀σ ks H,Pv xs.length σ ks H->Q (.int (ks.length:Nat)) H):∃W:Nat->Nat->St->List Key->Hp->Prop,(∃m,W 0 m rA [] H0)/\yJ (HU K a) g te Q W:=by
 refine⟨λi m σ ks H=>m=xs.length-i/\i<=xs.length/\Pv i σ ks H,⟨xs.length,by simp,Xe _,h0⟩,?_⟩;rintro i m σ ks H ⟨rfl,hi,p⟩;have q:=hl i σ ks H hi p;refine⟨hb i σ ks H hi p,?_⟩;by_cases hlt:i<xs.length
 ·refine .inr ⟨⟨xs,xs[i],q,by simp[hlt]⟩,Pv (i+1),λσ' ks' H' p'=>⟨xs.length-(i+1),by omega,rfl,hlt,p'⟩,λx H' y=>?_⟩;obtain⟨e,y⟩:=y;subst e;exact hs i x σ ks _ (y xs q) p
 ·have e:i=xs.length:=by omega
  subst e;exact .inl ⟨⟨xs,q,WR _⟩,hd σ ks H p⟩
theorem EB(ks:List Key)(k:Key):ks.length<=(gc ks k).length/\(gc ks k).length<=ks.length+1:=by
 unfold gc;split
 ·exact⟨WR _,Nat.le_succ _⟩
 ·rw[WW];simp
end L2
namespace My
open PySem L2
noncomputable def gN (acc:List Key) (ss:List Str):List Key:=ss.foldl (λacc s=>gc acc (.inr s)) acc
theorem pf:∀(ss:List Str)(acc:List Key),acc.length<=(gN acc ss).length/\(gN acc ss).length<=acc.length+ss.length
 |[],acc=>⟨WR _,WR _⟩
 |s::ss,acc=>by have h1:=pf ss (gc acc (.inr s));have h2:=EB acc (.inr s);show acc.length<=(gN (gc acc (.inr s)) ss).length/\(gN (gc acc (.inr s)) ss).length<=acc.length+(ss.length+1);omega
theorem wN(s0:Str):∀ss:List Str,((gN [.inr s0] ss).length > 1) =¬(∀s∈ss,s=s0)
 |[]=>by simp[gN]
 |s::ss=>by
  by_cases e:s=s0
  ·have:gN [.inr s0] (s::ss)=gN [.inr s0] ss:=by show gN (gc [.inr s0] (.inr s)) ss=_;unfold gc;rw[Xu (gB.mpr (by rw[e];exact W9.mpr rfl))]
   rw[this,wN s0 ss];simp[e]
  ·have:gN [.inr s0] (s::ss)=gN [.inr s0,.inr s] ss:=by show gN (gc [.inr s0] (.inr s)) ss=_;unfold gc;rw[Xt (λz=>e (by have:=W9.mp (gB.mp z);injection this))];rfl
   have hl:=(pf ss [.inr s0,.inr s]).1;rw[this];simp only[Xp,List.length_nil]at hl;simp[e];omega
theorem BQ(ss:List Str):decide ((1:Int)<((gN [] ss).length:Nat)) = !cX ss:=by
 cases ss with
 |nil=>simp[gN,cX]
 |cons s ss =>
  have:gN [] (s::ss)=gN [.inr s] ss:=by show gN (gc [] (.inr s)) ss=_;unfold gc;rw[Xt (λz=>by cases gB.mp z)];rfl
  rw[this];have h:=wN s ss;have e:cX (s::ss)=decide (∀x∈ss,x=s):=by
   unfold cX;rw[Bool.eq_iff_iff,List.all_eq_true,decide_eq_true_eq];constructor
   ·intro z x hx;exact Xr (z x (W5 _ hx))
   ·intro z x hx;rcases Xa.mp hx with rfl|hx
    ·exact WU rfl
    ·exact WU (z x hx)
  rw[e,←decide_not,decide_eq_decide];constructor
  ·intro z;have:(gN [.inr s] ss).length > 1:=by omega
   rwa[h]at this
  ·intro z;rw[←h]at z;omega
theorem AZ{ss:List Str}{i:Nat}{s:Str}(h:ss[i]? = some s):gN [] (ss.take (i+1))=gc (gN [] (ss.take i)) (.inr s):=by unfold gN;rw[take_one h,List.foldl_append];rfl
abbrev jt:Stmt:=top 27
theorem uq:ay Z9 Z9 (ar jt):=fs
variable{P:Program}{w:World}{K:XO}{mg:Z2}{base:Heap}
theorem wm{n:Nat}(B:kf mg)(F:FA K mg "must_fits" jt)
  (iA:bc bf P w K mg base 1 "sort_of" ["cell"] gp)
  (fJ:bc bf P w K mg base 2 "cells_fit" ZS iU) :
  bc bf P w K mg base 3 "must_fits" Z9 (dH n bg (qK λx=>∃c ps,x=.one (.must c ps))):=by
 refine F.ok uq λf cdv A outer s H vs Q E hr h=>?_;obtain⟨a,l,x,as,hs,rfl,ha,hL,hn,hsm,ho,q⟩:=h;refine⟨_,(aN (aX iC (y3 (N':=["old","new"]) (src:=[none,none]) rfl rfl B.len (ba.j5 (by kernel_rfl)) (cL (az K (pv 0) ai)) (g:=ja K 2 (bS (bC 0) (bS (bC 1) i5))) (λcl C s H fp=>(cA rfl (aA (eE (i:=0)) (aA (eE (i:=1)) bT)))) (te:=(jh gp [] E0 (bq (bB 1) fR))) (λcl C s H fp=>(ax (hg:=xS) iA hr (ae (ji 1) ah)))) ai) eA
   (av (ax fJ hr (ae (bz (N':=["old","new"]) (src:=[none,none]) rfl (ba.j5 (by kernel_rfl)) (cL (az K (pv 0) ai)) (g:=(ja K 2 (bS (bC 0) (bS (bC 1) i5)))) (λcl C s H fp=>(cA rfl (aA (eE (i:=0)) (aA (eE (i:=1)) bT)))) (λcl C s H fp=>aY) (te:=(bB 0)) (λcl C s H fp=>(ji 0))) (ae (az K (bp K (pv 1) ai) (aF bM (az K (pv 0) ai) ai)) ah))))),?_⟩
 obtain⟨⟨c,ps,rfl⟩,hf,hg⟩:=ho;obtain⟨hd,rfl⟩:=dq hn;obtain⟨a0,e0,gJ⟩:=hL.nth (i:=0) rfl;obtain⟨t,bs,h1,hI⟩:=cb.mp ha;have hc:=cI hf (c:=c) (by simp[df]);have hz:ps.length<=1000:=hsm;have hg:∀p∈ps,dP p.1/\dP p.2:=hg;have hlb:(bs.map V.ref).length=ps.length:=by rw[WV,hI.len]
 have hls:(ps.map λp=>sW p.2).length=ps.length:=WV _;refine⟨_,rfl,a,_,2,_,rfl,rfl,aJ.of h1,rfl,t,rfl,⟨_,aJ.of hI.tup⟩,?_⟩;refine y0 (xs:=bs.map V.ref) (λi σ ks H'=>(∃o1 o2,σ=[o1,o2])/\ks=gN [] ((ps.map λp=>sW p.2).take i)/\H'=H) ⟨⟨none,none,rfl⟩,rfl,rfl⟩ ?_ ?_ ?_ ?_
 ·rintro i σ ks H' hi ⟨_,rfl,_⟩;have:=(pf ((ps.map λp=>sW p.2).take i) []).2;rw[Xj,List.length_nil]at this;exact WY (show _<=1001 by omega) (by decide)
 ·rintro i σ ks H' _ ⟨_,_,rfl⟩;exact aJ.of hI.tup
 ·rintro i v σ ks H' hv ⟨⟨o1,o2,rfl⟩,rfl,rfl⟩;obtain⟨b,p,rfl,ep,hb⟩:=hI.get hv;refine⟨b,_,rfl,aJ.of hb,rfl,_,_,rfl,ak ⟨_,_,rfl,ak ⟨rfl,?_⟩⟩⟩;refine⟨_,rfl,p.2,rfl,(hg p (W4 ep)).2,.inr (sW p.2),rfl,⟨_,_,rfl⟩,?_,rfl⟩;rw[AZ (by rw[Xi,ep];rfl)]
 ·rintro σ ks H' ⟨_,rfl,rfl⟩;rw[hlb,←hls,Xx];refine⟨_,_,rfl,rfl,_,rfl,?_⟩;have q:∀J6,aM H' J6->Q (.bl (cX (ps.map λp=>sW p.2)&&cY (ps.map λp=>p.1) (bx hd c))) J6:=q;rw[BQ];cases hO:cX (ps.map λp=>sW p.2)with
  |false =>rw[hO]at q;exact b_ (q H' (aM.refl _))
  |true =>
   rw[hO]at q;refine bF (aG ⟨_,rfl,a,_,2,_,rfl,rfl,aJ.of h1,rfl,t,rfl,⟨_,aJ.of hI.tup⟩,λD hD=>?_⟩);refine cF (xs:=bs.map V.ref) (λi σ ys H2=>(∃o1 o2,σ=[o1,o2])/\ys=(ps.take i).map (λp=>p.1)/\ys.length=i/\H2 D=some (.lst ys)/\aM H' H2) ⟨⟨none,none,rfl⟩,rfl,rfl,ag,aj hD _⟩ ?_ ?_ ?_ ?_ ?_
   ·rintro i σ ys H2 _ ⟨_,_,hi,h,_⟩;exact⟨h,XF hi⟩
   ·rintro i σ ys H2 _ ⟨_,_,_,_,sm⟩;exact aJ.of (sm _ _ hI.tup)
   ·rw[hlb];exact WS hz (by decide)
   ·rintro i v σ ys H2 hv ⟨⟨o1,o2,rfl⟩,rfl,hi,h,sm⟩;obtain⟨b,p,rfl,ep,hb⟩:=hI.get hv;refine⟨b,_,rfl,aJ.of (sm _ _ hb),rfl,_,_,rfl,ak ⟨_,_,rfl,ak ⟨rfl,?_⟩⟩⟩;refine⟨_,rfl,h,⟨_,_,rfl⟩,?_,?_,ag,bu hD sm⟩
    ·rw[take_one ep,WX];rfl
    ·rw[WW,hi];rfl
   ·rintro σ ys H2 ⟨_,rfl,hyl,h,sm⟩;rw[hlb,Xx]at h hyl;refine⟨_,rfl,l,_,0,_,rfl,rfl,aZ.of (sm _ _ hL.lst),au (j:=0) e0,_,rfl,a,_,1,_,rfl,rfl,aJ.of (sm _ _ h1),rfl,_,_,rfl,rfl,a0,_,_,_,rfl,rfl,aJ.of (sm _ _ gJ),dF hc,?_⟩;refine⟨D,_,_,rfl,h,by omega,λv hv=>?_,λH3 s'=>q H3 (sm.trans s')⟩;obtain⟨p,hp,rfl⟩:=W_.mp hv;exact(hg p hp).1
end My
namespace L2
open PySem PySem.Spec PyProof.Rows
def js(K:XO)(d:Addr)(key:Str):Prop :=
 (d==sysModules)=false/\∃(es:Array DictEntry)(ep:Nat),K.lookup d=some ⟨.type "dict",none,.dict es ep,#[]⟩/\es.all (λe=>isExactStrKey e.key)=true/\es.findIdx? (λe=>e.key.isStr key)=none
def Ig(K:XO):R2:=λx y H Q=>∃d k,x=.str k/\y=.ref d/\(((∃f,dG K d k f)/\Q (.bl false) H)\/(js K d k/\Q (.bl true) H))
section
variable{X:Cx}
theorem rV:jk X (compareOp .NotIn) (Ig X.K):=by
 intro ac s σ H x y v u Q I rx ry h;obtain⟨d,k,rfl,rfl,h⟩:=h;cases ry;obtain⟨t,rfl⟩:=rx;rcases h with⟨⟨f,es,ep,i,hx,te,lk,ha,hi,he⟩,q⟩|⟨⟨hd,es,ep,lk,ha,hi⟩,q⟩
 ·have ho:s.heap.get? d=some ⟨.type "dict",none,.dict es ep,#[]⟩:=I.j9 _ _ lk;have hT:s.TypeIs (.ref d) "dict":=⟨_,ho,rfl⟩;have fin:EP X ac σ Q (.bool false) {s with toks:=s.toks+1}:=⟨.bl false,H,I.kept (h':=s.heap) (t':=s.toks+1) λ_ _ e=>e,rfl,q⟩;show wpAny _ _ (do return Value.bool (!(←contains (.ref d) (.str k t)))) (EP X ac σ Q) X.xe s;refine WL (wpAny_contains_slot hT slot_dict_contains (XD slot_dict_contains hT entry_dict_contains ?_ (args_dict_contains _ _)));show wpAny _ _ (dictGet d (.str k t) >>= _) _ _ s;refine WL ?_;unfold dictGet;try with_reducible refine Xm ?_
  refine WL (wpAny_pyHash_str ?_);unfold dictFind;refine WL ?_;try with_reducible refine Xm ?_
  refine WL (wpAny_dictEntries (s:={s with toks:=s.toks+1}) ho rfl ?_);dsimp only;rw[Xu ha];unfold foundByValue;rw[hi];dsimp only;rw[he];dsimp only;refine WL (wpAny_dictEpoch (s:={s with toks:=s.toks+1}) ho rfl ?_);refine WL (wpAny_eqBool_str ?_);refine WL (wpAny_dictEpoch (s:={s with toks:=s.toks+1}) ho rfl ?_);rw[Xt (by simp),WU rfl];refine WL (wpAny_rule (WM ?_));refine WL (wpAny_dictEntries (s:={s with toks:=s.toks+1}) ho rfl (WM ?_));rw[he];show wpAny _ _ (ret (.bool true)) _ _ _;exact WM ⟨_,rfl,wpAny_truthy_bool (WM fin)⟩
 ·have ho:s.heap.get? d=some ⟨.type "dict",none,.dict es ep,#[]⟩:=I.j9 _ _ lk;have hT:s.TypeIs (.ref d) "dict":=⟨_,ho,rfl⟩;have fin:EP X ac σ Q (.bool true) {s with toks:=s.toks+1}:=⟨.bl true,H,I.kept (h':=s.heap) (t':=s.toks+1) λ_ _ e=>e,rfl,q⟩;show wpAny _ _ (do return Value.bool (!(←contains (.ref d) (.str k t)))) (EP X ac σ Q) X.xe s;refine WL (wpAny_contains_slot hT slot_dict_contains (XD slot_dict_contains hT entry_dict_contains ?_ (args_dict_contains _ _)));show wpAny _ _ (dictGet d (.str k t) >>= _) _ _ s;refine WL ?_;unfold dictGet;try with_reducible refine Xm ?_
  refine WL (wpAny_pyHash_str ?_);unfold dictFind;refine WL ?_;try with_reducible refine Xm ?_
  refine WL (wpAny_dictEntries (s:={s with toks:=s.toks+1}) ho rfl ?_);dsimp only;rw[Xu ha];unfold foundByValue;rw[hi];dsimp only;refine WM ?_;show wpAny _ _ (pure none) _ _ _;refine WM ?_;show wpAny _ _ (Builtin.Dict.pendingKey? d _ >>= _) _ _ _;exact WL (wpAny_pendingKey_other hd (WM ⟨_,rfl,wpAny_truthy_bool (WM fin)⟩))
end
end L2
namespace My
open PySem L2
def JD(P:Program)(w:World)(K:XO)(mg:Z2)(base:Heap)(aS:Addr)(n:Nat)(x:Wk):Prop :=
 (∃(f:Addr)(fd:FuncData),dG K aS x.nm f/\fE P w K mg base bf 3 f fd Z9 (dH n bg (qK λy=>y=x))/\PySem.W.keepIn K (.ref f)=true/\Binds K fd Z9 [])\/(js K aS x.nm/\∀hs,bg x hs=true)
theorem eD{n:Nat}{F:Wk->List Hd->Bool}{k k':Wk->Prop}(h:∀x,k' x->k x):∀vs H Q E,dH n F (qK k') vs H Q E->dH n F (qK k) vs H Q E:=by rintro vs H Q E ⟨a,l,x,as,hs,h1,h2,h3,h4,h5,⟨h6,h7⟩,h8⟩;exact⟨a,l,x,as,hs,h1,h2,h3,h4,h5,⟨h x h6,h7⟩,h8⟩
variable{P:Program}{w:World}{K:XO}{mg:Z2}{base:Heap}
theorem AY{n:Nat}{aS:Addr}{f1 f2 f3 f4 f5 f6 f7 f8:Addr}
  (t1:dG K aS "keep" f1) (t2:dG K aS "same" f2) (t3:dG K aS "turn" f3) (t4:dG K aS "must" f4) (t5:dG K aS "walk" f5) (t6:dG K aS "sum" f6) (t7:dG K aS "both" f7) (t8:dG K aS "meet" f8)
  (u1:js K aS "cut") (u2:js K aS "sort") (u3:js K aS "apart") (u4:js K aS "count") (u5:js K aS "number") (u6:js K aS "first")
  (G1:FnAt P w K mg base 1 f1 Z9 (dH n bg (qK λx=>∃c t,x=.one (.keep c t)))) (G2:FnAt P w K mg base 2 f2 Z9 (dH n bg (qK λx=>∃c d,x=.one (.same c d)))) (G3:FnAt P w K mg base 3 f3 Z9 (dH n bg (qK λx=>∃c ps,x=.one (.turn c ps)))) (G4:FnAt P w K mg base 3 f4 Z9 (dH n bg (qK λx=>∃c ps,x=.one (.must c ps))))
  (G5:FnAt P w K mg base 3 f5 Z9 (dH n bg (qK λx=>∃c mv,x=.one (.walk c mv)))) (G6:FnAt P w K mg base 1 f6 Z9 (dH n bg (qK λx=>∃cs c,x=.one (.sum cs c)))) (G7:FnAt P w K mg base 1 f7 Z9 (dH n bg (qK λx=>∃p q,x=.both p q))) (G8:FnAt P w K mg base 2 f8 Z9 (dH n bg (qK λx=>∃c d p q,x=.meet c d p q))):∀x,JD P w K mg base aS n x:=by
 obtain⟨d1,G1,b1,k1⟩:=G1;obtain⟨d2,G2,b2,k2⟩:=G2;obtain⟨d3,G3,b3,k3⟩:=G3;obtain⟨d4,G4,b4,k4⟩:=G4;obtain⟨d5,G5,b5,k5⟩:=G5;obtain⟨d6,G6,b6,k6⟩:=G6;obtain⟨d7,G7,b7,k7⟩:=G7;obtain⟨d8,G8,b8,k8⟩:=G8;intro x;match x with
 | .one (.keep c t)=>exact .inl ⟨f1,d1,t1,(G1.imp (eD λ_ e=>⟨c,t,e⟩)).mono (by omega),k1,b1⟩
 | .one (.same c d)=>exact .inl ⟨f2,d2,t2,(G2.imp (eD λ_ e=>⟨c,d,e⟩)).mono (by omega),k2,b2⟩
 | .one (.turn c ps)=>exact .inl ⟨f3,d3,t3,G3.imp (eD λ_ e=>⟨c,ps,e⟩),k3,b3⟩
 | .one (.must c ps)=>exact .inl ⟨f4,d4,t4,G4.imp (eD λ_ e=>⟨c,ps,e⟩),k4,b4⟩
 | .one (.walk c mv)=>exact .inl ⟨f5,d5,t5,G5.imp (eD λ_ e=>⟨c,mv,e⟩),k5,b5⟩
 | .one (.sum cs c)=>exact .inl ⟨f6,d6,t6,(G6.imp (eD λ_ e=>⟨cs,c,e⟩)).mono (by omega),k6,b6⟩
 | .both p q=>exact .inl ⟨f7,d7,t7,(G7.imp (eD λ_ e=>⟨p,q,e⟩)).mono (by omega),k7,b7⟩
 | .meet c d p q=>exact .inl ⟨f8,d8,t8,(G8.imp (eD λ_ e=>⟨c,d,p,q,e⟩)).mono (by omega),k8,b8⟩
 | .one (.cut _)=>exact .inr ⟨u1,λ_=>rfl⟩
 | .one (.sort _)=>exact .inr ⟨u2,λ_=>rfl⟩
 | .one .apart=>exact .inr ⟨u3,λ_=>rfl⟩
 | .one (.count _)=>exact .inr ⟨u4,λ_=>rfl⟩
 | .one .number=>exact .inr ⟨u5,λ_=>rfl⟩
 | .one (.first _)=>exact .inr ⟨u6,λ_=>rfl⟩
abbrev jM:Stmt:=top 33
theorem lA:ay ["worker","heads","fit"] Z9 (ar jM):=fs
theorem vo{n:Nat}{aS:Addr}(mS:mg "SORTS_FIT"=some (.ref aS))(GS:∀x:Wk,JD P w K mg base aS n x)(F:FA K mg "sorts_fit" jM) :
  bc bf P w K mg base 4 "sorts_fit" Z9 (dH n bg (qK λ_=>True)):=by
 refine F.ok lA λf cdv A outer s H vs Q E hr h=>?_;obtain⟨a,l,x,as,hs,rfl,ha,hL,hn,hsm,ho,q⟩:=h;refine⟨_,(aN (dj rV (az K (pv 0) ai) (cT rfl mS (show RelV (.ref aS) (.ref aS) from rfl)) rfl) eA
   (aq (aK (i:=2) lA.nd rfl (Xw rfl) (gv (r:=Io K) qv (cT rfl mS (show RelV (.ref aS) (.ref aS) from rfl)) (az K (pv 0) ai) (λ_ _=>rfl)))
   (av (p6 (k:=3) (pv 2) hr vq (ae (pv 0) (ae (pv 1) ah)))))),?_⟩
 obtain⟨xs,h1⟩:=ha.first;obtain⟨_,hf,hg⟩:=ho;refine⟨_,rfl,a,_,0,_,rfl,rfl,aJ.of h1,au (j:=0) rfl,aS,x.nm,rfl,rfl,?_⟩;rcases GS x with⟨g,gd,J4,FG,kG,bG⟩|⟨hno,he⟩
 ·refine .inl ⟨⟨g,J4⟩,_,rfl,bF (aG ?_)⟩;refine⟨_,rfl,a,_,0,_,rfl,rfl,aJ.of h1,au (j:=0) rfl,aS,x.nm,g,rfl,rfl,J4,ak ?_⟩;dsimp only;exact⟨_,rfl,g,gd,_,_,rfl,FG,kG,bG,_,rfl,_,rfl,a,l,x,as,hs,rfl,ha,hL,hn,hsm,⟨rfl,hf,hg⟩,q⟩
 ·refine .inr ⟨hno,_,rfl,b_ ?_⟩;have q:=q H (aM.refl _);rw[he hs]at q;exact q
def yk(h:Hd)(cs:List Int):Prop:=∀c∈cs,1<=c/\c<=h.length
def oY:Sp:=λvs H Q _=>∃(a b:Addr)(h:Hd)(cs:List Int),vs=[.ref a,.ref b]/\eN H a h/\H b=some (.tup (cs.map V.int))/\cs.length<=1000/\yk h cs/\∀(u:Addr)(H':Hp),aM H H'->eN H' u (cs.map (bx h))->Q (.ref u) H'
abbrev oJ:Stmt:=top 34
theorem BW:ay ["head","columns"] ["head","columns"] (ar oJ):=fs
theorem Bs(B:kf mg)(F:FA K mg "picked" oJ) :
  bc bf P w K mg base 1 "picked" ["head","columns"] oY:=by
 refine F.ok BW λf cdv A outer s H vs Q E hr h=>?_;have hu:=iO hr;obtain⟨a,b,h,cs,rfl,ha,hb,hz,ht,q⟩:=h;refine⟨_,(av (aU bE rfl B.tuple XA (ae (bz (N':=["column","head"]) (src:=[none,some 0]) rfl (ba.j5 (by kernel_rfl)) (cL (pv 1)) (λcl C s H fp=>(eE (i:=0))) (λcl C s H fp=>aY) (te:=(hZ (sY K) (bB 1) (hZ (BN λi j=>V.int (i-j)) (bB 0) (tC (.int 1))))) (λcl C s H fp=>(az K (Ae 1) (aF bM (ji 0) ai)))) ah))),?_⟩;refine⟨_,rfl,b,rfl,⟨_,aJ.of hb⟩,λD hD=>?_⟩;refine cF (xs:=cs.map V.int) (λi σ ys H'=>(∃o,σ=[o,some (.ref a)])/\ys=((cs.take i).map (bx h)).map V.str/\ys.length=i/\H' D=some (.lst ys)/\aM H H') ⟨⟨none,rfl⟩,rfl,rfl,ag,aj hD _⟩ ?_ ?_ ?_ ?_ ?_
 ·rintro i σ ys H' _ ⟨_,_,hi,h,_⟩;exact⟨h,XF hi⟩
 ·rintro i σ ys H' _ ⟨_,_,_,_,sm⟩;exact aJ.of (sm _ _ hb)
 ·rw[WV];exact WS hz (by decide)
 ·rintro i v σ ys H' hv ⟨⟨o,rfl⟩,rfl,hi,hh,sm⟩;rw[Xi]at hv;cases ec:cs[i]? with
  |none=>rw[ec]at hv;cases hv
  |some c =>
   rw[ec]at hv;have hv:V.int c=v:=Xf hv;subst hv;refine⟨_,rfl,_,rfl,_,_,rfl,rfl,a,_,_,_,rfl,rfl,aJ.of (sm _ _ ha),dF (ht c (W4 ec)),hh,⟨_,rfl⟩,?_,?_,ag,bu hD sm⟩
   ·rw[take_one ec,WX,WX];rfl
   ·rw[WW,hi];rfl
 ·rintro σ ys H' ⟨_,rfl,_,hh,sm⟩;rw[WV,Xx]at hh;exact⟨D,_,rfl,.inl ⟨aZ.of hh,λu hu=>q u _ (sm.trans (aj hu _)) ag⟩⟩
theorem nU{ts:List Str}{c:Int}(h1:1<=c)(h2:c<=ts.length):fP (ts.map V.str) none (some (c-1))=(ts.take (c-1).toNat).map V.str:=by have:=yf (xs:=ts.map V.str) (n:=(c-1).toNat) (by rw[WV];omega);rw[show(((c-1).toNat:Nat):Int)=c-1 by omega]at this;rw[this,List.map_take]
theorem j4{ts:List Str}{c:Int}(h1:1<=c)(h2:c<=ts.length):fP (ts.map V.str) (some c) none=(ts.drop c.toNat).map V.str:=by have:=Du (xs:=ts.map V.str) (n:=c.toNat) (by rw[WV];omega);rw[show((c.toNat:Nat):Int)=c by omega]at this;rw[this,List.map_drop]
def bK:Wk->List Hd->Hd
 | .one (.cut cs),hs=>cs.map (bx (hs.headD []))
 | .one (.must c ps),hs=>(hs.headD []).take (c-1).toNat++(ps.take 1).map (λp=>sW p.2)++(hs.headD []).drop c.toNat
 | .one (.walk _ _),hs=>hs.headD []++(["w"]:Hd)
 | .one (.count cs),hs=>cs.map (bx (hs.headD []))++(["t"]:Hd)
 | .one (.sum cs _),hs=>cs.map (bx (hs.headD []))++(["t"]:Hd)
 | .one .number,hs=>hs.headD []++(["t"]:Hd)
 | .meet _ d _ _,hs=>hs.headD []++(hs.getD 1 []).take (d-1).toNat++(hs.getD 1 []).drop d.toNat
 |_,hs=>hs.headD []
def RX:Wk->Prop
 | .one (.must _ ps)=>ps≠[]
 |_=>True
structure QZ(k:Wk->Prop)(x:Wk)(hs:List Hd):Prop where
 k:k x
 fit:dk x hs=true
 good:goodW x
 ne:RX x
 sm:∀h∈hs,h.length<=1000
def dB(n:Nat)(k:Wk->Prop):Sp:=λvs H Q _=>∃(a l:Addr)(x:Wk)(as:Z8)(hs:List Hd),vs=[.ref a,.ref l]/\dv n H a x/\gy H l as hs/\hs.length=C8 x/\kP x/\QZ k x hs/\∀u H',aM H H'->eN H' u (bK x hs)->Q (.ref u) H'
theorem eG{a b:Addr}{xs ys:Hd}{H:Hp}{Q:VK}(h1:eN H a xs)(h2:eN H b ys)(hz:xs.length+ys.length<=100000)(q:∀t H',aM H H'->eN H' t (xs++ys)->Q (.ref t) H'):IW (.ref a) (.ref b) H Q :=
 ⟨a,b,_,_,rfl,rfl,h1,h2,by rw[WV,WV];exact WS hz (by decide),λt H' s' ht=>q t H' s' (by rw[eN,WX];exact ht)⟩
abbrev gn:Stmt:=top 37
theorem nK:ay Z9 Z9 (ar gn):=fs
theorem Fh{n:Nat}(F:FA K mg "head_of_walk" gn) :
  bc bf P w K mg base 1 "head_of_walk" Z9 (dB n (λx=>∃c mv,x=.one (.walk c mv))):=by
 refine F.ok nK λf cdv A outer s H vs Q E hr h=>?_;have hu:=iO hr;obtain⟨a,l,x,as,hs,rfl,ha,hL,hn,hsm,ho,q⟩:=h;refine⟨_,(av (aF bN (bp K (pv 1) ai) (aH (ae ao ah)))),?_⟩;obtain⟨c,mv,rfl⟩:=ho.k;obtain⟨hd,rfl⟩:=dq hn;obtain⟨a0,e0,gJ⟩:=hL.nth (i:=0) rfl;have hz:=ho.sm hd (by simp);refine⟨_,rfl,l,_,0,_,rfl,rfl,aZ.of hL.lst,au (j:=0) e0,dz,λu hu=>?_⟩;have su:=aj hu (.tup [.str "w"]);exact eG (ys:=["w"]) (su _ _ gJ) ag (by show _+1<=_;omega) λt H' s' ht=>q t H' (su.trans s') ht
abbrev e8:Stmt:=top 39
theorem l4:ay Z9 Z9 (ar e8):=fs
theorem yB{n:Nat}{tk:Tok}(mT:mg "TALLY"=some (.str "t" tk))(F:FA K mg "head_of_number" e8) :
  bc bf P w K mg base 1 "head_of_number" Z9 (dB n (λx=>x=.one .number)):=by
 refine F.ok l4 λf cdv A outer s H vs Q E hr h=>?_;have hu:=iO hr;obtain⟨a,l,x,as,hs,rfl,ha,hL,hn,hsm,ho,q⟩:=h;refine⟨_,(av (aF bN (bp K (pv 1) ai) (aH (ae (cT (v:=.str "t") rfl mT ⟨_,rfl⟩) ah)))),?_⟩;cases ho.k;obtain⟨hd,rfl⟩:=dq hn;obtain⟨a0,e0,gJ⟩:=hL.nth (i:=0) rfl;have hz:=ho.sm hd (by simp);refine⟨_,rfl,l,_,0,_,rfl,rfl,aZ.of hL.lst,au (j:=0) e0,dz,λu hu=>?_⟩;have su:=aj hu (.tup [.str "t"]);exact eG (ys:=["t"]) (su _ _ gJ) ag (by show _+1<=_;omega) λt H' s' ht=>q t H' (su.trans s') ht
abbrev ic:Stmt:=top 35
theorem qp:ay Z9 Z9 (ar ic):=fs
theorem Gb{n:Nat}(F:FA K mg "head_of_cut" ic)
  (pd:bc bf P w K mg base 1 "picked" ["head","columns"] oY) :
  bc bf P w K mg base 2 "head_of_cut" Z9 (dB n (λx=>∃cs,x=.one (.cut cs))):=by
 refine F.ok qp λf cdv A outer s H vs Q E hr h=>?_;obtain⟨a,l,x,as,hs,rfl,ha,hL,hn,hsm,ho,q⟩:=h;refine⟨_,(av (ax pd hr (ae (bp K (pv 1) ai) (ae (az K (pv 0) ai) ah)))),?_⟩;obtain⟨cs,rfl⟩:=ho.k;obtain⟨hd,rfl⟩:=dq hn;obtain⟨a0,e0,gJ⟩:=hL.nth (i:=0) rfl;obtain⟨t,h1,h2⟩:=cb.mp ha;exact⟨_,rfl,l,_,0,_,rfl,rfl,aZ.of hL.lst,au (j:=0) e0,_,rfl,a,_,1,_,rfl,rfl,aJ.of h1,rfl,a0,t,hd,cs,rfl,gJ,h2,hsm,λc hc=>cI ho.fit hc,q⟩
abbrev eL:Stmt:=top 38
theorem kQ:ay Z9 Z9 (ar eL):=fs
theorem E8{n:Nat}{tk:Tok}(mT:mg "TALLY"=some (.str "t" tk))(F:FA K mg "head_of_tallied" eL)
  (pd:bc bf P w K mg base 1 "picked" ["head","columns"] oY) :
  bc bf P w K mg base 2 "head_of_tallied" Z9 (dB n (λx=>∃cs,x=.one (.count cs)\/∃c,x=.one (.sum cs c))):=by
 refine F.ok kQ λf cdv A outer s H vs Q E hr h=>?_;have hu:=iO hr;have hu1:=jD hr;obtain⟨a,l,x,as,hs,rfl,ha,hL,hn,hsm,ho,q⟩:=h;refine⟨_,(av (aF bN (ax pd hr (ae (bp K (pv 1) ai) (ae (az K (pv 0) ai) ah))) (aH (ae (cT (v:=.str "t") rfl mT ⟨_,rfl⟩) ah)))),?_⟩;have key:∃(cs:List Int)(hd:Hd)(t y:Addr)(v:V)(vs:List V),hs=[hd]/\H a=some (.tup (v :: .ref t::vs))/\H t=some (.tup (cs.map V.int))/\cs.length<=1000/\yk hd cs/\bK x hs=cs.map (bx hd)++(["t"]:Hd):=by
  obtain⟨cs,rfl|⟨c,rfl⟩⟩:=ho.k
  ·obtain⟨hd,rfl⟩:=dq hn;obtain⟨t,h1,h2⟩:=cb.mp ha;exact⟨cs,hd,t,t,_,_,rfl,h1,h2,hsm,λc hc=>cI ho.fit hc,rfl⟩
  ·obtain⟨hd,rfl⟩:=dq hn;obtain⟨t,h1,h2⟩:=cb.mp ha;exact⟨cs,hd,t,t,_,_,rfl,h1,h2,hsm,λc hc=>cI ho.fit (List.mem_append_left _ hc),rfl⟩
 obtain⟨cs,hd,t,_,v,vs,rfl,h1,h2,hz,hth,eh⟩:=key;obtain⟨a0,e0,gJ⟩:=hL.nth (i:=0) rfl;refine⟨_,rfl,l,_,0,_,rfl,rfl,aZ.of hL.lst,au (j:=0) e0,_,rfl,a,_,1,_,rfl,rfl,aJ.of h1,au (j:=1) rfl,a0,t,hd,cs,rfl,gJ,h2,hz,hth,λu1 H1 s1 hu1=>?_⟩;refine⟨dz,λu hu=>?_⟩;have su:=aj hu (.tup [.str "t"]);refine eG (ys:=["t"]) (su _ _ hu1) ag ?_ λt' H' s' ht=>q t' H' (s1.trans (su.trans s')) (by rw[eh];exact ht);rw[WV];show _+1<=_;omega
abbrev gz:Stmt:=top 40
theorem nJ:ay Z9 Z9 (ar gz):=fs
theorem DG{n:Nat}(F:FA K mg "head_of_meet" gz) :
  bc bf P w K mg base 1 "head_of_meet" Z9 (dB n (λx=>∃c d p q,x=.meet c d p q)):=by
 refine F.ok nJ λf cdv A outer s H vs Q E hr h=>?_;obtain⟨a,l,x,as,hs,rfl,ha,hL,hn,hsm,ho,q⟩:=h;refine⟨_,(av (aF bN (aF bN (bp K (pv 1) ai) (cq cU (bp K (pv 1) ai) dm (cz (aF bM (az K (pv 0) ai) ai)))) (cq cU (bp K (pv 1) ai) (cz (az K (pv 0) ai)) dm))),?_⟩;obtain⟨c,d,p,q',rfl⟩:=ho.k;obtain⟨h0,h2,rfl⟩:=dM hn;obtain⟨a0,e0,gJ⟩:=hL.nth (i:=0) rfl;obtain⟨a1,e1,vp⟩:=hL.nth (i:=1) rfl;have hz0:=ho.sm h0 (by simp);have hz1:=ho.sm h2 (by simp);have hf:(there c h0&&there d h2)=true:=ho.fit;rw[Xq]at hf;obtain⟨d1,d2⟩:=fA hf.2;cases n with
 |zero=>exact Xy ha
 |succ n =>
 obtain⟨b,e,bs,es,h1,_⟩:=ha;refine⟨_,rfl,l,_,0,_,rfl,rfl,aZ.of hL.lst,au (j:=0) e0,_,rfl,l,_,1,_,rfl,rfl,aZ.of hL.lst,au (j:=1) e1,?_⟩;refine⟨_,rfl,a,_,2,_,rfl,rfl,aJ.of h1,rfl,_,_,rfl,rfl,_,rfl,a1,_,rfl,vp,λt1 H1 s1 ht1=>?_⟩;rw[nU d1 d2]at ht1;refine eG (s1 _ _ gJ) ht1 (by rw[Xj];omega) λt2 H2 s2 GF=>?_;have s12:=s1.trans s2;refine⟨_,rfl,l,_,1,_,rfl,rfl,aZ.of (s12 _ _ hL.lst),au (j:=1) e1,_,rfl,a,_,2,_,rfl,rfl,aJ.of (s12 _ _ h1),rfl,_,rfl,a1,_,rfl,s12 _ _ vp,λt3 H3 s3 Jl=>?_⟩;rw[j4 d1 d2]at Jl;refine eG (s3 _ _ GF) Jl (by rw[WW,Xj,List.length_drop];omega) λt4 H4 s4 FR=>q t4 H4 (s12.trans (s3.trans s4)) FR
abbrev gA:Stmt:=top 36
theorem fO:ay ["worker","heads","column","pairs","told"] Z9 (ar gA):=fs
theorem E3{n:Nat}(B:kf mg)(F:FA K mg "head_of_must" gA)
  (iA:bc bf P w K mg base 1 "sort_of" ["cell"] gp) :
  bc bf P w K mg base 2 "head_of_must" Z9 (dB n (λx=>∃c ps,x=.one (.must c ps))):=by
 refine F.ok fO λf cdv A outer s H vs Q E hr h=>?_;have hu:=iO hr;obtain⟨a,l,x,as,hs,rfl,ha,hL,hn,hsm,ho,q⟩:=h;refine⟨_,(aq (LM (i:=2) (j:=3) rfl fO.nd rfl rfl (by decide) rfl rfl (ae (az K (pv 0) ai) (ae (az K (pv 0) ai) ah)) rfl)
   (aq (kF (i:=4) (N':=["old","new"]) (src:=[none,none]) fO.nd rfl (Xw rfl) rfl rfl (ba.j5 (by kernel_rfl)) (cL (cq cU (pv 3) dm (cz ai))) (g:=(ja K 2 (bS (bC 0) (bS (bC 1) i5)))) (λcl C s H fp=>(cA rfl (aA (eE (i:=0)) (aA (eE (i:=1)) bT)))) (λcl C s H fp=>aY) (te:=(jh gp [] E0 (bq (bB 1) fR))) (λcl C s H fp=>(ax (hg:=xS) iA hr (ae (ji 1) ah))))
   (av (aF bN (aF bN (cq cU (bp K (pv 1) ai) dm (cz (aF bM (pv 2) ai))) (Kc (aU bE rfl B.tuple XA (ae (pv 4) ah)) (cq cU (bp K (pv 1) ai) (cz (aF bM (pv 2) ai)) (cz (pv 2))))) (cq cU (bp K (pv 1) ai) (cz (pv 2)) dm))))),?_⟩
 obtain⟨c,ps,rfl⟩:=ho.k;obtain⟨hd,rfl⟩:=dq hn;obtain⟨a0,e0,gJ⟩:=hL.nth (i:=0) rfl;obtain⟨t,bs,h1,hI⟩:=cb.mp ha;obtain⟨c1,c2⟩:=cI ho.fit (c:=c) (by simp[df]);have hz:=ho.sm hd (by simp);have hne:ps≠[]:=ho.ne;have hg:∀p∈ps,dP p.1/\dP p.2:=ho.good;have P4:fP (bs.map V.ref) none (some 1)=(bs.take 1).map V.ref:=by have e:=yf (xs:=bs.map V.ref) (n:=1) (by rw[WV,hI.len];cases ps with|nil=>exact Xs rfl hne|cons _ _=>simp);rw[List.map_take];exact e
 refine⟨_,rfl,a,_,1,_,rfl,rfl,aJ.of h1,rfl,_,rfl,a,_,2,_,rfl,rfl,aJ.of h1,rfl,_,_,rfl,?_⟩;dsimp only;refine⟨_,rfl,_,rfl,t,_,rfl,hI.tup,λt1 H1 s1 ht1=>?_⟩;rw[P4]at ht1;refine⟨t1,rfl,⟨_,aJ.of ht1⟩,λD hD=>?_⟩;have hl1:((bs.take 1).map V.ref).length=1:=by rw[WV,Xj,hI.len];cases ps with|nil=>exact Xs rfl hne|cons _ _=>simp
 refine cF (xs:=(bs.take 1).map V.ref) (λi σ ys H'=>(∃o1 o2,σ=[o1,o2])/\ys=((ps.take i).map λp=>sW p.2).map V.str/\ys.length=i/\H' D=some (.lst ys)/\aM H1 H') ⟨⟨none,none,rfl⟩,rfl,rfl,ag,aj hD _⟩ ?_ ?_ ?_ ?_ ?_
 ·rintro i σ ys H' _ ⟨_,_,hi,h,_⟩;exact⟨h,XF hi⟩
 ·rintro i σ ys H' _ ⟨_,_,_,_,sm⟩;exact aJ.of (sm _ _ ht1)
 ·rw[hl1];decide
 ·rintro i v σ ys H' hv ⟨⟨o1,o2,rfl⟩,rfl,hi,h,sm⟩;have hv':(bs.map V.ref)[i]? = some v:=by
   rw[List.map_take,List.getElem?_take]at hv;split at hv
   ·exact hv
   ·cases hv
  obtain⟨b,p,rfl,ep,hb⟩:=hI.get hv';refine⟨b,_,rfl,aJ.of (sm _ _ (s1 _ _ hb)),rfl,_,_,rfl,ak ⟨_,_,rfl,ak ⟨rfl,?_⟩⟩⟩;refine⟨_,rfl,p.2,rfl,(hg p (W4 ep)).2,h,⟨_,_,rfl⟩,?_,?_,ag,bu hD sm⟩
  ·rw[take_one ep,WX,WX];rfl
  ·rw[WW,hi];rfl
 ·rintro σ ys H' ⟨_,rfl,hi,h,sm⟩;rw[hl1]at h hi;have s2:=s1.trans sm;refine ak ?_;dsimp only;refine⟨_,rfl,l,_,0,_,rfl,rfl,aZ.of (s2 _ _ hL.lst),au (j:=0) e0,_,rfl,_,_,rfl,rfl,_,rfl,a0,_,rfl,s2 _ _ gJ,λt3 H3 s3 Jl=>?_⟩;rw[nU c1 c2]at Jl;refine⟨_,rfl,D,_,rfl,.inl ⟨aZ.of (s3 _ _ h),λu hu=>⟨true,.inr (.inl ⟨_,aJ.of ag,?_⟩),b_ ?_⟩⟩⟩
  ·cases ps with|nil=>exact Xs rfl hne|cons _ _=>rfl
  have su:=aj hu (.tup (((ps.take 1).map λp=>sW p.2).map V.str));refine eG (su _ _ Jl) ag (by rw[Xj,WV,Xj];omega) λt4 H4 s4 FR=>?_;have s5:=s2.trans (s3.trans (su.trans s4));refine⟨_,rfl,l,_,0,_,rfl,rfl,aZ.of (s5 _ _ hL.lst),au (j:=0) e0,_,rfl,_,rfl,a0,_,rfl,s5 _ _ gJ,λt6 H6 s6 nZ=>?_⟩;rw[j4 c1 c2]at nZ;refine eG (s6 _ _ FR) nZ (by rw[WW,Xj,WV,Xj,List.length_drop];omega) λt7 H7 s7 Jf=>q t7 H7 (s5.trans (s6.trans s7)) Jf
def Fq(P:Program)(w:World)(K:XO)(mg:Z2)(base:Heap)(aT:Addr)(n:Nat)(x:Wk):Prop :=
 (∃(f:Addr)(fd:FuncData),dG K aT x.nm f/\fE P w K mg base bf 2 f fd Z9 (dB n λy=>y=x)/\PySem.W.keepIn K (.ref f)=true/\Binds K fd Z9 [])\/(js K aT x.nm/\∀hs,bK x hs=hs.headD [])
theorem d_{n:Nat}{k k':Wk->Prop}(h:∀x,k' x->k x):∀vs H Q E,dB n k' vs H Q E->dB n k vs H Q E:=by rintro vs H Q E ⟨a,l,x,as,hs,h1,h2,h3,h4,h5,⟨h6,h7,h8,h9,h10⟩,h11⟩;exact⟨a,l,x,as,hs,h1,h2,h3,h4,h5,⟨h x h6,h7,h8,h9,h10⟩,h11⟩
theorem yA{n:Nat}{aT:Addr}{f1 f2 f3 f4 f5 f6:Addr}
  (t1:dG K aT "cut" f1) (t2:dG K aT "must" f2) (t3:dG K aT "walk" f3) (t4:dG K aT "count" f4) (Vk:dG K aT "sum" f4) (t5:dG K aT "number" f5) (t6:dG K aT "meet" f6)
  (u1:js K aT "keep") (u2:js K aT "same") (u3:js K aT "turn") (u4:js K aT "sort") (u5:js K aT "apart") (u6:js K aT "first") (u7:js K aT "both")
  (G1:FnAt P w K mg base 2 f1 Z9 (dB n λx=>∃cs,x=.one (.cut cs))) (G2:FnAt P w K mg base 2 f2 Z9 (dB n λx=>∃c ps,x=.one (.must c ps))) (G3:FnAt P w K mg base 1 f3 Z9 (dB n λx=>∃c mv,x=.one (.walk c mv))) (G4:FnAt P w K mg base 2 f4 Z9 (dB n λx=>∃cs,x=.one (.count cs)\/∃c,x=.one (.sum cs c)))
  (G5:FnAt P w K mg base 1 f5 Z9 (dB n λx=>x=.one .number)) (G6:FnAt P w K mg base 1 f6 Z9 (dB n λx=>∃c d p q,x=.meet c d p q)):∀x,Fq P w K mg base aT n x:=by
 obtain⟨d1,G1,b1,k1⟩:=G1;obtain⟨d2,G2,b2,k2⟩:=G2;obtain⟨d3,G3,b3,k3⟩:=G3;obtain⟨d4,G4,b4,k4⟩:=G4;obtain⟨d5,G5,b5,k5⟩:=G5;obtain⟨d6,G6,b6,k6⟩:=G6;intro x;match x with
 | .one (.cut cs)=>exact .inl ⟨f1,d1,t1,G1.imp (d_ λ_ e=>⟨cs,e⟩),k1,b1⟩
 | .one (.must c ps)=>exact .inl ⟨f2,d2,t2,G2.imp (d_ λ_ e=>⟨c,ps,e⟩),k2,b2⟩
 | .one (.walk c mv)=>exact .inl ⟨f3,d3,t3,(G3.imp (d_ λ_ e=>⟨c,mv,e⟩)).mono (by omega),k3,b3⟩
 | .one (.count cs)=>exact .inl ⟨f4,d4,t4,G4.imp (d_ λ_ e=>⟨cs,.inl e⟩),k4,b4⟩
 | .one (.sum cs c)=>exact .inl ⟨f4,d4,Vk,G4.imp (d_ λ_ e=>⟨cs,.inr ⟨c,e⟩⟩),k4,b4⟩
 | .one .number=>exact .inl ⟨f5,d5,t5,(G5.imp (d_ λ_ e=>e)).mono (by omega),k5,b5⟩
 | .meet c d p q=>exact .inl ⟨f6,d6,t6,(G6.imp (d_ λ_ e=>⟨c,d,p,q,e⟩)).mono (by omega),k6,b6⟩
 | .one (.keep _ _)=>exact .inr ⟨u1,λ_=>rfl⟩
 | .one (.same _ _)=>exact .inr ⟨u2,λ_=>rfl⟩
 | .one (.turn _ _)=>exact .inr ⟨u3,λ_=>rfl⟩
 | .one (.sort _)=>exact .inr ⟨u4,λ_=>rfl⟩
 | .one .apart=>exact .inr ⟨u5,λ_=>rfl⟩
 | .one (.first _)=>exact .inr ⟨u6,λ_=>rfl⟩
 | .both _ _=>exact .inr ⟨u7,λ_=>rfl⟩
theorem Ei{x:Wk}{hs:List Hd}(hn:hs.length=C8 x):∃h0,hs[0]? = some h0/\hs.headD []=h0:=by
 cases hs with
 |nil=>cases x<;>cases hn
 |cons h0 r=>exact⟨h0,rfl,rfl⟩
abbrev jE:Stmt:=top 42
theorem lZ:ay ["worker","heads","head_of_told"] Z9 (ar jE):=fs
theorem vA{n:Nat}{aT:Addr}(mH:mg "HEADS_TOLD"=some (.ref aT))(GH:∀x:Wk,Fq P w K mg base aT n x)(F:FA K mg "head_told" jE) :
  bc bf P w K mg base 3 "head_told" Z9 (dB n (λ_=>True)):=by
 refine F.ok lZ λf cdv A outer s H vs Q E hr h=>?_;obtain⟨a,l,x,as,hs,rfl,ha,hL,hn,hsm,ho,q⟩:=h;refine⟨_,(aN (dj rV (az K (pv 0) ai) (cT rfl mH (show RelV (.ref aT) (.ref aT) from rfl)) rfl) (bp K (pv 1) ai)
   (aq (aK (i:=2) lZ.nd rfl (Xw rfl) (gv (r:=Io K) qv (cT rfl mH (show RelV (.ref aT) (.ref aT) from rfl)) (az K (pv 0) ai) (λ_ _=>rfl)))
   (av (p6 (k:=2) (pv 2) hr vq (ae (pv 0) (ae (pv 1) ah)))))),?_⟩
 obtain⟨xs,h1⟩:=ha.first;refine⟨_,rfl,a,_,0,_,rfl,rfl,aJ.of h1,au (j:=0) rfl,aT,x.nm,rfl,rfl,?_⟩;rcases GH x with⟨g,gd,J4,FG,kG,bG⟩|⟨hno,he⟩
 ·refine .inl ⟨⟨g,J4⟩,_,rfl,bF (aG ?_)⟩;refine⟨_,rfl,a,_,0,_,rfl,rfl,aJ.of h1,au (j:=0) rfl,aT,x.nm,g,rfl,rfl,J4,ak ?_⟩;dsimp only;exact⟨_,rfl,g,gd,_,_,rfl,FG,kG,bG,_,rfl,_,rfl,a,l,x,as,hs,rfl,ha,hL,hn,hsm,⟨rfl,ho.fit,ho.good,ho.ne,ho.sm⟩,q⟩
 ·refine .inr ⟨hno,_,rfl,b_ ?_⟩;obtain⟨h0,e0,eh⟩:=Ei hn;obtain⟨a0,e0,gJ⟩:=hL.nth e0;refine⟨_,rfl,l,_,0,_,rfl,rfl,aZ.of hL.lst,au (j:=0) e0,q a0 H (aM.refl _) ?_⟩;rw[he hs,eh];exact gJ
def cP:Wk->List (List Wk)
 | .one _=>[]
 | .both p q=>[p,q]
 | .meet _ _ p q=>[p,q]
def Ct(n:Nat):Sp:=λvs H Q _=>∃(a:Addr)(x:Wk),vs=[.ref a]/\dv n H a x/\∀(u:Addr)(bs:Z8)(H':Hp),aM H H'->bR (jP (n-1)) H' u bs (cP x)->Q (.ref u) H'
def CK:List V:=[.str "both",.str "meet"]
def nE:List V:=[.str "keep",.str "same",.str "cut",.str "turn",.str "must"]
structure Ii(K:XO)(mg:Z2)(nm:Str)(a:Addr)(vs:List V):Prop where
 m:mg nm=some (.ref a)
 t:∀H,aJ K H a vs
theorem tI{x y:Str}:IH (.str x) (.str y)=decide (y=x):=by
 show(x==y)=_;by_cases h:x=y
 ·rw[h];simp
 ·rw[WT (λe=>h e.symm)];exact beq_false_of_ne h
def b9:Wk->Bool
 | .one _=>false
 |_=>true
def cC(s:Str):Bool:=inV (.str s) nE
theorem zR{x:Wk}:inV (.str x.nm) CK=b9 x:=by
 cases x with
 |one x=>cases x<;>(simp only[Wk.nm,W1.nm,b9];decide +kernel)
 |both p q=>simp only[Wk.nm,b9];decide +kernel
 |meet c d p q=>simp only[Wk.nm,b9];decide +kernel
theorem wu{us:List V}{a b:V}:fP (us++[a,b]) (some (-2)) none=[a,b]:=by
 unfold fP HT.dN;have hl:(us++[a,b]).length=us.length+2:=by simp
 rw[hl];show List.take (us.length+2-(if(-2:Int)<0 then((-2:Int)+((us.length+2:Nat):Int)).toNat else _)) (List.drop (if(-2:Int)<0 then((-2:Int)+((us.length+2:Nat):Int)).toNat else _) (us++[a,b]))=_;rw[Xu (by decide)];have:((-2:Int)+((us.length+2:Nat):Int)).toNat=us.length:=by omega
 rw[this,List.drop_left];simp
abbrev ij:Stmt:=top 2
theorem oG:ay ZC ZC (ar ij):=fs
theorem Md{n:Nat}{aB:Addr}(Cb:Ii K mg "BRANCHED" aB CK)(F:FA K mg "branches_of" ij) :
  bc bf P w K mg base 1 "branches_of" ZC (Ct n):=by
 refine F.ok oG λf cdv A outer s H vs Q E hr h=>?_;obtain⟨a,x,rfl,ha,q⟩:=h;refine⟨_,(av (eP (dj cu (az K (pv 0) ai) (cT (v:=.ref aB) rfl Cb.m rfl) rfl) (cq cU (pv 0) (cz (nq jT ai)) dm) (aH ah))),?_⟩;obtain⟨xs,h1⟩:=ha.first;refine⟨_,rfl,a,_,0,_,rfl,rfl,aJ.of h1,au (j:=0) rfl,aB,CK,rfl,.inr (Cb.t _),rfl,rfl,_,rfl,?_⟩;show if inV (.str x.nm) CK=true then _ else _
 rw[zR];cases x with
 |one x =>refine bF ⟨wR,λp hp=>q p [] _ (aj hp _) ⟨ag,rfl,λi a x e=>by cases e⟩⟩
 |both p q' =>
  cases n with
  |zero=>exact Xy ha
  |succ n =>
  obtain⟨b,c,bs,cs,h1,h2,h3⟩:=ha;refine b_ ⟨_,rfl,_,rfl,_,rfl,a,_,rfl,h1,λt H' s' ht=>?_⟩;rw[show [V.str "both",.ref b,.ref c]=[V.str "both"]++[.ref b,.ref c] from rfl,wu]at ht;refine q t [b,c] H' s' ⟨ht,rfl,λi a x e1 e2=>?_⟩;have k:=aD.of s';match i with
  | 0=>cases e1;cases e2;exact jP.keep k ⟨bs,h2⟩
  | 1=>cases e1;cases e2;exact jP.keep k ⟨cs,h3⟩
  |i+2=>cases e1
 |meet c d p q' =>
  cases n with
  |zero=>exact Xy ha
  |succ n =>
  obtain⟨b,e,bs,es,h1,h2,h3⟩:=ha;refine b_ ⟨_,rfl,_,rfl,_,rfl,a,_,rfl,h1,λt H' s' ht=>?_⟩;rw[show [V.str "meet",.int c,.int d,.ref b,.ref e]=[V.str "meet",.int c,.int d]++[.ref b,.ref e] from rfl,wu]at ht;refine q t [b,e] H' s' ⟨ht,rfl,λi a x e1 e2=>?_⟩;have k:=aD.of s';match i with
  | 0=>cases e1;cases e2;exact jP.keep k ⟨bs,h2⟩
  | 1=>cases e1;cases e2;exact jP.keep k ⟨es,h3⟩
  |i+2=>cases e1
def aE:Wk->Str
 | .one (.first n)=>if n<=0 then "first 0" else "first"
 |x=>x.nm
def yj(n:Nat):Sp:=λvs H Q _=>∃(a:Addr)(x:Wk),vs=[.ref a]/\dv n H a x/\Q (.str (aE x)) H
theorem lX{x:Wk}(h:x.nm="first"):∃n,x=.one (.first n):=by
 revert h;cases x with
 |one x=>cases x<;>simp only[Wk.nm,W1.nm]<;>first | (intro h;exact⟨_,rfl⟩) | (intro h;exact Xs h (by decide +kernel))
 |both p q=>simp only[Wk.nm];intro h;exact Xs h (by decide +kernel)
 |meet c d p q=>simp only[Wk.nm];intro h;exact Xs h (by decide +kernel)
theorem lU{x:Wk}(h:x.nm≠"first"):aE x=x.nm:=by
 cases x with
 |one x=>cases x<;>first|rfl|exact Xs rfl h
 |both p q=>rfl
 |meet c d p q=>rfl
abbrev iq:Stmt:=top 43
theorem qB:ay ZC ZC (ar iq):=fs
theorem Gi{n:Nat}(F:FA K mg "name_passed" iq) :
  bc bf P w K mg base 1 "name_passed" ZC (yj n):=by
 refine F.ok qB λf cdv A outer s H vs Q E hr h=>?_;obtain⟨a,x,rfl,ha,q⟩:=h;refine⟨_,(aN (PW.pt (mM (aX aQ (az K (pv 0) ai) ao) (jZ (aX C9 (az K (pv 0) ai) ai)))) ao
   (av (az K (pv 0) ai))),?_⟩
 obtain⟨xs,h1⟩:=ha.first;refine⟨_,rfl,a,_,0,_,rfl,rfl,aJ.of h1,au (j:=0) rfl,rfl,_,rfl,?_⟩;rw[bQ];by_cases e:x.nm="first"
 ·rw[WU e];obtain⟨m,rfl⟩:=lX e;have h1:H a=some (.tup [.str "first",.int m]):=cb.mp ha;refine b_ ⟨_,rfl,a,_,1,_,rfl,rfl,aJ.of h1,rfl,_,_,rfl,rfl,_,rfl,?_⟩;have q:Q (.str (if m<=0 then "first 0" else "first")) H:=q;refine cG (λk=>?_) (λk=>aG ?_)
  ·rw[Xu (Xr k)]at q;exact q
  ·rw[Xt (λz=>k (WU z))]at q;exact⟨_,rfl,a,_,0,_,rfl,rfl,aJ.of h1,rfl,q⟩
 ·rw[WT e];rw[lU e]at q;exact bF (bF (aG ⟨_,rfl,a,_,0,_,rfl,rfl,aJ.of h1,au (j:=0) rfl,q⟩))
structure Kn where
 hd:Hd
 ps:List Str
 lo:Bool
def gK(H:Hp)(a:Addr)(k:Kn):Prop:=∃h p,H a=some (.tup [.ref h,.ref p,.bl k.lo])/\eN H h k.hd/\eN H p k.ps
theorem gK.same{H H':Hp}{a:Addr}{k:Kn}(s:aM H H')(h:gK H a k):gK H' a k:=by obtain⟨u,p,h1,h2,h3⟩:=h;exact⟨u,p,s _ _ h1,s _ _ h2,s _ _ h3⟩
def jW:Wk->List Str->Bool
 | .one (.walk _ _),ps=>ps.all cC
 | .meet _ _ p q,_=>(p++q).all λw=>cC w.nm
 |_,_=>true
def Fw(x:Wk):Prop:=∀p∈cP x,p.length<=1000
def CH(n:Nat):Sp:=λvs H Q _=>∃(a b:Addr)(x:Wk)(k:Kn),vs=[.ref a,.ref b]/\dv n H a x/\gK H b k/\k.ps.length<=1000/\Fw x/\∀H',aM H H'->Q (.bl (jW x k.ps)) H'
theorem zD{x:Wk}(h:x.nm="walk"):∃c mv,x=.one (.walk c mv):=by
 revert h;cases x with
 |one x=>cases x<;>simp only[Wk.nm,W1.nm]<;>first | (intro h;exact⟨_,_,rfl⟩) | (intro h;exact Xs h (by decide +kernel))
 |both p q=>simp only[Wk.nm];intro h;exact Xs h (by decide +kernel)
 |meet c d p q=>simp only[Wk.nm];intro h;exact Xs h (by decide +kernel)
theorem i4{x:Wk}(h:x.nm="meet"):∃c d p q,x=.meet c d p q:=by
 revert h;cases x with
 |one x=>cases x<;>simp only[Wk.nm,W1.nm]<;>(intro h;exact Xs h (by decide +kernel))
 |both p q=>simp only[Wk.nm];intro h;exact Xs h (by decide +kernel)
 |meet c d p q=>intro h;exact⟨_,_,_,_,rfl⟩
theorem ES{x:Wk}{ps:List Str}(h:x.nm≠"walk")(h2:x.nm≠"meet"):jW x ps=true:=by
 cases x with
 |one x=>cases x<;>first|rfl|exact Xs rfl h
 |both p q=>rfl
 |meet c d p q=>exact Xs rfl h2
abbrev kN:Stmt:=top 44
theorem vS:ay ZQ ZQ (ar kN):=fs
theorem x9{n:Nat}{aO:Addr}(B2:iY mg)(Co:Ii K mg "ONE_ROW" aO nE)(F:FA K mg "rows_fit" kN)
  (ig:bc bf P w K mg base 1 "branches_of" ZC (Ct n)) :
  bc bf P w K mg base 2 "rows_fit" ZQ (CH n):=by
 refine F.ok vS λf cdv A outer s H vs Q E hr h=>?_;have hu:=iO hr;obtain⟨a,b,x,k,rfl,ha,hk,hps,Jb,q⟩:=h;refine⟨_,(aN (aX aQ (az K (pv 0) ai) ao) (aW (iK rfl) rfl B2.all PyProof.Rows.boot_all (ae (bz (N':=["name"]) (src:=[none]) rfl (ba.j5 (by kernel_rfl)) (cL (az K (pv 1) ai)) (λcl C s H fp=>(eE (i:=0))) (λcl C s H fp=>aY) (te:=(hZ (Jr K false) (bB 0) (tC (.ref aO)))) (λcl C s H fp=>(f_ cu (ji 0) (cT (v:=.ref aO) xS Co.m rfl) rfl))) ah))
   (aN (aX aQ (az K (pv 0) ai) ao) (aW (iK rfl) rfl B2.all PyProof.Rows.boot_all (ae (rB (N':=["branch","inner"]) (src:=[none,none]) rfl (ba.j5 (by kernel_rfl)) (cL (ax ig hr (ae (pv 0) ah))) (λcl C s H fp=>(eE (i:=0))) (λcl C s H fp=>aY) (wi2:=(HY K (bB 0))) (λcl C s H fp=>(cL (ji 0))) (λcl C s H fp=>(eE (i:=1))) (λcl C s H fp=>aY) (te:=(hZ (Jr K false) (hZ (sY K) (bB 1) (tC (.int 0))) (tC (.ref aO)))) (λcl C s H fp=>(f_ cu (az K (ji 1) ai) (cT (v:=.ref aO) xS Co.m rfl) rfl))) ah))
   (av eA))),?_⟩
 obtain⟨xs,h1⟩:=ha.first;refine⟨_,rfl,a,_,0,_,rfl,rfl,aJ.of h1,au (j:=0) rfl,rfl,_,rfl,?_⟩;rw[bQ];by_cases e:x.nm="walk"
 ·rw[WU e];obtain⟨c,mv,rfl⟩:=zD e;obtain⟨hh,p,hk1,hk2,hk3⟩:=hk;refine b_ ⟨_,rfl,b,_,1,_,rfl,rfl,aJ.of hk1,rfl,p,rfl,⟨_,aJ.of hk3⟩,λD hD=>?_⟩;refine cF (xs:=k.ps.map V.str) (λi σ ys H'=>(∃o,σ=[o])/\ys=((k.ps.take i).map cC).map V.bl/\ys.length=i/\H' D=some (.lst ys)/\aM H H') ⟨⟨none,rfl⟩,rfl,rfl,ag,aj hD _⟩ ?_ ?_ ?_ ?_ ?_
  ·rintro i σ ys H' _ ⟨_,_,hi,h,_⟩;exact⟨h,XF hi⟩
  ·rintro i σ ys H' _ ⟨_,_,_,_,sm⟩;exact aJ.of (sm _ _ hk3)
  ·rw[WV];exact WS hps (by decide)
  ·rintro i v σ ys H' hv ⟨⟨o,rfl⟩,rfl,hi,h,sm⟩;rw[Xi]at hv;cases ec:k.ps[i]? with
   |none=>rw[ec]at hv;cases hv
   |some s0 =>
    rw[ec]at hv;have hv:V.str s0=v:=Xf hv;subst hv;refine⟨_,rfl,aO,nE,rfl,.inr (Co.t _),rfl,rfl,h,⟨_,rfl⟩,?_,?_,ag,bu hD sm⟩
    ·rw[take_one ec,WX,WX];rfl
    ·rw[WW,hi];rfl
  ·rintro σ ys H' ⟨_,rfl,_,h,sm⟩;rw[WV,Xx]at h;refine⟨D,_,rfl,aZ.of h,?_⟩;rw[show(k.ps.map cC).all id=k.ps.all cC by rw[List.all_map];rfl];exact q H' sm
 ·rw[WT e];refine bF (aG ⟨_,rfl,a,_,0,_,rfl,rfl,aJ.of h1,au (j:=0) rfl,rfl,_,rfl,?_⟩);rw[bQ];by_cases e2:x.nm="meet"
  ·rw[WU e2];obtain⟨c,d,p1,p2,rfl⟩:=i4 e2;refine b_ ⟨_,rfl,a,_,rfl,ha,λu bs H1 s1 hI=>⟨u,rfl,⟨_,aJ.of hI.tup⟩,λD hD=>?_⟩⟩;let ws:Nat->List Wk:=λi=>(([p1,p2]:List (List Wk)).take i).flatten
   have hw1:p1.length<=1000:=Jb p1 (by simp[cP]);have hw2:p2.length<=1000:=Jb p2 (by simp[cP]);have hlb:(bs.map V.ref).length=2:=by rw[WV,hI.len];rfl
   have hws:∀i,(ws i).length<=2000:=by
    intro i;match i with
    | 0=>exact Xe _
    | 1=>show(p1++[]).length<=_;rw[XC];omega
    |i+2=>show((p1::p2::List.take i []).flatten).length<=_;rw[List.take_nil];show(p1++(p2++[])).length<=_;rw[XC,WW];omega
   refine rD (xs:=bs.map V.ref) (λi σ ys H'=>(∃o1 o2,σ=[o1,o2])/\ys=(ws i).map (λw=>V.bl (cC w.nm))/\H' D=some (.lst ys)/\aM H1 H') ⟨⟨none,none,rfl⟩,rfl,ag,aj hD _⟩ ?_ ?_ ?_ ?_
   ·rintro i σ ys H' _ ⟨_,_,h,_⟩;exact h
   ·rintro i σ ys H' _ ⟨_,_,_,sm⟩;exact aJ.of (sm _ _ hI.tup)
   ·rintro i v σ ys H' hv ⟨⟨o1,o2,rfl⟩,rfl,h,sm⟩;obtain⟨b',pp,rfl,ep,cs,hJ⟩:=hI.get hv;have hpl:pp.length<=1000:=Jb pp (W4 ep);refine ak ⟨_,rfl,b',rfl,⟨_,aJ.of (sm _ _ hJ.tup)⟩,?_⟩;refine mL (xs:=cs.map V.ref) (λj σ zs H2=>(∃o,σ=[some (.ref b'),o])/\zs=(ws i).map (λw=>V.bl (cC w.nm))++(pp.take j).map (λw=>V.bl (cC w.nm))/\H2 D=some (.lst zs)/\aM H1 H2) ⟨⟨o2,rfl⟩,by rw[List.take_zero,List.map_nil,XC],h,sm⟩ ?_ ?_ ?_ ?_
    ·rintro j σ zs H2 hj ⟨_,rfl,h2,_⟩;refine⟨h2,λ_=>?_⟩;rw[WW,WV,WV,Xj];have:=hws i;exact WY (show _<=3000 by omega) (by decide)
    ·rintro j σ zs H2 _ ⟨_,_,_,s2⟩;exact aJ.of (s2 _ _ hJ.tup)
    ·rintro j v2 σ zs H2 hu' ⟨⟨o,rfl⟩,rfl,h2,s2⟩;obtain⟨c',wk,rfl,ew,hW⟩:=hJ.get hu';obtain⟨ys',hW⟩:=hW.first;refine ak ⟨_,rfl,c',_,0,_,rfl,rfl,aJ.of (s2 _ _ hW),au (j:=0) rfl,aO,nE,rfl,.inr (Co.t _),rfl,rfl,h2,⟨_,rfl⟩,?_,ag,bu hD s2⟩;rw[take_one ew,WX,List.append_assoc];rfl
    ·rintro σ zs H2 ⟨⟨o,rfl⟩,rfl,h2,s2⟩;refine⟨⟨_,_,rfl⟩,?_,h2,s2⟩;rw[WV,hJ.len,Xx,←WX];congr 1;show _=((cP (.meet c d p1 p2)).take (i+1)).flatten;rw[take_one ep,List.flatten_append];show _=_++(pp++[]);rw[XC];rfl
   ·rintro σ ys H' ⟨_,rfl,h,sm⟩;rw[hlb]at h;refine⟨D,(p1++p2).map λw=>cC w.nm,rfl,aZ.of ?_,?_⟩
    ·rw[h,List.map_map];show some (HO.lst ((p1++(p2++[])).map _))=_;rw[XC];rfl
    ·rw[List.all_map];exact q H' (s1.trans sm)
  ·rw[WT e2];rw[ES e e2]at q;exact bF (aG (q H (aM.refl _)))
theorem rW(ss:List Str):(ss.map V.str).all fK=true:=by rw[List.all_eq_true];intro v hv;obtain⟨s,_,rfl⟩:=W_.mp hv;rfl
def ly(ps:List Str)(s:Str):Bool:=inV (.str s) (ps.map V.str)
theorem G_{ps:List Str}{s:Str}:ly ps s=true↔s∈ps:=by
 unfold ly inV;rw[List.any_eq_true];constructor
 ·rintro⟨v,hv,e⟩;obtain⟨t,ht,rfl⟩:=W_.mp hv;rw[tI]at e;rw[Xr e];exact ht
 ·intro h;exact⟨.str s,W_.mpr ⟨s,h,rfl⟩,by rw[tI];exact WU rfl⟩
def fu:Wk->Kn->Bool
 | .one (.keep c _),k=>decide (bx k.hd c="t")
 | .one (.first n),k=>decide (¬n<=0)&&(ly k.ps "walk"||ly k.ps "both"||ly k.ps "meet")
 | .meet ..,k=>ly k.ps "walk"||ly k.ps "first"
 |_,_=>false
def keepIn(x:Wk)(h:Hd):Prop:=∀c t,x=.one (.keep c t)->1<=c/\c<=h.length
def zo(n:Nat):Sp:=λvs H Q _=>∃(a b:Addr)(x:Wk)(k:Kn),vs=[.ref a,.ref b]/\dv n H a x/\gK H b k/\keepIn x k.hd/\∀H',aM H H'->Q (.bl (fu x k)) H'
theorem tS{x:Wk}(h:x.nm="keep"):∃c t,x=.one (.keep c t):=by
 revert h;cases x with
 |one x=>cases x<;>simp only[Wk.nm,W1.nm]<;>first | (intro h;exact⟨_,_,rfl⟩) | (intro h;exact Xs h (by decide +kernel))
 |both p q=>simp only[Wk.nm];intro h;exact Xs h (by decide +kernel)
 |meet c d p q=>simp only[Wk.nm];intro h;exact Xs h (by decide +kernel)
theorem qd{x:Wk}:aE x="first"↔∃n,¬n<=(0:Int)/\x=.one (.first n):=by
 constructor
 ·intro h;by_cases e:x.nm="first"
  ·obtain⟨n,rfl⟩:=lX e;refine⟨n,λz=>?_,rfl⟩;have h:(if n<=0 then("first 0" : Str)else "first")="first":=h;rw[Xu z]at h;exact Xs h (by decide +kernel)
  ·rw[lU e]at h;exact Xs h e
 ·rintro⟨n,h,rfl⟩;show(if n<=0 then("first 0" : Str)else "first")="first";rw[Xt h]
theorem Bz{x:Wk}{k:Kn}(h1:x.nm≠"keep")(h2:aE x≠"first")(h3:x.nm≠"meet"):fu x k=false:=by
 match x with
 | .one (.keep _ _)=>exact Xs rfl h1
 | .one (.first n) =>
  have:n<=0:=by
   by_cases z:n<=0
   ·exact z
   ·exact Xs (qd.mpr ⟨n,z,rfl⟩) h2
  show(decide (¬n<=0)&&_)=false;rw[WT (λz=>z this)];rfl
 | .meet ..=>exact Xs rfl h3
 | .both ..=>rfl
 | .one (.same ..)=>rfl
 | .one (.cut ..)=>rfl
 | .one (.turn ..)=>rfl
 | .one (.must ..)=>rfl
 | .one (.walk ..)=>rfl
 | .one (.sort ..)=>rfl
 | .one .apart=>rfl
 | .one (.count ..)=>rfl
 | .one (.sum ..)=>rfl
 | .one .number=>rfl
abbrev iw:Stmt:=top 46
theorem eJ:ay ["worker","known","head","passed","loose"] ZQ (ar iw):=fs
theorem Cu{n:Nat}{tk:Tok}(B3:A0 mg)(mT:mg "TALLY"=some (.str "t" tk))(F:FA K mg "makes_loose" iw)
  (ie:bc bf P w K mg base 1 "name_passed" ZC (yj n)) :
  bc bf P w K mg base 2 "makes_loose" ZQ (zo n):=by
 refine F.ok eJ λf cdv A outer s H vs Q E hr h=>?_;have hu:=iO hr;have hu1:=jD hr;obtain⟨a,b,x,k,rfl,ha,hk,hkp,q⟩:=h;refine⟨_,(aq (pC (pv 1) (cA rfl (aA (bJ (i:=2) eJ.nd rfl (Xw rfl)) (aA (bJ (i:=3) eJ.nd rfl (Or.inr rfl)) (aA (bJ (i:=4) eJ.nd rfl (Xw rfl)) bT)))))
   (aN (aX aQ (az K (pv 0) ai) ao) (bY aQ (az K (pv 2) (aF bM (az K (pv 0) ai) ai)) (cT (v:=.str "t") rfl mT ⟨_,rfl⟩))
   (aN (aX aQ (ax ie hr (ae (pv 0) ah)) ao) (aW (l9 rfl) rfl B3.any PyProof.Rows.boot_any (ae (bz (N':=["name","passed"]) (src:=[none,some 3]) rfl (ba.j5 (by kernel_rfl)) (cL (aH (ae ao (ae ao (ae ao ah))))) (λcl C s H fp=>(eE (i:=0))) (λcl C s H fp=>aY) (te:=(hZ (Jr K false) (bB 0) (bB 1))) (λcl C s H fp=>(f_ cu (ji 0) (Ae 1) rfl))) ah))
   (aN (aX aQ (az K (pv 0) ai) ao) (aW (l9 rfl) rfl B3.any PyProof.Rows.boot_any (ae (bz (N':=["name","passed"]) (src:=[none,some 3]) rfl (ba.j5 (by kernel_rfl)) (cL (aH (ae ao (ae ao ah)))) (λcl C s H fp=>(eE (i:=0))) (λcl C s H fp=>aY) (te:=(hZ (Jr K false) (bB 0) (bB 1))) (λcl C s H fp=>(f_ cu (ji 0) (Ae 1) rfl))) ah))
   (av eA))))),?_⟩
 obtain⟨xs,h1⟩:=ha.first;obtain⟨hh,p,hk1,hk2,hk3⟩:=hk;refine⟨_,rfl,b,_,rfl,aJ.of hk1,rfl,_,_,rfl,ak ⟨_,_,rfl,ak ⟨_,_,rfl,ak ⟨rfl,?_⟩⟩⟩⟩;dsimp only;refine⟨_,rfl,a,_,0,_,rfl,rfl,aJ.of h1,au (j:=0) rfl,rfl,_,rfl,?_⟩;rw[bQ];by_cases e:x.nm="keep"
 ·rw[WU e];obtain⟨c,t,rfl⟩:=tS e;obtain⟨st,ys,hx1,hx2⟩:=cb.mp ha;refine b_ ⟨_,rfl,_,rfl,a,_,1,_,rfl,rfl,aJ.of hx1,rfl,_,_,rfl,rfl,hh,_,_,_,rfl,rfl,aJ.of hk2,dF (hkp c t rfl),rfl,?_⟩;rw[bQ];exact q H (aM.refl _)
 rw[WT e];refine bF (aG ⟨_,rfl,a,x,rfl,ha,rfl,_,rfl,?_⟩);rw[bQ];by_cases e2:aE x="first"
 ·rw[WU e2];obtain⟨m,hm,rfl⟩:=qd.mp e2;refine b_ ⟨f9,λu hu=>?_⟩;have su:=aj hu (.tup [V.str "walk",.str "both",.str "meet"]);have hu1:upd H u (.tup [V.str "walk",.str "both",.str "meet"]) u=_:=ag;revert su hu1;generalize upd H u (.tup [V.str "walk",.str "both",.str "meet"])=H1;intro su hu1;refine⟨u,rfl,⟨_,aJ.of hu1⟩,λD hD=>?_⟩;refine cF (xs:=(["walk","both","meet"]:List Str).map V.str) (λi σ ys H'=>(∃o,σ=[o,some (.ref p)])/\ys=(((["walk","both","meet"]:List Str).take i).map (ly k.ps)).map V.bl/\ys.length=i/\H' D=some (.lst ys)/\aM H1 H') ⟨⟨none,rfl⟩,rfl,rfl,ag,aj hD _⟩ ?_ ?_ ?_ ?_ ?_
  ·rintro i σ ys H' _ ⟨_,_,hi,h,_⟩;exact⟨h,XF hi⟩
  ·rintro i σ ys H' _ ⟨_,_,_,_,sm⟩;exact aJ.of (sm _ _ hu1)
  ·decide
  ·rintro i v σ ys H' hv ⟨⟨o,rfl⟩,rfl,hi,h,sm⟩;rw[Xi]at hv;cases ec:(["walk","both","meet"]:List Str)[i]? with
   |none=>rw[ec]at hv;cases hv
   |some s0 =>
    rw[ec]at hv;have hv:V.str s0=v:=Xf hv;subst hv;refine⟨_,rfl,_,rfl,p,_,rfl,.inr (aJ.of (sm _ _ (su _ _ hk3))),rfl,rW _,h,⟨_,rfl⟩,?_,?_,ag,bu hD sm⟩
    ·rw[take_one ec,WX,WX];rfl
    ·rw[WW,hi];rfl
  ·rintro σ ys H' ⟨_,rfl,_,h,sm⟩;refine⟨D,_,rfl,aZ.of h,?_⟩;have q:=q H' (su.trans sm);have q:Q (.bl (decide (¬m<=0)&&(ly k.ps "walk"||ly k.ps "both"||ly k.ps "meet"))) H':=q;rw[WU hm,Bool.true_and]at q;show Q (.bl (ly k.ps "walk"||(ly k.ps "both"||(ly k.ps "meet"||false)))) H';rw[Bool.or_false,←Bool.or_assoc];exact q
 rw[WT e2];refine bF (aG ⟨_,rfl,a,_,0,_,rfl,rfl,aJ.of h1,au (j:=0) rfl,rfl,_,rfl,?_⟩);rw[bQ];by_cases e3:x.nm="meet"
 ·rw[WU e3];obtain⟨c,d,p1,p2,rfl⟩:=i4 e3;refine b_ ⟨cN,λu hu=>?_⟩;have su:=aj hu (.tup [V.str "walk",.str "first"]);have hu1:upd H u (.tup [V.str "walk",.str "first"]) u=_:=ag;revert su hu1;generalize upd H u (.tup [V.str "walk",.str "first"])=H1;intro su hu1;refine⟨u,rfl,⟨_,aJ.of hu1⟩,λD hD=>?_⟩;refine cF (xs:=(["walk","first"]:List Str).map V.str) (λi σ ys H'=>(∃o,σ=[o,some (.ref p)])/\ys=(((["walk","first"]:List Str).take i).map (ly k.ps)).map V.bl/\ys.length=i/\H' D=some (.lst ys)/\aM H1 H') ⟨⟨none,rfl⟩,rfl,rfl,ag,aj hD _⟩ ?_ ?_ ?_ ?_ ?_
  ·rintro i σ ys H' _ ⟨_,_,hi,h,_⟩;exact⟨h,XF hi⟩
  ·rintro i σ ys H' _ ⟨_,_,_,_,sm⟩;exact aJ.of (sm _ _ hu1)
  ·decide
  ·rintro i v σ ys H' hv ⟨⟨o,rfl⟩,rfl,hi,h,sm⟩;rw[Xi]at hv;cases ec:(["walk","first"]:List Str)[i]? with
   |none=>rw[ec]at hv;cases hv
   |some s0 =>
    rw[ec]at hv;have hv:V.str s0=v:=Xf hv;subst hv;refine⟨_,rfl,_,rfl,p,_,rfl,.inr (aJ.of (sm _ _ (su _ _ hk3))),rfl,rW _,h,⟨_,rfl⟩,?_,?_,ag,bu hD sm⟩
    ·rw[take_one ec,WX,WX];rfl
    ·rw[WW,hi];rfl
  ·rintro σ ys H' ⟨_,rfl,_,h,sm⟩;refine⟨D,_,rfl,aZ.of h,?_⟩;have q:=q H' (su.trans sm);have q:Q (.bl (ly k.ps "walk"||ly k.ps "first")) H':=q;show Q (.bl (ly k.ps "walk"||(ly k.ps "first"||false))) H';rw[Bool.or_false];exact q
 rw[WT e3];rw[Bz e e2 e3]at q;exact bF (aG (q H (aM.refl _)))
def jz:Wk->Bool
 | .one (.must ..)=>true
 |_=>false
def tD(x:Wk)(k:Kn)(hs:List Hd):Option Str :=
 if dk x hs=true then
  if bg x hs=true then
   if(bK x hs).length<=6 then
    if jW x k.ps=true then
     if(jz x&&k.lo)=true then some "loose" else none
    else some "rows"
   else some "wide"
  else some "sort"
 else some "column"
def wV:Option Str->V
 |none=>.non
 |some s=>.str s
structure Bq(x:Wk):Prop where
 sm:kP x
 good:goodW x
 ne:RX x
 wide:Fw x
def IZ(n:Nat):Sp:=λvs H Q _=>∃(a b l:Addr)(x:Wk)(k:Kn)(as:Z8)(hs:List Hd),vs=[.ref a,.ref b,.ref l]/\dv n H a x/\gK H b k/\gy H l as hs/\hs.length=C8 x/\Bq x/\k.ps.length<=1000/\(∀h∈hs,h.length<=1000)/\∀H',aM H H'->Q (wV (tD x k hs)) H'
theorem zp{x:Wk}:decide (x.nm="must")=jz x:=by
 cases x with
 |one x=>cases x<;>(simp only[Wk.nm,W1.nm,jz];first|exact WU rfl|decide +kernel|exact WT (by decide +kernel))
 |both p q=>simp only[Wk.nm,jz];exact WT (by decide +kernel)
 |meet c d p q=>simp only[Wk.nm,jz];exact WT (by decide +kernel)
abbrev mI:Stmt:=top 45
theorem xq:ay ["worker","known","heads"] ["worker","known","heads"] (ar mI):=fs
theorem Bk{n:Nat}(B:kf mg){tw:Tok}(mW:mg "WIDEST_ROW"=some (.int 6 tw))(F:FA K mg "why_not" mI)
  (ra:bc bf P w K mg base 2 "columns_fit" Z9 (dH n dk λ_ _=>True))
  (wj:bc bf P w K mg base 4 "sorts_fit" Z9 (dH n bg (qK λ_=>True)))
  (jF:bc bf P w K mg base 3 "head_told" Z9 (dB n λ_=>True))
  (yX:bc bf P w K mg base 2 "rows_fit" ZQ (CH n)) :
  bc bf P w K mg base 5 "why_not" ["worker","known","heads"] (IZ n):=by
 refine F.ok xq λf cdv A outer s H vs Q E hr h=>?_;have hu:=iO hr;obtain⟨a,b,l,x,k,as,hs,rfl,ha,hk,hL,hn,hok,hps,TR,q⟩:=h;refine⟨_,(aN (uP (e_ (ax ra hr (ae (pv 0) (ae (pv 2) ah))))) ao
   (aN (uP (e_ (ax wj hr (ae (pv 0) (ae (pv 2) ah))))) ao
   (aN (aX iC (aW bt rfl B.len XM (ae (ax jF hr (ae (pv 0) (ae (pv 2) ah))) ah)) (cT (v:=.int 6) rfl mW ⟨_,rfl⟩)) ao
   (aN (uP (e_ (ax yX hr (ae (pv 0) (ae (pv 1) ah))))) ao
   (aN (PW.pt (mM (aX aQ (az K (pv 0) ai) ao) (jZ (e_ (az K (pv 1) ai))))) ao
   (av jg)))))),?_⟩
 unfold tD at q;refine⟨_,rfl,_,rfl,a,l,x,as,hs,rfl,ha,hL,hn,hok.sm,trivial,λH1 s1=>⟨_,rfl,?_⟩⟩;by_cases e1:dk x hs=false
 ·rw[e1];rw[Xt (by rw[e1];decide)]at q;exact b_ (q H1 s1)
 have e1:dk x hs=true:=by simpa using e1
 rw[e1];rw[Xu e1]at q;have ha1:=ha.keep (aD.of s1);refine bF (aG ⟨_,rfl,_,rfl,a,l,x,as,hs,rfl,ha1,hL.same s1,hn,hok.sm,⟨trivial,e1,hok.good⟩,λH2 s2=>⟨_,rfl,?_⟩⟩);have s12:=s1.trans s2;by_cases e2:bg x hs=false
 ·rw[e2];rw[Xt (by rw[e2];decide)]at q;exact b_ (q H2 s12)
 have e2:bg x hs=true:=by simpa using e2
 rw[e2];rw[Xu e2]at q;have ha2:=ha.keep (aD.of s12);refine bF (aG ⟨_,rfl,_,rfl,a,l,x,as,hs,rfl,ha2,hL.same s12,hn,hok.sm,⟨trivial,e1,hok.good,hok.ne,TR⟩,λu H3 s3 hu=>?_⟩);have qI:=s12.trans s3;refine⟨u,_,rfl,.inr (aJ.of hu),_,_,rfl,rfl,_,rfl,?_⟩;rw[WV];by_cases e3:¬(bK x hs).length<=6
 ·rw[Xt e3]at q;rw[WU (show(6:Int)<((bK x hs).length:Nat) by omega)];exact b_ (q H3 qI)
 have e3:(bK x hs).length<=6:=by omega
 rw[Xu e3]at q;rw[WT (show¬(6:Int)<((bK x hs).length:Nat) by omega)];have ha3:=ha.keep (aD.of qI);refine bF (aG ⟨_,rfl,_,rfl,a,b,x,k,rfl,ha3,hk.same qI,hps,hok.wide,λH4 s4=>⟨_,rfl,?_⟩⟩);have qW:=qI.trans s4;by_cases e4:jW x k.ps=false
 ·rw[e4];rw[Xt (by rw[e4];decide)]at q;exact b_ (q H4 qW)
 have e4:jW x k.ps=true:=by simpa using e4
 rw[e4];rw[Xu e4]at q;have Uj:=ha.keep (aD.of qW);obtain⟨xs,h1⟩:=Uj.first;refine bF (aG ⟨_,rfl,a,_,0,_,rfl,rfl,aJ.of h1,au (j:=0) rfl,rfl,_,rfl,?_⟩);rw[bQ,zp];cases e5:jz x with
 |false =>rw[e5]at q;exact bF (bF (aG (q H4 qW)))
 |true =>
  rw[e5,Bool.true_and]at q;obtain⟨hh,p,hk1,_⟩:=hk.same qW;refine b_ ⟨_,rfl,b,_,2,_,rfl,rfl,aJ.of hk1,rfl,_,rfl,?_⟩;refine cG (λz=>?_) (λz=>aG ?_)
  ·rw[Xu z]at q;exact q H4 qW
  ·rw[Xt z]at q;exact q H4 qW
end My
namespace L2
open PySem PySem.Spec PyProof.Rows
section
variable{X:Cx}{N':List Str}{src:List (Option Nat)}{sc:Scope}{elt t1 i1 t2 i2:Expr}{f1 f2:List Expr}{pos:Pos}{wi wi2:TI}{g g2:TG}{tc tZ:TT}{te:TE}
theorem wU{i:Nat}{x:Str}{pos' spos:Pos}(hN:X.N.Nodup)(hi':X.N[i]? = some x)(hx:Loc X.env.scope x)(hsw:swapsWith (qO elt t1 i1 f1 t2 i2 f2 sc pos) (some (.Name x pos')) spos.line X.env=pure true)
  (hc:X.calm=true) (S:ba X.env.scope X.N N' src sc) (hi:PI X t1 i1 wi)
  (hg:∀cl C s H fp,PG (aL X N' sc cl C s H fp) t1 g) (ht:∀cl C s H fp,jn (aL X N' sc cl C s H fp) f1 tc)
  (hi2:∀cl C s H fp,PI (aL X N' sc cl C s H fp) t2 i2 wi2) (hg2:∀cl C s H fp,PG (aL X N' sc cl C s H fp) t2 g2) (GF:∀cl C s H fp,jn (aL X N' sc cl C s H fp) f2 tZ)
  (he:∀cl C s H fp,PE (aL X N' sc cl C s H fp) elt te)
  (hf:X.fn x=true\/X.env.scope.names.lookup x=some .local:=by first|exact .inl rfl|exact .inr rfl|assumption)
  (hs:∀x,foldedSetIterable i1 X.env x=pure x:=by intro _;rfl) (hs2:∀(env:Env) x,foldedSetIterable i2 env x=pure x:=by intro _ _;rfl) :
  PS X (.Assign [.Name x pos'] (qO elt t1 i1 f1 t2 i2 f2 sc pos) spos) (CJ (Dn src wi g tc wi2 g2 tZ te) (bC i)):=by
 intro ac s σ H D I h;rw[exec_Assign_Name_used _ _ _ _ hsw];refine WL (wpAny_standAt (WL ?_));show wpAny _ _ (comprehension _ _ _ _ _ _ _ _ >>= _) _ _ s;refine WL (wpAny_comprehension_free (use:=some (assign (.Name x pos') X.env)) rfl hs (c7 λy hy hk=>I.ok.has y.1 (S.free y hy hk)) S.kind (λy hy hl=>by rw[←hl];exact S.uniq y hy) ?_);refine bZ (hi ac s σ H _ I h) λv s1 h1=>bZ h1 λitv s2 h2=>?_;obtain⟨it,fp,tn,J,H2,e,I2,T,st2,Mt,hW⟩:=h2;subst e;refine mY (Q:=λy H'=>D.nx (σ.set i (some y)) H') (RR:=λacc C=>compPost (model X.prog X.w) X.A X.xe (some (assign (.Name x pos') X.env)) _ acc C) hc S hg ht hi2 hg2 GF he hs2 I2 T st2 Mt hW ?_;intro D' C s5 H' m I5 n5 fC q;refine wpAny_assign_Name (mz I5 hN hi' hx (show RelV (.ref D') (.ref D') from rfl) (λs6 I6 hsb=>?_) hf);obtain⟨a,sb,ha⟩:=hsb;have RA:C≠a:=by
  rcases ha with z|z
  ·rw[z];exact fC.2.1
  ·exact λe=>fC.2.2.2.2.1 x a z e.symm
 refine⟨m,n5.sameBut sb RA,λh' Rr=>?_⟩;refine WM (WM ?_);exact⟨_,H',I6.turned (t':=s6.toks) (λb o hb e=>(Rr.2 b hb).trans e) fC.1 fC.2.1 fC.2.2.2.1 fC.2.2.2.2.1 fC.2.2.2.2.2,q⟩
end
end L2
namespace My
open PySem L2
structure jK(H:Hp)(l:Addr)(as:Z8)(ks:List Kn):Prop where
 lst:H l=some (.lst (as.map V.ref))
 len:as.length=ks.length
 at_:∀(i:Nat) a k,as[i]? = some a->ks[i]? = some k->gK H a k
theorem jK.same{H H':Hp}{l:Addr}{as:Z8}{ks:List Kn}(s:aM H H')(h:jK H l as ks):jK H' l as ks:=⟨s _ _ h.lst,h.len,λi a k e1 e2=>(h.at_ i a k e1 e2).same s⟩
theorem jK.get{H:Hp}{l:Addr}{as:Z8}{ks:List Kn}(h:jK H l as ks){i:Nat}{x:V}(hx:(as.map V.ref)[i]? = some x):∃(a:Addr)(k:Kn),x=.ref a/\ks[i]? = some k/\gK H a k:=by
 rw[Xi]at hx;cases e:as[i]? with
 |none=>rw[e]at hx;cases hx
 |some b =>
  rw[e]at hx;have hx':V.ref b=x:=Xf hx;subst hx';have hi:i<ks.length:=by rw[←h.len];exact(W8.mp e).1
  have er:ks[i]? = some ks[i]:=W0 hi;exact⟨b,ks[i],rfl,er,h.at_ i b _ e er⟩
def AI(ps ns:List Str):Prop:=ps.Pairwise wZ/\∀s,s∈ps↔s∈ns
def kj(ks:List Kn):List Hd:=ks.map λk=>k.hd
structure Q1(x:Wk)(k:Kn)(ks:List Kn):Prop where
 n:ks.length=C8 x
 ok:Bq x
 fit:dk x (kj ks)=true
 keep:keepIn x k.hd
 hd:∀k∈ks,k.hd.length<=1000
 ps:∀k∈ks,k.ps.length<=20
def vt(n:Nat):Sp:=λvs H Q _=>∃(a b l:Addr)(x:Wk)(k:Kn)(as:Z8)(ks:List Kn),vs=[.ref a,.ref b,.ref l]/\dv n H a x/\gK H b k/\jK H l as ks/\Q1 x k ks/\
 ∀(u:Addr)(k':Kn)(H':Hp),aM H H'->gK H' u k'->k'.hd=bK x (kj ks)->AI k'.ps (ks.flatMap (λk=>k.ps)++[aE x])->k'.lo=(fu x k||ks.any λk=>k.lo)->Q (.ref u) H'
theorem EG{x:Wk}:C8 x<=2:=by cases x<;>simp[C8]
theorem Ed{ks:List Kn}{m:Nat}(hl:ks.length<=m)(h:∀k∈ks,k.ps.length<=20):(ks.flatMap λk=>k.ps).length<=20*m:=by
 induction ks generalizing m with
 |nil=>exact Xe _
 |cons k ks ih =>rw[List.flatMap_cons,WW];have h1:=h k (by simp);have h2:=ih (m:=m-1) (by simp at hl;omega) λk hk=>h k (by simp[hk]);simp at hl;omega
theorem Ai{H:Hp}{D:Addr}{ks:List Kn}{bs:Z8}(h:H D=some (.lst (bs.map V.ref)))(hl:bs.length=ks.length)(ha:∀(i:Nat) a k,bs[i]? = some a->ks[i]? = some k->eN H a k.hd):gy H D bs (kj ks):=by
 refine⟨h,by rw[hl,kj,WV],λi a r e1 e2=>?_⟩;rw[kj,Xi]at e2;cases ek:ks[i]? with
 |none=>rw[ek]at e2;cases e2
 |some k =>rw[ek]at e2;cases e2;exact ha i a k e1 ek
abbrev gw:Stmt:=top 47
theorem jj:ay ["worker","known","told","names"] ["worker","known","told"] (ar gw):=fs
variable{P:Program}{w:World}{K:XO}{mg:Z2}{base:Heap}
theorem A4{n:Nat}(B:kf mg)(B2:iY mg)(B3:A0 mg)(F:FA K mg "known_behind" gw)
  (jF:bc bf P w K mg base 3 "head_told" Z9 (dB n λ_=>True))
  (ie:bc bf P w K mg base 1 "name_passed" ZC (yj n))
  (rn:bc bf P w K mg base 2 "makes_loose" ZQ (zo n)) :
  bc bf P w K mg base 4 "known_behind" ["worker","known","told"] (vt n):=by
 refine F.ok jj λf cdv A outer s H vs Q E hr h=>?_;have hu:=iO hr;have hu1:=jD hr;obtain⟨a,b,l,x,k,as,ks,rfl,ha,hk,hL,ho,q⟩:=h;refine⟨_,(aq (wU (i:=3) (N':=["head","passed","loose","name"]) (src:=[none,none,none,none]) jj.nd rfl (Xw rfl) rfl rfl (ba.j5 (by kernel_rfl)) (dX (pv 2)) (g:=(ja K 3 (bS (bC 0) (bS (bC 1) (bS (bC 2) i5))))) (λcl C s H fp=>(cA rfl (aA (eE (i:=0)) (aA (eE (i:=1)) (aA (eE (i:=2)) bT))))) (λcl C s H fp=>aY) (wi2:=(HY K (bB 1))) (λcl C s H fp=>(cL (ji 1))) (λcl C s H fp=>(eE (i:=3))) (λcl C s H fp=>aY) (te:=(bB 3)) (λcl C s H fp=>(ji 3)))
   (av (aH (ae (ax jF hr (ae (pv 0) (ae (bz (N':=["head","passed","loose"]) (src:=[none,none,none]) rfl (ba.j5 (by kernel_rfl)) (dX (pv 2)) (g:=(ja K 3 (bS (bC 0) (bS (bC 1) (bS (bC 2) i5))))) (λcl C s H fp=>(cA rfl (aA (eE (i:=0)) (aA (eE (i:=1)) (aA (eE (i:=2)) bT))))) (λcl C s H fp=>aY) (te:=(bB 0)) (λcl C s H fp=>(ji 0))) ah))) (ae (aU bE rfl B.tuple XA (ae (lq rfl rfl B2.sorted rfl B2.set (aF mx (pv 3) (aP (ae (ax ie hr (ae (pv 0) ah)) ah)))) ah)) (ae (gm (ax rn hr (ae (pv 0) (ae (pv 1) ah))) (c9 (aW (l9 rfl) rfl B3.any PyProof.Rows.boot_any (ae (bz (N':=["head","passed","loose"]) (src:=[none,none,none]) rfl (ba.j5 (by kernel_rfl)) (dX (pv 2)) (g:=(ja K 3 (bS (bC 0) (bS (bC 1) (bS (bC 2) i5))))) (λcl C s H fp=>(cA rfl (aA (eE (i:=0)) (aA (eE (i:=1)) (aA (eE (i:=2)) bT))))) (λcl C s H fp=>aY) (te:=(bB 2)) (λcl C s H fp=>(ji 2))) ah)))) ah)))))),?_⟩
 have hn2:ks.length<=2:=by rw[ho.n];exact EG
 have hla:(as.map V.ref).length=ks.length:=by rw[WV,hL.len]
 refine⟨_,rfl,l,rfl,⟨_,aZ.of hL.lst⟩,λD hD=>?_⟩;have hfl:∀i,((ks.take i).flatMap λk=>k.ps).length<=40:=λi=>Ed (m:=2) (by rw[Xj];omega) λk hk=>ho.ps k (List.mem_of_mem_take hk);refine ze (xs:=as.map V.ref) (λi σ ys H'=>(∃o1 o2 o3 o4,σ=[o1,o2,o3,o4])/\ys=((ks.take i).flatMap λk=>k.ps).map V.str/\H' D=some (.lst ys)/\aM H H') ⟨⟨none,none,none,none,rfl⟩,rfl,ag,aj hD _⟩ ?_ ?_ ?_ ?_
 ·rintro i σ ys H' _ ⟨_,_,h,_⟩;exact h
 ·rintro i σ ys H' _ ⟨_,_,_,sm⟩;exact aZ.of (sm _ _ hL.lst)
 ·rintro i v σ ys H' hv ⟨⟨o1,o2,o3,o4,rfl⟩,rfl,h,sm⟩;obtain⟨b',k',rfl,ek,hh,p,hk1,hk2,hk3⟩:=hL.get hv;have hpl:k'.ps.length<=20:=ho.ps k' (W4 ek);refine⟨b',_,rfl,aJ.of (sm _ _ hk1),rfl,_,_,rfl,ak ⟨_,_,rfl,ak ⟨_,_,rfl,ak ⟨rfl,?_⟩⟩⟩⟩;refine⟨_,rfl,p,rfl,⟨_,aJ.of (sm _ _ hk3)⟩,?_⟩;refine mL (xs:=k'.ps.map V.str) (λj σ zs H2=>(∃o1 o2 o3 o4,σ=[o1,o2,o3,o4])/\zs=((ks.take i).flatMap λk=>k.ps).map V.str++(k'.ps.take j).map V.str/\H2 D=some (.lst zs)/\aM H H2) ⟨⟨_,_,_,_,rfl⟩,by rw[List.take_zero,List.map_nil,XC],h,sm⟩ ?_ ?_ ?_ ?_
  ·rintro j σ zs H2 hj ⟨_,rfl,h2,_⟩;refine⟨h2,λ_=>?_⟩;rw[WW,WV,WV,Xj];have:=hfl i;exact WY (show _<=60 by omega) (by decide)
  ·rintro j σ zs H2 _ ⟨_,_,_,s2⟩;exact aJ.of (s2 _ _ hk3)
  ·rintro j v2 σ zs H2 hu' ⟨⟨o1,o2,o3,o4,rfl⟩,rfl,h2,s2⟩;rw[Xi]at hu';cases es:k'.ps[j]? with
   |none=>rw[es]at hu';cases hu'
   |some s0 =>rw[es]at hu';have hv2:V.str s0=v2:=Xf hu';subst hv2;refine ak ⟨_,rfl,h2,⟨_,_,_,_,rfl⟩,?_,ag,bu hD s2⟩;rw[take_one es,WX,List.append_assoc];rfl
  ·rintro σ zs H2 ⟨⟨o1,o2,o3,o4,rfl⟩,rfl,h2,s2⟩;refine⟨⟨_,_,_,_,rfl⟩,?_,h2,s2⟩;rw[WV,Xx,←WX,take_one ek,List.flatMap_append];show _=(_++(k'.ps++[])).map V.str;rw[XC]
 ·rintro σ ys H1 ⟨_,rfl,h1,s1⟩;rw[hla,Xx]at h1;have hfl:=hfl ks.length;rw[Xx]at hfl;refine ak ?_;dsimp only;have hL1:=hL.same s1;refine⟨_,rfl,_,rfl,l,rfl,⟨_,aZ.of hL1.lst⟩,λD2 hD2=>?_⟩;refine dJ (xs:=as.map V.ref) (λi σ ys H'=>(∃o1 o2 o3,σ=[o1,o2,o3])/\(∃bs:Z8,ys=bs.map V.ref/\bs.length=i/\∀(j:Nat) a k,bs[j]? = some a->ks[j]? = some k->eN H1 a k.hd)/\H' D2=some (.lst ys)/\aM H1 H') ⟨⟨none,none,none,rfl⟩,⟨[],rfl,rfl,λj a k e=>by cases e⟩,ag,aj hD2 _⟩ ?_ ?_ ?_ ?_ ?_
  ·rintro i σ ys H' _ ⟨_,⟨bs,rfl,hi,_⟩,h,_⟩;exact⟨h,by rw[WV];exact XF hi⟩
  ·rintro i σ ys H' _ ⟨_,_,_,sm⟩;exact aZ.of (sm _ _ hL1.lst)
  ·rw[hla];exact WS hn2 (by decide)
  ·rintro i v σ ys H' hv ⟨⟨o1,o2,o3,rfl⟩,⟨bs,rfl,hi,hb⟩,h,sm⟩;obtain⟨b',k',rfl,ek,hh,p,hk1,hk2,hk3⟩:=hL1.get hv;refine⟨b',_,rfl,aJ.of (sm _ _ hk1),rfl,_,_,rfl,ak ⟨_,_,rfl,ak ⟨_,_,rfl,ak ⟨rfl,?_⟩⟩⟩⟩;refine⟨_,rfl,h,⟨_,_,_,rfl⟩,⟨bs++[hh],by rw[WX];rfl,by rw[WW,hi];rfl,λj a k e1 e2=>?_⟩,ag,bu hD2 sm⟩;by_cases hj:j<bs.length
   ·rw[Xh hj]at e1;exact hb j a k e1 e2
   ·have hj':j=bs.length:=by have:=(W8.mp e1).1;rw[WW]at this;simp at this;omega
    rw[hj',Xg (WR _),Nat.sub_self]at e1;cases e1;rw[hj',hi,ek]at e2;cases e2;exact hk2
  ·rintro σ ys H2 ⟨_,⟨bs,rfl,hi,hb⟩,h2,s2⟩;rw[hla]at hi;have s12:=s1.trans s2;refine⟨a,D2,x,bs,kj ks,rfl,ha.keep (aD.of s12),Ai h2 hi (λi a k e1 e2=>s2 _ _ (hb i a k e1 e2)),by rw[kj,WV,ho.n],ho.ok.sm,⟨trivial,ho.fit,ho.ok.good,ho.ok.ne,λh hh=>by obtain⟨k,hk,rfl⟩:=W_.mp hh;exact ho.hd k hk⟩,λu1 H3 s3 hu1=>?_⟩;have qI:=s12.trans s3;refine⟨_,rfl,_,rfl,a,x,rfl,ha.keep (aD.of qI),dz,λu2 hu2=>?_⟩;have s4:=aj hu2 (.lst [V.str (aE x)]);refine⟨D,u2,_,_,rfl,rfl,s4 _ _ (s3 _ _ (s2 _ _ h1)),ag,by rw[WV];exact WS (show _+1<=41 by omega) (by decide),λu3 vm=>?_⟩;have s5:=aj vm (.lst (((ks.flatMap λk=>k.ps).map V.str)++[V.str (aE x)]));have hmap:(ks.flatMap λk=>k.ps).map V.str++[V.str (aE x)]=((ks.flatMap λk=>k.ps)++[aE x]).map V.str:=by rw[WX];rfl
   refine⟨u3,_,rfl,.inl (aZ.of ag),?_,.inr ⟨_,hmap⟩,λu4 ys xi hS=>?_⟩
   ·rw[WW,WV];show _+1<64;omega
   have s6:=aj xi (.lst ys);have hys:∃ms:List Str,ys=ms.map V.str/\AI ms ((ks.flatMap λk=>k.ps)++[aE x]):=by
    rcases hS with⟨ns,ms,e1,e2,_⟩|⟨ns,ms,e1,e2,e3,e4⟩
    ·rw[hmap]at e1;cases ns with
     |nil=>rw[WX]at e1;simp at e1
     |cons n ns =>
      exfalso;have:V.int n∈((ks.flatMap λk=>k.ps)++[aE x]).map V.str:=by rw[e1];simp
      obtain⟨s,_,e⟩:=W_.mp this;cases e
    ·rw[hmap]at e1;have:ns=(ks.flatMap λk=>k.ps)++[aE x]:=(List.map_inj_right (f:=V.str) (λa b e=>V.str.inj e)).mp e1.symm;subst this;exact⟨ms,e2,e3,e4⟩
   obtain⟨ms,rfl,hms⟩:=hys;refine⟨u4,_,rfl,.inl ⟨aZ.of ag,λu5 U4=>?_⟩⟩;have s7:=aj U4 (.tup (ms.map V.str));have O5:=s4.trans (s5.trans (s6.trans s7));have K7:upd (upd (upd (upd H3 u2 (.lst [V.str (aE x)])) u3 (.lst (((ks.flatMap λk=>k.ps).map V.str)++[V.str (aE x)]))) u4 (.lst (ms.map V.str))) u5 (.tup (ms.map V.str)) u5=some (.tup (ms.map V.str)):=ag;revert O5 K7;generalize upd (upd (upd (upd H3 u2 (.lst [V.str (aE x)])) u3 (.lst (((ks.flatMap λk=>k.ps).map V.str)++[V.str (aE x)]))) u4 (.lst (ms.map V.str))) u5 (.tup (ms.map V.str))=H4;intro O5 K7;have qW:=qI.trans O5;refine⟨_,rfl,_,rfl,a,b,x,k,rfl,ha.keep (aD.of qW),hk.same qW,ho.keep,λH5 s8=>?_⟩;have OI:=qW.trans s8;have fin:∀(v:Bool)(H6:Hp),aM H5 H6->v=(fu x k||ks.any λk=>k.lo)->∀u6,H6 u6=none->Q (.ref u6) (upd H6 u6 (.tup [.ref u1,.ref u5,.bl v])):=by intro v H6 s9 hv u6 Wn;have Cd:=aj Wn (.tup [.ref u1,.ref u5,.bl v]);have Nn:=(s8.trans s9).trans Cd;exact q u6 ⟨bK x (kj ks),ms,v⟩ _ ((OI.trans s9).trans Cd) ⟨u1,u5,ag,Nn _ _ (O5 _ _ hu1),Nn _ _ K7⟩ rfl hms hv
   refine⟨_,rfl,cG (λe=>?_) (λe=>?_)⟩
   ·exact⟨f9,fin true H5 (aM.refl _) (by rw[e];rfl)⟩
   have QL:=hL.same OI;refine⟨_,rfl,l,rfl,⟨_,aZ.of QL.lst⟩,λD3 Tj=>?_⟩;refine dJ (xs:=as.map V.ref) (λi σ ys H'=>(∃o1 o2 o3,σ=[o1,o2,o3])/\ys=((ks.take i).map λk=>k.lo).map V.bl/\ys.length=i/\H' D3=some (.lst ys)/\aM H5 H') ⟨⟨none,none,none,rfl⟩,rfl,rfl,ag,aj Tj _⟩ ?_ ?_ ?_ ?_ ?_
   ·rintro i σ ys H' _ ⟨_,_,hi,h,_⟩;exact⟨h,XF hi⟩
   ·rintro i σ ys H' _ ⟨_,_,_,_,sm⟩;exact aZ.of (sm _ _ QL.lst)
   ·rw[hla];exact WS hn2 (by decide)
   ·rintro i v σ ys H' hv ⟨⟨o1,o2,o3,rfl⟩,rfl,hi,h,sm⟩;obtain⟨b',k',rfl,ek,hh,p,hk1,hk2,hk3⟩:=QL.get hv;refine⟨b',_,rfl,aJ.of (sm _ _ hk1),rfl,_,_,rfl,ak ⟨_,_,rfl,ak ⟨_,_,rfl,ak ⟨rfl,?_⟩⟩⟩⟩;refine⟨_,rfl,h,⟨_,_,_,rfl⟩,?_,?_,ag,bu Tj sm⟩
    ·rw[take_one ek,WX,WX];rfl
    ·rw[WW,hi];rfl
   ·rintro σ ys H' ⟨_,rfl,_,h,sm⟩;rw[hla,Xx]at h;refine⟨D3,_,rfl,aZ.of h,f9,fin _ H' sm ?_⟩;rw[Xb.mpr e,Bool.false_or,List.any_map];rfl
end My
namespace L2
open PySem PySem.Spec PyProof.Rows
section
variable{X:Cx}{tg e:Expr}
theorem PG.zy{g:TG}(h:PG X.zy tg g):PG X tg g:=λac s σ H v u Q I r hw =>
 Xl (h ac s σ H v u Q (I.wish _) r hw) (λ_ _ ⟨σ',H',I',q⟩=>⟨σ',H',I'.dc,q⟩) λ_ _ z=>Xy z
theorem jn.zy{ifs:List Expr}{t:TT}(h:jn X.zy ifs t):jn X ifs t:=λac s σ H Q I hw =>
 Xl (h ac s σ H Q (I.wish _) hw) (λ_ _ ⟨H',I',q⟩=>⟨H',I'.dc,q⟩) λ_ _ z=>Xy z
end
section
variable{X:Cx}{elt target iter:Expr}{ifs:List Expr}{sc:Scope}{pos:Pos}{wi:TI}{g:TG}{tc:TT}{te:TE}{N':List Str}{src:List (Option Nat)}{E:XK}{L:Addr}
theorem yU{it acc:Value}{env:Env}{prog:Program}{w:World}{A:Around}{s:Shared}{R:Z5}{F:Z0}(hF:∀ev s',F ev s'->notedBy (model prog w) A env (λx s'=>R (.error x) s') ev s')(Iv:Nat->Shared->Prop)
  (turn:∀n s,Iv n s->wpAny (model prog w) A (pyNext it) (λr s₁=>match r with
   |none=>R (.ok .next) s₁
   |some v=>wpAny (model prog w) A (letOwnedTupleGo target it v) (λ_ s₁'=>wpAny (model prog w) A (assign target env v) (λ_ s₂ =>
     wpAny (model prog w) A (forIn ifs true λc r=>if r=true then do let ok←isTrue c env (eval c env);pure (ForInStep.yield ok)else pure (ForInStep.yield r)) (λok s₃ =>
      if ok=true then wpAny (model prog w) A (eval elt env) (λx s₄ =>
       wpAny (model prog w) A (call (.builtin "list.append") [acc,x]) (λ_ s₅=>∃m,m<n/\Iv m s₅) F s₄) F s₃
      else∃m,m<n/\Iv m s₃) F s₂) F s₁') F s₁) F s)
  (n:Nat) (h:Iv n s):codeAny (model prog w) A (.compLoop (.ListComp elt [⟨target,iter,ifs,0⟩] sc pos) 0 it acc env) R s:=by
 refine codeAny_loop rfl Iv (λn s hI=>?_) n h;show wpAny _ A ((compTurn (.ListComp elt [⟨target,iter,ifs,0⟩] sc pos) 0 it acc env).onRaise (λx=>do noteFrame x env;theTreesLotGoes x)) _ _ s;refine wpAny_noted ?_;rw[compTurn_list];refine Xl (E:=F) ?_ (λ_ _ z=>z) hF;refine WL (wpAny_standAt (WL (bZ (turn n s hI) λr s₁ h₁=>?_)));cases r with
 |none=>exact WM h₁
 |some v =>
  refine WL (bZ h₁ λ_ s₁' h₁'=>WL (bZ h₁' λ_ s₂ h₂=>WL (bZ h₂ λok s₃ h₃=>?_)));cases ok with
  |false=>exact WM ⟨rfl,h₃⟩
  |true=>exact WL (WL (bZ h₃ λx s₄ h₄=>WL (bZ h₄ λ_ s₅ h₅=>WM (WM ⟨rfl,h₅⟩))))
theorem x6{ac:Z1}{σ:St}{H2:Hp}{s3:Shared}{fp:Z8}{cl:List (Str×Addr)}{use:Option (Value->Sem Unit)}{QQ:Z0}{acc:Value}{ev:Value}{s':Shared}(tp:Top X L)(I3:Inv X ac σ H2 s3)
  (f3:∀b∈fp,dE X ac H2 b) (h:XE (aL X N' sc cl s3.heap.objs.size s3 H2 fp) E ev s') :
  notedBy (model X.prog X.w) X.A (compEnvC sc cl s3.heap.objs.size X.env) (λx s''=>compPost (model X.prog X.w) X.A (XE X E) use QQ acc s3.heap.objs.size (.error x) s'') ev s':=by
 obtain⟨e,C,od,σ',H,rfl,I,f,hE⟩:=h;have TU:Top (aL X N' sc cl s3.heap.objs.size s3 H2 fp) L:=⟨tp.ex,tp.fr⟩;refine og (X:=aL X N' sc cl s3.heap.objs.size s3 H2 fp) I.ok.frames TU tp.fr I f λs5 T I5 f5=>?_;obtain⟨m6,n6,_⟩:=id I5.loc;have fin:∃m,s5.heap.Ns s3.heap.objs.size m/\∀h',Heap.SameBut s3.heap.objs.size s5.heap h'->∀cenv:Env,cenv.locals=s3.heap.objs.size->wpAny (model X.prog X.w) X.A (PySem.passOn "comprehension.variables-let-go" (.ref e) cenv:Sem Value) (λ_ _=>False) (XE X E) {s5 with heap:=h'}:=by
  refine⟨m6,n6,λh' sb cenv hcl=>?_⟩;have J:Inv X [] σ H s5:=(I3.call' I5.os I5.base I5.hok I5.bare λb hb=>⟨(f3 b hb).2.2.2.1,(f3 b hb).2.1,(f3 b hb).2.2.2.2.1,(f3 b hb).2.2.2.2.2⟩).g_ (pins':=[]) λp hp=>Xs hp (by simp);have fC:dE X [] H s3.heap.objs.size:=by have z:=I3.ml (H':=H) (b:=s3.heap.objs.size) (WR _) I5.free;exact⟨z.1,z.2.1,z.2.2.1,z.2.2.2.1,z.2.2.2.2.1,λp hp=>z.2.2.2.2.2 p (List.mem_append_left _ (by simpa using hp))⟩
  have J2:Inv X [] σ H {s5 with heap:=h'}:=J.turned (t':=s5.toks) (λb o hb z=>(sb.2 b hb).trans z) fC.1 fC.2.1 fC.2.2.2.1 fC.2.2.2.2.1 fC.2.2.2.2.2;obtain⟨vs,sl,g1,g2⟩:=f5.obj;obtain⟨oT,ts,t1,t2,t3⟩:=f5.tb.obj;have Mm:∀b,H b≠none->b≠s3.heap.objs.size:=λb hb z=>hb (by rw[z];exact I5.free);have neT:T≠s3.heap.objs.size:=λz=>by obtain⟨o,es,ep,ho,hd,_⟩:=n6;have ho':s5.heap.get? s3.heap.objs.size=some o:=ho;rw[z,ho']at t1;cases t1;rw[hd]at t2;cases t2
  have f6:qg X H h' e C od T:=⟨f5.at_,⟨vs,sl,(sb.2 e (Mm e (by rw[f5.at_];simp))).trans g1,g2⟩,f5.tb.free,WS I3.sz f5.tb.new,λp hp z=>by have:=(I3.pin p (List.mem_append_left _ hp)).1;exact Xs (WZ (WO this) f5.tb.new) (by rw[z];exact Nat.lt_irrefl _),oT,ts,(sb.2 T neT).trans t1,t2,t3⟩
  obtain⟨vs',sl',F_,VF⟩:=f6.obj;unfold PySem.passOn;refine WL (wpAny_field F_ rfl VF ?_);have ne:¬((Value.ref T==Value.none)=true):=by simp
  rw[Xt ne];have go:=iG (M:=model X.prog X.w) (A:=X.A) (E:=XE X E) (Q:=λ_ s7=>wpAny (model X.prog X.w) X.A (throw (.ref e):Sem Value) (λ_ _=>False) (XE X E) s7) J2 f6 cenv.frame λs7 I7 f7=>wpAny_throw ⟨e,C,od,σ,H,rfl,I7,f7.RP,hE⟩;first
   |exact WL go
   |exact WL (WM (WL go))
 cases use<;>exact fin
theorem vD{ac:Z1}{σ:St}{H2:Hp}{s2:Shared}{it:Addr}{fp:Z8}{tn:Nat->Heap->Prop}{J:It}{Q:VK}{E2:Z0}{use:Option (Value->Sem Unit)}{QQ:Z0}
  (hc:X.calm=true) (tp:Top X L) (S:ba X.env.scope X.N N' src sc)
  (hg:∀cl C s H fp,PG ((aL X N' sc cl C s H fp).xs E) target g) (ht:∀cl C s H fp,jn ((aL X N' sc cl C s H fp).xs E) ifs tc) (he:∀cl C s H fp,PE ((aL X N' sc cl C s H fp).xs E) elt te)
  (I2:Inv X ac σ H2 s2) (T:Turn X.prog X.w X.K target J fp it tn) (st2:tn 0 s2.heap) (f2:∀b∈fp,dE X ac H2 b)
  (hW:∀D,H2 D=none->∃W:Nat->Nat->St->List V->Hp->Prop,(∃m,W 0 m (km src σ) [] (upd H2 D (.lst [])))/\oQ J g tc te D Q W)
  (hRR:∀D C s5 H' m,Inv X ac σ H' s5->s5.heap.Ns C m->dE X ac H' C->Q (.ref D) H'->compPost (model X.prog X.w) X.A (XE X E) use QQ (.ref D) C (.ok .next) s5) :
  wpAny (model X.prog X.w) X.A (newList []) (λacc s₃=>wpAny (model X.prog X.w) X.A (newFunctionEnv sc X.env.globals (bP X.env.cells sc.names []) [] X.env.qual none .none (some X.env)) (λcenv s₄ =>
   codeAny (model X.prog X.w) X.A (.compStart (.ListComp elt [⟨target,iter,ifs,0⟩] sc pos) 0 (.ref it) acc {cenv with scope:=relabel sc X.env}) (compPost (model X.prog X.w) X.A (XE X E) use QQ acc cenv.locals) s₄) E2 s₃) E2 s2:=by
 have o2:∀b∈fp,b<s2.heap.objs.size:=λb hb=>by obtain⟨o,z,_⟩:=T.obj 0 _ st2 b hb;exact WO z
 refine Xn ?_;have K3:H2 s2.heap.objs.size=none:=I2.hok.fresh (WR _);obtain⟨W,⟨m0,w0⟩,turn⟩:=hW s2.heap.objs.size K3;have I3:Inv X ac σ (upd H2 s2.heap.objs.size (.lst [])) {s2 with heap:=s2.heap.push {cls:=.type "list",dict:=none,data:=.seq ([]:Z6).toArray}} :=
  I2.laid (t':=s2.toks) (λb u z=>WN _ z) (WR _) ⟨Xe _,[],0,.nil,WQ _ rfl⟩
 have st3:tn 0 (s2.heap.push {cls:=.type "list",dict:=none,data:=.seq ([]:Z6).toArray}):=T.keep 0 _ _ st2 λb hb o z=>WN _ z;generalize hs3:({s2 with heap:=s2.heap.push {cls:=.type "list",dict:=none,data:=.seq ([]:Z6).toArray}}:Shared)=s3 at I3;have hh3:s3.heap=s2.heap.push {cls:=.type "list",dict:=none,data:=.seq ([]:Z6).toArray}:=by rw[←hs3]
 have FT:s2.heap.objs.size<s3.heap.objs.size:=by rw[hh3,Heap.size_push];exact Nat.lt_succ_self _
 have o3:∀b∈fp,b<s3.heap.objs.size:=λb hb=>Nat.lt_trans (o2 b hb) FT;have f3:∀b∈fp,dE X ac (upd H2 s2.heap.objs.size (.lst [])) b:=λb hb=>⟨by rw[aI (Xd (o2 b hb))];exact(f2 b hb).1,(f2 b hb).2⟩;rw[←hh3]at st3;refine wpAny_newFunctionEnv S.pR (by intro y hy;simp at hy) (λh1 hns hsb=>?_) S.kind;have hsb':Heap.SameBut s3.heap.objs.size (s3.heap.push {cls:=.type "dict",data:=.dict #[]}) h1:=hsb;generalize hY:aL X N' sc (bP X.env.cells sc.names []) s3.heap.objs.size s3 (upd H2 s2.heap.objs.size (.lst [])) fp=Y;have I4:Inv Y [] (km src σ) (upd H2 s2.heap.objs.size (.lst [])) {s3 with heap:=h1,toks:=s3.toks+([]:List (Str×Value)).length}:=by rw[←hY];exact i6 S I3 f3 o3 hns hsb'
 have E5:tn 0 h1:=T.keep 0 _ _ st3 λb hb o z=>(hsb'.2 b (Xd (o3 b hb))).trans (WN _ z);have fC:∀(H':Hp),H' s3.heap.objs.size=none->dE X ac H' s3.heap.objs.size:=λH' hn=>I3.ml (WR _) hn;have loop:codeAny (model X.prog X.w) X.A (.compLoop (.ListComp elt [⟨target,iter,ifs,0⟩] sc pos) 0 (.ref it) (.ref s2.heap.objs.size) (compEnvC sc (bP X.env.cells sc.names []) s3.heap.objs.size X.env))
   (compPost (model X.prog X.w) X.A (XE X E) use QQ (.ref s2.heap.objs.size) s3.heap.objs.size) {s3 with heap:=h1,toks:=s3.toks+([]:List (Str×Value)).length}:=by
  have stat:∀{H':Hp},(∀b∈fp,H' b=none)->∀b∈fp,dE (Y.xs E) [] H' b:=λhn b hb=>by have z:=I4.ok;subst hY;exact⟨hn b hb,(z.AU b hb).1,z.pZ b hb,.inl hb,(z.AU b hb).2,λp hp=>Xs (show p∈([]:Z1) from hp) (by simp)⟩
  have QJ:=hg (bP X.env.cells sc.names []) s3.heap.objs.size s3 (upd H2 s2.heap.objs.size (.lst [])) fp;have htY:=ht (bP X.env.cells sc.names []) s3.heap.objs.size s3 (upd H2 s2.heap.objs.size (.lst [])) fp;have QF:=he (bP X.env.cells sc.names []) s3.heap.objs.size s3 (upd H2 s2.heap.objs.size (.lst [])) fp;refine yU (F:=XE Y E) (λev s' hx=>by subst hY;exact x6 tp I3 f3 hx) (λn s'=>∃i σ' ys H',Inv (Y.xs E) [] σ' H' s'/\tn i s'.heap/\(∀b∈fp,H' b=none)/\W i n σ' ys H') ?_ m0
   ⟨0,_,[],_,I4.wish _,E5,λb hb=>(f3 b hb).1,w0⟩
  rintro n s5 ⟨i,nX,ys,H5,I5,uU,xm,w5⟩;obtain⟨hD,alt⟩:=turn i n nX ys H5 w5;subst hY;rcases alt with⟨stop,qn⟩|⟨go,hsz,N,hN,step⟩
  ·refine bZ (T.done ((aL X N' sc (bP X.env.cells sc.names []) s3.heap.objs.size s3 (upd H2 s2.heap.objs.size (.lst [])) fp).xs E) rfl rfl rfl hc i [] s5 nX H5 _ I5 (stat xm) uU stop) λr s6 zz=>?_;obtain⟨hr,I6⟩:=zz;subst hr;obtain⟨m6,n6,_⟩:=id I6.loc;exact hRR _ _ s6 H5 m6 (I3.call' I6.os I6.base I6.hok I6.bare λb hb=>⟨(f3 b hb).2.2.2.1,(f3 b hb).2.1,(f3 b hb).2.2.2.2.1,(f3 b hb).2.2.2.2.2⟩) n6 (fC _ I6.free) qn
  ·refine bZ (T.item ((aL X N' sc (bP X.env.cells sc.names []) s3.heap.objs.size s3 (upd H2 s2.heap.objs.size (.lst [])) fp).xs E) rfl rfl rfl hc i [] s5 nX H5 _ I5 (stat xm) uU go) λr s6 zz=>?_;obtain⟨u,hr,h6⟩:=zz;subst hr;refine bZ h6 λ_ s7 zz=>?_;obtain⟨x,H7,I7,r7,y7,uD,Ib⟩:=zz;have HS:=I7.pinned (stat Ib) (T.obj _ _ uD);refine bZ (QJ _ s7 nX H7 x u _ HS r7 (step x H7 y7)) λ_ s8 zz=>?_;obtain⟨uV,H8,I8,q8⟩:=zz;refine bZ (htY _ s8 uV H8 _ I8 q8) λb s9 zz=>?_;obtain⟨H9,I9,q9⟩:=zz;have again:∀{σ':St}{H':Hp}{s':Shared}{ys':List V}{m':Nat},Inv ((aL X N' sc (bP X.env.cells sc.names []) s3.heap.objs.size s3 (upd H2 s2.heap.objs.size (.lst [])) fp).xs E) ([]++jH fp s7.heap) σ' H' s'->m'<n->W (i+1) m' σ' ys' H'->
     ∃m,m<n/\∃i σ' ys H',Inv ((aL X N' sc (bP X.env.cells sc.names []) s3.heap.objs.size s3 (upd H2 s2.heap.objs.size (.lst [])) fp).xs E) [] σ' H' s'/\tn i s'.heap/\(∀b∈fp,H' b=none)/\W i m σ' ys H':=λ{σ' H' s' ys' m'} I' hm w'=>by
    refine⟨m',hm,i+1,σ',ys',H',I'.gE,T.keep _ _ _ uD λb hb o z=>(I'.pin (b,o) (W3 _ (W3 _ (cM hb z)))).1,λb hb=>?_,w'⟩;obtain⟨o,z,d⟩:=T.obj _ _ uD b hb;exact(I'.pin (b,o) (W3 _ (W3 _ (cM hb z)))).2.1
   cases b with
   |false =>rw[Xt W6]at q9⊢;obtain⟨m',hm,w'⟩:=hN _ _ _ q9;exact again I9 hm w'
   |true =>rw[Xu rfl]at q9⊢;refine bZ (QF _ s9 uV H9 _ I9 q9) λxv Cd zz=>?_;obtain⟨v,Bl,MG,r10,Fn,w10⟩:=zz;obtain⟨m',hm,w'⟩:=hN _ _ _ w10;have OF:nV (.ref s2.heap.objs.size) [v] Bl λ_ H'=>H'=upd Bl s2.heap.objs.size (.lst (ys++[v])):=⟨_,ys,v,rfl,rfl,Fn,hsz,rfl⟩;refine bZ (cZ _ Cd uV Bl _ _ _ _ _ MG (show RelV (.ref s2.heap.objs.size) (.ref s2.heap.objs.size) from rfl) (.cons r10 .nil) OF) λ_ Sf zz=>?_;obtain⟨_,PL,IV,_,MK⟩:=zz;rw[MK]at IV;exact again IV hm w'
 exact codeAny_compStart_list loop (T.self _ 0 _ _ _ E5 loop)
theorem BH(hc:X.calm=true)(tp:Top X L)(S:ba X.env.scope X.N N' src sc)(hi:PI (X.xs E) target iter wi)
  (hg:∀cl C s H fp,PG ((aL X N' sc cl C s H fp).xs E) target g) (ht:∀cl C s H fp,jn ((aL X N' sc cl C s H fp).xs E) ifs tc) (he:∀cl C s H fp,PE ((aL X N' sc cl C s H fp).xs E) elt te)
  (hs:∀x,foldedSetIterable iter X.env x=pure x:=by intro _;rfl) :
  PE (X.xs E) (.ListComp elt [⟨target,iter,ifs,0⟩] sc pos) (Fb src wi g tc te):=by
 intro ac s σ H Q I h;rw[eval_ListComp];refine wpAny_comprehension_free (use:=none) rfl hs (c7 λy hy hk=>I.ok.has y.1 (S.free y hy hk)) S.kind (λy hy hl=>by rw[←hl];exact S.uniq y hy) ?_;refine bZ (hi ac s σ H _ I h) λv s1 h1=>bZ h1 λitv s2 h2=>?_;obtain⟨it,fp,tn,J,H2,z,I2,T,st2,f2,hW⟩:=h2;subst z;refine vD (Q:=Q) (QQ:=EP (X.xs E) ac σ Q) (use:=none) hc tp S hg ht he I2.dc T st2 f2 hW ?_;intro D C s5 H' m I5 n5 fC q;refine⟨m,n5,λh' sb=>⟨.ref D,H',?_,rfl,q⟩⟩;exact(I5.turned (t':=s5.toks) (λb o hb z=>(sb.2 b hb).trans z) fC.1 fC.2.1 fC.2.2.2.1 fC.2.2.2.2.1 fC.2.2.2.2.2).wish _
end
section
variable{X:Cx}{ac:Z1}{σ:St}{H:Hp}{s:Shared}
theorem n_{M:Model}{A:Around}{E2:Z0}{i:Nat}{n:Str}{pos:Pos}{Q:Z4}(I:Inv X ac σ H s)(hN:X.N.Nodup)(hi:X.N[i]? = some n)(hk:X.env.scope.names.lookup n=some .local)
  (q:∀s',Inv X ac (σ.set i none) H s'->Q () s'):wpAny M A (do bindName X.env n .none;unbindBehindTheSuite X.env n pos) Q E2 s:=by
 refine WL (wpAny_bindName (iE I hN hi (.inl hk) (show RelV .non .none from rfl) (λs1 I1=>?_) (.inr hk)));have EF:i<σ.length:=by rw[I.len];exact(W8.mp hi).1
 obtain⟨m,hn,hl⟩:=id I1.loc;obtain⟨u,ru,lk⟩:=hl i n .non hi (List.getElem?_set_self EF) (.inl hk);have hv:m n=some u:=by
  rcases lk with⟨_,z⟩|⟨z,_⟩
  ·exact z
  ·have hk':X.env.kindOf n=some .local:=hk;rw[hk']at z;rcases z with z|z<;>cases z
 have hp:(X.env.scope.kind == .class||(X.env.scope.kind == .module&&X.env.locals != X.env.globals))=false:=by rw[I.ok.kind];rfl
 unfold unbindBehindTheSuite;refine wpAny_onRaise (wpAny_unbindName_local hk hn hv hp λh' u' hn' hs=>q _ ?_);obtain⟨oL,_,_,hoL,_⟩:=id hn;have below:∀b o,X.s₀.heap.get? b=some o->b≠X.env.locals:=λb o z=>Xd (WZ (WO z) I1.ok.above);refine⟨I1.ok,I1.os,I1.bare,⟨λb o z nn hb hx=>(hs.2 b (below b o z)).trans (I1.base.keep b o z nn hb hx),λb o z nn hb hx=>?_,I1.base.free,λb o z hx=>?_,I1.base.tups,I1.base.ow,I1.base.qX⟩,⟨_,hn',λj y v' e1 e2 e3=>?_⟩,λy c z=>?_,I1.free,I1.gF,λp hp'=>?_,λb ob z=>?_,by simpa using I.len⟩
 ·obtain⟨sl,z1⟩:=I1.base.slot b o z nn hb hx;exact⟨sl,(hs.2 b (below b o z)).trans z1⟩
 ·obtain⟨o',z1⟩:=I1.base.there b o z hx;exact⟨o',(hs.2 b (below b o z)).trans z1⟩
 ·have hj:j≠i:=λz=>by rw[z,List.getElem?_set_self EF]at e2;cases e2
  rw[List.getElem?_set_ne (Ne.symm hj)]at e2;obtain⟨u2,r2,Tu⟩:=hl j y v' e1 (by rw[List.getElem?_set_ne (Ne.symm hj)];exact e2) e3;refine⟨u2,r2,?_⟩;have Tp:y≠n:=λz=>hj (oz hN e1 (z▸hi));rcases Tu with⟨k,z⟩|⟨k,c,z1,z2⟩
  ·exact .inl ⟨k,by simp[Tp,z]⟩
  ·exact .inr ⟨k,c,z1,z2.sameBut hs (I1.Ie y c z1)⟩
 ·obtain⟨w',z1⟩:=I1.cell y c z;exact⟨w',z1.sameBut hs (I1.Ie y c z)⟩
 ·obtain⟨z1,z2,z3,z4,z5⟩:=I1.pin p hp';exact⟨(hs.2 p.1 z3).trans z1,z2,z3,z4,z5⟩
 ·refine(I1.hok b ob z).stay (λc w' hc z1=>(hs.2 c ?_).trans z1) (λ_ z1=>z1) λ_ _ z1=>z1;rintro rfl;rcases hc with rfl|hc
  ·rw[I1.free]at z;cases z
  ·rw[I1.free]at hc;cases hc
end
abbrev Cx.bear(X:Cx)(ac:Z1):Cx:={X with pn:=X.pn++ac}
abbrev Cx.IQ(X:Cx)(e:Addr):Cx:={X with A:=X.A.mark (some (.ref e)),calm:=false,xe:=λ_ _=>False}
section
variable{X:Cx}{ac:Z1}{σ:St}{H:Hp}{s:Shared}
theorem Inv.bear(I:Inv X ac σ H s):Inv (X.bear ac) [] σ H s :=
 ⟨⟨I.ok.mod,I.ok.kind,I.ok.glob,I.ok.blt,I.ok.above,I.ok.inj,I.ok.has,I.ok.cab,I.ok.hd,I.ok.frames,I.ok.JZ,I.ok.AU,I.ok.bs,I.ok.Ce,I.ok.vQ,I.ok.pZ,I.ok.kS,I.ok.FL⟩,I.os,I.bare,I.base,I.loc,I.cell,I.free,I.gF,λp hp=>I.pin p (by simpa using hp),I.hok,I.len⟩
theorem Inv.my(I:Inv (X.bear ac) [] σ H s):Inv X ac σ H s :=
 ⟨⟨I.ok.mod,I.ok.kind,I.ok.glob,I.ok.blt,I.ok.above,I.ok.inj,I.ok.has,I.ok.cab,I.ok.hd,I.ok.frames,I.ok.JZ,I.ok.AU,I.ok.bs,I.ok.Ce,I.ok.vQ,I.ok.pZ,I.ok.kS,I.ok.FL⟩,I.os,I.bare,I.base,I.loc,I.cell,I.free,I.gF,λp hp=>I.pin p (by simpa using hp),I.hok,I.len⟩
theorem Inv.IQ(I:Inv X ac σ H s)(e:Addr):Inv (X.IQ e) ac σ H s :=
 ⟨⟨I.ok.mod,I.ok.kind,I.ok.glob,I.ok.blt,I.ok.above,I.ok.inj,I.ok.has,I.ok.cab,(λz=>Xs (show false=true from z) (by decide)),I.ok.frames,I.ok.JZ,I.ok.AU,I.ok.bs,I.ok.Ce,I.ok.vQ,I.ok.pZ,I.ok.kS,I.ok.FL⟩,I.os,I.bare,I.base,I.loc,I.cell,I.free,I.gF,I.pin,I.hok,I.len⟩
theorem Inv.F4{e:Addr}(ok:X.Ok)(I:Inv (X.IQ e) ac σ H s):Inv X ac σ H s:=⟨ok,I.os,I.bare,I.base,I.loc,I.cell,I.free,I.gF,I.pin,I.hok,I.len⟩
end
def PZ(K:XO)(tb:TS)(E:XK)(Cc:Addr)(i:Nat)(ts:TS):TS:=λD σ H=>tb D σ H/\∀(σ':St)(C e:Addr)(od:Option Addr)(H':Hp),σ'.length=σ.length->H' e=some (xO e C od)->E (.ref C) (some e) H'->
 PySem.W.exmOne K (.ref C) (.ref Cc)=some true/\ts {nx:=λde H2=>D.nx (de.set i none) H2,rt:=D.rt,bk:=λde H2=>D.bk (de.set i none) H2,ct:=λde H2=>D.ct (de.set i none) H2} (σ'.set i (some (.ref e))) H'
theorem LK{X:Cx}{E:XK}{L Cc:Addr}{i:Nat}{n x:Str}{body suite:List Stmt}{b0:Stmt}{np hpos pos:Pos}{tb ts:TS}(tp:Top X L)(hN:X.N.Nodup)(hi:X.N[i]? = some n)(hk:X.env.scope.names.lookup n=some .local)(hg:Gl X x)(hm:X.mg x=some (.ref Cc))
  (hb:∀ac,oE ((X.bear ac).xs E) body tb) (hs:∀e,oE (X.IQ e) (b0::suite) ts) (hdb:(x==("__debug__" : Str))=false:=by decide) :
  PS X (.Try body [.ExceptHandler (some (.Name x np)) (some n) (b0::suite) hpos] [] [] pos) (PZ X.K tb E Cc i ts):=by
 intro ac s σ H D I h;obtain⟨h1,h2⟩:=h;have back:∀{f:Flow}{s1:Shared},SP ((X.bear ac).xs E) [] D f s1->SP X ac D f s1:=λ{f s1} z=>by
  cases f with
  |next=>obtain⟨σ',H',I',q⟩:=z;exact⟨σ',H',I'.dc.my,q⟩
  |brk=>obtain⟨σ',H',I',q⟩:=z;exact⟨σ',H',I'.dc.my,q⟩
  |cont=>obtain⟨σ',H',I',q⟩:=z;exact⟨σ',H',I'.dc.my,q⟩
  |ret u=>obtain⟨v,σ',H',I',r,q⟩:=z;exact⟨v,σ',H',I'.dc.my,r,q⟩
 refine wpAny_Try_except (Xl (hb ac [] s σ H D (I.bear.wish _) h1) (λf s1 z=>?_) λev s1 hx=>?_)
 ·cases f with
  |next=>exact wpAny_execs_nil (back z)
  |brk=>exact back (f:=.brk) z
  |cont=>exact back (f:=.cont) z
  |ret u=>exact back (f:=.ret u) z
 obtain⟨e,C,od,FQ,H1,rfl,I1,f1,hE⟩:=hx;have V9:Top (X.bear ac) L:=⟨tp.ex,tp.fr⟩;have hlen:FQ.length=σ.length:=by rw[I1.len];exact I.len.symm
 obtain⟨hm1,hts⟩:=h2 FQ C e od H1 hlen f1.at_ hE;refine og (X:=X.bear ac) I1.ok.frames V9 tp.fr I1 f1 λs2 T I2 f2=>?_;refine iG I2 f2 none λs3 I3 f3=>?_;refine wpAny_handleBy_cons (codeAny_handlers_test ?_) (by intro z;cases z);have SE:Inv (X.IQ e) ac FQ H1 s3:=I3.my.IQ e;refine l0 (X:=X.IQ e) SE hg hm ?_ hdb;obtain⟨⟨fl,sl,Mr⟩,_⟩:=I3.hok e _ f3.at_;have LT:PySem.W.Looks (model X.prog X.w) s3.heap (typeOf (.ref e)) (.ref C):=(PySem.W.Looks.ld Mr).andThen .now;refine(PySem.W.exm_one SE.j9 LT hm1).here ?_;refine codeAny_handlers_suite_as ?_;refine iG I3 f3 none λs5 I5 f5=>?_;refine iE (X:=X.IQ e) (I5.my.IQ e) hN hi (.inl hk) (show RelV (.ref e) (.ref e) from rfl) (λs6 I6=>?_) (.inr hk);refine Xl (hs e ac s6 _ H1 _ I6 hts) (λf s7 z=>?_) λ_ _ z=>Xy z;cases f with
 |next=>obtain⟨σ',H',I',q⟩:=z;exact n_ (I'.F4 I.ok) hN hi hk λs8 I8=>⟨_,H',I8,q⟩
 |brk=>obtain⟨σ',H',I',q⟩:=z;exact n_ (I'.F4 I.ok) hN hi hk λs8 I8=>⟨_,H',I8,q⟩
 |cont=>obtain⟨σ',H',I',q⟩:=z;exact n_ (I'.F4 I.ok) hN hi hk λs8 I8=>⟨_,H',I8,q⟩
 |ret u=>obtain⟨v,σ',H',I',r,q⟩:=z;exact n_ (I'.F4 I.ok) hN hi hk λs8 I8=>⟨v,_,H',I8,r,q⟩
abbrev Mi(t:Addr):Array Value:=#[.ref t,.none,.none,.none,.bool false,.none]
abbrev xF(a C:Addr)(od:Option Addr):HO:=.ext λh=>∃t sl,h.get? a=some {cls:=.ref C,dict:=od,data:=.fields (Mi t),slots:=sl}
section
variable{P:Program}{w:World}{H:Hp}{h h':Heap}{a C d:Addr}{od:Option Addr}{fs:List (Str×V)}{o:HO}
theorem Jp{tt:Addr}{sl:Array (Z7)}(e:h.get? a=some {cls:=.ref C,dict:=od,data:=.fields (Mi tt),slots:=sl}):cw P w H h a (xF a C od) :=
 ⟨⟨tt,sl,e⟩,⟨_,e⟩,λ_ _ ⟨tt,sl,e⟩ k=>⟨tt,sl,k _ e⟩⟩
end
section
variable{X:Cx}{ac:Z1}{σ:St}{H:Hp}{s:Shared}{a C dx:Addr}{fs:List (Str×V)}{f:Str}{v y:V}{u:Value}{A:Around}{E:Z0}
theorem Mb{Q:Z4}(I:Inv X ac σ H s)(e:H a=some (xF a C (some dx)))(ed:H dx=some (xD dx fs))(c:jq X.K C)(n:jb X.K C f)(hz:fs.length<1000)(ry:RelV y u)
  (h:∀s',Inv X ac σ (upd H dx (xD dx (nA f y fs))) s'->Q () s'):wpAny (model X.prog X.w) A (setAttr (.ref a) f u) Q E s:=by
 obtain⟨⟨tt,sl,ha⟩,_⟩:=I.hok a _ e;obtain⟨⟨mA,ns,r⟩,_⟩:=I.hok dx _ ed;obtain⟨od,ho,hl⟩:=md ns;have J:PySem.W.InstAt s.heap a {cls:=.ref C,dict:=some dx,data:=.fields (Mi tt),slots:=sl} C (some od):=⟨ha,rfl,rfl,ho⟩;have wi:=sE r;have T4:(fs.map (·.1)).length+1<=sizeLine:=by rw[WV,sizeLine_eq];omega
 obtain⟨cd,PE,hc,_,hd'⟩:=c.cls;refine PySem.W.set_plain I.j9 J c.sa (sF (s:={s with toks:=s.toks+1}) c I.j9 J n λb=>?_);refine WL (WM (WL (WL (wpAny_loadPart ha (WL (PySem.W.Looks.here (s:={s with toks:=s.toks+1}) (PySem.W.looks_clsIn I.j9 hc) ?_))))));rw[hd'];refine WM (a:=some dx) (WL (WM (WL ?_)));refine wpAny_nsSet1 (s:={s with toks:=s.toks+1}) ns λh' hn2 hs2=>?_;obtain⟨oD,esD,epD,hoD,hdD,hcD⟩:=hn2.count (PySem.Within.cons f u wi);refine WL (wpAny_lookBehind hoD (by rw[hdD];exact pastItsLine_dict (WS hcD (by rw[Xp];exact Nat.le_succ_of_le T4))) ?_);refine WM (h _ ?_);refine I.write (x:=dx) (e:=dx) (by rw[ed];exact True.intro) (.inl rfl) (λb q hb z=>(hs2.2 b hb).trans z) ⟨_,hoD⟩ (EV hn2 λg=>?_);show iL ((nA f y fs).lookup g) (if g=f then some u else mA g);rw[ej];by_cases q:g=f
 ·rw[Xu q,Xu q];exact ry
 ·rw[Xt q,Xt q];exact r g
theorem Kw{Q:Z4}(I:Inv X ac σ H s)(e:H a=some (xF a C none))(c:jq X.K C)(n:jb X.K C f)(ry:RelV y u)
  (h:∀dx s',H dx=none->Inv X ac σ (upd (upd (upd H dx (xD dx [])) a (xF a C (some dx))) dx (xD dx (nA f y []))) s'->Q () s'):wpAny (model X.prog X.w) A (setAttr (.ref a) f u) Q E s:=by
 obtain⟨⟨tt,sl,ha⟩,_⟩:=I.hok a _ e;have J:PySem.W.InstAt s.heap a {cls:=.ref C,dict:=none,data:=.fields (Mi tt),slots:=sl} C none:=⟨ha,rfl,rfl,True.intro⟩;obtain⟨cd,PE,hc,_,hd'⟩:=c.cls;refine PySem.W.set_plain I.j9 J c.sa (sF (s:={s with toks:=s.toks+1}) c I.j9 J n λb=>?_);refine WL (WM (WL (WL (wpAny_loadPart ha (WL (PySem.W.Looks.here (s:={s with toks:=s.toks+1}) (PySem.W.looks_clsIn I.j9 hc) ?_))))));rw[hd'];have na:a≠s.heap.objs.size:=Xd (WO ha);have fr:H s.heap.objs.size=none:=I.hok.fresh (WR _);have hgd:(s.heap.push {cls:=.type "dict",data:=.dict #[]}).get? s.heap.objs.size=some {cls:=.type "dict",data:=.dict #[]}:=WQ _ rfl;have hn0:(s.heap.push {cls:=.type "dict",data:=.dict #[]}).Ns1 s.heap.objs.size (λ_=>none):=Heap.Ns1.of_empty ⟨_,#[],_,hgd,rfl,λe he=>Xs he (by simp),λ_=>rfl⟩;have I1:Inv X ac σ (upd H s.heap.objs.size (xD s.heap.objs.size [])) {s with heap:=s.heap.push {cls:=.type "dict",data:=.dict #[]},toks:=s.toks+1} :=
  I.laid (λb u q=>WN _ q) (WR _) (EV hn0 λg=>True.intro)
 have ha1:(s.heap.push {cls:=.type "dict",data:=.dict #[]}).get? a=some {cls:=.ref C,dict:=none,data:=.fields (Mi tt),slots:=sl}:=WN _ ha;refine WL (wpAny_alloc' ?_);refine WL (wpAny_update' ha1 ?_);have ha2:((s.heap.push {cls:=.type "dict",data:=.dict #[]}).update a λo=>{cls:=o.cls,dict:=some s.heap.objs.size,data:=o.data,slots:=o.slots}).get? a=some {cls:=.ref C,dict:=some s.heap.objs.size,data:=.fields (Mi tt),slots:=sl}:=Heap.get?_update_self _ ha1 rfl;have I2:Inv X ac σ (upd (upd H s.heap.objs.size (xD s.heap.objs.size [])) a (xF a C (some s.heap.objs.size))) {s with heap:=(s.heap.push {cls:=.type "dict",data:=.dict #[]}).update a λo=>{cls:=o.cls,dict:=some s.heap.objs.size,data:=o.data,slots:=o.slots},toks:=s.toks+1} :=
  I1.write (x:=a) (e:=a) (by rw[aI na,e];exact True.intro) (.inl rfl) (λb q hb z=>(Heap.get?_update_ne _ _ _ _ hb).trans z) ⟨_,ha2⟩ (Jp ha2)
 have hd2:=I2.hok s.heap.objs.size (xD s.heap.objs.size []) (by rw[aI (Ne.symm na)];exact ag);obtain⟨⟨mA,ns,r⟩,_⟩:=hd2;refine WM (WL (WM (WL ?_)));refine wpAny_nsSet1 (s:={s with heap:=(s.heap.push {cls:=.type "dict",data:=.dict #[]}).update a λo=>{cls:=o.cls,dict:=some s.heap.objs.size,data:=o.data,slots:=o.slots},toks:=s.toks+1}) ns λh' hn2 hs2=>?_;obtain⟨oD,esD,epD,hoD,hdD,hcD⟩:=hn2.count (PySem.Within.cons f u (sE r));refine WL (wpAny_lookBehind hoD (by rw[hdD];exact pastItsLine_dict (WS hcD (by show 1<=sizeLine+1;exact Nat.succ_le_succ (Xe _)))) ?_);refine WM (h s.heap.objs.size _ fr ?_);refine I2.write (x:=s.heap.objs.size) (e:=s.heap.objs.size) (by rw[aI (Ne.symm na),ag];exact True.intro) (.inl rfl) (λb q hb z=>(hs2.2 b hb).trans z) ⟨_,hoD⟩ (EV hn2 λg=>?_);show iL ((nA f y []).lookup g) (if g=f then some u else mA g);rw[ej];by_cases q:g=f
 ·rw[Xu q,Xu q];exact ry
 ·rw[Xt q,Xt q];exact r g
end
section
variable{X:Cx}{CX:rq}{k:Nat}{f C:Addr}{fd:FuncData}{ps:List Str}{sp:Sp}{E:XK}{x:Str}{p pos:Pos}{e:Expr}{es:List Expr}{t:TA}
theorem Inv.OM{ac:Z1}{σ:St}{H:Hp}{s:Shared}{h':Heap}{a:Addr}{rest:Z6}(I:Inv X ac σ H s)(m:Heap.MadeExcOf s.heap h' a (.ref C) rest):H a=none/\Inv X ac σ (upd H a (xF a C none)) {s with heap:=h'}:=by obtain⟨t,et,_,_⟩:=m.there;have hn:=I.hok.none_of m.new;exact⟨hn,I.un (t':=s.toks) (Un.laidN m.keeps m.new hn) (I.hok.laidN m.keeps m.new (Jp et))⟩
def N6(C:Addr)(sp:Sp)(E:XK)(t:TA):TE:=λσ H Q=>t σ H λvs H1=>vs.length<=sizeLine/\∀a,H1 a=none->sp (.ref a::vs) (upd H1 a (xF a C none)) (λv H2=>v=.non/\Q (.ref a) H2) E
theorem Hw(hx:iW X.K C s_ "ValueError.__new__" (some (.ref f))=true)(hk:PySem.W.keepIn X.K (.ref C)=true)(hf:PySem.W.isFn X.K (.ref f)=true)(F:fE X.prog X.w X.K X.mg X.base CX k f fd ps sp)(hr:eV (k+1) X.A)(hg:Gl X x)(hm:X.mg x=some (.ref C))
  (hb:Binds X.K fd ps []) (hpx:Passes CX X E) (ha:PA X (e::es) t)
  (hdb:(x==("__debug__" : Str))=false:=by decide) (he:starEach (e::es) X.env=(false,eval e X.env)::starEach es X.env:=by rfl) (hpl:(backTo pos (starEach es X.env)).any (·.1)=false:=by rfl) :
  PE X (.Call (.Name x p) (e::es) [] pos) (N6 C sp E t):=by
 intro ac s σ H Q I h;refine wpAny_Call_Name_kw (l0 I hg hm ?_ hdb);refine PySem.W.callWith_K (h₀:=X.base) I.ok.mod.Ko hk (bZ (ha pos ac s σ H _ I h) λus s1 ⟨vs,H1,I1,r,hz,q⟩=>⟨I1.j9,?_⟩) he hpl;obtain⟨bm,N,nm,q',bs,hd,sn,sub,ab,col,dd,k0,k1,k2,k3,k5,mN,hC,hN,hni,T⟩:=mO I1.j9 hx;have hfn:∃oI,s1.heap.get? f=some oI/\oI.cls=.type "function":=by have z:PySem.W.typeIn X.K (.ref f)=some (.type "function"):=beq_iff_eq.mp hf;obtain⟨o,ho,hc⟩:=Option.map_eq_some_iff.mp (show(X.K.lookup f).map (·.cls)=some _ from z);exact⟨o,I1.j9 _ _ ho,hc⟩
 obtain⟨oI,hfI,hfc⟩:=hfn;obtain⟨hp,gs,dr,tk,os⟩:=s1;refine pe PySem.F.excBase_ValueError T hC hN hni hfI hfc (λh' a m=>?_) (by show us.length<=sizeLine;rw[←r.length];exact hz);obtain⟨hn,I2⟩:=I1.OM m;have hq:=q a hn;have r2:Vals (V.ref a::vs) (Value.ref a::us):=.cons rfl r;have hl:(Value.ref a::us).length=ps.length:=by rw[←r2.length];exact F.len _ _ _ _ hq
 have hl':((Value.ref a::us)++([]:Z6)).length=ps.length:=by rw[XC];exact hl
 have hb':=hb _ (Value.ref a::us) I2.j9 hl';rw[XC]at hb';refine wpAny_call (codeAny_mono (F.run _ X.stack _ _ ⟨Value.ref a::us,[]⟩ (Value.ref a::us) _ _ E (hr.make C us []) (I2.env0.make C us []) hb' r2 hq) λr s' hq'=>?_);cases r with
 |error ee=>exact hpx ac σ _ _ ee s' I2 hq'
 |ok fl =>
  cases fl with
  |ret u =>obtain⟨v,H',I3,rv,ev,q3⟩:=I2.after hq';subst ev;exact⟨rv,⟨V.ref a,H',I3,rfl,q3⟩⟩
  |next=>exact Xy hq'
  |brk=>exact Xy hq'
  |cont=>exact Xy hq'
end
section
variable{X:Cx}{o value:Expr}{ta tv:TE}{f:Str}{pos pos':Pos}
def LW(K:XO)(ta tv:TE)(f:Str):TS:=λD σ H=>tv σ H λy H1=>ta σ H1 λx H2=>∃a C,x=.ref a/\jq K C/\jb K C f/\
 ((H2 a=some (xF a C none)/\∀dx,H2 dx=none->D.nx σ (upd (upd (upd H2 dx (xD dx [])) a (xF a C (some dx))) dx (xD dx (nA f y []))))\/
  ∃dx fs,H2 a=some (xF a C (some dx))/\H2 dx=some (xD dx fs)/\fs.length<1000/\D.nx σ (upd H2 dx (xD dx (nA f y fs))))
theorem vK(ha:PE X o ta)(hv:PE X value tv)(hs:swapsWith value (some (.Attribute o f pos')) pos.line X.env=pure false):PS X (.Assign [.Attribute o f pos'] value pos) (LW X.K ta tv f):=by
 intro ac s σ H D I h;refine plainObj_wpAny_Assign_Attribute (bZ (hv ac s σ H _ I h) λu s1 ⟨y,H1,I1,ry,q⟩=>bZ (ha ac s1 σ H1 _ I1 q) λov s2 zz=>?_) hs;obtain⟨x,H2,I2,rx,a,C,ex,c,n,q2⟩:=zz;subst ex;obtain rfl:ov=Value.ref a:=rx;rcases q2 with⟨ea,q3⟩|⟨dx,fs,ea,ed,l,q3⟩
 ·exact Kw I2 ea c n ry λdx s3 hn I3=>⟨σ,_,I3,q3 dx hn⟩
 ·exact Mb I2 ea ed c n l ry λs3 I3=>⟨σ,_,I3,q3⟩
end
end L2
namespace PySem
section
variable{M:Model}{A:Around}{E:Z0}{env:Env}
variable{nm q:Str}{C N:Addr}{bs bm:Z6}{hdct:Bool}{sn:List Str}{sub:Z6}{ab:Bool}{col:Option Bool}{dd:Option Addr}{k0 k1 k2 k3 k5:Z7}{newId:String}
theorem wW{s:Shared}{x:Sem Value}{Q:Flow->Shared->Prop}(hbase:bm.contains (.type "BaseException")=true)(hh:A.handled=none)
  (h:wpAny M A x (λv s₁=>∃e t od sl,v=.ref e/\s₁.heap.get? C=some (excClassObj nm q C N bs bm hdct sn sub ab col dd k0 k1 k2 k3 k5 newId)/\
   s₁.heap.get? e=some {cls:=.ref C,dict:=od,data:=.fields #[.ref t,.none,.none,.none,.bool false,.none],slots:=sl}/\E (.ref e) s₁) E s) :
  wpAny M A (raiseStmt env (some x) none) Q E s:=by
 have hcB:(Value.ref C::bm).contains (.type "BaseException")=true:=by rw[List.contains_cons,hbase,Bool.or_true]
 unfold raiseStmt;refine WL (Xl h (λv s₁ h₁=>?_) λ_ _ x=>x);obtain⟨e,t,od,sl,rfl,hC,he,hE⟩:=h₁;obtain⟨hp,g,d,tk,os⟩:=s₁;repeat (first|with_reducible refine wpAny_loadPart_at he ?_|with_reducible refine wpAny_loadPart_at hC ?_ | (with_reducible refine wpAny_isSubtype_exc hC ?_;rw[hcB])|wp_step)
 exact wpAny_raiseNew_none hh hE
end
end PySem
namespace L2
open PySem PySem.Spec PyProof.Rows
def GJ(C:Addr)(E:XK)(te:TE):TS:=λ_ σ H=>te σ H λv H1=>∃a od,v=.ref a/\H1 a=some (xF a C od)/\E (.ref C) (some a) (upd H1 a (xO a C od))
theorem A2{X:Cx}{E:XK}{C:Addr}{pos:Pos}{e:Expr}{te:TE}{ini:Z7}(hc:X.calm=true)(hx:iW X.K C s_ "ValueError.__new__" ini=true)(he:PE (X.xs E) e te) :
  PS (X.xs E) (.Raise (some e) none pos) (GJ C E te):=by
 intro ac s σ H D I h;obtain⟨bm,N,nm,q',bs,hd,sn,sub,ab,col,dd,k0,k1,k2,k3,k5,mN,hC,hN,hni,T⟩:=mO I.ok.mod.Ko hx;rw[arm_exec_Raise];show wpAny _ _ (do standAt pos;raiseStmt X.env (some (do let v←eval e X.env;standAt pos;pure v)) none) _ _ s;refine WL (wpAny_standAt (wW (C:=C) (nm:=nm) (q:=q') (N:=N) (bs:=bs) (bm:=bm) (hdct:=hd) (sn:=sn) (sub:=sub) (ab:=ab) (col:=col) (dd:=dd) (k0:=k0) (k1:=k1) (k2:=k2) (k3:=k3) (k5:=k5) (newId:="ValueError.__new__") (T.hasType PySem.F.excBase_ValueError.hasBase) (I.ok.hd hc) ?_));refine WL (bZ (he ac s σ H _ I h) λu s1 ⟨v,H1,I1,rv,a,od,ev,ea,q⟩=>WL (wpAny_standAt (WM ?_)));subst ev;cases rv;obtain⟨⟨tt,sl,ha⟩,_⟩:=I1.hok a _ ea;refine⟨a,tt,od,sl,rfl,I1.bk _ _ hC,ha,?_⟩;have I2:=(I1.g_ (pins':=[]) λp hp=>Xs hp (by simp)).dc;have I3:Inv X [] σ (upd H1 a (xO a C od)) s1:=by have:=I2.write (x:=a) (e:=a) (h':=s1.heap) (t':=s1.toks) (o:=xO a C od) (by rw[ea];exact True.intro) (.inl rfl) (λb q hb z=>z) ⟨_,ha⟩ (DU ha);exact this
 exact⟨a,C,od,σ,upd H1 a (xO a C od),rfl,I3,⟨ag,_,_,ha,.inl rfl⟩,q⟩
end L2
namespace My
open PySem L2
structure Fl where
 o:Bool
 j:Bool
 f:Bool
 w:Bool
 l:Bool
def pO(s:Str):Bool:=!cC s
def pJ(s:Str):Bool:=decide (s="walk")||decide (s="both")||decide (s="meet")
def pF(s:Str):Bool:=decide (s="first")
def pW(s:Str):Bool:=decide (s="walk")
def flagsOf(ps:List Str)(l:Bool):Fl:=⟨ps.any pO,ps.any pJ,ps.any pF,ps.any pW,l⟩
def Kn.fl(k:Kn):Fl:=flagsOf k.ps k.lo
def looseW:Wk->Hd->Fl->Bool
 | .one (.keep c _),h,_=>decide (bx h c="t")
 | .one (.first n),_,f=>decide (¬n<=0)&&f.j
 | .meet ..,_,f=>f.w||f.f
 |_,_,_=>false
def ny:Wk->Fl->Bool
 | .one (.walk _ _),f=>!f.o
 | .meet _ _ p q,_=>(p++q).all λw=>cC w.nm
 |_,_=>true
def jm(x:Wk)(f:Fl)(hs:List Hd):Option Str :=
 if dk x hs=true then
  if bg x hs=true then
   if(bK x hs).length<=6 then
    if ny x f=true then
     if(jz x&&f.l)=true then some "loose" else none
    else some "rows"
   else some "wide"
  else some "sort"
 else some "column"
theorem any_eq(ps:List Str)(s:Str):ps.any (λt=>decide (t=s))=ly ps s:=by
 apply Bool.eq_iff_iff.mpr;rw[G_,List.any_eq_true];constructor
 ·rintro⟨t,h,e⟩;rw[←Xr e];exact h
 ·intro h;exact⟨s,h,WU rfl⟩
theorem CY(ps:List Str)(p q:Str->Bool):ps.any (λs=>p s||q s)=(ps.any p||ps.any q):=by
 induction ps with
 |nil=>rfl
 |cons a ps ih=>rw[XJ,XJ,XJ,ih];cases p a<;>cases q a<;>simp
theorem LI(ps:List Str):ps.any pJ=(ly ps "walk"||ly ps "both"||ly ps "meet"):=by unfold pJ;rw[CY ps (λs=>decide (s="walk")||decide (s="both")) (λs=>decide (s="meet")),CY,any_eq,any_eq,any_eq]
theorem Fz(x:Wk)(k:Kn):fu x k=looseW x k.hd k.fl:=by
 have e1:=LI k.ps;have e2:k.ps.any pF=ly k.ps "first":=any_eq _ _;have e3:k.ps.any pW=ly k.ps "walk":=any_eq _ _;cases x with
 |one x =>
  cases x<;>try rfl
  show(decide _&&(ly k.ps "walk"||ly k.ps "both"||ly k.ps "meet"))=(decide _&&k.ps.any pJ);rw[e1]
 |both p q=>rfl
 |meet c d p q =>show(ly k.ps "walk"||ly k.ps "first")=(k.ps.any pW||k.ps.any pF);rw[e2,e3]
theorem HG(x:Wk)(k:Kn):jW x k.ps=ny x k.fl:=by
 cases x with
 |one x =>
  cases x<;>try rfl
  show k.ps.all cC = !(k.ps.any pO);rw[List.not_any_eq_all_not];congr 1;funext s;show _ = !(!cC s);rw[Bool.not_not]
 |both p q=>rfl
 |meet c d p q=>rfl
theorem Kv(x:Wk)(k:Kn)(hs:List Hd):tD x k hs=jm x k.fl hs:=by unfold tD jm;rw[HG];rfl
def FP(x:Wk)(h:Hd)(f:Fl)(fs:List Fl):Fl:=⟨fs.any (λg=>g.o)||pO (aE x),fs.any (λg=>g.j)||pJ (aE x),fs.any (λg=>g.f)||pF (aE x),fs.any (λg=>g.w)||pW (aE x),looseW x h f||fs.any λg=>g.l⟩
theorem Gz{a b:List Str}{p:Str->Bool}(h:∀s,s∈a↔s∈b):a.any p=b.any p:=by
 apply Bool.eq_iff_iff.mpr;rw[List.any_eq_true,List.any_eq_true];constructor
 ·rintro⟨t,m,e⟩;exact⟨t,(h t).mp m,e⟩
 ·rintro⟨t,m,e⟩;exact⟨t,(h t).mpr m,e⟩
theorem uc(ks:List Kn)(x:Wk)(p:Str->Bool){ps:List Str}(h:AI ps (ks.flatMap (λk=>k.ps)++[aE x])):ps.any p=((ks.any λk=>k.ps.any p)||p (aE x)):=by rw[Gz h.2,List.any_append,List.any_flatMap];simp
theorem JG{x:Wk}{k k':Kn}{ks:List Kn}(h:AI k'.ps (ks.flatMap (λk=>k.ps)++[aE x]))(hl:k'.lo=(fu x k||ks.any λk=>k.lo)):k'.fl=FP x k.hd k.fl (ks.map Kn.fl):=by unfold Kn.fl flagsOf FP;rw[uc ks x pO h,uc ks x pJ h,uc ks x pF h,uc ks x pW h,hl,Fz,List.any_map,List.any_map,List.any_map,List.any_map,List.any_map];rfl
inductive Res where
 |ok (h:Hd) (f:Fl)
 |no (p:List Int) (s:Str)
def iI(x:Wk)(h:Hd)(f:Fl)(pl:List Int)(es:List (Hd×Fl)):Res:=match jm x f (es.map λe=>e.1)with
 |some s=>.no pl s
 |none=>.ok (bK x (es.map λe=>e.1)) (FP x h f (es.map λe=>e.2))
def fM(r:Res)(g:Hd->Fl->Res):Res:=match r with
 | .ok h f=>g h f
 | .no a s=>.no a s
def putL(step:Hd->Fl->List Int->Wk->Res)(pl:List Int):Nat->Hd->Fl->List Wk->Res
 |_,h,f,[]=>.ok h f
 |i,h,f,x::ws=>fM (step h f (pl++[(i:Int)]) x) λh' f'=>putL step pl (i+1) h' f' ws
def D6(step:Hd->Fl->List Int->Wk->Res)(x:Wk)(h:Hd)(f:Fl)(pl:List Int):List (List Wk)->Nat->List (Hd×Fl)->Res
 |[],_,es=>iI x h f pl es
 |p::ps,j,es=>fM (putL step (pl++[(j:Int)]) 0 h f p) λh' f'=>D6 step x h f pl ps (j+1) (es++[(h',f')])
def bV:Nat->Hd->Fl->List Int->Wk->Res
 | 0,h,f,pl,x=>iI x h f pl [(h,f)]
 |n+1,h,f,pl,x=>match x with
  | .one _=>iI x h f pl [(h,f)]
  |_=>D6 (bV n) x h f pl (cP x) 0 []
def CV:List Str:=["keep","same","cut","turn","must","walk","sort","apart","count","sum","number","first","both","meet","first 0"]
theorem CN(x:Wk):aE x∈CV:=by
 match x with
 | .one (.first n) =>show(if n<=0 then("first 0" : Str)else "first")∈CV;split<;>decide +kernel
 | .one (.keep ..) | .one (.same ..) | .one (.cut ..) | .one (.turn ..) | .one (.must ..) | .one (.walk ..) | .one (.sort ..) | .one .apart | .one (.count ..) | .one (.sum ..) | .one .number | .both .. | .meet ..=>exact List.mem_of_elem_eq_true (by simp only[aE,Wk.nm,W1.nm];decide +kernel)
theorem sub_len:∀{l m:List Str},l.Nodup->(∀s∈l,s∈m)->l.length<=m.length
 |[],m,_,_=>Xe _
 |a::l,m,hn,hs=>by
  rw[List.nodup_cons]at hn;have ha:a∈m:=hs a (by simp);have:=sub_len (l:=l) (m:=m.erase a) hn.2 λs h=>by
   have ne:s≠a:=by rintro rfl;exact hn.1 h
   exact(List.mem_erase_of_ne ne).mpr (hs s (by simp[h]))
  rw[List.length_erase_of_mem ha]at this;have hp:0<m.length:=List.length_pos_of_mem ha;rw[Xp];omega
theorem oq{x:Str}:¬wZ x x:=λh=>List.lt_irrefl _ h
structure nH(k:Kn):Prop where
 hd:k.hd.length<=6
 nd:k.ps.Nodup
 sub:∀s∈k.ps,s∈CV
theorem nH.few{k:Kn}(h:nH k):k.ps.length<=15:=sub_len h.nd h.sub
theorem nH.next{k':Kn}{ks:List Kn}{x:Wk}(hk:∀k∈ks,nH k)(hh:k'.hd.length<=6)(h:AI k'.ps (ks.flatMap (λk=>k.ps)++[aE x])):nH k':=by
 refine⟨hh,h.1.imp λ{a b} e z=>by subst z;exact oq e,λs hs=>?_⟩;rcases Xc.mp ((h.2 s).mp hs)with z|z
 ·obtain⟨k,h1,h2⟩:=List.mem_flatMap.mp z;exact(hk k h1).sub s h2
 ·rw[W9.mp z];exact CN x
def inClass(s:Stmt)(i:Nat):Stmt:=match s with
 | .ClassDef _ _ _ body _ _ _ _ _ _ _=>body.getD i (.Pass ⟨0,0,0,0⟩)
 |_=>.Pass ⟨0,0,0,0⟩
abbrev mj:Stmt:=inClass (top 6) 0
theorem Ij:ay ZV ZV (ar mj):=⟨rfl,rfl,rfl,by decide +kernel,rfl,by decide +kernel,by decide +kernel⟩
abbrev AG(pl wy:V):List (Str×V):=nA "why" wy (nA "place" pl [])
def zL(K:XO)(C:Addr):Sp:=λvs H Q _=>∃a v1 v2,vs=[.ref a,v1,v2]/\H a=some (xF a C none)/\jq K C/\jb K C "place"/\jb K C "why"/\
 ∀dx H',H dx=none->(∀b o,b≠a->H b=some o->H' b=some o)->H' a=some (xF a C (some dx))->H' dx=some (xD dx (AG v1 v2))->Q .non H'
structure KN(K:XO)(mg:Z2)(C fI:Addr):Prop where
 xc:jq K C
 np:jb K C "place"
 nr:jb K C "why"
 OV:iW K C s_ "ValueError.__new__" (some (.ref fI))=true
 kp:PySem.W.keepIn K (.ref C)=true
 fn:PySem.W.isFn K (.ref fI)=true
 mf:mg "NoPipe"=some (.ref C)
section
variable{P:Program}{w:World}{K:XO}{mg:Z2}{base:Heap}{f C:Addr}{fd:FuncData}
theorem DK(F:Cg K "__init__" "NoPipe.__init__" mj f fd):fE P w K mg base bf 1 f fd ZV (zL K C):=by
 refine F.ok Ij (λvs H Q E h=>?_) (λcdv A outer s H vs Q E hr h=>?_)
 ·obtain⟨a,v1,v2,rfl,_⟩:=h;rfl
 obtain⟨a,v1,v2,rfl,ha,c,n1,n2,q⟩:=h;refine⟨_,aq (vK (pv 0) (pv 1) rfl) (bA (vK (pv 0) (pv 2) rfl)),?_⟩;refine⟨_,rfl,_,rfl,a,C,rfl,c,n1,.inl ⟨ha,λdx hdx=>?_⟩⟩;have nd:a≠dx:=aV ha hdx;refine⟨_,rfl,_,rfl,a,C,rfl,c,n2,.inr ⟨dx,_,by rw[aI nd];exact ag,ag,by show 1<1000;decide,?_⟩⟩;refine q dx _ hdx (λb o nb e=>?_) (by rw[aI nd,aI nd];exact ag) ag;have Qj:b≠dx:=aV e hdx;rw[aI Qj,aI Qj,aI nb,aI Qj];exact e
end
abbrev Tr:=List (List Int×Bool)
def iF(r:Res)(g:Hd->Fl->Tr):Tr:=match r with
 | .ok h f=>g h f
 | .no _ _=>[]
def B8(st:Hd->Fl->List Int->Wk->Res)(tr:Hd->Fl->List Int->Wk->Tr)(pl:List Int):Nat->Hd->Fl->List Wk->Tr
 |i,_,f,[]=>[(pl++[(i:Int)],f.l)]
 |i,h,f,x::ws=>(pl++[(i:Int)],f.l)::(tr h f (pl++[(i:Int)]) x++iF (st h f (pl++[(i:Int)]) x) λh' f'=>B8 st tr pl (i+1) h' f' ws)
def Ca(st:Hd->Fl->List Int->Wk->Res)(tr:Hd->Fl->List Int->Wk->Tr)(h:Hd)(f:Fl)(pl:List Int):List (List Wk)->Nat->Tr
 |[],_=>[]
 |p::ps,j=>B8 st tr (pl++[(j:Int)]) 0 h f p++iF (putL st (pl++[(j:Int)]) 0 h f p) λ_ _=>Ca st tr h f pl ps (j+1)
def HW:Nat->Hd->Fl->List Int->Wk->Tr
 | 0,_,_,_,_=>[]
 |n+1,h,f,pl,x=>Ca (bV n) (HW n) h f pl (cP x) 0
abbrev TL(n:Nat)(pl:List Int)(i:Nat)(h:Hd)(f:Fl)(ws:List Wk):Tr:=B8 (bV n) (HW n) pl i h f ws
theorem Ax{n:Nat}{pl:List Int}{i:Nat}{h:Hd}{f:Fl}{x:Wk}{ws:List Wk}:TL n pl i h f (x::ws)=(pl++[(i:Int)],f.l)::(HW n h f (pl++[(i:Int)]) x++iF (bV n h f (pl++[(i:Int)]) x) λh' f'=>TL n pl (i+1) h' f' ws):=rfl
theorem vi{n:Nat}{h:Hd}{f:Fl}{pl:List Int}{p:List Wk}{ps:List (List Wk)}{j:Nat}:Ca (bV n) (HW n) h f pl (p::ps) j=TL n (pl++[(j:Int)]) 0 h f p++iF (putL (bV n) (pl++[(j:Int)]) 0 h f p) λ_ _=>Ca (bV n) (HW n) h f pl ps (j+1):=rfl
theorem OL{n:Nat}{pl:List Int}{i:Nat}{h:Hd}{f:Fl}{ws:List Wk}:TL n pl i h f ws≠[]:=by cases ws<;>exact λz=>by cases z
def At(pl:List Int)(i:Nat)(p:List Int):Prop:=∃(j:Nat)(r:List Int),i<=j/\p=pl++(j:Int)::r
structure Fits(pl:List Int)(i:Nat)(t:Tr):Prop where
 at_:∀e∈t,At pl i e.1
 nd:(t.map (·.1)).Nodup
theorem Fits.nil{pl:List Int}{i:Nat}:Fits pl i []:=⟨by simp,by simp⟩
theorem sS{pl:List Int}{i j:Nat}{r r':List Int}(e:pl++(i:Int)::r=pl++(j:Int)::r'):i=j/\r=r':=by have:=List.append_cancel_left e;injection this with h1 h2;exact⟨by omega,h2⟩
theorem xR{st:Hd->Fl->List Int->Wk->Res}{tr:Hd->Fl->List Int->Wk->Tr}(H:∀h f pl x,Fits pl 0 (tr h f pl x)){pl:List Int}:∀(ws:List Wk)(i:Nat)(h:Hd)(f:Fl),Fits pl i (B8 st tr pl i h f ws)
 |[],i,h,f=>⟨λe he=>by
   have:e=(pl++[(i:Int)],f.l):=by simpa[B8] using he
   rw[this];exact⟨i,[],WR _,rfl⟩,by simp[B8]⟩
 |x::ws,i,h,f=>by
  have hx:=H h f (pl++[(i:Int)]) x;have hr:Fits pl (i+1) (iF (st h f (pl++[(i:Int)]) x) λh' f'=>B8 st tr pl (i+1) h' f' ws):=by
   cases st h f (pl++[(i:Int)]) x with
   |ok h' f'=>exact xR H ws (i+1) h' f'
   |no a s=>exact .nil
  have ex:∀e∈tr h f (pl++[(i:Int)]) x,∃(k:Nat)(r:List Int),e.1=pl++(i:Int)::(k:Int)::r:=λe he=>by obtain⟨k,r,_,e1⟩:=hx.at_ e he;exact⟨k,r,by rw[e1];simp⟩
  revert hr;show Fits pl (i+1) _->Fits pl i ((pl++[(i:Int)],f.l)::(tr h f (pl++[(i:Int)]) x++_));generalize (iF (st h f (pl++[(i:Int)]) x) λh' f'=>B8 st tr pl (i+1) h' f' ws)=R;intro hr;refine⟨λe he=>?_,?_⟩
  ·rcases Xa.mp he with rfl|he
   ·exact⟨i,[],WR _,rfl⟩
   ·rcases Xc.mp he with z|z
    ·obtain⟨k,r,e1⟩:=ex e z;exact⟨i,_,WR _,e1⟩
    ·obtain⟨j,r,hj,e1⟩:=hr.at_ e z;exact⟨j,r,by omega,e1⟩
  ·rw[XH,WX,List.nodup_cons,List.nodup_append];refine⟨λhm=>?_,hx.nd,hr.nd,λa ha b hb e=>?_⟩
   ·rcases Xc.mp hm with z|z
    ·obtain⟨e,he,q⟩:=W_.mp z;obtain⟨k,r,e1⟩:=ex e he;rw[e1]at q;have:=(sS (r':=[]) q).2;cases this
    ·obtain⟨e,he,q⟩:=W_.mp z;obtain⟨j,r,hj,e1⟩:=hr.at_ e he;rw[e1]at q;have:=(sS (r':=[]) q).1;omega
   ·obtain⟨e1,h1,rfl⟩:=W_.mp ha;obtain⟨e2,h2,q⟩:=W_.mp hb;obtain⟨k,r,z1⟩:=ex e1 h1;obtain⟨j,r',hj,z2⟩:=hr.at_ e2 h2;rw[←e,z1,z2]at q;have:=(sS q).1;omega
theorem Ec{st:Hd->Fl->List Int->Wk->Res}{tr:Hd->Fl->List Int->Wk->Tr}(H:∀h f pl x,Fits pl 0 (tr h f pl x)){h:Hd}{f:Fl}{pl:List Int}:∀(ps:List (List Wk))(j:Nat),Fits pl j (Ca st tr h f pl ps j)
 |[],j=>.nil
 |p::ps,j=>by
  have hx:=xR (st:=st) H (pl:=pl++[(j:Int)]) p 0 h f;have hr:Fits pl (j+1) (iF (putL st (pl++[(j:Int)]) 0 h f p) λ_ _=>Ca st tr h f pl ps (j+1)):=by
   cases putL st (pl++[(j:Int)]) 0 h f p with
   |ok h' f'=>exact Ec H ps (j+1)
   |no a s=>exact .nil
  have ex:∀e∈B8 st tr (pl++[(j:Int)]) 0 h f p,∃(r:List Int),e.1=pl++(j:Int)::r:=λe he=>by obtain⟨k,r,_,e1⟩:=hx.at_ e he;exact⟨_,by rw[e1];simp;rfl⟩
  revert hr;show Fits pl (j+1) _->Fits pl j (B8 st tr (pl++[(j:Int)]) 0 h f p++_);generalize (iF (putL st (pl++[(j:Int)]) 0 h f p) λ_ _=>Ca st tr h f pl ps (j+1))=R;intro hr;refine⟨λe he=>?_,?_⟩
  ·rcases Xc.mp he with z|z
   ·obtain⟨r,e1⟩:=ex e z;exact⟨j,_,WR _,e1⟩
   ·obtain⟨k,r,hj,e1⟩:=hr.at_ e z;exact⟨k,r,by omega,e1⟩
  ·rw[WX,List.nodup_append];refine⟨hx.nd,hr.nd,λa ha b hb e=>?_⟩;obtain⟨e1,h1,rfl⟩:=W_.mp ha;obtain⟨e2,h2,q⟩:=W_.mp hb;obtain⟨r,z1⟩:=ex e1 h1;obtain⟨k,r',hj,z2⟩:=hr.at_ e2 h2;rw[←e,z1,z2]at q;have:=(sS q).1;omega
theorem EA:∀(n:Nat)(h:Hd)(f:Fl)(pl:List Int)(x:Wk),Fits pl 0 (HW n h f pl x)
 | 0,_,_,_,_=>.nil
 |n+1,h,f,pl,x=>Ec (EA n) (cP x) 0
theorem Od{n:Nat}{pl:List Int}{i:Nat}{h:Hd}{f:Fl}{ws:List Wk}:((TL n pl i h f ws).map (·.1)).Nodup:=(xR (EA n) ws i h f).nd
structure jd(H:Hp)(as:Z8)(t:Tr):Prop where
 len:as.length=t.length
 at_:∀(i:Nat) a e,as[i]? = some a->t[i]? = some e->∃q hh,H a=some (.tup [.ref q,hh,.bl e.2])/\H q=some (.tup (e.1.map V.int))
theorem jd.nil{H:Hp}:jd H [] []:=⟨rfl,λi a e h=>by cases h⟩
theorem jd.app{H:Hp}{as bs:Z8}{t u:Tr}(h:jd H as t)(h':jd H bs u):jd H (as++bs) (t++u):=by
 refine⟨by rw[WW,WW,h.len,h'.len],λi a e e1 e2=>?_⟩;have hl:=h.len;by_cases hi:i<as.length
 ·rw[Xh hi]at e1;rw[Xh (by omega)]at e2;exact h.at_ i a e e1 e2
 ·rw[Xg (by omega)]at e1;rw[Xg (by omega),←hl]at e2;exact h'.at_ _ a e e1 e2
theorem jd.one{H:Hp}{a q:Addr}{hh:V}{p:List Int}{b:Bool}(h1:H a=some (.tup [.ref q,hh,.bl b]))(h2:H q=some (.tup (p.map V.int))):jd H [a] [(p,b)] :=
 ⟨rfl,λi c e e1 e2=>by
  cases i with
  |zero=>cases e1;cases e2;exact⟨q,hh,h1,h2⟩
  |succ i=>cases e1⟩
def FO(H:Hp)(xs ys:List V)(t:Tr):Prop:=∃as:Z8,ys=xs++as.map V.ref/\jd H as t
theorem FO.app{H:Hp}{xs ys:List V}{t u:Tr}{bs:Z8}(h:FO H xs ys t)(h':jd H bs u):FO H xs (ys++bs.map V.ref) (t++u):=by obtain⟨as,rfl,h1⟩:=h;exact⟨as++bs,by rw[WX,List.append_assoc],h1.app h'⟩
def Kf:Nat->Hd->Fl->List Int->Wk->Nat->Tr
 | 0,_,_,_,_,_=>[]
 |n+1,h,f,pl,x,j=>Ca (bV n) (HW n) h f pl ((cP x).drop j) j
theorem Jd{n:Nat}{h:Hd}{f:Fl}{pl:List Int}{x:Wk}:HW n h f pl x=Kf n h f pl x 0:=by cases n<;>rfl
theorem zP{n:Nat}{h:Hd}{f:Fl}{pl:List Int}{x:Wk}{j:Nat}(hj:(cP x).length<=j):Kf n h f pl x j=[]:=by
 cases n with
 |zero=>rfl
 |succ n=>show Ca _ _ _ _ _ ((cP x).drop j) j=[];rw[List.drop_of_length_le hj];rfl
theorem Ff{m:Nat}{h h':Hd}{f f':Fl}{pl:List Int}{x:Wk}{j:Nat}{p:List Wk}(e:(cP x).drop j=p::(cP x).drop (j+1))(er:putL (bV m) (pl++[(j:Int)]) 0 h f p=.ok h' f'):Kf (m+1) h f pl x j=TL m (pl++[(j:Int)]) 0 h f p++Kf (m+1) h f pl x (j+1):=by show Ca _ _ _ _ _ ((cP x).drop j) j=_;rw[e,vi,er];rfl
theorem J8{m:Nat}{h:Hd}{f:Fl}{pl:List Int}{x:Wk}{j:Nat}{p:List Wk}{a:List Int}{s:Str}(e:(cP x).drop j=p::(cP x).drop (j+1))(er:putL (bV m) (pl++[(j:Int)]) 0 h f p=.no a s):Kf (m+1) h f pl x j=TL m (pl++[(j:Int)]) 0 h f p:=by show Ca _ _ _ _ _ ((cP x).drop j) j=_;rw[e,vi,er];exact XC _
end My
namespace L2
open PySem PySem.Spec PyProof.Rows
section
variable{X:Cx}{ac:Z1}{σ:List (Option V)}{H H':Hp}{s:Shared}{h':Heap}
theorem Inv.rS{t':Nat}{fp:Z8}{T:Addr}{xs:List V}(I:Inv X ac σ H s)(hf:∀b∈fp,dE X ac H b)(k:∀b o,b∉fp->s.heap.get? b=some o->h'.get? b=some o)(hT:s.heap.objs.size<=T)
  (new:cw X.prog X.w (upd H T (.tup xs)) h' T (.tup xs)):Inv X ac σ (upd H T (.tup xs)) {s with heap:=h',toks:=t'}:=by
 have nT:H T=none:=I.hok.fresh hT;have Jz:∀b u,H b=some u->b∉fp:=λb u e z=>by rw[(hf b z).1]at e;cases e
 have UU:∀b o,s.heap.get? b=some o->b≠T:=λb o e z=>by have:=WO e;rw[z]at this;exact Xs (WZ this hT) (Nat.lt_irrefl _)
 refine I.step (g':=s.gens) (d':=s.drawn) (ch:=fp) (λb hb=>?_) (λb o _ _ hc e _=>k b o hc e) (λb o _ _ hc e _=>⟨o.slots,k b o hc e⟩) (λb o hc e n=>by rw[aI (UU b o e)];exact n)
  (λb o hc e=>⟨o,k b o hc e⟩) (λb ys e=>by rw[aI (aV e nT)];exact e) (λb o u e=>by rw[aI (aV e nT)];exact e) (λb ps e=>⟨#[],by rw[aI (aV e nT),e];simp⟩) (λm hm=>?_) (λb u e=>?_) I.bare
 ·obtain⟨f0,f1,f2,f3,f4,f5⟩:=hf b hb;exact⟨f3,f1,f4,f5⟩
 ·obtain⟨o,es,ep,ho,r⟩:=hm;exact⟨o,es,ep,k _ o (λz=>(hf _ z).2.1 rfl) ho,r⟩
 ·by_cases hb:b=T
  ·subst hb;rw[ag]at e;cases e;exact new
  ·rw[aI hb]at e;refine(I.hok b u e).stay (λc v hc q=>k c v ?_ q) (λc q=>by rw[aI (aV q nT)];exact q) λc ys q=>by rw[aI (aV q nT)];exact q
   rcases hc with z|z
   ·rw[z];exact Jz b u e
   ·exact Jz c _ z
theorem Inv.pD{t':Nat}{fp:Z8}(I:Inv X ac σ H s)(hf:∀b∈fp,dE X ac H b)(k:∀b o,b∉fp->s.heap.get? b=some o->h'.get? b=some o):Inv X ac σ H {s with heap:=h',toks:=t'}:=by
 have Jz:∀b u,H b=some u->b∉fp:=λb u e z=>by rw[(hf b z).1]at e;cases e
 refine I.step (g':=s.gens) (d':=s.drawn) (ch:=fp) (λb hb=>?_) (λb o _ _ hc e _=>k b o hc e) (λb o _ _ hc e _=>⟨o.slots,k b o hc e⟩) (λb o hc e n=>n)
  (λb o hc e=>⟨o,k b o hc e⟩) (λb ys e=>e) (λb o u e=>e) (λb ps e=>⟨#[],by rw[e];simp⟩) (λm hm=>?_) (λb u e=>?_) I.bare
 ·obtain⟨f0,f1,f2,f3,f4,f5⟩:=hf b hb;exact⟨f3,f1,f4,f5⟩
 ·obtain⟨o,es,ep,ho,r⟩:=hm;exact⟨o,es,ep,k _ o (λz=>(hf _ z).2.1 rfl) ho,r⟩
 ·refine(I.hok b u e).stay (λc v hc q=>k c v ?_ q) (λ_ q=>q) λ_ _ q=>q;rcases hc with z|z
  ·rw[z];exact Jz b u e
  ·exact Jz c _ z
end
section
variable{prog:Program}{w:World}{A:Around}{E:Z0}{s:Shared}
theorem kZ{it t:Addr}{i:Nat}{items:Array Value}{x:Value}{Q:Z0}(hit:s.heap.IsTupleIter it t i)(ht:s.heap.IsTuple t items)(hx:items[i]? = some x)
  (hQ:∀h',h'.IsTupleIter it t (i+1)->Heap.SameBut it s.heap h'->Q x {s with heap:=h'}):wpAny (model prog w) A (Builtin.SmallTypes.nextOf (.ref it)) Q E s:=by
 obtain⟨o,ho,hc,hd⟩:=id hit;obtain⟨ol,hol,_,nl,hdl⟩:=ht;unfold Builtin.SmallTypes.nextOf;refine WL (wpAny_callSpecial?_slot (name:=Str.ofString "__next__") hit.typeIs F.slot_tuple_iterator_next (XD F.slot_tuple_iterator_next hit.typeIs F.entry_tuple_iterator_next ?_ (F.args_tuple_iterator_next_1 _)));show wpAny _ _ (field (.ref it) 0 >>= _) _ _ s;refine WL (wpAny_field ho hd (x:=.ref t) rfl ?_);show wpAny _ _ (if(Value.ref t==Value.none)=true then _ else _) _ _ s;rw[Xt (show¬((Value.ref t==Value.none)=true) from W6)];show wpAny _ _ (field (.ref it) 1 >>= _) _ _ s;refine WL (wpAny_field ho hd (x:=.int i 0) rfl ?_);show wpAny _ _ (seqItems? (.ref t) >>= _) _ _ s;refine WL (wpAny_seqItems hol hdl ?_);simp only[Int.toNat_natCast,hx];refine WL (wpAny_setField ho hd (by simp) (WM ⟨x,rfl,WM (hQ _ ?_ (Heap.SameBut.update ..))⟩));exact⟨_,Heap.get?_update_self _ ho (Obj.isFreed_of_fields (Obj.data_mapFields hd _)),(Obj.cls_mapFields ..).trans hc,by rw[Obj.data_mapFields hd];simp[rawInt]⟩
end
section
variable{prog:Program}{w:World}{A:Around}{E:Z0}{s:Shared}
theorem gI{it t:Addr}{i:Nat}{items:Array Value}{Q:Z0}(hh:A.handled=none)(hit:s.heap.IsTupleIter it t i)(ht:s.heap.IsTuple t items)(hx:items[i]? = none)
  (hE:∀h' e,Heap.ExtBut it s.heap h'->(∃o,h'.get? e=some o/\o.cls=.type "StopIteration")->E (.ref e) {s with heap:=h'}):wpAny (model prog w) A (Builtin.SmallTypes.nextOf (.ref it)) Q E s:=by
 obtain⟨o,ho,hc,hd⟩:=id hit;obtain⟨ol,hol,_,nl,hdl⟩:=ht;unfold Builtin.SmallTypes.nextOf;refine WL (wpAny_callSpecial?_slot (name:=Str.ofString "__next__") hit.typeIs F.slot_tuple_iterator_next (XD F.slot_tuple_iterator_next hit.typeIs F.entry_tuple_iterator_next ?_ (F.args_tuple_iterator_next_1 _)));show wpAny _ _ (field (.ref it) 0 >>= _) _ _ s;refine WL (wpAny_field ho hd (x:=.ref t) rfl ?_);show wpAny _ _ (if(Value.ref t==Value.none)=true then _ else _) _ _ s;rw[Xt (show¬((Value.ref t==Value.none)=true) from W6)];show wpAny _ _ (field (.ref it) 1 >>= _) _ _ s;refine WL (wpAny_field ho hd (x:=.int i 0) rfl ?_);show wpAny _ _ (seqItems? (.ref t) >>= _) _ _ s;refine WL (wpAny_seqItems hol hdl ?_);simp only[Int.toNat_natCast,hx];refine WL (wpAny_rule (WL (wpAny_setField ho hd (by simp) ?_)));show wpAny _ _ (newExc (.type "StopIteration") [] >>= _) _ _ _;refine WL ?_;simp only[newExc,newTuple];refine WL (Xn ?_ (by size_fits));refine WL (m:=firstArgMember _ _) (wpAny_of_eq (a:=Value.none) (by first|rfl | (simp only[firstArgMember];rfl)) ?_);refine Xn ?_ (by size_fits);simp only[raiseNew];refine WL (wpAny_handled ?_);first|rw[show A.in1.handled=none from hh]|rw[hh]
 refine WL (WM (wpAny_throw ?_));exact hE _ _ (((Heap.SameBut.update ..).extBut.push _).push _) ⟨_,WQ _ rfl,rfl⟩
theorem tG{h h':Heap}{a b:Addr}{xs:Array Value}(x:h.IsTuple a xs)(hs:Heap.ExtBut b h h')(hab:a≠b):h'.IsTuple a xs:=let ⟨o,ho,r⟩:=x;⟨o,hs a o hab ho,r⟩
theorem BE(hh:A.handled=none)(it t:Addr)(hne:t≠it)(items:Array Value):Draws prog w A it [it,t] items.size (λi v=>items[i]? = some v) (λi h=>h.IsTupleIter it t i/\h.IsTuple t items) where
 live:=λ_ _ st=>let ⟨o,ho,_⟩:=st.1;⟨o,ho⟩
 frame:=λ_ _ _ st hk=>⟨st.1.at λo e=>hk it (by simp) o e,let ⟨o,ho,r⟩:=st.2;⟨o,hk t (by simp) o ho,r⟩⟩
 item:=λi s Q E hi st hQ=>by refine kZ st.1 st.2 (x:=items[i]) (by simp[hi]) λh' hit' hs'=>?_;exact hQ _ h' s.toks (by simp[hi]) ⟨hit',tG st.2 hs'.extBut hne⟩ hs'
 done:=λs Q E st hE=>gI hh st.1 st.2 (by simp) hE
abbrev Pt(h:Heap)(t:Addr):Heap:=h.push {cls:=.type "tuple_iterator",data:=.fields #[.ref t,.int 0 0]}
abbrev S1(h:Heap)(t:Addr):Heap:=(Pt h t).push {cls:=.type "enumerate",data:=.fields #[.none,.bool false,.ref h.objs.size,rawInt 0,.none,.none]}
theorem vk(t:Addr)(items:Array Value)(n:Nat)(dct:Option Addr)(sl:Array (Z7)) :
  Meets (Builtin.«enumerate.__new__» ⟨[.type "enumerate",.ref t],[]⟩) (λ_ R s=>s.heap.get? t=some {cls:=.type "tuple",dict:=dct,data:=.seq items n,slots:=sl}/\R (.ok (.ret (.ref (Pt s.heap t).objs.size))) {s with heap:=S1 s.heap t}) :=
 .of_wp λprog w A R s h=>by
  obtain⟨hp,g,d,tk,os⟩:=s;obtain⟨hl,h⟩:=h;have hsub:=sub_enumerate;have hL:Heap.IsTuple (Shared.heap ⟨hp,g,d,tk,os⟩) t items:=⟨_,hl,rfl,n,rfl⟩
  wp_walk using AutoSeq1.wpAny_loadPart' hl
  refine wpAny_stack_any λst=>WM ?_;split
  ·rename_i c _ _ _ _ _;cases(c==Value.type "enumerate")
   ·wp_walk using AutoSeq1.wpAny_loadPart' hl,wpAny_pyIter_tuple hL
    exact⟨_,rfl,h⟩
   ·wp_walk using AutoSeq1.wpAny_loadPart' hl,wpAny_pyIter_tuple hL
    exact⟨_,rfl,h⟩
  ·wp_walk using AutoSeq1.wpAny_loadPart' hl,wpAny_pyIter_tuple hL
   exact⟨_,rfl,h⟩
theorem yy{t:Addr}{items:Array Value}{Q:Z0}(hL:s.heap.IsTuple t items)
  (h:∀h',IsEnum h' (s.heap.objs.size+1) s.heap.objs.size 0 .none->h'.IsTupleIter s.heap.objs.size t 0->h'.objs.size=s.heap.objs.size+2->(∀b o,s.heap.get? b=some o->h'.get? b=some o)->Q (.ref (s.heap.objs.size+1)) {s with heap:=h'}) :
  wpAny (model prog w) A (call (.type "enumerate") [.ref t]) Q E s:=by
 obtain⟨⟨c,dct,dt,sl⟩,hl,hc,n,hd⟩:=hL;replace hc:c=.type "tuple":=hc;replace hd:dt=.seq items n:=hd;subst hc hd;refine callType_new F.called_enumerate (by decide) (F.typeCall_enumerate_1 _) (F.newCall_enumerate_1 _) (λobj=>F.args_object_init_2 obj _) F.entry_enumerate_new (vk t items n dct sl) ⟨hl,?_⟩;have hz:(Pt s.heap t).objs.size=s.heap.objs.size+1:=Heap.size_push ..;show _/\_;have he:(S1 s.heap t).get? (Pt s.heap t).objs.size=some _:=WQ _ rfl;rw[hz]at he;rw[hz];exact⟨⟨_,he,rfl⟩,h _ he ⟨_,WN _ (WQ _ rfl),rfl,rfl⟩ (by rw[Heap.size_push,hz]) λb o x=>WN _ (WN _ x)⟩
end
def MX(K:XO)(a:Addr):It :=
 ⟨λi H=>∃xs x,aJ K H a xs/\xs[i]? = some x,
   λi H v H'=>∃T x,v=.ref T/\H T=none/\H'=upd H T (.tup [.int (i:Nat),x])/\∀xs,aJ K H a xs->xs[i]? = some x,
   λi H=>∃xs,aJ K H a xs/\xs.length<=i⟩
theorem x_{P:Program}{w:World}{K:XO}{es:List Expr}{x1:Nat}{pos:Pos}(a e it:Addr)(hne:e≠it) :
  Turn P w K (.Tuple es x1 pos) (MX K a) [e,it] e (λi h=>(∃old,IsEnum h e it (i:Nat) old)/\h.IsTupleIter it a i) where
 mem:=by simp
 obj:=λi h st c hc=>by
  obtain⟨⟨old,h1⟩,⟨o4,e4,c4,d4⟩⟩:=st;simp only[Xa,Xv,or_false]at hc;rcases hc with rfl|rfl
  ·exact⟨_,h1,λv z=>by cases(show Data.fields _=Data.cell v from z)⟩
  ·exact⟨o4,e4,λv z=>by rw[d4]at z;cases z⟩
 keep:=λi h h' st k=>by obtain⟨⟨old,h1⟩,h4⟩:=st;exact⟨⟨old,k e (by simp) _ h1⟩,h4.at λo q=>k it (by simp) o q⟩
 item:=by
  intro X hP hw hK hc i ac s σ H E I hf st hg;subst hP hw hK;obtain⟨xs,x,hq,hx⟩:=hg;obtain⟨its,rv,p,hz⟩:=I.tuple hq;obtain⟨u,hu,ru⟩:=rv.get hx;obtain⟨⟨old,h1⟩,h4⟩:=st;have p':s.heap.IsTuple a its.toArray:=p;have Ux:e≠a:=λz=>by obtain⟨o,eo,co,_⟩:=p';rw[←z,h1]at eo;cases eo;exact Xs (Value.type.inj co) (by decide)
  have Vh:a≠it:=λz=>by obtain⟨o,eo,co,_⟩:=p';obtain⟨o4,e4,c4,_⟩:=h4;rw[z,e4]at eo;cases eo;exact Xs (Value.type.inj (c4.symm.trans co)) (by decide)
  have hu':its.toArray[i]? = some u:=by simpa using hu
  have hlt:i<its.toArray.size:=by
   rcases Nat.lt_or_ge i its.toArray.size with z|z
   ·exact z
   ·rw[Array.getElem?_eq_none z]at hu';cases hu'
  refine wpAny_pyNext_enum_itemD (BE (show X.A.in1.handled=none from I.ok.hd hc) it a Vh its.toArray) h1 ⟨h4,p'⟩ hlt hne (by simp[hne,Ux]) λy h' tk hy g1 g2 g3 gs g6=>⟨_,rfl,?_⟩;have Ul:y=u:=by rw[hu']at hy;exact(Xf hy).symm
  subst Ul;refine wpAny_letOwnedTupleGo_enum (show IsEnumOut h' e it ((i:Int)+1) y s.heap.objs.size from g1) λh'' f1 fs=>?_;have elt:e<s.heap.objs.size:=WO h1;have QP:s.heap.objs.size≠e:=Nat.ne_of_gt elt;have kk:∀c o,c∉[e,it]->s.heap.get? c=some o->h''.get? c=some o:=λc o hc q=>by simp only[Xa,Xv,or_false,not_or]at hc;exact fs.extBut _ _ hc.1 (g6 c o hc.1 hc.2 q)
  have pT:=fs.extBut _ _ QP g3;have I1:Inv X ac σ (upd H s.heap.objs.size (.tup [.int (i:Nat),x])) {s with heap:=h'',toks:=tk+1}:=I.rS hf kk (WR _) ⟨by show 2<=sizeLine;decide,[.int (i:Nat) tk,y],.cons ⟨tk,rfl⟩ (.cons ru .nil),⟨_,pT,rfl,⟨_,rfl⟩,rfl⟩⟩;refine⟨.ref s.heap.objs.size,_,I1,rfl,⟨_,x,rfl,I.hok.fresh (WR _),rfl,λys hy'=>by rw[I.iB hy' hq];exact hx⟩,⟨⟨_,f1⟩,g2.1.extBut fs.extBut hne.symm⟩,λc hc=>?_⟩;have hn:=(hf c hc).1;have:c≠s.heap.objs.size:=by
   simp only[Xa,Xv,or_false]at hc;obtain⟨o4,e4,_⟩:=h4;rcases hc with rfl|rfl
   ·exact Xd elt
   ·exact Xd (WO e4)
  rw[aI this];exact hn
 done:=by
  intro X hP hw hK hc i ac s σ H E I hf st hg;subst hP hw hK;obtain⟨xs,hq,hx⟩:=hg;obtain⟨its,rv,p,hz⟩:=I.tuple hq;obtain⟨⟨old,h1⟩,h4⟩:=st;have hl:=rv.length;have hn:its.toArray[i]? = none:=by simp;omega
  unfold pyNext;have hT:s.TypeIs (.ref e) "enumerate":=⟨_,h1,rfl⟩;refine WL (wpAny_attempt (wpAny_callSpecial?_slot (name:=Str.ofString "__next__") hT F.slot_enumerate_next (XD F.slot_enumerate_next hT F.entry_enumerate_next ?_ (F.args_enumerate_next_1 _))));show wpAny _ _ (field (.ref e) 2 >>= _) _ _ _;refine WL (wpAny_field h1 rfl (x:=.ref it) rfl ?_);refine WL (gI (show X.A.in1.handled=none from I.ok.hd hc) h4 (show s.heap.IsTuple a its.toArray from p) hn λh' x he' hx'=>?_);obtain⟨o,ho,hco⟩:=hx';refine WL (wpAny_isInstance (T:="StopIteration") (b:=true) ⟨o,ho,hco⟩ isSubtype_stop ?_);refine WM ⟨rfl,I.pD (t':=s.toks) hf λc o hc q=>?_⟩;simp only[Xa,Xv,or_false,not_or]at hc;exact he' c o hc.2 q
 self:=λ_ _ _ _ _ st h=>let ⟨⟨_,h1⟩,_⟩:=st;wpAny_pyIter_enum h1 h
section
variable{X:Cx}
def N1(K:XO)(ta:TA):TI:=λσ H R=>ta σ H λvs H1=>∃a,vs=[.ref a]/\(∃xs,aJ K H1 a xs)/\R (MX K a) H1
theorem pB{es:List Expr}{x1:Nat}{tpos:Pos}{a:Expr}{ta:TA}{p pos:Pos}(hg:Gl X "enumerate")(hm:X.mg "enumerate"=none)(ha:PA X [a] ta)(hs:starEach [a] X.env=[(false,eval a X.env)]:=by rfl) :
  PI X (.Tuple es x1 tpos) (.Call (.Name "enumerate" p) [a] [] pos) (N1 X.K ta):=by
 intro ac s σ H R I h;refine Call_ (iR I hg hm (by decide +kernel:bootBuiltins "enumerate"=some (.type "enumerate")) (PyProof.Rows.callWith_type1 (bZ (ha pos ac s σ H _ I h) λus s1 zz=>?_) hs rfl));obtain⟨vs,H1,I1,r1,q1⟩:=zz;obtain⟨l1,e,⟨xs,hq1⟩,q⟩:=q1;subst e;cases r1 with
 |cons r rr =>
  cases rr;cases r;obtain⟨its,rv,p1,hz⟩:=I1.tuple hq1;refine yy p1 λh' he hi hsz hk=>?_;refine wpAny_pyIter_enum (show IsEnum h' _ _ _ _ from he) ?_;refine⟨_,[s1.heap.objs.size+1,s1.heap.objs.size],_,_,H1,rfl,I1.kept (t':=s1.toks) hk,x_ _ _ _ (Nat.succ_ne_self _),⟨⟨_,he⟩,hi⟩,λc hc=>?_,q⟩;simp only[Xa,Xv,or_false]at hc;have hle:s1.heap.objs.size<=c:=by rcases hc with rfl|rfl<;>first|exact WR _|exact Nat.le_add_right _ _
  exact I1.ml hle (I1.hok.fresh hle)
end
theorem mn{K:XO}{a:Addr}{xs:List V}{g:TG}{tb:TS}{D:Ends}{σ:St}{H:Hp}(Pv:Nat->St->Hp->Prop)(h0:Pv 0 σ H)(hl:∀i σ H,i<=xs.length->Pv i σ H->aJ K H a xs)
  (hs:∀i x σ H T,xs[i]? = some x->Pv i σ H->H T=none->g (.ref T) σ (upd H T (.tup [.int (i:Nat),x])) λde H2=>tb {D with nx:=Pv (i+1),ct:=Pv (i+1),bk:=D.nx} de H2) (hd:∀σ H,Pv xs.length σ H->D.nx σ H) :
  ∃W:Nat->Nat->St->Hp->Prop,(∃m,W 0 m σ H)/\∀i m σ H,W i m σ H->
   ((MX K a).stop i H/\D.nx σ H)\/((MX K a).go i H/\∃N:St->Hp->Prop,(∀σ' H',N σ' H'->∃m',m'<m/\W (i+1) m' σ' H')/\∀x H',(MX K a).FN i H x H'->g x σ H' λde H2=>tb {D with nx:=N,ct:=N,bk:=D.nx} de H2):=by
 refine⟨λi m σ H=>m=xs.length-i/\i<=xs.length/\Pv i σ H,⟨xs.length,by simp,Xe _,h0⟩,?_⟩;rintro i m σ H ⟨rfl,hi,p⟩;have q:=hl i σ H hi p;by_cases hlt:i<xs.length
 ·refine .inr ⟨⟨xs,xs[i],q,by simp[hlt]⟩,Pv (i+1),λσ' H' p'=>⟨xs.length-(i+1),by omega,rfl,hlt,p'⟩,λv H' y=>?_⟩;obtain⟨T,x,rfl,hT,rfl,hx⟩:=y;exact hs i x σ H T (hx xs q) p hT
 ·have e:i=xs.length:=by omega
  subst e;exact .inl ⟨⟨xs,q,WR _⟩,hd σ H p⟩
end L2
namespace My
open PySem L2
section
variable{X:Cx}{N':List Str}{sc:Scope}{cl:List (Str×Addr)}{C:Addr}{s:Shared}{H:Hp}{fp:Z8}{E:XK}
theorem LD{i:Nat}{x:Str}{pos:Pos}(hn:N'.Nodup:=by decide +kernel)(hN:N'[i]? = some x:=by rfl)(hv:sc.names.lookup x=some .local:=by rfl):PG ((aL X N' sc cl C s H fp).xs E) (.Name x pos) (bC i):=PG.zy (eE (X:=X) (cl:=cl) (C:=C) (s:=s) (H:=H) (fp:=fp) (N':=N') hn hN hv)
theorem PB(i:Nat){x:Str}{pos:Pos}(hN:N'[i]? = some x:=by rfl)(hv:sc.names.lookup x=some .local:=by rfl)(hd:(x==("__debug__" : Str))=false:=by decide)(hcd:(x==("__classdict__" : Str))=false:=by decide):PE ((aL X N' sc cl C s H fp).xs E) (.Name x pos) (bB i):=PE.zy (ji (X:=X) (cl:=cl) (C:=C) (s:=s) (H:=H) (fp:=fp) (N':=N') i hN hv hd hcd)
end
theorem jY{t1 t2:TS}{D:Ends}{σ:St}{H:Hp}(Pm:St->Hp->Prop)(h:∀T:St->Hp->Prop,(∀σ' H',Pm σ' H'->T σ' H')->t1 {D with nx:=T} σ H)(t:∀σ' H',Pm σ' H'->t2 D σ' H'):F2 t1 t2 D σ H:=h _ t
theorem gO{α:Type}{l:List α}{i:Nat}{x:α}(h:l[i]? = some x):l.drop i=x::l.drop (i+1):=by obtain⟨hi,rfl⟩:=W8.mp h;exact List.drop_eq_getElem_cons hi
def eU(fl:Addr)(H H':Hp):Prop:=∀b o,b≠fl->H b=some o->H' b=some o
theorem eU.of{fl:Addr}{H H':Hp}(s:aM H H'):eU fl H H':=λ_ _ _ e=>s _ _ e
theorem eU.trans{fl:Addr}{H H1 H2:Hp}(a:eU fl H H1)(b:eU fl H1 H2):eU fl H H2:=λ_ _ n e=>b _ _ n (a _ _ n e)
theorem eU.put{fl:Addr}{H H1:Hp}{o:HO}(a:eU fl H H1):eU fl H (upd H1 fl o):=λb u n e=>by rw[aI n];exact a _ _ n e
theorem eU.new{fl L:Addr}{H H1:Hp}{o:HO}(hL:H L=none)(a:eU fl H H1):eU fl H (upd H1 L o):=λb u n e=>by rw[aI (aV e hL)];exact a _ _ n e
theorem eU.fW{fl:Addr}{H H':Hp}{xs:List V}(g:eU fl H H')(h:H fl=some (.lst xs)):aD H H':=λa ys e=>g _ _ (λz=>by rw[z,h]at e;cases e) e
theorem gK.keep{H H':Hp}{a:Addr}{k:Kn}(s:aD H H')(h:gK H a k):gK H' a k:=by obtain⟨u,p,h1,h2,h3⟩:=h;exact⟨u,p,s _ _ h1,s _ _ h2,s _ _ h3⟩
def uW:Nat->List Wk->Prop
 | 0,ws=>ws.length<=9/\∀x∈ws,Bq x
 |n+1,ws=>ws.length<=9/\∀x∈ws,Bq x/\∀p∈cP x,uW n p
theorem uW.len{n:Nat}{ws:List Wk}(h:uW n ws):ws.length<=9:=by cases n<;>exact h.1
theorem uW.ok{n:Nat}{ws:List Wk}(h:uW n ws){x:Wk}(hx:x∈ws):Bq x:=by
 cases n with
 |zero=>exact h.2 x hx
 |succ n=>exact(h.2 x hx).1
def cW:Nat->Nat
 | 0=>1
 |n+1=>1+2*(9*cW n+1)
def bnd(n:Nat):Nat:=9*cW n+1
def Ua(C fl:Addr)(H:Hp)(a:List Int)(s:Str)(E:XK):Prop:=∀(e dx q:Addr)(H':Hp),eU fl H H'->H' e=some (xO e C (some dx))->H' dx=some (xD dx (AG (.ref q) (.str s)))->H' q=some (.tup (a.map V.int))->E (.ref C) (some e) H'
theorem jd.keep{H H':Hp}{as:Z8}{t:Tr}(s:aD H H')(h:jd H as t):jd H' as t:=⟨h.len,λi a e e1 e2=>let ⟨q,hh,z1,z2⟩:=h.at_ i a e e1 e2;⟨q,hh,s _ _ z1,s _ _ z2⟩⟩
structure RF(n:Nat)(H:Hp)(p b pl fl:Addr)(ws:List Wk)(k:Kn)(pi:List Int)(xs:List V):Prop where
 pp:jP n H p ws
 kn:gK H b k
 pl:H pl=some (.tup (pi.map V.int))
 fl:H fl=some (.lst xs)
 ok:uW n ws
 ko:nH k
 pz:pi.length+2*n<=100
 xz:xs.length+bnd n<=100000
def zH(C:Addr):Nat->Sp
 | 0=>λ_ _ _ _=>False
 |n+1=>λvs H Q E=>∃(p b pl fl:Addr)(ws:List Wk)(k:Kn)(pi:List Int)(xs:List V),vs=[.ref p,.ref b,.ref pl,.ref fl]/\RF n H p b pl fl ws k pi xs/\
  (∀a s,putL (bV n) pi 0 k.hd k.fl ws=.no a s->Ua C fl H a s E)/\
  (∀h f,putL (bV n) pi 0 k.hd k.fl ws=.ok h f->∀(u:Addr)(k':Kn)(H':Hp)(as:Z8),eU fl H H'->gK H' u k'->nH k'->k'.hd=h->k'.fl=f->H' fl=some (.lst (xs++as.map V.ref))->as.length<=bnd n->jd H' as (TL n pi 0 k.hd k.fl ws)->Q (.ref u) H')
theorem j8{x:Wk}(h:b9 x=false):cP x=[]/\C8 x=1:=by cases x<;>first|exact⟨rfl,rfl⟩|cases h
theorem jf{n:Nat}{x:Wk}{h:Hd}{f:Fl}{pl:List Int}(hx:b9 x=false):bV n h f pl x=iI x h f pl [(h,f)]:=by
 cases x with
 |one x=>cases n<;>rfl
 |both p q=>cases hx
 |meet c d p q=>cases hx
theorem qi{n:Nat}{x:Wk}{h:Hd}{f:Fl}{pl:List Int}(hx:b9 x=true):bV (n+1) h f pl x=D6 (bV n) x h f pl (cP x) 0 []:=by
 cases x with
 |one x=>cases hx
 |both p q=>rfl
 |meet c d p q=>rfl
theorem kE{x:Wk}(hx:b9 x=true):(cP x).length=2/\C8 x=2:=by cases x<;>first|exact⟨rfl,rfl⟩|cases hx
theorem KR{x:Wk}{H:Hp}{a:Addr}(h:dv 0 H a x):b9 x=false:=by cases x<;>first|rfl|exact Xy h
def nF(ks:List Kn):List (Hd×Fl):=ks.map λk=>(k.hd,k.fl)
theorem ID(ks:List Kn):(nF ks).map (λe=>e.1)=kj ks:=by rw[nF,List.map_map];rfl
theorem HC(ks:List Kn):(nF ks).map (λe=>e.2)=ks.map Kn.fl:=by rw[nF,List.map_map];rfl
theorem tq{x:Wk}{f:Fl}{hs:List Hd}(h:jm x f hs=none):dk x hs=true/\(bK x hs).length<=6:=by
 unfold jm at h;split at h
 ·split at h
  ·split at h
   ·exact⟨by assumption,by assumption⟩
   ·cases h
  ·cases h
 ·cases h
theorem H_{x:Wk}{k:Kn}{ks:List Kn}(hk:b9 x=false->ks=[k])(h:dk x (kj ks)=true):keepIn x k.hd:=by rintro c t rfl;rw[hk rfl]at h;exact cI h (by simp[df])
theorem EN(n:Nat):1<=cW n:=by
 cases n with
 |zero=>exact WR _
 |succ n=>show 1<=1+_;omega
theorem n9(n:Nat):cW (n+1)=1+2*bnd n:=rfl
theorem vP{H H':Hp}{L u:Addr}{as:Z8}{ks:List Kn}{k:Kn}(h:jK H L as ks)(g:∀a k,gK H a k->gK H' a k)(hk:gK H' u k)(hL:H' L=some (.lst ((as++[u]).map V.ref))):jK H' L (as++[u]) (ks++[k]):=by
 refine⟨hL,by rw[WW,WW,h.len];rfl,λi a k' e1 e2=>?_⟩;by_cases hi:i<as.length
 ·rw[Xh hi]at e1;rw[Xh (by rw[←h.len];exact hi)]at e2;exact g _ _ (h.at_ i a k' e1 e2)
 ·have hi':i=as.length:=by have:=(W8.mp e1).1;rw[WW]at this;simp at this;omega
  rw[hi',Xg (WR _),Nat.sub_self]at e1;rw[hi',h.len,Xg (WR _),Nat.sub_self]at e2;cases e1;cases e2;exact hk
theorem aD.refl{H:Hp}:aD H H:=λ_ _ e=>e
theorem aD.trans{H H1 H2:Hp}(a:aD H H1)(b:aD H1 H2):aD H H2:=λ_ _ e=>b _ _ (a _ _ e)
theorem aD.oU{H H':Hp}{L:Addr}{xs:List V}{o:HO}(k:aD H H')(h:H' L=some (.lst xs)):aD H (upd H' L o):=λa ys e=>by have:=k _ _ e;rw[aI (λz=>by rw[z,h]at this;cases this)];exact this
theorem Bu(pi:List Int)(i:Int):pi.map V.int++[V.int i]=(pi++[i]).map V.int:=by rw[WX];rfl
inductive Wj(a b c d e:V)(σ:St):Prop
 |mk (o5 o6 o7 o8 o9 lr lx:Option V) (h:σ=[some a,some b,some c,some d,some e,o5,o6,o7,o8,o9,lr,lx])
inductive M_(a b c d e f g h i:V)(σ:St):Prop
 |mk (o9 lr lx:Option V) (h:σ=[some a,some b,some c,some d,some e,some f,some g,some h,some i,o9,lr,lx])
inductive U0(n:Nat)(p b pl fl:Addr)(H:Hp)(k:Kn)(ws:List Wk)(pi:List Int)(xs:List V)(i:Nat)(σ:St)(H':Hp):Prop
 |mk (kb:Addr) (ki:Kn) (ys:List V) (st:Wj (.ref p) (.ref b) (.ref pl) (.ref fl) (.ref kb) σ) (h1:gK H' kb ki) (h2:nH ki) (h3:eU fl H H') (h4:H' fl=some (.lst ys)) (h5:ys.length<=xs.length+i*cW n) (h6:putL (bV n) pi 0 k.hd k.fl ws=putL (bV n) pi i ki.hd ki.fl (ws.drop i)) (h7:∃t,FO H' xs ys t/\TL n pi 0 k.hd k.fl ws=t++TL n pi i ki.hd ki.fl (ws.drop i))
inductive Wg(n:Nat)(p b pl fl kb:Addr)(i:Nat)(a u2 L:Addr)(H4:Hp)(x:Wk)(ki k:Kn)(ws:List Wk)(pi:List Int)(ys xs:List V)(σ:St)(H6:Hp):Prop
 |mk (as:Z8) (ks:List Kn) (zs:List V) (st:M_ (.ref p) (.ref b) (.ref pl) (.ref fl) (.ref kb) (.int (i:Nat)) (.ref a) (.ref u2) (.ref L) σ) (h1:jK H6 L as ks) (h2:ks.length=(cP x).length) (h3:∀k∈ks,nH k) (h4:aD H4 H6) (h5:eU fl H4 H6) (h6:H6 fl=some (.lst zs)) (h7:zs.length<=ys.length+cW n) (h8:b9 x=true->bV n ki.hd ki.fl (pi++[(i:Int)]) x=iI x ki.hd ki.fl (pi++[(i:Int)]) (nF ks)) (h9:∃t,FO H6 xs zs t/\TL n pi 0 k.hd k.fl ws=t++iF (bV n ki.hd ki.fl (pi++[(i:Int)]) x) λh' f'=>TL n pi (i+1) h' f' (ws.drop (i+1)))
inductive Vz(n:Nat)(p b pl fl kb:Addr)(i:Nat)(a u2 L:Addr)(H4:Hp)(H5:Hp)(x:Wk)(ki k:Kn)(ws:List Wk)(pi:List Int)(ys xs:List V)(j:Nat)(σ:St)(H6:Hp):Prop
 |mk (as:Z8) (ks:List Kn) (zs:List V) (st:M_ (.ref p) (.ref b) (.ref pl) (.ref fl) (.ref kb) (.int (i:Nat)) (.ref a) (.ref u2) (.ref L) σ) (h1:jK H6 L as ks) (h2:ks.length=j) (h3:∀k∈ks,nH k) (h4:aD H5 H6) (h5:eU fl H4 H6) (h6:H6 fl=some (.lst zs)) (h7:∀m,n=m+1->zs.length<=ys.length+1+j*bnd m) (h8:j=0->zs.length<=ys.length+1) (h9:∀m,n=m+1->b9 x=true->bV n ki.hd ki.fl (pi++[(i:Int)]) x=D6 (bV m) x ki.hd ki.fl (pi++[(i:Int)]) ((cP x).drop j) j (nF ks)) (h10:∃t,FO H6 xs zs t/\TL n pi 0 k.hd k.fl ws=t++(Kf n ki.hd ki.fl (pi++[(i:Int)]) x j++iF (bV n ki.hd ki.fl (pi++[(i:Int)]) x) λh' f'=>TL n pi (i+1) h' f' (ws.drop (i+1))))
inductive Tz(n:Nat)(p b pl fl kb:Addr)(i:Nat)(a u2 L:Addr)(H4:Hp)(x:Wk)(ki k:Kn)(ws:List Wk)(pi:List Int)(zs xs:List V)(o9 lr lx:Option V)(σ:St)(H7:Hp):Prop
 |mk (as:Z8) (ks:List Kn) (st:σ=[some (.ref p),some (.ref b),some (.ref pl),some (.ref fl),some (.ref kb),some (.int (i:Nat)),some (.ref a),some (.ref u2),some (.ref L),o9,lr,lx]) (h1:jK H7 L as ks) (h2:ks.length=C8 x) (h3:∀k∈ks,nH k) (h4:b9 x=false->ks=[ki]) (h5:aD H4 H7) (h6:eU fl H4 H7) (h7:H7 fl=some (.lst zs)) (h8:bV n ki.hd ki.fl (pi++[(i:Int)]) x=iI x ki.hd ki.fl (pi++[(i:Int)]) (nF ks)) (h9:∃t,FO H7 xs zs t/\TL n pi 0 k.hd k.fl ws=t++iF (bV n ki.hd ki.fl (pi++[(i:Int)]) x) λh' f'=>TL n pi (i+1) h' f' (ws.drop (i+1)))
abbrev gb:Stmt:=top 48
theorem bX:ay ["pipe","begun","prefix","found","known","at","worker","place","told","side","branch","why"] ["pipe","begun","prefix","found"] (ar gb):=fs
variable{P:Program}{w:World}{K:XO}{mg:Z2}{base:Heap}
theorem xW{C fI:Addr}{d2:FuncData}{n L:Nat}(B:kf mg)(mE:mg "enumerate"=none)(Cf:KN K mg C fI)(F:FA K mg "go_through" gb)(GI:fE P w K mg base bf 1 fI d2 ZV (zL K C))(bI:Binds K d2 ZV [])
  (ig:bc bf P w K mg base 1 "branches_of" ZC (Ct n))
  (i_:bc (yK P w) P w K mg base (L+5) "go_through" ["pipe","begun","prefix","found"] (zH C n))
  (AM:bc bf P w K mg base 5 "why_not" ["worker","known","heads"] (IZ n))
  (oX:bc bf P w K mg base 4 "known_behind" ["worker","known","told"] (vt n)) :
  bc (yK P w) P w K mg base (L+6) "go_through" ["pipe","begun","prefix","found"] (zH C (n+1)):=by
 refine F.LP bX λf cdv A outer s H vs Q E hr h=>?_;have hu:=iO hr;have hu1:=jD hr;obtain⟨p,b,pl,fl,ws,k,pi,xs,rfl,hG,qx,q⟩:=h;refine⟨_,(aq (aK (i:=4) bX.nd rfl (Xw rfl) (pv 1))
   (aq (fN (yF pU) rfl (pB rfl mE (ae (pv 0) ah)) (cA rfl (aA (bJ (i:=5) bX.nd rfl (Xw rfl)) (aA (bJ (i:=6) bX.nd rfl (Xw rfl)) bT)))
    (aq (aK (i:=7) bX.nd rfl (Xw rfl) (aF bN (pv 2) (aH (ae (pv 5) ah))))
     (aq (fY (lF PySem.F.plainAttrs_list PySem.F.slot_list_append PySem.F.type_list_append cZ (pv 3) (ae (aH (ae (pv 7) (ae (az K (pv 4) ai) (ae (az K (pv 4) ai) ah)))) ah)))
     (aq (aK (i:=8) bX.nd rfl (Xw rfl) (aP ah))
     (aq (fN (yF pU) rfl (pB rfl mE (ae (ax ig hr (ae (pv 6) ah)) ah)) (cA rfl (aA (bJ (i:=9) bX.nd rfl (Xw rfl)) (aA (bJ (i:=10) bX.nd rfl (Xw rfl)) bT)))
      (bA (fY (lF PySem.F.plainAttrs_list PySem.F.slot_list_append PySem.F.type_list_append cZ (pv 8) (ae (sC i_ hr rfl wA (ae (pv 10) (ae (pv 4) (ae (aF bN (pv 7) (aH (ae (pv 9) ah))) (ae (pv 3) ah))))) ah)))))
     (aq (dg (aX aQ (aW bt rfl B.len XM (ae (pv 8) ah)) ai)
      (bA (fY (lF PySem.F.plainAttrs_list PySem.F.slot_list_append PySem.F.type_list_append cZ (pv 8) (ae (pv 4) ah))))
      bU)
     (aq (aK (i:=11) bX.nd rfl (Xw rfl) (ax AM hr (ae (pv 6) (ae (pv 4) (ae (BH (N':=["head","passed","loose"]) (src:=[none,none,none]) rfl pU (ba.j5 (by kernel_rfl)) (dX (pv 8)) (g:=(ja K 3 (bS (bC 0) (bS (bC 1) (bS (bC 2) i5))))) (λcl C s H fp=>(cA rfl (aA (LD (i:=0)) (aA (LD (i:=1)) (aA (LD (i:=2)) bT))))) (λcl C s H fp=>jn.zy aY) (te:=(bB 0)) (λcl C s H fp=>(PB 0))) ah)))))
     (aq (dg (aX uL (pv 11) jg)
      (bA (A2 rfl Cf.OV (Hw Cf.OV Cf.kp Cf.fn (GI.mono (by omega)) hr rfl Cf.mf bI vq (ae (pv 7) (ae (pv 11) ah)))))
      bU)
     (bA (aK (i:=4) bX.nd rfl (Xw rfl) (ax oX hr (ae (pv 6) (ae (pv 4) (ae (pv 8) ah))))))))))))))
   (aq (fY (lF PySem.F.plainAttrs_list PySem.F.slot_list_append PySem.F.type_list_append cZ (pv 3) (ae (aH (ae (aF bN (pv 2) (aH (ae (aW bt rfl B.len XM (ae (pv 0) ah)) ah))) (ae (az K (pv 4) ai) (ae (az K (pv 4) ai) ah)))) ah)))
   (av (pv 4))))),?_⟩
 obtain⟨⟨bs,hI⟩,hk,hpl,hfl,hok,hko,hpz,WH⟩:=hG;have hlb:(bs.map V.ref).length=ws.length:=by rw[WV,hI.len]
 have hcw:=EN n;have hw9:=hok.len;have hbn:bnd n=9*cW n+1:=rfl;refine⟨_,rfl,ak ?_⟩;dsimp only;refine⟨_,rfl,p,rfl,⟨_,aJ.of hI.tup⟩,?_⟩;refine mn (xs:=bs.map V.ref) (U0 n p b pl fl H k ws pi xs)
  ⟨b,k,xs,⟨_,_,_,_,_,_,_,rfl⟩,hk,hko,eU.of (aM.refl _),hfl,Nat.le_add_right _ _,rfl,[],⟨[],(by simp),.nil⟩,rfl⟩ ?_ ?_ ?_
 ·rintro i σ H' _ ⟨kb,ki,ys,_,_,_,g,_⟩;exact aJ.of (g.fW hfl _ _ hI.tup)
 ·rintro i v σ H' T hx ⟨kb,ki,ys,⟨o5,o6,o7,o8,o9,lr,lx,rfl⟩,hki,hoi,g,hfl',hyz,hrun,tr,hLs,htr⟩ hT;obtain⟨a,x,rfl,ex,ha⟩:=hI.get hx;have Pz:i<9:=by have:=(W8.mp ex).1;omega
  have hic:i*cW n+cW n<=9*cW n:=by have:=Nat.mul_le_mul_right (cW n) Pz;rw[Nat.succ_mul]at this;exact this
  have Ow:=hok.ok (W4 ex);rw[gO ex]at hrun htr;rw[Ax]at htr;have hrun:putL (bV n) pi 0 k.hd k.fl ws=fM (bV n ki.hd ki.fl (pi++[(i:Int)]) x) λh' f'=>putL (bV n) pi (i+1) h' f' (ws.drop (i+1)):=hrun;have sT:=aj hT (.tup [.int (i:Nat),.ref a]);refine⟨T,_,rfl,aJ.of ag,rfl,_,_,rfl,ak ⟨_,_,rfl,ak ⟨rfl,?_⟩⟩⟩;dsimp only;refine⟨_,rfl,_,rfl,dz,λu1 kg=>?_⟩;have sU:=aj kg (.tup [.int (i:Nat)]);refine⟨pl,u1,_,_,rfl,rfl,sU _ _ (sT _ _ (g.fW hfl _ _ hpl)),ag,by rw[WV];exact WS (show _+1<=1000 by omega) (by decide),λu2 H2 L8 hu2=>ak ?_⟩;rw[Bu]at hu2;have s2:=sT.trans (sU.trans L8);dsimp only;obtain⟨hh,ph,hk1,hk2,hk3⟩:=hki;have hki:gK H' kb ki:=⟨hh,ph,hk1,hk2,hk3⟩;refine⟨_,rfl,.inl ⟨rfl,_,aZ.of (s2 _ _ hfl')⟩,_,rfl,_,rfl,kb,_,0,_,rfl,rfl,aJ.of (s2 _ _ hk1),au (j:=0) rfl,_,rfl,kb,_,2,_,rfl,rfl,aJ.of (s2 _ _ hk1),rfl,f9,λu3 vm=>?_⟩;have s3:=aj vm (.tup [.ref u2,.ref hh,.bl ki.lo]);refine⟨fl,_,_,rfl,rfl,s3 _ _ (s2 _ _ hfl'),WY (show ys.length<=100000 by omega) (by decide),?_⟩;have g4:eU fl H' (upd (upd H2 u3 (.tup [.ref u2,.ref hh,.bl ki.lo])) fl (.lst (ys++[.ref u3]))):=(eU.of (s2.trans s3)).put;have A6:upd (upd H2 u3 (.tup [.ref u2,.ref hh,.bl ki.lo])) fl (.lst (ys++[.ref u3])) fl=some (.lst (ys++[.ref u3])):=ag;have xi:upd (upd H2 u3 (.tup [.ref u2,.ref hh,.bl ki.lo])) fl (.lst (ys++[.ref u3])) u2=some (.tup ((pi++[(i:Int)]).map V.int)):=by rw[aI (λz=>by have:=s2 _ _ hfl';rw[←z,hu2]at this;cases this)];exact s3 _ _ hu2
  have Lf:FO (upd (upd H2 u3 (.tup [.ref u2,.ref hh,.bl ki.lo])) fl (.lst (ys++[.ref u3]))) xs (ys++[.ref u3]) (tr++[(pi++[(i:Int)],ki.lo)]):=by
   obtain⟨as,ey,MW⟩:=hLs;have n3:u3≠fl:=λz=>by have:=s2 _ _ hfl';rw[←z,vm]at this;cases this
   exact FO.app (bs:=[u3]) ⟨as,ey,MW.keep (g4.fW hfl')⟩ (jd.one (by rw[aI n3];exact ag) xi)
  revert g4 A6 xi Lf;generalize upd (upd H2 u3 (.tup [.ref u2,.ref hh,.bl ki.lo])) fl (.lst (ys++[.ref u3]))=H4;intro g4 A6 xi Lf;have EC:aD H' H4:=g4.fW hfl';have LS:aD H H4:=(g.fW hfl).trans EC;refine⟨Xe _,λL hL=>ak ?_⟩;have Mk:L≠fl:=λz=>by rw[z,A6]at hL;cases hL
  dsimp only;refine jY (Wg n p b pl fl kb i a u2 L H4 x ki k ws pi ys xs) (λT2 hT2=>?_) ?_
  ·have sL:=aj hL (.lst []);refine⟨_,rfl,a,x,rfl,ha.keep (LS.trans (aD.of sL)),λu5 cs H5 s5 hJ=>⟨u5,rfl,⟨_,aJ.of hJ.tup⟩,?_⟩⟩;have VA:(cs.map V.ref).length=(cP x).length:=by rw[WV,hJ.len]
   refine mn (xs:=cs.map V.ref) (Vz n p b pl fl kb i a u2 L H4 H5 x ki k ws pi ys xs)
    ⟨[],[],ys++[.ref u3],⟨_,_,_,rfl⟩,⟨s5 _ _ ag,rfl,λi a k e=>by cases e⟩,rfl,λk hk=>(by cases hk),aD.refl,(eU.of sL).trans (eU.of s5),s5 _ _ (sL _ _ A6),?_,?_,?_,tr++[(pi++[(i:Int)],ki.lo)],(by obtain⟨as,ey,MW⟩:=Lf;exact⟨as,ey,MW.keep (aD.of (sL.trans s5))⟩),(by rw[htr,Jd];simp;rfl)⟩ ?_ ?_ ?_
   ·intro m _;rw[WW,Nat.zero_mul];simp
   ·intro _;rw[WW];simp
   ·rintro m rfl hb;exact qi hb
   ·rintro j σ H6 _ ⟨as,ks,zs,_,_,_,_,kT,_⟩;exact aJ.of (kT _ _ hJ.tup)
   ·rintro j v σ H6 Wa hv ⟨as,ks,zs,⟨o9,lr,lx,rfl⟩,B7,hkl,LY,Sh,g6,xT,Jo,_,dD,t6,Mq,nZ⟩ hT2';obtain⟨c',pp,rfl,ep,ds,US⟩:=hJ.get hv;have hbr:b9 x=true:=by
     cases hq:b9 x with
     |true=>rfl
     |false=>rw[(j8 hq).1]at ep;cases ep
    obtain⟨m,rfl⟩ :∃m,n=m+1:=by
     cases n with
     |zero=>rw[KR ha]at hbr;cases hbr
     |succ m=>exact⟨m,rfl⟩
    have hj2:j<2:=by have:=(W8.mp ep).1;rw[(kE hbr).1]at this;exact this
    have Jo:=Jo m rfl;have hcs:=n9 m;have U3:j*bnd m+bnd m<=2*bnd m:=by have:=Nat.mul_le_mul_right (bnd m) hj2;rw[Nat.succ_mul]at this;exact this
    have dD:=dD m rfl hbr;rw[gO ep]at dD;have sA:=aj hT2' (.tup [.int (j:Nat),.ref c']);refine⟨Wa,_,rfl,aJ.of ag,rfl,_,_,rfl,ak ⟨_,_,rfl,ak ⟨rfl,?_⟩⟩⟩;dsimp only;refine⟨_,rfl,.inl ⟨rfl,_,aZ.of (sA _ _ B7.lst)⟩,_,rfl,_,rfl,_,rfl,_,rfl,dz,λu7 PX=>?_⟩;have sB:=aj PX (.tup [.int (j:Nat)]);have rL:aD H4 H6:=g6.fW A6;refine⟨u2,u7,_,_,rfl,rfl,sB _ _ (sA _ _ (rL _ _ xi)),ag,by rw[WV,WW];exact WS (show _+1+1<=1000 by omega) (by decide),λu8 H8 s8 iO=>?_⟩;rw[Bu]at iO;have uY:=sA.trans (sB.trans s8);have QB:=Sh.trans (aD.of uY);have g8:eU fl H H8:=(g.trans g4).trans (g6.trans (eU.of uY));have Rg:gK H8 kb ki:=(hki.keep EC).keep (rL.trans (aD.of uY));refine⟨_,rfl,c',kb,u8,fl,pp,ki,(pi++[(i:Int)])++[(j:Int)],zs,rfl,⟨⟨ds,US.keep QB λ_ _ z=>z.keep QB⟩,Rg,iO,uY _ _ xT,(hok.2 x (W4 ex)).2 pp (W4 ep),hoi,by rw[WW,WW];show _+1+1+_<=_;omega,by omega⟩,?_,?_⟩
    ·intro a' s' he;have ht:putL (bV (m+1)) pi 0 k.hd k.fl ws=.no a' s':=by rw[hrun,dD];show fM (fM (putL (bV m) ((pi++[(i:Int)])++[(j:Int)]) 0 ki.hd ki.fl pp) _) _=_;rw[he];rfl
     exact λe dx q' H9 g9=>qx a' s' ht e dx q' H9 (g8.trans g9)
    ·intro h' f' he u k' H9 T5 g9 hk' OC eh ef Qk U7 hB9;have hL9:H9 L=some (.lst (as.map V.ref)):=g9 _ _ Mk (uY _ _ B7.lst);have MV:aD H8 H9:=g9.fW (uY _ _ xT);refine⟨L,_,_,rfl,rfl,hL9,?_,as++[u],ks++[k'],zs++T5.map V.ref,⟨_,_,_,rfl⟩,?_,?_,?_,(QB.trans MV).oU hL9,?_,?_,?_,?_,?_,t6++TL m ((pi++[(i:Int)])++[(j:Int)]) 0 ki.hd ki.fl pp,?_,?_⟩
     ·rw[WV,B7.len,hkl];exact Nat.lt_trans hj2 (by decide)
     ·refine vP B7 (λa k z=>z.keep (((aD.of uY).trans MV).oU hL9)) (hk'.keep (aD.refl.oU hL9)) ?_;rw[ag,WX];rfl
     ·rw[WW,hkl];rfl
     ·intro k2 hk2;rcases Xc.mp hk2 with z|z
      ·exact LY k2 z
      ·rw[W9.mp z];exact OC
     ·exact eU.new hL ((g6.trans (eU.of uY)).trans g9)
     ·rw[aI (Ne.symm Mk)];exact Qk
     ·rintro m' e;cases e;rw[WW,Nat.succ_mul,WV];omega
     ·intro z;cases z
     ·rintro m' e _;cases e;rw[dD];show fM (putL (bV m) ((pi++[(i:Int)])++[(j:Int)]) 0 ki.hd ki.fl pp) _=_;rw[he];show D6 (bV m) x ki.hd ki.fl (pi++[(i:Int)]) _ (j+1) (nF ks++[(h',f')])=_;rw[show nF (ks++[k'])=nF ks++[(h',f')] by rw[nF,WX,←eh,←ef];rfl]
     ·obtain⟨M6,NF,Fx⟩:=Mq;have Vf:aD H6 (upd H9 L (.lst (as.map V.ref++[.ref u]))):=((aD.of uY).trans MV).oU hL9;exact FO.app ⟨M6,NF,Fx.keep Vf⟩ (hB9.keep (aD.refl.oU hL9))
     ·rw[nZ,Ff (gO ep) he];simp only[List.append_assoc]
   ·rintro σ H6 ⟨as,ks,zs,⟨o9,lr,lx,rfl⟩,B7,hkl,LY,Sh,g6,xT,Jo,hz0,dD,t6,Mq,nZ⟩;rw[VA]at hkl Jo hz0 dD nZ;refine hT2 _ _ ⟨as,ks,zs,⟨_,_,_,rfl⟩,B7,hkl,LY,g6.fW A6,g6,xT,?_,?_,t6,Mq,(by rw[nZ,zP (WR _)];rfl)⟩
    ·cases hq:b9 x with
     |false=>have:=hz0 (by rw[(j8 hq).1];rfl);omega
     |true =>
      obtain⟨m,rfl⟩ :∃m,n=m+1:=by
       cases n with
       |zero=>rw[KR ha]at hq;cases hq
       |succ m=>exact⟨m,rfl⟩
      have:=Jo m rfl;rw[(kE hq).1]at this;rw[n9];omega
    ·intro hq;obtain⟨m,rfl⟩ :∃m,n=m+1:=by
      cases n with
      |zero=>rw[KR ha]at hq;cases hq
      |succ m=>exact⟨m,rfl⟩
     have:=dD m rfl hq;rw[List.drop_length]at this;exact this
  rintro σ H6 ⟨as0,RI,zs,⟨o9,lr,lx,rfl⟩,oN,Gg,Rn,rL,g6,xT,Jo,dD,t6,Mq,nZ⟩;refine jY (Tz n p b pl fl kb i a u2 L H4 x ki k ws pi zs xs o9 lr lx) (λT3 Mg=>?_) ?_
  ·refine⟨_,rfl,L,_,rfl,.inl (aZ.of oN.lst),rfl,_,rfl,?_⟩;cases hq:b9 x with
   |false =>
    have e0:as0=[]:=List.eq_nil_of_length_eq_zero (by rw[oN.len,Gg,(j8 hq).1];rfl);subst e0;have ek:RI=[]:=List.eq_nil_of_length_eq_zero (by rw[Gg,(j8 hq).1];rfl);subst ek;refine b_ ⟨_,rfl,.inl ⟨rfl,_,aZ.of oN.lst⟩,_,rfl,L,_,_,rfl,rfl,oN.lst,(by show 0<sizeLine;decide),Mg _ _ ⟨[kb],[ki],rfl,?_,(j8 hq).2.symm,?_,λ_=>rfl,rL.oU oN.lst,eU.new hL g6,?_,?_,t6,?_,nZ⟩⟩
    ·exact vP oN (λa k z=>z.keep (aD.refl.oU oN.lst)) ((hki.keep EC).keep (rL.oU oN.lst)) (by rw[ag];rfl)
    ·intro k2 hk2;rw[W9.mp hk2];exact hoi
    ·rw[aI (Ne.symm Mk)];exact xT
    ·exact jf hq
    ·obtain⟨M6,NF,Fx⟩:=Mq;exact⟨M6,NF,Fx.keep (aD.refl.oU oN.lst)⟩
   |true =>
    have e2:as0.length=2:=by rw[oN.len,Gg,(kE hq).1]
    rw[WT (by rw[WV,e2];intro z;cases z)];exact bF (aG (Mg _ _ ⟨as0,RI,rfl,oN,by rw[Gg,(kE hq).1,(kE hq).2],Rn,λz=>(by rw[hq]at z;cases z),rL,g6,xT,dD hq,t6,Mq,nZ⟩))
  rintro σ H7 ⟨as,ks,rfl,B7,hkn,Iz,hone,Qa,g7,QM,Fy,t7,UZ,Jf⟩;have So:aD H H7:=LS.trans Qa;have MS:gK H7 kb ki:=(hki.keep EC).keep Qa;have hla:(as.map V.ref).length=ks.length:=by rw[WV,B7.len]
  have hn2:ks.length<=2:=by rw[hkn];exact EG
  refine⟨_,rfl,_,rfl,_,rfl,L,rfl,⟨_,aZ.of B7.lst⟩,λD2 hD2=>?_⟩;refine dJ (xs:=as.map V.ref) (λi σ ys H'=>(∃o1 o2 o3,σ=[o1,o2,o3])/\(∃bs:Z8,ys=bs.map V.ref/\bs.length=i/\∀(j:Nat) a k,bs[j]? = some a->ks[j]? = some k->eN H7 a k.hd)/\H' D2=some (.lst ys)/\aM H7 H') ⟨⟨none,none,none,rfl⟩,⟨[],rfl,rfl,λj a k e=>by cases e⟩,ag,aj hD2 _⟩ ?_ ?_ ?_ ?_ ?_
  ·rintro i σ ys H' _ ⟨_,⟨bs,rfl,hi,_⟩,h,_⟩;exact⟨h,by rw[WV];exact XF hi⟩
  ·rintro i σ ys H' _ ⟨_,_,_,sm⟩;exact aZ.of (sm _ _ B7.lst)
  ·rw[hla];exact WS hn2 (by decide)
  ·rintro i v σ ys H' hv ⟨⟨o1,o2,o3,rfl⟩,⟨bs,rfl,hi,hb⟩,h,sm⟩;obtain⟨b',k',rfl,ek,hh',p',hq1,hq2,Ww⟩:=B7.get hv;refine⟨b',_,rfl,aJ.of (sm _ _ hq1),rfl,_,_,rfl,ak ⟨_,_,rfl,ak ⟨_,_,rfl,ak ⟨rfl,?_⟩⟩⟩⟩;refine⟨_,rfl,h,⟨_,_,_,rfl⟩,⟨bs++[hh'],by rw[WX];rfl,by rw[WW,hi];rfl,λj a k e1 e2=>?_⟩,ag,bu hD2 sm⟩;by_cases hj:j<bs.length
   ·rw[Xh hj]at e1;exact hb j a k e1 e2
   ·have hj':j=bs.length:=by have:=(W8.mp e1).1;rw[WW]at this;simp at this;omega
    rw[hj',Xg (WR _),Nat.sub_self]at e1;cases e1;rw[hj',hi,ek]at e2;cases e2;exact hq2
  rintro σ ys' H8 ⟨_,⟨ds,rfl,hi,hb⟩,h8,s8⟩;rw[hla]at hi;have Ry:=So.trans (aD.of s8);refine⟨a,kb,D2,x,ki,ds,kj ks,rfl,ha.keep Ry,MS.same s8,Ai h8 hi (λi a k e1 e2=>s8 _ _ (hb i a k e1 e2)),by rw[kj,WV,hkn],Ow,WS hoi.few (by decide),λh hh=>by obtain⟨k,hk,rfl⟩:=W_.mp hh;exact WS (Iz k hk).hd (by decide),λH9 s9=>ak ?_⟩;have Ld:=s8.trans s9;have Vj:=So.trans (aD.of Ld);have g9:eU fl H H9:=(g.trans g4).trans (g7.trans (eU.of Ld));rw[Kv];have hfin:iI x ki.hd ki.fl (pi++[(i:Int)]) (nF ks)=match jm x ki.fl (kj ks)with|some s=>.no (pi++[(i:Int)]) s|none=>.ok (bK x (kj ks)) (FP x ki.hd ki.fl (ks.map Kn.fl)):=by unfold iI;rw[ID,HC];first|done | (cases jm x ki.fl (kj ks)<;>rfl)
  cases ew:jm x ki.fl (kj ks)with
  |some s =>
   rw[ew]at hfin;have ht:putL (bV n) pi 0 k.hd k.fl ws=.no (pi++[(i:Int)]) s:=by rw[hrun,Fy,hfin];rfl
   dsimp only;refine⟨_,rfl,rfl,_,rfl,b_ ⟨_,rfl,_,rfl,cN,λe he=>?_⟩⟩;have ne:∀d o,H9 d=some o->d≠e:=λd o z y=>by subst y;rw[he]at z;cases z
   refine⟨e,_,_,rfl,ag,Cf.xc,Cf.np,Cf.nr,λdx H3 hdx keep h2 h3=>⟨rfl,e,some dx,rfl,h2,?_⟩⟩;have kk:∀d o,H9 d=some o->H3 d=some o:=λd o z=>keep d o (ne d o z) (by rw[aI (ne d o z)];exact z);have T8:dx≠e:=λy=>by subst y;rw[ag]at hdx;cases hdx
   have Px:H9 u2=some (.tup ((pi++[(i:Int)]).map V.int)):=(Qa.trans (aD.of Ld)) _ _ xi;refine qx _ s ht e dx u2 _ (λd o nd z=>?_) ag (by rw[aI T8];exact h3) ?_
   ·have z9:=g9 _ _ nd z;rw[aI (ne d o z9)];exact kk _ _ z9
   ·rw[aI (ne u2 _ Px)];exact kk _ _ Px
  |none =>
   rw[ew]at hfin;obtain⟨hfit,Lx⟩:=tq ew;dsimp only;refine⟨_,rfl,rfl,_,rfl,bF (aG ?_)⟩;dsimp only;refine⟨_,rfl,_,rfl,_,rfl,a,kb,L,x,ki,as,ks,rfl,ha.keep Vj,MS.same Ld,B7.same Ld,⟨hkn,Ow,hfit,H_ hone hfit,λk hk=>WS (Iz k hk).hd (by decide),λk hk=>WS (Iz k hk).few (by decide)⟩,λu k' Bl Cd hk' e1 e2 e3=>ak ?_⟩;refine⟨u,k',zs,⟨_,_,_,_,_,_,_,rfl⟩,hk',nH.next Iz (by rw[e1];exact Lx) e2,g9.trans (eU.of Cd),Cd _ _ (Ld _ _ QM),?_,?_,t7,?_,?_⟩
   ·rw[Nat.succ_mul];omega
   ·rw[hrun,Fy,hfin,e1,JG e2 e3];rfl
   ·obtain⟨M6,NF,Fx⟩:=UZ;exact⟨M6,NF,Fx.keep (aD.of (Ld.trans Cd))⟩
   ·rw[Jf,Fy,hfin,e1,JG e2 e3];rfl
 ·rintro σ H' ⟨kb,ki,ys,⟨o5,o6,o7,o8,o9,lr,lx,rfl⟩,hki,hoi,g,hfl',hyz,hrun,tr,hLs,htr⟩;rw[hlb]at hyz hrun htr;rw[List.drop_length]at hrun htr;have Vl:=Nat.mul_le_mul_right (cW n) hw9;obtain⟨hh,ph,hk1,hk2,hk3⟩:=hki;have k0:=g.fW hfl;dsimp only;refine⟨_,rfl,.inl ⟨rfl,_,aZ.of hfl'⟩,_,rfl,_,rfl,p,_,rfl,.inr (aJ.of (k0 _ _ hI.tup)),dz,λu1 kg=>?_⟩;have sU:=aj kg (.tup [.int ((bs.map V.ref).length:Nat)]);refine⟨pl,u1,_,_,rfl,rfl,sU _ _ (k0 _ _ hpl),ag,by rw[WV];exact WS (show _+1<=1000 by omega) (by decide),λu2 H2 L8 hu2=>?_⟩;have s2:=sU.trans L8;refine⟨_,rfl,kb,_,0,_,rfl,rfl,aJ.of (s2 _ _ hk1),au (j:=0) rfl,_,rfl,kb,_,2,_,rfl,rfl,aJ.of (s2 _ _ hk1),rfl,f9,λu3 vm=>?_⟩;have s3:=aj vm (.tup [.ref u2,.ref hh,.bl ki.lo]);have OR:=s2.trans s3;refine⟨fl,_,_,rfl,rfl,OR _ _ hfl',WY (show ys.length<=100000 by omega) (by decide),_,rfl,?_⟩;have kU:aD H' (upd (upd H2 u3 (.tup [.ref u2,.ref hh,.bl ki.lo])) fl (.lst (ys++[.ref u3]))):=(aD.of OR).oU (OR _ _ hfl');obtain⟨as,ey,MW⟩:=hLs;have nf:u3≠fl:=λz=>by have:=s2 _ _ hfl';rw[←z,vm]at this;cases this
  have n2:u2≠fl:=λz=>by have:=s2 _ _ hfl';rw[←z,hu2]at this;cases this
  rw[Bu]at hu2;have hone:jd (upd (upd H2 u3 (.tup [.ref u2,.ref hh,.bl ki.lo])) fl (.lst (ys++[.ref u3]))) [u3] [(pi++[((bs.map V.ref).length:Int)],ki.lo)]:=jd.one (by rw[aI nf];exact ag) (by rw[aI n2];exact s3 _ _ hu2);refine q ki.hd ki.fl hrun kb ki _ (as++[u3]) (g.trans (eU.of OR)).put ⟨hh,ph,kU _ _ hk1,kU _ _ hk2,kU _ _ hk3⟩ hoi rfl rfl ?_ ?_ ?_
  ·rw[ag,ey,WX,List.append_assoc];rfl
  ·rw[ey,WW,WV]at hyz;rw[WW];show as.length+1<=_;omega
  ·rw[htr,←hlb];exact(MW.keep kU).app hone
def f0:Fl:=⟨false,false,false,false,false⟩
def jw(n:Nat)(hd:Hd)(ws:List Wk):Res:=putL (bV n) [] 0 hd f0 ws
def R_(C:Addr)(H:Hp)(a:List Int)(s:Str)(E:XK):Prop:=∀(e dx q:Addr)(H':Hp),aM H H'->H' e=some (xO e C (some dx))->H' dx=some (xD dx (AG (.ref q) (.str s)))->H' q=some (.tup (a.map V.int))->E (.ref C) (some e) H'
structure ME(n:Nat)(H:Hp)(a p:Addr)(hd:Hd)(ws:List Wk):Prop where
 Vx:eN H a hd
 six:hd.length<=6
 pp:jP n H p ws
 ok:uW n ws
def DC(C:Addr)(n:Nat):Sp:=λvs H Q E=>∃(a p:Addr)(hd:Hd)(ws:List Wk),vs=[.ref a,.ref p]/\ME n H a p hd ws/\2*n<=100/\bnd n<=100000/\
 (∀x s,jw n hd ws=.no x s->R_ C H x s E)/\
 (∀h f,jw n hd ws=.ok h f->∀(l:Addr)(H':Hp)(as:Z8),aM H H'->H' l=some (.lst (as.map V.ref))->jd H' as (TL n [] 0 hd f0 ws)->Q (.ref l) H')
theorem iT{fl:Addr}{H H1 H':Hp}(hn:H fl=none)(s:aM H H1)(g:eU fl H1 H'):aM H H':=λb o e=>g _ _ (aV e hn) (s _ _ e)
abbrev pE:Stmt:=top 49
theorem rJ:ay ["head","pipe","found"] ["head","pipe"] (ar pE):=fs
theorem BI{C:Addr}{n L:Nat}(F:FA K mg "survey" pE)
  (i_:bc (yK P w) P w K mg base (L+6) "go_through" ["pipe","begun","prefix","found"] (zH C (n+1))) :
  bc (yK P w) P w K mg base (L+7) "survey" ["head","pipe"] (DC C n):=by
 refine F.LP rJ λf cdv A outer s H vs Q E hr h=>?_;have hu:=iO hr;have hu1:=jD hr;obtain⟨a,p,hd,ws,rfl,hI,hn2,hbn,qx,q⟩:=h;refine⟨_,(aq (aK (i:=2) rJ.nd rfl (Xw rfl) (aP ah))
   (aq (fY (sC i_ hr rfl wA (ae (pv 1) (ae (aH (ae (pv 0) (ae (aH ah) (ae eA ah)))) (ae (aH ah) (ae (pv 2) ah))))))
   (av (pv 2)))),?_⟩
 refine⟨Xe _,λF hF=>ak ?_⟩;dsimp only;have s0:=aj hF (.lst []);have Q0:upd H F (.lst []) F=some (.lst []):=ag;revert s0 Q0;generalize upd H F (.lst [])=H0;intro s0 Q0;refine⟨_,rfl,_,rfl,wR,λu1 kg=>?_⟩;have s1:=aj kg (.tup []);refine⟨f9,λu2 hu2=>?_⟩;have s2:=aj hu2 (.tup [.ref a,.ref u1,.bl false]);refine⟨wR,λu3 vm=>?_⟩;have s3:=aj vm (.tup []);have Mj:=s0.trans (s1.trans (s2.trans s3));have qI:=s1.trans (s2.trans s3);have e1:=s3 _ _ (s2 _ _ (ag (H:=H0) (a:=u1) (o:=.tup [])));have e2:=s3 _ _ (ag (H:=upd H0 u1 (.tup [])) (a:=u2) (o:=.tup [.ref a,.ref u1,.bl false]));have e3:upd (upd (upd H0 u1 (.tup [])) u2 (.tup [.ref a,.ref u1,.bl false])) u3 (.tup []) u3=some (.tup []):=ag;revert Mj qI e1 e2 e3;generalize upd (upd (upd H0 u1 (.tup [])) u2 (.tup [.ref a,.ref u1,.bl false])) u3 (.tup [])=H3;intro Mj qI e1 e2 e3;refine⟨_,rfl,p,u2,u3,F,ws,⟨hd,[],false⟩,[],[],rfl,⟨hI.pp.keep (aD.of Mj),⟨a,u1,e2,Mj _ _ hI.Vx,e1⟩,e3,qI _ _ Q0,hI.ok,⟨hI.six,List.nodup_nil,λs hs=>(by cases hs)⟩,by simpa using hn2,by simpa using hbn⟩,?_,?_⟩
 ·intro x s he e dx q' H' g;exact qx x s he e dx q' H' (iT hF Mj g)
 ·intro h f he u k' H' as g hk' OC eh ef hfl' U7 hT;exact⟨_,rfl,q h f he F H' as (iT hF Mj g) (by rw[List.nil_append]at hfl';exact hfl') hT⟩
end My
namespace L2
open PySem
def D0:List V->Hp->VK->Prop:=λxs H Q=>(∃i,xs=[.int i]/\Q (.int i) H)\/∃k,xs=[.bl k]/\Q (.int (if k then 1 else 0)) H
theorem BP{X:Cx}:eY X (.type "int") D0:=cB
end L2
namespace My
open PySem L2
theorem A7{a b c:Str}(h1:wZ a b)(h2:wZ b c):wZ a c:=List.lt_trans h1 h2
theorem pH:∀{a b:List Str},a.Pairwise wZ->b.Pairwise wZ->(∀s,s∈a↔s∈b)->a=b
 |[],[],_,_,_=>rfl
 |[],y::b,_,_,h=>Xs ((h y).mpr (by simp)) (by simp)
 |x::a,[],_,_,h=>Xs ((h x).mp (by simp)) (by simp)
 |x::a,y::b,ha,hb,h=>by
  rw[List.pairwise_cons]at ha hb;have e:x=y:=by
   rcases Xa.mp ((h x).mp (by simp))with e|m1
   ·exact e
   ·rcases Xa.mp ((h y).mpr (by simp))with e|m2
    ·exact e.symm
    ·exact Xs (A7 (ha.1 y m2) (hb.1 x m1)) oq
  subst e;rw[pH (a:=a) (b:=b) ha.2 hb.2 λs=>⟨λm=>?_,λm=>?_⟩]
  ·rcases Xa.mp ((h s).mp (by simp[m]))with e|z
   ·subst e;exact Xs (ha.1 _ m) oq
   ·exact z
  ·rcases Xa.mp ((h s).mpr (by simp[m]))with e|z
   ·subst e;exact Xs (hb.1 _ m) oq
   ·exact z
def jl(ss:List Str):List Str:=(if("n" : Str)∈ss then(["n"]:List Str)else [])++(if("w" : Str)∈ss then(["w"]:List Str)else [])
theorem lN{ss:List Str}(h:∀s∈ss,s="n"\/s="w")(s:Str):s∈jl ss↔s∈ss:=by
 unfold jl;by_cases h1:("n" : Str)∈ss<;>by_cases h2:("w" : Str)∈ss<;>simp only[h1,h2,if_true,if_false,Xc,W9,Xv,or_false,false_or]<;>constructor
 ·rintro(rfl|rfl)<;>assumption
 ·exact λm=>h s m
 ·rintro rfl;assumption
 ·intro m;rcases h s m with rfl|rfl
  ·rfl
  ·exact Xs m h2
 ·rintro rfl;assumption
 ·intro m;rcases h s m with rfl|rfl
  ·exact Xs m h1
  ·rfl
 ·exact Xy
 ·intro m;rcases h s m with rfl|rfl
  ·exact h1 m
  ·exact h2 m
theorem D4(ss:List Str):(jl ss).Pairwise wZ:=by
 have hlt:wZ "n" "w":=by unfold wZ;decide +kernel
 unfold jl;by_cases h1:("n" : Str)∈ss<;>by_cases h2:("w" : Str)∈ss<;>simp[h1,h2,hlt]
theorem Jm(v:V):sW v="n"\/sW v="w":=by cases v<;>simp[sW]
theorem L9{ms:List Str}{us:List V}(h:AI ms (us.map sW)):ms=jl (us.map sW):=by
 have hn:∀s∈us.map sW,s="n"\/s="w":=λs hs=>by obtain⟨v,_,rfl⟩:=W_.mp hs;exact Jm v
 exact pH h.1 (D4 _) λs=>(h.2 s).trans (lN hn s).symm
def sQ:Sp:=λvs H Q _=>∃(l:Addr)(us:List V),vs=[.ref l]/\H l=some (.lst us)/\us.length<60/\(∀v∈us,dP v)/\∀(u:Addr)(H':Hp),aM H H'->H' u=some (.lst ((jl (us.map sW)).map V.str))->Q (.ref u) H'
abbrev i8:Stmt:=top 69
theorem rl:ay ["_law_cells"] ["_law_cells"] (ar i8):=fs
variable{P:Program}{w:World}{K:XO}{mg:Z2}{base:Heap}
theorem Dy(B:kf mg)(B2:iY mg)(B3:A0 mg)(Ki:PySem.W.kitOne K (.type "int") (.type "str")=some false)(F:FA K mg "_law_sorts" i8) :
  bc bf P w K mg base 1 "_law_sorts" ["_law_cells"] sQ:=by
 refine F.ok rl λf cdv A outer s H vs Q E hr h=>?_;have hu:=iO hr;obtain⟨l,us,rfl,hl,hz,hc,q⟩:=h;refine⟨_,(av (lq rfl rfl B2.sorted rfl B2.set (bz (N':=["_law_cell_here"]) (src:=[none]) rfl (ba.j5 (by kernel_rfl)) (dX (pv 0)) (λcl C s H fp=>(eE (i:=0))) (λcl C s H fp=>aY) (te:=(hZ (yv K) (yP (bq (tC (.str "n")) (bq (tC (.str "w")) fR))) (Ms D0 (bq (Ms (NI K "str") (bq (bB 0) (bq (tC (.ty "str")) fR))) fR)))) (λcl C s H fp=>(bp K (aP (ae ao (ae ao ah))) (aU BP xS B2.int XB (ae (aW (v9 (n:="str")) xS B.isinstance PyProof.Rows.boot_isinstance (ae (ji 0) (ae (yd (n:="str") xS B3.str (by decide +kernel)) ah))) ah))))))),?_⟩;refine⟨_,rfl,l,rfl,⟨_,aZ.of hl⟩,λD hD=>?_⟩;refine dJ (xs:=us) (λi σ ys H'=>(∃o,σ=[o])/\ys=((us.take i).map sW).map V.str/\ys.length=i/\H' D=some (.lst ys)/\aM H H') ⟨⟨none,rfl⟩,rfl,rfl,ag,aj hD _⟩ ?_ ?_ ?_ ?_ ?_
 ·rintro i σ ys H' _ ⟨_,_,hi,h,_⟩;exact⟨h,XF hi⟩
 ·rintro i σ ys H' _ ⟨_,_,_,_,sm⟩;exact aZ.of (sm _ _ hl)
 ·exact WS (show us.length<=60 by omega) (by decide)
 ·rintro i v σ ys H' hv ⟨⟨o,rfl⟩,rfl,hi,h,sm⟩;refine⟨cN,λR hR=>?_⟩;have sR:=aj hR (.lst [V.str "n",.str "w"]);have fin:∀s,sW v=s->upd H' R (.lst [V.str "n",.str "w"]) D=some (.lst (((us.take i).map sW).map V.str))/\((∃o,(List.set [o] 0 (some v))=[o])/\((us.take i).map sW).map V.str++[V.str s]=((us.take (i+1)).map sW).map V.str/\(((us.take i).map sW).map V.str++[V.str s]).length=i+1/\upd (upd H' R (.lst [V.str "n",.str "w"])) D (.lst (((us.take i).map sW).map V.str++[V.str s])) D=some (.lst (((us.take i).map sW).map V.str++[V.str s]))/\aM H (upd (upd H' R (.lst [V.str "n",.str "w"])) D (.lst (((us.take i).map sW).map V.str++[V.str s])))):=by
   rintro s rfl;refine⟨sR _ _ h,⟨some v,rfl⟩,?_,?_,ag,bu hD (sm.trans sR)⟩
   ·rw[take_one hv,WX,WX];rfl
   ·rw[WW,hi];rfl
  rcases hc v (W4 hv)with⟨n,rfl⟩|⟨x,rfl⟩
  ·obtain⟨f1,f2,f3,f4,f5,f6⟩:=fin "n" rfl;exact⟨_,rfl,_,_,false,rfl,.int n,Ki,.inr ⟨_,rfl,R,_,0,_,rfl,rfl,aZ.of ag,rfl,f1,⟨_,rfl⟩,f3,f4,f5,f6⟩⟩
  ·obtain⟨f1,f2,f3,f4,f5,f6⟩:=fin "w" rfl;exact⟨_,rfl,_,_,true,rfl,.str x,vf (by decide),.inr ⟨_,rfl,R,_,1,_,rfl,rfl,aZ.of ag,rfl,f1,⟨_,rfl⟩,f3,f4,f5,f6⟩⟩
 ·rintro σ ys H1 ⟨_,rfl,hi,h,sm⟩;rw[Xx]at h;refine⟨D,_,rfl,.inl (aZ.of h),by rw[WV,WV];omega,.inr ⟨_,rfl⟩,λu ys hu' hS=>?_⟩;have hys:ys=(jl (us.map sW)).map V.str:=by
   rcases hS with⟨ns,ms,e1,e2,e3,e4⟩|⟨ns,ms,e1,e2,e3,e4⟩
   ·cases hus:us with
    |nil =>
     rw[hus]at e1;cases ns with
     |nil =>
      cases ms with
      |nil=>rw[e2];rfl
      |cons m ms=>exact Xs ((e4 m).mp (by simp)) (by simp)
     |cons n ns=>cases e1
    |cons v vs =>
     rw[hus]at e1;cases ns with
     |nil=>cases e1
     |cons n ns=>cases e1
   ·have:ns=us.map sW:=(List.map_inj_right (f:=V.str) (λa b e=>V.str.inj e)).mp e1.symm;subst this;rw[e2,L9 ⟨e3,e4⟩]
  rw[hys];exact q u _ (sm.trans (aj hu' _)) ag
def vH(n:Nat):Sp:=λvs H Q _=>∃(a:Addr)(x:Wk),vs=[.ref a]/\dv n H a x/\∀H',aM H H'->Q (.bl (cC x.nm)) H'
abbrev eW:Stmt:=top 75
theorem lg:ay ZL ZL (ar eW):=fs
theorem Fm{n:Nat}(F:FA K mg "_law_is_one_row" eW) :
  bc bf P w K mg base 1 "_law_is_one_row" ZL (vH n):=by
 refine F.ok lg λf cdv A outer s H vs Q E hr h=>?_;obtain⟨a,x,rfl,ha,q⟩:=h;refine⟨_,(av (f_ cu (az K (pv 0) ai) (aP (ae ao (ae ao (ae ao (ae ao (ae ao ah)))))) rfl)),?_⟩;obtain⟨xs,h1⟩:=ha.first;refine⟨_,rfl,a,_,0,_,rfl,rfl,aJ.of h1,au (j:=0) rfl,uO,λR hR=>?_⟩;exact⟨R,nE,rfl,.inl (aZ.of ag),rfl,rfl,q _ (aj hR _)⟩
end My
namespace L2
open PySem
def QU(neg:Bool):R2:=λx y H Q=>∃a b xs,x=.ref a/\y=.ref b/\H a=some (.lst xs)/\H b=some (.lst [])/\Q (.bl (if neg then !xs.isEmpty else xs.isEmpty)) H
theorem Dr{X:Cx}(hu:X.A.units+8<cLine):jk X (compareOp .NotEq) (QU true):=by
 intro ac s σ H x y v u Q I rx ry h;obtain⟨a,b,xs,rfl,rfl,ha,hb,q⟩:=h;cases xs with
 |nil =>
  refine ma ac s σ H _ _ v u Q I rx ry ⟨.lst [],.lst [],lJ ha bL.nil,lJ hb bL.nil,?_,?_⟩
  ·have:(D.lst []).depth<=8:=by simp[D.depth,cE]
   omega
  ·have e:cJ (.lst []) (.lst [])=true:=oW _;rw[e];exact q
 |cons z zs=>exact D7 (by omega) ac s σ H _ _ v u Q I rx ry ⟨a,b,_,_,rfl,rfl,aZ.of ha,aZ.of hb,by simp,q⟩
end L2
namespace My
open PySem L2
theorem Kg{x:Wk}:inV (.str x.nm) [.str "keep",.str "turn",.str "must",.str "walk"]=true->∃y,x=.one y/\vZ y:=by
 cases x with
 |one x=>cases x<;>simp only[Wk.nm,W1.nm]<;>intro h<;>first|exact⟨_,rfl,_,.inl ⟨_,rfl⟩⟩|exact⟨_,rfl,_,.inr (.inl ⟨_,rfl⟩)⟩|exact⟨_,rfl,_,.inr (.inr (.inl ⟨_,rfl⟩))⟩|exact⟨_,rfl,_,.inr (.inr (.inr ⟨_,rfl⟩))⟩|exact Xs h (by decide +kernel)
 |both p q=>simp only[Wk.nm];intro h;exact Xs h (by decide +kernel)
 |meet c d p q=>simp only[Wk.nm];intro h;exact Xs h (by decide +kernel)
theorem in_list{x:Wk}:inV (.str x.nm) [.str "cut",.str "count"]=true->∃y,x=.one y/\yr y:=by
 cases x with
 |one x=>cases x<;>simp only[Wk.nm,W1.nm]<;>intro h<;>first|exact⟨_,rfl,_,.inl rfl⟩|exact⟨_,rfl,_,.inr rfl⟩|exact Xs h (by decide +kernel)
 |both p q=>simp only[Wk.nm];intro h;exact Xs h (by decide +kernel)
 |meet c d p q=>simp only[Wk.nm];intro h;exact Xs h (by decide +kernel)
theorem zU{x:Wk}(h:x.nm="same"):∃c d,x=.one (.same c d):=by
 revert h;cases x with
 |one x=>cases x<;>simp only[Wk.nm,W1.nm]<;>first | (intro h;exact⟨_,_,rfl⟩) | (intro h;exact Xs h (by decide +kernel))
 |both p q=>simp only[Wk.nm];intro h;exact Xs h (by decide +kernel)
 |meet c d p q=>simp only[Wk.nm];intro h;exact Xs h (by decide +kernel)
theorem HA{x:Wk}(h:x.nm="sort"):∃cs,x=.one (.sort cs):=by
 revert h;cases x with
 |one x=>cases x<;>simp only[Wk.nm,W1.nm]<;>first | (intro h;exact⟨_,rfl⟩) | (intro h;exact Xs h (by decide +kernel))
 |both p q=>simp only[Wk.nm];intro h;exact Xs h (by decide +kernel)
 |meet c d p q=>simp only[Wk.nm];intro h;exact Xs h (by decide +kernel)
theorem FC{x:Wk}(h:x.nm="sum"):∃cs c,x=.one (.sum cs c):=by
 revert h;cases x with
 |one x=>cases x<;>simp only[Wk.nm,W1.nm]<;>first | (intro h;exact⟨_,_,rfl⟩) | (intro h;exact Xs h (by decide +kernel))
 |both p q=>simp only[Wk.nm];intro h;exact Xs h (by decide +kernel)
 |meet c d p q=>simp only[Wk.nm];intro h;exact Xs h (by decide +kernel)
theorem CZ{x:Wk}(h1:¬inV (.str x.nm) [.str "keep",.str "turn",.str "must",.str "walk"]=true)(h2:x.nm≠"same")(h3:¬inV (.str x.nm) [.str "cut",.str "count"]=true)(h4:x.nm≠"sort")(h5:x.nm≠"sum"):gV x=[]:=by
 cases x with
 |one x=>cases x<;>first|rfl|exact Xs rfl h2|exact Xs rfl h4|exact Xs rfl h5|exact Xs (by simp only[Wk.nm,W1.nm];decide +kernel) h1|exact Xs (by simp only[Wk.nm,W1.nm];decide +kernel) h3
 |both p q=>rfl
 |meet c d p q=>rfl
def zb(n:Nat):Sp:=λvs H Q _=>∃(a:Addr)(x:Wk),vs=[.ref a]/\dv n H a x/\kP x/\∀(u:Addr)(H':Hp),aM H H'->H' u=some (.lst ((gV x).map V.int))->Q (.ref u) H'
abbrev dQ:Stmt:=top 70
theorem fL:ay ["_law_worker_here","_law_word_here"] ZL (ar dQ):=fs
variable{P:Program}{w:World}{K:XO}{mg:Z2}{base:Heap}
theorem GG{n:Nat}(B:kf mg)(F:FA K mg "_law_told_columns" dQ) :
  bc bf P w K mg base 1 "_law_told_columns" ZL (zb n):=by
 refine F.ok fL λf cdv A outer s H vs Q E hr h=>?_;have hu:=iO hr;obtain⟨a,x,rfl,ha,hsm,q⟩:=h;refine⟨_,(aq (aK (i:=1) fL.nd rfl (Xw rfl) (az K (pv 0) ai))
   (aN (dj cu (pv 1) (aP (ae ao (ae ao (ae ao (ae ao ah))))) rfl) (aP (ae (az K (pv 0) ai) ah))
   (aN (aX aQ (pv 1) ao) (aP (ae (az K (pv 0) ai) (ae (az K (pv 0) ai) ah)))
   (aN (dj cu (pv 1) (aP (ae ao (ae ao ah))) rfl) (aU lL rfl B.list PyProof.Rows.boot_list (ae (az K (pv 0) ai) ah))
   (aN (aX aQ (pv 1) ao) (bz (N':=["_law_column_here","_law_falling"]) (src:=[none,none]) rfl (ba.j5 (by kernel_rfl)) (cL (az K (pv 0) ai)) (g:=(ja K 2 (bS (bC 0) (bS (bC 1) i5)))) (λcl C s H fp=>(cA rfl (aA (eE (i:=0)) (aA (eE (i:=1)) bT)))) (λcl C s H fp=>aY) (te:=(bB 0)) (λcl C s H fp=>(ji 0)))
   (av (eP (aX aQ (pv 1) ao) (aF mx (aU lL rfl B.list PyProof.Rows.boot_list (ae (az K (pv 0) ai) ah)) (aP (ae (az K (pv 0) ai) ah))) (aP ah)))))))),?_⟩
 obtain⟨xs,h1⟩:=ha.first;refine⟨_,rfl,a,_,0,_,rfl,rfl,aJ.of h1,au (j:=0) rfl,ak ?_⟩;dsimp only;refine⟨_,rfl,NM,λR1 Qg=>⟨R1,_,rfl,.inl (aZ.of ag),rfl,rfl,_,rfl,?_⟩⟩;have t1:=aj Qg (.lst [V.str "keep",.str "turn",.str "must",.str "walk"]);revert t1;generalize upd H R1 (.lst [V.str "keep",.str "turn",.str "must",.str "walk"])=H1;intro t1;refine cG (λk=>?_) (λk1=>aG ?_)
 ·obtain⟨y,rfl,hy⟩:=Kg k;obtain⟨c,v,vs,h2,hc⟩:=hy.at_ (cb.mp ha);refine⟨_,rfl,a,_,1,_,rfl,rfl,aJ.of (t1 _ _ h2),au (j:=1) rfl,dz,λu hu=>q u _ (t1.trans (aj hu _)) ?_⟩;rw[ag];show _=some (HO.lst ((df y).map V.int));rw[hc];rfl
 refine⟨_,rfl,rfl,_,rfl,?_⟩;rw[bQ];by_cases e2:x.nm="same"
 ·rw[WU e2];obtain⟨c,d,rfl⟩:=zU e2;have h2:H a=some (.tup [.str "same",.int c,.int d]):=cb.mp ha;exact b_ ⟨_,rfl,a,_,1,_,rfl,rfl,aJ.of (t1 _ _ h2),rfl,_,rfl,a,_,2,_,rfl,rfl,aJ.of (t1 _ _ h2),rfl,cN,λu hu=>q u _ (t1.trans (aj hu _)) ag⟩
 rw[WT e2];refine bF (aG ⟨_,rfl,cN,λR2 Ak=>⟨R2,_,rfl,.inl (aZ.of ag),rfl,rfl,_,rfl,?_⟩⟩);have Ut:=aj Ak (.lst [V.str "cut",.str "count"]);have t2:=t1.trans Ut;revert t2;generalize upd H1 R2 (.lst [V.str "cut",.str "count"])=H2;intro t2;refine cG (λk=>?_) (λk3=>aG ?_)
 ·obtain⟨y,rfl,cs,rfl|rfl⟩:=in_list k
  ·obtain⟨t,h2,h3⟩:=cb.mp ha;exact⟨_,rfl,a,_,1,_,rfl,rfl,aJ.of (t2 _ _ h2),rfl,t,_,rfl,.inr (aJ.of (t2 _ _ h3)),λu hu=>q u _ (t2.trans (aj hu _)) ag⟩
  ·obtain⟨t,h2,h3⟩:=cb.mp ha;exact⟨_,rfl,a,_,1,_,rfl,rfl,aJ.of (t2 _ _ h2),rfl,t,_,rfl,.inr (aJ.of (t2 _ _ h3)),λu hu=>q u _ (t2.trans (aj hu _)) ag⟩
 refine⟨_,rfl,rfl,_,rfl,?_⟩;rw[bQ];by_cases e4:x.nm="sort"
 ·rw[WU e4];obtain⟨cs,rfl⟩:=HA e4;obtain⟨t,bs,h2,hI⟩:=cb.mp ha;have hs:cs.length<=1000:=hsm;have hl:(bs.map V.ref).length=cs.length:=by rw[WV,hI.len]
  refine b_ ⟨_,rfl,a,_,1,_,rfl,rfl,aJ.of (t2 _ _ h2),rfl,t,rfl,⟨_,aJ.of (t2 _ _ hI.tup)⟩,λD hD=>?_⟩;refine cF (xs:=bs.map V.ref) (λi σ ys H'=>(∃o1 o2,σ=[o1,o2])/\ys=(cs.take i).map V.int/\ys.length=i/\H' D=some (.lst ys)/\aM H2 H') ⟨⟨none,none,rfl⟩,rfl,rfl,ag,aj hD _⟩ ?_ ?_ ?_ ?_ ?_
  ·rintro i σ ys H' _ ⟨_,_,hi,h,_⟩;exact⟨h,XF hi⟩
  ·rintro i σ ys H' _ ⟨_,_,_,_,sm⟩;exact aJ.of (sm _ _ (t2 _ _ hI.tup))
  ·rw[hl];exact WS hs (by decide)
  ·rintro i x σ ys H' hx ⟨⟨o1,o2,rfl⟩,rfl,hi,h,sm⟩;obtain⟨b,c,rfl,ec,bb,hb⟩:=hI.get hx;refine⟨b,_,rfl,aJ.of (sm _ _ (t2 _ _ hb)),rfl,_,_,rfl,ak ⟨_,_,rfl,ak ⟨rfl,?_⟩⟩⟩;refine⟨_,rfl,h,⟨_,_,rfl⟩,?_,?_,ag,bu hD sm⟩
   ·rw[take_one ec,WX];rfl
   ·rw[WW,hi];rfl
  ·rintro σ ys H' ⟨_,rfl,_,h,sm⟩;rw[hl,Xx]at h;exact q D H' (t2.trans sm) h
 rw[WT e4];refine bF (aG ⟨_,rfl,rfl,_,rfl,?_⟩);rw[bQ];by_cases e5:x.nm="sum"
 ·rw[WU e5];obtain⟨cs,c,rfl⟩:=FC e5;obtain⟨t,h2,h3⟩:=cb.mp ha;have hs:cs.length<=1000:=hsm;refine b_ ⟨_,rfl,a,_,1,_,rfl,rfl,aJ.of (t2 _ _ h2),rfl,t,_,rfl,.inr (aJ.of (t2 _ _ h3)),λu hu=>?_⟩;have s3:=aj hu (.lst (cs.map V.int));refine⟨_,rfl,a,_,2,_,rfl,rfl,aJ.of (s3 _ _ (t2 _ _ h2)),rfl,dz,λu2 hu2=>?_⟩;have s4:=aj hu2 (.lst [V.int c]);refine⟨u,u2,_,_,rfl,rfl,s4 _ _ ag,ag,?_,λu3 vm=>q u3 _ (t2.trans (s3.trans (s4.trans (aj vm _)))) ?_⟩
  ·rw[WV];exact WS (show cs.length+1<=1001 by omega) (by decide)
  ·rw[ag];show _=some (HO.lst ((cs++[c]).map V.int));rw[WX];rfl
 rw[WT e5];refine bF ⟨Xe _,λu hu=>q u _ (t2.trans (aj hu _)) ?_⟩;rw[ag,CZ k1 e2 k3 e4 e5];rfl
def lu(x:Wk)(h:Hd)(es:List Hd):List Hd:=if b9 x=true then es else [h]
def Nm(x:Wk):Prop:=∀c∈gV x,1<=c
def Dj:Wk->Prop
 | .meet c d _ _=>1<=c/\1<=d
 |_=>True
def K5:Wk->Prop
 | .one x=>DS x
 |_=>True
structure wM(n:Nat)(H:Hp)(a b l:Addr)(x:Wk)(h:Hd)(as:Z8)(es:List Hd):Prop where
 wk:dv n H a x
 hd:eN H b h
 en:gy H l as es
 n:b9 x=true->es.length=2
 sm:kP x
 pos:Nm x
 posm:Dj x
 dr:K5 x
theorem wM.same{n:Nat}{H H':Hp}{a b l:Addr}{x:Wk}{h:Hd}{as:Z8}{es:List Hd}(s:aM H H')(i:wM n H a b l x h as es):wM n H' a b l x h as es:=⟨i.wk.keep (aD.of s),s _ _ i.hd,i.en.same s,i.n,i.sm,i.pos,i.posm,i.dr⟩
def zA(n:Nat):Sp:=λvs H Q _=>∃(a b l:Addr)(x:Wk)(h:Hd)(as:Z8)(es:List Hd),vs=[.ref a,.ref b,.ref l]/\wM n H a b l x h as es/\∀H',aM H H'->Q (.bl (!dk x (lu x h es))) H'
theorem qh{c:Int}{h:Hd}(hc:1<=c):there c h=decide (c<=(h.length:Nat)):=by unfold there;rw[WU hc,Bool.true_and]
theorem wc{cs:List Int}{i:Nat}{c:Int}{p:Int->Bool}(h:cs[i]? = some c):(cs.take (i+1)).filter p=(cs.take i).filter p++(if p c=true then [c]else []):=by rw[take_one h,List.filter_append];congr 1;by_cases e:p c=true<;>simp[e]
theorem IL{cs:List Int}{h:Hd}(hp:∀c∈cs,1<=c):(cs.filter λc=>decide ((h.length:Int)<c)).isEmpty=cs.all λc=>there c h:=by
 induction cs with
 |nil=>rfl
 |cons c cs ih =>
  have ih:=ih λc hc=>hp c (by simp[hc]);have hc:=hp c (by simp);rw[List.all_cons,←ih,qh hc,List.filter_cons];by_cases z:c<=(h.length:Nat)
  ·rw[WU z,WT (show¬(h.length:Int)<c by omega)];simp
  ·rw[WT z,WU (show(h.length:Int)<c by omega)];simp
abbrev ft:Stmt:=top 71
theorem lQ:ay ZK ZK (ar ft):=fs
theorem DD{n:Nat}(B:kf mg)(F:FA K mg "_law_no_column" ft)
  (dR:bc bf P w K mg base 1 "_law_told_columns" ZL (zb n)) :
  bc bf P w K mg base 2 "_law_no_column" ZK (zA n):=by
 refine F.ok lQ λf cdv A outer s H vs Q E hr h=>?_;have hu:=iO hr;have hu1:=jD hr;obtain⟨a,b,l,x,h,as,es,rfl,hI,q⟩:=h;refine⟨_,(aN (aX aQ (az K (pv 0) ai) ao) (gm (bY iC (az K (pv 0) ai) (aW bt rfl B.len XM (ae (bp K (pv 2) ai) ah))) (c9 (bY iC (az K (pv 0) ai) (aW bt rfl B.len XM (ae (bp K (pv 2) ai) ah)))))
   (av (bY (Dr hu) (bz (N':=["_law_column_here","_law_head"]) (src:=[none,some 1]) rfl (ba.j5 (by kernel_rfl)) (dX (ax dR hr (ae (pv 0) ah))) (λcl C s H fp=>(eE (i:=0))) (tc:=(rK (hZ (BN λi j=>.bl (decide (j<i))) (bB 0) (Ms (NW K) (bq (bB 1) fR))))) (λcl C s H fp=>qa (aX iC (ji 0) (aW BC xS B.len XM (ae (Ae 1) ah)))) (te:=(bB 0)) (λcl C s H fp=>(ji 0))) (aP ah)))),?_⟩
 obtain⟨xs,h1⟩:=hI.wk.first;refine⟨_,rfl,a,_,0,_,rfl,rfl,aJ.of h1,au (j:=0) rfl,rfl,_,rfl,?_⟩;rw[bQ];by_cases e:x.nm="meet"
 ·rw[WU e];obtain⟨c,d,p,q',rfl⟩:=i4 e;obtain⟨h0,h2,rfl⟩:=dM (hI.n rfl);obtain⟨a0,e0,gJ⟩:=hI.en.nth (i:=0) rfl;obtain⟨a1,e1,vp⟩:=hI.en.nth (i:=1) rfl;have ha:=hI.wk;have hp:1<=c/\1<=d:=hI.posm;cases n with
  |zero=>exact Xy ha
  |succ n =>
  obtain⟨b',e',bs,es',h1,_⟩:=ha;have q:=q H (aM.refl _);have q:Q (.bl (!(there c h0&&there d h2))) H:=q;rw[qh hp.1,qh hp.2]at q;refine b_ ⟨_,rfl,a,_,1,_,rfl,rfl,aJ.of h1,rfl,_,rfl,l,_,0,_,rfl,rfl,aZ.of hI.en.lst,au (j:=0) e0,a0,_,rfl,.inr (aJ.of gJ),_,_,rfl,rfl,_,rfl,?_⟩;rw[WV];refine cG (λk=>?_) (λk=>?_)
  ·have k:=Xr k;rw[WT (show¬c<=(h0.length:Nat) by omega)]at q;exact q
  ·have k:¬(h0.length:Nat)<c:=λz=>k (WU z);rw[WU (show c<=(h0.length:Nat) by omega),Bool.true_and]at q;refine⟨_,rfl,a,_,2,_,rfl,rfl,aJ.of h1,rfl,_,rfl,l,_,1,_,rfl,rfl,aZ.of hI.en.lst,au (j:=1) e1,a1,_,rfl,.inr (aJ.of vp),_,_,rfl,rfl,?_⟩;rw[WV];show Q (.bl (decide ((h2.length:Int)<d))) H;by_cases z:d<=(h2.length:Nat)
   ·rw[WU z]at q;rw[WT (show¬(h2.length:Int)<d by omega)];exact q
   ·rw[WT z]at q;rw[WU (show(h2.length:Int)<d by omega)];exact q
 rw[WT e];have Qf:dk x (lu x h es)=(gV x).all λc=>there c h:=by
  cases x with
  |one x=>rfl
  |both p q=>rfl
  |meet c d p q=>exact Xs rfl e
 have We:(h.map V.str).length=h.length:=WV _;refine bF (aG ⟨_,rfl,a,x,rfl,hI.wk,hI.sm,λu H1 s1 kg=>⟨u,rfl,⟨_,aZ.of kg⟩,λD hD=>?_⟩⟩);refine dJ (xs:=(gV x).map V.int) (λi σ ys H'=>(∃o,σ=[o,some (.ref b)])/\ys=(((gV x).take i).filter λc=>decide ((h.length:Int)<c)).map V.int/\ys.length<=i/\H' D=some (.lst ys)/\aM H1 H') ⟨⟨none,rfl⟩,rfl,WR _,ag,aj hD _⟩ ?_ ?_ ?_ ?_ ?_
 ·rintro i σ ys H' _ ⟨_,_,hi,h,_⟩;exact⟨h,hi⟩
 ·rintro i σ ys H' _ ⟨_,_,_,_,sm⟩;exact aZ.of (sm _ _ kg)
 ·rw[WV];exact WS (rF hI.sm) (by decide)
 ·rintro i v σ ys H' hv ⟨⟨o,rfl⟩,rfl,hi,hh,sm⟩;rw[Xi]at hv;cases ec:(gV x)[i]? with
  |none=>rw[ec]at hv;cases hv
  |some c =>
   rw[ec]at hv;have hv:V.int c=v:=Xf hv;subst hv;refine⟨_,rfl,_,rfl,b,_,rfl,.inr (aJ.of (sm _ _ (s1 _ _ hI.hd))),_,_,rfl,rfl,_,rfl,?_⟩;refine cG (λk=>?_) (λk=>?_)<;>rw[We]at k
   ·refine⟨_,rfl,hh,⟨_,rfl⟩,?_,by rw[WW];exact Nat.add_le_add_right hi 1,ag,bu hD sm⟩;rw[wc ec,Xu k,WX];rfl
   ·refine⟨⟨_,rfl⟩,?_,Nat.le_succ_of_le hi,hh,sm⟩;rw[wc ec,Xt k,XC]
 ·rintro σ ys H' ⟨_,rfl,_,hh,sm⟩;rw[WV,Xx]at hh;refine⟨Xe _,λR hR=>⟨D,R,_,rfl,rfl,aj hR _ _ _ hh,ag,?_⟩⟩;have q:=q _ (s1.trans (sm.trans (aj hR (.lst []))));rw[Qf,←IL hI.pos]at q;show Q (.bl (!(((gV x).filter _).map V.int).isEmpty)) _;rw[List.isEmpty_map];exact q
def tJ:W1->Str->Bool
 | .walk _ mv,t=>!(decide (jl ((mv.filter λv=>!decide (v=.non)).map sW)=[])||decide (jl ((mv.filter λv=>!decide (v=.non)).map sW)=[t]))
 | .turn _ ps,t=>!decide (jl ((ps.map λp=>p.1).map sW)=[t]) || !decide (jl ((ps.map λp=>p.2).map sW)=[t])
 | .must _ ps,t=>!decide (jl ((ps.map λp=>p.1).map sW)=[t])||decide (1<(jl ((ps.map λp=>p.2).map sW)).length)
 |_,_=>false
def rQ(x:W1):Prop:=(∃c ps,x=.turn c ps)\/(∃c ps,x=.must c ps)\/∃c mv,x=.walk c mv
def ML(n:Nat):Sp:=λvs H Q _=>∃(a:Addr)(x:W1)(t:Str),vs=[.ref a,.str t]/\dv n H a (.one x)/\rQ x/\DS x/\∀H',aM H H'->Q (.bl (tJ x t)) H'
theorem jL(s t:List Str):cJ (.lst (s.map D.str)) (.lst (t.map D.str))=decide (s=t):=by rw[←p8 s t];simp only[cJ]
theorem k_{K:XO}{H:Hp}{a:Addr}{h:List Str}(e:H a=some (.lst (h.map V.str))):a_ K H (.lst (h.map D.str)) (.ref a):=lJ e (mq h)
theorem wD(h:List Str):(D.lst (h.map D.str)).depth<=1:=by have:=kH h;simp only[D.depth]at this⊢;exact this
theorem sx{mv:List V}{i:Nat}{v:V}{p:V->Bool}(h:mv[i]? = some v):(mv.take (i+1)).filter p=(mv.take i).filter p++(if p v=true then [v]else []):=by rw[take_one h,List.filter_append];congr 1;by_cases e:p v=true<;>simp[e]
theorem IJ{x:W1}(hx:rQ x)(h:x.nm="walk"):∃c mv,x=.walk c mv:=by
 rcases hx with⟨c,ps,rfl⟩|⟨c,ps,rfl⟩|h
 ·exact Xs h (by simp only[W1.nm];decide +kernel)
 ·exact Xs h (by simp only[W1.nm];decide +kernel)
 ·exact h
theorem Gy{v:V}(h:v=.non\/dP v)(n:¬decide (v=.non)=true):dP v:=by
 rcases h with rfl|h
 ·exact Xs (WU rfl) n
 ·exact h
abbrev cK:Stmt:=top 72
theorem dU:ay ["_law_worker_here","_law_here","_law_ones","_law_others"] ["_law_worker_here","_law_here"] (ar cK):=fs
theorem Br{n:Nat}(B:kf mg)(F:FA K mg "_law_cells_wrong" cK)
  (eX:bc bf P w K mg base 1 "_law_sorts" ["_law_cells"] sQ) :
  bc bf P w K mg base 2 "_law_cells_wrong" ["_law_worker_here","_law_here"] (ML n):=by
 refine F.ok dU λf cdv A outer s H vs Q E hr h=>?_;have hu:=iO hr;have hu1:=jD hr;obtain⟨a,x,t,rfl,ha,hx,hd,q⟩:=h;refine⟨_,(aN (aX aQ (az K (pv 0) ai) ao) (f_ r8 (ax eX hr (ae (bz (N':=["_law_state_here","_law_cell_here","_law_after"]) (src:=[none,none,none]) rfl (ba.j5 (by kernel_rfl)) (cL (az K (pv 0) ai)) (g:=(ja K 3 (bS (bC 0) (bS (bC 1) (bS (bC 2) i5))))) (λcl C s H fp=>(cA rfl (aA (eE (i:=0)) (aA (eE (i:=1)) (aA (eE (i:=2)) bT))))) (tc:=(rK (hZ (λx y H Q=>y=.non/\Q (.bl (!decide (x=.non))) H) (bB 1) (tC .non)))) (λcl C s H fp=>qa (aX uL (ji 1) jg)) (te:=(bB 1)) (λcl C s H fp=>(ji 1))) ah)) (aP (ae (aP ah) (ae (aP (ae (pv 1) ah)) ah))) rfl)
   (aq (aK (i:=2) dU.nd rfl (Xw rfl) (ax eX hr (ae (bz (N':=["_law_a","_law_b"]) (src:=[none,none]) rfl (ba.j5 (by kernel_rfl)) (cL (az K (pv 0) ai)) (g:=(ja K 2 (bS (bC 0) (bS (bC 1) i5)))) (λcl C s H fp=>(cA rfl (aA (eE (i:=0)) (aA (eE (i:=1)) bT)))) (λcl C s H fp=>aY) (te:=(bB 0)) (λcl C s H fp=>(ji 0))) ah)))
   (aq (aK (i:=3) dU.nd rfl (Xw rfl) (ax eX hr (ae (bz (N':=["_law_a","_law_b"]) (src:=[none,none]) rfl (ba.j5 (by kernel_rfl)) (cL (az K (pv 0) ai)) (g:=(ja K 2 (bS (bC 0) (bS (bC 1) i5)))) (λcl C s H fp=>(cA rfl (aA (eE (i:=0)) (aA (eE (i:=1)) bT)))) (λcl C s H fp=>aY) (te:=(bB 1)) (λcl C s H fp=>(ji 1))) ah)))
   (aN (aX aQ (az K (pv 0) ai) ao) (gm (bY ma (pv 2) (aP (ae (pv 1) ah))) (c9 (bY ma (pv 3) (aP (ae (pv 1) ah)))))
   (av (gm (bY ma (pv 2) (aP (ae (pv 1) ah))) (c9 (bY iC (aW bt rfl B.len XM (ae (pv 3) ah)) ai)))))))),?_⟩
 obtain⟨xs,h1⟩:=ha.first;refine⟨_,rfl,a,_,0,_,rfl,rfl,aJ.of h1,au (j:=0) rfl,rfl,_,rfl,?_⟩;rw[bQ];by_cases e:x.nm="walk"
 ·rw[WU (show(Wk.one x).nm="walk" from e)];obtain⟨c,mv,rfl⟩:=IJ hx e;obtain⟨st,t',bs,h1,hI⟩:=cb.mp ha;have hz:mv.length<=50:=hd.ne;have hg:∀v∈mv,v=.non\/dP v:=hd.good;have hlb:(bs.map V.ref).length=mv.length:=by rw[WV,hI.len]
  refine b_ ⟨_,rfl,a,_,3,_,rfl,rfl,aJ.of h1,rfl,t',rfl,⟨_,aJ.of hI.tup⟩,λDl hD=>?_⟩;refine cF (xs:=bs.map V.ref) (λi σ ys H'=>(∃o1 o2 o3,σ=[o1,o2,o3])/\ys=(mv.take i).filter (λv=>!decide (v=.non))/\ys.length<=i/\H' Dl=some (.lst ys)/\aM H H') ⟨⟨none,none,none,rfl⟩,rfl,WR _,ag,aj hD _⟩ ?_ ?_ ?_ ?_ ?_
  ·rintro i σ ys H' _ ⟨_,_,hi,h,_⟩;exact⟨h,hi⟩
  ·rintro i σ ys H' _ ⟨_,_,_,_,sm⟩;exact aJ.of (sm _ _ hI.tup)
  ·rw[hlb];exact WS hz (by decide)
  ·rintro i v σ ys H' hv ⟨⟨o1,o2,o3,rfl⟩,rfl,hi,h,sm⟩;obtain⟨b,y,rfl,ey,s1,s2,hb⟩:=hI.get hv;refine⟨b,_,rfl,aJ.of (sm _ _ hb),rfl,_,_,rfl,ak ⟨_,_,rfl,ak ⟨_,_,rfl,ak ⟨rfl,?_⟩⟩⟩⟩;refine⟨_,rfl,rfl,_,rfl,cG (λk=>?_) (λk=>?_)⟩
   ·refine⟨_,rfl,h,⟨_,_,_,rfl⟩,?_,by rw[WW];exact Nat.add_le_add_right hi 1,ag,bu hD sm⟩;rw[sx ey,Xu k]
   ·refine⟨⟨_,_,_,rfl⟩,?_,Nat.le_succ_of_le hi,h,sm⟩;rw[sx ey,Xt k,XC]
  ·rintro σ ys H1 ⟨_,rfl,hyl,h,sm⟩;rw[hlb,Xx]at h;rw[hlb,Xx]at hyl;refine⟨Dl,_,rfl,h,by omega,λv hv=>?_,λu H2 s2 hu2=>?_⟩
   ·obtain⟨m1,m2⟩:=List.mem_filter.mp hv;exact Gy (hg v m1) (by simpa using m2)
   refine⟨Xe _,λR1 Qg=>⟨_,rfl,dz,λR2 Ak=>⟨cN,λR3 QR=>?_⟩⟩⟩;have t1:=aj Qg (.lst []);have t2:=aj Ak (.lst [V.str t]);have t3:=aj QR (.lst [V.ref R1,.ref R2]);have Gq:cE [D.lst [],.lst [.str t]]<=1:=by simp[cE,D.depth]
   refine⟨_,[D.lst [],.lst [.str t]],R3,_,rfl,.inl (aZ.of ag),k_ ((t1.trans (t2.trans t3)) _ _ hu2),bL.cons (lJ (t3 _ _ (t2 _ _ ag)) bL.nil) (bL.cons (lJ (t3 _ _ ag) (bL.cons (gW _) bL.nil)) bL.nil),?_,?_⟩
   ·exact WY (show(A.deeper (PyProof.Rows.envOfC "_law_cells_wrong" (ar cK) s.heap.objs.size f cdv)).units+1+cE _<=_ by omega) hu
   ·have q:=q _ (sm.trans (s2.trans (t1.trans (t2.trans t3))));have e1:=jL [] (jl ((mv.filter λv=>!decide (v=.non)).map sW));have e2:=jL [t] (jl ((mv.filter λv=>!decide (v=.non)).map sW));show Q (.bl (!(cJ (.lst []) _||(cJ (.lst [.str t]) _||false)))) _;rw[show D.lst []=.lst (([]:List Str).map D.str) from rfl,show D.lst [.str t]=.lst (([t]:List Str).map D.str) from rfl,e1,e2,Bool.or_false];have q:Q (.bl (!(decide (jl ((mv.filter λv=>!decide (v=.non)).map sW)=[])||decide (jl ((mv.filter λv=>!decide (v=.non)).map sW)=[t])))) _:=q;rw[show decide (([]:List Str)=jl ((mv.filter λv=>!decide (v=.non)).map sW))=decide (jl ((mv.filter λv=>!decide (v=.non)).map sW)=[]) from by simp only[eq_comm],show decide ([t]=jl ((mv.filter λv=>!decide (v=.non)).map sW))=decide (jl ((mv.filter λv=>!decide (v=.non)).map sW)=[t]) from by simp only[eq_comm]];exact q
 rw[WT (show¬(Wk.one x).nm="walk" from e)];have key:∃(c:Int)(ps:List (V×V))(t':Addr)(bs:Z8),H a=some (.tup [.str x.nm,.int c,.ref t'])/\bR lh H t' bs ps/\ps.length<=50/\(∀p∈ps,dP p.1/\dP p.2)/\tJ x t=(!decide (jl ((ps.map λp=>p.1).map sW)=[t])||(if x.nm="turn" then !decide (jl ((ps.map λp=>p.2).map sW)=[t])else decide (1<(jl ((ps.map λp=>p.2).map sW)).length))):=by
  rcases hx with⟨c,ps,rfl⟩|⟨c,ps,rfl⟩|⟨c,mv,rfl⟩
  ·obtain⟨t',bs,h1,hI⟩:=cb.mp ha;exact⟨c,ps,t',bs,h1,hI,hd.ne.2,hd.good,by rw[Xu (show(W1.turn c ps).nm="turn" from rfl)];rfl⟩
  ·obtain⟨t',bs,h1,hI⟩:=cb.mp ha;exact⟨c,ps,t',bs,h1,hI,hd.ne.2,hd.good,by rw[Xt (by simp only[W1.nm];decide +kernel)];rfl⟩
  ·exact Xs rfl e
 obtain⟨c,ps,t',bs,h1,hI,hz,hg,hcw⟩:=key;rw[hcw]at q;have hlb:(bs.map V.ref).length=ps.length:=by rw[WV,hI.len]
 refine bF (aG ⟨_,rfl,a,_,2,_,rfl,rfl,aJ.of h1,rfl,t',rfl,⟨_,aJ.of hI.tup⟩,λDl hD=>?_⟩);refine cF (xs:=bs.map V.ref) (λi σ ys H'=>(∃o1 o2,σ=[o1,o2])/\ys=(ps.take i).map (λp=>p.1)/\ys.length=i/\H' Dl=some (.lst ys)/\aM H H') ⟨⟨none,none,rfl⟩,rfl,rfl,ag,aj hD _⟩ ?_ ?_ ?_ ?_ ?_
 ·rintro i σ ys H' _ ⟨_,_,hi,h,_⟩;exact⟨h,XF hi⟩
 ·rintro i σ ys H' _ ⟨_,_,_,_,sm⟩;exact aJ.of (sm _ _ hI.tup)
 ·rw[hlb];exact WS hz (by decide)
 ·rintro i v σ ys H' hv ⟨⟨o1,o2,rfl⟩,rfl,hi,h,sm⟩;obtain⟨b,y,rfl,ey,hb⟩:=hI.get hv;refine⟨b,_,rfl,aJ.of (sm _ _ hb),rfl,_,_,rfl,ak ⟨_,_,rfl,ak ⟨rfl,?_⟩⟩⟩;refine⟨_,rfl,h,⟨_,_,rfl⟩,?_,?_,ag,bu hD sm⟩
  ·rw[take_one ey,WX];rfl
  ·rw[WW,hi];rfl
 rintro σ ys H1 ⟨_,rfl,hyl,h,sm⟩;rw[hlb,Xx]at h;refine⟨Dl,_,rfl,h,by rw[WV];omega,λv hv=>?_,λu1 H2 s2 kg=>ak ?_⟩
 ·obtain⟨p,hp,rfl⟩:=W_.mp hv;exact(hg p hp).1
 have s12:=sm.trans s2;dsimp only;refine⟨_,rfl,a,_,2,_,rfl,rfl,aJ.of (s12 _ _ h1),rfl,t',rfl,⟨_,aJ.of (s12 _ _ hI.tup)⟩,λD2 hD2=>?_⟩;refine cF (xs:=bs.map V.ref) (λi σ ys H'=>(∃o1 o2,σ=[o1,o2])/\ys=(ps.take i).map (λp=>p.2)/\ys.length=i/\H' D2=some (.lst ys)/\aM H2 H') ⟨⟨none,none,rfl⟩,rfl,rfl,ag,aj hD2 _⟩ ?_ ?_ ?_ ?_ ?_
 ·rintro i σ ys H' _ ⟨_,_,hi,h,_⟩;exact⟨h,XF hi⟩
 ·rintro i σ ys H' _ ⟨_,_,_,_,sm⟩;exact aJ.of (sm _ _ (s12 _ _ hI.tup))
 ·rw[hlb];exact WS hz (by decide)
 ·rintro i v σ ys H' hv ⟨⟨o1,o2,rfl⟩,rfl,hi,h,sm'⟩;obtain⟨b,y,rfl,ey,hb⟩:=hI.get hv;refine⟨b,_,rfl,aJ.of (sm' _ _ (s12 _ _ hb)),rfl,_,_,rfl,ak ⟨_,_,rfl,ak ⟨rfl,?_⟩⟩⟩;refine⟨_,rfl,h,⟨_,_,rfl⟩,?_,?_,ag,bu hD2 sm'⟩
  ·rw[take_one ey,WX];rfl
  ·rw[WW,hi];rfl
 rintro de Uy H3 ⟨_,rfl,QO,h2,sm3⟩;rw[hlb,Xx]at h2;refine⟨D2,_,rfl,h2,by rw[WV];omega,λv hv=>?_,λu2 H4 s4 hu2=>ak ?_⟩
 ·obtain⟨p,hp,rfl⟩:=W_.mp hv;exact(hg p hp).2
 have OT:=sm3.trans s4;have qW:=s12.trans OT;have Jq:=OT _ _ kg;dsimp only;have Gq:∀ss:List Str,(A.deeper (PyProof.Rows.envOfC "_law_cells_wrong" (ar cK) s.heap.objs.size f cdv)).units+(D.lst (ss.map D.str)).depth<cLine:=λss=>WY (Nat.add_le_add_left (WS (wD ss) (by decide:1<=8)) _) hu;refine⟨_,rfl,a,_,0,_,rfl,rfl,aJ.of (qW _ _ h1),au (j:=0) rfl,rfl,_,rfl,?_⟩;rw[bQ];have step:∀(tb:TE)(H5:Hp),True:=λ_ _=>trivial;by_cases e2:x.nm="turn"
 ·rw[WU e2];rw[Xu e2]at q;refine b_ ⟨_,rfl,_,rfl,dz,λR hR=>?_⟩;have tR:=aj hR (.lst [V.str t]);refine⟨_,_,k_ (tR _ _ Jq),k_ (h:=[t]) ag,Gq _,_,rfl,?_⟩;rw[jL];by_cases z:jl ((ps.map λp=>p.1).map sW)=[t]
  ·rw[WU z]at q⊢;refine bF ⟨_,rfl,_,rfl,dz,λR2 Ak=>?_⟩;have Sl:=aj Ak (.lst [V.str t]);refine⟨_,_,k_ (Sl _ _ (tR _ _ hu2)),k_ (h:=[t]) ag,Gq _,?_⟩;rw[jL];exact q _ (qW.trans (tR.trans Sl))
  ·rw[WT z]at q⊢;exact b_ (q _ (qW.trans tR))
 ·rw[WT e2];rw[Xt e2]at q;refine bF (aG ⟨_,rfl,_,rfl,dz,λR hR=>?_⟩);have tR:=aj hR (.lst [V.str t]);refine⟨_,_,k_ (tR _ _ Jq),k_ (h:=[t]) ag,Gq _,_,rfl,?_⟩;rw[jL];by_cases z:jl ((ps.map λp=>p.1).map sW)=[t]
  ·rw[WU z]at q⊢;refine bF ⟨_,rfl,u2,_,rfl,.inl (aZ.of (tR _ _ hu2)),_,_,rfl,rfl,?_⟩;have q:=q _ (qW.trans tR);show Q (.bl (decide ((1:Int)<(((jl ((ps.map λp=>p.2).map sW)).map V.str).length:Nat)))) _;rw[WV,show decide ((1:Int)<((jl ((ps.map λp=>p.2).map sW)).length:Nat))=decide (1<(jl ((ps.map λp=>p.2).map sW)).length) from by simp only[decide_eq_decide];omega];exact q
  ·rw[WT z]at q⊢;exact b_ (q _ (qW.trans tR))
theorem tP(us:List V):∀s∈us.map sW,s="n"\/s="w":=λs hs=>by obtain⟨v,_,rfl⟩:=W_.mp hs;exact Jm v
theorem tO{us:List V}(hn:us≠[])(t:Str):jl (us.map sW)=[t]↔∀v∈us,sW v=t:=by
 constructor
 ·intro h v hv;have:=(lN (tP us) (sW v)).mpr (W_.mpr ⟨v,hv,rfl⟩);rw[h]at this;exact W9.mp this
 ·intro h;refine pH (D4 _) (List.pairwise_singleton _ _) λs=>(lN (tP us) s).trans ⟨λm=>?_,λm=>?_⟩
  ·obtain⟨v,hv,rfl⟩:=W_.mp m;rw[h v hv];simp
  ·rw[W9.mp m];cases us with
   |nil=>exact Xs rfl hn
   |cons v vs=>exact W_.mpr ⟨v,by simp,h v (by simp)⟩
theorem sP{us:List V}(hn:us≠[])(t:Str):decide (jl (us.map sW)=[t])=us.all λv=>decide (sW v=t):=by apply Bool.eq_iff_iff.mpr;rw[decide_eq_true_iff,tO hn,List.all_eq_true];exact⟨λh v hv=>WU (h v hv),λh v hv=>Xr (h v hv)⟩
theorem FX(us:List V):decide (1<(jl (us.map sW)).length) = !cX (us.map sW):=by
 cases us with
 |nil=>rfl
 |cons v vs =>
  by_cases h:∀u∈v::vs,sW u=sW v
  ·rw[(tO (by simp) (sW v)).mpr h];have:cX ((v::vs).map sW)=true:=by unfold cX;rw[List.all_eq_true];intro s hs;obtain⟨u,hu,rfl⟩:=W_.mp hs;exact WU (h u hu)
   rw[this];rfl
  ·have h2:cX ((v::vs).map sW)=false:=by apply Xb.mpr;intro z;unfold cX at z;rw[List.all_eq_true]at z;exact h λu hu=>Xr (z (sW u) (W_.mpr ⟨u,hu,rfl⟩))
   rw[h2];have hlen:1<(jl ((v::vs).map sW)).length:=by
    match hs:jl ((v::vs).map sW)with
    |[] =>have:=(lN (tP (v::vs)) (sW v)).mpr (by simp);rw[hs]at this;cases this
    |[a] =>exfalso;have e:=(tO (by simp) a).mp hs;exact h λu hu=>by rw[e u hu,e v (by simp)]
    |a::b::r=>simp
   rw[WU hlen];rfl
theorem IK{x:W1}{h:Hd}{t:Str}{c:Int}(hx:rQ x)(hd:DS x)(hc:df x=[c])(ht:bx h c=t)(nt:t≠"t"):bg (.one x) [h] = !tJ x t:=by
 rcases hx with⟨c',ps,rfl⟩|⟨c',ps,rfl⟩|⟨c',mv,rfl⟩<;>cases hc
 ·have hn:ps≠[]:=hd.ne.1;show cY (ps.flatMap λp=>[p.1,p.2]) (bx h c) = !(_||_);rw[ht,sP (by simpa using hn),sP (by simpa using hn)];unfold cY;rw[WT nt,List.all_flatMap,List.all_map,List.all_map];clear hd hn;induction ps with
  |nil=>rfl
  |cons p ps ih =>simp only[Bool.not_false,Bool.true_and]at ih⊢;rw[List.all_cons,List.all_cons,List.all_cons,ih];simp only[List.all_cons,List.all_nil,Function.comp,Bool.and_true];cases decide (sW p.1=t)<;>cases decide (sW p.2=t)<;>simp
 ·have hn:ps≠[]:=hd.ne.1;show(cX (ps.map λp=>sW p.2)&&cY (ps.map λp=>p.1) (bx h c)) = !(_||_);rw[ht,sP (by simpa using hn),FX];unfold cY;rw[WT nt,List.map_map];simp only[Bool.not_or,Bool.not_not,Bool.not_false,Bool.true_and];rw[Bool.and_comm];rfl
 ·show cY (mv.filter λv=>!decide (v=.non)) (bx h c) = !(!(_||_));rw[ht,Bool.not_not];unfold cY;rw[WT nt];by_cases e:mv.filter (λv=>!decide (v=.non))=[]
  ·rw[e];rfl
  ·rw[sP e];have:decide (jl ((mv.filter λv=>!decide (v=.non)).map sW)=[])=false:=by
    apply WT;intro z;cases hm:mv.filter (λv=>!decide (v=.non))with
    |nil=>exact e hm
    |cons v vs =>have:=(lN (tP (mv.filter λv=>!decide (v=.non))) (sW v)).mpr (by rw[hm];simp);rw[z]at this;cases this
   rw[this];rfl
def qj:W1->Int
 | .keep c _=>c
 | .same _ d=>d
 | .turn c _=>c
 | .must c _=>c
 | .walk c _=>c
 | .sum _ c=>c
 |_=>0
def DZ(x:W1):Prop:=(∃c t,x=.keep c t)\/(∃c d,x=.same c d)\/(∃cs c,x=.sum cs c)\/rQ x
theorem Cs{x:W1}(h:DZ x):∃pre,df x=pre++[qj x]:=by
 rcases h with⟨c,t,rfl⟩|⟨c,d,rfl⟩|⟨cs,c,rfl⟩|⟨c,ps,rfl⟩|⟨c,ps,rfl⟩|⟨c,mv,rfl⟩
 ·exact⟨[],rfl⟩
 ·exact⟨[c],rfl⟩
 ·exact⟨cs,rfl⟩
 ·exact⟨[],rfl⟩
 ·exact⟨[],rfl⟩
 ·exact⟨[],rfl⟩
theorem J_{x:Wk}:inV (.str x.nm) [.str "keep",.str "same",.str "turn",.str "must",.str "walk",.str "sum"]=true->∃y,x=.one y/\DZ y:=by
 cases x with
 |one x=>cases x<;>simp only[Wk.nm,W1.nm]<;>intro h<;>first|exact⟨_,rfl,.inl ⟨_,_,rfl⟩⟩|exact⟨_,rfl,.inr (.inl ⟨_,_,rfl⟩)⟩|exact⟨_,rfl,.inr (.inr (.inl ⟨_,_,rfl⟩))⟩|exact⟨_,rfl,.inr (.inr (.inr (.inl ⟨_,_,rfl⟩)))⟩|exact⟨_,rfl,.inr (.inr (.inr (.inr (.inl ⟨_,_,rfl⟩))))⟩|exact⟨_,rfl,.inr (.inr (.inr (.inr (.inr ⟨_,_,rfl⟩))))⟩|exact Xs h (by decide +kernel)
 |both p q=>simp only[Wk.nm];intro h;exact Xs h (by decide +kernel)
 |meet c d p q=>simp only[Wk.nm];intro h;exact Xs h (by decide +kernel)
theorem IM{x:Wk}{hs:List Hd}(h:¬inV (.str x.nm) [.str "keep",.str "same",.str "turn",.str "must",.str "walk",.str "sum"]=true)(h1:x.nm≠"both")(h2:x.nm≠"meet"):bg x hs=true:=by
 cases x with
 |one x=>cases x<;>first|rfl|exact Xs (by simp only[Wk.nm,W1.nm];decide +kernel) h
 |both p q=>exact Xs rfl h1
 |meet c d p q=>exact Xs rfl h2
theorem zX{x:Wk}(h:x.nm="both"):∃p q,x=.both p q:=by
 revert h;cases x with
 |one x=>cases x<;>simp only[Wk.nm,W1.nm]<;>(intro h;exact Xs h (by decide +kernel))
 |both p q=>intro h;exact⟨_,_,rfl⟩
 |meet c d p q=>simp only[Wk.nm];intro h;exact Xs h (by decide +kernel)
theorem Ih{x:W1}(h:DZ x)(h1:x.nm≠"keep")(h2:x.nm≠"same")(h3:x.nm≠"sum"):rQ x:=by
 rcases h with⟨c,t,rfl⟩|⟨c,d,rfl⟩|⟨cs,c,rfl⟩|h
 ·exact Xs rfl h1
 ·exact Xs rfl h2
 ·exact Xs rfl h3
 ·exact h
theorem Ef{x:W1}(h:rQ x):df x=[qj x]:=by rcases h with⟨c,ps,rfl⟩|⟨c,ps,rfl⟩|⟨c,mv,rfl⟩<;>rfl
def vN(n:Nat):Sp:=λvs H Q _=>∃(a b l:Addr)(x:Wk)(h:Hd)(as:Z8)(es:List Hd),vs=[.ref a,.ref b,.ref l]/\wM n H a b l x h as es/\dk x (lu x h es)=true/\∀H',aM H H'->Q (.bl (!bg x (lu x h es))) H'
abbrev gH:Stmt:=top 73
theorem dY:ay ["_law_worker_here","_law_head","_law_ends","_law_word_here","_law_pair","_law_here"] ZK (ar gH):=fs
theorem B6{n:Nat}(B2:iY mg)(F:FA K mg "_law_no_sort" gH)
  (dR:bc bf P w K mg base 1 "_law_told_columns" ZL (zb n))
  (kD:bc bf P w K mg base 2 "_law_cells_wrong" ["_law_worker_here","_law_here"] (ML n)) :
  bc bf P w K mg base 3 "_law_no_sort" ZK (vN n):=by
 refine F.ok dY λf cdv A outer s H vs Q E hr h=>?_;have hu:=iO hr;obtain⟨a,b,l,x,h,as,es,rfl,hI,hf,q⟩:=h;refine⟨_,(aq (aK (i:=3) dY.nd rfl (Xw rfl) (az K (pv 0) ai))
   (aN (aX aQ (pv 3) ao) (bY ma (bp K (pv 2) ai) (bp K (pv 2) ai))
   (aq (dg (aX aQ (pv 3) ao)
    (aq (aK (i:=4) dY.nd rfl (Xw rfl) (aH (ae (az K (bp K (pv 2) ai) (aF bM (az K (pv 0) ai) ai)) (ae (az K (bp K (pv 2) ai) (aF bM (az K (pv 0) ai) ai)) ah))))
     (av (gm (bY nu (az K (pv 4) ai) (az K (pv 4) ai)) (c9 (bY aQ (az K (pv 4) ai) ao)))))
    bU)
   (aN (dj je (pv 3) (aP (ae ao (ae ao (ae ao (ae ao (ae ao (ae ao ah))))))) rfl) eA
   (aq (aK (i:=5) dY.nd rfl (Xw rfl) (az K (pv 1) (aF bM (bp K (ax dR hr (ae (pv 0) ah)) (nq jT ai)) ai)))
   (aN (aX aQ (pv 3) ao) (bY nu (az K (az K (pv 0) ai) ai) (bp K (aP (ae (pv 5) (ae ao ah))) (aU cB rfl B2.int XB (ae (bY aQ (pv 5) ao) ah))))
   (aN (aX aQ (pv 3) ao) (gm (bY aQ (pv 5) ao) (c9 (bY nu (pv 5) (az K (pv 1) (aF bM (az K (pv 0) ai) ai)))))
   (aN (aX aQ (pv 3) ao) (bY aQ (pv 5) ao)
   (av (gm (bY aQ (pv 5) ao) (c9 (ax kD hr (ae (pv 0) (ae (pv 5) ah)))))))))))))),?_⟩
 obtain⟨xs,h1⟩:=hI.wk.first;refine⟨_,rfl,a,_,0,_,rfl,rfl,aJ.of h1,au (j:=0) rfl,ak ?_⟩;dsimp only;refine⟨_,rfl,rfl,_,rfl,?_⟩;rw[bQ];by_cases e1:x.nm="both"
 ·rw[WU e1];obtain⟨p,q',rfl⟩:=zX e1;obtain⟨h0,h2,rfl⟩:=dM (hI.n rfl);obtain⟨a0,e0,gJ⟩:=hI.en.nth (i:=0) rfl;obtain⟨a1,e1',vp⟩:=hI.en.nth (i:=1) rfl;refine b_ ⟨_,rfl,l,_,0,_,rfl,rfl,aZ.of hI.en.lst,au (j:=0) e0,_,rfl,l,_,1,_,rfl,rfl,aZ.of hI.en.lst,au (j:=1) e1',_,_,zt gJ,zt vp,?_,?_⟩
  ·exact WY (Nat.add_le_add_left (WS (kH h0) (by decide:1<=8)) _) hu
  ·rw[p8];exact q H (aM.refl _)
 rw[WT e1];refine bF (aG ⟨_,rfl,rfl,_,rfl,?_⟩);rw[bQ];by_cases e2:x.nm="meet"
 ·rw[WU e2];obtain⟨c,d,p,q',rfl⟩:=i4 e2;obtain⟨h0,h2,rfl⟩:=dM (hI.n rfl);obtain⟨a0,e0,gJ⟩:=hI.en.nth (i:=0) rfl;obtain⟨a1,e1',vp⟩:=hI.en.nth (i:=1) rfl;have hf:(there c h0&&there d h2)=true:=hf;rw[Xq]at hf;have ha:=hI.wk;cases n with
  |zero=>exact Xy ha
  |succ n =>
  obtain⟨b',e',bs,es',h1,_⟩:=ha;refine b_ ⟨_,rfl,l,_,0,_,rfl,rfl,aZ.of hI.en.lst,au (j:=0) e0,_,rfl,a,_,1,_,rfl,rfl,aJ.of h1,rfl,_,_,rfl,rfl,a0,_,_,_,rfl,rfl,aJ.of gJ,dF (fA hf.1),?_⟩;refine⟨_,rfl,l,_,1,_,rfl,rfl,aZ.of hI.en.lst,au (j:=1) e1',_,rfl,a,_,2,_,rfl,rfl,aJ.of h1,rfl,_,_,rfl,rfl,a1,_,_,_,rfl,rfl,aJ.of vp,dF (fA hf.2),cN,λu hu'=>ak ?_⟩;have su:=aj hu' (.tup [.str (bx h0 c),.str (bx h2 d)]);have hu0:upd H u (.tup [.str (bx h0 c),.str (bx h2 d)]) u=_:=ag;revert su hu0;generalize upd H u (.tup [.str (bx h0 c),.str (bx h2 d)])=H1;intro su hu0;dsimp only;refine⟨_,rfl,u,_,0,_,rfl,rfl,aJ.of hu0,au (j:=0) rfl,_,rfl,u,_,1,_,rfl,rfl,aJ.of hu0,rfl,rfl,_,rfl,?_⟩;have q:=q H1 su;have q:Q (.bl (!(decide (bx h0 c=bx h2 d) && !decide (bx h0 c="t")))) H1:=q;rw[bQ];by_cases z:bx h0 c=bx h2 d
  ·rw[WU z]at q⊢;refine bF ⟨_,rfl,u,_,0,_,rfl,rfl,aJ.of hu0,au (j:=0) rfl,rfl,?_⟩;rw[bQ];simpa using q
  ·rw[WT z]at q⊢;exact b_ q
 rw[WT e2];refine bF (aG ⟨_,rfl,Nk,λR hR=>⟨R,_,rfl,.inl (aZ.of ag),rfl,rfl,_,rfl,?_⟩⟩);have t1:=aj hR (.lst [V.str "keep",.str "same",.str "turn",.str "must",.str "walk",.str "sum"]);revert t1;generalize upd H R (.lst [V.str "keep",.str "same",.str "turn",.str "must",.str "walk",.str "sum"])=H1;intro t1;cases e3:inV (.str x.nm) [.str "keep",.str "same",.str "turn",.str "must",.str "walk",.str "sum"]with
 |false =>rw[IM (by rw[e3];decide) e1 e2]at q;exact b_ (q H1 t1)
 |true =>
 obtain⟨y,rfl,hy⟩:=J_ e3;obtain⟨pre,hpre⟩:=Cs hy;have Ra:=hI.same t1;have hc:1<=qj y/\qj y<=h.length:=cI hf (by rw[hpre];simp);refine bF (aG ⟨_,rfl,_,rfl,a,.one y,rfl,Ra.wk,Ra.sm,λu H2 s2 hu2=>?_⟩);have s12:=t1.trans s2;have LA:=Ra.same s2;have hu2:H2 u=some (.lst ((pre.map V.int)++[.int (qj y)])):=by rw[hu2];show some (HO.lst ((df y).map V.int))=_;rw[hpre,WX];rfl
 refine⟨_,rfl,u,_,-1,_,rfl,rfl,aZ.of hu2,wz _ _,_,_,rfl,rfl,b,_,_,_,rfl,rfl,aJ.of LA.hd,dF hc,ak ?_⟩;dsimp only;have IF:∀s:Str,(Wk.one y).nm=s↔y.nm=s:=λs=>Iff.rfl;refine⟨_,rfl,rfl,_,rfl,?_⟩;rw[bQ];by_cases e4:y.nm="keep"
 ·rw[WU ((IF _).mpr e4)];obtain⟨c,t,hh⟩:=tS ((IF _).mpr e4);cases hh;obtain⟨st,ys,hk1,hk2⟩:=cb.mp LA.wk;refine b_ ⟨_,rfl,a,_,2,_,rfl,rfl,aJ.of hk1,rfl,st,_,0,_,rfl,rfl,aJ.of hk2,au (j:=0) rfl,_,rfl,cN,λR2 Ak=>?_⟩;have t2:=aj Ak (.lst [V.str (bx h c),.str "n"]);refine⟨_,rfl,rfl,.inr ⟨_,rfl,R2,_,_,.str (fW (bx h c)),rfl,rfl,aZ.of ag,?_,rfl,?_⟩⟩
  ·show jo [V.str (bx h c),.str "n"] (if decide (V.str (bx h c)=V.str "t")=true then 1 else 0)=_;unfold fW;rw[bQ];by_cases z:bx h c="t"
   ·rw[WU z,Xu z];rfl
   ·rw[WT z,Xt z];rfl
  ·show Q (.bl (!decide (V.str t=V.str (fW (bx h c))))) _;rw[bQ];exact q _ (s12.trans t2)
 rw[WT (λz=>e4 ((IF _).mp z))];refine bF (aG ⟨_,rfl,rfl,_,rfl,?_⟩);rw[bQ];by_cases e5:y.nm="same"
 ·rw[WU ((IF _).mpr e5)];obtain⟨c,d,hh⟩:=zU ((IF _).mpr e5);cases hh;have h2:H2 a=some (.tup [.str "same",.int c,.int d]):=cb.mp LA.wk;have hc1:=cI hf (c:=c) (by simp[df]);have q:=q H2 s12;have q:Q (.bl (!(decide (bx h c=bx h d) && !decide (bx h c="t")))) H2:=q;refine b_ ⟨_,rfl,rfl,_,rfl,?_⟩;rw[bQ];show if decide (bx h d="t")=true then _ else _
  by_cases z:bx h d="t"
  ·rw[WU z];refine b_ ?_;have:(!(decide (bx h c=bx h d) && !decide (bx h c="t")))=true:=by
    by_cases y1:bx h c=bx h d
    ·rw[WU y1,y1,WU z];rfl
    ·rw[WT y1];rfl
   rw[this]at q;exact q
  ·rw[WT z];refine bF ⟨_,rfl,_,rfl,_,rfl,a,_,1,_,rfl,rfl,aJ.of h2,rfl,_,_,rfl,rfl,b,_,_,_,rfl,rfl,aJ.of LA.hd,dF hc1,rfl,?_⟩;show Q (.bl (!decide (V.str (bx h d)=V.str (bx h c)))) H2;rw[bQ];have:(!(decide (bx h c=bx h d) && !decide (bx h c="t"))) = !decide (bx h d=bx h c):=by
    by_cases y1:bx h c=bx h d
    ·rw[WU y1,y1,WT z,WU rfl];rfl
    ·rw[WT y1,WT (show¬bx h d=bx h c from λw=>y1 w.symm)];rfl
   rw[this]at q;exact q
 rw[WT (λz=>e5 ((IF _).mp z))];refine bF (aG ⟨_,rfl,rfl,_,rfl,?_⟩);rw[bQ];by_cases e6:y.nm="sum"
 ·rw[WU ((IF _).mpr e6)];obtain⟨cs,c,hh⟩:=FC ((IF _).mpr e6);cases hh;refine b_ ⟨_,rfl,rfl,?_⟩;show Q (.bl (decide (V.str (bx h c)=V.str "w"))) H2;rw[bQ];have q:=q H2 s12;have q:Q (.bl (!(!decide (bx h c="w")))) H2:=q;rw[Bool.not_not]at q;exact q
 rw[WT (λz=>e6 ((IF _).mp z))];have ht:=Ih hy e4 e5 e6;refine bF (aG ⟨_,rfl,rfl,_,rfl,?_⟩);rw[bQ];by_cases z:bx h (qj y)="t"
 ·rw[WU z];have:bg (.one y) [h]=false:=by
   rcases ht with⟨c,ps,rfl⟩|⟨c,ps,rfl⟩|⟨c,mv,rfl⟩
   ·show cY _ (bx h c)=false;rw[show bx h c="t" from z];rfl
   ·show(_&&cY _ (bx h c))=false;rw[show bx h c="t" from z,Bool.and_comm];rfl
   ·show cY _ (bx h c)=false;rw[show bx h c="t" from z];rfl
  have q:=q H2 s12;rw[show bg (.one y) (lu (.one y) h es)=false from this]at q;exact b_ q
 ·rw[WT z];refine bF ⟨_,rfl,_,rfl,a,y,_,rfl,LA.wk,ht,LA.dr,λH3 s3=>?_⟩;have q:=q H3 (s12.trans s3);rw[show bg (.one y) (lu (.one y) h es) = !tJ y (bx h (qj y)) from IK ht LA.dr (Ef ht) rfl z,Bool.not_not]at q;exact q
theorem HQ{v:V}{vs:List V}(h:cX ((v::vs).map sW)=true):jl ((v::vs).map sW)=[sW v]:=by rw[tO (by simp)];unfold cX at h;rw[List.all_eq_true]at h;intro u hu;exact Xr (h (sW u) (W_.mpr ⟨u,hu,rfl⟩))
theorem L7{x:Wk}:inV (.str x.nm) [.str "cut",.str "count",.str "sum"]=true->∃cs,x=.one (.cut cs)\/x=.one (.count cs)\/∃c,x=.one (.sum cs c):=by
 cases x with
 |one x=>cases x<;>simp only[Wk.nm,W1.nm]<;>intro h<;>first|exact⟨_,.inl rfl⟩|exact⟨_,.inr (.inl rfl)⟩|exact⟨_,.inr (.inr ⟨_,rfl⟩)⟩|exact Xs h (by decide +kernel)
 |both p q=>simp only[Wk.nm];intro h;exact Xs h (by decide +kernel)
 |meet c d p q=>simp only[Wk.nm];intro h;exact Xs h (by decide +kernel)
structure QT(x:Wk)(h:Hd)(es:List Hd):Prop where
 fit:dk x (lu x h es)=true
 sort:bg x (lu x h es)=true
 hz:h.length<=1000
 ez:∀e∈es,e.length<=1000
def JR(n:Nat):Sp:=λvs H Q _=>∃(a b l:Addr)(x:Wk)(h:Hd)(as:Z8)(es:List Hd),vs=[.ref a,.ref b,.ref l]/\wM n H a b l x h as es/\QT x h es/\∀(u:Addr)(H':Hp),aM H H'->eN H' u (bK x (lu x h es))->Q (.ref u) H'
theorem Nt{x:Wk}(h:x.nm="must"):∃c ps,x=.one (.must c ps):=by
 revert h;cases x with
 |one x=>cases x<;>simp only[Wk.nm,W1.nm]<;>first | (intro h;exact⟨_,_,rfl⟩) | (intro h;exact Xs h (by decide +kernel))
 |both p q=>simp only[Wk.nm];intro h;exact Xs h (by decide +kernel)
 |meet c d p q=>simp only[Wk.nm];intro h;exact Xs h (by decide +kernel)
def BJ:Wk->Hd->Hd
 | .one (.cut cs),h=>cs.map (bx h)
 | .one (.count cs),h=>cs.map (bx h)
 | .one (.sum cs _),h=>cs.map (bx h)
 |_,h=>h
theorem Gj{x:Wk}{h:Hd}(n:¬inV (.str x.nm) [.str "cut",.str "count",.str "sum"]=true):BJ x h=h:=by
 cases x with
 |one x=>cases x<;>first|rfl|exact Xs (by simp only[Wk.nm,W1.nm];decide +kernel) n
 |both p q=>rfl
 |meet c d p q=>rfl
theorem E4{x:Wk}{h:Hd}{es:List Hd}(n1:x.nm≠"both")(n2:x.nm≠"meet")(n3:x.nm≠"must"):bK x (lu x h es)=if inV (.str x.nm) [.str "count",.str "sum",.str "number"]=true then BJ x h++(["t"]:Hd)else BJ x h++(if x.nm="walk" then(["w"]:Hd)else []):=by
 cases x with
 |one x =>
  cases x<;>first
   |exact Xs rfl n3
   | (rw[Xu (by simp only[Wk.nm,W1.nm];decide +kernel)];rfl)
   | (rw[Xt (by simp only[Wk.nm,W1.nm];decide +kernel),Xu (by simp only[Wk.nm,W1.nm])];rfl)
   | (rw[Xt (by simp only[Wk.nm,W1.nm];decide +kernel),Xt (by simp only[Wk.nm,W1.nm];decide +kernel),XC];rfl)
 |both p q=>exact Xs rfl n1
 |meet c d p q=>exact Xs rfl n2
abbrev fz:Stmt:=top 74
theorem eO:ay ["_law_worker_here","_law_head","_law_ends","_law_word_here"] ZK (ar fz):=fs
theorem u_{n:Nat}(B:kf mg)(F:FA K mg "_law_head_next" fz)
  (eX:bc bf P w K mg base 1 "_law_sorts" ["_law_cells"] sQ) :
  bc bf P w K mg base 2 "_law_head_next" ZK (JR n):=by
 refine F.ok eO λf cdv A outer s H vs Q E hr h=>?_;have hu:=iO hr;obtain⟨a,b,l,x,h,as,es,rfl,hI,ho,q⟩:=h;refine⟨_,(aq (aK (i:=3) eO.nd rfl (Xw rfl) (az K (pv 0) ai))
   (aN (aX aQ (pv 3) ao) (bp K (pv 2) ai)
   (aN (aX aQ (pv 3) ao) (aF bN (aF bN (bp K (pv 2) ai) (cq cU (bp K (pv 2) ai) dm (cz (aF bM (az K (pv 0) ai) ai)))) (cq cU (bp K (pv 2) ai) (cz (az K (pv 0) ai)) dm))
   (aN (aX aQ (pv 3) ao) (aF bN (aF bN (cq cU (pv 1) dm (cz (aF bM (az K (pv 0) ai) ai))) (aU bE rfl B.tuple XA (ae (ax eX hr (ae (bz (N':=["_law_a","_law_b"]) (src:=[none,none]) rfl (ba.j5 (by kernel_rfl)) (cL (az K (pv 0) ai)) (g:=(ja K 2 (bS (bC 0) (bS (bC 1) i5)))) (λcl C s H fp=>(cA rfl (aA (eE (i:=0)) (aA (eE (i:=1)) bT)))) (λcl C s H fp=>aY) (te:=(bB 1)) (λcl C s H fp=>(ji 1))) ah)) ah))) (cq cU (pv 1) (cz (az K (pv 0) ai)) dm))
   (aq (dg (dj cu (pv 3) (aP (ae ao (ae ao (ae ao ah)))) rfl)
    (bA (aK (i:=1) eO.nd rfl (Or.inr rfl) (aU bE rfl B.tuple XA (ae (bz (N':=["_law_column_here","_law_head"]) (src:=[none,some 1]) rfl (ba.j5 (by kernel_rfl)) (cL (az K (pv 0) ai)) (λcl C s H fp=>(eE (i:=0))) (λcl C s H fp=>aY) (te:=(hZ (sY K) (bB 1) (hZ (BN λi j=>V.int (i-j)) (bB 0) (tC (.int 1))))) (λcl C s H fp=>(az K (Ae 1) (aF bM (ji 0) ai)))) ah))))
    bU)
   (aN (dj cu (pv 3) (aP (ae ao (ae ao (ae ao ah)))) rfl) (aF bN (pv 1) (aH (ae ao ah)))
   (av (aF bN (pv 1) (eP (aX aQ (pv 3) ao) (aH (ae ao ah)) (aH ah)))))))))),?_⟩
 obtain⟨xs,h1⟩:=hI.wk.first;refine⟨_,rfl,a,_,0,_,rfl,rfl,aJ.of h1,au (j:=0) rfl,ak ?_⟩;dsimp only;refine⟨_,rfl,rfl,_,rfl,?_⟩;rw[bQ];by_cases e1:x.nm="both"
 ·rw[WU e1];obtain⟨p,q',rfl⟩:=zX e1;obtain⟨h0,h2,rfl⟩:=dM (hI.n rfl);obtain⟨a0,e0,gJ⟩:=hI.en.nth (i:=0) rfl;exact b_ ⟨_,rfl,l,_,0,_,rfl,rfl,aZ.of hI.en.lst,au (j:=0) e0,q a0 H (aM.refl _) gJ⟩
 rw[WT e1];refine bF (aG ⟨_,rfl,rfl,_,rfl,?_⟩);rw[bQ];by_cases e2:x.nm="meet"
 ·rw[WU e2];obtain⟨c,d,p,q',rfl⟩:=i4 e2;obtain⟨h0,h2,rfl⟩:=dM (hI.n rfl);obtain⟨a0,e0,gJ⟩:=hI.en.nth (i:=0) rfl;obtain⟨a1,e1',vp⟩:=hI.en.nth (i:=1) rfl;have hz0:=ho.ez h0 (by simp);have hz1:=ho.ez h2 (by simp);have hf:(there c h0&&there d h2)=true:=ho.fit;rw[Xq]at hf;obtain⟨d1,d2⟩:=fA hf.2;have ha:=hI.wk;cases n with
  |zero=>exact Xy ha
  |succ n =>
  obtain⟨b',e',bs,es',h1,_⟩:=ha;refine b_ ⟨_,rfl,l,_,0,_,rfl,rfl,aZ.of hI.en.lst,au (j:=0) e0,_,rfl,l,_,1,_,rfl,rfl,aZ.of hI.en.lst,au (j:=1) e1',?_⟩;refine⟨_,rfl,a,_,2,_,rfl,rfl,aJ.of h1,rfl,_,_,rfl,rfl,_,rfl,a1,_,rfl,vp,λt1 H1 s1 ht1=>?_⟩;rw[nU d1 d2]at ht1;refine eG (s1 _ _ gJ) ht1 (by rw[Xj];omega) λt2 H2 s2 GF=>?_;have s12:=s1.trans s2;refine⟨_,rfl,l,_,1,_,rfl,rfl,aZ.of (s12 _ _ hI.en.lst),au (j:=1) e1',_,rfl,a,_,2,_,rfl,rfl,aJ.of (s12 _ _ h1),rfl,_,rfl,a1,_,rfl,s12 _ _ vp,λt3 H3 s3 Jl=>?_⟩;rw[j4 d1 d2]at Jl;exact eG (s3 _ _ GF) Jl (by rw[WW,Xj,List.length_drop];omega) λt4 H4 s4 FR=>q t4 H4 (s12.trans (s3.trans s4)) FR
 rw[WT e2];refine bF (aG ⟨_,rfl,rfl,_,rfl,?_⟩);rw[bQ];by_cases e3:x.nm="must"
 ·rw[WU e3];obtain⟨c,ps,rfl⟩:=Nt e3;obtain⟨t,bs,h1,hP⟩:=cb.mp hI.wk;obtain⟨c1,c2⟩:=cI ho.fit (c:=c) (by simp[df]);have hd:DS (.must c ps):=hI.dr;have hg:∀p∈ps,dP p.1/\dP p.2:=hd.good;have hne:ps≠[]:=hd.ne.1;have hpz:ps.length<=50:=hd.ne.2;have S_:=ho.hz;have hso:(cX (ps.map λp=>sW p.2)&&cY (ps.map λp=>p.1) (bx h c))=true:=ho.sort;rw[Xq]at hso;have Qi:jl ((ps.map λp=>p.2).map sW)=(ps.take 1).map λp=>sW p.2:=by
   cases ps with
   |nil=>exact Xs rfl hne
   |cons p ps =>have:=hso.1;rw[show((p::ps).map λp=>sW p.2)=((p::ps).map λp=>p.2).map sW by rw[List.map_map];rfl]at this;rw[XH]at this⊢;rw[HQ this];rfl
  have hlb:(bs.map V.ref).length=ps.length:=by rw[WV,hP.len]
  refine b_ ⟨_,rfl,_,rfl,a,_,1,_,rfl,rfl,aJ.of h1,rfl,_,_,rfl,rfl,_,rfl,b,_,rfl,hI.hd,λt1 H1 s1 ht1=>?_⟩;rw[nU c1 c2]at ht1;refine⟨_,rfl,a,_,2,_,rfl,rfl,aJ.of (s1 _ _ h1),rfl,t,rfl,⟨_,aJ.of (s1 _ _ hP.tup)⟩,λDl hD=>?_⟩;refine cF (xs:=bs.map V.ref) (λi σ ys H'=>(∃o1 o2,σ=[o1,o2])/\ys=(ps.take i).map (λp=>p.2)/\ys.length=i/\H' Dl=some (.lst ys)/\aM H1 H') ⟨⟨none,none,rfl⟩,rfl,rfl,ag,aj hD _⟩ ?_ ?_ ?_ ?_ ?_
  ·rintro i σ ys H' _ ⟨_,_,hi,h,_⟩;exact⟨h,XF hi⟩
  ·rintro i σ ys H' _ ⟨_,_,_,_,sm⟩;exact aJ.of (sm _ _ (s1 _ _ hP.tup))
  ·rw[hlb];exact WS hpz (by decide)
  ·rintro i v σ ys H' hv ⟨⟨o1,o2,rfl⟩,rfl,hi,hh,sm'⟩;obtain⟨b',y,rfl,ey,hb⟩:=hP.get hv;refine⟨b',_,rfl,aJ.of (sm' _ _ (s1 _ _ hb)),rfl,_,_,rfl,ak ⟨_,_,rfl,ak ⟨rfl,?_⟩⟩⟩;refine⟨_,rfl,hh,⟨_,_,rfl⟩,?_,?_,ag,bu hD sm'⟩
   ·rw[take_one ey,WX];rfl
   ·rw[WW,hi];rfl
  rintro de Uy H3 ⟨_,rfl,QO,h2,sm3⟩;rw[hlb,Xx]at h2;refine⟨Dl,_,rfl,h2,by rw[WV];omega,λv hv=>?_,λu2 H4 s4 hu2=>?_⟩
  ·obtain⟨p,hp,rfl⟩:=W_.mp hv;exact(hg p hp).2
  rw[Qi]at hu2;have OT:=sm3.trans s4;refine⟨u2,_,rfl,.inl ⟨aZ.of hu2,λu3 vm=>?_⟩⟩;have t5:=aj vm (.tup (((ps.take 1).map λp=>sW p.2).map V.str));have OI:=OT.trans t5;refine eG (OI _ _ ht1) ag (by rw[Xj,WV,Xj];omega) λt6 H6 s6 nZ=>?_;have Q9:=s1.trans (OI.trans s6);refine⟨_,rfl,_,rfl,a,_,1,_,rfl,rfl,aJ.of (Q9 _ _ h1),rfl,_,rfl,b,_,rfl,Q9 _ _ hI.hd,λt7 H7 s7 Jf=>?_⟩;rw[j4 c1 c2]at Jf;exact eG (s7 _ _ nZ) Jf (by rw[WW,Xj,WV,Xj,List.length_drop];omega) λt8 H8 s8 Vc=>q t8 H8 (Q9.trans (s7.trans s8)) Vc
 rw[WT e3];rw[E4 e1 e2 e3]at q;refine bF (aG ?_);dsimp only;refine jY (λσ H'=>∃b',σ=[some (.ref a),some (.ref b'),some (.ref l),some (.str x.nm)]/\eN H' b' (BJ x h)/\(BJ x h).length<=1000/\aM H H') (λT hT=>?_) ?_
 ·refine⟨_,rfl,f9,λR hR=>⟨R,_,rfl,.inl (aZ.of ag),rfl,rfl,_,rfl,?_⟩⟩;have t1:=aj hR (.lst [V.str "cut",.str "count",.str "sum"]);revert t1;generalize upd H R (.lst [V.str "cut",.str "count",.str "sum"])=H1;intro t1;refine cG (λk=>?_) (λk=>?_)
  ·have key:∃(cs:List Int)(t:Addr)(v:V)(vs:List V),H a=some (.tup (v :: .ref t::vs))/\H t=some (.tup (cs.map V.int))/\cs.length<=1000/\yk h cs/\BJ x h=cs.map (bx h):=by
    obtain⟨cs,rfl|rfl|⟨c,rfl⟩⟩:=L7 k
    ·obtain⟨t,h1,h2⟩:=cb.mp hI.wk;exact⟨cs,t,_,_,h1,h2,hI.sm,λc hc=>cI ho.fit hc,rfl⟩
    ·obtain⟨t,h1,h2⟩:=cb.mp hI.wk;exact⟨cs,t,_,_,h1,h2,hI.sm,λc hc=>cI ho.fit hc,rfl⟩
    ·obtain⟨t,h1,h2⟩:=cb.mp hI.wk;exact⟨cs,t,_,_,h1,h2,hI.sm,λc hc=>cI ho.fit (List.mem_append_left _ hc),rfl⟩
   obtain⟨cs,t,v,vs,h2,h3,Rh,hth,em⟩:=key;refine⟨_,rfl,a,_,1,_,rfl,rfl,aJ.of (t1 _ _ h2),au (j:=1) rfl,t,rfl,⟨_,aJ.of (t1 _ _ h3)⟩,λDl hD=>?_⟩;refine cF (xs:=cs.map V.int) (λi σ ys H'=>(∃o,σ=[o,some (.ref b)])/\ys=((cs.take i).map (bx h)).map V.str/\ys.length=i/\H' Dl=some (.lst ys)/\aM H1 H') ⟨⟨none,rfl⟩,rfl,rfl,ag,aj hD _⟩ ?_ ?_ ?_ ?_ ?_
   ·rintro i σ ys H' _ ⟨_,_,hi,h,_⟩;exact⟨h,XF hi⟩
   ·rintro i σ ys H' _ ⟨_,_,_,_,sm⟩;exact aJ.of (sm _ _ (t1 _ _ h3))
   ·rw[WV];exact WS Rh (by decide)
   ·rintro i v σ ys H' hv ⟨⟨o,rfl⟩,rfl,hi,hh,sm⟩;rw[Xi]at hv;cases ec:cs[i]? with
    |none=>rw[ec]at hv;cases hv
    |some c =>
     rw[ec]at hv;have hv:V.int c=v:=Xf hv;subst hv;refine⟨_,rfl,_,rfl,_,_,rfl,rfl,b,_,_,_,rfl,rfl,aJ.of (sm _ _ (t1 _ _ hI.hd)),dF (hth c (W4 ec)),hh,⟨_,rfl⟩,?_,?_,ag,bu hD sm⟩
     ·rw[take_one ec,WX,WX];rfl
     ·rw[WW,hi];rfl
   ·rintro σ ys H' ⟨_,rfl,_,hh,sm⟩;rw[WV,Xx]at hh;refine⟨Dl,_,rfl,.inl ⟨aZ.of hh,λu hu'=>ak (hT _ _ ⟨u,rfl,?_,?_,t1.trans (sm.trans (aj hu' _))⟩)⟩⟩
    ·rw[em];exact ag
    ·rw[em,WV];exact Rh
  ·rw[Gj k]at hT;exact aG (hT _ _ ⟨b,rfl,t1 _ _ hI.hd,ho.hz,t1⟩)
 rintro σ H1 ⟨b',rfl,hb,Vb,s1⟩;refine⟨_,rfl,f9,λR hR=>⟨R,_,rfl,.inl (aZ.of ag),rfl,rfl,_,rfl,?_⟩⟩;have t1:=aj hR (.lst [V.str "count",.str "sum",.str "number"]);have hb:=t1 _ _ hb;have s2:=s1.trans t1;revert s2 hb;generalize upd H1 R (.lst [V.str "count",.str "sum",.str "number"])=H2;intro hb s2;refine cG (λk=>?_) (λk=>aG ?_)
 ·have k:inV (.str x.nm) [V.str "count",.str "sum",.str "number"]=true:=k;rw[Xu k]at q;refine⟨_,rfl,dz,λu hu'=>?_⟩;have su:=aj hu' (.tup [.str "t"]);exact eG (ys:=["t"]) (su _ _ hb) ag (by show _+1<=_;omega) λt H' s' ht=>q t H' (s2.trans (su.trans s')) ht
 ·have k:¬inV (.str x.nm) [V.str "count",.str "sum",.str "number"]=true:=k;rw[Xt k]at q;refine⟨_,rfl,_,rfl,rfl,_,rfl,?_⟩;rw[bQ];by_cases e4:x.nm="walk"
  ·rw[Xu e4]at q;rw[WU e4];refine b_ ⟨dz,λu hu'=>?_⟩;have su:=aj hu' (.tup [.str "w"]);exact eG (ys:=["w"]) (su _ _ hb) ag (by show _+1<=_;omega) λt H' s' ht=>q t H' (s2.trans (su.trans s')) ht
  ·rw[Xt e4]at q;rw[WT e4];refine bF ⟨wR,λu hu'=>?_⟩;have su:=aj hu' (.tup []);exact eG (ys:=[]) (su _ _ hb) ag (by show _+0<=_;omega) λt H' s' ht=>q t H' (s2.trans (su.trans s')) ht
theorem dv.up:∀{n:Nat}{H:Hp}{a:Addr}{x:Wk},dv n H a x->dv (n+1) H a x
 | 0,H,a,.one x,h=>h
 |n+1,H,a,.one x,h=>h
 |n+1,H,a,.both p q,h=>by obtain⟨b,c,bs,cs,h1,h2,h3⟩:=h;exact⟨b,c,bs,cs,h1,⟨h2.tup,h2.len,λi a x e1 e2=>(h2.at_ i a x e1 e2).up⟩,⟨h3.tup,h3.len,λi a x e1 e2=>(h3.at_ i a x e1 e2).up⟩⟩
 |n+1,H,a,.meet c d p q,h=>by obtain⟨b,e,bs,es,h1,h2,h3⟩:=h;exact⟨b,e,bs,es,h1,⟨h2.tup,h2.len,λi a x e1 e2=>(h2.at_ i a x e1 e2).up⟩,⟨h3.tup,h3.len,λi a x e1 e2=>(h3.at_ i a x e1 e2).up⟩⟩
abbrev ub(H:Hp)(a:Addr)(f:Fl):Prop:=H a=some (.tup [.bl f.o,.bl f.j,.bl f.f,.bl f.w,.bl f.l])
def IP:Option Str->Str
 |none=>""
 |some s=>s
def En(n:Nat):Sp:=λvs H Q _=>∃(a b g l:Addr)(x:Wk)(h:Hd)(fl:Fl)(as:Z8)(es:List Hd),vs=[.ref a,.ref b,.ref g,.ref l]/\wM n H a b l x h as es/\ub H g fl/\Fw x/\h.length<=1000/\(∀e∈es,e.length<=1000)/\∀H',aM H H'->Q (.str (IP (jm x fl (lu x h es)))) H'
theorem rZ{x:Wk}{f:Fl}(h:x.nm="walk"):ny x f = !f.o:=by obtain⟨c,mv,rfl⟩:=zD h;rfl
theorem Bo{x:Wk}{f:Fl}(h:x.nm≠"walk")(h2:x.nm≠"meet"):ny x f=true:=by
 cases x with
 |one x=>cases x<;>first|rfl|exact Xs rfl h
 |both p q=>rfl
 |meet c d p q=>exact Xs rfl h2
abbrev lj:Stmt:=top 76
theorem vO:ay ["_law_worker_here","_law_head","_law_flags_here","_law_ends"] ["_law_worker_here","_law_head","_law_flags_here","_law_ends"] (ar lj):=fs
theorem GB{n:Nat}(B:kf mg)(B2:iY mg)(F:FA K mg "_law_why" lj)
  (mG:bc bf P w K mg base 2 "_law_no_column" ZK (zA n))
  (qz:bc bf P w K mg base 3 "_law_no_sort" ZK (vN n))
  (e9:bc bf P w K mg base 2 "_law_head_next" ZK (JR n))
  (eQ:bc bf P w K mg base 1 "_law_is_one_row" ZL (vH n)) :
  bc bf P w K mg base 4 "_law_why" ["_law_worker_here","_law_head","_law_flags_here","_law_ends"] (En n):=by
 refine F.ok vO λf cdv A outer s H vs Q E hr h=>?_;have hu:=iO hr;obtain⟨a,b,g,l,x,h,fl,as,es,rfl,hI,hF,hw,S_,hez,q⟩:=h;refine⟨_,(aN (e_ (ax mG hr (ae (pv 0) (ae (pv 1) (ae (pv 3) ah))))) ao
   (aN (e_ (ax qz hr (ae (pv 0) (ae (pv 1) (ae (pv 3) ah))))) ao
   (aN (aX iC (aW bt rfl B.len XM (ae (ax e9 hr (ae (pv 0) (ae (pv 1) (ae (pv 3) ah)))) ah)) ai) ao
   (aN (PW.pt (mM (aX aQ (az K (pv 0) ai) ao) (jZ (e_ (az K (pv 2) ai))))) ao
   (aN (PW.pt (mM (aX aQ (az K (pv 0) ai) ao) (jZ (uP (e_ (aW (iK rfl) rfl B2.all PyProof.Rows.boot_all (ae (bz (N':=["_law_one"]) (src:=[none]) rfl (ba.j5 (by kernel_rfl)) (cL (aF bN (az K (pv 0) ai) (az K (pv 0) ai))) (λcl C s H fp=>(eE (i:=0))) (λcl C s H fp=>aY) (te:=(jh (vH n) [] E0 (bq (bB 0) fR))) (λcl C s H fp=>(ax (hg:=xS) eQ hr (ae (ji 0) ah)))) ah))))))) ao
   (av (eP (PW.pt (mM (aX aQ (az K (pv 0) ai) ao) (jZ (e_ (az K (pv 2) ai))))) ao ao))))))),?_⟩
 unfold jm at q;refine⟨_,rfl,_,rfl,_,rfl,a,b,l,x,h,as,es,rfl,hI,λH1 s1=>⟨_,rfl,?_⟩⟩;by_cases e1:dk x (lu x h es)=false
 ·rw[e1];rw[Xt (by rw[e1];decide)]at q;exact b_ (q H1 s1)
 have e1:dk x (lu x h es)=true:=by simpa using e1
 rw[e1];rw[Xu e1]at q;refine bF (aG ⟨_,rfl,_,rfl,_,rfl,a,b,l,x,h,as,es,rfl,hI.same s1,e1,λH2 s2=>⟨_,rfl,?_⟩⟩);have s12:=s1.trans s2;by_cases e2:bg x (lu x h es)=false
 ·rw[e2];rw[Xt (by rw[e2];decide)]at q;exact b_ (q H2 s12)
 have e2:bg x (lu x h es)=true:=by simpa using e2
 rw[e2];rw[Xu e2]at q;refine bF (aG ⟨_,rfl,_,rfl,_,rfl,a,b,l,x,h,as,es,rfl,hI.same s12,⟨e1,e2,S_,hez⟩,λu H3 s3 hu'=>?_⟩);have qI:=s12.trans s3;refine⟨u,_,rfl,.inr (aJ.of hu'),_,_,rfl,rfl,_,rfl,?_⟩;rw[WV];by_cases e3:¬(bK x (lu x h es)).length<=6
 ·rw[Xt e3]at q;rw[WU (show(6:Int)<((bK x (lu x h es)).length:Nat) by omega)];exact b_ (q H3 qI)
 have e3:(bK x (lu x h es)).length<=6:=by omega
 rw[Xu e3]at q;rw[WT (show¬(6:Int)<((bK x (lu x h es)).length:Nat) by omega)];have R0:=hI.same qI;obtain⟨xs,h1⟩:=R0.wk.first;have tail:∀H4,aM H3 H4->ny x fl=true->Sy (M1 (rK (hZ Jt (hZ (sY K) (bB 0) (tC (.int 0))) (tC (.str "must")))) (tB (hZ (sY K) (bB 2) (tC (.int 4))))) (tC (.str "loose")) (tC (.str "")) [some (.ref a),some (.ref b),some (.ref g),some (.ref l)] H4 Q:=by
  intro H4 s4 hr;have qW:=qI.trans s4;rw[Xu hr]at q;refine⟨_,rfl,a,_,0,_,rfl,rfl,aJ.of (s4 _ _ h1),au (j:=0) rfl,rfl,_,rfl,?_⟩;rw[bQ,zp];cases e5:jz x with
  |false =>rw[e5]at q;exact bF (bF (q H4 qW))
  |true =>
   rw[e5,Bool.true_and]at q;refine b_ ⟨_,rfl,g,_,4,_,rfl,rfl,aJ.of (qW _ _ hF),rfl,_,rfl,cG (λz=>?_) (λz=>?_)⟩
   ·rw[Xu z]at q;exact q H4 qW
   ·rw[Xt z]at q;exact q H4 qW
 refine bF (aG ⟨_,rfl,a,_,0,_,rfl,rfl,aJ.of h1,au (j:=0) rfl,rfl,_,rfl,?_⟩);rw[bQ];by_cases e4:x.nm="walk"
 ·rw[WU e4];refine b_ ⟨_,rfl,g,_,0,_,rfl,rfl,aJ.of (qI _ _ hF),au (j:=0) rfl,_,rfl,cG (λz=>?_) (λz=>aG ?_)⟩
  ·rw[Xt (by rw[rZ e4,z];decide)]at q;exact q H3 qI
  ·have hr:ny x fl=true:=by rw[rZ e4,Xb.mpr z];rfl
   refine⟨_,rfl,a,_,0,_,rfl,rfl,aJ.of h1,au (j:=0) rfl,rfl,_,rfl,?_⟩;rw[bQ,WT (by rw[e4];decide +kernel)];exact bF (bF (aG (tail H3 (aM.refl _) hr)))
 rw[WT e4];refine bF (bF (aG ⟨_,rfl,a,_,0,_,rfl,rfl,aJ.of h1,au (j:=0) rfl,rfl,_,rfl,?_⟩));rw[bQ];by_cases e5:x.nm="meet"
 ·rw[WU e5];obtain⟨c,d,p,q',rfl⟩:=i4 e5;have ha:=R0.wk;cases n with
  |zero=>exact Xy ha
  |succ n =>
  obtain⟨b',e',bs,es',h2,hp,hq⟩:=ha;have hw1:p.length<=1000:=hw p (by simp[cP]);have hw2:q'.length<=1000:=hw q' (by simp[cP]);refine b_ ⟨_,rfl,a,_,3,_,rfl,rfl,aJ.of h2,rfl,_,rfl,a,_,4,_,rfl,rfl,aJ.of h2,rfl,b',e',_,_,rfl,rfl,hp.tup,hq.tup,by rw[WV,WV,hp.len,hq.len];exact WS (show _<=2000 by omega) (by decide),λu4 H4 s4 xi=>⟨u4,rfl,⟨_,aJ.of xi⟩,λDl hD=>?_⟩⟩;rw[←WX]at xi;have hlen:((bs++es').map V.ref).length=(p++q').length:=by rw[WV,WW,WW,hp.len,hq.len]
  have hat:∀(i:Nat) v,((bs++es').map V.ref)[i]? = some v->∃a y,v=.ref a/\(p++q')[i]? = some y/\dv n H4 a y:=by
   intro i v hv;by_cases hi:i<bs.length
   ·rw[WX,Xh (by rw[WV];exact hi)]at hv;obtain⟨a,y,e1,e2,e3⟩:=hp.get hv;exact⟨a,y,e1,by rw[Xh (by rw[←hp.len];exact hi)];exact e2,e3.keep (aD.of s4)⟩
   ·have hi:bs.length<=i:=by omega
    rw[WX,Xg (by rw[WV];exact hi),WV]at hv;obtain⟨a,y,e1,e2,e3⟩:=hq.get hv;exact⟨a,y,e1,by rw[Xg (by rw[←hp.len];exact hi),←hp.len];exact e2,e3.keep (aD.of s4)⟩
  refine cF (xs:=(bs++es').map V.ref) (λi σ ys H'=>(∃o,σ=[o])/\ys=(((p++q').take i).map λw=>cC w.nm).map V.bl/\ys.length=i/\H' Dl=some (.lst ys)/\aM H4 H') ⟨⟨none,rfl⟩,rfl,rfl,ag,aj hD _⟩ ?_ ?_ ?_ ?_ ?_
  ·rintro i σ ys H' _ ⟨_,_,hi,h,_⟩;exact⟨h,XF hi⟩
  ·rintro i σ ys H' _ ⟨_,_,_,_,sm⟩;exact aJ.of (sm _ _ xi)
  ·rw[hlen,WW];exact WS (show _<=2000 by omega) (by decide)
  ·rintro i v σ ys H' hv ⟨⟨o,rfl⟩,rfl,hi,hh,sm⟩;obtain⟨a',y,rfl,ey,hy⟩:=hat i v hv;refine⟨_,rfl,a',y,rfl,(hy.keep (aD.of sm)).up,λH5 s5=>⟨s5 _ _ hh,⟨_,rfl⟩,?_,?_,ag,bu hD (sm.trans s5)⟩⟩
   ·rw[take_one ey,WX,WX];rfl
   ·rw[WW,hi];rfl
  ·rintro σ ys H5 ⟨_,rfl,_,hh,sm⟩;rw[hlen,Xx]at hh;refine⟨Dl,_,rfl,aZ.of hh,_,rfl,?_⟩;have er:((p++q').map λw=>cC w.nm).all id=ny (.meet c d p q') fl:=by rw[List.all_map];rfl
   rw[er];cases z:ny (.meet c d p q') fl with
   |false =>rw[z]at q;exact b_ (q H5 (qI.trans (s4.trans sm)))
   |true=>exact bF (aG (tail H5 (s4.trans sm) z))
 ·rw[WT e5];exact bF (bF (aG (tail H3 (aM.refl _) (Bo e4 e5))))
def jN(x:Wk)(h:Hd)(f:Fl):Fl:=⟨f.o || !cC x.nm,f.j||inV (.str x.nm) [.str "walk",.str "both",.str "meet"],f.f||pF (aE x),f.w||pW x.nm,f.l||looseW x h f⟩
def zG(n:Nat):Sp:=λvs H Q _=>∃(a b g:Addr)(x:Wk)(h:Hd)(fl:Fl),vs=[.ref a,.ref b,.ref g]/\dv n H a x/\eN H b h/\ub H g fl/\keepIn x h/\∀(u:Addr)(H':Hp),aM H H'->ub H' u (jN x h fl)->Q (.ref u) H'
theorem zd{x:Wk}{h:Hd}{f:Fl}(h1:x.nm≠"keep")(h2:x.nm≠"first")(h3:x.nm≠"meet"):looseW x h f=false:=by
 match x with
 | .one (.keep _ _)=>exact Xs rfl h1
 | .one (.first n)=>exact Xs rfl h2
 | .meet ..=>exact Xs rfl h3
 | .both ..=>rfl
 | .one (.same ..)=>rfl
 | .one (.cut ..)=>rfl
 | .one (.turn ..)=>rfl
 | .one (.must ..)=>rfl
 | .one (.walk ..)=>rfl
 | .one (.sort ..)=>rfl
 | .one .apart=>rfl
 | .one (.count ..)=>rfl
 | .one (.sum ..)=>rfl
 | .one .number=>rfl
theorem yW{x:Wk}(h:x.nm≠"first"):pF (aE x)=false:=by rw[lU h];exact WT h
abbrev iV:Stmt:=top 77
theorem bW:ay ["_law_worker_here","_law_head","_law_flags_here","_law_others","_law_joins","_law_firsts","_law_walks","_law_loose","_law_word_here"] ["_law_worker_here","_law_head","_law_flags_here"] (ar iV):=fs
theorem Ez{n:Nat}(F:FA K mg "_law_flags" iV)
  (eQ:bc bf P w K mg base 1 "_law_is_one_row" ZL (vH n)) :
  bc bf P w K mg base 2 "_law_flags" ["_law_worker_here","_law_head","_law_flags_here"] (zG n):=by
 refine F.ok bW λf cdv A outer s H vs Q E hr h=>?_;have hu:=iO hr;obtain⟨a,b,g,x,h,fl,rfl,ha,hb,hF,hkp,q⟩:=h;refine⟨_,(aq (pC (pv 2) (cA rfl (aA (bJ (i:=3) bW.nd rfl (Xw rfl)) (aA (bJ (i:=4) bW.nd rfl (Xw rfl)) (aA (bJ (i:=5) bW.nd rfl (Xw rfl)) (aA (bJ (i:=6) bW.nd rfl (Xw rfl)) (aA (bJ (i:=7) bW.nd rfl (Xw rfl)) bT)))))))
   (aq (aK (i:=8) bW.nd rfl (Xw rfl) (az K (pv 0) ai))
   (aq (dg (aX aQ (pv 8) ao)
    (bA (aK (i:=7) bW.nd rfl (Xw rfl) (gm (pv 7) (c9 (bY aQ (az K (pv 1) (aF bM (az K (pv 0) ai) ai)) ao)))))
    bU)
   (aq (dg (PW.pt (mM (aX aQ (pv 8) ao) (jZ (aX iC (az K (pv 0) ai) ai))))
    (aq (aK (i:=7) bW.nd rfl (Xw rfl) (gm (pv 7) (c9 (pv 4))))
     (bA (aK (i:=5) bW.nd rfl (Xw rfl) eA)))
    bU)
   (aq (dg (aX aQ (pv 8) ao)
    (bA (aK (i:=7) bW.nd rfl (Xw rfl) (gm (pv 7) (gm (pv 6) (c9 (pv 5))))))
    bU)
   (av (aH (ae (gm (pv 3) (c9 (Lh (ax eQ hr (ae (pv 0) ah))))) (ae (gm (pv 4) (c9 (f_ cu (pv 8) (aP (ae ao (ae ao (ae ao ah)))) rfl))) (ae (pv 5) (ae (gm (pv 6) (c9 (bY aQ (pv 8) ao))) (ae (pv 7) ah)))))))))))),?_⟩
 obtain⟨xs,h1⟩:=ha.first;refine⟨_,rfl,g,_,rfl,aJ.of hF,rfl,_,_,rfl,ak ⟨_,_,rfl,ak ⟨_,_,rfl,ak ⟨_,_,rfl,ak ⟨_,_,rfl,ak ⟨rfl,?_⟩⟩⟩⟩⟩⟩;dsimp only;refine⟨_,rfl,a,_,0,_,rfl,rfl,aJ.of h1,au (j:=0) rfl,ak ?_⟩;dsimp only;have fin:∀(fi lo:Bool),fi=(fl.f||pF (aE x))->lo=(fl.l||looseW x h fl)->CT (IE (bq (vc (bB 3) (JJ (jh (vH n) [] E0 (bq (bB 0) fR)))) (bq (vc (bB 4) (hZ (Jr K false) (bB 8) (yP (bq (tC (.str "walk")) (bq (tC (.str "both")) (bq (tC (.str "meet")) fR)))))) (bq (bB 5) (bq (vc (bB 6) (hZ Jt (bB 8) (tC (.str "walk")))) (bq (bB 7) fR)))))) {nx:=λ_ H'=>Q .non H',rt:=Q} [some (.ref a),some (.ref b),some (.ref g),some (.bl fl.o),some (.bl fl.j),some (.bl fi),some (.bl fl.w),some (.bl lo),some (.str x.nm)] H:=by
  rintro fi lo rfl rfl;have q:∀(u:Addr)(H':Hp),aM H H'->H' u=some (.tup [.bl (fl.o || !cC x.nm),.bl (fl.j||inV (.str x.nm) [.str "walk",.str "both",.str "meet"]),.bl (fl.f||pF (aE x)),.bl (fl.w||pW x.nm),.bl (fl.l||looseW x h fl)])->Q (.ref u) H':=q;have last:∀(o:Bool),o=(fl.o || !cC x.nm)->∀H1,aM H H1->bq (vc (bB 4) (hZ (Jr K false) (bB 8) (yP (bq (tC (.str "walk")) (bq (tC (.str "both")) (bq (tC (.str "meet")) fR)))))) (bq (bB 5) (bq (vc (bB 6) (hZ Jt (bB 8) (tC (.str "walk")))) (bq (bB 7) fR))) [some (.ref a),some (.ref b),some (.ref g),some (.bl fl.o),some (.bl fl.j),some (.bl (fl.f||pF (aE x))),some (.bl fl.w),some (.bl (fl.l||looseW x h fl)),some (.str x.nm)] H1 (λvs H2=>(.bl o::vs).length<=sizeLine/\∀u,H2 u=none->Q (.ref u) (upd H2 u (.tup (.bl o::vs)))):=by
   rintro o rfl H1 s1;have lst:∀(j:Bool),j=(fl.j||inV (.str x.nm) [.str "walk",.str "both",.str "meet"])->∀H2,aM H H2->bq (bB 5) (bq (vc (bB 6) (hZ Jt (bB 8) (tC (.str "walk")))) (bq (bB 7) fR)) [some (.ref a),some (.ref b),some (.ref g),some (.bl fl.o),some (.bl fl.j),some (.bl (fl.f||pF (aE x))),some (.bl fl.w),some (.bl (fl.l||looseW x h fl)),some (.str x.nm)] H2 (λvs H3=>(V.bl (fl.o || !cC x.nm) :: .bl j::vs).length<=sizeLine/\∀u,H3 u=none->Q (.ref u) (upd H3 u (.tup (.bl (fl.o || !cC x.nm) :: .bl j::vs)))):=by
    rintro j rfl H2 s2;refine⟨_,rfl,_,rfl,_,rfl,cG (λz=>?_) (λz=>?_)⟩
    ·refine⟨_,rfl,uO,λu hu'=>q u _ (s2.trans (aj hu' _)) ?_⟩;rw[ag,z];rfl
    ·refine⟨_,rfl,rfl,_,rfl,uO,λu hu'=>q u _ (s2.trans (aj hu' _)) ?_⟩;rw[ag,Xb.mpr z,bQ];rfl
   refine⟨_,rfl,_,rfl,cG (λz=>?_) (λz=>?_)⟩
   ·exact lst true (by rw[z];rfl) H1 s1
   ·refine⟨_,rfl,f9,λR hR=>⟨R,_,rfl,.inl (aZ.of ag),rfl,rfl,?_⟩⟩;exact lst _ (by rw[Xb.mpr z];rfl) _ (s1.trans (aj hR _))
  refine⟨_,rfl,_,rfl,cG (λz=>?_) (λz=>?_)⟩
  ·exact last true (by rw[z];rfl) H (aM.refl _)
  ·exact⟨_,rfl,a,x,rfl,ha,λH1 s1=>⟨_,rfl,last _ (by rw[Xb.mpr z];rfl) H1 s1⟩⟩
 refine⟨_,rfl,rfl,_,rfl,?_⟩;rw[bQ];by_cases e1:x.nm="keep"
 ·rw[WU e1];obtain⟨c,t,rfl⟩:=tS e1;obtain⟨st,ys,hk1,hk2⟩:=cb.mp ha;refine b_ ?_;refine⟨_,rfl,_,rfl,cG (λz=>?_) (λz=>?_)⟩
  ·refine ak ?_;dsimp only;refine⟨_,rfl,rfl,_,rfl,?_⟩;rw[bQ,WT (by simp only[Wk.nm,W1.nm];decide +kernel)];refine bF (bF (aG ⟨_,rfl,rfl,_,rfl,?_⟩));rw[bQ,WT (by simp only[Wk.nm,W1.nm];decide +kernel)];exact bF (aG (fin _ true (by rw[yW (by simp only[Wk.nm,W1.nm];decide +kernel),Bool.or_false]) (by rw[z];rfl)))
  ·refine⟨_,rfl,_,rfl,a,_,1,_,rfl,rfl,aJ.of hk1,rfl,_,_,rfl,rfl,b,_,_,_,rfl,rfl,aJ.of hb,dF (hkp c t rfl),rfl,ak ?_⟩;dsimp only;generalize hlo:decide (V.str (bx h c)=V.str "t")=lo;refine⟨_,rfl,rfl,_,rfl,?_⟩;rw[bQ,WT (by simp only[Wk.nm,W1.nm];decide +kernel)];refine bF (bF (aG ⟨_,rfl,rfl,_,rfl,?_⟩));rw[bQ,WT (by simp only[Wk.nm,W1.nm];decide +kernel)];exact bF (aG (fin _ _ (by rw[yW (by simp only[Wk.nm,W1.nm];decide +kernel),Bool.or_false]) (by rw[Xb.mpr z,Bool.false_or,←hlo,bQ];rfl)))
 rw[WT e1];refine bF (aG ⟨_,rfl,rfl,_,rfl,?_⟩);rw[bQ];by_cases e2:x.nm="first"
 ·rw[WU e2];obtain⟨m,rfl⟩:=lX e2;have h2:H a=some (.tup [.str "first",.int m]):=cb.mp ha;refine b_ ⟨_,rfl,a,_,1,_,rfl,rfl,aJ.of h2,rfl,_,_,rfl,rfl,_,rfl,?_⟩;by_cases e3:m<=0
  ·rw[WT (show¬(0:Int)<m by omega)];refine bF (aG ⟨_,rfl,rfl,_,rfl,?_⟩);rw[bQ,WT (by simp only[Wk.nm,W1.nm];decide +kernel)];refine bF (aG (fin _ _ ?_ ?_))
   ·show fl.f=(fl.f||pF (if m<=0 then "first 0" else "first"));rw[Xu e3,show pF "first 0"=false by decide +kernel,Bool.or_false]
   ·show fl.l=(fl.l||(decide (¬m<=0)&&fl.j));rw[WT (λz=>z e3),Bool.false_and,Bool.or_false]
  ·rw[WU (show(0:Int)<m by omega)];have hf1:true=(fl.f||pF (if m<=0 then "first 0" else "first")):=by rw[Xt e3,show pF "first"=true by decide +kernel,Bool.or_true]
   have hl1:(fl.l||(decide (¬m<=0)&&fl.j))=(fl.l||fl.j):=by rw[WU e3,Bool.true_and]
   refine b_ ⟨_,rfl,_,rfl,cG (λz=>?_) (λz=>?_)⟩
   ·refine ak ?_;dsimp only;refine ak ?_;dsimp only;refine⟨_,rfl,rfl,_,rfl,?_⟩;rw[bQ,WT (by simp only[Wk.nm,W1.nm];decide +kernel)];exact bF (aG (fin _ true hf1 (by show true=(fl.l||(decide (¬m<=0)&&fl.j));rw[z];rfl)))
   ·refine⟨_,rfl,ak ?_⟩;dsimp only;refine ak ?_;dsimp only;refine⟨_,rfl,rfl,_,rfl,?_⟩;rw[bQ,WT (by simp only[Wk.nm,W1.nm];decide +kernel)];exact bF (aG (fin _ _ hf1 (by show fl.j=(fl.l||(decide (¬m<=0)&&fl.j));rw[hl1,Xb.mpr z];rfl)))
 rw[WT e2];refine bF (bF (aG ⟨_,rfl,rfl,_,rfl,?_⟩));rw[bQ];have hf2:fl.f=(fl.f||pF (aE x)):=by rw[yW e2,Bool.or_false]
 by_cases e3:x.nm="meet"
 ·rw[WU e3];obtain⟨c,d,p,q',rfl⟩:=i4 e3;refine b_ ⟨_,rfl,_,rfl,cG (λz=>?_) (λz=>⟨_,rfl,_,rfl,cG (λz2=>?_) (λz2=>⟨_,rfl,?_⟩)⟩)⟩
  ·refine ak ?_;dsimp only;exact fin _ true hf2 (by rw[z];rfl)
  ·refine ak ?_;dsimp only;exact fin _ true hf2 (by show true=(fl.l||(fl.w||fl.f));rw[z2,Bool.true_or,Bool.or_true])
  ·refine ak ?_;dsimp only;exact fin _ fl.f hf2 (by show fl.f=(fl.l||(fl.w||fl.f));rw[Xb.mpr z,Xb.mpr z2,Bool.false_or,Bool.false_or])
 ·rw[WT e3];exact bF (aG (fin _ _ hf2 (by rw[zd e1 e2 e3,Bool.or_false])))
def Gr(a b:Fl):Fl:=⟨a.o||b.o,a.j||b.j,a.f||b.f,a.w||b.w,a.l||b.l⟩
def me(x:Wk)(h:Hd)(f:Fl)(pl:List Int)(es:List Hd)(a:Fl):Res:=match jm x f (lu x h es)with
 |some s=>.no pl s
 |none=>.ok (bK x (lu x h es)) (jN x h a)
def va(step:Hd->Fl->List Int->Wk->Res)(x:Wk)(h:Hd)(f:Fl)(pl:List Int):List (List Wk)->Nat->List Hd->Fl->Res
 |[],_,es,a=>me x h f pl es a
 |p::ps,j,es,a=>fM (putL step (pl++[(j:Int)]) 0 h f p) λh' f'=>va step x h f pl ps (j+1) (es++[h']) (Gr a f')
def Ap:Nat->Hd->Fl->List Int->Wk->Res
 | 0,h,f,pl,x=>iI x h f pl [(h,f)]
 |n+1,h,f,pl,x=>match x with
  | .one _=>me x h f pl [] f
  |_=>va (Ap n) x h f pl (cP x) 0 [] f
def E7(f g:Fl):Prop:=(f.o=true->g.o=true)/\(f.j=true->g.j=true)/\(f.f=true->g.f=true)/\(f.w=true->g.w=true)/\(f.l=true->g.l=true)
theorem E7.refl{f:Fl}:E7 f f:=⟨id,id,id,id,id⟩
theorem E7.trans{f g h:Fl}(a:E7 f g)(b:E7 g h):E7 f h:=⟨b.1∘a.1,b.2.1∘a.2.1,b.2.2.1∘a.2.2.1,b.2.2.2.1∘a.2.2.2.1,b.2.2.2.2∘a.2.2.2.2⟩
theorem yC{x:Wk}{h:Hd}{f g:Fl}{fs:List Fl}(hm:g∈fs):E7 g (FP x h f fs):=by
 have a:∀p:Fl->Bool,p g=true->fs.any p=true:=λp e=>List.any_eq_true.mpr ⟨g,hm,e⟩;refine⟨λe=>?_,λe=>?_,λe=>?_,λe=>?_,λe=>?_⟩
 ·show(fs.any _||_)=true;rw[a (λg=>g.o) e];rfl
 ·show(fs.any _||_)=true;rw[a (λg=>g.j) e];rfl
 ·show(fs.any _||_)=true;rw[a (λg=>g.f) e];rfl
 ·show(fs.any _||_)=true;rw[a (λg=>g.w) e];rfl
 ·show(_||fs.any _)=true;rw[a (λg=>g.l) e,Bool.or_true]
theorem uA{x:Wk}{h h':Hd}{f f':Fl}{pl:List Int}{es:List (Hd×Fl)}(e:iI x h f pl es=.ok h' f'):f'=FP x h f (es.map λe=>e.2)/\jm x f (es.map λe=>e.1)=none:=by
 unfold iI at e;split at e
 ·cases e
 ·next hn=>cases e;exact⟨rfl,hn⟩
theorem fG{r:Res}{g:Hd->Fl->Res}{h':Hd}{f':Fl}(e:fM r g=.ok h' f'):∃h1 f1,r=.ok h1 f1/\g h1 f1=.ok h' f':=by
 cases r with
 |ok h f=>exact⟨h,f,rfl,e⟩
 |no a s=>cases e
theorem tM{step:Hd->Fl->List Int->Wk->Res}(hs:∀h f pl x h' f',step h f pl x=.ok h' f'->E7 f f'){pl:List Int}:∀{ws:List Wk}{i:Nat}{h:Hd}{f:Fl}{h':Hd}{f':Fl},putL step pl i h f ws=.ok h' f'->E7 f f'
 |[],_,_,_,_,_,e=>by cases e;exact E7.refl
 |x::ws,i,h,f,h',f',e=>by obtain⟨h1,f1,e1,e2⟩:=fG e;exact(hs _ _ _ _ _ _ e1).trans (tM hs e2)
theorem uT{x:Wk}(h:b9 x=true):∃p q,cP x=[p,q]:=by
 cases x with
 |one x=>cases h
 |both p q=>exact⟨p,q,rfl⟩
 |meet c d p q=>exact⟨p,q,rfl⟩
theorem Ao:∀(n:Nat)(h:Hd)(f:Fl)(pl:List Int)(x:Wk)(h':Hd)(f':Fl),bV n h f pl x=.ok h' f'->E7 f f'
 | 0,h,f,pl,x,h',f',e=>by rw[(uA e).1];exact yC (by simp)
 |n+1,h,f,pl,x,h',f',e=>by
  cases hb:b9 x with
  |false =>rw[jf hb]at e;rw[(uA e).1];exact yC (by simp)
  |true =>rw[qi hb]at e;obtain⟨p,q,hpq⟩:=uT hb;rw[hpq]at e;obtain⟨h1,f1,e1,e⟩:=fG e;obtain⟨h2,f2,e2,e⟩:=fG e;rw[(uA e).1];exact(tM (Ao n) e1).trans (yC (by simp))
theorem Bb{x:Wk}(h:cC x.nm=true):b9 x=false/\pW (aE x)=false/\pF (aE x)=false:=by
 revert h;cases x with
 |one x=>cases x<;>simp only[Wk.nm,W1.nm]<;>intro h<;>first|exact Xs h (by decide +kernel)|exact⟨rfl,by simp only[aE,Wk.nm,W1.nm];decide +kernel,by simp only[aE,Wk.nm,W1.nm];decide +kernel⟩
 |both p q=>simp only[Wk.nm];intro h;exact Xs h (by decide +kernel)
 |meet c d p q=>simp only[Wk.nm];intro h;exact Xs h (by decide +kernel)
theorem pG{n:Nat}{pl:List Int}:∀{ws:List Wk}{i:Nat}{h:Hd}{f:Fl}{h':Hd}{f':Fl},(∀x∈ws,cC x.nm=true)->putL (bV n) pl i h f ws=.ok h' f'->f'.w=f.w/\f'.f=f.f
 |[],_,_,_,_,_,_,e=>by cases e;exact⟨rfl,rfl⟩
 |x::ws,i,h,f,h',f',ho,e=>by
  obtain⟨h1,f1,e1,e2⟩:=fG e;obtain⟨a,b⟩:=pG (λy hy=>ho y (by simp[hy])) e2;obtain⟨o1,o2,o3⟩:=Bb (ho x (by simp));rw[jf o1]at e1;rw[a,b,(uA e1).1];refine⟨?_,?_⟩
  ·show(([f].any λg=>g.w)||pW (aE x))=f.w;rw[o2];simp
  ·show(([f].any λg=>g.f)||pF (aE x))=f.f;rw[o3];simp
theorem we(x:Wk):pO (aE x)=(!cC x.nm)/\pJ (aE x)=inV (.str x.nm) [.str "walk",.str "both",.str "meet"]/\pW (aE x)=pW x.nm:=by
 by_cases h:x.nm="first"
 ·obtain⟨n,rfl⟩:=lX h;show pO (if n<=0 then "first 0" else "first")=_/\pJ (if n<=0 then "first 0" else "first")=_/\pW (if n<=0 then "first 0" else "first")=_;simp only[Wk.nm,W1.nm];split<;>(refine⟨?_,?_,?_⟩<;>decide +kernel)
 ·rw[lU h];refine⟨rfl,?_,rfl⟩;unfold pJ inV;simp only[XJ,List.any_nil,Bool.or_false,tI];rw[Bool.or_assoc]
theorem zl{x:Wk}{h:Hd}{f:Fl}{pl:List Int}(hb:b9 x=false):me x h f pl [] f=iI x h f pl [(h,f)]:=by
 have eh:lu x h []=[h]:=by unfold lu;rw[hb];rfl
 obtain⟨n1,n2,n3⟩:=we x;have ef:jN x h f=FP x h f [f]:=by unfold jN FP;simp only[XJ,List.any_nil,Bool.or_false,n1,n2,n3];rw[Bool.or_comm f.l]
 unfold me iI;rw[eh,ef];simp only[XH,List.map_nil];first|done | (cases jm x f [h]<;>rfl)
theorem or3{a b c:Bool}(h:a=true->b=true):(a||b||c)=(b||c):=by cases a<;>cases b<;>simp_all
theorem Il{n:Nat}{x:Wk}{h h1 h2:Hd}{f f1 f2:Fl}{pl p1 p2:List Int}{p q:List Wk}(hb:b9 x=true)(hpq:cP x=[p,q])(e1:putL (bV n) p1 0 h f p=.ok h1 f1)(e2:putL (bV n) p2 0 h f q=.ok h2 f2) :
  me x h f pl [h1,h2] (Gr (Gr f f1) f2)=iI x h f pl [(h1,f1),(h2,f2)]:=by
 have eh:lu x h [h1,h2]=[h1,h2]:=by unfold lu;rw[hb];rfl
 have l1:=tM (Ao n) e1;obtain⟨n1,n2,n3⟩:=we x;unfold me iI;rw[eh];simp only[XH,List.map_nil];cases ew:jm x f [h1,h2]with
 |some s=>rfl
 |none =>
  have ef:jN x h (Gr (Gr f f1) f2)=FP x h f [f1,f2]:=by
   unfold jN FP Gr;simp only[XJ,List.any_nil,Bool.or_false,n1,n2,n3];rw[or3 l1.1,or3 l1.2.1,or3 l1.2.2.1,or3 l1.2.2.2.1,or3 l1.2.2.2.2];congr 1;cases x with
   |one x=>cases hb
   |both a b=>rw[Bool.or_comm];rfl
   |meet c d a b =>
    cases hpq;have hr:(p++q).all (λw=>cC w.nm)=true:=by
     unfold jm at ew;split at ew
     ·split at ew
      ·split at ew
       ·split at ew
        ·assumption
        ·cases ew
       ·cases ew
      ·cases ew
     ·cases ew
    rw[List.all_append,Xq,List.all_eq_true,List.all_eq_true]at hr;obtain⟨a1,a2⟩:=pG hr.1 e1;obtain⟨b1,b2⟩:=pG hr.2 e2;show((f1.l||f2.l)||((f1.w||f2.w)||(f1.f||f2.f)))=((f.w||f.f)||(f1.l||f2.l));rw[a1,a2,b1,b2,Bool.or_self,Bool.or_self,Bool.or_comm]
  rw[ef]
theorem yE:∀n:Nat,Ap n=bV n
 | 0=>by funext h f pl x;rfl
 |n+1=>by
  funext h f pl x;cases hb:b9 x with
  |false =>
   rw[jf hb,←zl hb];cases x with
   |one x=>rfl
   |both a b=>cases hb
   |meet c d a b=>cases hb
  |true =>
   rw[qi hb];obtain⟨p,q,hpq⟩:=uT hb;have hl:Ap (n+1) h f pl x=va (Ap n) x h f pl (cP x) 0 [] f:=by
    cases x with
    |one x=>cases hb
    |both a b=>rfl
    |meet c d a b=>rfl
   rw[hl,hpq,yE n];show fM (putL (bV n) (pl++[((0:Nat):Int)]) 0 h f p) (λh' f'=>fM (putL (bV n) (pl++[((1:Nat):Int)]) 0 h f q) λh'' Rw=>me x h f pl [h',h''] (Gr (Gr f f') Rw))=fM (putL (bV n) (pl++[((0:Nat):Int)]) 0 h f p) (λh' f'=>fM (putL (bV n) (pl++[((1:Nat):Int)]) 0 h f q) λh'' Rw=>iI x h f pl [(h',f'),(h'',Rw)]);cases e1:putL (bV n) (pl++[((0:Nat):Int)]) 0 h f p with
   |no a s=>rfl
   |ok h1 f1 =>
    show fM _ _=fM _ _;cases e2:putL (bV n) (pl++[((1:Nat):Int)]) 0 h f q with
    |no a s=>rfl
    |ok h2 f2=>exact Il hb hpq e1 e2
end My
namespace L2
open PySem PySem.Spec PyProof.Rows
section
variable{prog:Program}{w:World}{A:Around}{E:Z0}{s:Shared}
theorem AL{z TI TO i1 i2 l1 l2:Addr}{k:Nat}{xs ys:Array Value}{x y a b:Value}{Q:Z0}(D:ZipApart z TI TO i1 i2 l1 l2)
  (hz:IsZip s.heap z TI TO .none) (hTI:IsPair s.heap TI (.ref i1) (.ref i2)) (hTO:IsPair s.heap TO a b)
  (h1:s.heap.IsTupleIter i1 l1 k) (h2:s.heap.IsTupleIter i2 l2 k) (hl1:s.heap.IsTuple l1 xs) (hl2:s.heap.IsTuple l2 ys) (hx:xs[k]? = some x) (hy:ys[k]? = some y)
  (hQ:∀h',IsZip h' z TI TO (rawInt s.heap.objs.size)->IsPair h' TO x y->h'.IsTupleIter i1 l1 (k+1)->h'.IsTupleIter i2 l2 (k+1)->IsPair h' s.heap.objs.size x y->h'.objs.size=s.heap.objs.size+1->
   (∀c o,c≠z->c≠TO->c≠i1->c≠i2->s.heap.get? c=some o->h'.get? c=some o)->Q (.ref s.heap.objs.size) {s with heap:=h'}) :
  wpAny (model prog w) A (Builtin.«zip.__next__» ⟨[.ref z],[]⟩) (λfin s'=>∃v,fin=.done (.ret v)/\Q v s') E s:=by
 show wpAny _ _ (field (.ref z) 2 >>= _) _ _ _;refine WL (wpAny_field hz rfl (x:=.bool false) rfl ?_);show wpAny _ _ (field (.ref z) 3 >>= _) _ _ _;refine WL (wpAny_field hz rfl (x:=.ref TI) rfl ?_);refine WL (wpAny_seqItems hTI rfl ?_);show wpAny _ _ (Builtin.SmallTypes.ownedTupleIsFree (.ref z) >>= _) _ _ _;refine WL ?_;unfold Builtin.SmallTypes.ownedTupleIsFree;refine WL (wpAny_field hz rfl (x:=.none) rfl (WM ?_));simp only[if_true];refine WL (wpAny_rule ?_);refine WL (wpAny_field hz rfl (x:=.ref TO) rfl ?_);refine WL (wpAny_setField_rec hz (by simp) λg1 z1 s1=>?_);replace z1:IsZip g1 z TI TO .ellipsis:=z1;refine WL ?_;simp only[List.zipIdx_cons,List.zipIdx_nil,List.forIn_cons,List.forIn_nil];refine WL (WL (wpAny_onRaise ?_));show wpAny _ _ (Builtin.SmallTypes.nextOf (.ref i1) >>= _) _ _ _;refine WL (kZ (h1.extBut s1.extBut D.i1z) (hl1.extBut s1.extBut D.l1z) hx λg2 a2 s2=>WM ?_);have p2:IsPair g2 TO a b:=s2.extBut _ _ D.TOi1 (s1.extBut _ _ D.TOz hTO);refine WL (wpAny_seqItems p2 rfl (WL (wpAny_updateSeq_pair p2 λg3 p3 s3=>WL (wpAny_letGo (WM ?_)))));replace p3:IsPair g3 TO x b:=p3;refine WL (WL (wpAny_onRaise ?_));show wpAny _ _ (Builtin.SmallTypes.nextOf (.ref i2) >>= _) _ _ _;refine WL (kZ (((h2.extBut s1.extBut D.i2z).extBut s2.extBut D.i12.symm).extBut s3.extBut D.TOi2.symm) (((hl2.extBut s1.extBut D.l2z).extBut s2.extBut D.l2i1).extBut s3.extBut D.l2TO) hy λg4 a4 s4=>WM ?_);have p4:IsPair g4 TO x b:=s4.extBut _ _ D.TOi2 p3;refine WL (wpAny_seqItems p4 rfl (WL (wpAny_updateSeq_pair p4 λg5 p5 s5=>WL (wpAny_letGo (WM (WM ?_))))));replace p5:IsPair g5 TO x y:=p5;refine WL (wpAny_seqItems p5 rfl (WL (wpAny_newTuple ?_)));have hsz:g5.objs.size=s.heap.objs.size:=by rw[s5.1,s4.1,s3.1,s2.1,s1.1]
 have z5:IsZip g5 z TI TO .ellipsis:=s5.extBut _ _ D.TOz.symm (s4.extBut _ _ D.i2z.symm (s3.extBut _ _ D.TOz.symm (s2.extBut _ _ D.i1z.symm z1)));have k5:∀c o,c≠z->c≠TO->c≠i1->c≠i2->s.heap.get? c=some o->g5.get? c=some o:=λc o c1 c2 c3 c4 e=>s5.extBut _ _ c2 (s4.extBut _ _ c4 (s3.extBut _ _ c2 (s2.extBut _ _ c3 (s1.extBut _ _ c1 e))));have b1:g5.IsTupleIter i1 l1 (k+1):=((a2.extBut s3.extBut D.TOi1.symm).extBut s4.extBut D.i12).extBut s5.extBut D.TOi1.symm;have b2:g5.IsTupleIter i2 l2 (k+1):=a4.extBut s5.extBut D.TOi2.symm;have MA:z<g5.objs.size:=WO z5;show wpAny _ _ (Builtin.SmallTypes.ownedTupleHandOut (.ref z) (.ref g5.objs.size) >>= _) _ _ _;refine WL ?_;unfold Builtin.SmallTypes.ownedTupleHandOut;have z6:IsZip (g5.push {cls:=.type "tuple",data:=.seq #[x,y]}) z TI TO .ellipsis:=WN _ z5;refine WL (wpAny_setField_rec z6 (by simp) λg7 z7 s7=>?_);replace z7:IsZip g7 z TI TO (rawInt g5.objs.size):=z7;refine wpAny_setField_rec z7 (by simp) λg8 z8 s8=>?_;replace z8:IsZip g8 z TI TO (rawInt g5.objs.size):=z8;have up:∀c o,c≠z->g5.get? c=some o->g8.get? c=some o:=λc o c1 e=>s8.extBut _ _ c1 (s7.extBut _ _ c1 (WN _ e));have t8:IsPair g8 g5.objs.size x y:=s8.extBut _ _ (Nat.ne_of_gt MA) (s7.extBut _ _ (Nat.ne_of_gt MA) (WQ _ rfl));have n8:g8.objs.size=g5.objs.size+1:=by rw[s8.1,s7.1,Heap.size_push]
 rw[hsz]at z8 t8 n8;refine WM ⟨_,rfl,?_⟩;show Q (.ref g5.objs.size) _;rw[hsz];exact hQ g8 z8 (up _ _ D.TOz p5) (b1.at λo e=>up _ o D.i1z e) (b2.at λo e=>up _ o D.i2z e) t8 n8 λc o c1 c2 c3 c4 e=>up c o c1 (k5 c o c1 c2 c3 c4 e)
theorem C7{z TI TO i1 i2 l1 l2:Addr}{k:Nat}{xs:Array Value}{Q:Fin->Shared->Prop}(hh:A.handled=none)(D:ZipApart z TI TO i1 i2 l1 l2)
  (hz:IsZip s.heap z TI TO .none) (hTI:IsPair s.heap TI (.ref i1) (.ref i2)) (h1:s.heap.IsTupleIter i1 l1 k) (hl1:s.heap.IsTuple l1 xs) (hx:xs[k]? = none)
  (hE:∀h' e,(∀c o,c≠z->c≠i1->s.heap.get? c=some o->h'.get? c=some o)->(∃o,h'.get? e=some o/\o.cls=.type "StopIteration")->E (.ref e) {s with heap:=h'}) :
  wpAny (model prog w) A (Builtin.«zip.__next__» ⟨[.ref z],[]⟩) Q E s:=by
 show wpAny _ _ (field (.ref z) 2 >>= _) _ _ _;refine WL (wpAny_field hz rfl (x:=.bool false) rfl ?_);show wpAny _ _ (field (.ref z) 3 >>= _) _ _ _;refine WL (wpAny_field hz rfl (x:=.ref TI) rfl ?_);refine WL (wpAny_seqItems hTI rfl ?_);show wpAny _ _ (Builtin.SmallTypes.ownedTupleIsFree (.ref z) >>= _) _ _ _;refine WL ?_;unfold Builtin.SmallTypes.ownedTupleIsFree;refine WL (wpAny_field hz rfl (x:=.none) rfl (WM ?_));simp only[if_true];refine WL (wpAny_rule ?_);refine WL (wpAny_field hz rfl (x:=.ref TO) rfl ?_);refine WL (wpAny_setField_rec hz (by simp) λg1 z1 s1=>?_);replace z1:IsZip g1 z TI TO .ellipsis:=z1;refine WL ?_;simp only[List.zipIdx_cons,List.zipIdx_nil,List.forIn_cons,List.forIn_nil];refine WL (WL (wpAny_onRaise ?_));show wpAny _ _ (Builtin.SmallTypes.nextOf (.ref i1) >>= _) _ _ _;refine WL (gI hh (h1.extBut s1.extBut D.i1z) (hl1.extBut s1.extBut D.l1z) hx λg2 e s2 he=>?_);obtain⟨oe,hoe,hce⟩:=he;have z2:IsZip g2 z TI TO .ellipsis:=s2 _ _ D.i1z.symm z1;have ez:e≠z:=λx=>by subst x;rw[z2]at hoe;cases hoe;simp at hce
 exact wpAny_setField_rec z2 (by simp) λg3 _ s3=>hE g3 e (λc o c1 c3 x=>s3.extBut _ _ c1 (s2 _ _ c3 (s1.extBut _ _ c1 x))) ⟨oe,s3.extBut _ _ ez hoe,hce⟩
theorem ou{z TI TO i1 i2 l1 l2:Addr}{k:Nat}{xs ys:Array Value}{x y a b:Value}{Q:Z7->Shared->Prop}(D:ZipApart z TI TO i1 i2 l1 l2)
  (hz:IsZip s.heap z TI TO .none) (hTI:IsPair s.heap TI (.ref i1) (.ref i2)) (hTO:IsPair s.heap TO a b)
  (h1:s.heap.IsTupleIter i1 l1 k) (h2:s.heap.IsTupleIter i2 l2 k) (hl1:s.heap.IsTuple l1 xs) (hl2:s.heap.IsTuple l2 ys) (hx:xs[k]? = some x) (hy:ys[k]? = some y)
  (hQ:∀h',IsZip h' z TI TO (rawInt s.heap.objs.size)->IsPair h' TO x y->h'.IsTupleIter i1 l1 (k+1)->h'.IsTupleIter i2 l2 (k+1)->IsPair h' s.heap.objs.size x y->h'.objs.size=s.heap.objs.size+1->
   (∀c o,c≠z->c≠TO->c≠i1->c≠i2->s.heap.get? c=some o->h'.get? c=some o)->Q (some (.ref s.heap.objs.size)) {s with heap:=h'}) :
  wpAny (model prog w) A (pyNext (.ref z)) Q E s:=by
 have hT:s.TypeIs (.ref z) "zip":=⟨_,hz,rfl⟩;unfold pyNext;exact WL (wpAny_attempt (wpAny_callSpecial?_slot (name:=Str.ofString "__next__") hT F.slot_zip_next
  (XD F.slot_zip_next hT F.entry_zip_next (AL D hz hTI hTO h1 h2 hl1 hl2 hx hy λh' a1 a2 a3 a4 a5 a6 a7=>WM (hQ h' a1 a2 a3 a4 a5 a6 a7)) (F.args_zip_next_1 _))))
theorem qT{z TI TO i1 i2 l1 l2:Addr}{k:Nat}{xs:Array Value}{Q:Z7->Shared->Prop}(hh:A.handled=none)(D:ZipApart z TI TO i1 i2 l1 l2)
  (hz:IsZip s.heap z TI TO .none) (hTI:IsPair s.heap TI (.ref i1) (.ref i2)) (h1:s.heap.IsTupleIter i1 l1 k) (hl1:s.heap.IsTuple l1 xs) (hx:xs[k]? = none)
  (hQ:∀h',(∀c o,c≠z->c≠i1->s.heap.get? c=some o->h'.get? c=some o)->Q none {s with heap:=h'}):wpAny (model prog w) A (pyNext (.ref z)) Q E s:=by
 have hT:s.TypeIs (.ref z) "zip":=⟨_,hz,rfl⟩;unfold pyNext;refine WL (wpAny_attempt (wpAny_callSpecial?_slot (name:=Str.ofString "__next__") hT F.slot_zip_next
  (XD F.slot_zip_next hT F.entry_zip_next (C7 hh D hz hTI h1 hl1 hx λh' e hk he=>?_) (F.args_zip_next_1 _))))
 obtain⟨o,ho,hc⟩:=he;exact WL (wpAny_isInstance (T:="StopIteration") (b:=true) ⟨o,ho,hc⟩ isSubtype_stop (WM (hQ _ hk)))
abbrev O7(h:Heap)(l1:Addr):Heap:=h.push {cls:=.type "tuple_iterator",data:=.fields #[.ref l1,.int 0 0]}
abbrev Pn(h:Heap)(l1 l2:Addr):Heap:=(O7 h l1).push {cls:=.type "tuple_iterator",data:=.fields #[.ref l2,.int 0 0]}
abbrev Pg(h:Heap)(l1 l2:Addr):Heap:=(Pn h l1 l2).push {cls:=.type "tuple",data:=.seq #[.ref h.objs.size,.ref (O7 h l1).objs.size]}
abbrev Pl(h:Heap)(l1 l2:Addr):Heap:=(Pg h l1 l2).push {cls:=.type "tuple",data:=.seq #[.none,.none]}
abbrev JU(h:Heap)(l1 l2:Addr):Heap:=(Pl h l1 l2).push {cls:=.type "zip",data:=.fields #[.none,.bool false,.bool false,.ref (Pn h l1 l2).objs.size,.ref (Pg h l1 l2).objs.size]}
theorem xG(l1 l2:Addr)(xs ys:Array Value):Meets (Builtin.«zip.__new__» ⟨[.type "zip",.ref l1,.ref l2],[]⟩) (λ_ R s=>s.heap.IsTuple l1 xs/\s.heap.IsTuple l2 ys/\R (.ok (.ret (.ref (Pl s.heap l1 l2).objs.size))) {s with heap:=JU s.heap l1 l2}) :=
 .of_wp λprog w A R s h=>by
  obtain⟨hp,g,d,tk,os⟩:=s;obtain⟨hl1,hl2,h⟩:=h;have hsub:=sub_zip;have hL1:Heap.IsTuple (Shared.heap ⟨hp,g,d,tk,os⟩) l1 xs:=hl1;have hL2:Heap.IsTuple (Shared.heap ⟨hp.push {cls:=.type "tuple_iterator",data:=.fields #[.ref l1,.int 0 0]},g,d,tk,os⟩) l2 ys:=Heap.IsTuple.push hl2 _
  wp_walk using wpAny_pyIter_tuple hL1,wpAny_pyIter_tuple hL2
  exact⟨_,rfl,h⟩
theorem A5{l1 l2:Addr}{xs ys:Array Value}{Q:Z0}(hl1:s.heap.IsTuple l1 xs)(hl2:s.heap.IsTuple l2 ys)
  (h:∀h',IsZip h' (s.heap.objs.size+4) (s.heap.objs.size+2) (s.heap.objs.size+3) .none->IsPair h' (s.heap.objs.size+2) (.ref s.heap.objs.size) (.ref (s.heap.objs.size+1))->
   IsPair h' (s.heap.objs.size+3) .none .none->h'.IsTupleIter s.heap.objs.size l1 0->h'.IsTupleIter (s.heap.objs.size+1) l2 0->h'.objs.size=s.heap.objs.size+5->
   (∀c o,s.heap.get? c=some o->h'.get? c=some o)->Q (.ref (s.heap.objs.size+4)) {s with heap:=h'}) :
  wpAny (model prog w) A (call (.type "zip") [.ref l1,.ref l2]) Q E s:=by
 refine callType_new F.called_zip (by decide) (F.typeCall_zip_2 _ _) (F.newCall_zip_2 _ _) (λobj=>F.args_object_init_3 obj _ _) F.entry_zip_new (xG l1 l2 xs ys) ⟨hl1,hl2,?_⟩;have z1:(O7 s.heap l1).objs.size=s.heap.objs.size+1:=Heap.size_push ..;have z2:(Pn s.heap l1 l2).objs.size=s.heap.objs.size+2:=by rw[Heap.size_push,z1]
 have z3:(Pg s.heap l1 l2).objs.size=s.heap.objs.size+3:=by rw[Heap.size_push,z2]
 have z4:(Pl s.heap l1 l2).objs.size=s.heap.objs.size+4:=by rw[Heap.size_push,z3]
 have z5:(JU s.heap l1 l2).objs.size=s.heap.objs.size+5:=by rw[Heap.size_push,z4]
 have g5:(JU s.heap l1 l2).get? (Pl s.heap l1 l2).objs.size=some _:=WQ _ rfl;have g4:(JU s.heap l1 l2).get? (Pg s.heap l1 l2).objs.size=some _:=WN _ (WQ _ rfl);have g3:(JU s.heap l1 l2).get? (Pn s.heap l1 l2).objs.size=some _:=WN _ (WN _ (WQ _ rfl));have g2:(JU s.heap l1 l2).get? (O7 s.heap l1).objs.size=some _:=WN _ (WN _ (WN _ (WQ _ rfl)));have g1:(JU s.heap l1 l2).get? s.heap.objs.size=some _:=WN _ (WN _ (WN _ (WN _ (WQ _ rfl))));show _/\_;rw[z2,z3,z4]at g5;rw[z1,z2]at g3;rw[z3]at g4;rw[z1]at g2;rw[z4];exact⟨⟨_,g5,rfl⟩,h _ g5 g3 g4 ⟨_,g1,rfl,rfl⟩ ⟨_,g2,rfl,rfl⟩ z5 λc o x=>WN _ (WN _ (WN _ (WN _ (WN _ x))))⟩
end
def Lq(K:XO)(a b:Addr):It :=
 ⟨λi H=>∃xs ys x y,aJ K H a xs/\aJ K H b ys/\xs[i]? = some x/\ys[i]? = some y,
   λi H v H'=>∃T x y,v=.ref T/\H T=none/\H'=upd H T (.tup [x,y])/\(∀xs,aJ K H a xs->xs[i]? = some x)/\∀ys,aJ K H b ys->ys[i]? = some y,
   λi H=>∃xs,aJ K H a xs/\xs.length<=i⟩
theorem Bi{P:Program}{w:World}{K:XO}{es:List Expr}{x1:Nat}{pos:Pos}(a b z TI TO i1 i2:Addr)(D:ZipApart z TI TO i1 i2 a b) :
  Turn P w K (.Tuple es x1 pos) (Lq K a b) [z,TI,TO,i1,i2] z (λi h=>IsZip h z TI TO .none/\IsPair h TI (.ref i1) (.ref i2)/\(∃u v,IsPair h TO u v)/\h.IsTupleIter i1 a i/\h.IsTupleIter i2 b i) where
 mem:=by simp
 obj:=λi h st c hc=>by
  obtain⟨h1,h2,⟨u,v,h3⟩,⟨o4,e4,c4,d4⟩,⟨o5,e5,c5,d5⟩⟩:=st;simp only[Xa,Xv,or_false]at hc;rcases hc with rfl|rfl|rfl|rfl|rfl
  ·exact⟨_,h1,λv z=>by cases(show Data.fields _=Data.cell v from z)⟩
  ·exact⟨_,h2,λv z=>by cases(show Data.seq _ _=Data.cell v from z)⟩
  ·exact⟨_,h3,λv z=>by cases(show Data.seq _ _=Data.cell v from z)⟩
  ·exact⟨o4,e4,λv z=>by rw[d4]at z;cases z⟩
  ·exact⟨o5,e5,λv z=>by rw[d5]at z;cases z⟩
 keep:=λi h h' st k=>by obtain⟨h1,h2,⟨u,v,h3⟩,h4,h5⟩:=st;exact⟨k z (by simp) _ h1,k TI (by simp) _ h2,⟨u,v,k TO (by simp) _ h3⟩,h4.at λo e=>k i1 (by simp) o e,h5.at λo e=>k i2 (by simp) o e⟩
 item:=by
  intro X hP hw hK hc i ac s σ H E I hf st hg;subst hP hw hK;obtain⟨xs,ys,x,y,hq1,hq2,hx,hy⟩:=hg;obtain⟨its,rv,p,hz⟩:=I.tuple hq1;obtain⟨its2,R8,p2,hz2⟩:=I.tuple hq2;obtain⟨u,hu,ru⟩:=rv.get hx;obtain⟨u2,hu2,V1⟩:=R8.get hy;obtain⟨h1,h2,⟨v1,v2,h3⟩,h4,h5⟩:=st;refine ou D h1 h2 h3 h4 h5 p p2 (x:=u) (y:=u2) (by simpa using hu) (by simpa using hu2) λh' g1 g2 g3 g4 g5 hsz g6=>⟨_,rfl,?_⟩;refine wpAny_letOwnedTupleGo_zip (show IsZip h' z TI TO (rawInt s.heap.objs.size) from g1) λh'' f1 fs=>?_;have MA:z<s.heap.objs.size:=WO h1;have QP:s.heap.objs.size≠z:=Nat.ne_of_gt MA;have kk:∀c o,c∉[z,TI,TO,i1,i2]->s.heap.get? c=some o->h''.get? c=some o:=λc o hc e=>by simp only[Xa,Xv,or_false,not_or]at hc;exact fs.extBut _ _ hc.1 (g6 c o hc.1 hc.2.2.1 hc.2.2.2.1 hc.2.2.2.2 e)
  have pT:IsPair h'' s.heap.objs.size u u2:=fs.extBut _ _ QP g5;have I1:Inv X ac σ (upd H s.heap.objs.size (.tup [x,y])) {s with heap:=h'',toks:=s.toks}:=I.rS hf kk (WR _) ⟨by show 2<=sizeLine;decide,[u,u2],.cons ru (.cons V1 .nil),⟨_,pT,rfl,⟨_,rfl⟩,rfl⟩⟩;have Qp:TI<s.heap.objs.size:=WO h2;refine⟨.ref s.heap.objs.size,_,I1,rfl,⟨_,x,y,rfl,I.hok.fresh (WR _),rfl,λys hy'=>by rw[I.iB hy' hq1];exact hx,λys hy'=>by rw[I.iB hy' hq2];exact hy⟩,⟨f1,?_,⟨u,u2,fs.extBut _ _ D.TOz g2⟩,g3.extBut fs.extBut D.i1z,g4.extBut fs.extBut D.i2z⟩,λc hc=>?_⟩
  ·exact fs.extBut _ _ D.TIz (g6 TI _ D.TIz D.TITO D.TIi1 D.TIi2 h2)
  ·have hn:=(hf c hc).1;have:c≠s.heap.objs.size:=by
    have lt:c<s.heap.objs.size:=by
     simp only[Xa,Xv,or_false]at hc;obtain⟨o4,e4,_⟩:=h4;obtain⟨o5,e5,_⟩:=h5;rcases hc with rfl|rfl|rfl|rfl|rfl
     ·exact MA
     ·exact Qp
     ·exact WO h3
     ·exact WO e4
     ·exact WO e5
    exact Xd lt
   rw[aI this];exact hn
 done:=by intro X hP hw hK hc i ac s σ H E I hf st hg;subst hP hw hK;obtain⟨xs,hq1,hend⟩:=hg;obtain⟨its,rv,p,hz⟩:=I.tuple hq1;obtain⟨h1,h2,⟨v1,v2,h3⟩,h4,h5⟩:=st;have hl:=rv.length;refine qT (I.ok.hd hc) D h1 h2 h4 p (by simp;omega) λh' g6=>⟨rfl,I.pD (t':=s.toks) hf λc o hc e=>?_⟩;simp only[Xa,Xv,or_false,not_or]at hc;exact g6 c o hc.1 hc.2.2.2.1 e
 self:=λ_ _ _ _ _ st h=>wpAny_pyIter_zip st.1 h
section
variable{X:Cx}
def Oo(K:XO)(ta:TA):TI:=λσ H R=>ta σ H λvs H1=>∃a b,vs=[.ref a,.ref b]/\(∃xs,aJ K H1 a xs)/\(∃ys,aJ K H1 b ys)/\R (Lq K a b) H1
theorem F8{es:List Expr}{x1:Nat}{tpos:Pos}{a b:Expr}{ta:TA}{p pos:Pos}(hg:Gl X "zip")(hm:X.mg "zip"=none)(ha:PA X [a,b] ta)(hs:starEach [a,b] X.env=[(false,eval a X.env),(false,eval b X.env)]:=by rfl)(hs2:starEach [b] X.env=[(false,eval b X.env)]:=by rfl) :
  PI X (.Tuple es x1 tpos) (.Call (.Name "zip" p) [a,b] [] pos) (Oo X.K ta):=by
 intro ac s σ H R I h;refine Call_ (iR I hg hm (by decide +kernel:bootBuiltins "zip"=some (.type "zip")) (PyProof.Rows.callWith_type1 (bZ (ha pos ac s σ H _ I h) λus s1 zz=>?_) (by rw[hs,hs2]) (by rw[hs2];rfl)));obtain⟨vs,H1,I1,r1,q1⟩:=zz;obtain⟨l1,l2,e,⟨xs,hq1⟩,⟨ys,hq2⟩,q⟩:=q1;subst e;cases r1 with
 |cons r rr =>
  cases rr with
  |cons r' rr =>
   cases rr;cases r;cases r';obtain⟨its,rv,p1,hz⟩:=I1.tuple hq1;obtain⟨its2,R8,p2,hz2⟩:=I1.tuple hq2;have a1:l1<s1.heap.objs.size:=by obtain⟨_,e,_⟩:=p1;exact WO e
   have a2:l2<s1.heap.objs.size:=by obtain⟨_,e,_⟩:=p2;exact WO e
   refine A5 p1 p2 λh' hz hTI hTO hi1 hi2 hsz hk=>?_;refine wpAny_pyIter_zip (show IsZip h' _ _ _ _ from hz) ?_;refine⟨_,[s1.heap.objs.size+4,s1.heap.objs.size+2,s1.heap.objs.size+3,s1.heap.objs.size,s1.heap.objs.size+1],_,_,H1,rfl,I1.kept (t':=s1.toks) hk,Bi _ _ _ _ _ _ _ (zipApart_new a1 a2),⟨hz,hTI,⟨_,_,hTO⟩,hi1,hi2⟩,λc hc=>?_,q⟩;simp only[Xa,Xv,or_false]at hc;have hle:s1.heap.objs.size<=c:=by rcases hc with rfl|rfl|rfl|rfl|rfl<;>first|exact WR _|exact Nat.le_add_right _ _
   exact I1.ml hle (I1.hok.fresh hle)
end
theorem Bp{K:XO}{a b D:Addr}{xs ys:List V}{g:TG}{tc:TT}{te:TE}{Q:VK}{rA:St}{H0:Hp}(Pv:Nat->St->List V->Hp->Prop)(h0:Pv 0 rA [] H0)(hD:∀i σ zs H,i<=xs.length->Pv i σ zs H->H D=some (.lst zs)/\zs.length<=i)
  (hl:∀i σ zs H,i<=xs.length->Pv i σ zs H->aJ K H a xs/\aJ K H b ys) (hxy:xs.length=ys.length) (hz:xs.length<=sizeLine)
  (hs:∀i x y σ zs H T,xs[i]? = some x->ys[i]? = some y->Pv i σ zs H->H T=none->g (.ref T) σ (upd H T (.tup [x,y])) λde H2=>tc de H2 λb H3=>if b=true then te de H3 λv H4=>H4 D=some (.lst zs)/\Pv (i+1) de (zs++[v]) (upd H4 D (.lst (zs++[v])))else Pv (i+1) de zs H3)
  (hd:∀σ zs H,Pv xs.length σ zs H->Q (.ref D) H):∃W:Nat->Nat->St->List V->Hp->Prop,(∃m,W 0 m rA [] H0)/\oQ (Lq K a b) g tc te D Q W:=by
 refine⟨λi m σ zs H=>m=xs.length-i/\i<=xs.length/\Pv i σ zs H,⟨xs.length,by simp,Xe _,h0⟩,?_⟩;rintro i m σ zs H ⟨rfl,hi,p⟩;obtain⟨q1,q2⟩:=hl i σ zs H hi p;refine⟨(hD i σ zs H hi p).1,?_⟩;by_cases hlt:i<xs.length
 ·have l2:i<ys.length:=by omega
  refine .inr ⟨⟨xs,ys,xs[i],ys[i],q1,q2,by simp[hlt],by simp[l2]⟩,WY (hD i σ zs H hi p).2 (WZ hlt hz),Pv (i+1),λσ' ys' H' p'=>⟨xs.length-(i+1),by omega,rfl,hlt,p'⟩,λv H' y=>?_⟩;obtain⟨T,x,y,rfl,hT,rfl,hx,hy⟩:=y;exact hs i x y σ zs H T (hx xs q1) (hy ys q2) p hT
 ·have e:i=xs.length:=by omega
  subst e;exact .inl ⟨⟨xs,q1,WR _⟩,hd σ zs H p⟩
section
variable{κ:Type} [DecidableEq κ]
def mU(kvs:List (κ×V))(k:κ):Option V:=(kvs.find? λkv=>decide (kv.1=k)).map (·.2)
def putK(kvs:List (κ×V))(k:κ)(v:V):List (κ×V) :=
 if(kvs.any λkv=>decide (kv.1=k))=true then kvs.map (λkv=>if kv.1=k then(kv.1,v)else kv)else kvs++[(k,v)]
theorem oA{p:κ×V}{r:List (κ×V)}{k:κ}(e:p.1=k):mU (p::r) k=some p.2:=by simp[mU,List.find?_cons,e]
theorem o_{p:κ×V}{r:List (κ×V)}{k:κ}(e:¬p.1=k):mU (p::r) k=mU r k:=by simp[mU,List.find?_cons,e]
theorem vM(k:κ):∀kvs:List (κ×V),(kvs.any λkv=>decide (kv.1=k))=(mU kvs k).isSome
 |[]=>rfl
 |p::r=>by
  rw[XJ];by_cases e:p.1=k
  ·simp only[oA e,WU e,Bool.true_or,Option.isSome_some]
  ·rw[o_ e,WT e,Bool.false_or];exact vM k r
theorem ng(kvs:List (κ×V))(k:κ)(v:V):(putK kvs k v).length<=kvs.length+1:=by
 unfold putK;split
 ·rw[WV];omega
 ·rw[WW,Xp,List.length_nil];omega
theorem iL.AW{o:Option V}{u:Z7}(r:iL o u):o.isSome=u.isSome:=by
 cases o with
 |none=>cases u with
  |none=>rfl
  |some _=>exact(show False from r).elim
 |some _=>cases u with
  |none=>exact(show False from r).elim
  |some _=>rfl
theorem iL.getD{o:Option V}{u:Z7}{d:V}{d':Value}(r:iL o u)(rd:RelV d d'):RelV (o.getD d) (u.getD d'):=by
 cases o with
 |none=>cases u with
  |none=>exact rd
  |some _=>exact(show False from r).elim
 |some _=>cases u with
  |none=>exact(show False from r).elim
  |some _=>exact r
theorem KV.val{kvs:List (κ×V)}{vs:List (κ×Value)}(r:KV kvs vs)(k:κ):iL (mU kvs k) (valueAt vs k):=by
 unfold KV at r;induction r with
 |nil=>exact True.intro
 | @cons p q ps qs h t ih =>
  obtain⟨h1,h2⟩:=h;by_cases e:p.1=k
  ·have e':q.1=k:=h1.symm.trans e;have b:valueAt (q::qs) k=some q.2:=by simp[valueAt,List.find?_cons,e']
   rw[oA e,b];exact h2
  ·have e':¬q.1=k:=λz=>e (h1.trans z);have b:valueAt (q::qs) k=valueAt qs k:=by simp[valueAt,List.find?_cons,e']
   rw[o_ e,b];exact ih
theorem KV.any{kvs:List (κ×V)}{vs:List (κ×Value)}(r:KV kvs vs)(k:κ):(kvs.any λkv=>decide (kv.1=k))=vs.any λkv=>decide (kv.1=k):=by
 unfold KV at r;induction r with
 |nil=>rfl
 |cons h t ih=>rw[XJ,XJ,ih,h.1]
theorem KV.repl{kvs:List (κ×V)}{vs:List (κ×Value)}(r:KV kvs vs)(k:κ){y:V}{u:Value}(ry:RelV y u) :
  KV (kvs.map λkv=>if kv.1=k then(kv.1,y)else kv) (vs.map λkv=>if kv.1=k then(kv.1,u)else kv):=by
 unfold KV at r⊢;induction r with
 |nil=>exact .nil
 | @cons p q ps qs h t ih =>
  rw[XH,XH];refine .cons ?_ ih;obtain⟨h1,h2⟩:=h;by_cases e:p.1=k
  ·rw[Xu e,Xu (h1.symm.trans e)];exact⟨h1,ry⟩
  ·rw[Xt e,Xt (λz=>e (h1.trans z))];exact⟨h1,h2⟩
theorem KV.put{kvs:List (κ×V)}{vs:List (κ×Value)}(r:KV kvs vs)(k:κ){y:V}{u:Value}(ry:RelV y u):KV (putK kvs k y) (stored vs k u):=by
 unfold putK stored;rw[r.any k];by_cases e:(vs.any λkv=>decide (kv.1=k))=true
 ·rw[Xu e,Xu e];exact r.repl k ry
 ·rw[Xt e,Xt e];exact Paired.snoc r ⟨rfl,ry⟩
theorem KV.length{kvs:List (κ×V)}{vs:List (κ×Value)}(r:KV kvs vs):kvs.length=vs.length:=Paired.length r
end
theorem CC{P:Program}{w:World}{k:Key}{u:Value}(r:RelV (kV k) u):(bD P w).is k u=true:=by
 cases k with
 |inl i=>obtain⟨t,e⟩:=(show∃t,u=Value.int i t from r);subst e;exact vh P w i t
 |inr x=>obtain⟨t,e⟩:=(show∃t,u=Value.str x t from r);subst e;exact vG P w x t
theorem Ox{P:Program}{w:World}{k:cS}{u:Value}(r:RelV (oV k) u):(optKind P w).is k u=true:=by
 cases k with
 |none=>obtain rfl:u=Value.none:=r;rfl
 |some k=>exact CC (P:=P) (w:=w) r
theorem rX{P:Program}{w:World}:∀{ks:List cS}{us:Z6},Vals (ks.map oV) us->ItemsAre (optKind P w) ks us
 |[],_,r=>by rw[List.map_nil]at r;cases r;exact .nil
 |k::ks,_,r=>by
  rw[XH]at r;cases r with
  |cons h t=>exact .cons (Ox h) (rX t)
abbrev KT(H:Hp):List (List cS×V)->List (List cS×Addr×Value)->Prop:=Paired λp q=>p.1=q.1/\H q.2.1=some (.tup (p.1.map oV))/\RelV p.2 q.2.2
theorem KT.val{H:Hp}{kvs:List (List cS×V)}{xs:List (List cS×Addr×Value)}(r:KT H kvs xs)(k:List cS):iL (mU kvs k) ((atKey xs k).map (·.2)):=by
 induction r with
 |nil=>exact True.intro
 | @cons p q ps qs h t ih =>
  obtain⟨h1,_,h2⟩:=h;by_cases e:p.1=k
  ·have e':q.1=k:=h1.symm.trans e;have b:atKey (q::qs) k=some q.2:=by simp[atKey,List.find?_cons,e']
   rw[oA e,b];exact h2
  ·have e':¬q.1=k:=λz=>e (h1.trans z);have b:atKey (q::qs) k=atKey qs k:=by simp[atKey,List.find?_cons,e']
   rw[o_ e,b];exact ih
theorem KT.repl{H:Hp}{kvs:List (List cS×V)}{xs:List (List cS×Addr×Value)}(r:KT H kvs xs)(k:List cS){y:V}{u:Value}(ry:RelV y u) :
  KT H (kvs.map λkv=>if kv.1=k then(kv.1,y)else kv) (xs.map (putAt k u)):=by
 induction r with
 |nil=>exact .nil
 | @cons p q ps qs h t ih =>
  rw[XH,XH];refine .cons ?_ ih;obtain⟨h1,h2,h3⟩:=h;unfold putAt;by_cases e:p.1=k
  ·rw[Xu e,Xu (h1.symm.trans e)];exact⟨h1,h2,ry⟩
  ·rw[Xt e,Xt (λz=>e (h1.trans z))];exact⟨h1,h2,h3⟩
theorem KT.put{H:Hp}{kvs:List (List cS×V)}{xs:List (List cS×Addr×Value)}(r:KT H kvs xs)(k:List cS){b:Addr}{y:V}{u:Value}(hb:H b=some (.tup (k.map oV)))(ry:RelV y u) :
  KT H (putK kvs k y) (storedH xs k b u):=by
 have e:(kvs.any λkv=>decide (kv.1=k))=(atKey xs k).isSome:=by rw[vM,(r.val k).AW,Option.isSome_map]
 unfold putK storedH;rw[e];by_cases q:(atKey xs k).isSome=true
 ·rw[Xu q,Xu q];exact r.repl k ry
 ·rw[Xt q,Xt q];exact Paired.snoc r ⟨rfl,hb,ry⟩
theorem KT.keeps{H H':Hp}{kvs:List (List cS×V)}{xs:List (List cS×Addr×Value)}(r:KT H kvs xs)(ht:∀b ys,H b=some (.tup ys)->H' b=some (.tup ys)):KT H' kvs xs :=
 Paired.Mw r λ_ _ z=>⟨z.1,ht _ _ z.2.1,z.2.2⟩
section
variable{P:Program}{w:World}{H:Hp}{h:Heap}{a:Addr}
theorem Jn{u:HO}(ok:jr P w H h)(e:Rd H a u):cw P w H h a u:=e.ok ok
theorem Ek{kvs:List (Key×V)}(ok:jr P w H h)(e:Rd H a (.dK kvs)):kvs.length<=sizeLine/\(a==sysModules)=false/\∃vs,KV kvs vs/\h.DictOf (bD P w) a vs :=
 show cw P w H h a (.dK kvs) from Jn ok e
theorem cO{kvs:List (Key×V)}(ok:jr P w H h)(e:H a=some (.dK kvs)):kvs.length<=sizeLine/\(a==sysModules)=false/\∃vs,KV kvs vs/\h.DictOf (bD P w) a vs:=Ek ok (.inl e)
theorem zj{ks:List cS}(ok:jr P w H h)(e:H a=some (.tup (ks.map oV))):(tupleKind (optKind P w)).is h ks a:=by obtain⟨_,its,r,o,h1,h2,⟨n,h3⟩,_⟩:=(show cw P w H h a (.tup (ks.map oV)) from ok a _ e);exact⟨o,its.toArray,n,h1,h2,h3,by simpa using rX r⟩
theorem Dp{kvs:List (List cS×V)}(ok:jr P w H h)(e:Rd H a (.dT kvs)):kvs.length<=sizeLine/\(a==sysModules)=false/\
  ∃xs,KT H kvs xs/\h.DictOfH (tupleKind (optKind P w)) a xs:=by
 obtain⟨z,y,xs,r,o,es,ep,h1,h2,h3,h4,h5⟩:=(show cw P w H h a (.dT kvs) from Jn ok e);refine⟨z,y,xs,r,o,es,ep,h1,h2,h3,h4,λx hx=>?_,h5⟩;have all:∀{l:List (List cS×V)}{m:List (List cS×Addr×Value)},KT H l m->∀x∈m,(tupleKind (optKind P w)).is h x.1 x.2.1:=by
  intro l m q;induction q with
  |nil=>intro x hx;exact nomatch hx
  | @cons p q ps qs hq t ih =>
   intro x hx;rcases Xa.mp hx with e|hx
   ·subst e;exact zj ok (by rw[←hq.1];exact hq.2.1)
   ·exact ih x hx
 exact all r x hx
theorem NP{kvs:List (List cS×V)}(ok:jr P w H h)(e:H a=some (.dT kvs)):kvs.length<=sizeLine/\(a==sysModules)=false/\
  ∃xs,KT H kvs xs/\h.DictOfH (tupleKind (optKind P w)) a xs:=Dp ok (.inl e)
end
def EW(H:Hp)(a:Addr)(y:V)(r:Option V):Prop :=
 (∃kvs k,Rd H a (.dK kvs)/\y=kV k/\r=mU kvs k)\/∃kvs k b,Rd H a (.dT kvs)/\y=.ref b/\H b=some (.tup (k.map oV))/\r=mU kvs k
def AB(H:Hp)(a:Addr)(y v:V)(H':Hp):Prop :=
 (∃kvs k,H a=some (.dK kvs)/\y=kV k/\kvs.length<sizeLine/\H'=upd H a (.dK (putK kvs k v)))\/
 ∃kvs k b,H a=some (.dT kvs)/\y=.ref b/\H b=some (.tup (k.map oV))/\kvs.length<sizeLine/\H'=upd H a (.dT (putK kvs k v))
theorem EW.t{H:Hp}{a b:Addr}{kvs:List (List cS×V)}{k:List cS}(e:H a=some (.dT kvs))(eb:H b=some (.tup (k.map oV))):EW H a (.ref b) (mU kvs k):=.inr ⟨kvs,k,b,.inl e,rfl,eb,rfl⟩
theorem AB.t{H:Hp}{a b:Addr}{kvs:List (List cS×V)}{k:List cS}{v:V}(e:H a=some (.dT kvs))(eb:H b=some (.tup (k.map oV)))(hl:kvs.length<sizeLine) :
  AB H a (.ref b) v (upd H a (.dT (putK kvs k v))):=.inr ⟨kvs,k,b,e,rfl,eb,hl,rfl⟩
section
variable{X:Cx}{ac:Z1}{σ:St}{H:Hp}{s:Shared}{a:Addr}{y v:V}{u r:Value}{o:Option V}{A:Around}{E:Z0}
theorem Inv.big(I:Inv X ac σ H s):sysModules<s.heap.objs.size:=by have h:mainGlobals<s.heap.objs.size:=(I.mod.glob.keeps I.bk).lt;exact Nat.lt_trans (by decide) h
theorem z_{h':Heap}{t':Nat}{ob:HO}(I:Inv X ac σ H s)(mu:Ny (H a))(hs:Heap.SameBut a s.heap h')(he:∃q,h'.get? a=some q)(new:cw X.prog X.w (upd H a ob) h' a ob) :
  Inv X ac σ (upd H a ob) {s with heap:=h',toks:=t'} :=
 I.write (x:=a) (e:=a) mu (.inl rfl) (λb q hb z=>(hs.2 b hb).trans z) he new
theorem KD{P:Program}{w:World}{H':Hp}{h':Heap}{kvs:List (Key×V)}{vs:List (Key×Value)}(z:kvs.length<=sizeLine)(hd:(a==sysModules)=false)(rel:KV kvs vs)(dd:h'.DictOf (bD P w) a vs) :
  cw P w H' h' a (.dK kvs):=⟨z,hd,vs,rel,dd⟩
theorem A9{H':Hp}{Q:Z4}(hu:A.units+1<cLine)(I:Inv X ac σ H s)(g:AB H a y v H')(ry:RelV y u)(rv:RelV v r)(h:∀s',Inv X ac σ H' s'->Q () s') :
  wpAny (model X.prog X.w) A (setItem (.ref a) u r) Q E s:=by
 rcases g with⟨kvs,k,e,ey,l,eH⟩|⟨kvs,k,b,e,ey,eb,l,eH⟩
 ·subst ey eH;obtain⟨z,hd,vs,rel,dd⟩:=cO I.hok e;have hz:vs.length<=sizeLine:=by rw[←rel.length];exact z
  have hl:(putK kvs k v).length<=sizeLine:=by have:=ng kvs k v;omega
  refine wpAny_setItem_pairs (hsz:=hz) (CC ry) dd λh' O6 hs=>h _ ?_;have he:∃q,h'.get? a=some q:=let ⟨q,_,_,hq,_⟩:=O6;⟨q,hq⟩
  exact z_ I (by rw[e];exact True.intro) hs he (KD hl hd (rel.put k rv) O6)
 ·subst ey eH;cases(show u=Value.ref b from ry);obtain⟨z,hd,xs,rel,dd⟩:=NP I.hok e;have hz:xs.length<=sizeLine:=by rw[←Paired.length rel];exact z
  have hl:(putK kvs k v).length<=sizeLine:=by have:=ng kvs k v;omega
  refine wpAny_setItem_heap (hsz:=hz) (tupleKind_room_in1 hu) (zj I.hok eb) dd λh' O6 hs=>h _ ?_;obtain⟨q,es,ep,hq,h2,h3,h4,_,h5⟩:=O6;refine z_ I (by rw[e];exact True.intro) hs ⟨q,hq⟩ ⟨hl,hd,_,(rel.put k eb rv).keeps λc ys ec=>?_,q,es,ep,hq,h2,h3,h4,h5⟩;rw[aI (Nu ec e (λz=>nomatch z))];exact ec
end
def ND(td ty tv:TE):TS:=λD σ H=>tv σ H λv H1=>td σ H1 λx H2=>ty σ H2 λy H3=>∃a H4,x=.ref a/\AB H3 a y v H4/\D.nx σ H4
section
variable{X:Cx}{o i e value:Expr}{pos pos' tpos:Pos}{td ty tv:TE}
theorem Aw(hu:X.A.units+1<cLine)(ho:PE X o td)(hi:PE X i ty)(hv:PE X value tv)(hs:swapsWith value (some (.Subscript o i pos')) pos.line X.env=pure false) :
  PS X (.Assign [.Subscript o i pos'] value pos) (ND td ty tv):=by
 intro ac s σ H D I h;refine wpAny_Assign_Subscript (bZ (hv ac s σ H _ I h) λr s1 ⟨v,H1,I1,rv,q1⟩=>bZ (ho ac s1 σ H1 _ I1 q1) λu s2 ⟨x,H2,I2,rx,q2⟩=>bZ (hi ac s2 σ H2 _ I2 q2) λiv s3 zz=>?_) hs;obtain⟨y,H3,I3,ry,a,H4,ex,g,q3⟩:=zz;subst ex;obtain rfl:u=Value.ref a:=rx;exact A9 hu I3 g ry rv λs4 I4=>⟨σ,H4,I4,q3⟩
end
theorem C_{P:Program}{w:World}{H:Hp}(h:Heap)(hb:sysModules<h.objs.size):cw P w H (h.push {cls:=.type "dict",data:=.dict #[]}) h.objs.size (.dT []) :=
 ⟨Xe _,beq_eq_false_iff_ne.mpr (Ne.symm (Xd hb)),[],.nil,_,#[],0,WQ _ rfl,⟨rfl,rfl,rfl⟩,rfl,rfl,List.nodup_nil⟩
def Lb:TE:=λ_ H Q=>∀p,H p=none->Q (.ref p) (upd H p (.dT []))
section
variable{X:Cx}{pos:Pos}
theorem wK:PE X (.Dict [] [] pos) Lb:=λac s σ H Q I h =>
 wpAny_Dict_empty ⟨.ref s.heap.objs.size,_,I.laid (a:=s.heap.objs.size) (o:=.dT []) (t':=s.toks) (λ_ _ q=>WN _ q) (WR _) (C_ s.heap I.big),rfl,h _ (I.hok.fresh (WR _))⟩
end
structure M2(X:Cx)(o:Expr)(m:Str)(apos:Pos)(e f:Expr)(cpos:Pos):Prop where
 base:attributeBase o m X.env (eval o X.env)=eval o X.env
 few:((backTo cpos (starEach [e,f] X.env)).all (λx=>!x.1)&&(backToKw cpos (keywordEach [] X.env)).all (λx=>x.1.isSome)
  && decide (([e,f]:List Expr).length+([]:List Keyword).length+(if([]:List Keyword).isEmpty then 0 else 1)<30))=true
 line:(apos.endLine==cpos.line)=true
 trees:backTo cpos (starEach [e,f] X.env)=[(false,eval e X.env),(false,eval f X.env)]
def RY(H:Hp)(a:Addr):Prop:=(∃kvs,Rd H a (.dK kvs))\/∃kvs,Rd H a (.dT kvs)
theorem LL{X:Cx}{ac:Z1}{σ:St}{H:Hp}{s:Shared}{a:Addr}(I:Inv X ac σ H s)(d:RY H a) :
  s.TypeIs (.ref a) "dict"/\(∀b,Value.ref a=.ref b->∃ob,s.heap.get? b=some ob/\ob.dict=none)/\(a==sysModules)=false:=by
 rcases d with⟨kvs,e⟩|⟨kvs,e⟩
 ·obtain⟨_,hd,vs,_,dd⟩:=Ek I.hok e;refine⟨dd.typeIs,λb q=>?_,hd⟩;cases q;obtain⟨ob,_,_,h1,h2,_⟩:=dd;exact⟨ob,h1,h2.2.1⟩
 ·obtain⟨_,hd,xs,_,dd⟩:=Dp I.hok e;refine⟨dd.typeIs,λb q=>?_,hd⟩;cases q;obtain⟨ob,_,_,h1,h2,_⟩:=dd;exact⟨ob,h1,h2.2.1⟩
section
variable{X:Cx}{ac:Z1}{σ:St}{H:Hp}{s:Shared}{a:Addr}{y d:V}{u r:Value}{o:Option V}{A:Around}{E:Z0}
theorem Kh{Q:Z0}(hu:A.units+1<cLine)(I:Inv X ac σ H s)(g:EW H a y o)(ry:RelV y u)(rd:RelV d r)(h:∀w' s',Inv X ac σ H s'->RelV (o.getD d) w'->Q w' s') :
  wpAny (model X.prog X.w) A (call (.builtin "dict.get") [.ref a,u,r]) Q E s:=by
 rcases g with⟨kvs,k,e,ey,l⟩|⟨kvs,k,b,e,ey,eb,l⟩
 ·subst ey;obtain⟨z,hd,vs,rel,dd⟩:=Ek I.hok e;refine call_meetsIn PySem.F.slot_dict_get dd.typeIs PySem.F.entry_dict_get (PySem.F.args_dict_get_3 _ _ _) (meets_dict_get_default (bD X.prog X.w) a (CC ry) hd r) ⟨_,dd.mapOf,h _ _ (I.tok _) ?_⟩;rw[l];exact(rel.val k).getD rd
 ·subst ey;cases(show u=Value.ref b from ry);obtain⟨z,hd,xs,rel,dd⟩:=Dp I.hok e;refine call_meetsIn PySem.F.slot_dict_get dd.typeIs PySem.F.entry_dict_get (PySem.F.args_dict_get_3 _ _ _) (meetsH_dict_get_default (tupleKind (optKind X.prog X.w)) a b hd r) ⟨tupleKind_room_in1 hu,k,xs,zj I.hok eb,dd,h _ _ (I.tok _) ?_⟩;rw[l];exact(rel.val k).getD rd
end
def JY(td ty tx:TE):TE:=λσ H Q=>td σ H λx H1=>∃a,x=.ref a/\RY H1 a/\ty σ H1 λy H2=>tx σ H2 λz H3=>∃o,EW H3 a y o/\Q (o.getD z) H3
section
variable{X:Cx}{o e f:Expr}{apos cpos:Pos}{td ty tx:TE}
theorem DH(hu:X.A.units+1<cLine)(ho:PE X o td)(he:PE X e ty)(hf:PE X f tx)(m:M2 X o "get" apos e f cpos):PE X (.Call (.Attribute o "get" apos) [e,f] [] cpos) (JY td ty tx):=by
 intro ac s σ H Q I h;refine wpAny_Call_method m.base m.few m.line PySem.F.plainAttrs_dict PySem.F.slot_dict_get PySem.F.type_dict_get (bZ (ho ac s σ H _ I h) λu s1 zz=>?_);obtain⟨x,H1,I1,rx,a,ex,d,q1⟩:=zz;subst ex;obtain rfl:u=Value.ref a:=rx;obtain⟨t1,t2,_⟩:=LL I1 d;refine⟨t1,t2,?_⟩;rw[m.trees];refine Calls.callWith_builtin rfl (Calls.evalArgs_plain (Calls.spliced_cons (bZ (he ac s1 σ H1 _ I1 q1) λiv s2 ⟨y,H2,I2,ry,q2⟩ =>
  Calls.spliced_cons (bZ (hf ac s2 σ H2 _ I2 q2) λfv s3 ⟨z,H3,I3,rz,ov,g,q3⟩=>Calls.spliced_nil ?_))))
 exact Kh hu I3 g ry rz λw' s4 I4 vg=>⟨_,H3,I4,vg,q3⟩
end
end L2
namespace My
open PySem L2
theorem Iu{n:Nat}{x:Wk}{h:Hd}{f:Fl}{pl:List Int}(hx:b9 x=true):bV (n+1) h f pl x=va (bV n) x h f pl (cP x) 0 [] f:=by
 rw[←yE (n+1),←yE n];cases x with
 |one x=>cases hx
 |both p q=>rfl
 |meet c d p q=>rfl
theorem C6{n:Nat}{x:Wk}{h:Hd}{f:Fl}{pl:List Int}(hx:b9 x=false):bV n h f pl x=me x h f pl [] f:=by rw[jf hx,zl hx]
def rT:Nat->List Wk->Prop
 | 0,ws=>∀x∈ws,K5 x/\Dj x
 |n+1,ws=>∀x∈ws,(K5 x/\Dj x)/\∀p∈cP x,rT n p
theorem rT.ok{n:Nat}{ws:List Wk}(h:rT n ws){x:Wk}(hx:x∈ws):K5 x/\Dj x:=by
 cases n with
 |zero=>exact h x hx
 |succ n=>exact(h x hx).1
def pk(H:Hp)(u:Addr):Res->Prop
 | .ok h f=>∃a b,H u=some (.tup [.str "head",.ref a,.ref b])/\eN H a h/\ub H b f
 | .no p s=>∃a,H u=some (.tup [.str "no",.ref a,.str s])/\H a=some (.tup (p.map V.int))
theorem pk.keep{H H':Hp}{u:Addr}{r:Res}(k:aD H H')(h:pk H u r):pk H' u r:=by
 cases r with
 |ok h' f=>obtain⟨a,b,h1,h2,h3⟩:=h;exact⟨a,b,k _ _ h1,k _ _ h2,k _ _ h3⟩
 |no p s=>obtain⟨a,h1,h2⟩:=h;exact⟨a,k _ _ h1,k _ _ h2⟩
abbrev TD:=List (List cS×V)
theorem vV{kvs:TD}{k:List cS}{v:V}:(putK kvs k v).length<=kvs.length+1:=by
 unfold putK;split
 ·rw[WV];omega
 ·rw[WW];simp
def kI(pi:List Int):List cS:=pi.map λi=>some (.inl i)
def l7(kv:TD)(t:Tr):TD:=t.foldl (λkv e=>putK kv (kI e.1) (.bl e.2)) kv
theorem lT{kv:TD}{t u:Tr}:l7 kv (t++u)=l7 (l7 kv t) u:=List.foldl_append
theorem HK(pi:List Int):(kI pi).map oV=pi.map V.int:=by rw[kI,List.map_map];rfl
theorem eU.rN{fd:Addr}{H H':Hp}{kvs:TD}(g:eU fd H H')(h:H fd=some (.dT kvs)):aD H H':=λa ys e=>g _ _ (λz=>by rw[z,h]at e;cases e) e
theorem aD.Rk{H H':Hp}{L:Addr}{kvs:TD}{o:HO}(k:aD H H')(h:H' L=some (.dT kvs)):aD H (upd H' L o):=λa ys e=>by have:=k _ _ e;rw[aI (λz=>by rw[z,h]at this;cases this)];exact this
structure Q2(n:Nat)(H:Hp)(b p pl g fd:Addr)(h:Hd)(ws:List Wk)(pi:List Int)(fl:Fl)(kvs:TD):Prop where
 hd:eN H b h
 pp:jP n H p ws
 pl:H pl=some (.tup (pi.map V.int))
 fg:ub H g fl
 fd:H fd=some (.dT kvs)
 ok:uW n ws
 dr:rT n ws
 six:h.length<=6
 pz:pi.length+2*n<=100
 kz:kvs.length+bnd n<=100000
def pQ:Nat->Sp
 | 0=>λ_ _ _ _=>False
 |n+1=>λvs H Q _=>∃(b p pl g fd:Addr)(h:Hd)(ws:List Wk)(pi:List Int)(fl:Fl)(kvs:TD),vs=[.ref b,.ref p,.ref pl,.ref g,.ref fd]/\Q2 n H b p pl g fd h ws pi fl kvs/\
  ∀(u:Addr)(H':Hp)(kvs':TD),eU fd H H'->H' fd=some (.dT kvs')->kvs'.length<=kvs.length+bnd n->kvs'=l7 kvs (TL n pi 0 h fl ws)->pk H' u (putL (bV n) pi 0 h fl ws)->Q (.ref u) H'
theorem Gv{x:Wk}(h:K5 x):Nm x:=by
 cases x with
 |one x=>exact h.pos
 |both p q=>intro c hc;cases hc
 |meet c d p q=>intro c hc;cases hc
def Kq(a b:Fl):List Bool:=[a.o||b.o,a.j||b.j,a.f||b.f,a.w||b.w,a.l||b.l]
def NG(a:Fl):List V:=[.bl a.o,.bl a.j,.bl a.f,.bl a.w,.bl a.l]
theorem Nf{a b:Fl}:∀(i:Nat)(x y:V),(NG a)[i]? = some x->(NG b)[i]? = some y->∃p q,x=.bl p/\y=.bl q/\(Kq a b)[i]? = some (p||q)
 | 0,x,y,h1,h2=>by cases h1;cases h2;exact⟨_,_,rfl,rfl,rfl⟩
 | 1,x,y,h1,h2=>by cases h1;cases h2;exact⟨_,_,rfl,rfl,rfl⟩
 | 2,x,y,h1,h2=>by cases h1;cases h2;exact⟨_,_,rfl,rfl,rfl⟩
 | 3,x,y,h1,h2=>by cases h1;cases h2;exact⟨_,_,rfl,rfl,rfl⟩
 | 4,x,y,h1,h2=>by cases h1;cases h2;exact⟨_,_,rfl,rfl,rfl⟩
 |n+5,x,y,h1,h2=>by cases h1
theorem Es{H H':Hp}{L u:Addr}{as:Z8}{es:List Hd}{h:Hd}(hE:gy H L as es)(k:aD H H')(hu:eN H' u h)(hL:H' L=some (.lst ((as++[u]).map V.ref))):gy H' L (as++[u]) (es++[h]):=by
 refine⟨hL,by rw[WW,WW,hE.len];rfl,λi a r e1 e2=>?_⟩;by_cases hi:i<as.length
 ·rw[Xh hi]at e1;rw[Xh (by rw[←hE.len];exact hi)]at e2;exact k _ _ (hE.at_ i a r e1 e2)
 ·have hi':i=as.length:=by have:=(W8.mp e1).1;rw[WW]at this;simp at this;omega
  rw[hi',Xg (WR _),Nat.sub_self]at e1;rw[hi',hE.len,Xg (WR _),Nat.sub_self]at e2;cases e1;cases e2;exact hu
theorem CL{n:Nat}{H:Hp}{a:Addr}{x:Wk}(h:dv (n+1) H a x)(hb:b9 x=true):∃(vs:List V)(b c:Addr)(p q:List Wk),H a=some (.tup (vs++[.ref b,.ref c]))/\cP x=[p,q]/\jP n H b p/\jP n H c q:=by
 cases x with
 |one x=>cases hb
 |both p q=>obtain⟨b,c,bs,cs,h1,h2,h3⟩:=h;exact⟨[.str "both"],b,c,p,q,h1,rfl,⟨bs,h2⟩,⟨cs,h3⟩⟩
 |meet c d p q=>obtain⟨b,e,bs,es,h1,h2,h3⟩:=h;exact⟨[.str "meet",.int c,.int d],b,e,p,q,h1,rfl,⟨bs,h2⟩,⟨es,h3⟩⟩
theorem HJ{vs:List V}{u v:V}:jo (vs++[u,v]) (-2)=some u:=by
 unfold jo w_;have hl:(vs++[u,v]).length=vs.length+2:=by simp
 rw[hl,Xt (by decide)];rw[Xu (by omega)];have:((-2:Int)+((vs.length+2:Nat):Int)).toNat=vs.length:=by omega
 first
  | (rw[this];simp)
  |simp
theorem Ac{n:Nat}{pl:List Int}:∀{ws:List Wk}{i:Nat}{h:Hd}{f:Fl}{h':Hd}{f':Fl},h.length<=6->putL (bV n) pl i h f ws=.ok h' f'->h'.length<=6
 |[],_,_,_,_,_,h6,e=>by cases e;exact h6
 |x::ws,i,h,f,h',f',h6,e=>by
  obtain⟨h1,f1,e1,e2⟩:=fG e;refine Ac ?_ e2;have key:∀es,iI x h f (pl++[(i:Int)]) es=.ok h1 f1->h1.length<=6:=by
   intro es e;unfold iI at e;split at e
   ·cases e
   ·next hn=>cases e;exact(tq hn).2
  cases hb:b9 x with
  |false=>rw[jf hb]at e1;exact key _ e1
  |true =>
   cases n with
   |zero=>exact key _ e1
   |succ n =>rw[qi hb]at e1;obtain⟨p,q,hpq⟩:=uT hb;rw[hpq]at e1;obtain⟨_,_,_,e1⟩:=fG e1;obtain⟨_,_,_,e1⟩:=fG e1;exact key _ e1
inductive TY(a b c d e:V)(σ:St):Prop
 |mk (o5 o6 o7 o8 o9 lr lx I0:Option V) (h:σ=[some a,some b,some c,some d,some e,o5,o6,o7,o8,o9,lr,lx,I0])
inductive SM(a b c d e f g h i j:V)(σ:St):Prop
 |mk (lr lx I0:Option V) (h:σ=[some a,some b,some c,some d,some e,some f,some g,some h,some i,some j,lr,lx,I0])
inductive VQ(n:Nat)(p pl fd:Addr)(H:Hp)(h:Hd)(fl:Fl)(ws:List Wk)(pi:List Int)(kvs:TD)(i:Nat)(σ:St)(H':Hp):Prop
 |mk (bi gi:Addr) (hh:Hd) (fi:Fl) (kv:TD) (st:TY (.ref bi) (.ref p) (.ref pl) (.ref gi) (.ref fd) σ) (h1:eN H' bi hh) (h2:ub H' gi fi) (h3:hh.length<=6) (h4:eU fd H H') (h5:H' fd=some (.dT kv)) (h6:kv.length<=kvs.length+i*cW n) (h7:putL (bV n) pi 0 h fl ws=putL (bV n) pi i hh fi (ws.drop i)) (h8:∃t,kv=l7 kvs t/\TL n pi 0 h fl ws=t++TL n pi i hh fi (ws.drop i))
inductive Vw(n:Nat)(bi p pl gi fd:Addr)(i:Nat)(a u2 Le:Addr)(H4:Hp)(x:Wk)(hh:Hd)(fi:Fl)(h:Hd)(fl:Fl)(ws:List Wk)(pi:List Int)(kv kvs:TD)(σ:St)(H6:Hp):Prop
 |mk (as:Z8) (es:List Hd) (af:Addr) (fa:Fl) (xK:TD) (st:SM (.ref bi) (.ref p) (.ref pl) (.ref gi) (.ref fd) (.int (i:Nat)) (.ref a) (.ref u2) (.ref Le) (.ref af) σ) (h1:gy H6 Le as es) (h2:b9 x=true->es.length=2) (h3:∀e∈es,e.length<=6) (h4:ub H6 af fa) (h5:aD H4 H6) (h6:eU fd H4 H6) (h7:H6 fd=some (.dT xK)) (h8:xK.length<=kv.length+cW n) (h9:bV n hh fi (pi++[(i:Int)]) x=me x hh fi (pi++[(i:Int)]) es fa) (h10:∃t,xK=l7 kvs t/\TL n pi 0 h fl ws=t++iF (bV n hh fi (pi++[(i:Int)]) x) λh' f'=>TL n pi (i+1) h' f' (ws.drop (i+1)))
inductive TF(n:Nat)(bi p pl gi fd:Addr)(i:Nat)(a u2 Le:Addr)(H4:Hp)(x:Wk)(hh:Hd)(fi:Fl)(h:Hd)(fl:Fl)(ws:List Wk)(pi:List Int)(kv kvs:TD)(j:Nat)(σ:St)(H6:Hp):Prop
 |mk (as:Z8) (es:List Hd) (af:Addr) (fa:Fl) (xK:TD) (st:SM (.ref bi) (.ref p) (.ref pl) (.ref gi) (.ref fd) (.int (i:Nat)) (.ref a) (.ref u2) (.ref Le) (.ref af) σ) (h1:gy H6 Le as es) (h2:es.length=j) (h3:∀e∈es,e.length<=6) (h4:ub H6 af fa) (h5:aD H4 H6) (h6:eU fd H4 H6) (h7:H6 fd=some (.dT xK)) (h8:∀m,n=m+1->xK.length<=kv.length+1+j*bnd m) (h9:j=0->xK.length<=kv.length+1/\es=[]/\fa=fi)
  (h10:∀m,n=m+1->b9 x=true->bV n hh fi (pi++[(i:Int)]) x=va (bV m) x hh fi (pi++[(i:Int)]) ((cP x).drop j) j es fa) (h11:∃t,xK=l7 kvs t/\TL n pi 0 h fl ws=t++(Kf n hh fi (pi++[(i:Int)]) x j++iF (bV n hh fi (pi++[(i:Int)]) x) λh' f'=>TL n pi (i+1) h' f' (ws.drop (i+1))))
abbrev i7:Stmt:=top 78
theorem ck:ay ["_law_head","_law_pipe_here","_law_place","_law_flags_here","_law_found","_law_number_here","_law_worker_here","_law_here","_law_ends","_law_after","_law_branch","_law_inner","_law_why_here"] ZW (ar i7):=fs
variable{P:Program}{w:World}{K:XO}{mg:Z2}{base:Heap}
theorem ua{n L:Nat}(B:kf mg)(B2:iY mg)(B3:A0 mg)(mE:mg "enumerate"=none)(F:FA K mg "_law_put" i7)
  (gu:bc bf P w K mg base (L+5) "_law_put" ZW (pQ n))
  (xX:bc bf P w K mg base 4 "_law_why" ["_law_worker_here","_law_head","_law_flags_here","_law_ends"] (En n))
  (ue:bc bf P w K mg base 2 "_law_flags" ["_law_worker_here","_law_head","_law_flags_here"] (zG n))
  (e9:bc bf P w K mg base 2 "_law_head_next" ZK (JR n)) :
  bc bf P w K mg base (L+6) "_law_put" ZW (pQ (n+1)):=by
 refine F.ok ck λf cdv A outer s H vs Q E hr h=>?_;have hu:=iO hr;have hu1:=jD hr;obtain⟨b,p,pl,g,fd,h,ws,pi,fl,kvs,rfl,hG,q⟩:=h;refine⟨_,(aq (fN PassesOwn.never rfl (pB rfl mE (ae (pv 1) ah)) (cA rfl (aA (bJ (i:=5) ck.nd rfl (Xw rfl)) (aA (bJ (i:=6) ck.nd rfl (Xw rfl)) bT)))
    (aq (aK (i:=7) ck.nd rfl (Xw rfl) (aF bN (pv 2) (aH (ae (pv 5) ah))))
     (aq (Aw hu1 (pv 4) (pv 7) (az K (pv 3) ai) rfl)
     (aq (aK (i:=8) ck.nd rfl (Xw rfl) (aP ah))
     (aq (aK (i:=9) ck.nd rfl (Xw rfl) (pv 3))
     (aq (fN PassesOwn.never rfl (dA rfl B.range (ae (aF mr ai (aU cB rfl B2.int XB (ae (f_ cu (az K (pv 6) ai) (aP (ae ao (ae ao ah))) rfl) ah))) ah)) (bJ (i:=10) ck.nd rfl (Xw rfl))
      (aq (aK (i:=11) ck.nd rfl (Xw rfl) (ax gu hr (ae (pv 0) (ae (az K (pv 6) (aF bM (pv 10) ai)) (ae (aF bN (pv 7) (aH (ae (pv 10) ah))) (ae (pv 3) (ae (pv 4) ah)))))))
       (aN (aX aQ (az K (pv 11) ai) ao) (pv 11)
       (aq (fY (lF PySem.F.plainAttrs_list PySem.F.slot_list_append PySem.F.type_list_append cZ (pv 8) (ae (az K (pv 11) ai) ah)))
       (bA (aK (i:=9) ck.nd rfl (Xw rfl) (aU bE rfl B.tuple XA (ae (bz (N':=["_law_one","_law_other_here"]) (src:=[none,none]) rfl (ba.j5 (by kernel_rfl)) (F8 rfl B3.zip (ae (pv 9) (ae (az K (pv 11) ai) ah))) (g:=(ja K 2 (bS (bC 0) (bS (bC 1) i5)))) (λcl C s H fp=>(cA rfl (aA (eE (i:=0)) (aA (eE (i:=1)) bT)))) (λcl C s H fp=>aY) (te:=(vc (bB 0) (bB 1))) (λcl C s H fp=>(gm (ji 0) (c9 (ji 1))))) ah))))))))
     (aq (aK (i:=12) ck.nd rfl (Xw rfl) (ax xX hr (ae (pv 6) (ae (pv 0) (ae (pv 3) (ae (pv 8) ah))))))
     (aN (aX nu (pv 12) ao) (aH (ae ao (ae (pv 7) (ae (pv 12) ah))))
     (aq (aK (i:=3) ck.nd rfl (Xw rfl) (ax ue hr (ae (pv 6) (ae (pv 0) (ae (pv 9) ah)))))
     (bA (aK (i:=0) ck.nd rfl (Xw rfl) (ax e9 hr (ae (pv 6) (ae (pv 0) (ae (pv 8) ah)))))))))))))))
   (aq (Aw hu1 (pv 4) (aF bN (pv 2) (aH (ae (aW bt rfl B.len XM (ae (pv 1) ah)) ah))) (az K (pv 3) ai) rfl)
   (av (aH (ae ao (ae (pv 0) (ae (pv 3) ah))))))),?_⟩
 obtain⟨hb,⟨bs,hI⟩,hpl,hfg,hfd,hok,hdr,Lx,hpz,hkz⟩:=hG;have hlb:(bs.map V.ref).length=ws.length:=by rw[WV,hI.len]
 have hcw:=EN n;have hw9:=hok.len;have hbn:bnd n=9*cW n+1:=rfl;refine⟨_,rfl,p,rfl,⟨_,aJ.of hI.tup⟩,?_⟩;refine mn (xs:=bs.map V.ref) (VQ n p pl fd H h fl ws pi kvs)
  ⟨b,g,h,fl,kvs,⟨_,_,_,_,_,_,_,_,rfl⟩,hb,hfg,Lx,eU.of (aM.refl _),hfd,Nat.le_add_right _ _,rfl,[],rfl,rfl⟩ ?_ ?_ ?_
 ·rintro i σ H' _ ⟨bi,gi,hh,fi,kv,_,_,_,_,gr,_⟩;exact aJ.of (gr.rN hfd _ _ hI.tup)
 ·rintro i v σ H' T hx ⟨bi,gi,hh,fi,kv,⟨o5,o6,o7,o8,o9,lr,lx,I0,rfl⟩,hbi,hgi,h6,gr,BR,N0,hrun,tr,hkv,htr⟩ hT;obtain⟨a,x,rfl,ex,ha⟩:=hI.get hx;have Pz:i<9:=by have:=(W8.mp ex).1;omega
  have hic:i*cW n+cW n<=9*cW n:=by have:=Nat.mul_le_mul_right (cW n) Pz;rw[Nat.succ_mul]at this;exact this
  have Ow:=hok.ok (W4 ex);have QC:=hdr.ok (W4 ex);rw[gO ex]at hrun htr;rw[Ax]at htr;have hrun:putL (bV n) pi 0 h fl ws=fM (bV n hh fi (pi++[(i:Int)]) x) λh' f'=>putL (bV n) pi (i+1) h' f' (ws.drop (i+1)):=hrun;have sT:=aj hT (.tup [.int (i:Nat),.ref a]);refine⟨T,_,rfl,aJ.of ag,rfl,_,_,rfl,ak ⟨_,_,rfl,ak ⟨rfl,?_⟩⟩⟩;dsimp only;refine⟨_,rfl,_,rfl,dz,λu1 kg=>?_⟩;have sU:=aj kg (.tup [.int (i:Nat)]);refine⟨pl,u1,_,_,rfl,rfl,sU _ _ (sT _ _ (gr.rN hfd _ _ hpl)),ag,by rw[WV];exact WS (show _+1<=1000 by omega) (by decide),λu2 H2 L8 hu2=>ak ?_⟩;rw[Bu]at hu2;have s2:=sT.trans (sU.trans L8);dsimp only;refine⟨_,rfl,gi,_,4,_,rfl,rfl,aJ.of (s2 _ _ hgi),rfl,_,rfl,_,rfl,fd,_,rfl,AB.t (k:=kI (pi++[(i:Int)])) (s2 _ _ BR) (by rw[HK];exact hu2) (WY (show kv.length<=100000 by omega) (by decide)),?_⟩;have LQ:(putK kv (kI (pi++[(i:Int)])) (.bl fi.l)).length<=kv.length+1:=vV;have JM:putK kv (kI (pi++[(i:Int)])) (.bl fi.l)=l7 kvs (tr++[(pi++[(i:Int)],fi.l)]):=by rw[hkv,lT];rfl
  revert LQ JM;generalize putK kv (kI (pi++[(i:Int)])) (.bl fi.l)=B0;intro LQ JM;have g4:eU fd H' (upd H2 fd (.dT B0)):=(eU.of s2).put;have v_:upd H2 fd (.dT B0) fd=some (.dT B0):=ag;have xi:upd H2 fd (.dT B0) u2=some (.tup ((pi++[(i:Int)]).map V.int)):=by rw[aI (λz=>by have:=s2 _ _ BR;rw[←z,hu2]at this;cases this)];exact hu2
  revert g4 v_ xi;generalize upd H2 fd (.dT B0)=H4;intro g4 v_ xi;have EC:aD H' H4:=g4.rN BR;have LS:aD H H4:=(gr.rN hfd).trans EC;refine⟨Xe _,λLe hL=>ak ?_⟩;have Mk:Le≠fd:=λz=>by rw[z,v_]at hL;cases hL
  dsimp only;refine⟨_,rfl,ak ?_⟩;dsimp only;refine jY (Vw n bi p pl gi fd i a u2 Le H4 x hh fi h fl ws pi kv kvs) (λT2 hT2=>?_) ?_
  ·have sL:=aj hL (.lst []);have haL:=ha.keep (LS.trans (aD.of sL));obtain⟨xs,hxs⟩:=haL.first;refine⟨_,rfl,a,_,0,_,rfl,rfl,aJ.of hxs,au (j:=0) rfl,cN,λR hR=>⟨R,_,rfl,.inl (aZ.of ag),rfl,rfl,.inr ⟨_,rfl,?_⟩⟩⟩;show rI GZ _ (.int 2) (.int (if inV (.str x.nm) CK=true then 1 else 0)) _ _;rw[zR];have sR:=aj hR (.lst [V.str "both",.str "meet"]);have s5:=sL.trans sR;have PH:gy (upd (upd H4 Le (.lst [])) R (.lst [V.str "both",.str "meet"])) Le [] []:=⟨sR _ _ ag,rfl,λi a r e=>by cases e⟩;revert s5 PH;generalize upd (upd H4 Le (.lst [])) R (.lst [V.str "both",.str "meet"])=H5;intro s5 PH;have hm:∃m:Int,(2:Int)*(if b9 x=true then 1 else 0)=m/\0<=m/\m<=2/\(b9 x=false->m=0)/\(b9 x=true->m=2):=by
    cases b9 x
    ·exact⟨0,rfl,by decide,by decide,λ_=>rfl,λz=>by cases z⟩
    ·exact⟨2,rfl,by decide,by decide,λz=>(by cases z),λ_=>rfl⟩
   obtain⟨mm,em,m0,m2,mf,mt⟩:=hm;refine⟨2,_,rfl,rfl,.inl ⟨by decide,by decide⟩,_,rfl,?_⟩;rw[em];refine⟨(ke m0 (by omega)).1,(ke m0 (by omega)).2,?_⟩;refine gj (n:=mm.toNat) (TF n bi p pl gi fd i a u2 Le H4 x hh fi h fl ws pi kv kvs)
    ⟨[],[],gi,fi,B0,⟨_,_,_,rfl⟩,PH,rfl,λe he=>(by cases he),s5 _ _ (EC _ _ hgi),aD.of s5,eU.of s5,s5 _ _ v_,λm _=>(by rw[Nat.zero_mul];exact LQ),λ_=>⟨LQ,rfl,rfl⟩,λm e hb'=>(by subst e;exact Iu hb'),tr++[(pi++[(i:Int)],fi.l)],JM,(by rw[htr,Jd];simp)⟩ ?_ ?_
   ·rintro j σ H6 hj ⟨as,es,af,fa,xK,⟨lr,lx,I0,rfl⟩,Ku,hel,hez,hfa,rL,g6,yS,OD,_,dD,t6,LN,nZ⟩;have hbr:b9 x=true:=by
     cases hq:b9 x with
     |true=>rfl
     |false=>rw[mf hq]at hj;exact Xs hj (Nat.not_lt_zero _)
    have hj2:j<2:=by rw[mt hbr]at hj;exact hj
    obtain⟨m,rfl⟩ :∃m,n=m+1:=by
     cases n with
     |zero=>rw[KR ha]at hbr;cases hbr
     |succ m=>exact⟨m,rfl⟩
    have OD:=OD m rfl;have hcs:=n9 m;have U3:j*bnd m+bnd m<=2*bnd m:=by have:=Nat.mul_le_mul_right (bnd m) hj2;rw[Nat.succ_mul]at this;exact this
    have dD:=dD m rfl hbr;obtain⟨vs,c0,c1,p0,q0,hav,hpq,VJ,Tx⟩:=CL ha hbr;have Ud:∃(cj:Addr)(pj:List Wk),jo (vs++[.ref c0,.ref c1]) ((j:Int)-2)=some (.ref cj)/\jP m H cj pj/\(cP x)[j]? = some pj:=by
     rw[hpq];match j,hj2 with
     | 0,_=>exact⟨c0,p0,HJ,VJ,rfl⟩
     | 1,_ =>refine⟨c1,q0,?_,Tx,rfl⟩;have:=wz (vs++[V.ref c0]) (V.ref c1);rw[List.append_assoc]at this;exact this
    obtain⟨cj,pj,hat,Ub,Of⟩:=Ud;rw[gO Of]at dD;have RD:aD H H6:=LS.trans rL;refine ak ?_;dsimp only;refine⟨_,rfl,_,rfl,_,rfl,_,_,rfl,rfl,a,_,_,_,rfl,rfl,aJ.of (RD _ _ hav),(by rw[Int.zero_add];exact hat),_,rfl,_,rfl,dz,λu7 PX=>?_⟩;have sB:=aj PX (.tup [.int (0+(j:Int))]);refine⟨u2,u7,_,_,rfl,rfl,sB _ _ (rL _ _ xi),ag,by rw[WV,WW];exact WS (show _+1+1<=1000 by omega) (by decide),λu8 H8 s8 iO=>?_⟩;rw[Int.zero_add,Bu]at iO;have uY:=sB.trans s8;have Mp:=rL.trans (aD.of uY);have Ry:=LS.trans Mp;have g8:eU fd H H8:=(gr.trans g4).trans (g6.trans (eU.of uY));refine⟨_,rfl,_,rfl,bi,cj,u8,gi,fd,hh,pj,(pi++[(i:Int)])++[(j:Int)],fi,xK,rfl,⟨Mp _ _ (EC _ _ hbi),Ub.keep Ry,iO,Mp _ _ (EC _ _ hgi),uY _ _ yS,(hok.2 x (W4 ex)).2 pj (W4 Of),(hdr x (W4 ex)).2 pj (W4 Of),h6,by rw[WW,WW];show _+1+1+_<=_;omega,by omega⟩,λu9 H9 Q_ g9 OE hk9 SS IU=>ak ?_⟩;dsimp only;have MV:aD H8 H9:=g9.rN (uY _ _ yS);cases er:putL (bV m) ((pi++[(i:Int)])++[(j:Int)]) 0 hh fi pj with
    |no a' s' =>
     rw[er]at IU;have S0:bV (m+1) hh fi (pi++[(i:Int)]) x=.no a' s':=by rw[dD];show fM (putL (bV m) ((pi++[(i:Int)])++[(j:Int)]) 0 hh fi pj) _=_;rw[er];rfl
     have htot:putL (bV (m+1)) pi 0 h fl ws=.no a' s':=by rw[hrun,S0];rfl
     obtain⟨aa,hr1,hr2⟩:=IU;refine⟨_,rfl,u9,_,0,_,rfl,rfl,aJ.of hr1,au (j:=0) rfl,rfl,_,rfl,b_ ⟨_,rfl,q u9 H9 Q_ (g8.trans g9) OE (by omega) (by rw[SS,LN,←lT,nZ,J8 (gO Of) er,S0];show _=l7 kvs (t6++(_++[]));rw[XC]) ?_⟩⟩;rw[htot];exact⟨aa,hr1,hr2⟩
    |ok h' f' =>
     rw[er]at IU;obtain⟨aa,ab,hr1,hr2,Sb⟩:=IU;refine⟨_,rfl,u9,_,0,_,rfl,rfl,aJ.of hr1,au (j:=0) rfl,rfl,_,rfl,?_⟩;rw[bQ,WT (by decide +kernel)];refine bF (aG ?_);dsimp only;have hL9:H9 Le=some (.lst (as.map V.ref)):=g9 _ _ Mk (uY _ _ Ku.lst);refine⟨_,rfl,.inl ⟨rfl,_,aZ.of hL9⟩,_,rfl,u9,_,1,_,rfl,rfl,aJ.of hr1,rfl,Le,_,_,rfl,rfl,hL9,by rw[WV,Ku.len,hel];exact Nat.lt_trans hj2 (by decide),?_⟩;have kX:aD H9 (upd H9 Le (.lst (as.map V.ref++[.ref aa]))):=aD.refl.oU hL9;have Qr:upd H9 Le (.lst (as.map V.ref++[.ref aa])) Le=some (.lst ((as++[aa]).map V.ref)):=by rw[ag,WX];rfl
     have Q4:upd H9 Le (.lst (as.map V.ref++[.ref aa])) fd=some (.dT Q_):=by rw[aI (Ne.symm Mk)];exact OE
     have gX:eU fd H4 (upd H9 Le (.lst (as.map V.ref++[.ref aa]))):=eU.new hL ((g6.trans (eU.of uY)).trans g9);revert kX Qr Q4 gX;generalize upd H9 Le (.lst (as.map V.ref++[.ref aa]))=HX;intro kX Qr Q4 gX;have Pc:aD H6 HX:=((aD.of uY).trans MV).trans kX;refine⟨_,rfl,_,rfl,u9,_,2,_,rfl,rfl,aJ.of (kX _ _ hr1),rfl,af,ab,rfl,⟨_,aJ.of (Pc _ _ hfa)⟩,⟨_,aJ.of (kX _ _ Sb)⟩,λDl hD=>?_⟩;refine Bp (xs:=NG fa) (ys:=NG f') (λi σ zs H'=>(∃o1 o2,σ=[o1,o2])/\zs=((Kq fa f').take i).map V.bl/\zs.length=i/\H' Dl=some (.lst zs)/\aM HX H') ⟨⟨none,none,rfl⟩,rfl,rfl,ag,aj hD _⟩ ?_ ?_ rfl uO ?_ ?_
     ·rintro i σ zs H' _ ⟨_,_,hi,hz,_⟩;exact⟨hz,XF hi⟩
     ·rintro i σ zs H' _ ⟨_,_,_,_,sm⟩;exact⟨aJ.of (sm _ _ (Pc _ _ hfa)),aJ.of (sm _ _ (kX _ _ Sb))⟩
     ·rintro i x y σ zs H' T3 T1 TM ⟨⟨o1,o2,rfl⟩,rfl,hi,hz,sm⟩ Mg;obtain⟨pb,qb,rfl,rfl,eo⟩:=Nf i x y T1 TM;have tz:=aj Mg (.tup [.bl pb,.bl qb]);refine⟨T3,_,rfl,aJ.of ag,rfl,_,_,rfl,ak ⟨_,_,rfl,ak ⟨rfl,?_⟩⟩⟩;have NL:∀w:Bool,w=(pb||qb)->upd H' T3 (.tup [.bl pb,.bl qb]) Dl=some (.lst (((Kq fa f').take i).map V.bl))/\((Kq fa f').take i).map V.bl++[V.bl w]=((Kq fa f').take (i+1)).map V.bl/\(((Kq fa f').take i).map V.bl++[V.bl w]).length=i+1:=by rintro w rfl;refine⟨tz _ _ hz,?_,by rw[WW,hi];rfl⟩;rw[take_one eo,WX];rfl
      refine⟨_,rfl,_,rfl,cG (λz=>?_) (λz=>?_)⟩
      ·obtain⟨f1,f2,f3⟩:=NL true (by rw[z];rfl);exact⟨f1,⟨_,_,rfl⟩,f2,f3,ag,bu hD (sm.trans tz)⟩
      ·obtain⟨f1,f2,f3⟩:=NL qb (by rw[Xb.mpr z];rfl);exact⟨_,rfl,f1,⟨_,_,rfl⟩,f2,f3,ag,bu hD (sm.trans tz)⟩
     ·rintro σ zs H' ⟨_,rfl,_,hz,sm⟩;refine⟨Dl,_,rfl,.inl ⟨aZ.of hz,λWi PM=>ak ?_⟩⟩;have tU:=aj PM (.tup (((Kq fa f').take (NG fa).length).map V.bl));have sX:=sm.trans tU;refine⟨as++[aa],es++[h'],Wi,Gr fa f',Q_,⟨_,_,_,rfl⟩,Es Ku (Pc.trans (aD.of sX)) (sX _ _ (kX _ _ hr2)) (sX _ _ Qr),by rw[WW,hel];rfl,λe he=>?_,ag,(rL.trans Pc).trans (aD.of sX),gX.trans (eU.of sX),sX _ _ Q4,λm' e=>?_,λz=>(by cases z),λm' e _=>?_,t6++TL m ((pi++[(i:Int)])++[(j:Int)]) 0 hh fi pj,(by rw[SS,LN,←lT]),(by rw[nZ,Ff (gO Of) er];simp only[List.append_assoc])⟩
      ·rcases Xc.mp he with z|z
       ·exact hez e z
       ·rw[W9.mp z];exact Ac h6 er
      ·cases e;rw[Nat.succ_mul];omega
      ·cases e;rw[dD];show fM (putL (bV m) ((pi++[(i:Int)])++[(j:Int)]) 0 hh fi pj) _=_;rw[er];rfl
   ·rintro σ H6 ⟨as,es,af,fa,xK,⟨lr,lx,I0,rfl⟩,Ku,hel,hez,hfa,rL,g6,yS,OD,hz0,dD,t6,LN,nZ⟩;refine hT2 _ _ ⟨as,es,af,fa,xK,⟨_,_,_,rfl⟩,Ku,λhb'=>(by rw[hel,mt hb'];rfl),hez,hfa,rL,g6,yS,?_,?_,t6,LN,?_⟩
    ·cases hq:b9 x with
     |false=>have:=(hz0 (by rw[mf hq];rfl)).1;omega
     |true =>
      obtain⟨m,rfl⟩ :∃m,n=m+1:=by
       cases n with
       |zero=>rw[KR ha]at hq;cases hq
       |succ m=>exact⟨m,rfl⟩
      have:=OD m rfl;rw[mt hq]at this;rw[n9];have e2:(2:Int).toNat=2:=rfl;rw[e2]at this;omega
    ·cases hq:b9 x with
     |false =>obtain⟨_,z1,z2⟩:=hz0 (by rw[mf hq];rfl);rw[C6 hq,z1,z2]
     |true =>
      obtain⟨m,rfl⟩ :∃m,n=m+1:=by
       cases n with
       |zero=>rw[KR ha]at hq;cases hq
       |succ m=>exact⟨m,rfl⟩
      have:=dD m rfl hq;rw[mt hq,show(2:Int).toNat=(cP x).length from(kE hq).1.symm,List.drop_length]at this;exact this
    ·rw[nZ,zP (by
      cases hq:b9 x with
      |false=>rw[(j8 hq).1];exact Xe _
      |true=>rw[mt hq,(kE hq).1];exact WR _)]
     rfl
  rintro σ H6 ⟨as,es,af,fa,xK,⟨lr,lx,I0,rfl⟩,Ku,he2,hez,hfa,rL,g6,yS,OD,dD,t6,LN,nZ⟩;have RD:aD H H6:=LS.trans rL;have RS:eN H6 bi hh:=rL _ _ (EC _ _ hbi);have T_:ub H6 gi fi:=rL _ _ (EC _ _ hgi);have hLw:wM n H6 a bi Le x hh as es:=⟨ha.keep RD,RS,Ku,he2,Ow.sm,Gv QC.1,QC.2,QC.1⟩;have Ol:∀e∈es,e.length<=1000:=λe he=>WS (hez e he) (by decide);refine⟨_,rfl,_,rfl,_,rfl,_,rfl,a,bi,gi,Le,x,hh,fi,as,es,rfl,hLw,T_,Ow.wide,WS h6 (by decide),Ol,λH7 s7=>ak ?_⟩;have Sr:eU fd H H7:=((gr.trans g4).trans g6).trans (eU.of s7);dsimp only;refine⟨_,rfl,rfl,_,rfl,?_⟩;rw[bQ];cases ew:jm x fi (lu x hh es)with
  |some s' =>
   have hfin:me x hh fi (pi++[(i:Int)]) es fa=.no (pi++[(i:Int)]) s':=by unfold me;rw[ew]
   have hne:IP (some s')≠"":=by
    unfold jm at ew;intro z;have z:s'="":=z;subst z;repeat' split at ew
    all_goals first | (cases ew;done) | (have:=Xf ew;exact Xs this (by decide +kernel))
   rw[WT hne];refine b_ ⟨_,rfl,_,rfl,f9,λu hu'=>?_⟩;have t8:=aj hu' (.tup [.str "no",.ref u2,.str (IP (some s'))]);refine q u _ xK (Sr.trans (eU.of t8)) (t8 _ _ (s7 _ _ yS)) (by omega) (by rw[LN,nZ,dD,hfin];show _=l7 kvs (t6++[]);rw[XC]) ?_;rw[hrun,dD,hfin];exact⟨u2,ag,t8 _ _ (s7 _ _ (rL _ _ xi))⟩
  |none =>
   obtain⟨hfit,V5⟩:=tq ew;have hfin:me x hh fi (pi++[(i:Int)]) es fa=.ok (bK x (lu x hh es)) (jN x hh fa):=by unfold me;rw[ew]
   rw[WU (show IP none="" from rfl)];refine bF (aG ?_);dsimp only;have Ov:bg x (lu x hh es)=true:=by
    unfold jm at ew;rw[Xu hfit]at ew;by_cases z:bg x (lu x hh es)=true
    ·exact z
    ·rw[Xt z]at ew;cases ew
   have hkeep:keepIn x hh:=by rintro c t rfl;exact cI hfit (by simp[df])
   refine⟨_,rfl,_,rfl,_,rfl,a,bi,af,x,hh,fa,rfl,hLw.wk.keep (aD.of s7),s7 _ _ RS,s7 _ _ hfa,hkeep,λu8 H8 s8 iO=>ak ?_⟩;dsimp only;have Pe:=s7.trans s8;refine⟨_,rfl,_,rfl,_,rfl,a,bi,Le,x,hh,as,es,rfl,hLw.same Pe,⟨hfit,Ov,WS h6 (by decide),Ol⟩,λu9 H9 s9 Px=>ak ?_⟩;refine⟨u9,u8,bK x (lu x hh es),jN x hh fa,xK,⟨_,_,_,_,_,_,_,_,rfl⟩,Px,s9 _ _ iO,V5,(Sr.trans (eU.of s8)).trans (eU.of s9),s9 _ _ (Pe _ _ yS),?_,?_,t6,LN,?_⟩
   ·rw[Nat.succ_mul];omega
   ·rw[hrun,dD,hfin];rfl
   ·rw[nZ,dD,hfin];rfl
 ·rintro σ H' ⟨bi,gi,hh,fi,kv,⟨o5,o6,o7,o8,o9,lr,lx,I0,rfl⟩,hbi,hgi,h6,gr,BR,N0,hrun,tr,hkv,htr⟩;rw[hlb]at N0 hrun htr;rw[List.drop_length]at hrun htr;have Vl:=Nat.mul_le_mul_right (cW n) hw9;have k0:=gr.rN hfd;dsimp only;refine⟨_,rfl,gi,_,4,_,rfl,rfl,aJ.of hgi,rfl,_,rfl,_,rfl,_,rfl,p,_,rfl,.inr (aJ.of (k0 _ _ hI.tup)),dz,λu1 kg=>?_⟩;have sU:=aj kg (.tup [.int ((bs.map V.ref).length:Nat)]);refine⟨pl,u1,_,_,rfl,rfl,sU _ _ (k0 _ _ hpl),ag,by rw[WV];exact WS (show _+1<=1000 by omega) (by decide),λu2 H2 L8 hu2=>?_⟩;rw[Bu]at hu2;have s2:=sU.trans L8;refine⟨fd,_,rfl,AB.t (k:=kI (pi++[((bs.map V.ref).length:Int)])) (s2 _ _ BR) (by rw[HK];exact hu2) (WY (show kv.length<=100000 by omega) (by decide)),?_⟩;have LQ:(putK kv (kI (pi++[((bs.map V.ref).length:Int)])) (.bl fi.l)).length<=kv.length+1:=vV;have JM:putK kv (kI (pi++[((bs.map V.ref).length:Int)])) (.bl fi.l)=l7 kvs (TL n pi 0 h fl ws):=by rw[hkv,htr,lT,hlb];rfl
  revert LQ JM;generalize putK kv (kI (pi++[((bs.map V.ref).length:Int)])) (.bl fi.l)=B0;intro LQ JM;have kU:aD H' (upd H2 fd (.dT B0)):=(aD.of s2).Rk (s2 _ _ BR);have v_:upd H2 fd (.dT B0) fd=some (.dT B0):=ag;have gU:eU fd H (upd H2 fd (.dT B0)):=(gr.trans (eU.of s2)).put;revert kU v_ gU;generalize upd H2 fd (.dT B0)=H3;intro kU v_ gU;refine⟨_,rfl,_,rfl,f9,λu hu'=>?_⟩;have t:=aj hu' (.tup [.str "head",.ref bi,.ref gi]);refine q u _ B0 (gU.trans (eU.of t)) (t _ _ v_) (by omega) JM ?_;rw[hrun];exact⟨bi,gi,ag,t _ _ (kU _ _ hbi),t _ _ (kU _ _ hgi)⟩
structure Ir(n:Nat)(H:Hp)(b p:Addr)(h:Hd)(ws:List Wk):Prop where
 hd:eN H b h
 pp:jP n H p ws
 ok:uW n ws
 dr:rT n ws
 six:h.length<=6
def FF(n:Nat):Sp:=λvs H Q _=>∃(b p:Addr)(h:Hd)(ws:List Wk),vs=[.ref b,.ref p]/\Ir n H b p h ws/\2*n<=100/\bnd n<=100000/\∀(u:Addr)(H':Hp),aM H H'->pk H' u (jw n h ws)->Q (.ref u) H'
abbrev iu:Stmt:=top 79
theorem qf:ay ZM ZM (ar iu):=fs
theorem BF{n L:Nat}(F:FA K mg "_law_judged" iu)
  (gu:bc bf P w K mg base (L+6) "_law_put" ZW (pQ (n+1))) :
  bc bf P w K mg base (L+7) "_law_judged" ZM (FF n):=by
 refine F.ok qf λf cdv A outer s H vs Q E hr h=>?_;have hu:=iO hr;have hu1:=jD hr;obtain⟨b,p,h,ws,rfl,hI,hn2,hbn,q⟩:=h;refine⟨_,(av (ax gu hr (ae (pv 0) (ae (pv 1) (ae (aH ah) (ae (aH (ae eA (ae eA (ae eA (ae eA (ae eA ah)))))) (ae wK ah))))))),?_⟩;refine⟨_,rfl,_,rfl,wR,λu1 kg=>?_⟩;have s1:=aj kg (.tup []);refine⟨uO,λu2 hu2=>?_⟩;have s2:=aj hu2 (.tup [.bl false,.bl false,.bl false,.bl false,.bl false]);have e1:=s2 _ _ (ag (H:=H) (a:=u1) (o:=.tup []));have e2:upd (upd H u1 (.tup [])) u2 (.tup [.bl false,.bl false,.bl false,.bl false,.bl false]) u2=_:=ag;have s12:=s1.trans s2;revert s12 e1 e2;generalize upd (upd H u1 (.tup [])) u2 (.tup [.bl false,.bl false,.bl false,.bl false,.bl false])=H2;intro e1 e2 s12;refine λD hD=>?_;have s3:=aj hD (.dT []);have qI:=s12.trans s3;have k13:=aD.of qI;refine⟨b,p,u1,u2,D,h,ws,[],f0,[],rfl,⟨qI _ _ hI.hd,hI.pp.keep k13,s3 _ _ e1,s3 _ _ e2,ag,hI.ok,hI.dr,hI.six,by simpa using hn2,by simpa using hbn⟩,λu H' Wt g' hf' hk' _ hR=>?_⟩;exact q u H' (iT (s12.free hD) qI g') hR
def Ee(n:Nat)(h:Hd)(ws:List Wk):Hd:=match jw n h ws with
 | .ok h' _=>h'
 | .no _ _=>h
def Je(n:Nat):Sp:=λvs H Q _=>∃(b p:Addr)(h:Hd)(ws:List Wk),vs=[.ref b,.ref p]/\Ir n H b p h ws/\2*n<=100/\bnd n<=100000/\∀(u:Addr)(H':Hp),aM H H'->eN H' u (Ee n h ws)->Q (.ref u) H'
abbrev kJ:Stmt:=top 80
theorem nv:ay ["_law_head","_law_pipe_here","_law_tale"] ZM (ar kJ):=fs
theorem JW{n L:Nat}(F:FA K mg "_law_end" kJ)
  (h_:bc bf P w K mg base (L+7) "_law_judged" ZM (FF n)) :
  bc bf P w K mg base (L+8) "_law_end" ZM (Je n):=by
 refine F.ok nv λf cdv A outer s H vs Q E hr h=>?_;obtain⟨b,p,h,ws,rfl,hI,hn2,hbn,q⟩:=h;refine⟨_,(aq (aK (i:=2) nv.nd rfl (Xw rfl) (ax h_ hr (ae (pv 0) (ae (pv 1) ah))))
   (av (eP (aX aQ (az K (pv 2) ai) ao) (az K (pv 2) ai) (pv 0)))),?_⟩
 refine⟨_,rfl,_,rfl,b,p,h,ws,rfl,hI,hn2,hbn,λu H' s' hR=>ak ?_⟩;dsimp only;unfold Ee at q;cases er:jw n h ws with
 |ok h' f' =>rw[er]at hR q;obtain⟨a1,a2,h1,h2,h3⟩:=hR;refine⟨_,rfl,u,_,0,_,rfl,rfl,aJ.of h1,au (j:=0) rfl,rfl,_,rfl,?_⟩;rw[bQ,WU rfl];exact b_ ⟨_,rfl,u,_,1,_,rfl,rfl,aJ.of h1,rfl,q a1 H' s' h2⟩
 |no a1 s1 =>rw[er]at hR q;obtain⟨a1,h1,h2⟩:=hR;refine⟨_,rfl,u,_,0,_,rfl,rfl,aJ.of h1,au (j:=0) rfl,rfl,_,rfl,?_⟩;rw[bQ,WT (by decide +kernel)];exact bF ⟨_,rfl,q b H' s' (s' _ _ hI.hd)⟩
def QW:Wk->Prop
 | .one x=>ne1 x
 |_=>True
theorem Gk{x:Wk}{hs:List Hd}(hx:QW x)(h:hs.headD []≠[]):bK x hs≠[]:=by
 match x with
 | .one (.cut cs)=>intro z;exact hx (List.map_eq_nil_iff.mp z)
 | .one (.must c ps) =>
  intro z;have z:((hs.headD []).take (c-1).toNat++(ps.take 1).map (λp=>sW p.2))++(hs.headD []).drop c.toNat=[]:=z;have z1:=(List.append_eq_nil_iff.mp (List.append_eq_nil_iff.mp z).1).2;have hp:ps≠[]:=hx.1;cases ps with
  |nil=>exact hp rfl
  |cons p ps=>cases z1
 | .one (.walk ..)=>intro z;exact Xs (List.append_eq_nil_iff.mp z).2 (by simp)
 | .one (.count ..)=>intro z;exact Xs (List.append_eq_nil_iff.mp z).2 (by simp)
 | .one (.sum ..)=>intro z;exact Xs (List.append_eq_nil_iff.mp z).2 (by simp)
 | .one .number=>intro z;exact Xs (List.append_eq_nil_iff.mp z).2 (by simp)
 | .meet ..=>intro z;exact h (List.append_eq_nil_iff.mp (List.append_eq_nil_iff.mp z).1).1
 | .one (.keep ..)=>exact h
 | .one (.same ..)=>exact h
 | .one (.turn ..)=>exact h
 | .one (.sort ..)=>exact h
 | .one .apart=>exact h
 | .one (.first ..)=>exact h
 | .both ..=>exact h
theorem Fc{x:Wk}(h:K5 x):QW x:=by
 cases x with
 |one x=>exact DS.ne h
 |both p q=>trivial
 |meet c d p q=>trivial
theorem yi{x:Wk}{h h1:Hd}{f f1:Fl}{pl:List Int}(hx:QW x){es:List (Hd×Fl)}(hes:(es.map λe=>e.1).headD []≠[])(e:iI x h f pl es=.ok h1 f1):h1≠[]:=by
 unfold iI at e;split at e
 ·cases e
 ·cases e;exact Gk hx hes
theorem uH{step:Hd->Fl->List Int->Wk->Res}{P:Wk->Prop}(S:∀x h f pl h' f',P x->h≠[]->step h f pl x=.ok h' f'->h'≠[]){pl:List Int}:∀{ws:List Wk}{i:Nat}{h:Hd}{f:Fl}{h':Hd}{f':Fl},(∀x∈ws,P x)->h≠[]->putL step pl i h f ws=.ok h' f'->h'≠[]
 |[],i,h,f,h',f',_,hn,e=>by cases e;exact hn
 |x::ws,i,h,f,h',f',hp,hn,e=>by obtain⟨h1,f1,e1,e2⟩:=fG e;exact uH S (λy hy=>hp y (W5 _ hy)) (S x _ _ _ _ _ (hp x Xo) hn e1) e2
theorem Ar{n:Nat}{ws:List Wk}(h:rT n ws):∀x∈ws,rT n [x]:=by intro x hx;cases n<;>exact λy hy=>by rw[W9.mp hy];exact h x hx
theorem M3:∀(n:Nat)(x:Wk)(h:Hd)(f:Fl)(pl:List Int)(h':Hd)(f':Fl),rT n [x]->h≠[]->bV n h f pl x=.ok h' f'->h'≠[]
 | 0,x,h,f,pl,h',f',hd,hn,e=>yi (Fc (hd x Xo).1) (es:=[(h,f)]) hn e
 |n+1,x,h,f,pl,h',f',hd,hn,e=>by
  obtain⟨hx,hb2⟩:=hd x Xo;have hx:=Fc hx.1;cases hb:b9 x with
  |false=>rw[jf hb]at e;exact yi hx (es:=[(h,f)]) hn e
  |true =>rw[qi hb]at e;obtain⟨p,q,hpq⟩:=uT hb;rw[hpq]at e hb2;obtain⟨h2,f2,e3,e⟩:=fG e;obtain⟨_,_,_,e⟩:=fG e;refine yi hx ?_ e;exact uH (M3 n) (Ar (hb2 p Xo)) hn e3
theorem Nj{n:Nat}{pl:List Int}{ws:List Wk}{i:Nat}{h:Hd}{f:Fl}{h':Hd}{f':Fl}(hd:rT n ws)(hn:h≠[])(e:putL (bV n) pl i h f ws=.ok h' f'):h'≠[]:=uH (M3 n) (Ar hd) hn e
def dep:Nat->Wk->Prop
 |_,.one _=>True
 | 0,_=>False
 |n+1,.both p q=>(∀x∈p,dep n x)/\∀x∈q,dep n x
 |n+1,.meet _ _ p q=>(∀x∈p,dep n x)/\∀x∈q,dep n x
theorem iH{α:Type}{At:Hp->Addr->α->Prop}{H:Hp}{p:Addr}{bs:Z8}{xs:List α}(h:bR At H p bs xs){x:α}(hx:x∈xs):∃a,At H a x:=by
 obtain⟨i,e⟩:=List.mem_iff_getElem?.mp hx;have hi:i<bs.length:=by rw[h.len];exact(W8.mp e).1
 exact⟨_,h.at_ i _ x (W0 hi) e⟩
theorem oB:∀{n:Nat}{H:Hp}{a:Addr}{x:Wk},dv n H a x->dep n x
 | 0,H,a,.one x,h=>trivial
 |n+1,H,a,.one x,h=>trivial
 |n+1,H,a,.both p q,h=>by obtain⟨b,c,bs,cs,h1,h2,h3⟩:=h;exact⟨λx hx=>by obtain⟨a,z⟩:=iH h2 hx;exact oB z,λx hx=>by obtain⟨a,z⟩:=iH h3 hx;exact oB z⟩
 |n+1,H,a,.meet c d p q,h=>by obtain⟨b,e,bs,es,h1,h2,h3⟩:=h;exact⟨λx hx=>by obtain⟨a,z⟩:=iH h2 hx;exact oB z,λx hx=>by obtain⟨a,z⟩:=iH h3 hx;exact oB z⟩
theorem Ah{n:Nat}{x:Wk}(h:dep (n+1) x){p:List Wk}(hp:p∈cP x):∀y∈p,dep n y:=by
 cases x with
 |one x=>cases hp
 |both a b =>
  simp only[cP,Xa,Xv,or_false]at hp;rcases hp with rfl|rfl
  ·exact h.1
  ·exact h.2
 |meet c d a b =>
  simp only[cP,Xa,Xv,or_false]at hp;rcases hp with rfl|rfl
  ·exact h.1
  ·exact h.2
theorem wg{x:Wk}(h:dep 0 x):cP x=[]:=by
 cases x with
 |one x=>rfl
 |both a b=>exact Xy h
 |meet c d a b=>exact Xy h
theorem uW.up:∀{n:Nat}{ws:List Wk},(∀x∈ws,dep n x)->uW n ws->uW (n+1) ws
 | 0,ws,hd,h=>⟨h.1,λx hx=>⟨h.2 x hx,λp hp=>by rw[wg (hd x hx)]at hp;cases hp⟩⟩
 |n+1,ws,hd,h=>⟨h.1,λx hx=>⟨(h.2 x hx).1,λp hp=>uW.up (Ah (hd x hx) hp) ((h.2 x hx).2 p hp)⟩⟩
theorem rT.up:∀{n:Nat}{ws:List Wk},(∀x∈ws,dep n x)->rT n ws->rT (n+1) ws
 | 0,ws,hd,h=>λx hx=>⟨h x hx,λp hp=>by rw[wg (hd x hx)]at hp;cases hp⟩
 |n+1,ws,hd,h=>λx hx=>⟨(h x hx).1,λp hp=>rT.up (Ah (hd x hx) hp) ((h x hx).2 p hp)⟩
structure bO(n:Nat)(H:Hp)(p:Addr)(ws:List Wk):Prop where
 pp:jP n H p ws
 ok:uW n ws
 dr:rT n ws
theorem bO.up{n:Nat}{H:Hp}{p:Addr}{ws:List Wk}(h:bO n H p ws):bO (n+1) H p ws:=by
 obtain⟨⟨bs,hb⟩,h2,h3⟩:=h;have hd:∀x∈ws,dep n x:=λx hx=>by obtain⟨a,z⟩:=iH hb hx;exact oB z
 exact⟨⟨bs,hb.tup,hb.len,λi a x e1 e2=>(hb.at_ i a x e1 e2).up⟩,h2.up hd,h3.up hd⟩
theorem bO.to{n:Nat}{H:Hp}{p:Addr}{ws:List Wk}(h:bO n H p ws)(m:Nat):bO (n+m) H p ws:=by
 induction m with
 |zero=>exact h
 |succ m ih=>exact ih.up
theorem bO.le{n m:Nat}{H:Hp}{p:Addr}{ws:List Wk}(h:bO n H p ws)(e:n<=m):bO m H p ws:=by have:=h.to (m-n);rwa[show n+(m-n)=m by omega]at this
theorem bO.keep{n:Nat}{H H':Hp}{p:Addr}{ws:List Wk}(k:aD H H')(h:bO n H p ws):bO n H' p ws:=⟨h.pp.keep k,h.ok,h.dr⟩
structure p9(n:Nat)(H:Hp)(a:Addr)(x:Wk):Prop where
 wk:dv n H a x
 ok:Bq x
 dr:K5 x
 pm:Dj x
 br:∀p∈cP x,uW (n-1) p/\rT (n-1) p
theorem bO.snoc{n:Nat}{H:Hp}{p u a:Addr}{bs:Z8}{ws:List Wk}{x:Wk}(hI:bR (dv n) H p bs ws)(ho:uW n ws)(hd:rT n ws)(hx:p9 n H a x)(hl:ws.length<9)(hu:H u=some (.tup ((bs++[a]).map V.ref))):bO n H u (ws++[x]):=by
 refine⟨⟨bs++[a],hu,by rw[WW,WW,hI.len];rfl,λi b y e1 e2=>?_⟩,?_,?_⟩
 ·by_cases hi:i<bs.length
  ·rw[Xh hi]at e1;rw[Xh (by rw[←hI.len];exact hi)]at e2;exact hI.at_ i b y e1 e2
  ·have hi':i=bs.length:=by have:=(W8.mp e1).1;rw[WW]at this;simp at this;omega
   rw[hi',Xg (WR _),Nat.sub_self]at e1;rw[hi',hI.len,Xg (WR _),Nat.sub_self]at e2;cases e1;cases e2;exact hx.wk
 ·have hl':(ws++[x]).length<=9:=by rw[WW];simp;omega
  cases n with
  |zero =>
   refine⟨hl',λy hy=>?_⟩;rcases Xc.mp hy with z|z
   ·exact ho.2 y z
   ·rw[W9.mp z];exact hx.ok
  |succ n =>
   refine⟨hl',λy hy=>?_⟩;rcases Xc.mp hy with z|z
   ·exact ho.2 y z
   ·rw[W9.mp z];exact⟨hx.ok,λp hp=>(hx.br p hp).1⟩
 ·cases n with
  |zero =>
   intro y hy;rcases Xc.mp hy with z|z
   ·exact hd y z
   ·rw[W9.mp z];exact⟨hx.dr,hx.pm⟩
  |succ n =>
   intro y hy;rcases Xc.mp hy with z|z
   ·exact hd y z
   ·rw[W9.mp z];exact⟨⟨hx.dr,hx.pm⟩,λp hp=>(hx.br p hp).2⟩
theorem DS.all{n:Nat}{H:Hp}{a:Addr}{x:W1}(h:kh H a x)(d:DS x):p9 n H a (.one x):=by refine⟨cb.mpr h,⟨d.sm,d.good,?_,λp hp=>by cases hp⟩,d,trivial,λp hp=>by cases hp⟩;cases x<;>first|trivial|exact d.ne.1
def lM(K:XO):Nat->Sp
 | 0=>λ_ _ _ _=>False
 |N+1=>λvs H Q _=>∃(p b:Addr)(h:Hd)(d m:Nat)(si:Bool),vs=[.ref p,.ref b,.int d,.int m,.bl si]/\dh H p/\c_ K H b h/\d<=N/\m<=9/\∀(u:Addr)(ws:List Wk)(H':Hp),bo p H H'->bO d H' u ws->ws.length<=m->Q (.ref u) H'
def zm(K:XO)(N:Nat):Sp:=λvs H Q _=>∃(p b:Addr)(h:Hd)(d:Nat)(wd:Str),vs=[.ref p,.ref b,.int d,.str wd]/\dh H p/\c_ K H b h/\1<=d/\d<=N/\(wd="both"\/wd="meet")/\∀(u:Addr)(x:Wk)(H':Hp),bo p H H'->p9 d H' u x->Q (.ref u) H'
def zr(K:XO)(N:Nat):Sp:=λvs H Q _=>∃(p b:Addr)(h:Hd)(d:Nat)(si:Bool),vs=[.ref p,.ref b,.int d,.bl si]/\dh H p/\c_ K H b h/\d<=N/\∀(u:Addr)(x:Wk)(H':Hp),bo p H H'->p9 d H' u x->Q (.ref u) H'
end My
namespace L2
open PySem PySem.Spec PyProof.Rows
theorem Dv(l:Addr)(items:Array Value)(n:Nat)(dd:Option Addr)(sl:Array (Z7))(t:Tok)(hi:items.isEmpty=false) :
  Meets (Builtin.«tuple.__mul__» ⟨[.ref l,.int 0 t],[]⟩) (λ_ R s=>s.heap.get? l=some ⟨.type "tuple",dd,.seq items n,sl⟩/\
   R (.ok (.ret (.ref s.heap.objs.size))) {s with heap:=s.heap.push {cls:=.type "tuple",data:=.seq #[]}}) :=
 .of_wp λprog w A R s h=>by
  obtain⟨hp,g,d,tk,os⟩:=s;obtain⟨hl,h⟩:=h;have c1:¬(decide ((0:Int) < -2 ^ 63)||decide ((0:Int)≥2 ^ 63))=true:=by decide
  have c2:¬(items.isEmpty||(0:Int)==1)=true:=by rw[hi,Bool.false_or];decide
  have c3:(decide ((0:Int)<=0)||items.isEmpty)=true:=by rw[hi,Bool.or_false];decide
  wp_walk
  exact⟨_,rfl,h⟩
theorem Eu(l:Addr)(items:Array Value)(n:Nat)(dd:Option Addr)(sl:Array (Z7))(t:Tok)(hi:items.isEmpty=false) :
  Meets (Builtin.«tuple.__mul__» ⟨[.ref l,.int 1 t],[]⟩) (λ_ R s=>s.heap.get? l=some ⟨.type "tuple",dd,.seq items n,sl⟩/\
   R (.ok (.ret (.ref l))) s) :=
 .of_wp λprog w A R s h=>by
  obtain⟨hp,g,d,tk,os⟩:=s;obtain⟨hl,h⟩:=h;have c1:¬(decide ((1:Int) < -2 ^ 63)||decide ((1:Int)≥2 ^ 63))=true:=by decide
  have c2:(items.isEmpty||(1:Int)==1)=true:=by rw[hi,Bool.false_or];decide
  wp_walk
  exact⟨_,rfl,h⟩
section
variable{X:Cx}
def Lv(K:XO):R2:=λx y H Q=>∃l k xs,x=.ref l/\y=.int k/\aJ K H l xs/\xs≠[]/\((k=0/\∀p,H p=none->Q (.ref p) (upd H p (.tup [])))\/(k=1/\Q (.ref l) H))
theorem wG:jk X (binaryOp .Mult) (Lv X.K):=by
 intro ac s σ H x y v u Q I rx ry h;obtain⟨l,k,xs,rfl,rfl,hq,hx,h⟩:=h;cases rx;obtain⟨t,rfl⟩:=ry;obtain⟨its,r,⟨o,e,hc,n,hd⟩,_⟩:=I.tuple hq;obtain⟨c,dd,da,sl⟩:=o;cases(show c=.type "tuple" from hc);cases(show da=.seq its.toArray n from hd);have hl:=r.length;have hi:its.toArray.isEmpty=false:=by
  cases its with
  |nil=>exact Xs (List.eq_nil_of_length_eq_zero (by rw[hl];rfl)) hx
  |cons a r=>rfl
 rcases h with⟨rfl,q⟩|⟨rfl,q⟩
 ·refine wpAny_binaryOp_repeat_ref (T:="tuple") (U:="int") (by decide) ⟨_,e,rfl⟩ (λs'=>typeIs_int s' 0 t) gq F.fills_int_mul F.slot_int_rmul uJ F.slot_int_index.lookup
   (call_meets F.slot_int_rmul (typeIs_int s 0 t) F.entry_int_rmul (F.args_int_rmul_2 _ _) (iQ 0 t l its.toArray n dd sl)
    ⟨e,rfl,⟨_,e,rfl⟩,call_meets F.slot_tuple_mul ⟨_,e,rfl⟩ F.entry_tuple_mul (F.args_tuple_mul_2 _ _) (Dv l its.toArray n dd sl t hi) ⟨e,?_⟩⟩)
  refine⟨.ref s.heap.objs.size,_,I.laid (t':=s.toks) (o:=.tup []) (λb ob q=>WN _ q) (WR _) ?_,rfl,q _ (I.hok.fresh (WR _))⟩;exact⟨Xe _,[],.nil,il.new _ _⟩
 ·refine wpAny_binaryOp_repeat_ref (T:="tuple") (U:="int") (by decide) ⟨_,e,rfl⟩ (λs'=>typeIs_int s' 1 t) gq F.fills_int_mul F.slot_int_rmul uJ F.slot_int_index.lookup
   (call_meets F.slot_int_rmul (typeIs_int s 1 t) F.entry_int_rmul (F.args_int_rmul_2 _ _) (iQ 1 t l its.toArray n dd sl)
    ⟨e,rfl,⟨_,e,rfl⟩,call_meets F.slot_tuple_mul ⟨_,e,rfl⟩ F.entry_tuple_mul (F.args_tuple_mul_2 _ _) (Eu l its.toArray n dd sl t hi) ⟨e,?_⟩⟩)
  exact⟨.ref l,H,I,rfl,q⟩
end
end L2
namespace My
open PySem L2
theorem Bj:bnd 2<=100000:=by decide
theorem bO.cons{n:Nat}{H:Hp}{p u a:Addr}{bs:Z8}{ws:List Wk}{x:Wk}(hI:bR (dv n) H p bs ws)(ho:uW n ws)(hd:rT n ws)(hx:p9 n H a x)(hl:ws.length<9)(hu:H u=some (.tup ((a::bs).map V.ref))):bO n H u (x::ws):=by
 refine⟨⟨a::bs,hu,by rw[Xp,Xp,hI.len],λi b y e1 e2=>?_⟩,?_,?_⟩
 ·cases i with
  |zero=>cases e1;cases e2;exact hx.wk
  |succ i=>exact hI.at_ i b y e1 e2
 ·have hl':(x::ws).length<=9:=by rw[Xp];omega
  cases n with
  |zero =>
   refine⟨hl',λy hy=>?_⟩;rcases Xa.mp hy with rfl|z
   ·exact hx.ok
   ·exact ho.2 y z
  |succ n =>
   refine⟨hl',λy hy=>?_⟩;rcases Xa.mp hy with rfl|z
   ·exact⟨hx.ok,λp hp=>(hx.br p hp).1⟩
   ·exact ho.2 y z
 ·cases n with
  |zero =>
   intro y hy;rcases Xa.mp hy with rfl|z
   ·exact⟨hx.dr,hx.pm⟩
   ·exact hd y z
  |succ n =>
   intro y hy;rcases Xa.mp hy with rfl|z
   ·exact⟨⟨hx.dr,hx.pm⟩,λp hp=>(hx.br p hp).2⟩
   ·exact hd y z
abbrev gD:Stmt:=top 81
theorem dy:ay ["_law_pot_here","_law_head","_law_deep","_law_word_here","_law_many_here","_law_one","_law_other_here"] ["_law_pot_here","_law_head","_law_deep","_law_word_here"] (ar gD):=fs
variable{P:Program}{w:World}{K:XO}{mg:Z2}{base:Heap}
theorem pP{N L Le:Nat}(hN:N<=2)(h5:5<=L)(hLe:Le<=L)(B2:iY mg)(F:FA K mg "_law_joining" gD)
  (bj:bc bf P w K mg base 1 "_law_draw" ZD dn)
  (gZ:bc bf P w K mg base L "_law_pipe" ["_law_pot_here","_law_head","_law_deep","_law_many_here","_law_simple"] (lM K N))
  (kC:bc bf P w K mg base 2 "_law_column" ZJ (iD K))
  (qq:bc bf P w K mg base Le "_law_end" ZM (Je 2))
  (yY:bc bf P w K mg base 3 "_law_set" ZG (DT K)) :
  bc bf P w K mg base (L+1) "_law_joining" ["_law_pot_here","_law_head","_law_deep","_law_word_here"] (zm K N):=by
 refine F.ok dy λf cdv A outer s H vs Q E hr h=>?_;have hu:=iO hr;obtain⟨p,b,h,d,wd,rfl,hP,hH,hd1,Pf,Jb,q⟩:=h;refine⟨_,(aq (aK (i:=4) dy.nd rfl (Xw rfl) (aP (ae (ax bj hr (ae (pv 0) (ae ai ah))) (ae (ax bj hr (ae (pv 0) (ae ai ah))) ah))))
   (aq (aK (i:=5) dy.nd rfl (Xw rfl) (ax gZ hr (ae (pv 0) (ae (pv 1) (ae (bp K (aP (ae (aF bM (pv 2) ai) (ae ai ah))) (aU cB rfl B2.int XB (ae (bY aQ (pv 3) ao) ah))) (ae (bp K (pv 4) ai) (ae (qF (bY aQ (pv 3) ao) (c9 (bY Cw (ax bj hr (ae (pv 0) (ae ai ah))) ai))) ah)))))))
   (aq (aK (i:=6) dy.nd rfl (Xw rfl) (ax gZ hr (ae (pv 0) (ae (pv 1) (ae (bp K (aP (ae (aF bM (pv 2) ai) (ae ai ah))) (aU cB rfl B2.int XB (ae (bY aQ (pv 3) ao) ah))) (ae (bp K (pv 4) ai) (ae (qF (bY aQ (pv 3) ao) (c9 (bY Cw (ax bj hr (ae (pv 0) (ae ai ah))) ai))) ah)))))))
   (aN (aX aQ (pv 3) ao) (aH (ae ao (ae (ax kC hr (ae (pv 0) (ae (ax qq hr (ae (pv 1) (ae (pv 5) ah))) ah))) (ae (ax kC hr (ae (pv 0) (ae (ax qq hr (ae (pv 1) (ae (pv 6) ah))) ah))) (ae (pv 5) (ae (pv 6) ah))))))
   (aq (dg (aX iC (ax bj hr (ae (pv 0) (ae ai ah))) ai)
    (bA (aK (i:=6) dy.nd rfl (Xw rfl) (aF bN (aF wG (aH (ae (aH (ae ao (ae ai (ae (ax yY hr (ae (pv 0) (ae (az K (pv 1) ai) ah))) ah)))) ah)) (ax bj hr (ae (pv 0) (ae ai ah)))) (pv 5))))
    bU)
   (av (aH (ae ao (ae (pv 5) (ae (pv 6) ah)))))))))),?_⟩
 have h4:∀m:Int,m=4\/m=3\/m=9\/m=2->0<m/\m.natAbs.log2<9000:=by rintro m (rfl|rfl|rfl|rfl)<;>exact⟨by decide,by decide⟩
 refine⟨_,rfl,p,_,rfl,hP,by decide,by decide,λd1 H1 g1 a1 b1=>⟨_,rfl,p,_,rfl,g1.cn,by decide,by decide,λd2 H2 g2 a2 b2=>⟨cN,λM hM=>ak ?_⟩⟩⟩;have O1:=g1.trans g2;have nM:=O1.ne hM;have gM:=O1.new (o:=.lst [.int d1,.int d2]) hM;have Py:upd H2 M (.lst [.int d1,.int d2]) M=some (.lst [.int d1,.int d2]):=ag;revert gM Py;generalize upd H2 M (.lst [.int d1,.int d2])=HM;intro gM Py;dsimp only;obtain⟨N',rfl⟩ :∃N',N=N'+1:=⟨N-1,by omega⟩;have call:∀(σ:St)(j:Int)(m:Int)(H1:Hp),bo p H H1->σ[0]? = some (some (.ref p))->σ[1]? = some (some (.ref b))->σ[2]? = some (some (.int d))->σ[3]? = some (some (.str wd))->σ[4]? = some (some (.ref M))->H1 M=some (.lst [.int d1,.int d2])->jo [V.int d1,V.int d2] j=some (.int m)->0<=m->m<=3->
   ∀(Qc:VK),(∀(u:Addr)(ws:List Wk)(H':Hp),bo p H1 H'->bO (if wd="meet" then 0 else d-1) H' u ws->ws.length<=3->Qc (.ref u) H')->
   jh (lM K (N'+1)) [] E0 (bq (bB 0) (bq (bB 1) (bq (hZ (yv K) (yP (bq (hZ (BN λi j=>V.int (i-j)) (bB 2) (tC (.int 1))) (bq (tC (.int 0)) fR))) (Ms D0 (bq (hZ Jt (bB 3) (tC (.str "meet"))) fR))) (bq (hZ (yv K) (bB 4) (tC (.int j))) (bq (IX (hZ Jt (bB 3) (tC (.str "meet"))) (hZ (BN λi j=>.bl (decide (i<j))) (jh dn [] E0 (bq (bB 0) (bq (tC (.int 9)) fR))) (tC (.int 8)))) fR))))) σ H1 Qc:=by
  intro σ j m H1 gg e0 e1 e2 e3 e4 U_ hj m0 m3 Qc qc;refine⟨_,e0,_,e1,_,e2,_,_,rfl,rfl,cN,λR hR=>?_⟩;have sR:=aj hR (.lst [V.int ((d:Int)-1),.int 0]);have gR:=gg.trans (bo.same gg.cn sR);have hRR:upd H1 R (.lst [V.int ((d:Int)-1),.int 0]) R=some (.lst [V.int ((d:Int)-1),.int 0]):=ag;have Qq:=sR _ _ U_;have kR:=bo.same gg.cn sR;revert gR hRR Qq kR;generalize upd H1 R (.lst [V.int ((d:Int)-1),.int 0])=HR;intro gR hRR Qq kR;refine⟨_,e3,rfl,.inr ⟨_,rfl,R,_,_,.int ((if wd="meet" then 0 else d-1:Nat):Int),rfl,rfl,aZ.of hRR,?_,_,e4,M,_,_,_,rfl,rfl,aZ.of Qq,hj,_,e3,rfl,_,rfl,?_⟩⟩
  ·rw[bQ];by_cases z:wd="meet"
   ·rw[WU z,Xu z];rfl
   ·rw[WT z,Xt z];show some (V.int ((d:Int)-1))=_;congr 2;omega
  rw[bQ];have hle:(if wd="meet" then 0 else d-1)<=N':=by split<;>omega
  by_cases z:wd="meet"
  ·rw[WU z];refine b_ ⟨_,e0,p,_,rfl,gR.cn,by decide,by decide,λd3 H3 g3 a3 b3=>⟨_,_,rfl,rfl,p,b,h,_,m.toNat,decide (d3<8),?_,g3.cn,hH.grow hP (gR.trans g3),hle,by omega,λu ws H' g' hp' hl'=>qc u ws H' ((kR.trans g3).trans g') hp' (by omega)⟩⟩;rw[show((m.toNat:Nat):Int)=m by omega];rfl
  ·rw[WT z];refine bF ⟨p,b,h,_,m.toNat,false,?_,gR.cn,hH.grow hP gR,hle,by omega,λu ws H' g' hp' hl'=>qc u ws H' (kR.trans g') hp' (by omega)⟩;rw[show((m.toNat:Nat):Int)=m by omega];rfl
 refine call _ 0 d1 HM gM rfl rfl rfl rfl rfl Py rfl a1 (by omega) _ λu1 Lr H3 g3 hp1 hl1=>ak ?_;have Mf:=gM.trans g3;dsimp only;refine call _ 1 d2 H3 Mf rfl rfl rfl rfl rfl (g3.keep M _ nM Py) rfl a2 (by omega) _ λu2 OU H4 g4 hp2 hl2=>ak ?_;have Ci:=Mf.trans g4;have hp1:=hp1.keep (aD.grow Mf.cn g4);have K0:=hH.grow hP Ci;dsimp only;refine⟨_,rfl,rfl,_,rfl,?_⟩;rw[bQ];by_cases z:wd="meet"
 ·rw[Xu z]at hp1 hp2;rw[WU z];have SJ:∀{H5:Hp}{u:Addr}{ws:List Wk},c_ K H5 b h->bO 0 H5 u ws->Ir 2 H5 b u h ws:=λhh hp=>⟨hh.tup,(hp.le (by decide)).pp,(hp.le (m:=2) (by decide)).ok,(hp.le (m:=2) (by decide)).dr,hh.few⟩;have hend:∀{ws:List Wk},rT 2 ws->(Ee 2 h ws).length<=6/\1<=(Ee 2 h ws).length:=by
   intro ws hd;unfold Ee;have hne:h≠[]:=λe=>by have:=hH.pos;rw[e]at this;cases this
   cases er:jw 2 h ws with
   |ok h' f' =>refine⟨Ac hH.few er,?_⟩;have:=Nj hd hne er;exact Nat.pos_of_ne_zero λz=>this (List.eq_nil_of_length_eq_zero z)
   |no a s=>exact⟨hH.few,hH.pos⟩
  refine b_ ⟨_,rfl,_,rfl,_,rfl,b,u1,h,Lr,rfl,SJ K0 hp1,by decide,Bj,λv1 H5 s5 hv1=>?_⟩;have g5:=bo.same Ci.cn s5;have k5:=aD.of s5;obtain⟨z1,z2⟩:=hend (hp1.le (m:=2) (by decide)).dr;refine⟨p,v1,_,rfl,g5.cn,⟨hv1,z2,z1⟩,λc1 H6 g6 V8 Wu=>?_⟩;have Mv:=g5.trans g6;have rL:=aD.grow Ci.cn Mv;have V2:=K0.grow Ci.cn Mv;refine⟨_,rfl,_,rfl,_,rfl,b,u2,h,OU,rfl,SJ V2 (hp2.keep rL),by decide,Bj,λv2 H7 s7 hv2=>?_⟩;have Te:=bo.same Mv.cn s7;obtain⟨z3,z4⟩:=hend (hp2.le (m:=2) (by decide)).dr;refine⟨p,v2,_,rfl,Te.cn,⟨hv2,z4,z3⟩,λc2 H8 g8 V6 Wx=>⟨_,rfl,_,rfl,uO,λu hu'=>?_⟩⟩;have Ml:=(Mv.trans Te).trans g8;have sU:=aj hu' (.tup [.str "meet",.int c1,.int c2,.ref u1,.ref u2]);have Mp:=(aD.grow Ci.cn Ml).trans (aD.of sU);have q1:=(hp1.keep Mp).le (m:=d-1) (Xe _);have q2:=(hp2.keep Mp).le (m:=d-1) (Xe _);obtain⟨d',rfl⟩ :∃d',d=d'+1:=⟨d-1,by omega⟩;obtain⟨F5,hb1⟩:=q1.pp;obtain⟨V_,hb2⟩:=q2.pp;refine q u (.meet c1 c2 Lr OU) _ ((Ci.trans Ml).new hu') ⟨⟨u1,u2,F5,V_,ag,hb1,hb2⟩,⟨trivial,trivial,trivial,λp hp=>?_⟩,trivial,⟨V8,V6⟩,λp hp=>?_⟩
  ·simp only[cP,Xa,Xv,or_false]at hp;rcases hp with rfl|rfl<;>omega
  ·simp only[cP,Xa,Xv,or_false]at hp;rcases hp with rfl|rfl
   ·exact⟨q1.ok,q1.dr⟩
   ·exact⟨q2.ok,q2.dr⟩
 ·rw[Xt z]at hp1 hp2;rw[WT z];refine bF (aG ?_);dsimp only;obtain⟨d',rfl⟩ :∃d',d=d'+1:=⟨d-1,by omega⟩;have hp1:bO d' H4 u1 Lr:=hp1;have hp2:bO d' H4 u2 OU:=hp2;have fin:∀(σ:St)(u3:Addr)(Pj:List Wk)(H9:Hp),σ[5]? = some (some (.ref u1))->σ[6]? = some (some (.ref u3))->bo p H4 H9->bO d' H9 u3 Pj->Pj.length<=9->CT (IE (bq (tC (.str "both")) (bq (bB 5) (bq (bB 6) fR)))) {nx:=λ_ H'=>Q .non H',rt:=Q} σ H9:=by
   intro σ u3 Pj H9 e5 e6 g9 hp3 hl3;refine⟨_,e5,_,e6,f9,λu hu'=>?_⟩;have sU:=aj hu' (.tup [.str "both",.ref u1,.ref u3]);have q1:=hp1.keep ((aD.grow Ci.cn g9).trans (aD.of sU));have q3:=hp3.keep (aD.of sU);obtain⟨F5,hb1⟩:=q1.pp;obtain⟨UJ,hb3⟩:=q3.pp;refine q u (.both Lr Pj) _ ((Ci.trans g9).new hu') ⟨⟨u1,u3,F5,UJ,ag,hb1,hb3⟩,⟨trivial,trivial,trivial,λp hp=>?_⟩,trivial,trivial,λp hp=>?_⟩
   ·simp only[cP,Xa,Xv,or_false]at hp;rcases hp with rfl|rfl<;>omega
   ·simp only[cP,Xa,Xv,or_false]at hp;rcases hp with rfl|rfl
    ·exact⟨q1.ok,q1.dr⟩
    ·exact⟨q3.ok,q3.dr⟩
  refine⟨_,rfl,p,_,rfl,Ci.cn,by decide,by decide,λe5 H5 g5 a5 b5=>⟨_,_,rfl,rfl,_,rfl,cG (λy=>?_) (λy=>aG ?_)⟩⟩
  ·have PR:=K0.grow Ci.cn g5;obtain⟨s0,r0,hs0⟩ :∃s0 r0,h=s0::r0:=by
    cases h with
    |nil=>have:=hH.pos;cases this
    |cons s0 r0=>exact⟨s0,r0,rfl⟩
   refine⟨_,rfl,_,rfl,b,_,0,.str s0,rfl,rfl,aJ.of PR.tup,by rw[hs0];exact au (j:=0) rfl,p,s0,rfl,g5.cn,λsa t xs H6 g6 UM=>⟨f9,λk1 hk1=>⟨dz,λk2 hk2=>?_⟩⟩⟩;have s1:=aj hk1 (.tup [.str "keep",.int 1,.ref sa]);have s2:=aj hk2 (.tup [.ref k1]);have Pw:=g5.trans g6;have gk:=(Pw.trans (bo.same Pw.cn (s1.trans s2)));have ek2:upd (upd H6 k1 (.tup [.str "keep",.int 1,.ref sa])) k2 (.tup [.ref k1]) k2=some (.tup [.ref k1]):=ag;have ek1:kh (upd (upd H6 k1 (.tup [.str "keep",.int 1,.ref sa])) k2 (.tup [.ref k1])) k1 (.keep 1 t):=⟨sa,xs,s2 _ _ ag,s2 _ _ (s1 _ _ UM)⟩;revert gk ek2 ek1;generalize upd (upd H6 k1 (.tup [.str "keep",.int 1,.ref sa])) k2 (.tup [.ref k1])=Hk;intro gk ek2 ek1;refine⟨_,rfl,p,_,rfl,gk.cn,by decide,by decide,λe7 H7 g7 a7 b7=>?_⟩;have K8:=gk.trans g7;have k7:=aD.grow gk.cn g7;have Gw:=hp1.keep (aD.grow Ci.cn K8);obtain⟨F5,hb1⟩:=Gw.pp;have hz1:(F5.map V.ref).length<=3:=by rw[WV,hb1.len];exact hl1
   refine⟨k2,e7,_,rfl,rfl,aJ.of (k7 _ _ ek2),by simp,?_⟩;have hc:e7=0\/e7=1:=by omega
   rcases hc with rfl|rfl
   ·refine .inl ⟨rfl,λt0 ht0=>?_⟩;have s8:=aj ht0 (.tup []);refine⟨_,rfl,t0,u1,_,_,rfl,rfl,ag,s8 _ _ hb1.tup,by show 0+_<=_;exact WS (show 0+(F5.map V.ref).length<=10 by omega) (by decide),λu3 H9 s9 vm=>ak ?_⟩;have Tb:=s8.trans s9;have k9:=aD.of Tb;refine fin _ u3 Lr H9 rfl rfl (K8.trans (bo.same K8.cn Tb)) ⟨⟨F5,vm,hb1.len,λi a x e1 e2=>(hb1.at_ i a x e1 e2).keep k9⟩,Gw.ok,Gw.dr⟩ (by omega)
   ·refine .inr ⟨rfl,⟨_,rfl,k2,u1,_,_,rfl,rfl,k7 _ _ ek2,hb1.tup,by show 1+_<=_;exact WS (show 1+(F5.map V.ref).length<=10 by omega) (by decide),λu3 H9 s9 vm=>ak ?_⟩⟩;have k9:=aD.of s9;have hI9:bR (dv d') H9 u1 F5 Lr:=hb1.keep k9 λ_ _ z=>z.keep k9;have hw:p9 d' H9 k1 (.one (.keep 1 t)):=DS.all (ek1.keep (k7.trans k9)) ⟨trivial,trivial,trivial,λc hc=>by rw[W9.mp hc];exact Int.le_refl _⟩;refine fin _ u3 (.one (.keep 1 t)::Lr) H9 rfl rfl (K8.trans (bo.same K8.cn s9)) (bO.cons hI9 Gw.ok Gw.dr hw (by omega) vm) (by rw[Xp];omega)
  ·exact fin _ u2 OU H5 rfl rfl g5 (hp2.keep (aD.grow Ci.cn g5)) (by omega)
def iN:List Str:=["keep","same","cut","turn","must","walk","sort","apart","count","sum","number","first"]
theorem C4{s:Str}(h:s∈iN):(Ly s/\inV (.str s) nE=true)\/(EX s/\inV (.str s) nE=false/\inV (.str s) CK=false):=by
 simp only[iN,Xa,Xv,or_false]at h;rcases h with rfl|rfl|rfl|rfl|rfl|rfl|rfl|rfl|rfl|rfl|rfl|rfl
 ·exact .inl ⟨.inl rfl,by decide +kernel⟩
 ·exact .inl ⟨.inr (.inl rfl),by decide +kernel⟩
 ·exact .inl ⟨.inr (.inr (.inl rfl)),by decide +kernel⟩
 ·exact .inl ⟨.inr (.inr (.inr (.inl rfl))),by decide +kernel⟩
 ·exact .inl ⟨.inr (.inr (.inr (.inr rfl))),by decide +kernel⟩
 ·exact .inr ⟨.inl rfl,by decide +kernel,by decide +kernel⟩
 ·exact .inr ⟨.inr (.inl rfl),by decide +kernel,by decide +kernel⟩
 ·exact .inr ⟨.inr (.inr (.inl rfl)),by decide +kernel,by decide +kernel⟩
 ·exact .inr ⟨.inr (.inr (.inr (.inl rfl))),by decide +kernel,by decide +kernel⟩
 ·exact .inr ⟨.inr (.inr (.inr (.inr (.inl rfl)))),by decide +kernel,by decide +kernel⟩
 ·exact .inr ⟨.inr (.inr (.inr (.inr (.inr (.inl rfl))))),by decide +kernel,by decide +kernel⟩
 ·exact .inr ⟨.inr (.inr (.inr (.inr (.inr (.inr rfl))))),by decide +kernel,by decide +kernel⟩
theorem KA{s:Str}(h:s="both"\/s="meet"):inV (.str s) nE=false/\inV (.str s) CK=true:=by rcases h with rfl|rfl<;>exact⟨by decide +kernel,by decide +kernel⟩
theorem c_.same{K:XO}{a:Addr}{H H1:Hp}{hs:List Str}(h:c_ K H a hs)(s:aM H H1):c_ K H1 a hs:=⟨s _ _ h.tup,h.pos,h.few⟩
theorem FD{x:V}{xs:List V}{P Q:Prop}(e:inV x xs=true)(h:P):if(if false=true then !inV x xs else inV x xs)=true then P else Q:=by rw[Xt W6,e];exact h
theorem sI{x:V}{xs:List V}{P Q:Prop}(e:inV x xs=false)(h:Q):if(if false=true then !inV x xs else inV x xs)=true then P else Q:=by rw[Xt W6,e];exact h
abbrev hX:Stmt:=top 82
theorem eR:ay ["_law_pot_here","_law_head","_law_deep","_law_simple","_law_words","_law_word_here"] ["_law_pot_here","_law_head","_law_deep","_law_simple"] (ar hX):=fs
theorem p7{N L:Nat}(h5:5<=L)(B:kf mg)(B2:iY mg)(F:FA K mg "_law_worker" hX)
  (bj:bc bf P w K mg base 1 "_law_draw" ZD dn)
  (oy:bc bf P w K mg base 5 "_law_one_row" ZR (nY K Ly))
  (qH:bc bf P w K mg base L "_law_joining" ["_law_pot_here","_law_head","_law_deep","_law_word_here"] (zm K N))
  (ur:bc bf P w K mg base 5 "_law_other" ZR (nY K EX)) :
  bc bf P w K mg base (L+1) "_law_worker" ["_law_pot_here","_law_head","_law_deep","_law_simple"] (zr K N):=by
 refine F.ok eR λf cdv A outer s H vs Q E hr h=>?_;obtain⟨p,b,h,d,si,rfl,hP,hH,Pf,q⟩:=h;refine MM (Ls (i:=4) eR.nd rfl (Xw rfl) (Ll (dZ ⟨ao⟩ (dZ ⟨ao⟩ (dZ ⟨ao⟩ (dZ ⟨ao⟩ (dZ ⟨ao⟩ (dZ ⟨ao⟩ (dZ ⟨ao⟩ (dZ ⟨ao⟩ (dZ ⟨ao⟩ (dZ ⟨ao⟩ (dZ ⟨ao⟩ (dZ ⟨ao⟩ LC)))))))))))))
  ⟨(aq (aK (i:=4) eR.nd rfl (Xw rfl) (aF mx (cq (r:=OB K) IG (pv 4) dm (cz (bp K (aP (ae ai (ae ai ah))) (aU cB rfl B2.int XB (ae (pv 3) ah))))) (aF xn (aP (ae ao (ae ao ah))) (aU cB rfl B2.int XB (ae (bY iC (pv 2) ai) ah)))))
   (aq (aK (i:=5) eR.nd rfl (Xw rfl) (bp K (pv 4) (ax bj hr (ae (pv 0) (ae (aW bt rfl B.len XM (ae (pv 4) ah)) ah)))))
   (aN (dj cu (pv 5) (aP (ae ao (ae ao (ae ao (ae ao (ae ao ah)))))) rfl) (ax oy hr (ae (pv 0) (ae (pv 1) (ae (pv 5) ah))))
   (aN (dj cu (pv 5) (aP (ae ao (ae ao ah))) rfl) (ax qH hr (ae (pv 0) (ae (pv 1) (ae (pv 2) (ae (pv 5) ah)))))
   (av (ax ur hr (ae (pv 0) (ae (pv 1) (ae (pv 5) ah)))))))))⟩) ?_
 refine⟨Oc,λW hW=>ak ?_⟩;have g0:=(bo.refl hP).new (o:=.lst [V.str "keep",.str "same",.str "cut",.str "turn",.str "must",.str "walk",.str "sort",.str "apart",.str "count",.str "sum",.str "number",.str "first"]) hW;have nW:=(bo.refl hP).ne hW;have hW0:upd H W (.lst [V.str "keep",.str "same",.str "cut",.str "turn",.str "must",.str "walk",.str "sort",.str "apart",.str "count",.str "sum",.str "number",.str "first"]) W=some (.lst [V.str "keep",.str "same",.str "cut",.str "turn",.str "must",.str "walk",.str "sort",.str "apart",.str "count",.str "sum",.str "number",.str "first"]):=ag;revert g0 hW0;generalize upd H W (.lst [V.str "keep",.str "same",.str "cut",.str "turn",.str "must",.str "walk",.str "sort",.str "apart",.str "count",.str "sum",.str "number",.str "first"])=H0;intro g0 hW0;dsimp only;have V3:H0 W=some (.lst (iN.map V.str)):=hW0;clear hW0;have kk:∃k:Nat,k<=12/\1<=k/\jo [V.int 12,.int 5] (if si then 1 else 0)=some (.int k):=by
  cases si
  ·exact⟨12,by decide,by decide,rfl⟩
  ·exact⟨5,by decide,by decide,rfl⟩
 obtain⟨k,k12,k1,ek⟩:=kk;refine⟨_,rfl,cN,λR hR=>⟨_,rfl,.inr ⟨_,rfl,R,_,_,_,rfl,rfl,aZ.of ag,ek,_,rfl,W,_,rfl,aZ.of ((aj hR _) _ _ V3),λS hS=>⟨cN,λB1 Pk=>?_⟩⟩⟩⟩;have Q3:fP (iN.map V.str) none (some (k:Int))=(iN.take k).map V.str:=by rw[yf (by rw[WV];exact k12),List.map_take]
 rw[Q3]at Pk⊢;have gR:=g0.new (o:=.lst [V.int 12,.int 5]) hR;have gS:=gR.new (o:=.lst ((iN.take k).map V.str)) hS;have Tn:=aj Pk (.lst [V.str "both",.str "meet"]);have QG:=gS.new (o:=.lst [V.str "both",.str "meet"]) Pk;have eS:=Tn _ _ (ag (H:=upd H0 R (.lst [V.int 12,.int 5])) (a:=S) (o:=.lst ((iN.take k).map V.str)));have eB:upd (upd (upd H0 R (.lst [V.int 12,.int 5])) S (.lst ((iN.take k).map V.str))) B1 (.lst [V.str "both",.str "meet"]) B1=some (.lst [V.str "both",.str "meet"]):=ag;revert QG eS eB;generalize upd (upd (upd H0 R (.lst [V.int 12,.int 5])) S (.lst ((iN.take k).map V.str))) B1 (.lst [V.str "both",.str "meet"])=H1;intro QG eS eB;clear gS gR Tn Pk hS hR;have rr:∃e:Int,(if decide ((0:Int)<(d:Int))=true then(1:Int)else 0)=e/\((e=0/\(List.replicate e.toNat [V.str "both",.str "meet"]).flatten=([]:List Str).map V.str)\/(e=1/\1<=d/\(List.replicate e.toNat [V.str "both",.str "meet"]).flatten=([("both" : Str),"meet"]).map V.str)):=by
  by_cases z:(0:Int)<(d:Int)
  ·rw[WU z];exact⟨1,rfl,.inr ⟨rfl,by omega,rfl⟩⟩
  ·rw[WT z];exact⟨0,rfl,.inl ⟨rfl,rfl⟩⟩
 obtain⟨e,e1,e2⟩:=rr;have e3:∃ms:List Str,(List.replicate e.toNat [V.str "both",.str "meet"]).flatten=ms.map V.str/\ms.length<=2/\∀s∈ms,1<=d/\(s="both"\/s="meet"):=by
  rcases e2 with⟨_,h⟩|⟨_,h1,h⟩
  ·exact⟨[],h,by decide,λs hs=>by cases hs⟩
  ·exact⟨["both","meet"],h,by decide,λs hs=>⟨h1,by simpa using hs⟩⟩
 obtain⟨ms,em,lm,pm⟩:=e3;have WD:e=0\/e=1:=by rcases e2 with⟨h,_⟩|⟨h,_⟩;exact .inl h;exact .inr h
 refine⟨_,rfl,_,_,rfl,rfl,.inr ⟨_,rfl,B1,_,_,rfl,rfl,eB,?_⟩⟩;rw[e1];have ez:[V.str "both",V.str "meet"].length*e.toNat<=sizeLine:=by
  have:e.toNat<=1:=by omega
  exact WS (Nat.mul_le_mul_left 2 this) (by decide)
 refine⟨by omega,by omega,ez,λB2 hB2=>?_⟩;rw[em];have RL:=QG.new (o:=.lst (ms.map V.str)) hB2;have Vy:=aj hB2 (.lst (ms.map V.str));have lk:(iN.take k).length<=12:=by rw[Xj];exact WS (Nat.min_le_left _ _) k12
 refine⟨S,B2,_,_,rfl,rfl,Vy _ _ eS,ag,?_,λC hC=>ak ?_⟩
 ·rw[WV,WV];exact WS (show _<=14 by omega) (by decide)
 rw[←WX];have gC:=RL.new (o:=.lst ((iN.take k++ms).map V.str)) hC;have eC:upd (upd H1 B2 (.lst (ms.map V.str))) C (.lst ((iN.take k++ms).map V.str)) C=some (.lst ((iN.take k++ms).map V.str)):=ag;revert gC eC;generalize upd (upd H1 B2 (.lst (ms.map V.str))) C (.lst ((iN.take k++ms).map V.str))=H2;intro gC eC;dsimp only;have ln:(iN.take k++ms).length<=14/\1<=(iN.take k++ms).length:=by
  rw[WW];have:1<=(iN.take k).length:=by rw[Xj];exact Nat.le_min.mpr ⟨k1,by decide⟩
  omega
 have cls:∀s∈iN.take k++ms,s∈iN\/(1<=d/\(s="both"\/s="meet")):=by
  intro s hs;rcases Xc.mp hs with z|z
  ·exact .inl (List.mem_of_mem_take z)
  ·exact .inr (pm s z)
 revert eC;generalize iN.take k++ms=ns at ln cls;intro eC;refine⟨_,rfl,_,rfl,_,rfl,C,_,rfl,.inl (aZ.of eC),p,_,rfl,gC.cn,?_,?_,λe H3 g3 a3 b3=>?_⟩
 ·rw[WV];omega
 ·rw[WV];exact rM (by omega) (by omega)
 rw[WV]at b3;have Mf:=gC.trans g3;have nC:=RL.ne hC;obtain⟨j,rfl⟩ :∃j:Nat,e=j:=⟨e.toNat,by omega⟩;have hi:j<ns.length:=by omega
 obtain⟨wd,RK⟩ :∃wd,ns[j]? = some wd:=⟨_,W0 hi⟩;have hc:=cls wd (W4 RK);refine⟨C,_,_,.str wd,rfl,rfl,aZ.of (g3.keep C _ nC eC),au (by rw[Xi,RK];rfl),ak ?_⟩;dsimp only;have VL:=hH.grow hP Mf;refine⟨_,rfl,uO,λD1 hD1=>⟨D1,nE,rfl,.inl (aZ.of ag),rfl,rfl,_,rfl,?_⟩⟩;have g4:=Mf.new (o:=.lst nE) hD1;have K0:=VL.same (aj hD1 (.lst nE));rcases hc with hc|⟨hd1,hc⟩
 ·rcases C4 hc with⟨c1,c2⟩|⟨c1,c2,c3⟩
  ·refine FD c2 ⟨_,rfl,_,rfl,_,rfl,p,b,h,wd,rfl,g4.cn,K0,c1,λt x H' g' hx hdr _=>q t (.one x) H' (g4.trans g') (DS.all hx hdr)⟩
  ·refine sI c2 (aG ?_);dsimp only;refine⟨_,rfl,cN,λD2 hD2=>⟨D2,CK,rfl,.inl (aZ.of ag),rfl,rfl,_,rfl,sI c3 (aG ⟨_,rfl,_,rfl,_,rfl,p,b,h,wd,rfl,?_,K0.same (aj hD2 _),c1,λt x H' g' hx hdr _=>q t (.one x) H' ((g4.new hD2).trans g') (DS.all hx hdr)⟩)⟩⟩;exact(g4.new hD2).cn
 ·obtain⟨c2,c3⟩:=KA hc;refine sI c2 (aG ?_);dsimp only;refine⟨_,rfl,cN,λD2 hD2=>⟨D2,CK,rfl,.inl (aZ.of ag),rfl,rfl,_,rfl,FD c3 ⟨_,rfl,_,rfl,_,rfl,_,rfl,p,b,h,d,wd,rfl,?_,K0.same (aj hD2 _),hd1,Pf,hc,λt x H' g' hx=>q t x H' ((g4.new hD2).trans g') hx⟩⟩⟩;exact(g4.new hD2).cn
theorem Ex{h:Hd}{ws:List Wk}{h':Hd}{f':Fl}{n:Nat}(h6:h.length<=6)(h1:1<=h.length)(hd:rT n ws)(er:jw n h ws=.ok h' f'):1<=h'.length/\h'.length<=6:=by
 have hne:h≠[]:=λe=>by rw[e]at h1;cases h1
 have:=Nj hd hne er;exact⟨Nat.pos_of_ne_zero λz=>this (List.eq_nil_of_length_eq_zero z),Ac h6 er⟩
abbrev gQ:Stmt:=top 83
theorem cH:ay ["_law_pot_here","_law_head","_law_deep","_law_many_here","_law_simple","_law_pipe_here","_law_here","_law_k","_law_longer","_law_tale"] ["_law_pot_here","_law_head","_law_deep","_law_many_here","_law_simple"] (ar gQ):=fs
theorem pN{N L Lj:Nat}(hN:N<=2)(h5:5<=L)(Wz:Lj<=L)(B:kf mg)(B2:iY mg)(F:FA K mg "_law_pipe" gQ)
  (qJ:bc bf P w K mg base L "_law_worker" ["_law_pot_here","_law_head","_law_deep","_law_simple"] (zr K N))
  (h_:bc bf P w K mg base Lj "_law_judged" ZM (FF 2))
  (bj:bc bf P w K mg base 1 "_law_draw" ZD dn) :
  bc bf P w K mg base (L+1) "_law_pipe" ["_law_pot_here","_law_head","_law_deep","_law_many_here","_law_simple"] (lM K (N+1)):=by
 refine F.ok cH λf cdv A outer s H vs Q E hr h=>?_;obtain⟨p,b,h,d,m,si,rfl,hP,hH,Pf,hm,q⟩:=h;refine⟨_,(aq (aK (i:=5) cH.nd rfl (Xw rfl) (aH ah))
   (aq (aK (i:=6) cH.nd rfl (Xw rfl) (pv 1))
   (aq (fN PassesOwn.never rfl (dA rfl B.range (ae (pv 3) ah)) (bJ (i:=7) cH.nd rfl (Xw rfl))
    (aq (aK (i:=8) cH.nd rfl (Xw rfl) (aF bN (pv 5) (aH (ae (ax qJ hr (ae (pv 0) (ae (pv 6) (ae (pv 2) (ae (pv 4) ah))))) ah))))
     (aq (aK (i:=9) cH.nd rfl (Xw rfl) (ax h_ hr (ae (pv 1) (ae (pv 8) ah))))
     (bA (dg (PW.pt (NY (aX aQ (az K (pv 9) ai) ao) (KG (aX aQ (ax bj hr (ae (pv 0) (ae ai ah))) ai))))
      (aq (aK (i:=5) cH.nd rfl (Xw rfl) (pv 8))
       (bA (aK (i:=6) cH.nd rfl (Xw rfl) (az K (aF bN (aF wG (cq cU (pv 9) (cz ai) (cz ai)) (aU cB rfl B2.int XB (ae (bY aQ (az K (pv 9) ai) ao) ah))) (aH (ae (pv 6) ah))) ai))))
      bU)))))
   (av (pv 5))))),?_⟩
 refine⟨wR,λu0 hu0=>ak ⟨_,rfl,ak ?_⟩⟩;have s0:=aj hu0 (.tup []);have g0:=bo.same hP s0;have e0:upd H u0 (.tup []) u0=some (.tup []):=ag;revert s0 g0 e0;generalize upd H u0 (.tup [])=H0;intro s0 g0 e0;dsimp only;refine⟨_,rfl,m,rfl,by omega,by omega,?_⟩;have p0:bO d H0 u0 []:=by
  refine⟨⟨[],e0,rfl,λi a x e1 e2=>by cases e1⟩,?_,?_⟩
  ·cases d<;>exact⟨by decide,λx hx=>by cases hx⟩
  ·cases d<;>exact λx hx=>by cases hx
 refine gj (n:=m) (λi σ H'=>∃(u bh:Addr)(ws:List Wk)(hh:Hd),(∃o7 o8 o9,σ=[some (.ref p),some (.ref b),some (.int d),some (.int m),some (.bl si),some (.ref u),some (.ref bh),o7,o8,o9])/\bo p H H'/\bO d H' u ws/\ws.length<=i/\c_ K H' bh hh)
  ⟨u0,b,[],h,⟨none,none,none,rfl⟩,g0,p0,WR _,hH.same s0⟩ ?_ ?_
 ·rintro i σ H' hi ⟨u,bh,ws,hh,⟨o7,o8,o9,rfl⟩,g,hp,hl,Qn⟩;refine ak ⟨_,rfl,_,rfl,_,rfl,_,rfl,_,rfl,p,bh,hh,d,si,rfl,g.cn,Qn,Pf,λwa x H1 g1 hx=>⟨dz,λt1 ht1=>?_⟩⟩;have k1:=aD.grow g.cn g1;have hp1:=hp.keep k1;obtain⟨bs,hb⟩:=hp1.pp;have sT:=aj ht1 (.tup [.ref wa]);refine⟨u,t1,_,_,rfl,rfl,sT _ _ hb.tup,ag,?_,λv H2 s2 hv=>ak ?_⟩
  ·rw[WV,hb.len];exact WS (show ws.length+1<=20 by omega) (by decide)
  have s12:=sT.trans s2;have F_:=(g.trans g1);have g2:=F_.trans (bo.same F_.cn s12);have k2:=aD.of s12;have hb2:bR (dv d) H2 u bs ws:=hb.keep k2 λ_ _ z=>z.keep k2;have hx2:p9 d H2 wa x:=⟨hx.wk.keep k2,hx.ok,hx.dr,hx.pm,hx.br⟩;have hp2:bO d H2 v (ws++[x]):=bO.snoc hb2 hp1.ok hp1.dr hx2 (by omega) (by rw[hv,WX];rfl);have hH2:=hH.grow hP g2;have Uz:=Qn.grow g.cn (g1.trans (bo.same F_.cn s12));have PD:=s12;clear hb2 hx2 k2 s12 sT hb hp1 k1;dsimp only;have hq2:=hp2.le (m:=2) (by omega);refine⟨_,rfl,_,rfl,b,v,h,ws++[x],rfl,⟨hH2.tup,hq2.pp,hq2.ok,hq2.dr,hH2.few⟩,by decide,Bj,λt3 H3 s3 hR=>ak ?_⟩;have g3:=g2.trans (bo.same g2.cn s3);have hp3:=hp2.keep (aD.of s3);have hh3:=Uz.same s3;have hl3:(ws++[x]).length<=i+1:=by rw[WW];exact Nat.succ_le_succ hl
  dsimp only;cases er:jw 2 h (ws++[x])with
  |ok h' f' =>rw[er]at hR;obtain⟨a1,a2,r1,r2,r3⟩:=hR;refine⟨_,rfl,t3,_,0,_,rfl,rfl,aJ.of r1,au (j:=0) rfl,rfl,_,rfl,?_⟩;rw[bQ,WU rfl];refine b_ (b_ ⟨_,rfl,ak ⟨_,rfl,_,rfl,_,rfl,t3,_,rfl,r1,λt4 H4 s4 FR=>⟨_,rfl,t3,_,0,_,rfl,rfl,aJ.of (s4 _ _ r1),au (j:=0) rfl,rfl,.inr ⟨_,rfl,t4,1,[.ref a1],rfl,?_⟩⟩⟩⟩);refine⟨by rw[bQ,WU rfl];rfl,aJ.of FR,by simp,.inr ⟨rfl,_,rfl,dz,λt5 Rt=>?_⟩⟩;have s5:=aj Rt (.tup [.ref bh]);refine⟨t4,t5,_,_,rfl,rfl,s5 _ _ FR,ag,cN,λt6 H6 s6 nZ=>⟨t6,_,0,.ref a1,rfl,rfl,aJ.of nZ,rfl,ak ?_⟩⟩;have J3:=(s4.trans s5).trans s6;obtain⟨z1,z2⟩:=Ex hH2.few hH2.pos hq2.dr er;exact⟨v,a1,ws++[x],h',⟨_,_,_,rfl⟩,g3.trans (bo.same g3.cn J3),hp3.keep (aD.of J3),hl3,⟨J3 _ _ r2,z1,z2⟩⟩
  |no pl sl =>
   rw[er]at hR;obtain⟨a1,r1,r2⟩:=hR;refine⟨_,rfl,t3,_,0,_,rfl,rfl,aJ.of r1,au (j:=0) rfl,rfl,_,rfl,?_⟩;rw[bQ,WT (by decide +kernel)];refine bF ⟨_,rfl,p,_,rfl,g3.cn,by decide,by decide,λe4 H4 g4 a4 b4=>⟨rfl,_,rfl,?_⟩⟩;have Oy:=g3.trans g4;have k4:=aD.grow g3.cn g4;have r1:=k4 _ _ r1;have U6:=hp3.keep k4;have S6:=hh3.grow g3.cn g4;refine cG (λ_=>⟨_,rfl,ak ⟨_,rfl,_,rfl,_,rfl,t3,_,rfl,r1,λt4 H4 s4 FR=>⟨_,rfl,t3,_,0,_,rfl,rfl,aJ.of (s4 _ _ r1),au (j:=0) rfl,rfl,.inr ⟨_,rfl,t4,0,[.ref a1],rfl,?_⟩⟩⟩⟩) (λ_=>aG ?_)
   ·refine⟨by rw[bQ,WT (by decide +kernel)];rfl,aJ.of FR,by simp,.inl ⟨rfl,λt7 Jf=>⟨_,rfl,dz,λt5 Rt=>?_⟩⟩⟩;have s7:=aj Jf (.tup []);have s5:=aj Rt (.tup [.ref bh]);refine⟨t7,t5,_,_,rfl,rfl,s5 _ _ ag,ag,dz,λt6 H6 s6 nZ=>⟨t6,_,0,.ref bh,rfl,rfl,aJ.of nZ,rfl,ak ?_⟩⟩;have J3:=((s4.trans s7).trans s5).trans s6;exact⟨v,bh,ws++[x],hh,⟨_,_,_,rfl⟩,Oy.trans (bo.same Oy.cn J3),U6.keep (aD.of J3),hl3,S6.same J3⟩
   ·exact⟨u,bh,ws,hh,⟨_,_,_,rfl⟩,Oy,(hp.keep (aD.grow g.cn (g1.trans (bo.same F_.cn (PD.trans s3))))).keep k4,Nat.le_succ_of_le hl,S6⟩
 ·rintro σ H' ⟨u,bh,ws,hh,⟨o7,o8,o9,rfl⟩,g,hp,hl,Qn⟩;exact⟨_,rfl,q u ws H' g hp hl⟩
theorem Ni{vs:List V}{b c:V}:jo (vs++[b,c]) (-2)=some b:=by
 unfold jo;have:w_ (vs++[b,c]).length (-2)=some vs.length:=by unfold w_;rw[WW];simp;omega
 rw[this];show(vs++[b,c])[vs.length]? = _;rw[Xg (WR _),Nat.sub_self];rfl
theorem Oj{vs:List V}{b c:V}:jo (vs++[b,c]) (-1)=some c:=by
 unfold jo;have:w_ (vs++[b,c]).length (-1)=some (vs.length+1):=by unfold w_;rw[WW];simp;omega
 rw[this];show(vs++[b,c])[vs.length+1]? = _;rw[Xg (Nat.le_succ _),Nat.succ_sub (WR _),Nat.sub_self];rfl
def oj:Nat->Sp
 | 0=>λ_ _ _ _=>False
 |n+1=>λvs H Q _=>∃(p:Addr)(ws:List Wk),vs=[.ref p]/\jP n H p ws/\∀(c:Int)(H':Hp),aM H H'->(ws=[]->c=0)->Q (.int c) H'
abbrev gP:Stmt:=top 84
theorem dO:ay ["_law_pipe_here","_law_many_here","_law_worker_here"] ["_law_pipe_here"] (ar gP):=fs
theorem oM{n L:Nat}(F:FA K mg "_law_many" gP)
  (gY:bc bf P w K mg base L "_law_many" ["_law_pipe_here"] (oj n)) :
  bc bf P w K mg base (L+1) "_law_many" ["_law_pipe_here"] (oj (n+1)):=by
 refine F.ok dO λf cdv A outer s H vs Q E hr h=>?_;obtain⟨p,ws,rfl,hp,q⟩:=h;refine⟨_,(aq (aK (i:=1) dO.nd rfl (Xw rfl) ai)
   (aq (fN PassesOwn.never rfl (cL (pv 0)) (bJ (i:=2) dO.nd rfl (Xw rfl))
    (aq (aK (i:=1) dO.nd rfl (Xw rfl) (aF cR (pv 1) ai))
     (bA (dg (dj cu (az K (pv 2) ai) (aP (ae ao (ae ao ah))) rfl)
      (bA (aK (i:=1) dO.nd rfl (Xw rfl) (aF cR (aF cR (pv 1) (ax gY hr (ae (az K (pv 2) (nq jT ai)) ah))) (ax gY hr (ae (az K (pv 2) (nq jT ai)) ah)))))
      bU))))
   (av (pv 1)))),?_⟩
 obtain⟨bs,hb⟩:=hp;refine ak ⟨_,rfl,p,rfl,⟨_,aJ.of hb.tup⟩,?_⟩;refine HD (xs:=bs.map V.ref) (λi σ H'=>∃c:Int,(∃o2,σ=[some (.ref p),some (.int c),o2])/\aM H H'/\(i=0->c=0)) ?_ ?_ ?_ ?_
 ·exact⟨0,⟨none,rfl⟩,aM.refl _,λ_=>rfl⟩
 ·rintro i σ H' _ ⟨c,_,s,_⟩;exact aJ.of (s _ _ hb.tup)
 ·rintro i v σ H' hv ⟨c,⟨o2,rfl⟩,s,_⟩;obtain⟨a,x,rfl,ex,hx⟩:=hb.get hv;refine ak ⟨_,rfl,_,_,rfl,rfl,ak ?_⟩;dsimp only;have hx1:=hx.keep (aD.of s);obtain⟨xs,hxs⟩:=hx1.first;refine⟨_,rfl,a,_,0,_,rfl,rfl,aJ.of hxs,au (j:=0) rfl,cN,λR hR=>⟨R,CK,rfl,.inl (aZ.of ag),rfl,rfl,_,rfl,?_⟩⟩;have sR:=s.trans (aj hR (.lst [V.str "both",.str "meet"]));revert sR;generalize upd H' R (.lst [V.str "both",.str "meet"])=H1;intro sR;cases hbr:b9 x with
  |false=>exact sI (zR.trans hbr) (aG ⟨_,⟨_,rfl⟩,sR,λz=>by cases z⟩)
  |true =>
   refine FD (zR.trans hbr) ?_;cases n with
   |zero=>rw[KR hx]at hbr;cases hbr
   |succ n =>obtain⟨vs,b,e,p1,p2,h1,h2,h3,h4⟩:=CL hx hbr;refine⟨_,rfl,_,rfl,_,rfl,a,_,_,_,rfl,rfl,aJ.of (sR _ _ h1),Ni,b,p1,rfl,h3.keep (aD.of sR),λc1 H2 s2 _=>⟨_,_,rfl,rfl,?_⟩⟩;have Ru:=sR.trans s2;refine⟨_,rfl,_,rfl,a,_,_,_,rfl,rfl,aJ.of (Ru _ _ h1),Oj,e,p2,rfl,h4.keep (aD.of Ru),λc2 H3 s3 _=>⟨_,_,rfl,rfl,ak ⟨_,⟨_,rfl⟩,Ru.trans s3,λz=>by cases z⟩⟩⟩
 ·rintro σ H' ⟨c,⟨o2,rfl⟩,s,hc⟩;refine⟨_,rfl,q c H' s λz=>hc ?_⟩;rw[WV,hb.len,z];rfl
theorem Eo{L:Nat}(F:FA K mg "_law_many" gP):bc bf P w K mg base (L+1) "_law_many" ["_law_pipe_here"] (oj 0) :=
 F.ok dO λ_ _ _ _ _ _ _ _ _ _ h=>Xy h
theorem EZ{L:Nat}(F:FA K mg "_law_pipe" gQ):bc bf P w K mg base (L+1) "_law_pipe" ["_law_pot_here","_law_head","_law_deep","_law_many_here","_law_simple"] (lM K 0) :=
 F.ok cH λ_ _ _ _ _ _ _ _ _ _ h=>Xy h
theorem Dg{xs:List V}(h:xs≠[]):fP xs none (some (-1))=xs.dropLast:=by
 have h1:1<=xs.length:=by cases xs with|nil=>exact Xs rfl h|cons _ _=>simp
 have e:HT.dN xs.length xs.length (some (-1))=xs.length-1:=by show(if(-1:Int)<0 then((-1:Int)+(xs.length:Int)).toNat else min (-1:Int).toNat xs.length)=_;rw[Xu (by decide)];omega
 unfold fP;rw[e,HT.lY,Nat.sub_zero,List.drop_zero,←List.dropLast_eq_take]
theorem bO.init{n:Nat}{H:Hp}{p u:Addr}{bs:Z8}{ws:List Wk}(hI:bR (dv n) H p bs ws)(ho:uW n ws)(hd:rT n ws)(hu:H u=some (.tup (bs.map V.ref).dropLast)):bO n H u ws.dropLast:=by
 refine⟨⟨bs.dropLast,by rw[hu,List.map_dropLast],by rw[List.length_dropLast,List.length_dropLast,hI.len],λi b y e1 e2=>?_⟩,?_,?_⟩
 ·rw[List.getElem?_dropLast]at e1 e2;split at e1
  ·split at e2
   ·exact hI.at_ i b y e1 e2
   ·cases e2
  ·cases e1
 ·have hl:ws.dropLast.length<=9:=by rw[List.length_dropLast];have:=ho.len;omega
  cases n with
  |zero=>exact⟨hl,λy hy=>ho.2 y (List.dropLast_subset _ hy)⟩
  |succ n=>exact⟨hl,λy hy=>ho.2 y (List.dropLast_subset _ hy)⟩
 ·cases n with
  |zero=>exact λy hy=>hd y (List.dropLast_subset _ hy)
  |succ n=>exact λy hy=>hd y (List.dropLast_subset _ hy)
def zQ(K:XO):Sp:=λvs H Q _=>∃(p:Addr),vs=[.ref p]/\dh H p/\∀(t b u:Addr)(h:Hd)(ws:List Wk)(H':Hp),bo p H H'->H' t=some (.tup [.ref b,.ref u])->c_ K H' b h->bO 2 H' u ws->Q (.ref t) H'
abbrev iS:Stmt:=top 85
theorem dW:ay ["_law_pot_here","_law_sorts_here","_law_head","_law_pipe_here"] ZF (ar iS):=fs
theorem EJ{L Lm:Nat}(h5:1<=L)(Wv:Lm<=L)(B:kf mg)(B2:iY mg)(F:FA K mg "_law_drawn" iS)
  (bj:bc bf P w K mg base 1 "_law_draw" ZD dn)
  (gZ:bc bf P w K mg base L "_law_pipe" ["_law_pot_here","_law_head","_law_deep","_law_many_here","_law_simple"] (lM K 3))
  (gY:bc bf P w K mg base Lm "_law_many" ["_law_pipe_here"] (oj 3)) :
  bc bf P w K mg base (L+1) "_law_drawn" ZF (zQ K):=by
 refine F.ok dW λf cdv A outer s H vs Q E hr h=>?_;obtain⟨p,rfl,hP,q⟩:=h;refine⟨_,(aq (kF (i:=1) (N':=["_law_k","_law_pot_here"]) (src:=[none,some 0]) dW.nd rfl (Xw rfl) rfl rfl (ba.j5 (by kernel_rfl)) (dA rfl B.range (ae (aF cR ai (ax bj hr (ae (pv 0) (ae ai ah)))) ah)) (λcl C s H fp=>(eE (i:=0))) (λcl C s H fp=>aY) (te:=(hZ (yv K) (yP (bq (tC (.str "n")) (bq (tC (.str "w")) (bq (tC (.str "n")) (bq (tC (.str "w")) (bq (tC (.str "n")) (bq (tC (.str "w")) (bq (tC (.str "t")) fR)))))))) (jh dn [] E0 (bq (bB 1) (bq (tC (.int 7)) fR))))) (λcl C s H fp=>(bp K (aP (ae ao (ae ao (ae ao (ae ao (ae ao (ae ao (ae ao ah)))))))) (ax (hg:=xS) bj hr (ae (Ae 1) (ae ai ah))))))
   (aq (aK (i:=2) dW.nd rfl (Xw rfl) (aU bE rfl B.tuple XA (ae (aF mx (pv 1) (aF xn (aF xn (aP (ae ao ah)) (aU cB rfl B2.int XB (ae (bY aQ (ax bj hr (ae (pv 0) (ae ai ah))) ai) ah))) ai)) ah)))
   (aq (aK (i:=3) dW.nd rfl (Xw rfl) (ax gZ hr (ae (pv 0) (ae (pv 2) (ae ai (ae (bp K (aP (ae (ax bj hr (ae (pv 0) (ae ai ah))) (ae (ax bj hr (ae (pv 0) (ae ai ah))) ah))) (ax bj hr (ae (pv 0) (ae ai ah)))) (ae eA ah)))))))
   (aq (D5 PassesOwn.never (aX iC (ax gY hr (ae (pv 3) ah)) ai)
    (bA (aK (i:=3) dW.nd rfl (Xw rfl) (cq cU (pv 3) dm (cz (nq jT ai))))))
   (av (aH (ae (pv 2) (ae (pv 3) ah)))))))),?_⟩
 have g0:=bo.refl hP;refine⟨_,rfl,p,_,rfl,hP,by decide,by decide,λe1 H1 g1 a1 b1=>⟨_,_,rfl,rfl,?_⟩⟩;refine⟨_,rfl,(ke (by omega) (by omega)).1,(ke (by omega) (by omega)).2,λDl hD=>?_⟩;have nD:=g1.ne hD;refine iZ (n:=(1+e1).toNat) (λi σ ys H'=>(∃o,σ=[o,some (.ref p)])/\(∃ns:List Str,ys=ns.map V.str/\ns.length=i)/\H' Dl=some (.lst ys)/\bo p H H')
  ⟨⟨none,rfl⟩,⟨[],rfl,rfl⟩,ag,g1.new hD⟩ ?_ ?_ ?_ ?_
 ·rintro i σ ys H' _ ⟨_,⟨ns,rfl,rfl⟩,h,_⟩;exact⟨h,by rw[WV];exact WR _⟩
 ·exact WS (show(1+e1).toNat<=10 by omega) (by decide)
 ·rintro i σ ys H' hi ⟨⟨o,rfl⟩,⟨ns,rfl,rfl⟩,h,g⟩;refine⟨Qv,λR hR=>?_⟩;have gr:=g.new (o:=.lst [V.str "n",.str "w",.str "n",.str "w",.str "n",.str "w",.str "t"]) hR;refine⟨_,rfl,p,_,rfl,gr.cn,by decide,by decide,λe2 H2 g2 a2 b2=>?_⟩;have hk:=g2.keep R _ (g.ne hR) ag;have hk2:=g2.keep Dl _ nD ((aj hR _) _ _ h);have hz:∃z:Str,jo [V.str "n",.str "w",.str "n",.str "w",.str "n",.str "w",.str "t"] e2=some (.str z):=by
   have:e2=0\/e2=1\/e2=2\/e2=3\/e2=4\/e2=5\/e2=6:=by omega
   rcases this with z|z|z|z|z|z|z<;>subst z<;>exact⟨_,rfl⟩
  obtain⟨z,hz⟩:=hz;refine⟨R,_,_,_,rfl,rfl,aZ.of hk,hz,hk2,⟨_,rfl⟩,⟨ns++[z],by rw[WX];rfl,by rw[WW];rfl⟩,ag,?_⟩;exact g1.put hD nD (gr.trans g2)
 ·rintro σ ys H' ⟨_,⟨ns,rfl,hl⟩,h,g⟩;refine ak ?_;dsimp only;refine⟨_,rfl,dz,λR hR=>?_⟩;have nR:=g.ne hR;have gR:=g.new (o:=.lst [V.str "w"]) hR;refine⟨_,rfl,p,_,rfl,gR.cn,by decide,by decide,λe2 H2 g2 a2 b2=>⟨rfl,.inr ⟨_,rfl,?_⟩⟩⟩;have R5:=gR.trans g2;have Ak:=g2.keep R _ nR (ag (H:=H') (a:=R) (o:=.lst [V.str "w"]));have hD2:=g2.keep Dl _ nD ((aj hR (.lst [V.str "w"])) _ _ h);have hH2:∃e:Int,(if decide (V.int e2=V.int 8)=true then(1:Int)else 0)=e/\0<=e/\e<=1/\∃ms:List Str,(List.replicate e.toNat [V.str "w"]).flatten=ms.map V.str/\ms.length<=1:=by
   cases decide (V.int e2=V.int 8)
   ·exact⟨0,rfl,by decide,by decide,[],rfl,by decide⟩
   ·exact⟨1,rfl,by decide,by decide,["w"],rfl,by decide⟩
  obtain⟨e,ee,e0,e1',ms,em,lm⟩:=hH2;rw[ee];have ez:[V.str "w"].length*e.toNat<=sizeLine:=by
   have:e.toNat<=1:=by omega
   exact WS (Nat.mul_le_mul_left 1 this) (by decide)
  refine⟨R,e,_,rfl,rfl,Ak,by omega,by omega,ez,λR3 QR=>?_⟩;rw[em];have s3:=aj QR (.lst (ms.map V.str));refine⟨R3,2,_,rfl,rfl,ag,by decide,by decide,(by rw[WV];exact WS (Nat.mul_le_mul_right 2 lm) (by decide)),λR4 UK=>?_⟩;have TH:(List.replicate (2:Int).toNat (ms.map V.str)).flatten=(ms++ms).map V.str:=by rw[WX];show ms.map V.str++(ms.map V.str++[])=_;rw[XC]
  rw[TH];have s4:=aj UK (.lst ((ms++ms).map V.str));refine⟨Dl,R4,_,_,rfl,rfl,s4 _ _ (s3 _ _ hD2),ag,?_,λC hC=>?_⟩
  ·rw[WV,WV,WW];exact WS (show _<=20 by omega) (by decide)
  rw[←WX];have s5:=aj hC (.lst ((ns++(ms++ms)).map V.str));refine⟨C,_,rfl,.inl ⟨aZ.of ag,λa ha=>ak ?_⟩⟩;have s6:=aj ha (.tup ((ns++(ms++ms)).map V.str));have g6:=R5.trans (bo.same R5.cn (((s3.trans s4).trans s5).trans s6));have hlen:(ns++(ms++ms)).length=ns.length+(ms.length+ms.length):=by rw[WW,WW]
  have hh:c_ K (upd (upd (upd (upd H2 R3 (.lst (ms.map V.str))) R4 (.lst ((ms++ms).map V.str))) C (.lst ((ns++(ms++ms)).map V.str))) a (.tup ((ns++(ms++ms)).map V.str))) a (ns++(ms++ms)):=⟨ag,by omega,by omega⟩;revert g6 hh;generalize upd (upd (upd (upd H2 R3 (.lst (ms.map V.str))) R4 (.lst ((ms++ms).map V.str))) C (.lst ((ns++(ms++ms)).map V.str))) a (.tup ((ns++(ms++ms)).map V.str))=H6;generalize ns++(ms++ms)=hd;intro g6 hh;dsimp only;refine⟨_,rfl,_,rfl,?_⟩;refine⟨_,rfl,p,_,rfl,g6.cn,by decide,by decide,λm1 H7 g7 a7 b7=>?_⟩;have k7:=g6.trans g7;refine⟨_,rfl,p,_,rfl,k7.cn,by decide,by decide,λm2 H8 g8 a8 b8=>?_⟩;have k8:=k7.trans g8;refine⟨cN,λR9 IU=>?_⟩;have k9:=k8.new (o:=.lst [.int m1,.int m2]) IU;refine⟨_,rfl,p,_,rfl,k9.cn,by decide,by decide,λm3 Bl JI a10 b10=>?_⟩;have k10:=k9.trans JI;have hk:=JI.keep R9 _ (k8.ne IU) ag;have hz:∃z:Nat,jo [V.int m1,V.int m2] m3=some (.int z)/\z<=9:=by
   have:m3=0\/m3=1:=by omega
   rcases this with z|z<;>subst z
   ·exact⟨m1.toNat,by rw[show((m1.toNat:Nat):Int)=m1 by omega];rfl,by omega⟩
   ·exact⟨m2.toNat,by rw[show((m2.toNat:Nat):Int)=m2 by omega];rfl,by omega⟩
  obtain⟨z,hz,z9⟩:=hz;refine⟨R9,_,_,_,rfl,rfl,aZ.of hk,hz,?_⟩;have MB:=hh.grow g6.cn ((g7.trans g8).trans ((bo.refl k8.cn).new IU |>.trans JI));refine⟨p,a,hd,2,z,false,rfl,k10.cn,MB,by decide,z9,λu ws PL O4 Rf _=>ak ?_⟩;have k11:=k10.trans O4;have P5:=MB.grow k10.cn O4;dsimp only;refine⟨λm σ H'=>∃u ws,σ=[some (.ref p),some (.ref Dl),some (.ref a),some (.ref u)]/\ws.length=m/\bO 2 H' u ws/\c_ K H' a hd/\bo p H H',⟨_,u,ws,rfl,rfl,Rf,P5,k11⟩,?_⟩;rintro m σ H' ⟨u,ws,rfl,hm,hp,hh,g⟩;obtain⟨bs,hb⟩:=hp.pp;refine⟨_,rfl,u,ws,rfl,⟨bs,hb⟩,λc H7 s7 hc=>?_⟩;refine⟨_,_,rfl,rfl,_,rfl,?_⟩;have g7:=g.trans (bo.same g.cn s7);have Tg:=hh.same s7;refine cG (λcc=>?_) (λcc=>?_)
  ·have Wy:(20:Int)<c:=by simpa using cc
   have hne:ws≠[]:=λz=>by have:=hc z;omega
   have wl:1<=ws.length:=by cases ws with|nil=>exact Xs rfl hne|cons _ _=>simp
   have U8:bs.map V.ref≠[]:=λz=>by have:=congrArg List.length z;rw[WV,hb.len]at this;exact hne (List.eq_nil_of_length_eq_zero this)
   refine⟨λσ' J6=>∃m',m'<m/\∃u ws,σ'=[some (.ref p),some (.ref Dl),some (.ref a),some (.ref u)]/\ws.length=m'/\bO 2 J6 u ws/\c_ K J6 a hd/\bo p H J6,λσ' J6 z=>z,?_⟩;refine⟨_,rfl,_,rfl,_,rfl,u,_,rfl,s7 _ _ hb.tup,λv H8 s8 hv=>ak ?_⟩;rw[Dg U8]at hv;have Pe:=s7.trans s8;have Oz:=aD.of Pe;exact⟨ws.length-1,by omega,v,ws.dropLast,rfl,by rw[List.length_dropLast],bO.init (hb.keep Oz λ_ _ z=>z.keep Oz) hp.ok hp.dr hv,Tg.same s8,g7.trans (bo.same g7.cn s8)⟩
  ·refine⟨_,rfl,_,rfl,cN,λt ht=>?_⟩;have sT:=aj ht (.tup [.ref a,.ref u]);exact q t a u hd ws _ (g7.new ht) ag (Tg.same sT) (hp.keep (aD.of (s7.trans sT)))
structure L4(K:XO)(mg:Z2)(C:Addr):Prop where
 xc:jq K C
 OV:iW K C s_ "ValueError.__new__" none=true
 mf:mg "NoPlace"=some (.ref C)
def seek(t:Tr)(p:List Int):Option Bool:=(t.find? λe=>decide (e.1=p)).map (·.2)
def E9(CP:Addr):Sp:=λvs H Q E=>∃(l pa:Addr)(as:Z8)(t:Tr)(p:List Int),vs=[.ref l,.ref pa]/\H l=some (.lst (as.map V.ref))/\jd H as t/\H pa=some (.tup (p.map V.int))/\
 (seek t p=none->∀(e:Addr)(H':Hp),aM H H'->H' e=some (xO e CP none)->E (.ref CP) (some e) H')/\
 (∀b,seek t p=some b->∀(u:Addr)(hh:V)(H':Hp),aM H H'->H' u=some (.tup [hh,.bl b])->Q (.ref u) H')
def dI(p:List Int):D:=.tup (p.map D.int)
theorem qt{K:XO}{H:Hp}{a:Addr}{p:List Int}(h:H a=some (.tup (p.map V.int))):a_ K H (dI p) (.ref a):=by
 refine lV h (bL.of (by rw[WV,WV]) λi d v e1 e2=>?_);rw[Xi]at e1 e2;cases q:p[i]? with
 |none=>rw[q]at e1;cases e1
 |some x=>rw[q]at e1 e2;cases e1;cases e2;exact Au x
theorem Sz:∀(p q:List Int),fU (p.map D.int) (q.map D.int)=decide (p=q)
 |[],[]=>by rw[List.map_nil,fU];rfl
 |[],y::q=>by rw[List.map_nil,XH];simp[fU]
 |x::p,[]=>by rw[List.map_nil,XH];simp[fU]
 |x::p,y::q=>by rw[XH,XH,fU,Sz p q,cJ];rw[Bool.eq_iff_iff];simp
theorem NS(p q:List Int):cJ (dI p) (dI q)=decide (p=q):=by unfold dI;rw[cJ];exact Sz p q
theorem zM(p:List Int):(dI p).depth<=1:=by
 unfold dI;rw[D.depth];have:∀l:List Int,cE (l.map D.int)=0:=λl=>by
  induction l with
  |nil=>rfl
  |cons a l ih=>rw[XH,cE,ih];simp[D.depth]
 rw[this];exact WR _
theorem Gm{t:Tr}{p:List Int}{i:Nat}{e:List Int×Bool}(h:∀e∈t.take i,e.1≠p)(he:t[i]? = some e)(ep:e.1=p):seek t p=some e.2:=by
 have e0:t=t.take i++e::t.drop (i+1):=by rw[←gO he,List.take_append_drop]
 unfold seek;rw[e0,List.find?_append,List.find?_eq_none.mpr λx hx=>(by simpa using h x hx)];simp[ep]
theorem Gf{t:Tr}{p:List Int}(h:∀e∈t,e.1≠p):seek t p=none:=by unfold seek;rw[List.find?_eq_none.mpr λx hx=>(by simpa using h x hx)];rfl
abbrev j7:Stmt:=top 50
theorem i3:ay ["seen","place","there","head","loose"] ["seen","place"] (ar j7):=fs
theorem GK{CP:Addr}(Cp:L4 K mg CP)(F:FA K mg "look_up" j7) :
  bc (yK P w) P w K mg base 1 "look_up" ["seen","place"] (E9 CP):=by
 refine F.LP i3 λf cdv A outer s H vs Q E hr h=>?_;have hu:=iO hr;obtain⟨l,pa,as,t,p,rfl,hl,hT,hp,qx,q⟩:=h;refine⟨_,(aq (fN (yF pU) rfl (dX (pv 0)) (cA rfl (aA (bJ (i:=2) i3.nd rfl (Xw rfl)) (aA (bJ (i:=3) i3.nd rfl (Xw rfl)) (aA (bJ (i:=4) i3.nd rfl (Xw rfl)) bT))))
    (bA (dg (aX CB (pv 2) (pv 1))
      (av (aH (ae (pv 3) (ae (pv 4) ah))))
      bU)))
   (bA (Ea rfl Cp.OV rfl Cp.mf (ae ao ah)))),?_⟩
 have hd:∀q:List Int,(A.deeper (PyProof.Rows.envOfC "look_up" (ar j7) s.heap.objs.size f cdv)).units+(dI q).depth<cLine:=λq=>by have:=zM q;have:=hu;omega
 refine⟨_,rfl,l,rfl,⟨_,aZ.of hl⟩,?_⟩;refine vj (xs:=as.map V.ref) (λi σ H'=>(∃o2 o3 o4,σ=[some (.ref l),some (.ref pa),o2,o3,o4])/\H'=H/\∀e∈t.take i,e.1≠p) ⟨⟨none,none,none,rfl⟩,rfl,by simp⟩ ?_ ?_ ?_
 ·rintro i σ H' _ ⟨_,rfl,_⟩;exact aZ.of hl
 ·rintro i v σ H' hv ⟨⟨o2,o3,o4,rfl⟩,rfl,hall⟩;rw[Xi]at hv;cases ea:as[i]? with
  |none=>rw[ea]at hv;cases hv
  |some a =>
   rw[ea]at hv;have hv':V.ref a=v:=Xf hv;subst hv';have hi:i<t.length:=by rw[←hT.len];exact(W8.mp ea).1
   have et:t[i]? = some t[i]:=W0 hi;obtain⟨c,hh,h1,h2⟩:=hT.at_ i a _ ea et;refine⟨a,_,rfl,aJ.of h1,rfl,_,_,rfl,ak ⟨_,_,rfl,ak ⟨_,_,rfl,ak ⟨rfl,?_⟩⟩⟩⟩;dsimp only;refine⟨_,rfl,_,rfl,dI t[i].1,dI p,qt h2,qt hp,hd _,_,rfl,?_⟩;rw[NS];refine cG (λc=>?_) λc=>?_
   ·have c':t[i].1=p:=Xr c;refine⟨_,rfl,_,rfl,cN,λu hu'=>?_⟩;exact q _ (Gm hall et c') u hh _ (aj hu' _) ag
   ·refine aG ⟨⟨_,_,_,rfl⟩,rfl,λe he=>?_⟩;rw[List.take_add_one,et]at he;rcases Xc.mp he with z|z
    ·exact hall e z
    ·have:e=t[i]:=by simpa using z
     rw[this];exact λz=>c (WU z)
 ·rintro σ H' ⟨⟨o2,o3,o4,rfl⟩,rfl,hall⟩;rw[WV,hT.len,Xx]at hall;refine⟨dz,λe he=>?_⟩;exact qx (Gf hall) e _ (aj he _) ag
def IY(C CP:Addr)(n:Nat):Sp:=λvs H Q E=>∃(a p pa:Addr)(hd:Hd)(ws:List Wk)(pi:List Int),vs=[.ref a,.ref p,.ref pa]/\ME n H a p hd ws/\H pa=some (.tup (pi.map V.int))/\2*n<=100/\bnd n<=100000/\
 (∀x s,jw n hd ws=.no x s->R_ C H x s E)/\
 (∀h f,jw n hd ws=.ok h f->(seek (TL n [] 0 hd f0 ws) pi=none->∀(e:Addr)(H':Hp),aM H H'->H' e=some (xO e CP none)->E (.ref CP) (some e) H')/\∀b,seek (TL n [] 0 hd f0 ws) pi=some b->∀(H':Hp),aM H H'->Q (.bl b) H')
abbrev kY:Stmt:=top 51
theorem wI:ay ["head","pipe","place"] ["head","pipe","place"] (ar kY):=fs
theorem yG{C CP:Addr}{n L:Nat}(F:FA K mg "is_loose" kY)
  (Bw:bc (yK P w) P w K mg base 1 "look_up" ["seen","place"] (E9 CP))
  (Fg:bc (yK P w) P w K mg base (L+7) "survey" ["head","pipe"] (DC C n)) :
  bc (yK P w) P w K mg base (L+8) "is_loose" ["head","pipe","place"] (IY C CP n):=by
 refine F.LP wI λf cdv A outer s H vs Q E hr h=>?_;have hu:=iO hr;obtain⟨a,p,pa,hd,ws,pi,rfl,hI,hpa,hn2,hbn,qx,q⟩:=h;refine⟨_,(av (az K (sC Bw hr rfl wA (ae (sC Fg hr rfl wA (ae (pv 0) (ae (pv 1) ah))) (ae (pv 2) ah))) ai)),?_⟩;refine⟨_,rfl,_,rfl,a,p,hd,ws,rfl,hI,hn2,hbn,qx,λh f he l H' as s' hl hT=>?_⟩;exact⟨_,rfl,l,pa,as,_,pi,rfl,hl,hT,s' _ _ hpa,λhs e H2 s2 he2=>(q h f he).1 hs e H2 (s'.trans s2) he2,λb hs u hh H2 s2 hu=>⟨u,_,1,_,rfl,rfl,aJ.of hu,rfl,(q h f he).2 b hs H2 (s'.trans s2)⟩⟩
theorem wx{X:Cx}{K:XO}{o:Expr}{ta:TE}{f:Str}{pos:Pos}(e:X.K=K)(he:PE X o ta)(hb:attributeBase o f X.env (eval o X.env)=eval o X.env):PE X (.Attribute o f pos) (Jx K ta f):=by subst e;exact FY he hb
theorem five{α:Type}{l:List α}(h:l.length=5):∃a b c d e,l=[a,b,c,d,e]:=by obtain⟨a,m,rfl,z0⟩:=oK (n:=4) h;obtain⟨b,m,rfl,z1⟩:=oK (n:=3) z0;obtain⟨c,m,rfl,z2⟩:=oK (n:=2) z1;obtain⟨d,m,rfl,z3⟩:=oK (n:=1) z2;obtain⟨e,m,rfl,z4⟩:=oK (n:=0) z3;cases List.length_eq_zero_iff.mp z4;exact⟨a,b,c,d,e,rfl⟩
theorem K_{v1 v2:V}:(AG v1 v2).lookup ("place" : Str)=some v1:=by rw[ej,Xt (by decide),ej,Xu rfl]
theorem Lc{v1 v2:V}:(AG v1 v2).lookup ("why" : Str)=some v2:=by rw[ej,Xu rfl]
def MC(K:XO):List V->Hp->VK->Prop:=λxs H Q=>∃x cv t c b,xs=[x,cv]/\SX cv c/\(kL K H x t\/∃a C,x=.ref a/\t=.ref C/\O0 K H a C)/\PySem.W.kitOne K t c=some b/\Q (.bl b) H
theorem p_{X:Cx}{K:XO}(e:X.K=K):eY X (.builtin "isinstance") (MC K):=by subst e;exact vB
structure MJ(K:XO)(mg:Z2)(C CP PE:Addr):Prop where
 mP:mg "PipeError"=some (.ref PE)
 ec:PySem.W.exmOne K (.ref C) (.ref PE)=some true
 ep:PySem.W.exmOne K (.ref CP) (.ref PE)=some true
 kc:PySem.W.kitOne K (.ref C) (.ref C)=some true
 kn:PySem.W.kitOne K (.ref CP) (.ref C)=some false
 kp:PySem.W.kitOne K (.ref CP) (.ref CP)=some true
 kb:PySem.W.kitOne K (.type "bool") (.type "bool")=some true
 mb:mg "bool"=none
def Pd(p:List Int)(s:Str):D:=.tup [.str "no",dI p,.str s]
theorem Jc{K:XO}{H:Hp}{u a:Addr}{p:List Int}{s:Str}(h1:H u=some (.tup [.str "no",.ref a,.str s]))(h2:H a=some (.tup (p.map V.int))):a_ K H (Pd p s) (.ref u) :=
 lV h1 (.cons (gW _) (.cons (qt h2) (.cons (gW _) .nil)))
def t_(h:Hd)(ws:List Wk)(pi:List Int):D:=match jw 2 h ws with
 | .no p s=>Pd p s
 | .ok _ _=>match seek (TL 2 [] 0 h f0 ws) pi with
  |none=>.str "no place"
  |some b=>.bl b
theorem CG{h:Hd}{ws:List Wk}{pi p:List Int}{s:Str}(e:jw 2 h ws=.no p s):t_ h ws pi=Pd p s:=by unfold t_;rw[e]
theorem zf{h h':Hd}{f':Fl}{ws:List Wk}{pi:List Int}(e:jw 2 h ws=.ok h' f'):t_ h ws pi=match seek (TL 2 [] 0 h f0 ws) pi with|none=>.str "no place"|some b=>.bl b:=by unfold t_;rw[e]
def Ja(K:XO):Sp:=λvs H Q _=>∃(b p pa:Addr)(h:Hd)(ws:List Wk)(pi:List Int),vs=[.ref b,.ref p,.ref pa]/\Ir 2 H b p h ws/\H pa=some (.tup (pi.map V.int))/\∀(v:V)(H':Hp),aM H H'->a_ K H' (t_ h ws pi) v->Q v H'
abbrev iX:Stmt:=top 86
theorem ik:ay ["_law_head","_law_pipe_here","_law_place","_law_found","e"] ["_law_head","_law_pipe_here","_law_place"] (ar iX):=fs
theorem Ey{L:Nat}{C fI CP PE:Addr}(B:kf mg)(Cf:KN K mg C fI)(Cp:L4 K mg CP)(T:MJ K mg C CP PE)(F:FA K mg "_law_asked" iX)
  (xB:bc (yK P w) P w K mg base L "is_loose" ["head","pipe","place"] (IY C CP 2)) :
  bc bf P w K mg base (L+1) "_law_asked" ["_law_head","_law_pipe_here","_law_place"] (Ja K):=by
 refine F.ok ik λf cdv A outer s H vs Q E hr h=>?_;obtain⟨b,p,pa,h,ws,pi,rfl,hI,hpa,q⟩:=h;refine⟨_,(aq (LK (E:=(λCv oa H'=>(Cv=.ref C/\∃(e dx pl:Addr)(ps:List Int)(sl:Str),oa=some e/\aM H H'/\H' e=some (xO e C (some dx))/\H' dx=some (xD dx (AG (.ref pl) (.str sl)))/\H' pl=some (.tup (ps.map V.int))/\jw 2 h ws=.no ps sl)\/(Cv=.ref CP/\∃(e:Addr)(h':Hd)(f':Fl),oa=some e/\aM H H'/\H' e=some (xO e CP none)/\jw 2 h ws=.ok h' f'/\seek (TL 2 [] 0 h f0 ws) pi=none))) (i:=4) (L:=s.heap.objs.size) ⟨⟨_,_,rfl,rfl⟩,rfl⟩ ik.nd rfl rfl rfl T.mP (λac=>(bA (aK (i:=3) ik.nd rfl (Xw rfl) (sC xB hr rfl wA (ae (pv 0) (ae (pv 1) (ae (pv 2) ah)))))))
    (λe=>(aN (e_ (aW (p_ (K:=K) rfl) rfl B.isinstance PyProof.Rows.boot_isinstance (ae (pv 4) (ae (Ft rfl Cf.mf) ah)))) (aH (ae ao (ae (wx (K:=K) rfl (pv 4) rfl) (ae (wx (K:=K) rfl (pv 4) rfl) ah))))
     (av (eP (e_ (aW (p_ (K:=K) rfl) rfl B.isinstance PyProof.Rows.boot_isinstance (ae (pv 4) (ae (Ft rfl Cp.mf) ah)))) ao ao)))))
   (av (eP (e_ (aW (p_ (K:=K) rfl) rfl B.isinstance PyProof.Rows.boot_isinstance (ae (pv 3) (ae (yd (n:="bool") rfl T.mb (by decide +kernel)) ah)))) (pv 3) ao))),?_⟩
 refine⟨?_,?_⟩
 ·refine⟨_,rfl,_,rfl,_,rfl,b,p,pa,h,ws,pi,rfl,⟨hI.hd,hI.six,hI.pp,hI.ok⟩,hpa,by decide,Bj,?_,?_⟩
  ·intro ps sl er e dx pl H1 s1 z1 z2 z3;exact .inl ⟨rfl,e,dx,pl,ps,sl,rfl,s1,z1,z2,z3,er⟩
  ·intro h' f' er;refine⟨λes e H1 s1 z1=>.inr ⟨rfl,e,h',f',rfl,s1,z1,er,es⟩,λb' es H1 s1=>ak ?_⟩;dsimp only;refine⟨_,rfl,_,_,_,_,_,rfl,rfl,.inl (.bl _),T.kb,_,rfl,?_⟩;refine b_ ⟨_,rfl,q _ _ s1 ?_⟩;rw[zf er,es];exact xx _
 ·rintro σ' C' e od H1 hl he (⟨e1,e',dx,pl,ps,sl,ea,s1,z1,z2,z3,z4⟩|⟨e1,e',h',f',ea,s1,z1,z2,z3⟩)
  ·cases e1;cases ea;refine⟨T.ec,?_⟩;obtain⟨b1,b2,b3,b4,b5,rfl⟩:=five (show σ'.length=5 from hl);have xa:O0 K H1 e C:=⟨Cf.xc,.inr ⟨dx,_,z1,z2⟩⟩;refine⟨_,rfl,_,_,_,_,_,rfl,rfl,.inr ⟨e,C,rfl,rfl,xa⟩,T.kc,_,rfl,?_⟩;refine b_ ⟨_,rfl,e,C,dx,_,_,rfl,z1,z2,Cf.xc,Cf.np,K_,_,rfl,e,C,dx,_,_,rfl,z1,z2,Cf.xc,Cf.nr,Lc,f9,λt ht=>?_⟩;have st:=aj ht (.tup [.str "no",.ref pl,.str sl]);refine q _ _ (s1.trans st) ?_;rw[CG z4];exact Jc ag (st _ _ z3)
  ·cases e1;cases ea;refine⟨T.ep,?_⟩;obtain⟨b1,b2,b3,b4,b5,rfl⟩:=five (show σ'.length=5 from hl);have xa:O0 K H1 e CP:=⟨Cp.xc,.inl z1⟩;refine⟨_,rfl,_,_,_,_,_,rfl,rfl,.inr ⟨e,CP,rfl,rfl,xa⟩,T.kn,_,rfl,?_⟩;refine bF (aG ⟨_,rfl,_,_,_,_,_,rfl,rfl,.inr ⟨e,CP,rfl,rfl,xa⟩,T.kp,_,rfl,?_⟩);refine b_ (q _ _ s1 ?_);rw[zf z2,z3];exact gW _
end My
namespace L2
open PySem PySem.Spec PyProof.Rows
section
variable{prog:Program}{w:World}{A:Around}{E:Z0}{s:Shared}{d it:Addr}{es:Array DictEntry}{ep i:Nat}{o:Obj}
theorem y_{Q:Z0}(lo:(d==sysModules)=false)(hT:s.TypeIs (.ref d) "dict")(ho:s.heap.get? d=some o)(hd:o.data=.dict es ep)
  (hQ:Q (.ref s.heap.objs.size) {s with heap:=s.heap.push {cls:=.type "dict_keyiterator",data:=.fields #[.ref d,.int 0 0,.int es.size 0,.int ep 0]}}):wpAny (model prog w) A (pyIter (.ref d)) Q E s:=by
 refine wpAny_pyIter_slot hT F.slot_dict_iter (XD F.slot_dict_iter hT F.entry_dict_iter ?_ (F.args_dict_iter_1 _));unfold Builtin.«dict.__iter__»;refine WL ?_;unfold Builtin.Dict.dictSlotNone;refine WL (wpAny_notOrdered_dict hT ?_);show wpAny _ _ (pure (Value.ref d)) _ _ s;refine WM ?_;show wpAny _ _ (Builtin.Dict.showsAll d >>= _) _ _ s;unfold Builtin.Dict.showsAll;rw[Xt (by rw[lo];exact W6)];refine WL (WM (WL (wpAny_dictEntries ho hd (WL (wpAny_dictEpoch ho hd ?_)))));refine WL (Xn (WM ⟨_,rfl,"dict_keyiterator",_,⟨_,WQ _ rfl,rfl⟩,F.slot_dict_keyiterator_next.lookup,?_⟩));simpa[rawInt] using hQ
theorem yx{Q:Z7->Shared->Prop}(hit:s.heap.IsKeyIter it d i es.size ep)(hod:s.heap.get? d=some o)(hdd:o.data=.dict es ep)(hlt:i<es.size)
  (hQ:∀h',h'.IsKeyIter it d (i+1) es.size ep->Heap.SameBut it s.heap h'->Q (some es[i].key) {s with heap:=h'}):wpAny (model prog w) A (pyNext (.ref it)) Q E s:=by
 obtain⟨o,ho,hc,hd⟩:=id hit;unfold pyNext;refine WL (wpAny_attempt (wpAny_callSpecial?_slot (name:=Str.ofString "__next__") hit.typeIs F.slot_dict_keyiterator_next
  (XD F.slot_dict_keyiterator_next hit.typeIs F.entry_dict_keyiterator_next ?_ (F.args_dict_keyiterator_next_1 _))))
 refine WL (WM (WL (WL ?_)));first|refine WL (wpAny_typeNameOfWhole_keyiter hit.typeIs (WM ?_))|refine WL (wpAny_typeNameOf_keyiter hit.typeIs (WM ?_))
 refine WL (wpAny_fieldsOf ho hd ?_);have hown:Builtin.Dict_items.ownsTuple "dict_keyiterator"=false:=by decide
 simp only[hown,Bool.false_eq_true,if_false];show wpAny _ _ (if(Value.ref d==Value.none)=true then _ else _) _ _ s;rw[Xt (show¬((Value.ref d==Value.none)=true) from W6)];refine WL (WM (WL (wpAny_dictEntries hod hdd ?_)));rw[Xt (by simp)];refine WL (WM (WL (wpAny_dictEpoch hod hdd ?_)));rw[Xt (by simp)];refine WM ?_;simp only[show¬((i:Int)<0) from by omega,if_false,Int.toNat_natCast,Xk hlt];refine WL ?_;first|refine WL (wpAny_typeNameOfWhole_keyiter hit.typeIs (WM ?_))|refine WL (wpAny_typeNameOf_keyiter hit.typeIs (WM ?_))
 refine WL (wpAny_isOneOf_keyiter hit.typeIs ?_);show wpAny _ _ (setField (.ref it) 1 (rawInt ((i:Int)+1)) >>= _) _ _ s;refine WL (wpAny_setField ho hd (by simp) ?_);have hit':(s.heap.update it (Obj.mapFields (·.setIfInBounds 1 (rawInt ((i:Int)+1))))).IsKeyIter it d (i+1) es.size ep :=
  ⟨_,Heap.get?_update_self _ ho (Obj.isFreed_of_fields (Obj.data_mapFields hd _)),(Obj.cls_mapFields ..).trans hc,by rw[Obj.data_mapFields hd];simp[rawInt]⟩
 refine WL (Xm ?_);refine WL (wpAny_isOneOf_keyiter (s:={s with heap:=s.heap.update it (Obj.mapFields (·.setIfInBounds 1 (rawInt ((i:Int)+1))))}) hit'.typeIs ?_);show wpAny _ _ (pure es[i].key) _ _ _;exact WM (WM ⟨_,rfl,WM (hQ _ hit' (Heap.SameBut.update ..))⟩)
theorem A8{Q:Z7->Shared->Prop}(hh:A.handled=none)(hit:s.heap.IsKeyIter it d i es.size ep)(hod:s.heap.get? d=some o)(hdd:o.data=.dict es ep)(hge:es.size<=i)
  (hQ:∀h',Heap.ExtBut it s.heap h'->Q none {s with heap:=h'}):wpAny (model prog w) A (pyNext (.ref it)) Q E s:=by
 obtain⟨o,ho,hc,hd⟩:=id hit;unfold pyNext;refine WL (wpAny_attempt (wpAny_callSpecial?_slot (name:=Str.ofString "__next__") hit.typeIs F.slot_dict_keyiterator_next
  (XD F.slot_dict_keyiterator_next hit.typeIs F.entry_dict_keyiterator_next ?_ (F.args_dict_keyiterator_next_1 _))))
 refine WL (WM (WL (WL ?_)));first|refine WL (wpAny_typeNameOfWhole_keyiter hit.typeIs (WM ?_))|refine WL (wpAny_typeNameOf_keyiter hit.typeIs (WM ?_))
 refine WL (wpAny_fieldsOf ho hd ?_);have hown:Builtin.Dict_items.ownsTuple "dict_keyiterator"=false:=by decide
 simp only[hown,Bool.false_eq_true,if_false];show wpAny _ _ (if(Value.ref d==Value.none)=true then _ else _) _ _ s;rw[Xt (show¬((Value.ref d==Value.none)=true) from W6)];refine WL (WM (WL (wpAny_dictEntries hod hdd ?_)));rw[Xt (by simp)];refine WL (WM (WL (wpAny_dictEpoch hod hdd ?_)));rw[Xt (by simp)];refine WM ?_;simp only[show¬((i:Int)<0) from by omega,if_false,Int.toNat_natCast,Array.getElem?_eq_none hge];refine WL ?_;first|refine WL (wpAny_typeNameOfWhole_keyiter hit.typeIs (WM ?_))|refine WL (wpAny_typeNameOf_keyiter hit.typeIs (WM ?_))
 show wpAny _ _ (setField (.ref it) 0 .none >>= _) _ _ s;refine WL (wpAny_setField ho hd (by simp) ?_);show wpAny _ _ (newExc (.type "StopIteration") [] >>= _) _ _ _;refine WL ?_;simp only[newExc,newTuple];refine WL (Xn ?_ (by size_fits));refine WL (m:=firstArgMember _ _) (wpAny_of_eq (a:=Value.none) (by first|rfl | (simp only[firstArgMember];rfl)) ?_);refine Xn ?_ (by size_fits);simp only[raiseNew];refine WL (wpAny_handled ?_);rw[show A.in1.handled=none from hh];refine WL (WM (wpAny_throw ?_));refine WL (wpAny_isInstance (T:="StopIteration") (b:=true) ⟨_,WQ _ rfl,rfl⟩ isSubtype_stop ?_);exact WM (hQ _ (((Heap.SameBut.update ..).extBut.push _).push _))
theorem yR(hh:A.handled=none)(I:Addr)(hne:d≠I)(hdd:o.data=.dict es ep) :
  Walks prog w A I [I,d] [I] es.size (λi v=>∃e,es[i]? = some e/\v=e.key) (λi h=>h.IsKeyIter I d i es.size ep/\h.get? d=some o) where
 sub:=λb hb=>by simp at hb;simp[hb]
 frame:=λ_ _ _ st hk=>⟨let ⟨q,h1,h2⟩:=st.1;⟨q,hk I (by simp) q h1,h2⟩,hk d (by simp) _ st.2⟩
 item:=λi s Q E hi st hQ=>yx st.1 st.2 hdd hi λh' hit' hs' =>
  hQ _ h' s.toks ⟨es[i],Xk hi,rfl⟩ ⟨hit',hs'.extBut _ _ hne st.2⟩ λb o hb e=>hs'.extBut b o (λh=>hb (by simp[h])) e
 done:=λs Q E st hQ=>A8 hh st.1 st.2 hdd (WR _) λh' he'=>hQ h' s.toks λb o hb e=>he' b o (λh=>hb (by simp[h])) e
 self:=λ_ _ _ _ st hQ=>wpAny_pyIter_keyiter st.1 hQ
theorem AX(lo:(d==sysModules)=false)(hc:o.cls=.type "dict")(hdd:o.data=.dict es ep):PySem.W.KdlSrc prog w "dict" d d es.size (λi v=>∃e,es[i]? = some e/\v=e.key) (λh=>h.get? d=some o) where
 type:=λ_ hm=>⟨o,hm,hc⟩
 there:=λ_ hm=>⟨WO hm,WO hm⟩
 keep:=λ_ _ hm hk=>hk d (.inl rfl) o hm
 notList:=by decide
 notTuple:=by decide
 hint:=λ_ _ _ _ hm hq=>PySem.W.kdl_hint_dict ⟨o,hm,hc⟩ hq
 iter:=λ_ _ hh hm=>⟨_,_,(λ_ _ hq=>y_ lo ⟨o,hm,hc⟩ hm hdd hq),yR hh _ (Xd (WO hm)) hdd,⟨⟨_,WQ _ rfl,rfl,rfl⟩,WN _ hm⟩⟩
end
theorem x3{α β:Type}{F:α->β->Prop}{l₁:List α}{l₂:List β}(h:Paired F l₁ l₂):∀{i:Nat}{x:α},l₁[i]? = some x->∃y,l₂[i]? = some y/\F x y:=by
 induction h with
 |nil=>intro i x e;cases e
 |cons r t ih =>
  intro i x e;cases i with
  |zero=>cases e;exact⟨_,rfl,r⟩
  |succ i=>exact ih e
section
variable{X:Cx}
theorem sN(hc:X.calm=true):eY X (.type "list") (λxs H Q=>∃(d:Addr)(kvs:List (List cS×V)),xs=[.ref d]/\H d=some (.dT kvs)/\∀(bs:Z8) l,H l=none->bs.length=kvs.length->(∀(i:Nat)(b:Addr)(k:List cS)(v:V),bs[i]? = some b->kvs[i]? = some (k,v)->H b=some (.tup (k.map oV)))->Q (.ref l) (upd H l (.lst (bs.map V.ref)))):=by
 intro ac s σ H xs us Q I r h;obtain⟨d,kvs,rfl,hd,q⟩:=h;obtain⟨u,rfl,rx⟩:=vals1 r;cases rx;obtain⟨z,lo,ks,rel,o,es,ep,h1,h2,h3,h4,_⟩:=(show cw X.prog X.w H s.heap d (.dT kvs) from I.hok d _ hd);have hl:es.size=ks.length:=by have:=congrArg List.length h4;rw[WV]at this;simpa using this
 have hz:=Paired.length rel;refine PySem.W.kdl_call (AX lo h2.1 h3) (I.ok.hd hc) h1 (by omega) λh' tk acc c' hk hl' hi'=>?_;have at_:∀(i:Nat)(v:Value),acc[i]? = some v->∃b,(ks.map (·.2.1))[i]? = some b/\v=Value.ref b:=λi v e=>by
  obtain⟨e',e1,rfl⟩:=hi'.2 i v e;have e2:es.toList[i]? = some e':=by simpa using e1
  rw[h4,Xi]at e2;cases hx:ks[i]? with
  |none=>rw[hx]at e2;cases e2
  |some x=>rw[hx]at e2;cases e2;exact⟨_,by rw[Xi,hx];rfl,rfl⟩
 have hV:Vals ((ks.map (·.2.1)).map V.ref) acc.toList:=by
  have key:∀(bs:Z8)(us:Z6),bs.length=us.length->(∀(i:Nat)(v:Value),us[i]? = some v->∃b,bs[i]? = some b/\v=Value.ref b)->Vals (bs.map V.ref) us:=by
   intro bs;induction bs with
   |nil=>intro us hl _;cases us with
    |nil=>exact .nil
    |cons=>cases hl
   |cons b bs ih=>intro us hl hx;cases us with
    |nil=>cases hl
    |cons u us =>refine .cons ?_ (ih us (by simpa using hl) λi v e=>by simpa using hx (i+1) v (by simpa using e));obtain⟨b',e1,e2⟩:=hx 0 u rfl;cases e1;rw[e2];rfl
  refine key _ _ (by have:=hi'.1;simp;omega) λi v e=>at_ i v (by simpa using e)
 refine⟨.ref s.heap.objs.size,_,I.laid (t':=tk) (o:=.lst ((ks.map (·.2.1)).map V.ref)) hk (WR _) ⟨?_,acc.toList,c',hV,by simpa using hl'⟩,rfl,q _ _ (I.hok.fresh (WR _)) (by rw[WV];omega) λi b k v e1 e2=>?_⟩
 ·rw[WV,WV];omega
 ·obtain⟨x,ex,e3,e4,e5⟩:=x3 rel e2;rw[Xi,ex]at e1;cases e1;exact e4
end
end L2
namespace My
open PySem L2
theorem EH{p q:List Int}(h:kI p=kI q):p=q:=(List.map_inj_right (λ_ _ e=>by cases e;rfl)).mp h
theorem vC:∀{t:Tr}{kv:TD},(∀e∈t,∀x∈kv,x.1≠kI e.1)->(t.map (·.1)).Nodup->l7 kv t=kv++t.map λe=>(kI e.1,V.bl e.2)
 |[],kv,_,_=>by simp[l7]
 |e::t,kv,h,nd=>by
  rw[XH,List.nodup_cons]at nd;have e1:putK kv (kI e.1) (.bl e.2)=kv++[(kI e.1,.bl e.2)]:=by unfold putK;rw[Xt];intro z;obtain⟨x,hx,z⟩:=List.any_eq_true.mp z;exact h e Xo x hx (Xr z)
  show l7 (putK kv (kI e.1) (.bl e.2)) t=_;rw[e1,vC (λe' he x hx=>?_) nd.2,List.append_assoc]
  ·rfl
  ·rcases Xc.mp hx with z|z
   ·exact h e' (W5 _ he) x z
   ·rw[W9.mp z];exact λz=>nd.1 (EH z▸List.mem_map_of_mem he)
theorem Bn{t:Tr}{p:List Int}:mU (t.map λe=>(kI e.1,V.bl e.2)) (kI p)=(seek t p).map V.bl:=by
 unfold mU seek;rw[List.find?_map,Option.map_map,Option.map_map];have:((λkv:List cS×V=>decide (kv.1=kI p))∘ λe:List Int×Bool=>(kI e.1,V.bl e.2)) = λe=>decide (e.1=p):=funext λe=>by show decide (kI e.1=kI p)=_;rw[Bool.eq_iff_iff];simp only[decide_eq_true_eq];exact⟨EH,λz=>by rw[z]⟩
 rw[this];rfl
theorem DM{st:Hd->Fl->List Int->Wk->Res}{tr:Hd->Fl->List Int->Wk->Tr}{c:Nat}(H:∀h f pl x,∀e∈tr h f pl x,e.1.length<=pl.length+c){pl:List Int}:∀(ws:List Wk)(i:Nat)(h:Hd)(f:Fl),∀e∈B8 st tr pl i h f ws,e.1.length<=pl.length+1+c
 |[],i,h,f,e,he=>by
  have:e=(pl++[(i:Int)],f.l):=by simpa[B8] using he
  rw[this];simp
 |x::ws,i,h,f,e,he=>by
  rcases Xa.mp he with rfl|he
  ·simp
  ·rcases Xc.mp he with z|z
   ·have:=H _ _ _ _ e z;simpa using this
   ·cases hs:st h f (pl++[(i:Int)]) x with
    |ok h' f'=>rw[hs]at z;exact DM H ws (i+1) h' f' e z
    |no a s=>rw[hs]at z;cases z
theorem IT{st:Hd->Fl->List Int->Wk->Res}{tr:Hd->Fl->List Int->Wk->Tr}{c:Nat}(H:∀h f pl x,∀e∈tr h f pl x,e.1.length<=pl.length+c){h:Hd}{f:Fl}{pl:List Int}:∀(ps:List (List Wk))(j:Nat),∀e∈Ca st tr h f pl ps j,e.1.length<=pl.length+2+c
 |[],j,e,he=>by cases he
 |p::ps,j,e,he=>by
  rcases Xc.mp he with z|z
  ·have:=DM H _ _ _ _ e z;simp at this;omega
  ·cases hs:putL st (pl++[(j:Int)]) 0 h f p with
   |ok h' f'=>rw[hs]at z;exact IT H ps (j+1) e z
   |no a s=>rw[hs]at z;cases z
theorem JL:∀(n:Nat)(h:Hd)(f:Fl)(pl:List Int)(x:Wk),∀e∈HW n h f pl x,e.1.length<=pl.length+2*n
 | 0,_,_,_,_,e,he=>by cases he
 |n+1,h,f,pl,x,e,he=>by have:=IT (JL n) _ _ e he;omega
theorem DJ(p:List Int)(c:Int):∃j,fP (p.map V.int) none (some c)=(p.take j).map V.int:=by unfold fP;rw[HT.lY,List.drop_zero,Nat.sub_zero,←List.map_take];exact⟨_,rfl⟩
def rj(H:Hp)(v:V):Prop:=∃(a:Addr)(p:List Int),v=.ref a/\H a=some (.tup (p.map V.int))
theorem rj.same{H H':Hp}{v:V}(s:aM H H')(h:rj H v):rj H' v:=let ⟨a,p,e,h⟩:=h;⟨a,p,e,s _ _ h⟩
theorem Kt{H:Hp}:∀v∈([]:List V),rj H v:=λv h=>by cases h
theorem fZ{H:Hp}{v:V}{vs:List V}(h:rj H v)(t:∀w∈vs,rj H w):∀w∈v::vs,rj H w:=λw hw=>by
 cases hw with
 |head=>exact h
 |tail _ z=>exact t w z
theorem AE{p:Addr}{H0 H1 H2:Hp}(hp:H0 p=none)(s:aM H0 H1)(g:bo p H1 H2):aM H0 H2:=λb o e=>g.keep b o (aV e hp) (s _ _ e)
theorem AN(h:Hd)(ws:List Wk)(pi:List Int):(t_ h ws pi).depth<=2:=by
 unfold t_;split
 ·unfold Pd;rw[D.depth,cE,cE,cE,cE];have:=zM ‹_›;simp[D.depth];omega
 ·split<;>simp[D.depth]
def An(K:XO):Sp:=λvs H Q _=>∃(a:Addr)(ns:List Int),vs=[.ref a]/\aZ K H a (ns.map V.int)/\ns.length<=63/\∀H',Q (.bl true) H'
inductive UR(a p b u fd v l c:Addr)(H8:Hp)(σ:St)(Ho:Hp):Prop
 |mk (l2:Addr) (odd:List V) (o1 lr lx:Option V) (st:σ=[some (.ref a),o1,some (.ref p),some (.ref b),some (.ref u),some (.ref fd),some (.ref v),some (.ref l),some (.ref c),some (.ref l2),lr,lx]) (h1:Ho l2=some (.lst odd)) (h2:aM H8 Ho) (h3:odd.length=9) (h4:∀v∈odd,rj Ho v)
inductive T7(a:Addr)(H:Hp)(σ:St)(H':Hp):Prop
 |mk (o1 o2 o3 o4 o5 o6 o7 o8 o9 lr lx:Option V) (st:σ=[some (.ref a),o1,o2,o3,o4,o5,o6,o7,o8,o9,lr,lx]) (s:aM H H')
inductive Tq(a p b u fd v l c:Addr)(H:Hp)(σ:St)(H':Hp):Prop
 |mk (o1 o9 lr lx:Option V) (st:σ=[some (.ref a),o1,some (.ref p),some (.ref b),some (.ref u),some (.ref fd),some (.ref v),some (.ref l),some (.ref c),o9,lr,lx]) (s:aM H H')
inductive VR(a p b u fd v l c ya:Addr)(K:XO)(H:Hp)(d:D)(σ:St)(H':Hp):Prop
 |mk (du:V) (o1 o9:Option V) (st:σ=[some (.ref a),o1,some (.ref p),some (.ref b),some (.ref u),some (.ref fd),some (.ref v),some (.ref l),some (.ref c),o9,some (.ref ya),some du]) (e:H'=H) (h:a_ K H d du)
theorem pick{h:Hd}{ws:List Wk}{H6:Hp}{bs:Z8}{d:Int}(d0:0<=d)(d1:d<(bs.map V.ref).length)(hbs:∀(i:Nat) c,bs[i]? = some c->∃e∈TL 2 [] 0 h f0 ws,H6 c=some (.tup (e.1.map V.int))):∃(c:Addr)(e:List Int×Bool),jo (bs.map V.ref) d=some (.ref c)/\e.1.length<=5/\H6 c=some (.tup (e.1.map V.int)):=by
 obtain⟨v8,ev,ew⟩:=yH d0 d1;rw[Xi]at ew;cases hc:bs[d.toNat]? with
 |none=>rw[hc]at ew;cases ew
 |some c =>rw[hc]at ew;cases ew;obtain⟨e,he,hce⟩:=hbs _ c hc;exact⟨c,e,ev,(by have:=DM (JL 2) ws 0 h f0 e he;simpa using this),hce⟩
abbrev ky:Stmt:=top 87
theorem fq:ay ["_law_script","_law_k","_law_pot_here","_law_head","_law_pipe_here","_law_loose","_law_tale","_law_some","_law_one","_law_odd","_law_place","_law_due"] ["_law_script"] (ar ky):=fs
section
variable{P:Program}{w:World}{K:XO}{mg:Z2}{base:Heap}
theorem K1{f:Addr}{fd:FuncData}{L:Nat}(B:kf mg)(B2:iY mg)(F:Cg K "law" "law" ky f fd)
  (zh:bc bf P w K mg base L "_law_pot" ZP (JA K))
  (uj:bc bf P w K mg base L "_law_drawn" ZF (zQ K))
  (gu:bc bf P w K mg base L "_law_put" ZW (pQ 3))
  (bj:bc bf P w K mg base L "_law_draw" ZD dn)
  (sJ:bc bf P w K mg base L "_law_asked" ["_law_head","_law_pipe_here","_law_place"] (Ja K)) :
  fE P w K mg base bf (L+1) f fd ["_law_script"] (An K):=by
 refine F.ok fq (λvs H Q E h=>?_) (λcdv A outer s H vs Q E hr h=>?_)
 ·obtain⟨a,ns,rfl,_⟩:=h;rfl
 have hu:=iO hr;have hu1:=jD hr;obtain⟨a,ns,rfl,hS,h63,q⟩:=h;refine⟨_,(aq (fN PassesOwn.never rfl (dA rfl B.range (ae (aF cR ai (aW (rP rfl) rfl B2.min PyProof.Rows.boot_min (ae ai (ae (aW bt rfl B.len XM (ae (pv 0) ah)) ah)))) ah)) (bJ (i:=1) fq.nd rfl (Xw rfl))
    (aq (aK (i:=2) fq.nd rfl (Xw rfl) (ax zh hr (ae (pv 0) (ae (pv 1) ah))))
     (aq (pC (ax uj hr (ae (pv 2) ah)) (cA rfl (aA (bJ (i:=3) fq.nd rfl (Xw rfl)) (aA (bJ (i:=4) fq.nd rfl (Xw rfl)) bT))))
     (aq (aK (i:=5) fq.nd rfl (Xw rfl) wK)
     (aq (aK (i:=6) fq.nd rfl (Xw rfl) (ax gu hr (ae (pv 3) (ae (pv 4) (ae (aH ah) (ae (aH (ae eA (ae eA (ae eA (ae eA (ae eA ah)))))) (ae (pv 5) ah)))))))
     (aq (aK (i:=7) fq.nd rfl (Xw rfl) (aU (sN rfl) rfl B.list PyProof.Rows.boot_list (ae (pv 5) ah)))
     (aq (aK (i:=8) fq.nd rfl (Xw rfl) (bp K (pv 7) (ax bj hr (ae (pv 2) (ae (aW bt rfl B.len XM (ae (pv 7) ah)) ah)))))
     (aq (aK (i:=9) fq.nd rfl (Xw rfl) (aP (ae (aH ah) (ae (aH (ae (nq jT ai) ah)) (ae (aH (ae (aF cR (aW bt rfl B.len XM (ae (pv 4) ah)) ai) ah)) (ae (aF bN (pv 8) (aH (ae ai ah))) (ae (aF bN (pv 8) (aH (ae ai (ae ai ah)))) (ae (cq cU (pv 8) dm (cz (nq jT ai))) (ae (aF bN (cq cU (pv 8) dm (cz (nq jT ai))) (aH (ae ai ah))) (ae (aH (ae ai (ae ai (ae ai ah)))) (ae (aH (ae ai (ae ai (ae ai ah)))) ah)))))))))))
     (bA (fN PassesOwn.never rfl (dX (aF mx (pv 7) (pv 9))) (bJ (i:=10) fq.nd rfl (Xw rfl))
      (aq (aK (i:=11) fq.nd rfl (Xw rfl) (DH (by exact WY (Nat.add_le_add_left (by decide:1<=8) _) hu) (pv 5) (pv 10) ao ⟨rfl,rfl,rfl,rfl⟩))
       (aq (dg (aX aQ (az K (pv 6) ai) ao)
        (bA (aK (i:=11) fq.nd rfl (Xw rfl) (pv 6)))
        bU)
       (bA (dg (aX ma (ax sJ hr (ae (pv 3) (ae (pv 4) (ae (pv 10) ah)))) (pv 11))
        (av eA)
        bU))))))))))))))
   (av eA)),?_⟩
 have hl:(ns.map V.int).length=ns.length:=WV _;have mb:0<=(3:Int)+(if(((ns.map V.int).length:Nat):Int)<14 then(((ns.map V.int).length:Nat):Int)else 14)/\(3:Int)+(if(((ns.map V.int).length:Nat):Int)<14 then(((ns.map V.int).length:Nat):Int)else 14)<=17:=by split<;>omega
 refine⟨_,rfl,a,_,rfl,.inl hS,_,_,rfl,_,_,rfl,rfl,_,rfl,(ke mb.1 (by omega)).1,(ke mb.1 (by omega)).2,?_⟩;refine gj (λ_=>T7 a H) ⟨_,_,_,_,_,_,_,_,_,_,_,rfl,aM.refl _⟩ ?_ ?_
 ·rintro i σ Hi hi ⟨o1,o2,o3,o4,o5,o6,o7,o8,o9,lr,lx,rfl,RQ⟩;have Pz:(i:Int)<=20:=by omega
  refine ak ?_;dsimp only;refine⟨_,rfl,_,rfl,a,ns,_,rfl,RQ.seq hS,by omega,by omega,λp H1 hp s1 hP=>ak ?_⟩;dsimp only;refine⟨_,rfl,p,rfl,hP,λt b u h ws H2 g2 ht hH hp2=>?_⟩;have TZ:=AE hp s1 g2;refine⟨t,_,rfl,aJ.of ht,rfl,_,_,rfl,ak ⟨_,_,rfl,ak ⟨rfl,?_⟩⟩⟩;dsimp only;refine λfd hfd=>ak ?_;dsimp only;have s3:=aj hfd (.dT []);have f3:=ag (H:=H2) (a:=fd) (o:=(.dT []));revert s3 f3;generalize upd H2 fd (.dT [])=H3;intro s3 f3;refine⟨_,rfl,_,rfl,wR,λu1 hu1=>?_⟩;have s4:=aj hu1 (.tup []);have f4:=ag (H:=H3) (a:=u1) (o:=(.tup []));revert s4 f4;generalize upd H3 u1 (.tup [])=H4;intro s4 f4;refine⟨uO,λu2 hu2=>?_⟩;have s5:=aj hu2 (.tup [.bl false,.bl false,.bl false,.bl false,.bl false]);have f5:=ag (H:=H4) (a:=u2) (o:=(.tup [.bl false,.bl false,.bl false,.bl false,.bl false]));revert s5 f5;generalize upd H4 u2 (.tup [.bl false,.bl false,.bl false,.bl false,.bl false])=H5;intro s5 f5;have SQ:=s4.trans s5;have PJ:=s3.trans SQ;have Cy:=hp2.keep (aD.of PJ);have PR:=hH.same PJ;refine⟨_,rfl,b,u,u1,u2,fd,h,ws,[],f0,[],rfl,⟨PR.tup,Cy.pp,s5 _ _ f4,f5,SQ _ _ f3,Cy.ok,Cy.dr,hH.few,by decide,by simpa using Bj⟩,λv H6 kv g6 Se Jo hkv hR=>ak ?_⟩;have Sv:aM H2 H6:=iT hfd PJ g6;have nd:((TL 2 [] 0 h f0 ws).map (·.1)).Nodup:=Od;rw[vC (λ_ _ x hx=>by cases hx) nd,List.nil_append]at hkv;subst hkv;dsimp only;refine⟨_,rfl,fd,_,rfl,Se,λbs l RO Qe hbs=>ak ?_⟩;have hbs':∀(i:Nat) c,bs[i]? = some c->∃e∈TL 2 [] 0 h f0 ws,H6 c=some (.tup (e.1.map V.int)):=λi c hc=>by
   have hi':i<(TL 2 [] 0 h f0 ws).length:=by have:=(W8.mp hc).1;rw[WV]at Qe;omega
   have:=hbs i c _ _ hc (by rw[Xi,W0 hi'];rfl);rw[HK]at this;exact⟨_,List.getElem_mem hi',this⟩
  have hb0:0<bs.length:=by rw[Qe,WV];exact List.length_pos_iff.mpr OL
  have s7:=aj RO (.lst (bs.map V.ref));have f7:=ag (H:=H6) (a:=l) (o:=(.lst (bs.map V.ref)));revert s7 f7;generalize upd H6 l (.lst (bs.map V.ref))=H7;intro s7 f7;dsimp only;have hlb:(bs.map V.ref).length=bs.length:=WV _;have TX:bs.length<=100000:=by rw[Qe];exact WS (by simpa using Jo) Bj
  have NQ:=Sv.trans s7;have P7:dh H7 p:=(bo.same g2.cn NQ).cn;have SH:l≠p:=λz=>by obtain⟨x,y,e,_⟩:=g2.cn;have:=Sv _ _ e;rw[←z,RO]at this;cases this
  have Wh:fd≠p:=λz=>by obtain⟨x,y,e,_⟩:=g2.cn;rw[←z,hfd]at e;cases e
  refine⟨_,rfl,_,rfl,_,rfl,l,_,rfl,.inl (aZ.of f7),p,_,rfl,P7,(by omega),?_,λd H8 g8 d0 d1=>?_⟩
  ·rw[hlb,Int.natAbs_natCast,Nat.log2_lt (by omega)];exact WY TX (WZ (by decide:100000<2 ^ 17) (Nat.pow_le_pow_right (n:=2) (by decide) (by decide:17<=9000)))
  obtain⟨c,e,ev,he9,hce⟩:=pick d0 d1 hbs';have RH:∀{x:Addr}{xs:List V},H7 x=some (.tup xs)->H8 x=some (.tup xs):=λ{x} {xs} z=>g8.keep _ _ (λy=>by obtain⟨_,_,e,_⟩:=P7;rw[←y,z]at e;cases e) z;have Oz:aD H7 H8:=λ_ _ z=>RH z;refine⟨l,_,_,_,rfl,rfl,aZ.of (g8.keep _ _ SH f7),ev,ak ?_⟩;dsimp only;have c8:H8 c=some (.tup (e.1.map V.int)):=RH (s7 _ _ hce);obtain⟨bw,hI⟩:=((hp2.keep (aD.of NQ)).keep Oz).pp;have hb2:∀k:Nat,(e.1.map V.int).length+k<=5+k:=λk=>by rw[WV];omega
  refine jY (UR a p b u fd v l c H8) (λT hT=>?_) ?_
  ·refine⟨wR,λq1 k1=>?_⟩;have sa:=aj k1 (.tup []);have fa:=ag (H:=H8) (a:=q1) (o:=(.tup []));revert sa fa;generalize upd H8 q1 (.tup [])=Ha;intro sa fa;refine⟨_,rfl,dz,λq2 k2=>?_⟩;have sb:=aj k2 (.tup [.int (-1)]);have fb:=ag (H:=Ha) (a:=q2) (o:=(.tup [.int (-1)]));revert sb fb;generalize upd Ha q2 (.tup [.int (-1)])=Hb;intro sb fb;have tb:=sa.trans sb;refine⟨_,rfl,u,_,rfl,.inr (aJ.of (tb _ _ hI.tup)),_,_,rfl,rfl,dz,λq3 k3=>?_⟩;have sc:=aj k3 (.tup [.int (((bw.map V.ref).length:Nat)+1)]);have fc:=ag (H:=Hb) (a:=q3) (o:=(.tup [.int (((bw.map V.ref).length:Nat)+1)]));revert sc fc;generalize upd Hb q3 (.tup [.int (((bw.map V.ref).length:Nat)+1)])=Hc;intro sc fc;have tc:=tb.trans sc;refine⟨_,rfl,dz,λq4 k4=>?_⟩;have sd:=aj k4 (.tup [.int 0]);have Q6:=ag (H:=Hc) (a:=q4) (o:=(.tup [.int 0]));revert sd Q6;generalize upd Hc q4 (.tup [.int 0])=Hd;intro sd Q6;have td:=tc.trans sd;refine⟨c,q4,_,_,rfl,rfl,td _ _ c8,Q6,WS (hb2 1) (by decide),λw4 He se fe=>?_⟩;have te:=td.trans se;refine⟨_,rfl,cN,λq5 k5=>?_⟩;have sf:=aj k5 (.tup [.int 0,.int 0]);have ff:=ag (H:=He) (a:=q5) (o:=(.tup [.int 0,.int 0]));revert sf ff;generalize upd He q5 (.tup [.int 0,.int 0])=Hf;intro sf ff;have tf:=te.trans sf;refine⟨c,q5,_,_,rfl,rfl,tf _ _ c8,ff,WS (hb2 2) (by decide),λw5 Hg sg fg=>?_⟩;have tg:=tf.trans sg;obtain⟨j6,e6⟩:=DJ e.1 (-1);refine⟨_,rfl,_,rfl,_,rfl,c,_,rfl,tg _ _ c8,λw6 Hh sh fh=>?_⟩;have th:=tg.trans sh;refine⟨_,rfl,_,rfl,_,rfl,c,_,rfl,th _ _ c8,λw7 Hj sj fj=>?_⟩;have tj:=th.trans sj;rw[e6]at fh fj;refine⟨dz,λq7 k7=>?_⟩;have sk:=aj k7 (.tup [.int 20]);have fk:=ag (H:=Hj) (a:=q7) (o:=(.tup [.int 20]));revert sk fk;generalize upd Hj q7 (.tup [.int 20])=Hk;intro sk fk;have tk:=tj.trans sk;refine⟨w7,q7,_,_,rfl,rfl,sk _ _ fj,fk,WS (show _<=6 by rw[WV,Xj];simp;omega) (by decide),λw8 Hl sl Uw=>?_⟩;have tl:=tk.trans sl;refine⟨f9,λq8 k8=>?_⟩;have sm:=aj k8 (.tup [.int 0,.int 2,.int 0]);have fm:=ag (H:=Hl) (a:=q8) (o:=(.tup [.int 0,.int 2,.int 0]));revert sm fm;generalize upd Hl q8 (.tup [.int 0,.int 2,.int 0])=Hm;intro sm fm;have tm:=tl.trans sm;refine⟨f9,λq9 k9=>?_⟩;have sn:=aj k9 (.tup [.int 0,.int 0,.int 0]);have Rb:=ag (H:=Hm) (a:=q9) (o:=(.tup [.int 0,.int 0,.int 0]));revert sn Rb;generalize upd Hm q9 (.tup [.int 0,.int 0,.int 0])=Hn;intro sn Rb;have tn:=tm.trans sn;have xl:=sm.trans sn;have xk:=sl.trans xl;have xj:=sk.trans xk;have xh:=sj.trans xj;have xg:=sh.trans xh;have xf:=sg.trans xg;have xe:=sf.trans xf;have xd:=se.trans xe;have xc:=sd.trans xd;have xb:=sc.trans xc;have xa:=sb.trans xb;have Qz:∀v∈[V.ref q1,.ref q2,.ref q3,.ref w4,.ref w5,.ref w6,.ref w8,.ref q8,.ref q9],rj Hn v:=fZ ⟨_,[],rfl,xa _ _ fa⟩ (fZ ⟨_,[-1],rfl,xb _ _ fb⟩ (fZ ⟨_,[_],rfl,xc _ _ fc⟩ (fZ ⟨_,e.1++[0],rfl,by rw[WX];exact xe _ _ fe⟩ (fZ ⟨_,e.1++[0,0],rfl,by rw[WX];exact xg _ _ fg⟩ (fZ ⟨_,_,rfl,xh _ _ fh⟩ (fZ ⟨_,e.1.take j6++[20],rfl,by rw[WX];exact xl _ _ Uw⟩ (fZ ⟨_,[0,2,0],rfl,sn _ _ fm⟩ (fZ ⟨_,[0,0,0],rfl,Rb⟩ Kt))))))));refine⟨(show 9<=sizeLine by decide),λl2 kl=>ak (hT _ _ ⟨l2,_,_,_,_,rfl,ag,tn.trans (aj kl _),rfl,λv hv=>(Qz v hv).same (aj kl _)⟩)⟩
  rintro σ Ho ⟨l2,odd,o1,lr,lx,rfl,fo,R7,TQ,Qz⟩;refine⟨_,rfl,_,rfl,l,l2,_,_,rfl,rfl,R7 _ _ (g8.keep _ _ SH f7),fo,WS (show _<=100009 by rw[hlb,TQ];omega) (by decide),λl3 Vv=>?_⟩;have sp:=aj Vv (.lst (bs.map V.ref++odd));have fp:=ag (H:=Ho) (a:=l3) (o:=(.lst (bs.map V.ref++odd)));revert sp fp;generalize upd Ho l3 (.lst (bs.map V.ref++odd))=Hp;intro sp fp;have PC:=R7.trans sp;have OQ:aD H7 Hp:=Oz.trans (aD.of PC);have hfp:Hp fd=some (.dT ((TL 2 [] 0 h f0 ws).map λe=>(kI e.1,V.bl e.2))):=PC _ _ (g8.keep _ _ Wh (s7 _ _ Se));have Tw:eN Hp b h:=OQ _ _ (NQ _ _ hH.tup);have hpp:bO 2 Hp u ws:=(hp2.keep (aD.of NQ)).keep OQ;have Pa:pk Hp v (jw 2 h ws):=(pk.keep (aD.of s7) hR).keep OQ;have hpl:∀v∈bs.map V.ref++odd,rj Hp v:=λv hv=>by
   rcases Xc.mp hv with z|z
   ·obtain⟨c,hc,rfl⟩:=W_.mp z;obtain⟨i,hi⟩:=List.mem_iff_getElem?.mp hc;obtain⟨e,_,he⟩:=hbs' i c hi;exact⟨c,e.1,rfl,OQ _ _ (s7 _ _ he)⟩
   ·exact(Qz v z).same sp
  have Uh:aM Hi Hp:=λb' o e=>by have z:=NQ _ _ (TZ _ _ e);exact PC _ _ (g8.keep _ _ (λy=>by rw[y,hp]at e;cases e) z)
  have QS:∀pi,(A.deeper (PyProof.Rows.envOfC "law" (ar ky) s.heap.objs.size f cdv)).units+(t_ h ws pi).depth<cLine:=λr=>WY (Nat.add_le_add_left (WS (AN h ws r) (by decide:2<=8)) _) hu;refine⟨l3,rfl,⟨_,aZ.of fp⟩,?_⟩;refine vj (xs:=bs.map V.ref++odd) (λ_=>Tq a p b u fd v l c Hp) ⟨_,_,_,_,rfl,aM.refl _⟩ ?_ ?_ ?_
  ·rintro i σ H' _ ⟨_,_,_,_,_,s'⟩;exact aZ.of (s' _ _ fp)
  ·rintro i y σ H' hy ⟨o1,o9,lr,lx,rfl,s'⟩;obtain⟨ya,pi,rfl,Sq⟩:=(hpl y (W4 hy)).same s';refine ak ?_;dsimp only;refine⟨_,rfl,fd,rfl,.inr ⟨_,.inl (s' _ _ hfp)⟩,_,rfl,_,EW.t (s' _ _ hfp) (k:=kI pi) (by rw[HK];exact Sq),ak ?_⟩;rw[Bn];dsimp only;refine jY (VR a p b u fd v l c ya K H' (t_ h ws pi)) (λT hT=>?_) ?_
   ·cases er:jw 2 h ws with
    |ok h' f' =>
     rw[er]at Pa;obtain⟨a1,a2,r1,r2,r3⟩:=Pa;refine⟨_,rfl,v,_,0,_,rfl,rfl,aJ.of (s' _ _ r1),au (j:=0) rfl,rfl,_,rfl,?_⟩;rw[bQ,WT (by decide +kernel)];refine bF (aG (hT _ _ ⟨_,_,_,rfl,rfl,?_⟩));rw[zf er];cases seek (TL 2 [] 0 h f0 ws) pi with
     |none=>exact gW _
     |some b=>exact xx _
    |no pl sl =>rw[er]at Pa;obtain⟨a1,r1,r2⟩:=Pa;refine⟨_,rfl,v,_,0,_,rfl,rfl,aJ.of (s' _ _ r1),au (j:=0) rfl,rfl,_,rfl,?_⟩;rw[bQ,WU rfl];refine b_ ⟨_,rfl,ak (hT _ _ ⟨_,_,_,rfl,rfl,?_⟩)⟩;rw[CG er];exact Jc (s' _ _ r1) (s' _ _ r2)
   ·rintro σ H4 ⟨du,o1,o9,rfl,rfl,hdu⟩;have kk:=hpp.keep (aD.of s');refine⟨_,rfl,_,rfl,_,rfl,b,u,ya,h,ws,pi,rfl,⟨s' _ _ Tw,kk.pp,kk.ok,kk.dr,hH.few⟩,Sq,λt1 H5 s5 ht1=>⟨_,rfl,_,_,ht1,hdu.same s5,QS _,_,rfl,?_⟩⟩;rw[oW];exact bF ⟨_,_,_,_,rfl,s'.trans s5⟩
  ·rintro σ H' ⟨o1,o9,lr,lx,rfl,s'⟩;exact⟨_,_,_,_,_,_,_,_,_,_,_,rfl,RQ.trans (Uh.trans s')⟩
 ·rintro σ H' _;exact q H'
end
def Am(K:XO)(C PE:Addr):Bool:=(match PySem.W.clsIn K C with|some cd=>cd.mro == .ref C :: .ref PE::s_&&cd.hasDict|none=>false)&&PySem.W.mroIn K C (.type "object")==some true &&
 PySem.W.findIn K (.ref C) "__setattr__"==some (some (.builtin "object.__setattr__"))&&PySem.W.findIn K (.ref C) "__getattribute__"==some (some (.builtin "BaseException.__getattribute__"))&&PySem.W.findIn K (.ref C) "__getattr__"==some none&&PySem.W.mroIn K C (.type "BaseException")==some true&&PySem.W.findIn K (.ref C) "__class__"==some (some (.builtin "object.__class__"))
theorem Av{K:XO}{C PE:Addr}(h:Am K C PE=true)(cg:PySem.W.specialIn K (.builtin "object.__class__") "__get__"=some (some (.builtin "getset_descriptor.__get__")))(ct:PySem.W.takesIn K (.builtin "object.__class__")=some true):jq K C:=by
 unfold Am at h;simp only[Xq,beq_iff_eq]at h;obtain⟨⟨⟨⟨⟨⟨h1,h2⟩,h3⟩,h4⟩,h6⟩,h7⟩,h5⟩:=h;split at h1
 ·rename_i cd e;simp only[Xq,beq_iff_eq]at h1;exact⟨⟨cd,PE,e,h1.1,h1.2⟩,h2,h3,h4,h6,h7,h5,cg,ct⟩
 ·cases h1
def lz(K:XO)(d:Addr)(key:Str)(f:Addr):Bool:=match K.lookup d with
 |some o=>o.cls == .type "dict"&&o.dict==none&&o.slots.isEmpty&&(match o.data with
  | .dict es _=>es.all (λe=>isExactStrKey e.key)&&(match es.findIdx? (λe=>e.key.isStr key)with
   |some i=>(match es[i]? with
    |some e=>(match e.key,e.val with
     | .str k _,.ref g=>k==key&&g==f
     |_,_=>false)
    |none=>false)
   |none=>false)
  |_=>false)
 |none=>false
theorem cO{K:XO}{d:Addr}{key:Str}{f:Addr}(h:lz K d key f=true):dG K d key f:=by
 unfold lz at h;split at h
 ·rename_i o e;obtain⟨c,di,dt,sl⟩:=o;simp only[Xq,beq_iff_eq]at h;obtain⟨⟨⟨h1,h2⟩,h3⟩,h4⟩:=h;subst h1 h2;have h3':sl = #[]:=by simpa using h3
  subst h3';split at h4
  ·rename_i es ep;simp only[Xq]at h4;obtain⟨h5,h6⟩:=h4;split at h6
   ·rename_i i ei;split at h6
    ·rename_i en Wr;obtain⟨x,k,v⟩:=en;split at h6
     ·rename_i k' t g e1 e2;have e1':k=.str k' t:=e1;have e2':v=.ref g:=e2;subst e1' e2';simp only[Xq,beq_iff_eq]at h6;obtain⟨h7,h8⟩:=h6;subst h7 h8;exact⟨es,ep,i,x,t,e,h5,ei,Wr⟩
     ·cases h6
    ·cases h6
   ·cases h6
  ·cases h4
 ·cases h
def xP(K:XO)(d:Addr)(key:Str):Bool:=!(d==sysModules)&&match K.lookup d with
 |some o=>o.cls == .type "dict"&&o.dict==none&&o.slots.isEmpty&&(match o.data with
  | .dict es _=>es.all (λe=>isExactStrKey e.key)&&(es.findIdx? (λe=>e.key.isStr key)).isNone
  |_=>false)
 |none=>false
theorem iz{K:XO}{d:Addr}{key:Str}(h:xP K d key=true):js K d key:=by
 unfold xP at h;simp only[Xq,Bool.not_eq_true']at h;obtain⟨h0,h⟩:=h;refine⟨h0,?_⟩;split at h
 ·rename_i o e;obtain⟨c,di,dt,sl⟩:=o;simp only[Xq,beq_iff_eq]at h;obtain⟨⟨⟨h1,h2⟩,h3⟩,h4⟩:=h;subst h1 h2;have h3':sl = #[]:=by simpa using h3
  subst h3';split at h4
  ·rename_i es ep;simp only[Xq]at h4;exact⟨es,ep,e,h4.1,Option.isNone_iff_eq_none.mp h4.2⟩
  ·cases h4
 ·cases h
variable{P:Program}{w:World}{K:XO}{mg:Z2}{base:Heap}
theorem Kx{C:Addr}{L:Nat}(F:FA K mg "go_through" gb):bc (yK P w) P w K mg base (L+1) "go_through" ["pipe","begun","prefix","found"] (zH C 0) :=
 F.LP bX λ_ _ _ _ _ _ _ _ _ _ h=>Xy h
theorem FZ{L:Nat}(F:FA K mg "_law_put" i7):bc bf P w K mg base (L+1) "_law_put" ZW (pQ 0) :=
 F.ok ck λ_ _ _ _ _ _ _ _ _ _ h=>Xy h
theorem dC{K:XO}{x:Str}{st:Stmt}{f:Addr}{oc:Value}{od an:Option Addr}{osl:Array (Z7)}{kV doc pm cdv ct:Value}(a:PySem.W.nsIn K mainGlobals x=some (some (.ref f)):=by k_is)
  (l:K.lookup f=some ⟨oc,od,.func (PySem.W.fnOf x x (d9 st) (cV st) (ar st) .none kV doc pm an cdv ct),osl⟩:=by k_is) (c:PySem.W.codeIn K cdv x=true:=by k_is) (k:PySem.W.keepIn K (.ref f)=true:=by k_is):FK K x st f:=M0 a l c k
theorem all_mk{l:PySem.W.OpenLaw}{w:World}{K:XO}{h:Heap}{mg:Z2}{fa:Addr}(X:K.In h)(G:h.Ns mainGlobals mg)(hfa:mg "law"=some (.ref fa))
  {CF CP PE aC aS aT aB aO:Addr} {VH VM:Option Addr} {tT tW S9 tb2 Ta to2 to3 RW S7:Tok} {nB nO:Nat} {VW U2:Array (Z7)}
  {BK:Addr} {OJ MN:Option Addr} {MY:Array (Z7)} {N7 NC Oi MD Jv NH:Value}
  {qw yQ v5 qN vn qL wY qS oP sV y8 uE tH uI qk uF AH eF eM kq fw jO ku xr q_ nN uZ mX m4 oO nj ni m7 nh m_ wQ Fp jG iJ kB eT jy jJ wt qZ qV xo qY AQ qA uy E_ uh lH ka mJ la oF mi yZ tK yo rp x5 oZ rb wX wH ui BU yp tF:Addr}
  (a0:FK K "_law_cell_at" DX qw:=by exact My.dC)
  (a1:FK K "_law_pot" LX yQ:=by exact My.dC)
  (a2:FK K "_law_draw" Dd v5:=by exact My.dC)
  (a3:FK K "_law_number" uR qN:=by exact My.dC)
  (a4:FK K "_law_word" DB vn:=by exact My.dC)
  (a5:FK K "_law_a_sort" xI qL:=by exact My.dC)
  (a6:FK K "_law_cell" yN wY:=by exact My.dC)
  (a7:FK K "_law_column" uK qS:=by exact My.dC)
  (a8:FK K "_law_columns" qm oP:=by exact My.dC)
  (a9:FK K "_law_state" y4 sV:=by exact My.dC)
  (a10:FK K "_law_set" Kj y8:=by exact My.dC)
  (a11:FK K "_law_pairs" zk uE:=by exact My.dC)
  (a12:FK K "_law_order" yb tH:=by exact My.dC)
  (a13:FK K "_law_moves" uu uI:=by exact My.dC)
  (a14:FK K "_law_one_row" tQ qk:=by exact My.dC)
  (a15:FK K "_law_other" yD uF:=by exact My.dC)
  (a16:FK K "sort_of" l_ AH:=by exact My.dC)
  (a17:FK K "no_columns" i9 eF:=by exact My.dC)
  (a18:FK K "one_column" jc eM:=by exact My.dC)
  (a19:FK K "two_columns" ia kq:=by exact My.dC)
  (a20:FK K "listed_columns" fD fw:=by exact My.dC)
  (a21:FK K "sort_columns" gG jO:=by exact My.dC)
  (a22:FK K "sum_columns" ip ku:=by exact My.dC)
  (a23:FK K "is_there" kM xr:=by exact My.dC)
  (a24:FK K "columns_fit" ir q_:=by exact My.dC)
  (a25:FK K "are_same_sort" fQ nN:=by exact My.dC)
  (a26:FK K "cells_fit" jI uZ:=by exact My.dC)
  (a27:FK K "keep_fits" jS mX:=by exact My.dC)
  (a28:FK K "same_fits" jC m4:=by exact My.dC)
  (a29:FK K "sum_fits" kW oO:=by exact My.dC)
  (a30:FK K "meet_fits" jx nj:=by exact My.dC)
  (a31:FK K "both_fits" jV ni:=by exact My.dC)
  (a32:FK K "turn_fits" jU m7:=by exact My.dC)
  (a33:FK K "walk_fits" jB nh:=by exact My.dC)
  (a34:FK K "must_fits" jt m_:=by exact My.dC)
  (a35:FK K "sorts_fit" jM wQ:=by exact My.dC)
  (a36:FK K "picked" oJ Fp:=by exact My.dC)
  (a37:FK K "head_of_walk" gn jG:=by exact My.dC)
  (a38:FK K "head_of_number" e8 iJ:=by exact My.dC)
  (a39:FK K "head_of_cut" ic kB:=by exact My.dC)
  (a40:FK K "head_of_tallied" eL eT:=by exact My.dC)
  (a41:FK K "head_of_meet" gz jy:=by exact My.dC)
  (a42:FK K "head_of_must" gA jJ:=by exact My.dC)
  (a43:FK K "head_told" jE wt:=by exact My.dC)
  (a44:FK K "branches_of" ij qZ:=by exact My.dC)
  (a45:FK K "name_passed" iq qV:=by exact My.dC)
  (a46:FK K "rows_fit" kN xo:=by exact My.dC)
  (a47:FK K "makes_loose" iw qY:=by exact My.dC)
  (a48:FK K "why_not" mI AQ:=by exact My.dC)
  (a49:FK K "known_behind" gw qA:=by exact My.dC)
  (a50:FK K "go_through" gb uy:=by exact My.dC)
  (a51:FK K "survey" pE E_:=by exact My.dC)
  (a52:FK K "_law_sorts" i8 uh:=by exact My.dC)
  (a53:FK K "_law_is_one_row" eW lH:=by exact My.dC)
  (a54:FK K "_law_told_columns" dQ ka:=by exact My.dC)
  (a55:FK K "_law_no_column" ft mJ:=by exact My.dC)
  (a56:FK K "_law_cells_wrong" cK la:=by exact My.dC)
  (a57:FK K "_law_no_sort" gH oF:=by exact My.dC)
  (a58:FK K "_law_head_next" fz mi:=by exact My.dC)
  (a59:FK K "_law_why" lj yZ:=by exact My.dC)
  (a60:FK K "_law_flags" iV tK:=by exact My.dC)
  (a61:FK K "_law_put" i7 yo:=by exact My.dC)
  (a62:FK K "_law_judged" iu rp:=by exact My.dC)
  (a63:FK K "_law_end" kJ x5:=by exact My.dC)
  (a64:FK K "_law_joining" gD oZ:=by exact My.dC)
  (Qh:FK K "_law_worker" hX rb:=by exact My.dC)
  (O2:FK K "_law_pipe" gQ wX:=by exact My.dC)
  (Pu:FK K "_law_many" gP wH:=by exact My.dC)
  (UH:FK K "_law_drawn" iS ui:=by exact My.dC)
  (UX:FK K "look_up" j7 BU:=by exact My.dC)
  (VP:FK K "is_loose" kY yp:=by exact My.dC)
  (Uq:FK K "_law_asked" iX tF:=by exact My.dC)
  (Oa:PySem.W.nsIn K mainGlobals "len"=some none:=by k_is)
  (NB:PySem.W.nsIn K mainGlobals "max"=some none:=by k_is)
  (NT:PySem.W.nsIn K mainGlobals "abs"=some none:=by k_is)
  (CO:PySem.W.nsIn K mainGlobals "divmod"=some none:=by k_is)
  (GQ:PySem.W.nsIn K mainGlobals "range"=some none:=by k_is)
  (Gn:PySem.W.nsIn K mainGlobals "tuple"=some none:=by k_is)
  (LV:PySem.W.nsIn K mainGlobals "list"=some none:=by k_is)
  (uw:PySem.W.nsIn K mainGlobals "isinstance"=some none:=by k_is)
  (MH:PySem.W.nsIn K mainGlobals "int"=some none:=by k_is)
  (Oe:PySem.W.nsIn K mainGlobals "min"=some none:=by k_is)
  (N9:PySem.W.nsIn K mainGlobals "all"=some none:=by k_is)
  (C2:PySem.W.nsIn K mainGlobals "sorted"=some none:=by k_is)
  (N_:PySem.W.nsIn K mainGlobals "set"=some none:=by k_is)
  (Og:PySem.W.nsIn K mainGlobals "str"=some none:=by k_is)
  (NJ:PySem.W.nsIn K mainGlobals "any"=some none:=by k_is)
  (OA:PySem.W.nsIn K mainGlobals "zip"=some none:=by k_is)
  (m9:PySem.W.nsIn K mainGlobals "enumerate"=some none:=by k_is)
  (Ke:PySem.W.nsIn K mainGlobals "bool"=some none:=by k_is)
  {Dk:Addr} {KC DF:Option Addr} {KO:Array (Z7)} {JP EE E6 Et yI Cm:Value}
  (Mz:PySem.W.nsIn K mainGlobals "law"=some (some (.ref Dk)):=by k_is) (MU:K.lookup Dk=some ⟨JP,KC,.func (PySem.W.fnOf "law" "law" (d9 ky) (cV ky) (ar ky) .none EE E6 Et DF yI Cm),KO⟩:=by k_is) (Nc:PySem.W.codeIn K yI "law"=true:=by k_is) (Nq:PySem.W.keepIn K (.ref Dk)=true:=by k_is)
  (Wf:PySem.W.nsIn K mainGlobals "NoPipe"=some (some (.ref CF)):=by k_is)
  (Uv:PySem.W.nsIn K mainGlobals "NoPlace"=some (some (.ref CP)):=by k_is)
  (UE:PySem.W.nsIn K mainGlobals "PipeError"=some (some (.ref PE)):=by k_is)
  (zC:PySem.W.nsIn K mainGlobals "COLUMNS_OF"=some (some (.ref aC)):=by k_is)
  (zS:PySem.W.nsIn K mainGlobals "SORTS_FIT"=some (some (.ref aS)):=by k_is)
  (zT:PySem.W.nsIn K mainGlobals "HEADS_TOLD"=some (some (.ref aT)):=by k_is)
  (zB:PySem.W.nsIn K mainGlobals "BRANCHED"=some (some (.ref aB)):=by k_is)
  (zO:PySem.W.nsIn K mainGlobals "ONE_ROW"=some (some (.ref aO)):=by k_is)
  (Vd:PySem.W.nsIn K mainGlobals "TALLY"=some (some (.str "t" tT)):=by k_is)
  (zW:PySem.W.nsIn K mainGlobals "WIDEST_ROW"=some (some (.int 6 tW)):=by k_is)
  (lB:K.lookup aB=some ⟨.type "tuple",VH,.seq #[.str "both" S9,.str "meet" tb2] nB,VW⟩:=by k_is)
  (lO:K.lookup aO=some ⟨.type "tuple",VM,.seq #[.str "keep" Ta,.str "same" to2,.str "cut" to3,.str "turn" RW,.str "must" S7] nO,U2⟩:=by k_is)
  (Uu:PySem.W.findIn K (.ref CF) "__init__"=some (some (.ref BK)):=by k_is)
  (QK:K.lookup BK=some ⟨N7,OJ,.func (PySem.W.fnOf "__init__" "NoPipe.__init__" (d9 mj) (cV mj) (ar mj) .none NC Oi MD MN Jv NH),MY⟩:=by k_is)
  (Rj:PySem.W.codeIn K Jv "NoPipe.__init__"=true:=by k_is)
  (Qs:PySem.W.keepIn K (.ref BK)=true:=by k_is)
  (Wm:PySem.W.keepIn K (.ref CF)=true:=by k_is)
  (VE:PySem.W.isFn K (.ref BK)=true:=by k_is)
  (Uo:PySem.W.findIn K (.ref CF) "place"=some none:=by k_is)
  (Vp:PySem.W.findIn K (.ref CF) "why"=some none:=by k_is)
  (cg:PySem.W.specialIn K (.builtin "object.__class__") "__get__"=some (some (.builtin "getset_descriptor.__get__")):=by k_is)
  (ct:PySem.W.takesIn K (.builtin "object.__class__")=some true:=by k_is)
  (x0:Am K CF PE=true:=by kernel_rfl)
  (e0:iW K CF s_ "ValueError.__new__" (some (.ref BK))=true:=by kernel_rfl)
  (x1:Am K CP PE=true:=by kernel_rfl)
  (e1:iW K CP s_ "ValueError.__new__" none=true:=by kernel_rfl)
  (VU:PySem.W.exmOne K (.ref CF) (.ref PE)=some true:=by kernel_rfl)
  (emp:PySem.W.exmOne K (.ref CP) (.ref PE)=some true:=by kernel_rfl)
  (kn:PySem.W.kitOne K (.ref CP) (.ref CF)=some false:=by kernel_rfl)
  (SG:PySem.W.kitOne K (.type "int") (.type "str")=some false:=by kernel_rfl)
  (Lu:lz K aC "keep" eM=true:=by kernel_rfl)
  (LR:lz K aC "same" kq=true:=by kernel_rfl)
  (N8:lz K aC "cut" fw=true:=by kernel_rfl)
  (JT:lz K aC "turn" eM=true:=by kernel_rfl)
  (J9:lz K aC "must" eM=true:=by kernel_rfl)
  (LB:lz K aC "walk" eM=true:=by kernel_rfl)
  (K9:lz K aC "sort" jO=true:=by kernel_rfl)
  (Gx:lz K aC "apart" eF=true:=by kernel_rfl)
  (HV:lz K aC "count" fw=true:=by kernel_rfl)
  (M7:lz K aC "sum" ku=true:=by kernel_rfl)
  (Fs:lz K aC "number" eF=true:=by kernel_rfl)
  (GL:lz K aC "first" eF=true:=by kernel_rfl)
  (J0:lz K aC "both" eF=true:=by kernel_rfl)
  (Km:lz K aS "keep" mX=true:=by kernel_rfl)
  (s_same:lz K aS "same" m4=true:=by kernel_rfl)
  (KQ:lz K aS "turn" m7=true:=by kernel_rfl)
  (LG:lz K aS "must" m_=true:=by kernel_rfl)
  (KY:lz K aS "walk" nh=true:=by kernel_rfl)
  (M8:lz K aS "sum" oO=true:=by kernel_rfl)
  (Ky:lz K aS "both" ni=true:=by kernel_rfl)
  (KP:lz K aS "meet" nj=true:=by kernel_rfl)
  (Lw:xP K aS "cut"=true:=by kernel_rfl)
  (Hx:xP K aS "sort"=true:=by kernel_rfl)
  (Eh:xP K aS "apart"=true:=by kernel_rfl)
  (Cj:xP K aS "count"=true:=by kernel_rfl)
  (Bd:xP K aS "number"=true:=by kernel_rfl)
  (EL:xP K aS "first"=true:=by kernel_rfl)
  (KS:lz K aT "cut" kB=true:=by kernel_rfl)
  (Hz:lz K aT "must" jJ=true:=by kernel_rfl)
  (GU:lz K aT "walk" jG=true:=by kernel_rfl)
  (CI:lz K aT "count" eT=true:=by kernel_rfl)
  (Lg:lz K aT "sum" eT=true:=by kernel_rfl)
  (BB:lz K aT "number" iJ=true:=by kernel_rfl)
  (Ik:lz K aT "meet" jy=true:=by kernel_rfl)
  (FV:xP K aT "keep"=true:=by kernel_rfl)
  (F6:xP K aT "same"=true:=by kernel_rfl)
  (F7:xP K aT "turn"=true:=by kernel_rfl)
  (HI:xP K aT "sort"=true:=by kernel_rfl)
  (DO:xP K aT "apart"=true:=by kernel_rfl)
  (Fu:xP K aT "first"=true:=by kernel_rfl)
  (FU:xP K aT "both"=true:=by kernel_rfl) :
  ∃fd:FuncData,(∀(s:Shared)(v:Value),BindsTo s fd ⟨[v],[]⟩ [("_law_script",v)])/\∀base:Heap,K.In base->base.Ns mainGlobals mg->fE l.prog w K mg base bf 23 fa fd ["_law_script"] (An K):=by
 have F:=λ{x:Str} {st:Stmt} {f:Addr} (a:FK K x st f)=>a.fa X G;have h:=λ{x:Str} {st:Stmt} {f:Addr} (a:FK K x st f)=>a.h X G;cases hfa.symm.trans (XN X G Mz);have Fl:=xZ (st:=ky) MU Nc Nq;have B:kf mg:=⟨Xz X G Oa,Xz X G NB,Xz X G NT,Xz X G CO,Xz X G GQ,Xz X G Gn,Xz X G LV,Xz X G uw⟩;have B2:iY mg:=⟨Xz X G MH,Xz X G Oe,Xz X G N9,Xz X G C2,Xz X G N_⟩;have B3:A0 mg:=⟨Xz X G Og,Xz X G NJ,Xz X G OA,Xz X G m9⟩;have mE:=Xz X G m9;have mT:=XN X G Vd;have mW:=XN X G zW;have mC:=XN X G zC;have Wd:=XN X G zS;have mH:=XN X G zT;have Cb:Ii K mg "BRANCHED" aB CK:=⟨XN X G zB,λH=>.inr ⟨_,_,_,lB,rfl,rfl,(by show 2<=sizeLine;decide),.cons ⟨S9,rfl⟩ (.cons ⟨tb2,rfl⟩ .nil)⟩⟩;have Co:Ii K mg "ONE_ROW" aO nE:=⟨XN X G zO,λH=>.inr ⟨_,_,_,lO,rfl,rfl,(by show 5<=sizeLine;decide),.cons ⟨Ta,rfl⟩ (.cons ⟨to2,rfl⟩ (.cons ⟨to3,rfl⟩ (.cons ⟨RW,rfl⟩ (.cons ⟨S7,rfl⟩ .nil))))⟩⟩;have Cf:KN K mg CF BK:=⟨Av x0 cg ct,Uo,Vp,e0,Wm,VE,XN X G Wf⟩;have Cp:L4 K mg CP:=⟨Av x1 cg ct,e1,XN X G Uv⟩;have T:MJ K mg CF CP PE:=⟨XN X G UE,VU,emp,Xu (beq_self_eq_true _),kn,Xu (beq_self_eq_true _),Xu (beq_self_eq_true _),Xz X G Ke⟩;have Ob:=xZ (st:=mj) QK Rj Qs;have Ma:=Ob.binds (ps:=["self","place","why"]) (by intro _ _ _ _ _ _;refine L2.Gh ?_;intro _ _ _;rfl);refine⟨PySem.W.fnOf "law" "law" (d9 ky) (cV ky) (ar ky) .none EE E6 Et DF yI Cm,λs v=>.of_eq rfl,λbase _ _=>?_⟩;have g0:=Hy (P:=l.prog) (w:=w) (base:=base) B (F a0);have g1:=J1 B (F a1) g0.m;have g2:=HF (P:=l.prog) (w:=w) (base:=base) B (F a2);have g3:=Bg (F a3) g2.m;have g4:=Hu B (F a4) g2.m;have g5:=Cn B2 (F a5) g2.m;have g6:=Cz (F a6) g5.m g4.m g3.m;have g7:=Bx B (F a7) g2.m;have g8:=xN B (F a8) g7.m;have g9:=Fj (F a9) g2.m g4.m;have JI:=KI B B2 (F a10) g5.m g2.m g4.m g3.m;have O4:=Dz B B2 (F a11) g2.m g6.m;have O1:=Dq B (F a12) g2.m g7.m;have VV:=Er B B2 (F a13) g2.m g9.m g6.m;have Ro:=BV B2 (F a14) g7.m g8.m g2.m JI.m O4.m;have QE:=EY (F a15) g7.m g9.m VV.m O1.m g8.m g2.m;have P6:=AA (P:=l.prog) (w:=w) (base:=base) B B3 SG (F a16);have Sx:=BZ (P:=l.prog) (w:=w) (base:=base) (F a17);have UQ:=Bt (P:=l.prog) (w:=w) (base:=base) (F a18);have Vq:=za (P:=l.prog) (w:=w) (base:=base) (F a19);have Wo:=ve (P:=l.prog) (w:=w) (base:=base) (F a20);have VD:=vU (P:=l.prog) (w:=w) (base:=base) B (F a21);have Wb:=xH (P:=l.prog) (w:=w) (base:=base) (F a22);have UO:=Di (P:=l.prog) (w:=w) (base:=base) B (F a23);have Um:=BX (aR:=aC) (cO Lu) (cO LR) (cO N8) (cO JT) (cO J9) (cO LB) (cO K9) (cO Gx) (cO HV) (cO M7) (cO Fs) (cO GL) (Sx.at (h a17)) (UQ.at (h a18)) (Vq.at (h a19)) (Wo.at (h a20)) (VD.at (h a21)) (Wb.at (h a22));have TV:=λ(n:Nat)=>Ln (n:=n) Um (cO J0) (Sx.at (h a17));have Va:=λ(n:Nat)=>Be (n:=n) B B2 mC (TV n) (F a24) UO.m;have S4:=CW (P:=l.prog) (w:=w) (base:=base) mT (F a25);have Rq:=wC B2 mT (F a26) P6.m;have UA:=λ(n:Nat)=>v3 (n:=n) (P:=l.prog) (w:=w) (base:=base) mT (F a27);have Tt:=λ(n:Nat)=>vR (n:=n) (F a28) S4.m;have TK:=λ(n:Nat)=>xC (n:=n) (P:=l.prog) (w:=w) (base:=base) (F a29);have Vt:=λ(n:Nat)=>vy (n:=n) (F a30) S4.m;have Vu:=λ(n:Nat)=>wq (n:=n) (P:=l.prog) (w:=w) (base:=base) (F a31);have Vn:=λ(n:Nat)=>vI (n:=n) (F a32) Rq.m;have Uc:=λ(n:Nat)=>vT (n:=n) (F a33) Rq.m;have Oy:=λ(n:Nat)=>wm (n:=n) B (F a34) P6.m Rq.m;have Ts:=λ(n:Nat)=>AY (n:=n) (aS:=aS) (cO Km) (cO s_same) (cO KQ) (cO LG) (cO KY) (cO M8) (cO Ky) (cO KP) (iz Lw) (iz Hx) (iz Eh) (iz Cj) (iz Bd) (iz EL) ((UA n).at (h a27)) ((Tt n).at (h a28)) ((Vn n).at (h a32)) ((Oy n).at (h a34)) ((Uc n).at (h a33)) ((TK n).at (h a29)) ((Vu n).at (h a31)) ((Vt n).at (h a30));have T6:=λ(n:Nat)=>vo (n:=n) Wd (Ts n) (F a35);have Su:=Bs (P:=l.prog) (w:=w) (base:=base) B (F a36);have UG:=λ(n:Nat)=>Fh (n:=n) (P:=l.prog) (w:=w) (base:=base) (F a37);have UB:=λ(n:Nat)=>yB (n:=n) (P:=l.prog) (w:=w) (base:=base) mT (F a38);have TN:=λ(n:Nat)=>Gb (n:=n) (F a39) Su.m;have TJ:=λ(n:Nat)=>E8 (n:=n) mT (F a40) Su.m;have Ug:=λ(n:Nat)=>DG (n:=n) (P:=l.prog) (w:=w) (base:=base) (F a41);have UD:=λ(n:Nat)=>E3 (n:=n) B (F a42) P6.m;have TC:=λ(n:Nat)=>yA (n:=n) (aT:=aT) (cO KS) (cO Hz) (cO GU) (cO CI) (cO Lg) (cO BB) (cO Ik) (iz FV) (iz F6) (iz F7) (iz HI) (iz DO) (iz Fu) (iz FU) ((TN n).at (h a39)) ((UD n).at (h a42)) ((UG n).at (h a37)) ((TJ n).at (h a40)) ((UB n).at (h a38)) ((Ug n).at (h a41));have Sj:=λ(n:Nat)=>vA (n:=n) mH (TC n) (F a43);have O9:=λ(n:Nat)=>Md (n:=n) (P:=l.prog) (w:=w) (base:=base) Cb (F a44);have Mn:=λ(n:Nat)=>Gi (n:=n) (P:=l.prog) (w:=w) (base:=base) (F a45);have Mv:=λ(n:Nat)=>x9 (n:=n) B2 Co (F a46) (O9 n).m;have K8:=λ(n:Nat)=>Cu (n:=n) B3 mT (F a47) (Mn n).m;have Ml:=λ(n:Nat)=>Bk (n:=n) B mW (F a48) (Va n).m (T6 n).m (Sj n).m (Mv n).m;have PK:=λ(n:Nat)=>A4 (n:=n) B B2 B3 (F a49) (Sj n).m (Mn n).m (K8 n).m;have SN:=Dy (P:=l.prog) (w:=w) (base:=base) B B2 B3 SG (F a52);have S2:=λ(n:Nat)=>Fm (n:=n) (P:=l.prog) (w:=w) (base:=base) (F a53);have RG:=λ(n:Nat)=>GG (n:=n) (P:=l.prog) (w:=w) (base:=base) B (F a54);have VG:=λ(n:Nat)=>DD (n:=n) B (F a55) (RG n).m;have Pw:=λ(n:Nat)=>Br (n:=n) B (F a56) SN.m;have Ue:=λ(n:Nat)=>B6 (n:=n) B2 (F a57) (RG n).m (Pw n).m;have Pq:=λ(n:Nat)=>u_ (n:=n) B (F a58) SN.m;have QH:=λ(n:Nat)=>GB (n:=n) B B2 (F a59) (VG n).m (Ue n).m (Pq n).m (S2 n).m;have Qb:=λ(n:Nat)=>Ez (n:=n) (F a60) (S2 n).m;have U1:=GK (P:=l.prog) (w:=w) (base:=base) Cp (F UX);have KL:=DK (P:=l.prog) (w:=w) (base:=base) (mg:=mg) (C:=CF) Ob;have UN:=Kx (P:=l.prog) (w:=w) (base:=base) (C:=CF) (L:=4) (F a50);have Vg:=xW (C:=CF) (n:=0) (L:=0) B mE Cf (F a50) KL Ma (O9 0).m UN.m (Ml 0).m (PK 0).m;have go2:=xW (C:=CF) (n:=1) (L:=1) B mE Cf (F a50) KL Ma (O9 1).m Vg.m (Ml 1).m (PK 1).m;have Uk:=xW (C:=CF) (n:=2) (L:=2) B mE Cf (F a50) KL Ma (O9 2).m go2.m (Ml 2).m (PK 2).m;have sv:=BI (C:=CF) (n:=2) (L:=2) (F a51) Uk.m;have hb:=yG (C:=CF) (n:=2) (L:=2) (F VP) U1.m sv.m;have P_:=FZ (P:=l.prog) (w:=w) (base:=base) (L:=4) (F a61);have PF:=ua (n:=0) (L:=0) B B2 B3 mE (F a61) P_.m (QH 0).m (Qb 0).m (Pq 0).m;have put2:=ua (n:=1) (L:=1) B B2 B3 mE (F a61) PF.m (QH 1).m (Qb 1).m (Pq 1).m;have put3:=ua (n:=2) (L:=2) B B2 B3 mE (F a61) put2.m (QH 2).m (Qb 2).m (Pq 2).m;have ju:=BF (n:=2) (L:=2) (F a62) put3.m;have en:=JW (n:=2) (L:=2) (F a63) ju.m;have NA:=EZ (P:=l.prog) (w:=w) (base:=base) (L:=11) (F O2);have OK:=pP (N:=0) (L:=12) (Le:=10) (by decide) (by decide) (by decide) B2 (F a64) g2.m NA.m g7.m en.m JI.m;have Ng:=p7 (N:=0) (L:=13) (by decide) B B2 (F Qh) g2.m Ro.m OK.m QE.m;have Ou:=pN (N:=0) (L:=14) (Lj:=9) (by decide) (by decide) (by decide) B B2 (F O2) Ng.m ju.m g2.m;have Nw:=pP (N:=1) (L:=15) (Le:=10) (by decide) (by decide) (by decide) B2 (F a64) g2.m Ou.m g7.m en.m JI.m;have M9:=p7 (N:=1) (L:=16) (by decide) B B2 (F Qh) g2.m Ro.m Nw.m QE.m;have pipe2:=pN (N:=1) (L:=17) (Lj:=9) (by decide) (by decide) (by decide) B B2 (F O2) M9.m ju.m g2.m;have Oh:=pP (N:=2) (L:=18) (Le:=10) (by decide) (by decide) (by decide) B2 (F a64) g2.m pipe2.m g7.m en.m JI.m;have Ot:=p7 (N:=2) (L:=19) (by decide) B B2 (F Qh) g2.m Ro.m Oh.m QE.m;have NO:=pN (N:=2) (L:=20) (Lj:=9) (by decide) (by decide) (by decide) B B2 (F O2) Ot.m ju.m g2.m;have OG:=Eo (P:=l.prog) (w:=w) (base:=base) (L:=0) (F Pu);have many1:=oM (n:=0) (L:=1) (F Pu) OG.m;have Oq:=oM (n:=1) (L:=2) (F Pu) many1.m;have NR:=oM (n:=2) (L:=3) (F Pu) Oq.m;have dr:=EJ (L:=21) (Lm:=4) (by decide) (by decide) B B2 (F UH) g2.m NO.m NR.m;have asked:=Ey (L:=10) (C:=CF) (CP:=CP) (PE:=PE) B Cf Cp T (F Uq) hb.m;exact K1 (L:=22) B B2 Fl g1.m dr.m put3.m g2.m asked.m
theorem walk{l:PySem.W.OpenLaw}{q:Program}{loose:List Str}{XP:(Z2)->Heap->Prop}{YP:World->Heap->Prop}{d:DefRec}{K:Params->XO}(hn:l.most=some 63)(hdf:d.params.defaults=[])
  (hY:∀(w:World)(h:Heap),YP w h->(K w.params).In h)
  (F:∀(w:World)(mg:Z2)(fa:Addr)(h:Heap),(K w.params).In h->h.Ns mainGlobals mg->mg d.name=some (.ref fa)->
   ∃fd:FuncData,(∀(s:Shared)(u:Value),BindsTo s fd ⟨[u],[]⟩ [("_law_script",u)])/\∀base:Heap,(K w.params).In base->base.Ns mainGlobals mg->fE l.prog w (K w.params) mg base bf 23 fa fd ["_law_script"] (An (K w.params))) :
  PySem.W.WalkO q loose XP YP l.row.toRowW d [] (λf vs=>PySem.call f vs) :=
 L2.Ia (n:=63) (k:=23) (x:="_law_script") (CX:=λ_=>bf) (sp:=λw=>An (K w.params)) hn (by decide) hdf ⟨rfl,by decide,by decide⟩ hY F (λ_ _ a ns hl _ hS=>⟨a,ns,rfl,hS,hl,λ_=>rfl⟩) λ_ _ _ _ _ z=>z
end My
namespace PySem.W.Fast
def tw17969413272642885049:=0
def tw11708939871614157811:=0
def tw7259747360666887284:=0
def tw15393209018883603297:=0
def tw669813194464327182:=0
def tw12287222249564600893:=0
def tw17257298162796746103:=0
def tw15258191310789856600:=0
def tw17477745802728612209:=0
def tw17353061569149086131:=0
def tw4631164068409236330:=0
def tw13181487773782070353:=0
def tw12213188409697477372:=0
def tw8676525602982528779:=0
def tw6430014150520274110:=0
def tw7933746191774903465:=0
def tw3861181413496372999:=0
def tw3574198272047998723:=0
def tw4097961814269098328:=0
def tw10466965595281606092:=0
def tw2517537937107366350:=0
def tw10779687846063659265:=0
def tw492039736256134817:=0
def tw971447272528739833:=0
def tw3016521379286736292:=0
def tw17289619208148926847:=0
def tw13511711935321555817:=0
def tw14473299462817486678:=0
def tw9113254920543158718:=0
def tw14613688395117462619:=0
def tw10060363738033282245:=0
def tw10397578321162180982:=0
def tw14848553684967638017:=0
def tw7875840899594994068:=0
def tw3697638884165130900:=0
def tw7466648520268768667:=0
def tw9809607742077171414:=0
def tw15138725283539174277:=0
def tw3559242755871994348:=0
def tw131572695493147589:=0
def tw9423943083691481461:=0
def tw241128181216315725:=0
def tw1644014881568302119:=0
def tw14364960775265650539:=0
def tw12214489679679277941:=0
def tw17917265884951022958:=0
def tw13062196513251120690:=0
def tw9519320239406392572:=0
def tw2575143185216130650:=0
def tw800654768983152217:=0
def tw146654135142668816:=0
def tw2494834015174397193:=0
def tw12216317087961862853:=0
def tw14303237217718219249:=0
def tw2066302486055402974:=0
def tw3368289462093526394:=0
def tw17205093188311058411:=0
def tw2283024244745674045:=0
def tw12589590174853657845:=0
def tw12106078253823219463:=0
def tw12323836819339724686:=0
def tw9313330841956997572:=0
def tw163187118841114883:=0
def tw2531678755947293724:=0
def tw15288579567122851787:=0
def tw16981161765022869867:=0
def tw7665453285770921529:=0
def tw17235060697682913020:=0
def tw10451303796465421877:=0
def tw2636931355066817282:=0
def tw7073732022168390749:=0
def tw3052633336481970810:=0
def tw7008256639840814522:=0
def tw6858702854516885698:=0
def tw18341742973694831260:=0
def tw5757083958260788453:=0
def tw14515205552274960900:=0
def tw18203198147408797314:=0
def tw7591105375697927891:=0
def tw10941861817842277993:=0
def tw16146452526906735813:=0
def tw13612875912293576913:=0
def tw1019136422850202713:=0
def tw8357643303445140679:=0
def tw5492408579866030630:=0
def tw2586343202780808539:=0
def tw6634452600558052056:=0
def tw17726071627130951694:=0
def tw3467502110687675811:=0
def tw11547390189415502229:=0
def tw11659654632151187436:=0
def tw18400636674189634532:=0
def tw3303879014596150677:=0
def tw4482122356406838109:=0
def tw16446038673335956470:=0
def tw9450180519870983696:=0
def tw15748618211098864635:=0
def tw7663908845759679194:=0
def tw855951034298117011:=0
def tw8082101104598921062:=0
def tw11598775091962942294:=0
def tw3430601659855003974:=0
def tw18136335958655573254:=0
def tw244523539585950869:=0
def tw17339728688136521975:=0
def tw230110223618915889:=0
def tw4507640169180637015:=0
def tw1332313149702145442:=0
def tw14597097627261229979:=0
def tw949846215661094608:=0
def tw5093920161860500189:=0
def tw3722916054900047324:=0
def tw14522226675774786803:=0
def tw5759470797597459858:=0
def tw15623520825344674212:=0
def tw10479141981678829684:=0
def tw16606712127744038419:=0
def tw3920462235112414695:=0
def tw7931180038502685824:=0
def tw17180063441201797562:=0
def tw13603725640282145468:=0
def tw1239113431445688773:=0
def tw13410723756102976343:=0
def tw9732091763836073351:=0
def tw15679555138582333554:=0
def tw1483457214454230396:=0
def tw5292275126466318802:=0
def tw4913656453126887695:=0
def tw15827832605377169503:=0
def tw18083971690061424849:=0
def tw13067763652768324849:=0
def tw11419237592778869593:=0
def tw2636471125459394048:=0
def tw11336493113758921505:=0
def tw15094087878271619455:=0
def tw18350222658980394425:=0
def tw17277453432155926939:=0
def tw14151824179114111333:=0
def tw8694527847089259757:=0
def tw12198427974812651343:=0
def tw1141550206569289865:=0
def tw15705691318177157968:=0
def tw2377568107486264188:=0
def tw12096732911196721746:=0
def tw11973756917608613645:=0
def tw805057034045967406:=0
def tw6176367793735056040:=0
def tw11051003775045407294:=0
def tw7830834016537656061:=0
def tw1247412913063052075:=0
def tw6373256057460394036:=0
def tw8969409754079535817:=0
def tw7795800410561506267:=0
def tw17165837649436042880:=0
def tw4668861313468996847:=0
def tw4681547390208173101:=0
def tw3960652490988095865:=0
def tw18291292732253899990:=0
def tw15108165817685113130:=0
def tw14529995837140688266:=0
def tw7412224486115032954:=0
def tw4723875242811308663:=0
def tw8717370451124382587:=0
def tw2314626709734951315:=0
def tw10220054098854932801:=0
def tw3218065374576688107:=0
def tw17012542295121648367:=0
def tw12177129271681613406:=0
def tw15594769395604104678:=0
def tw7492049278613344893:=0
def tw1594706808645023643:=0
def tw12059549277502115640:=0
def tw10940066652328889122:=0
def tw848458190041516479:=0
def tw2095408727648499161:=0
def tw18440613351943883297:=0
def tw6307693172276124358:=0
def tw4319939867348777705:=0
def tw7192543693528102579:=0
def tw11451507999193678905:=0
def tw834432448961522468:=0
def tw2787163135840093515:=0
def tw17835075871432602480:=0
def tw11680790418128332669:=0
def tw14445315991585364096:=0
def tw9098393818043703749:=0
def tw15779311777173765279:=0
def tw4991040396749715418:=0
def tw2836133063870679135:=0
def tw10421137002803215018:=0
def tw895532178516823177:=0
def tw6476354748239445034:=0
def tw12476599962557785934:=0
def tw3722173783699596271:=0
def tw5478755293003711580:=0
def tw12077906226126954679:=0
def tw9419992091872234687:=0
def tw7489797186098352358:=0
def tw3562390689515193889:=0
def tw4027052395509174687:=0
def tw15520636355607416171:=0
def tw3842183981942650630:=0
def tw4995221811285686518:=0
def tw8070008886976091637:=0
def tw5616660369460846849:=0
def tw2769611398810469764:=0
def tw3732889147398118003:=0
def tw1895958807199304592:=0
def tw7038191951451293171:=0
def tw18399857561700288372:=0
def tw4718471108404935277:=0
def tw920698738170071571:=0
def tw6469039099421559391:=0
def tw12299487031171112008:=0
def tw7409412282307243644:=0
def tw14913024973747395090:=0
def tw18380473966386084533:=0
def tw11070772143334453329:=0
def tw5843388063980400554:=0
def tw7513532245039491206:=0
def tw6249623762252840583:=0
def tw3813856658714588124:=0
def tw14368945310098387163:=0
def tw8412388873856349612:=0
def tw5488054426058487368:=0
def tw17597671467456058461:=0
def tw7919288101463320528:=0
def tw2124881183409349967:=0
def tw10020260660502053090:=0
def tw9876917796056467142:=0
def tw4810471899171241956:=0
def tw1324698825315471503:=0
def tw135278821215687084:=0
def tw12269192270878508637:=0
def tw12298985551641263580:=0
def tw1695516542791946615:=0
def tw10583893444992636763:=0
def tw11407231208708138090:=0
def tw1568641456719585609:=0
def tw16169652625463822876:=0
def tw16974609522566183075:=0
def tw3282977014529848955:=0
def tw16537914793634742180:=0
def tw198843745829433671:=0
def tw1504657078585964071:=0
def tw14638404717608351892:=0
def tw13468515554707666665:=0
def tw18265399702142786732:=0
def tw1757138690649137848:=0
def tw13217045562268661366:=0
def tw18018146675046088560:=0
def tw9549474038692189223:=0
def tw10097420462317442539:=0
def tw15632978971134438425:=0
def tw16200458768754549900:=0
def tw6654928114217899634:=0
def tw2427726711744796267:=0
def tw17407236177668845768:=0
def tw738558161524777564:=0
def tw2080836648669430697:=0
def tw2881637247478846651:=0
def tw1704745689587974619:=0
def tw3616002046955208195:=0
def tw11107851799435442129:=0
def tw5473164734002517992:=0
def tw14206679590589762320:=0
def tw12270814294189469800:=0
def tw17468380597979948846:=0
def tw3434604760858501891:=0
def tw2617734567730313895:=0
def tw9884455727743031698:=0
def tw4858652051336783324:=0
def tw4647038383790790571:=0
def tw13803530829577043460:=0
def tw11279061716564419306:=0
def tw66220082328300714:=0
def tw453449947243167647:=0
def tw6126413565693615087:=0
def tw6228888119212805738:=0
def tw17565158728778372322:=0
def tw10501327475318057327:=0
def tw10259755079315678159:=0
def tw1202425255143084080:=0
def tw14010547312858088744:=0
def tw4581935328504290049:=0
def tw13473663953065267573:=0
def tw11019466261702306901:=0
def tw14471081128166797612:=0
def tw3088074949919162940:=0
def tw16010610738801061752:=0
def tw17217233495783316035:=0
def tw17645294352318398925:=0
def tw7846618993241876189:=0
def tw13116615228492728457:=0
def tw8333172728417865252:=0
def tw5399315406741382533:=0
def tw11720566628331395620:=0
def tw12947140672775225307:=0
def tw14642140474803188787:=0
def tw6308018454844782442:=0
def tw17844715220777050564:=0
def tw14574150522599273668:=0
def tw16728749669813432698:=0
def tw13885784987958952368:=0
def tw17867811019702076115:=0
def tw3364543191315338436:=0
def tw14373395461356717465:=0
def tw653380380816798822:=0
def tw1300106700026389993:=0
def tw13569378552567043064:=0
def tw2415849134793634238:=0
def tw14379386922896231639:=0
def tw4426547681108158083:=0
def tw14077709083313036538:=0
def tw11219473364883481104:=0
def tw12419564245067344518:=0
def tw15211580501534126949:=0
def tw9215470444537619098:=0
def tw15228396627139513819:=0
def tw8677039618133484433:=0
def tw10933134681027115904:=0
def tw9729607240906651577:=0
def tw4353948123705953317:=0
def tw3123102817490048847:=0
def tw15432465666648828363:=0
def tw7901537929380397374:=0
def tw1615066578111607722:=0
def tw15818000801223387311:=0
def tw1692772244768342250:=0
def tw17105205869786123617:=0
def tw18058129510703698953:=0
def tw16858992408145201373:=0
def tw6509343901509815404:=0
def tw10480721641700333930:=0
def tw3589486664396798508:=0
end PySem.W.Fast
open PySem PySem.W PyProof.Rows
set_option maxRecDepth 100000 in
set_option maxHeartbeats 0 in
theorem PySem.Challenge.cw_rowpipes_k25_loose_places_holds : PySem.Challenge.rw_rowpipes_k25_loose_places.Holds := by
 w_on;o_law;k_head;(case hw=>w_witness2)
 k_fill
 refine My.walk (l:=PySem.Challenge.rw_rowpipes_k25_loose_places) rfl rfl (λw h Y=>PySem.W.kIn_of Y) ?F
 case F =>intro w mg fa h KX G hmg;exact My.all_mk KX G hmg
