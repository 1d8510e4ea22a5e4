import PyProof.Rows.All
import Wide.All
import OpenK.AllK
import Wide.FinOn
import Lean
import PyProof.EqAt
import PyProof.EqKinds
import PyProof.TupleCall
import PyProof.NeKinds
import PyProof.SumAny
import PyProof.SetRoads
import KE.IntBitsLaws
import PyProof.ListRange
import PySem.Challenge.RW_rowpipes_k72_whole_facts_in_branches
set_option Elab.async false
set_option linter.all false
set_option maxRecDepth 100000
set_option maxHeartbeats 0
abbrev nT:=PySem.Value->PySem.Shared->Prop
abbrev eN:=List (PySem.Addr×PySem.Obj)
abbrev Z0:=PySem.Str->Option PySem.Value
abbrev Z1:=Array (Int×PySem.Value)
abbrev Z2:=Unit->PySem.Shared->Prop
abbrev Z3:=PySem.Result->PySem.Shared->Prop
abbrev Z4:=List PySem.Value
abbrev Z5:=Option PySem.Value
abbrev Z6:=List PySem.Addr
abbrev Z7:List PySem.Str:=["worker","heads"]
abbrev Z8:List PySem.Str:=["worker"]
abbrev Z9:List PySem.Str:=["worker","known","wide","ends"]
abbrev ZC:List PySem.Str:=["_law_pot_here","_law_many"]
abbrev ZD:List PySem.Str:=["_law_pot_here","_law_sorts","_law_rest"]
abbrev ZF:List PySem.Str:=["_law_script","_law_k"]
abbrev ZG:List PySem.Str:=["worker","known"]
abbrev ZJ:List PySem.Str:=["worker","known","wide","ends","order","most","unlike"]
abbrev ZK:List PySem.Str:=["_law_sorts"]
abbrev ZL:List PySem.Str:=["cells","column_sort"]
abbrev ZM:List PySem.Str:=["self","place","why"]
abbrev ZP:List PySem.Str:=["_law_pot_here","_law_wide","_law_least","_law_most"]
abbrev ZQ:List PySem.Str:=["_law_sorts","_law_pipe_here"]
abbrev X0:=@PySem.wpAny_bind
abbrev X1:=@PySem.wpAny_pure
abbrev X2:=@PySem.Heap.get?_push_of_some
abbrev X3:=@PySem.Heap.lt_size
abbrev X4:=@PySem.Heap.get?_push_size
abbrev X5:=@Nat.le_refl
abbrev X6:=@Nat.le_trans
abbrev X7:=@decide_eq_false
abbrev X8:=@decide_eq_true
abbrev X9:=@List.length_map
abbrev X_:=@List.length_append
abbrev Ya:=@List.map_append
abbrev Yb:=@Nat.lt_of_le_of_lt
abbrev Yc:=@Nat.lt_of_lt_of_le
abbrev Yd:=@List.getElem?_eq_getElem
abbrev Ye:=@List.mem_append_right
abbrev Yf:=@List.mem_of_getElem?
abbrev Yg:=@List.mem_cons_of_mem
abbrev Yh:=@Bool.false_ne_true
abbrev Yi:=@List.size_toArray
abbrev Yj:=@List.getElem?_eq_some_iff
abbrev Yk:=@List.mem_singleton
abbrev Yl:=@List.mem_map
abbrev Ym:=@List.mem_cons
abbrev Yn:=@Bool.eq_false_iff
abbrev Yo:=@List.mem_append
abbrev Yp:=@Nat.ne_of_lt
abbrev Yq:=@Nat.zero_le
abbrev Yr:=@Option.some.inj
abbrev Ys:=@List.getElem?_append_right
abbrev Yt:=@List.getElem?_append_left
abbrev Yu:=@List.getElem?_map
abbrev Yv:=@List.length_take
abbrev Yw:=@Array.getElem?_eq_getElem
abbrev Yx:=@PySem.wpAny_mono
abbrev Yy:=@PySem.wpAny_holding
abbrev Yz:=@PySem.wpAny_newObj_type
abbrev YA:=@List.mem_cons_self
abbrev YB:=@List.length_cons
abbrev YC:=@Bool.and_eq_true
abbrev YD:=@of_decide_eq_true
abbrev YE:=@absurd
abbrev YF:=@if_neg
abbrev YG:=@if_pos
abbrev YH:=@List.not_mem_nil
abbrev YI:=@Or.inl
abbrev YJ:=@List.take_length
abbrev YK:=@False.elim
abbrev YL:=@PySem.W.mg_none_of
abbrev YM:=@PyProof.Rows.boot_tuple
abbrev YN:=@PyProof.Rows.boot_int
abbrev YO:=@List.append_nil
abbrev YQ:=@PySem.wpAny_call_entry
abbrev YR:=@Nat.le_of_eq
abbrev YS:=@List.lookup_cons
abbrev YT:=@List.map_cons
abbrev YU:=@Array.length_toList
abbrev YV:=@List.any_cons
abbrev YW:=@PySem.boot_len
abbrev YX:=@PySem.W.mg_of
abbrev YY:=PySem.W.Frag
namespace L2
open PySem PySem.Spec PyProof.Rows
abbrev Key:=Sum Int Str
def iB:Key->Value->Bool
 | .inl k,v=>Value.isInt k v
 | .inr x,v=>Value.isStrOf x v
def OA(w:World):Key->Int
 | .inl k=>hashInt k
 | .inr x=>hashStr w x
theorem bP:∀{k:Key}{v:Value},iB k v=true->(∃i t,k=Sum.inl i/\v=Value.int i t)\/(∃x t,k=Sum.inr x/\v=Value.str x t)
 | .inl i,v,h=>by obtain⟨t,e⟩:=Value.isInt_shape (k:=i) (v:=v) h;exact .inl ⟨i,t,rfl,e⟩
 | .inr x,v,h=>by obtain⟨t,e⟩:=Value.isStrOf_shape (x:=x) (v:=v) h;exact .inr ⟨x,t,rfl,e⟩
theorem pd(i:Int)(t:Tok):iB (.inl i) (.int i t)=true:=by simp[iB,Value.isInt]
theorem pA(x:Str)(t:Tok):iB (.inr x) (.str x t)=true:=by simp[iB,Value.isStrOf]
theorem Lm(a b:Int):decide ((Sum.inl a:Key)=Sum.inl b)=(a==b):=by
 by_cases e:a=b
 ·subst e;simp
 ·have h:¬(Sum.inl a:Key)=Sum.inl b:=λq=>e (Sum.inl.inj q);rw[X7 h];exact(beq_eq_false_iff_ne.mpr e).symm
theorem LN(a b:Str):decide ((Sum.inr a:Key)=Sum.inr b)=decide (a=b):=by
 by_cases e:a=b
 ·subst e;simp
 ·have h:¬(Sum.inr a:Key)=Sum.inr b:=λq=>e (Sum.inr.inj q);rw[X7 h,X7 e]
theorem K0(a:Int)(b:Str):decide ((Sum.inl a:Key)=Sum.inr b)=false:=X7 (λq=>nomatch q)
theorem MQ(a:Str)(b:Int):decide ((Sum.inr a:Key)=Sum.inl b)=false:=X7 (λq=>nomatch q)
def bQ(prog:Program)(w:World):PySem.KeyKind prog w Key where
 is:=iB
 hash:=OA w
 inj:=λv a b ha z=>by
  rcases bP ha with⟨i,t,rfl,rfl⟩|⟨x,t,rfl,rfl⟩
  ·rcases bP z with⟨j,u,rfl,e⟩|⟨y,u,rfl,e⟩
   ·injection e with e1 _;rw[e1]
   ·exact nomatch e
  ·rcases bP z with⟨j,u,rfl,e⟩|⟨y,u,rfl,e⟩
   ·exact nomatch e
   ·injection e with e1 _;rw[e1]
 byValue:=λk v h=>by rcases bP h with⟨i,t,rfl,rfl⟩|⟨x,t,rfl,rfl⟩<;>rfl
 pyHash:=λhv h=>by
  rcases bP hv with⟨i,t,rfl,rfl⟩|⟨x,t,rfl,rfl⟩
  ·exact wpAny_pyHash_int h
  ·exact wpAny_pyHash_str h
 eqBool:=λO hv h=>by
  rcases bP O with⟨i,t,rfl,rfl⟩|⟨x,t,rfl,rfl⟩
  ·rcases bP hv with⟨j,u,rfl,rfl⟩|⟨y,u,rfl,rfl⟩
   ·rw[Lm]at h;exact wpAny_eqBool_int h
   ·rw[K0]at h;exact SeqAt.EqAt.int_str i t y u _ _ _ _ h
  ·rcases bP hv with⟨j,u,rfl,rfl⟩|⟨y,u,rfl,rfl⟩
   ·rw[MQ]at h;exact SeqAt.EqAt.str_int x t j u _ _ _ _ h
   ·rw[LN]at h;exact wpAny_eqBool_str h
 «strs»:=λk x t v h=>by
  rcases bP h with⟨i,u,rfl,e⟩|⟨y,u,rfl,e⟩
  ·exact nomatch e
  ·injection e with e1 _;subst e1;cases v<;>rfl
abbrev dn:=Option Key
def Kd:dn->Value->Bool
 |none,.none=>true
 |none,_=>false
 |some k,v=>iB k v
theorem wI{prog:Program}{w:World}{A:Around}{E:nT}{s:Shared}{Q:Int->Shared->Prop}(h:Q 0xFCA86420 {s with toks:=s.toks+1}):wpAny (model prog w) A (pyHash .none) Q E s:=by
 unfold pyHash;have hv:[Value.none].any Value.onHeap=false:=rfl;refine X0 ?_;rw[cRoomFor,YF (by rw[hv];exact Yh)];refine X1 ?_;refine X0 (wpAny_specialOf (typeIs_none s) F.slot_NoneType_hash.lookup ?_);show wpAny _ _ (if(some (Value.builtin "NoneType.__hash__")==some Value.none)=true then _ else _) Q E s;rw[YF (by rw[beq_builtin_none];exact Yh)];refine X0 (wpAny_specialOf (typeIs_none s) F.slot_NoneType_hash.lookup ?_);refine X0 (wpAny_callSpecialIfBoundUnlessNone?_slot (typeIs_none s) F.slot_NoneType_hash
  (YQ F.slot_NoneType_hash (typeIs_none s) F.entry_NoneType_hash
   (show wpAny _ _ (do ret (←mkInt 0xFCA86420)) _ _ s from wpAny_ret_mkInt ?_) (F.args_NoneType_hash_1 _)))
 show wpAny _ _ (if(decide (-(2:Int) ^ 63<=0xFCA86420)&&decide ((0xFCA86420:Int)<2 ^ 63))=true then _ else _) Q E _;rw[YG (by decide)];exact X1 h
theorem df:∀{k:dn}{v:Value},Kd k v=true->(k=none/\v=.none)\/∃k',k=some k'/\iB k' v=true
 |none,.none,_=>.inl ⟨rfl,rfl⟩
 |some k,v,h=>.inr ⟨k,rfl,h⟩
theorem DT(a b:Key):decide ((some a:dn)=some b)=decide (a=b):=by
 by_cases e:a=b
 ·subst e;simp
 ·rw[X7 e,X7 (λq=>e (Yr q))]
theorem MH(a:Key):decide ((some a:dn)=none)=false:=X7 (λq=>nomatch q)
theorem KU(a:Key):decide ((none:dn)=some a)=false:=X7 (λq=>nomatch q)
def optKind(prog:Program)(w:World):PySem.KeyKind prog w dn where
 is:=Kd
 hash:=λk=>match k with|none=>0xFCA86420|some k=>OA w k
 inj:=λv a b ha hb=>by
  rcases df ha with⟨rfl,rfl⟩|⟨a',rfl,O⟩
  ·rcases df hb with⟨rfl,_⟩|⟨b',rfl,z⟩
   ·rfl
   ·rcases bP z with⟨j,u,_,e⟩|⟨y,u,_,e⟩<;>exact nomatch e
  ·rcases df hb with⟨rfl,rfl⟩|⟨b',rfl,z⟩
   ·rcases bP O with⟨j,u,_,e⟩|⟨y,u,_,e⟩<;>exact nomatch e
   ·rw[(bQ prog w).inj v a' b' O z]
 byValue:=λk v h=>by
  rcases df h with⟨rfl,rfl⟩|⟨k',rfl,h'⟩
  ·rfl
  ·exact(bQ prog w).byValue k' v h'
 pyHash:=λhv h=>by
  rcases df hv with⟨rfl,rfl⟩|⟨k',rfl,h'⟩
  ·exact wI h
  ·exact(bQ prog w).pyHash h' h
 eqBool:=λ{A E s a b u v Q} hu hv h=>by
  rcases df hu with⟨rfl,rfl⟩|⟨k,rfl,hk⟩
  ·rcases df hv with⟨rfl,rfl⟩|⟨l,rfl,U⟩
   ·unfold eqBool;refine Yy ?_;rw[X8 rfl]at h;exact wpAny_ite_split (λ_=>X0 (wpAny_rule (X1 h))) (λhn=>YE rfl hn)
   ·rw[KU]at h;rcases bP U with⟨j,u,rfl,rfl⟩|⟨y,u,rfl,rfl⟩
    ·exact SeqAt.EqAt.none_int j u _ _ _ _ h
    ·exact SeqAt.EqAt.none_str y u _ _ _ _ h
  ·rcases df hv with⟨rfl,rfl⟩|⟨l,rfl,U⟩
   ·rw[MH]at h;rcases bP hk with⟨j,u,rfl,rfl⟩|⟨y,u,rfl,rfl⟩
    ·exact SeqAt.EqAt.int_none j u _ _ _ _ h
    ·exact SeqAt.EqAt.str_none y u _ _ _ _ h
   ·rw[DT]at h;exact(bQ prog w).eqBool hk U h
 «strs»:=λk x t v h=>by
  rcases df h with⟨_,e⟩|⟨k',rfl,h'⟩
  ·exact nomatch e
  ·exact(bQ prog w).strs k' x t v h'
theorem x4(prog:Program)(w:World)(i:Int)(t:Tok):(bQ prog w).is (.inl i) (.int i t)=true:=pd i t
theorem yt(prog:Program)(w:World)(x:Str)(t:Tok):(bQ prog w).is (.inr x) (.str x t)=true:=pA x t
inductive V where
 |non|bl (b:Bool)|int (i:Int)|str (x:Str)|B0 (b:Array UInt8)|flt (b:UInt64)|ref (a:Addr)|ty (n:String)
 deriving DecidableEq
def RelV:V->Value->Prop
 | .non,u=>u=Value.none
 | .bl b,u=>u=Value.bool b
 | .int i,u=>∃t,u=Value.int i t
 | .str x,u=>∃t,u=Value.str x t
 | .B0 b,u=>∃t,u=Value.bytes b t
 | .flt b,u=>∃t,u=Value.float b t
 | .ref a,u=>u=Value.ref a
 | .ty n,u=>u=Value.type n
abbrev Vals:List V->Z4->Prop:=Paired RelV
theorem Vals.length{xs:List V}{us:Z4}(r:Vals xs us):xs.length=us.length:=Paired.length r
theorem Vals.get:∀{xs:List V}{us:Z4}{i:Nat}{x:V},Vals xs us->xs[i]? = some x->∃u,us[i]? = some u/\RelV x u
 |_,_,_,_,.nil,e=>by simp at e
 |_,_,0,_,.cons r _,e=>by simp at e;subst e;exact⟨_,rfl,r⟩
 |_,_,i+1,x,.cons _ t,e=>by obtain⟨u,h1,h2⟩:=Vals.get (i:=i) (x:=x) t (by simpa using e);exact⟨u,by simpa using h1,h2⟩
theorem Vals.set{x:V}{u:Value}(r:RelV x u):∀{xs:List V}{us:Z4}(i:Nat),Vals xs us->Vals (xs.set i x) (us.set i u)
 |_,_,_,.nil=>.nil
 |_,_,0,.cons _ t=>.cons r t
 |_,_,i+1,.cons q t=>.cons q (Vals.set r i t)
theorem Vals.append{xs ys:List V}{us ws:Z4}(h:Vals xs us)(g:Vals ys ws):Vals (xs++ys) (us++ws):=by
 induction h with
 |nil=>exact g
 |cons r t z=>exact .cons r z
theorem Vals.take:∀{xs:List V}{us:Z4}(n:Nat),Vals xs us->Vals (xs.take n) (us.take n)
 |_,_,0,_=>.nil
 |_,_,_+1,.nil=>.nil
 |_,_,n+1,.cons r t=>.cons r (Vals.take n t)
theorem Vals.drop:∀{xs:List V}{us:Z4}(n:Nat),Vals xs us->Vals (xs.drop n) (us.drop n)
 |_,_,0,r=>r
 |_,_,_+1,.nil=>.nil
 |_,_,n+1,.cons _ t=>Vals.drop n t
def j6:Option V->Z5->Prop
 |some v,some u=>RelV v u
 |none,none=>True
 |_,_=>False
def KV{κ:Type}:List (κ×V)->List (κ×Value)->Prop:=Paired λ(p:κ×V) (q:κ×Value)=>p.1=q.1/\RelV p.2 q.2
def kV:Key->V
 | .inl i=>.int i
 | .inr x=>.str x
def oV:dn->V
 |none=>.non
 |some k=>kV k
inductive HO where
 |lst (xs:List V)
 |tup (xs:List V)
 |dK (kvs:List (Key×V))|dT (kvs:List (List dn×V))
 |set (S:Int->Bool) (n:Nat)
 |ins (C dx:Addr) (fs:List (Str×V))
 |own (x:Addr)
 |xd (fs:List (Str×V))
 |met (f x:Addr)
 |BI (lo hi:Int)
 |zk (o:Obj) (u:HO)
 |J7 (ps:Array Value)
 |ext (φ:Heap->Prop)
abbrev Hp:=Addr->Option HO
def upd(H:Hp)(a:Addr)(o:HO):Hp:=λb=>if b=a then some o else H b
theorem ae{H:Hp}{a:Addr}{o:HO}:upd H a o a=some o:=by unfold upd;rw[YG rfl]
theorem aI{H:Hp}{a b:Addr}{o:HO}(h:b≠a):upd H a o b=H b:=by unfold upd;rw[YF h]
theorem JM{H:Hp}{a b:Addr}{o u:HO}(h:H a=some o)(h':H b=some u)(d:o≠u):a≠b:=by intro e;subst e;rw[h]at h';exact d (Yr h')
theorem aY{H:Hp}{a b:Addr}{o:HO}(h:H a=some o)(h':H b=none):a≠b:=by intro e;subst e;rw[h]at h';cases h'
def l9(h:Heap)(a:Addr)(items:Array Value):Prop:=∃o,h.get? a=some o/\o.cls=.type "tuple"/\(∃n,o.data=.seq items n)/\o.dict=none
theorem l9.tup{h:Heap}{a:Addr}{items:Array Value}(x:l9 h a items):IsTup h a items:=let ⟨o,ho,hc,hd,_⟩:=x;⟨o,ho,hc,hd⟩
theorem l9.new(h:Heap)(items:Array Value):l9 (h.push {cls:=.type "tuple",data:=.seq items}) h.objs.size items:=⟨_,X4 _ rfl,rfl,⟨_,rfl⟩,rfl⟩
section
variable(P:Program)(w:World)
def cD(H:Hp)(h:Heap)(a:Addr):HO->Prop
 | .lst xs=>xs.length<=sizeLine/\∃(z:Z4)(n:Nat),Vals xs z/\h.get? a=some {cls:=.type "list",data:=.seq z.toArray n}
 | .tup xs=>xs.length<=sizeLine/\∃z:Z4,Vals xs z/\l9 h a z.toArray
 | .dK kvs=>kvs.length<=sizeLine/\(a==sysModules)=false/\∃vs,KV kvs vs/\h.DictOf (bQ P w) a vs
 | .dT kvs=>kvs.length<=sizeLine/\(a==sysModules)=false/\∃xs:List (List dn×Addr×Value),
   Paired (λ(p:List dn×V) (q:List dn×Addr×Value)=>p.1=q.1/\H q.2.1=some (.tup (p.1.map oV))/\RelV p.2 q.2.2) kvs xs/\
   ∃o es ep,h.get? a=some o/\o.ExactDict/\o.data=.dict es ep/\es.toList=xs.map (entryOfKey (tupleKind (optKind P w)))/\(xs.map (·.1)).Nodup
 | .set S n=>h.SetOf (intKind P w) a S n
 | .ins C dx fs=>H dx=some (.own a)/\fs.length<=1000/\dx≠a/\h.get? a=some (PySem.W.instObj C dx)/\
   ∃mA,h.Ns1 dx mA/\(∀f,j6 (fs.lookup f) (mA f))/\PySem.Within mA (fs.map (·.1))
 | .own _=>∃o,h.get? a=some o
 | .xd fs=>∃mA,h.Ns1 a mA/\∀f,j6 (fs.lookup f) (mA f)
 | .BI lo hi=>∃t u v,h.get? a=some {cls:=.type "range",data:=.fields #[.int lo t,.int hi u,.int 1 v]}
 | .zk o u=>h.get? a=some o/\cD H h a u
 | .J7 ps=>h.get? a=some {cls:=.none,data:=.fields ps}
 | .met f x=>h.get? a=some (PySem.W.methodObj (.ref f) (.ref x))
 | .ext φ=>φ h/\(∃o,h.get? a=some o)/\∀h1 h2:Heap,φ h1->(∀o,h1.get? a=some o->h2.get? a=some o)->φ h2
def ky(H:Hp)(h:Heap):Prop:=∀a o,H a=some o->cD P w H h a o
end
section
variable{P:Program}{w:World}{H H':Hp}{h h':Heap}{a:Addr}{o:HO}
theorem cD.lt(x:cD P w H h a o):a<h.objs.size:=by
 cases o with
 |lst xs=>obtain⟨_,_,_,_,e⟩:=x;exact X3 e
 |tup xs=>obtain⟨_,_,_,p⟩:=x;exact p.tup.lt
 |dK kvs=>obtain⟨_,_,_,_,o,_,_,e,_⟩:=x;exact X3 e
 |dT kvs=>obtain⟨_,_,_,_,o,_,_,e,_⟩:=x;exact X3 e
 |set S n=>obtain⟨o,_,_,_,e,_⟩:=x;exact X3 e
 |ins C dx fs=>obtain⟨_,_,_,e,_⟩:=x;exact X3 e
 |own y=>obtain⟨_,e⟩:=x;exact X3 e
 |xd fs=>obtain⟨_,⟨_,_,_,e,_⟩,_⟩:=x;exact X3 e
 |BI lo hi=>obtain⟨_,_,_,e⟩:=x;exact X3 e
 |zk z u=>obtain⟨e,_⟩:=x;exact X3 e
 |J7 ps=>exact X3 (show h.get? a=some _ from x)
 |met f y=>exact X3 (show h.get? a=some _ from x)
 |ext φ=>obtain⟨_,⟨_,e⟩,_⟩:=x;exact X3 e
theorem Paired.NN{α U:Type}{F G:α->U->Prop}{z:List α}{O:List U}(h:Paired F z O)(f:∀a b,F a b->G a b):Paired G z O:=by
 induction h with
 |nil=>exact .nil
 |cons r t ih=>exact .cons (f _ _ r) ih
theorem cD.stay(x:cD P w H h a o)(k:∀b u,(b=a\/H b=some (.own a))->h.get? b=some u->h'.get? b=some u)
  (ho:∀b,H b=some (.own a)->H' b=some (.own a)) (ht:∀b xs,H b=some (.tup xs)->H' b=some (.tup xs)):cD P w H' h' a o:=by
 induction o with
 |lst xs=>obtain⟨z,U,n,r,e⟩:=x;exact⟨z,U,n,r,k _ _ (.inl rfl) e⟩
 |tup xs=>obtain⟨z,U,r,O,e,c⟩:=x;exact⟨z,U,r,O,k _ _ (.inl rfl) e,c⟩
 |dK kvs=>obtain⟨z,y,vs,r,O,es,ep,e,c⟩:=x;exact⟨z,y,vs,r,O,es,ep,k _ _ (.inl rfl) e,c⟩
 |dT kvs =>obtain⟨z,y,xs,r,O,es,ep,e,c⟩:=x;exact⟨z,y,xs,Paired.NN r λp q z=>⟨z.1,ht _ _ z.2.1,z.2.2⟩,O,es,ep,k _ _ (.inl rfl) e,c⟩
 |set S n=>obtain⟨O,es,ep,t,e,c⟩:=x;exact⟨O,es,ep,t,k _ _ (.inl rfl) e,c⟩
 |ins C dx fs =>obtain⟨d,z,ne,e,mA,⟨od,es,ep,e2,c⟩,r⟩:=x;exact⟨ho _ d,z,ne,k _ _ (.inl rfl) e,mA,⟨od,es,ep,k _ _ (.inr d) e2,c⟩,r⟩
 |own y=>obtain⟨O,e⟩:=x;exact⟨O,k _ _ (.inl rfl) e⟩
 |xd fs=>obtain⟨mA,⟨od,es,ep,e,c⟩,r⟩:=x;exact⟨mA,⟨od,es,ep,k _ _ (.inl rfl) e,c⟩,r⟩
 |BI lo hi=>obtain⟨t,u,v,e⟩:=x;exact⟨t,u,v,k _ _ (.inl rfl) e⟩
 |zk O u ih=>obtain⟨e,q⟩:=x;exact⟨k _ _ (.inl rfl) e,ih q⟩
 |J7 ps =>have e:h.get? a=some {cls:=.none,data:=.fields ps}:=x;show h'.get? a=some {cls:=.none,data:=.fields ps};exact k a _ (.inl rfl) e
 |met f y =>have e:h.get? a=some (PySem.W.methodObj (.ref f) (.ref y)):=x;show h'.get? a=some (PySem.W.methodObj (.ref f) (.ref y));exact k a _ (.inl rfl) e
 |ext φ=>obtain⟨p,⟨o,e⟩,st⟩:=x;exact⟨st _ _ p λo q=>k _ _ (.inl rfl) q,⟨o,k _ _ (.inl rfl) e⟩,st⟩
theorem ky.lt(x:ky P w H h)(e:H a=some o):a<h.objs.size:=(x a o e).lt
theorem ky.fresh(x:ky P w H h)(e:h.objs.size<=a):H a=none:=by
 cases q:H a with
 |none=>rfl
 |some u=>exact YE (Yc (x.lt q) e) (Nat.lt_irrefl _)
theorem ky.kept(x:ky P w H h)(k:∀b u,h.get? b=some u->h'.get? b=some u):ky P w H h':=λa o e =>
 (x a o e).stay (λb u _ q=>k b u q) (λ_ q=>q) λ_ _ q=>q
theorem ky.laid(x:ky P w H h)(k:∀b u,h.get? b=some u->h'.get? b=some u)(O:h.objs.size<=a)(new:cD P w (upd H a o) h' a o):ky P w (upd H a o) h':=λb u e=>by
 have hn:=x.fresh O;by_cases z:b=a
 ·subst z;rw[ae]at e;cases e;exact new
 ·rw[aI z]at e;exact(x b u e).stay (λc v _ q=>k c v q) (λc q=>by rw[aI (aY q hn)];exact q) λc xs q=>by rw[aI (aY q hn)];exact q
end
def Rd(H:Hp)(a:Addr)(u:HO):Prop:=H a=some u\/∃o,H a=some (.zk o u)
theorem Rd.ok{P:Program}{w:World}{H:Hp}{h:Heap}{a:Addr}{u:HO}(r:Rd H a u)(x:ky P w H h):cD P w H h a u:=by
 rcases r with r|⟨o,r⟩
 ·exact x a u r
 ·obtain⟨_,q⟩:=x a _ r;exact q
def OU:Option HO->Prop
 |some (.lst _)=>True
 |some (.dK _)=>True
 |some (.dT _)=>True
 |some (.set _ _)=>True
 |some (.ins _ _ _)=>True
 |some (.ext _)=>True
 |_=>False
section
variable{P:Program}{w:World}{H:Hp}{h h':Heap}{x e:Addr}{o':HO}
theorem ky.write(ok:ky P w H h)(mu:OU (H x))(he:e=x\/H e=some (.own x))(k:∀b u,b≠e->h.get? b=some u->h'.get? b=some u)(heo:∃u,h'.get? e=some u)
  (new:cD P w (upd H x o') h' x o'):ky P w (upd H x o') h':=λb u q=>by
 have OH:∀c y,H c=some (.own y)->c≠x:=λc y r z=>by subst z;rw[r]at mu;exact mu
 have RO:∀c xs,H c=some (.tup xs)->c≠x:=λc xs r z=>by subst z;rw[r]at mu;exact mu
 by_cases hb:b=x
 ·subst hb;rw[ae]at q;cases q;exact new
 ·rw[aI hb]at q;by_cases O:b=e
  ·have q':H b=some (.own x):=by
    rcases he with z|z
    ·exact YE (O.trans z) hb
    ·rw[O];exact z
   rw[q]at q';cases q';obtain⟨v,hv⟩:=heo;exact⟨v,by rw[O];exact hv⟩
  ·refine(ok b u q).stay (λc v U r=>k c v ?_ r) (λc r=>by rw[aI (OH c b r)];exact r) λc xs r=>by rw[aI (RO c xs r)];exact r
   rcases U with rfl|U
   ·exact O
   ·rintro rfl;rcases he with z|z
    ·exact OH c b U z
    ·rw[U]at z;cases z;exact hb rfl
end
structure Un(fs ex:Z6)(H H':Hp)(h h':Heap):Prop where
 keep:∀b o,h.get? b=some o->H b=none->b∉fs->b∉ex->h'.get? b=some o
 slot:∀b o,h.get? b=some o->H b=none->b∈fs->b∉ex->∃sl,h'.get? b=some {o with slots:=sl}
 free:∀b o,h.get? b=some o->H b=none->b∉ex->H' b=none
 there:∀b o,h.get? b=some o->b∉ex->∃o',h'.get? b=some o'
 tups:∀b xs,H b=some (.tup xs)->H' b=some (.tup xs)
 tS:∀b o u,H b=some (.zk o u)->H' b=some (.zk o u)
 vK:∀b ps,H b=some (.J7 ps)->∃more,H' b=some (.J7 (ps++more))
section
variable{fs fs' ex ex':Z6}{H H1 H2:Hp}{h h1 h2 h':Heap}{a x e:Addr}{o:HO}
theorem Un.any(u:Un fs ex H H1 h h1){b:Addr}{z:Obj}(q:h.get? b=some z)(n:H b=none)(O:b∉ex):∃sl,h1.get? b=some {z with slots:=sl}:=by
 by_cases U:b∈fs
 ·exact u.slot b z q n U O
 ·exact⟨z.slots,u.keep b z q n U O⟩
theorem Un.kept(k:∀b u,h.get? b=some u->h'.get? b=some u):Un fs ex H H h h' :=
 ⟨λb z q _ _ _=>k b z q,λb z q _ _ _=>⟨z.slots,k b z q⟩,λ_ _ _ n _=>n,λb z q _=>⟨z,k b z q⟩,λ_ _ q=>q,λ_ _ _ q=>q,λ_ ps q=>⟨#[],by rw[q];simp⟩⟩
theorem Un.refl:Un fs ex H H h h:=Un.kept λ_ _ q=>q
theorem Un.laid(k:∀b u,h.get? b=some u->h'.get? b=some u)(z:h.objs.size<=a)(hn:H a=none):Un fs ex H (upd H a o) h h' where
 keep:=λb u q _ _ _=>k b u q
 slot:=λb u q _ _ _=>⟨u.slots,k b u q⟩
 free:=λb u q n _=>by rw[aI (Yp (Yc (X3 q) z))];exact n
 there:=λb u q _=>⟨u,k b u q⟩
 tups:=λb xs q=>by rw[aI (aY q hn)];exact q
 tS:=λb u xs q=>by rw[aI (aY q hn)];exact q
 vK:=λb ps q=>⟨#[],by rw[aI (aY q hn),q];simp⟩
theorem Un.write(U:OU (H x))(he:e=x\/H e=some (.own x))(k:∀b u,b≠e->h.get? b=some u->h'.get? b=some u)(heo:∃u,h'.get? e=some u):Un fs ex H (upd H x o) h h':=by
 have hx:∀b,H b=none->b≠x:=λb n z=>by subst z;rw[n]at U;exact U
 have hb:∀b,H b=none->b≠e:=λb n z=>by
  subst z;rcases he with r|r
  ·exact hx b n r
  ·rw[n]at r;cases r
 have hm:∀b u,H b=some u->¬OU (some u)->b≠x:=λb u q nm z=>by subst z;rw[q]at U;exact nm U
 refine⟨λb u q n _ _=>k b u (hb b n) q,λb u q n _ _=>⟨u.slots,k b u (hb b n) q⟩,λb u q n _=>by rw[aI (hx b n)];exact n,λb u q _=>?_,
  λb xs q=>by rw[aI (hm b _ q λz=>z)];exact q,λb u xs q=>by rw[aI (hm b _ q λz=>z)];exact q,λb ps q=>⟨#[],by rw[aI (hm b _ q λz=>z),q];simp⟩⟩
 by_cases O:b=e
 ·subst O;exact heo
 ·exact⟨u,k b u O q⟩
end
def P_(h:Heap)(H:Hp):Z6:=(List.range h.objs.size).filter λa=>(H a).isSome
def uU(h:Heap)(H:Hp):Heap:=PySem.W.hideAll h (P_ h H)
theorem C0(h:Heap)(H:Hp):(uU h H).objs.size=h.objs.size:=PySem.W.hideAll_size _ _
theorem DK{h:Heap}{H:Hp}{b:Addr}{o:Obj}(e:h.get? b=some o)(n:H b=none):(uU h H).get? b=some o :=
 PySem.W.hideAll_get _ e λhm=>by have q:(H b).isSome=true:=(List.mem_filter.mp hm).2;rw[n]at q;simp at q
theorem Ir{h:Heap}{H:Hp}{b:Addr}{o:Obj}(e:(uU h H).get? b=some o):h.get? b=some o/\H b=none:=by
 have O:h.get? b=some o:=PySem.W.of_hideAll (P_ h H) e;refine⟨O,?_⟩;cases q:H b with
 |none=>rfl
 |some x =>have hm:b∈P_ h H:=List.mem_filter.mpr ⟨List.mem_range.mpr (X3 O),by simp[q]⟩;have z:(uU h H).get? b=none:=PySem.W.hideAll_none (P_ h H) hm;rw[z]at e;cases e
structure Mod(K:YY)(mg:Z0)(base:Heap):Prop where
 Lk:K.In base
 glob:base.Ns mainGlobals mg
 blt:∃mb,base.Ns builtinsNs mb/\∀x:Str,x≠"__name__"->mb x=bootBuiltins x
 nolimit:base.NoLimit
structure Cx where
 prog:Program
 w:World
 K:YY
 mg:Z0
 base:Heap
 A:Around
 N:List Str
 s₀:Shared
 H₀:Hp
 env:Env
 outer:List Env
 stack:List Env
 ex:Z6
 fn:Str->Bool
 calm:Bool
 pn:eN
 xe:nT
def frs(l:List Env):Z6:=l.filterMap (·.frame)
abbrev Cx.fs(X:Cx):Z6:=frs X.outer
def Sf(sc:Scope)(x:Str):Prop:=sc.names.lookup x=some .local\/sc.names.lookup x=some .cell\/sc.names.lookup x=some .free
def Loc(sc:Scope)(x:Str):Prop:=sc.names.lookup x=some .local\/sc.names.lookup x=some .cell
def Look(env:Env)(h:Heap)(m:Z0)(x:Str)(u:Value):Prop :=
 (env.kindOf x=some .local/\m x=some u)\/((env.kindOf x=some .cell\/env.kindOf x=some .free)/\∃c,env.cells.lookup x=some c/\h.IsCell c (some u))
structure Cx.Ok(X:Cx):Prop where
 mod:Mod X.K X.mg X.base
 kind:X.env.scope.kind=.function
 glob:X.env.globals=mainGlobals
 blt:X.env.builtins=builtinsNs
 above:X.s₀.heap.objs.size<=X.env.locals
 inj:∀x y c,X.env.cells.lookup x=some c->X.env.cells.lookup y=some c->x=y
 has:∀x,(X.env.kindOf x=some .cell\/X.env.kindOf x=some .free)->∃c,X.env.cells.lookup x=some c
 cab:∀x c,X.fn x=true->X.env.cells.lookup x=some c->X.s₀.heap.objs.size<=c
 hd:X.calm=true->X.A.handled=none
 frames:X.A.frames=some X.stack
 P7:X.stack=X.outer\/(X.stack=X.env::X.outer/\X.env.frame=some X.env.locals)
 GV:∀b∈X.ex,b≠X.env.locals/\∀x c,X.env.cells.lookup x=some c->c≠b
 bs:∀b o,X.base.get? b=some o->X.s₀.heap.get? b=some o/\X.H₀ b=none
 I0:X.base.objs.size<=X.s₀.heap.objs.size
 EU:∀b o,X.base.get? b=some o->b∉X.ex
 xR:∀b∈X.ex,b∉X.fs
 qB:X.s₀.heap.FunFrames X.base X.outer
 MY:∀b∈X.fs,X.H₀ b=none
structure Inv(X:Cx)(ac:eN)(σ:List (Option V))(H:Hp)(s:Shared):Prop where
 ok:X.Ok
 os:s.os=X.s₀.os
 bare:AllBare s.gens
 base:Un X.fs X.ex X.H₀ H X.s₀.heap s.heap
 loc:∃m,s.heap.Ns X.env.locals m/\∀(i:Nat)(x:Str)(v:V),X.N[i]? = some x->σ[i]? = some (some v)->Sf X.env.scope x->∃u,RelV v u/\Look X.env s.heap m x u
 cell:∀x c,X.env.cells.lookup x=some c->∃v,s.heap.IsCell c v
 free:H X.env.locals=none
 mQ:∀x c,X.env.cells.lookup x=some c->H c=none
 pin:∀p∈X.pn++ac,s.heap.get? p.1=some p.2/\H p.1=none/\p.1≠X.env.locals/\p.1∉X.fs/\∀v,p.2.data≠ .cell v
 hok:ky X.prog X.w H s.heap
 len:σ.length=X.N.length
section
variable{X:Cx}{ac:eN}{σ:List (Option V)}{H H':Hp}{s:Shared}{h':Heap}
theorem Cx.Ok.R8(ok:X.Ok){b:Addr}{o:Obj}(e:X.base.get? b=some o):b∉X.fs:=λz=>by have:=(ok.qB.mem z).1;rw[e]at this;cases this
theorem Inv.bs(I:Inv X ac σ H s):∀b o,X.base.get? b=some o->s.heap.get? b=some o/\H b=none:=λb o e =>
 ⟨I.base.keep b o (I.ok.bs b o e).1 (I.ok.bs b o e).2 (I.ok.R8 e) (I.ok.EU b o e),I.base.free b o (I.ok.bs b o e).1 (I.ok.bs b o e).2 (I.ok.EU b o e)⟩
theorem Inv.bk(I:Inv X ac σ H s):∀b o,X.base.get? b=some o->s.heap.get? b=some o:=λb o e=>(I.bs b o e).1
theorem Inv.mod(I:Inv X ac σ H s):Mod X.K X.mg X.base:=I.ok.mod
theorem Inv.mY(I:Inv X ac σ H s):X.K.In s.heap:=I.ok.mod.Lk.keeps I.bk
theorem Inv.lt(I:Inv X ac σ H s):X.env.locals<s.heap.objs.size:=let ⟨_,hn,_⟩:=I.loc;hn.lt
theorem Inv.sz(I:Inv X ac σ H s):X.s₀.heap.objs.size<=s.heap.objs.size:=X6 I.ok.above (Nat.le_of_lt I.lt)
theorem Inv.RB(I:Inv X ac σ H s){a:Addr}(h:s.heap.objs.size<=a):a∉X.fs:=λO=>by obtain⟨_,o,z,_⟩:=I.ok.qB.mem O;exact YE (Yc (X3 z) (X6 I.sz h)) (Nat.lt_irrefl _)
theorem Inv.Mq(I:Inv X ac σ H s):∀x c,X.env.cells.lookup x=some c->c≠X.env.locals:=λx c e z=>by obtain⟨v,o,ho,hd⟩:=I.cell x c e;obtain⟨m,⟨o',es,ep,O,U,_⟩,_⟩:=I.loc;rw[z,O]at ho;cases ho;rw[U]at hd;cases hd
theorem Inv.qB(I:Inv X ac σ H s):s.heap.FunFrames X.base X.outer:=by
 have all:∀(l:List Env),(∀b∈frs l,b∈X.fs)->X.s₀.heap.FunFrames X.base l->s.heap.FunFrames X.base l:=by
  intro l;induction l with
  |nil=>intro _ _;trivial
  |cons env r ih =>intro hs hl;obtain⟨hk,⟨L,o,O,hn,ho,hd⟩,hr⟩:=hl;have U:L∈X.fs:=hs L (by unfold frs;rw[List.filterMap_cons,O];exact YA);obtain⟨sl,e⟩:=I.base.slot L o ho (I.ok.MY L U) U λz=>I.ok.xR L z U;exact⟨hk,⟨L,_,O,hn,e,hd⟩,ih (λb hb=>hs b (by unfold frs;rw[List.filterMap_cons,O];exact Yg _ hb)) hr⟩
 exact all X.outer (λ_ hb=>hb) I.ok.qB
theorem Inv.stack(I:Inv X ac σ H s):s.heap.FunFrames X.base X.stack:=by
 rcases I.ok.P7 with e|⟨e,z⟩
 ·rw[e];exact I.qB
 ·rw[e];obtain⟨m,hn,_⟩:=I.loc;refine .cons (by rw[I.ok.kind];decide) z hn ?_ I.qB;exact Heap.get?_none_of_le (X6 I.ok.I0 I.ok.above)
theorem Inv.Aq(I:Inv X ac σ H s):∀b∈frs X.stack,b∈X.env.locals::X.fs:=λb z=>by
 rcases I.ok.P7 with e|⟨e,O⟩
 ·rw[e]at z;exact Yg _ z
 ·rw[e]at z;unfold frs at z;rw[List.filterMap_cons,O]at z;exact z
theorem Inv.qH(I:Inv X ac σ H s):∀b∈frs X.stack,H b=none:=λb O=>by
 rcases Ym.mp (I.Aq b O)with e|O
 ·rw[e];exact I.free
 ·obtain⟨_,o,U,_⟩:=I.ok.qB.mem O;exact I.base.free b o U (I.ok.MY b O) λz=>I.ok.xR b z O
theorem Inv.step{g':Array GenState}{t':Nat}{d':Drawn}{ch:Z6}(I:Inv X ac σ H s)
  (hch:∀b∈ch,(b∈X.ex\/X.s₀.heap.objs.size<=b)/\b≠X.env.locals/\(∀x c,X.env.cells.lookup x=some c->c≠b)/\∀p∈X.pn++ac,p.1≠b)
  (keep:∀b o,b≠X.env.locals->b∉X.fs->b∉ch->s.heap.get? b=some o->H b=none->h'.get? b=some o)
  (slot:∀b o,b≠X.env.locals->b∈X.fs->b∉ch->s.heap.get? b=some o->H b=none->∃sl,h'.get? b=some {o with slots:=sl}) (free:∀b o,b∉ch->s.heap.get? b=some o->H b=none->H' b=none)
  (there:∀b o,b∉ch->s.heap.get? b=some o->∃o',h'.get? b=some o')
  (tups:∀b xs,H b=some (.tup xs)->H' b=some (.tup xs)) (tS:∀b o u,H b=some (.zk o u)->H' b=some (.zk o u)) (vK:∀b ps,H b=some (.J7 ps)->∃more,H' b=some (.J7 (ps++more)))
  (ns:∀m,s.heap.Ns X.env.locals m->h'.Ns X.env.locals m) (hok:ky X.prog X.w H' h') (hg:AllBare g') :
  Inv X ac σ H' {s with heap:=h',gens:=g',drawn:=d',toks:=t'}:=by
 have Uu:∀b o,X.s₀.heap.get? b=some o->b≠X.env.locals:=λb o e=>Yp (Yc (X3 e) I.ok.above);have M8:∀b o,X.s₀.heap.get? b=some o->b∉X.ex->b∉ch:=λb o e O hb=>by
  rcases(hch b hb).1 with z|z
  ·exact O z
  ·exact YE (Yc (X3 e) z) (Nat.lt_irrefl _)
 have U:∀x c,X.env.cells.lookup x=some c->∀v,s.heap.IsCell c v->h'.IsCell c v:=λx c e v ⟨o,ho,hd⟩=>by
  have NV:c∉ch:=λz=>(hch c z).2.2.1 x c e rfl;by_cases hc:c∈X.fs
  ·obtain⟨sl,q⟩:=slot c o (I.Mq x c e) hc NV ho (I.mQ x c e);exact⟨_,q,hd⟩
  ·exact⟨o,keep c o (I.Mq x c e) hc NV ho (I.mQ x c e),hd⟩
 refine⟨I.ok,I.os,hg,⟨λb o e n hb O=>?_,λb o e n hb O=>?_,λb o e n O=>?_,λb o e O=>?_,λb xs e=>tups b xs (I.base.tups b xs e),λb o xs e=>tS b o xs (I.base.tS b o xs e),λb ps e=>?_⟩,?_,λx c e=>?_,?_,λx c e=>?_,λp hp=>?_,hok,I.len⟩
 ·exact keep b o (Uu b o e) hb (M8 b o e O) (I.base.keep b o e n hb O) (I.base.free b o e n O)
 ·obtain⟨sl,e1⟩:=I.base.slot b o e n hb O;obtain⟨sl',e2⟩:=slot b _ (Uu b o e) hb (M8 b o e O) e1 (I.base.free b o e n O);exact⟨sl',e2⟩
 ·obtain⟨o',e1⟩:=I.base.there b o e O;exact free b o' (M8 b o e O) e1 (I.base.free b o e n O)
 ·obtain⟨o',e1⟩:=I.base.there b o e O;exact there b o' (M8 b o e O) e1
 ·obtain⟨m1,e1⟩:=I.base.vK b ps e;obtain⟨m2,e2⟩:=vK b _ e1;exact⟨m1++m2,by rw[e2,Array.append_assoc]⟩
 ·obtain⟨m,hn,hl⟩:=I.loc;refine⟨m,ns m hn,λi x v e1 e2 e3=>?_⟩;obtain⟨u,r,l⟩:=hl i x v e1 e2 e3;refine⟨u,r,?_⟩;rcases l with l|⟨k,c,e,z⟩
  ·exact .inl l
  ·exact .inr ⟨k,c,e,U x c e _ z⟩
 ·obtain⟨v,z⟩:=I.cell x c e;exact⟨v,U x c e v z⟩
 ·obtain⟨m,⟨o,_,_,ho,_⟩,_⟩:=I.loc;exact free _ o (λz=>(hch _ z).2.1 rfl) ho I.free
 ·obtain⟨v,o,ho,hd⟩:=I.cell x c e;exact free c o (λz=>(hch c z).2.2.1 x c e rfl) ho (I.mQ x c e)
 ·obtain⟨e,n,ne,nf,d⟩:=I.pin p hp;have NV:p.1∉ch:=λz=>(hch p.1 z).2.2.2 p hp rfl;exact⟨keep p.1 p.2 ne nf NV e n,free p.1 p.2 NV e n,ne,nf,d⟩
theorem Inv.un{t':Nat}(I:Inv X ac σ H s)(u:Un X.fs [] H H' s.heap h')(hok:ky X.prog X.w H' h'):Inv X ac σ H' {s with heap:=h',toks:=t'}:=by
 obtain⟨m,⟨o,es,ep,ho,r⟩,_⟩:=id I.loc;obtain⟨sl,hL⟩:=u.any ho I.free (by simp);exact I.step (g':=s.gens) (d':=s.drawn) (ch:=[]) (λ_ z=>nomatch z) (λb o _ U _ e n=>u.keep b o e n U (by simp)) (λb o _ U _ e n=>u.slot b o e n U (by simp)) (λb o _ e n=>u.free b o e n (by simp)) (λb o _ e=>u.there b o e (by simp)) u.tups u.tS u.vK (λm' hm=>by obtain⟨o',es',ep',O,r'⟩:=hm;rw[ho]at O;cases O;exact⟨_,es',ep',hL,r'⟩) hok I.bare
theorem Inv.call{g':Array GenState}{t':Nat}{d':Drawn}{ch:Z6}(I:Inv X ac σ H s)(u:Un (frs X.stack) ch H H' s.heap h')(hok:ky X.prog X.w H' h')(hg:AllBare g')
  (hch:∀b∈ch,(b∈X.ex\/X.s₀.heap.objs.size<=b)/\b≠X.env.locals/\(∀x c,X.env.cells.lookup x=some c->c≠b)/\∀p∈X.pn++ac,p.1≠b) :
  Inv X ac σ H' {s with heap:=h',gens:=g',drawn:=d',toks:=t'}:=by
 obtain⟨m,⟨o,es,ep,ho,r⟩,_⟩:=id I.loc;obtain⟨sl,hL⟩:=u.any ho I.free λz=>(hch _ z).2.1 rfl;exact I.step (ch:=ch) hch (λb o hL hb O e n=>u.keep b o e n (λz=>(Ym.mp (I.Aq b z)).elim hL hb) O) (λb o _ _ O e n=>u.any e n O) (λb o O e n=>u.free b o e n O) (λb o O e=>u.there b o e O) u.tups u.tS u.vK (λm' hm=>by obtain⟨o',es',ep',U,r'⟩:=hm;rw[ho]at U;cases U;exact⟨_,es',ep',hL,r'⟩) hok hg
theorem Inv.turned{t':Nat}{it:Addr}(I:Inv X ac σ H s)(k:∀b o,b≠it->s.heap.get? b=some o->h'.get? b=some o)(hn:H it=none)(hL:it≠X.env.locals)
  (h1:it∈X.ex\/X.s₀.heap.objs.size<=it) (h2:∀x c,X.env.cells.lookup x=some c->c≠it) (h3:∀p∈X.pn++ac,p.1≠it):Inv X ac σ H {s with heap:=h',toks:=t'}:=by
 have U:∀b u,H b=some u->b≠it:=λb u e z=>by rw[z,hn]at e;cases e
 refine I.step (g':=s.gens) (d':=s.drawn) (ch:=[it]) (λb hb=>?_) (λb o _ _ O e _=>k b o (λz=>O (by simp[z])) e) (λb o _ _ O e _=>⟨o.slots,k b o (λz=>O (by simp[z])) e⟩) (λ_ _ _ _ n=>n)
  (λb o O e=>⟨o,k b o (λz=>O (by simp[z])) e⟩) (λ_ _ e=>e) (λ_ _ _ e=>e) (λb ps e=>⟨#[],by rw[e];simp⟩) (λm hm=>?_) (λb u e=>?_) I.bare
 ·have e:b=it:=by simpa using hb
  subst e;exact⟨h1,hL,h2,h3⟩
 ·obtain⟨o,es,ep,ho,r⟩:=hm;exact⟨o,es,ep,k _ o (Ne.symm hL) ho,r⟩
 ·refine(I.hok b u e).stay (λc v O q=>k c v ?_ q) (λ_ q=>q) λ_ _ q=>q;rcases O with z|z
  ·rw[z];exact U b u e
  ·exact U c _ z
theorem Inv.tok(I:Inv X ac σ H s)(t:Nat):Inv X ac σ H {s with toks:=t}:=I.un (h':=s.heap) (t':=t) Un.refl I.hok
theorem Inv.kept{t':Nat}(I:Inv X ac σ H s)(k:∀b u,s.heap.get? b=some u->h'.get? b=some u):Inv X ac σ H {s with heap:=h',toks:=t'}:=I.un (Un.kept k) (I.hok.kept k)
theorem Inv.laid{a:Addr}{o:HO}{t':Nat}(I:Inv X ac σ H s)(k:∀b u,s.heap.get? b=some u->h'.get? b=some u)(z:s.heap.objs.size<=a)(new:cD X.prog X.w (upd H a o) h' a o) :
  Inv X ac σ (upd H a o) {s with heap:=h',toks:=t'}:=I.un (Un.laid k z (I.hok.fresh z)) (I.hok.laid k z new)
theorem Inv.write{x e:Addr}{o:HO}{t':Nat}(I:Inv X ac σ H s)(U:OU (H x))(O:e=x\/H e=some (.own x))(k:∀b u,b≠e->s.heap.get? b=some u->h'.get? b=some u)(z:∃u,h'.get? e=some u)
  (new:cD X.prog X.w (upd H x o) h' x o):Inv X ac σ (upd H x o) {s with heap:=h',toks:=t'}:=I.un (Un.write U O k z) (I.hok.write U O k z new)
theorem Inv.iV{pins':eN}(I:Inv X ac σ H s)(h:∀p∈pins',s.heap.get? p.1=some p.2/\H p.1=none/\p.1≠X.env.locals/\p.1∉X.fs/\∀v,p.2.data≠ .cell v):Inv X pins' σ H s :=
 ⟨I.ok,I.os,I.bare,I.base,I.loc,I.cell,I.free,I.mQ,λp O=>(Yo.mp O).elim (λz=>I.pin p (List.mem_append_left _ z)) (h p),I.hok,I.len⟩
theorem wD{N:List Str}(U:N.Nodup){i j:Nat}{x:Str}(a:N[i]? = some x)(b:N[j]? = some x):i=j:=by obtain⟨h1,z⟩:=Yj.mp a;obtain⟨h2,O⟩:=Yj.mp b;exact(List.getElem_inj U).mp (z.trans O.symm)
theorem pM{M:Model}{A:Around}{E:nT}{i:Nat}{x:Str}{v:V}{u:Value}{Q:Z2}(I:Inv X ac σ H s)(hN:X.N.Nodup)(hi:X.N[i]? = some x)(hx:Loc X.env.scope x)(r:RelV v u)
  (h:∀s',Inv X ac (σ.set i (some v)) H s'->(∃a,Heap.SameBut a s.heap s'.heap/\(a=X.env.locals\/X.env.cells.lookup x=some a))->Q () s') (hf:X.fn x=true\/X.env.scope.names.lookup x=some .local:=by first|exact .inl rfl|exact .inr rfl|assumption):wpAny M A (storeName X.env x u) Q E s:=by
 obtain⟨m,hn,hl⟩:=id I.loc;have hcls:(X.env.scope.kind == .class||(X.env.scope.kind == .module&&X.env.locals != X.env.globals))=false:=by rw[I.ok.kind];rfl
 have OB:i<σ.length:=by rw[I.len];exact(Yj.mp hi).1
 have Mq:=I.Mq;have U:∀{a:Addr}{h':Heap},(∃o,s.heap.get? a=some o/\H a=none)->Heap.SameBut a s.heap h'->ky X.prog X.w H h':=λ{a h'} ha hs b ob e=>by
  obtain⟨_,_,hfree⟩:=ha;refine(I.hok b ob e).stay (λc w' hc q=>(hs.2 c ?_).trans q) (λ_ q=>q) λ_ _ q=>q;rintro rfl;rcases hc with rfl|hc
  ·rw[hfree]at e;cases e
  ·rw[hfree]at hc;cases hc
 rcases hx with hk|hk
 ·refine wpAny_storeName_local hk hn (λh' hn' hs=>?_) hcls;obtain⟨oL,_,_,hoL,_⟩:=id hn;refine h _ ⟨I.ok,I.os,I.bare,⟨λb o e n hb hx=>?_,λb o e n hb hx=>?_,I.base.free,λb o e hx=>?_,I.base.tups,I.base.tS,I.base.vK⟩,⟨_,hn',λj y v' O e2 e3=>?_⟩,λy c e=>?_,I.free,I.mQ,λp hp=>?_,U ⟨oL,hoL,I.free⟩ hs,by simpa using I.len⟩ ⟨_,hs,.inl rfl⟩
  ·exact(hs.2 b (Yp (Yc (X3 e) I.ok.above))).trans (I.base.keep b o e n hb hx)
  ·obtain⟨sl,O⟩:=I.base.slot b o e n hb hx;exact⟨sl,(hs.2 b (Yp (Yc (X3 e) I.ok.above))).trans O⟩
  ·obtain⟨o',O⟩:=I.base.there b o e hx;exact⟨o',(hs.2 b (Yp (Yc (X3 e) I.ok.above))).trans O⟩
  ·by_cases hj:j=i
   ·subst hj;rw[hi]at O;cases O;rw[List.getElem?_set_self OB]at e2;cases e2;exact⟨u,r,.inl ⟨hk,by simp⟩⟩
   ·rw[List.getElem?_set_ne (Ne.symm hj)]at e2;obtain⟨u',r',q⟩:=hl j y v' O e2 e3;refine⟨u',r',?_⟩;rcases q with⟨k,e⟩|⟨k,c,e,z⟩
    ·refine .inl ⟨k,?_⟩;have:y≠x:=λe=>hj (wD hN O (e▸hi));simp[this,e]
    ·exact .inr ⟨k,c,e,z.sameBut hs (Mq y c e)⟩
  ·obtain⟨w',z⟩:=I.cell y c e;exact⟨w',z.sameBut hs (Mq y c e)⟩
  ·obtain⟨e,n,ne,nf,d⟩:=I.pin p hp;exact⟨(hs.2 p.1 ne).trans e,n,ne,nf,d⟩
 ·have hfn:X.fn x=true:=by
   rcases hf with z|z
   ·exact z
   ·rw[z]at hk;cases hk
  obtain⟨c,hc⟩:=I.ok.has x (.inl hk);obtain⟨w',z⟩:=I.cell x c hc;refine wpAny_storeName_cell I.ok.kind hk hc z (λh' hc' hs=>?_);obtain⟨oc,hoc,RT⟩:=id z;refine h {s with heap:=h'} ⟨I.ok,I.os,I.bare,⟨λb o e n hb hx=>?_,λb o e n hb hx=>?_,I.base.free,λb o e hx=>?_,I.base.tups,I.base.tS,I.base.vK⟩,⟨m,hn.sameBut hs (Ne.symm (Mq x c hc)),λj y v' O e2 e3=>?_⟩,λy c' e=>?_,I.free,I.mQ,λp hp=>?_,U ⟨oc,hoc,I.mQ x c hc⟩ hs,by simpa using I.len⟩ ⟨c,hs,.inr hc⟩
  ·exact(hs.2 b (Yp (Yc (X3 e) (I.ok.cab x c hfn hc)))).trans (I.base.keep b o e n hb hx)
  ·obtain⟨sl,O⟩:=I.base.slot b o e n hb hx;exact⟨sl,(hs.2 b (Yp (Yc (X3 e) (I.ok.cab x c hfn hc)))).trans O⟩
  ·obtain⟨o',O⟩:=I.base.there b o e hx;exact⟨o',(hs.2 b (Yp (Yc (X3 e) (I.ok.cab x c hfn hc)))).trans O⟩
  ·by_cases hj:j=i
   ·subst hj;rw[hi]at O;cases O;rw[List.getElem?_set_self OB]at e2;cases e2;exact⟨u,r,.inr ⟨.inl hk,c,hc,hc'⟩⟩
   ·rw[List.getElem?_set_ne (Ne.symm hj)]at e2;obtain⟨u',r',q⟩:=hl j y v' O e2 e3;refine⟨u',r',?_⟩;rcases q with q|⟨k,c',e,z'⟩
    ·exact .inl q
    ·refine .inr ⟨k,c',e,z'.sameBut hs ?_⟩;rintro rfl;exact hj (wD hN O (I.ok.inj _ _ _ e hc▸hi))
  ·by_cases hcc:c'=c
   ·subst hcc;exact⟨_,hc'⟩
   ·obtain⟨w2,z2⟩:=I.cell y c' e;exact⟨w2,z2.sameBut hs hcc⟩
  ·obtain⟨e,n,ne,nf,d⟩:=I.pin p hp;refine⟨(hs.2 p.1 ?_).trans e,n,ne,nf,d⟩;intro q;rw[q,hoc]at e;have q':oc=p.2:=Yr e;exact d w' (by rw[←q'];exact RT)
theorem ot{M:Model}{A:Around}{E:nT}{i:Nat}{x:Str}{v:V}{u:Value}{Q:Z2}(I:Inv X ac σ H s)(O:X.N.Nodup)(hi:X.N[i]? = some x)(z:Loc X.env.scope x)(r:RelV v u)
  (h:∀s',Inv X ac (σ.set i (some v)) H s'->Q () s') (hf:X.fn x=true\/X.env.scope.names.lookup x=some .local:=by first|exact .inl rfl|exact .inr rfl|assumption):wpAny M A (storeName X.env x u) Q E s :=
 pM I O hi z r (λs' U _=>h s' U) hf
theorem Inv.call'{s':Shared}{ch:Z6}(I:Inv X ac σ H s)(O:s'.os=s.os)(u:Un (frs X.stack) ch H H' s.heap s'.heap)(hok:ky X.prog X.w H' s'.heap)(hg:AllBare s'.gens)
  (z:∀b∈ch,(b∈X.ex\/X.s₀.heap.objs.size<=b)/\b≠X.env.locals/\(∀x c,X.env.cells.lookup x=some c->c≠b)/\∀p∈X.pn++ac,p.1≠b):Inv X ac σ H' s':=by
 obtain⟨h',g',d',t',o'⟩:=s';have e:o'=s.os:=O;subst e;exact I.call (g':=g') (t':=t') (d':=d') u hok hg z
end
abbrev XK:=Value->Option Addr->Hp->Prop
abbrev St:=List (Option V)
abbrev VK:=V->Hp->Prop
abbrev TE:=St->Hp->VK->Prop
abbrev TT:=St->Hp->(Bool->Hp->Prop)->Prop
abbrev TA:=St->Hp->(List V->Hp->Prop)->Prop
structure Ends where
 nx:St->Hp->Prop
 rt:VK
 bk:St->Hp->Prop:=λ_ _=>False
 ct:St->Hp->Prop:=λ_ _=>False
abbrev TS:=Ends->St->Hp->Prop
def EP(X:Cx)(ac:eN)(σ:St)(Q:VK)(u:Value)(s':Shared):Prop:=∃v H',Inv X ac σ H' s'/\RelV v u/\Q v H'
def TP(X:Cx)(ac:eN)(σ:St)(Q:Bool->Hp->Prop)(b:Bool)(s':Shared):Prop:=∃H',Inv X ac σ H' s'/\Q b H'
def AP(X:Cx)(ac:eN)(σ:St)(Q:List V->Hp->Prop)(us:Z4)(s':Shared):Prop:=∃vs H',Inv X ac σ H' s'/\Vals vs us/\Q vs H'
def SP(X:Cx)(ac:eN)(D:Ends)(f:Flow)(s':Shared):Prop :=
 match f with
 | .next=>∃σ' H',Inv X ac σ' H' s'/\D.nx σ' H'
 | .brk=>∃σ' H',Inv X ac σ' H' s'/\D.bk σ' H'
 | .cont=>∃σ' H',Inv X ac σ' H' s'/\D.ct σ' H'
 | .ret u=>∃v σ' H',Inv X ac σ' H' s'/\RelV v u/\D.rt v H'
def PE(X:Cx)(e:Expr)(t:TE):Prop :=
 ∀(ac:eN)(s:Shared)(σ:St)(H:Hp)(Q:VK),Inv X ac σ H s->t σ H Q->wpAny (model X.prog X.w) X.A (eval e X.env) (EP X ac σ Q) X.xe s
def PT(X:Cx)(e:Expr)(t:TT):Prop :=
 ∀(ac:eN)(s:Shared)(σ:St)(H:Hp)(Q:Bool->Hp->Prop),Inv X ac σ H s->t σ H Q->wpAny (model X.prog X.w) X.A (isTrue e X.env (eval e X.env)) (TP X ac σ Q) X.xe s
def PW(X:Cx)(e:Expr)(t:TT):Prop :=
 ∀(z:Sem Value)(ac:eN)(s:Shared)(σ:St)(H:Hp)(Q:Bool->Hp->Prop),Inv X ac σ H s->t σ H Q->wpAny (model X.prog X.w) X.A (isTrue e X.env z) (TP X ac σ Q) X.xe s
theorem PW.pt{X:Cx}{e:Expr}{t:TT}(h:PW X e t):PT X e t:=h _
def PA(X:Cx)(es:List Expr)(t:TA):Prop :=
 ∀(pos:Pos)(ac:eN)(s:Shared)(σ:St)(H:Hp)(Q:List V->Hp->Prop),Inv X ac σ H s->t σ H Q->wpAny (model X.prog X.w) X.A (spliced (backTo pos (starEach es X.env))) (AP X ac σ Q) X.xe s
def PS(X:Cx)(st:Stmt)(t:TS):Prop :=
 ∀(ac:eN)(s:Shared)(σ:St)(H:Hp)(D:Ends),Inv X ac σ H s->t D σ H->wpAny (model X.prog X.w) X.A (exec st X.env) (SP X ac D) X.xe s
def uA(X:Cx)(st:List Stmt)(t:TS):Prop :=
 ∀(ac:eN)(s:Shared)(σ:St)(H:Hp)(D:Ends),Inv X ac σ H s->t D σ H->wpAny (model X.prog X.w) X.A (execs st X.env) (SP X ac D) X.xe s
theorem cu{α:Type}{t:Sem α}{Q z:α->Shared->Prop}{M:Model}{A:Around}{E:nT}{s:Shared}(h:wpAny M A t Q E s)(O:∀a s,Q a s->z a s):wpAny M A t z E s:=Yx h O λ_ _ x=>x
section
variable{X:Cx}
inductive br(i:Nat)(σ:St)(H:Hp)(Q:VK):Prop
 |mk v (_:σ[i]? = some (some v)) (_:Q v H):br i σ H Q
def tC(v:V):TE:=λ_ H Q=>Q v H
theorem y_{i:Nat}{x:Str}{pos:Pos}(hN:X.N[i]? = some x)(hv:Sf X.env.scope x)(hd:(x==("__debug__" : Str))=false:=by decide)(hcd:(x==("__classdict__" : Str))=false:=by decide):PE X (.Name x pos) (br i):=by
 intro ac s σ H Q I h;obtain⟨v,e,h⟩:=h;obtain⟨m,hn,hl⟩:=I.loc;obtain⟨u,r,l⟩:=hl i x v hN e hv;have U:EP X ac σ Q u s:=⟨v,H,I,r,h⟩;rcases l with⟨O,hm⟩|⟨O,c,hc,z⟩
 ·exact wpAny_Name (wpAny_loadName_local I.ok.kind O hn hm U) hd
 ·rcases O with O|O
  ·exact wpAny_Name (wpAny_loadName_cell I.ok.kind O hc z U) hd
  ·exact wpAny_Name (wpAny_loadName_free I.ok.kind O hc z U hcd) hd
theorem aj{i j pos}:PE X (.Constant (.int i) j pos) (tC (.int i)):=λ_ _ _ H _ I h=>wpAny_Constant_int ⟨.int i,H,I.tok _,⟨_,rfl⟩,h⟩
theorem cR{b j pos}:PE X (.Constant (.bool b) j pos) (tC (.bl b)):=λ_ _ _ H _ I h=>Constant_bool ⟨.bl b,H,I,rfl,h⟩
theorem dk{j pos}:PE X (.Constant .none j pos) (tC .non):=λ_ _ _ H _ I h=>Constant_none ⟨.non,H,I,rfl,h⟩
theorem aD{x j pos}:PE X (.Constant (.str x) j pos) (tC (.str x)):=λ_ _ _ H _ I h=>Calls.Constant_str ⟨.str x,H,I.tok _,⟨_,rfl⟩,h⟩
def Gl(X:Cx)(x:Str):Prop:=X.env.kindOf x=some .globalImplicit
theorem qG{E:nT}{ac:eN}{s:Shared}{σ:St}{H:Hp}{x:Str}{u:Value}{pos:Pos}{Q:nT}(I:Inv X ac σ H s)(hg:Gl X x)(hm:X.mg x=some u)(h:Q u s)
  (hd:(x==("__debug__" : Str))=false:=by decide):wpAny (model X.prog X.w) X.A (eval (.Name x pos) X.env) Q E s :=
 Calls.Name_function_global I.ok.kind hg (Calls.loadGlobal_global (by rw[I.ok.glob];exact I.mod.glob.keeps I.bk) hm h) hd
theorem jT{E:nT}{ac:eN}{s:Shared}{σ:St}{H:Hp}{x:Str}{u:Value}{pos:Pos}{Q:nT}(I:Inv X ac σ H s)(hg:Gl X x)(hm:X.mg x=none)(hv:bootBuiltins x=some u)(h:Q u s)
  (hn:x≠"__name__":=by decide) (hd:(x==("__debug__" : Str))=false:=by decide):wpAny (model X.prog X.w) X.A (eval (.Name x pos) X.env) Q E s:=by
 obtain⟨mb,h1,h2⟩:=I.mod.blt;exact Calls.Name_function_global I.ok.kind hg (Calls.loadGlobal_builtin (by rw[I.ok.glob];exact I.mod.glob.keeps I.bk) hm (by rw[I.ok.blt];exact h1.keeps I.bk) ((h2 x hn).trans hv) h) hd
theorem cZ{x:Str}{v:V}{u:Value}{pos:Pos}(hg:Gl X x)(hm:X.mg x=some u)(r:RelV v u)(hd:(x==("__debug__" : Str))=false:=by decide):PE X (.Name x pos) (tC v) :=
 λ_ _ _ H _ I h=>qG I hg hm ⟨v,H,I,r,h⟩ hd
theorem Jk{x:Str}{v:V}{u:Value}{pos:Pos}(hg:Gl X x)(hm:X.mg x=none)(hv:bootBuiltins x=some u)(r:RelV v u)(hn:x≠"__name__":=by decide)(hd:(x==("__debug__" : Str))=false:=by decide):PE X (.Name x pos) (tC v) :=
 λ_ _ _ H _ I h=>jT I hg hm hv ⟨v,H,I,r,h⟩ hn hd
variable{a b:Expr}{ta tb:TE}{pos:Pos}
inductive Lp(x:V)(H:Hp)(Q:Bool->Hp->Prop):Prop
 |mk (c:Bool) (_:x=.bl c) (_:Q c H):Lp x H Q
def tB(t:TE):TT:=λσ H Q=>t σ H λx H1=>Lp x H1 Q
theorem je{e:Expr}{t:TE}(h:PE X e t)(O:∀z,isTrue e X.env z=(do let v←z;standAt e.pos;holding [v] (truthy v)):=by intro _;rfl):PT X e (tB t):=by intro ac s σ H Q I hw;refine isTrue_plain (cu (h ac s σ H _ I hw) λv s1 U=>?_) (O _);obtain⟨x,H1,I1,r1,q1⟩:=U;obtain⟨d,rfl,q⟩:=q1;cases r1;exact wpAny_truthy_bool ⟨H1,I1,q⟩
variable{tA P5:TT}{rest:List Expr}
def Mz(t u:TT):TT:=λσ H Q=>t σ H λc H1=>if c=true then u σ H1 Q else Q false H1
def S0(t u:TT):TT:=λσ H Q=>t σ H λc H1=>if c=true then Q true H1 else u σ H1 Q
def Ss(t:TT):TT:=λσ H Q=>t σ H λc H1=>Q (!c) H1
theorem gx(ha:PT X a tA):PW X (.BoolOp .And [a] pos) tA:=by
 intro z ac s σ H Q I h;refine isTrue_and (cu (ha ac s σ H Q I h) λc s1 e=>?_);cases c with
 |true=>exact isTrue_and_nil e
 |false=>exact e
theorem jG(ha:PT X a tA):PW X (.BoolOp .Or [a] pos) tA:=by
 intro z ac s σ H Q I h;refine isTrue_or (cu (ha ac s σ H Q I h) λc s1 e=>?_);cases c with
 |false=>exact isTrue_or_nil e
 |true=>exact e
theorem fM(ha:PT X a tA)(hb:PW X (.BoolOp .And (b::rest) pos) P5):PW X (.BoolOp .And (a::b::rest) pos) (Mz tA P5):=by
 intro wh ac s σ H Q I h;refine isTrue_and (cu (ha ac s σ H _ I h) λc s1 U=>?_);obtain⟨H1,z,O⟩:=U;cases c with
 |true=>exact hb wh ac s1 σ H1 Q z O
 |false=>exact⟨H1,z,O⟩
theorem oE(ha:PT X a tA)(hb:PW X (.BoolOp .Or (b::rest) pos) P5):PW X (.BoolOp .Or (a::b::rest) pos) (S0 tA P5):=by
 intro wh ac s σ H Q I h;refine isTrue_or (cu (ha ac s σ H _ I h) λc s1 U=>?_);obtain⟨H1,z,O⟩:=U;cases c with
 |true=>exact⟨H1,z,O⟩
 |false=>exact hb wh ac s1 σ H1 Q z O
theorem pQ(ha:PT X a tA):PT X (.UnaryOp .Not a pos) (Ss tA):=by intro ac s σ H Q I h;exact isTrue_not (ha ac s σ H (λc H1=>Q (!c) H1) I h)
def Bk(ta tb:TE):TE:=λσ H Q=>ta σ H λx H1=>∃c,x=.bl c/\if c=true then tb σ H1 Q else Q (.bl false) H1
def R_(ta tb:TE):TE:=λσ H Q=>ta σ H λx H1=>∃c,x=.bl c/\if c=true then Q (.bl true) H1 else tb σ H1 Q
theorem jq{op}{t:TE}(h:PE X a t):PE X (.BoolOp op [a] pos) t:=λac s σ H Q I z=>BoolOp_one (h ac s σ H Q I z)
theorem kK(ha:PE X a ta)(hb:PE X (.BoolOp .And (b::rest) pos) tb):PE X (.BoolOp .And (a::b::rest) pos) (Bk ta tb):=by
 intro ac s σ H Q I h;refine BoolOp_and (cu (ha ac s σ H _ I h) λv s1 U=>?_);obtain⟨x,H1,O,r1,z⟩:=U;obtain⟨c,rfl,z⟩:=z;cases r1;refine wpAny_truthy_bool ?_;cases c with
 |true=>exact hb ac s1 σ H1 Q O z
 |false=>exact⟨.bl false,H1,O,rfl,z⟩
theorem N5(ha:PE X a ta)(hb:PE X (.BoolOp .Or (b::rest) pos) tb):PE X (.BoolOp .Or (a::b::rest) pos) (R_ ta tb):=by
 intro ac s σ H Q I h;refine BoolOp_or (cu (ha ac s σ H _ I h) λv s1 U=>?_);obtain⟨x,H1,O,r1,z⟩:=U;obtain⟨c,rfl,z⟩:=z;cases r1;refine wpAny_truthy_bool ?_;cases c with
 |false=>exact hb ac s1 σ H1 Q O z
 |true=>exact⟨.bl true,H1,O,rfl,z⟩
def Vu(t:TT)(ta tb:TE):TE:=λσ H Q=>t σ H λc H1=>if c=true then ta σ H1 Q else tb σ H1 Q
theorem jx{c:Expr}(hc:PT X c tA)(ha:PE X a ta)(hb:PE X b tb):PE X (.IfExp c a b pos) (Vu tA ta tb):=by
 intro ac s σ H Q I h;refine wpAny_IfExp (cu (hc ac s σ H _ I h) λd s1 U=>?_);obtain⟨H1,z,O⟩:=U;cases d with
 |true=>exact ha ac s1 σ H1 Q z O
 |false=>exact hb ac s1 σ H1 Q z O
end
def bb(K:YY)(H:Hp)(a:Addr)(xs:List V):Prop :=
 Rd H a (.lst xs)\/
  ∃(o:Obj)(z:Array Value)(n:Nat),K.lookup a=some o/\o.cls=.type "list"/\o.dict=none/\o.data=.seq z n/\z.size<=sizeLine/\Vals xs z.toList
def aX(K:YY)(H:Hp)(a:Addr)(xs:List V):Prop :=
 Rd H a (.tup xs)\/
  ∃(o:Obj)(z:Array Value)(n:Nat),K.lookup a=some o/\o.cls=.type "tuple"/\o.data=.seq z n/\z.size<=sizeLine/\Vals xs z.toList
def Q9:Value->Option V
 | .none=>some .non
 | .bool b=>some (.bl b)
 | .int i _=>some (.int i)
 | .str x _=>some (.str x)
 | .bytes b _=>some (.B0 b)
 | .float b _=>some (.flt b)
 | .ref a=>some (.ref a)
 | .type n=>some (.ty n)
 |_=>none
theorem RelV.abs{x:V}{u:Value}(r:RelV x u):Q9 u=some x:=by
 cases x with
 |non=>cases r;rfl
 |bl _=>cases r;rfl
 |int _=>obtain⟨t,rfl⟩:=r;rfl
 |str _=>obtain⟨t,rfl⟩:=r;rfl
 |B0 _=>obtain⟨t,rfl⟩:=r;rfl
 |flt _=>obtain⟨t,rfl⟩:=r;rfl
 |ref _=>cases r;rfl
 |ty _=>cases r;rfl
theorem RelV.inj{x y:V}{u:Value}(r:RelV x u)(q:RelV y u):x=y:=Yr (r.abs.symm.trans q.abs)
theorem Vals.inj{xs ys:List V}{us:Z4}(h:Vals xs us)(g:Vals ys us):xs=ys:=by
 induction h generalizing ys with
 |nil=>cases g;rfl
 |cons r t z=>cases g with
  |cons r' t'=>rw[r.inj r',z t']
section
variable{X:Cx}{ac:eN}{σ:St}{H:Hp}{s:Shared}{a:Addr}{xs ys:List V}
theorem bb.of{K:YY}(h:H a=some (.lst xs)):bb K H a xs:=.inl (.inl h)
theorem aX.of{K:YY}(h:H a=some (.tup xs)):aX K H a xs:=.inl (.inl h)
theorem Inv.list(I:Inv X ac σ H s)(h:bb X.K H a xs):∃O:Z4,Vals xs O/\PlainL s.heap a O.toArray/\xs.length<=sizeLine:=by
 rcases h with h|⟨o,O,n,U,hc,hd,hs,hz,r⟩
 ·obtain⟨z,O,n,r,e⟩:=h.ok I.hok;exact⟨O,r,⟨_,n,e,rfl,rfl,rfl⟩,z⟩
 ·refine⟨O.toList,r,⟨o,n,I.mY a o U,hc,hd,by simpa using hs⟩,?_⟩;have e:=r.length;simp only[YU]at e;omega
theorem Inv.tuple(I:Inv X ac σ H s)(h:aX X.K H a xs):∃O:Z4,Vals xs O/\IsTup s.heap a O.toArray/\xs.length<=sizeLine:=by
 rcases h with h|⟨o,O,n,U,hc,hs,hz,r⟩
 ·obtain⟨z,O,r,p⟩:=h.ok I.hok;exact⟨O,r,p.tup,z⟩
 ·refine⟨O.toList,r,⟨o,I.mY a o U,hc,n,by simpa using hs⟩,?_⟩;have e:=r.length;simp only[YU]at e;omega
theorem Inv.Eo(I:Inv X ac σ H s)(h:bb X.K H a xs)(h':bb X.K H a ys):xs=ys:=by
 obtain⟨z,r,⟨o,n,e,_,_,d⟩,_⟩:=I.list h;obtain⟨its',r',⟨o',U,O,_,_,d'⟩,_⟩:=I.list h';rw[e]at O;cases O;rw[d]at d';injection d' with d1 _;have:z=its':=by simpa using congrArg Array.toList d1
 subst this;exact r.inj r'
theorem Inv.pU(I:Inv X ac σ H s)(h:aX X.K H a xs)(h':aX X.K H a ys):xs=ys:=by
 obtain⟨z,r,⟨o,e,_,n,d⟩,_⟩:=I.tuple h;obtain⟨its',r',⟨o',O,_,U,d'⟩,_⟩:=I.tuple h';rw[e]at O;cases O;rw[d]at d';injection d' with d1 _;have:z=its':=by simpa using congrArg Array.toList d1
 subst this;exact r.inj r'
end
abbrev Cx.wish(X:Cx)(E:nT):Cx:={X with xe:=E}
abbrev Cx.BF(X:Cx):Cx:=X.wish λ_ _=>False
theorem Cx.Ok.wish{X:Cx}(ok:X.Ok)(E:nT):(X.wish E).Ok :=
 ⟨ok.mod,ok.kind,ok.glob,ok.blt,ok.above,ok.inj,ok.has,ok.cab,ok.hd,ok.frames,ok.P7,ok.GV,ok.bs,ok.I0,ok.EU,ok.xR,ok.qB,ok.MY⟩
theorem Cx.Ok.eY{X:Cx}{E:nT}(ok:(X.wish E).Ok):X.Ok :=
 ⟨ok.mod,ok.kind,ok.glob,ok.blt,ok.above,ok.inj,ok.has,ok.cab,ok.hd,ok.frames,ok.P7,ok.GV,ok.bs,ok.I0,ok.EU,ok.xR,ok.qB,ok.MY⟩
section
variable{X:Cx}{ac:eN}{σ:St}{H:Hp}{s:Shared}{E:nT}
theorem Inv.wish(I:Inv X ac σ H s)(E:nT):Inv (X.wish E) ac σ H s:=⟨I.ok.wish E,I.os,I.bare,I.base,I.loc,I.cell,I.free,I.mQ,I.pin,I.hok,I.len⟩
theorem Inv.eY(I:Inv (X.wish E) ac σ H s):Inv X ac σ H s:=⟨I.ok.eY,I.os,I.bare,I.base,I.loc,I.cell,I.free,I.mQ,I.pin,I.hok,I.len⟩
theorem SP.eY{D:Ends}{f:Flow}{s':Shared}(h:SP (X.wish E) ac D f s'):SP X ac D f s':=by
 cases f with
 |next=>obtain⟨σ',H',I,q⟩:=h;exact⟨σ',H',I.eY,q⟩
 |brk=>obtain⟨σ',H',I,q⟩:=h;exact⟨σ',H',I.eY,q⟩
 |cont=>obtain⟨σ',H',I,q⟩:=h;exact⟨σ',H',I.eY,q⟩
 |ret u=>obtain⟨v,σ',H',I,r,q⟩:=h;exact⟨v,σ',H',I.eY,r,q⟩
theorem PE.BF{e:Expr}{t:TE}(h:PE X.BF e t):PE X e t:=λac s σ H Q I U =>
 Yx (h ac s σ H Q (I.wish _) U) (λ_ _ ⟨v,H',O,r,q⟩=>⟨v,H',O.eY,r,q⟩) λ_ _ z=>YK z
theorem uA.BF{st:List Stmt}{t:TS}(h:uA X.BF st t):uA X st t:=λac s σ H D I O =>
 Yx (h ac s σ H D (I.wish _) O) (λ_ _ q=>q.eY) λ_ _ z=>YK z
end
section
variable{X:Cx}{st:Stmt}{rest:List Stmt}{t u:TS}{e:Expr}{te:TE}{pos:Pos}
def uk:TS:=λD σ H=>D.nx σ H
def vI(t u:TS):TS:=λD σ H=>t {D with nx:=u D} σ H
theorem dc:uA X [] uk:=λ_ _ σ H _ I h=>wpAny_execs_nil ⟨σ,H,I,h⟩
theorem ao(h1:PS X st t)(h2:uA X rest u):uA X (st::rest) (vI t u):=by
 intro ac s σ H D I h;refine wpAny_execs_cons (cu (h1 ac s σ H {D with nx:=u D} I h) λf s1 q=>?_);cases f with
 |next =>obtain⟨σ',H',z,q⟩:=q;exact h2 ac s1 σ' H' D z q
 |ret v=>exact q
 |brk=>exact q
 |cont=>exact q
theorem bC(h1:PS X st t):uA X [st] t:=by
 intro ac s σ H D I h;refine wpAny_execs_cons (cu (h1 ac s σ H D I h) λf s1 q=>?_);cases f with
 |next=>exact wpAny_execs_nil q
 |ret v=>exact q
 |brk=>exact q
 |cont=>exact q
theorem Inv.quiet{ac:eN}{σ:St}{H:Hp}{s:Shared}(I:Inv X ac σ H s):interactive X.env=false:=by simp[interactive,I.ok.kind]
def NY(te:TE):TS:=λD σ H=>te σ H λ_ H1=>D.nx σ H1
theorem cN(O:PE X e te)(hs:swapsWith e none pos.line X.env=pure false:=by rfl):PS X (.Expr e pos) (NY te):=by intro ac s σ H D I h;exact wpAny_Expr_any (cu (O ac s σ H _ I h) λv s1 ⟨x,H1,z,r1,U⟩=>⟨σ,H1,z,U⟩) I.quiet hs
def Jh(te:TE):TS:=λD σ H=>te σ H D.rt
theorem Mt(U:PE X e te):PS X (.Return (some e) pos) (Jh te):=by intro ac s σ H D I h;exact wpAny_Return_some (cu (U ac s σ H _ I h) λv s1 ⟨x,H1,z,O,q1⟩=>⟨x,σ,H1,z,O,q1⟩)
def Cd(c:TT)(t u:TS):TS:=λD σ H=>c σ H λb H1=>if b=true then t D σ H1 else u D σ H1
theorem fi{c:Expr}{a b:List Stmt}{tc:TT}(hc:PT X c tc)(ha:uA X a t)(hb:uA X b u):PS X (.If c a b pos) (Cd tc t u):=by
 intro ac s σ H D I h;refine wpAny_If (cu (hc ac s σ H _ I h) λd s1 U=>?_);obtain⟨H1,z,O⟩:=U;cases d with
 |true=>exact ha ac s1 σ H1 D z O
 |false=>exact hb ac s1 σ H1 D z O
end
abbrev TG:=V->St->Hp->(St->Hp->Prop)->Prop
abbrev Nl:=List V->St->Hp->(St->Hp->Prop)->Prop
def PG(X:Cx)(target:Expr)(t:TG):Prop :=
 ∀(ac:eN)(s:Shared)(σ:St)(H:Hp)(v:V)(u:Value)(Q:St->Hp->Prop),Inv X ac σ H s->RelV v u->t v σ H Q->
  wpAny (model X.prog X.w) X.A (assign target X.env u) (λ_ s'=>∃σ' H',Inv X ac σ' H' s'/\Q σ' H') X.xe s
def PY(X:Cx)(ts:List Expr)(t:Nl):Prop :=
 ∀(ac:eN)(s:Shared)(σ:St)(H:Hp)(vs:List V)(us:Z4)(Q:St->Hp->Prop),Inv X ac σ H s->Vals vs us->t vs σ H Q->
  wpAny (model X.prog X.w) X.A (assignInOrder ((assignEach ts X.env).map (·.2)) us) (λ_ s'=>∃σ' H',Inv X ac σ' H' s'/\Q σ' H') X.xe s
abbrev ML:=V->V->V->Hp->(Hp->Prop)->Prop
def OY(X:Cx)(t:ML):Prop :=
 ∀(ac:eN)(s:Shared)(σ:St)(H:Hp)(o i v:V)(O z u:Value)(Q:Hp->Prop),Inv X ac σ H s->RelV o O->RelV i z->RelV v u->t o i v H Q->
  wpAny (model X.prog X.w) X.A (setItem O z u) (λ_ s'=>∃H',Inv X ac σ H' s'/\Q H') X.xe s
section
variable{X:Cx}{pos:Pos}
def b9(i:Nat):TG:=λv σ H Q=>Q (σ.set i (some v)) H
theorem aQ{i:Nat}{x:Str}(O:X.N.Nodup)(hi:X.N[i]? = some x)(z:Loc X.env.scope x)(hf:X.fn x=true\/X.env.scope.names.lookup x=some .local:=by first|exact .inl rfl|exact .inr rfl|assumption):PG X (.Name x pos) (b9 i):=by intro ac s σ H v u Q I r h;exact wpAny_assign_Name (ot I O hi z r (λs' U=>⟨_,H,U,h⟩) hf)
def pC:Nl:=λvs σ H Q=>vs=[]/\Q σ H
inductive cQ(t:TG)(u:Nl)(vs:List V)(σ:St)(H:Hp)(Q:(St->Hp->Prop)):Prop
 |mk v r (_:vs=v::r) (_:t v σ H λσ' H'=>u r σ' H' Q):cQ t u vs σ H Q
theorem bF:PY X [] pC:=by intro ac s σ H vs us Q I r h;obtain⟨e,h⟩:=h;subst e;cases r;exact assignInOrder_nil ⟨σ,H,I,h⟩
theorem ar{e:Expr}{es:List Expr}{t:TG}{u:Nl}(h1:PG X e t)(h2:PY X es u)
  (hs:(assignEach (e::es) X.env).map (·.2)=assign e X.env::(assignEach es X.env).map (·.2):=by rfl):PY X (e::es) (cQ t u):=by
 intro ac s σ H vs us Q I r h;obtain⟨v,vr,U,h⟩:=h;subst U;cases r with
 |cons r z =>rw[hs];refine assignInOrder_cons (cu (h1 ac s σ H _ _ _ I r h) λ_ s1 O=>?_);obtain⟨US,H1,I1,q1⟩:=O;exact h2 ac s1 US H1 _ _ Q I1 z q1
inductive n4(K:YY)(n:Nat)(t:Nl)(v:V)(σ:St)(H:Hp)(Q:(St->Hp->Prop)):Prop
 |mk a xs (_:v=.ref a) (_:aX K H a xs) (_:xs.length=n) (_:t xs σ H Q):n4 K n t v σ H Q
theorem bU{es:List Expr}{k:Nat}{t:Nl}{n:Nat}(hc:X.calm=true)(h:PY X es t)
  (hn:(assignEach es X.env).length=n:=by rfl) (O:(assignEach es X.env).findIdx? (·.1)=none:=by rfl):PG X (.Tuple es k pos) (n4 X.K n t):=by
 intro ac s σ H v u Q I r z;obtain⟨a,xs,e1,hq,hl,z⟩:=z;subst e1;cases r;obtain⟨its,U,ht,hz⟩:=I.tuple hq;refine assign_Tuple_tuple (I.ok.hd hc) ht (by simp[hn,←hl,U.length]) O λh' hx=>?_;have I1:Inv X ac σ H {s with heap:=h'}:=I.kept (t':=s.toks) λb o e=>hx b o (Yp (X3 e)) e;exact h ac _ σ H xs _ Q I1 (by simpa using U) z
def Rw(to z:TE)(t:ML):TG:=λv σ H Q=>to σ H λo H1=>z σ H1 λi H2=>t o i v H2 λO=>Q σ O
theorem jL{o i:Expr}{to ti:TE}{t:ML}(ho:PE X o to)(hi:PE X i ti)(hs:OY X t)
  (ha:∀v,assign (.Subscript o i pos) X.env v=(do
   let z←holding [v] (eval o X.env)
   let U←holding [v,z] (eval i X.env)
   standAt pos
   holding [v,z,U] (setItem z U v)
   release [v,z,U] []):=by intro _;rfl):PG X (.Subscript o i pos) (Rw to ti t):=by
 intro ac s σ H v u Q I r h;rw[ha];refine X0 (Yy (cu (ho ac s σ H _ I h) λz s1 O=>?_));obtain⟨x,H1,I1,r1,q1⟩:=O;refine X0 (Yy (cu (hi ac s1 σ H1 _ I1 q1) λU s2 O=>?_));obtain⟨y,H2,I2,r2,q2⟩:=O;refine X0 (wpAny_standAt (X0 (Yy (cu (hs ac s2 σ H2 x y v z U u _ I2 r1 r2 r q2) λ_ s3 O=>?_))));obtain⟨H3,I3,q3⟩:=O;exact wpAny_release ⟨σ,H3,I3,q3⟩
def yl(te:TE)(g:TG):TS:=λD σ H=>te σ H λx H1=>g x σ H1 D.nx
theorem c8{tg e:Expr}{te:TE}{g:TG}(z:PE X e te)(hg:PG X tg g)(hs:swapsWithSole [tg] e pos.line X.env=pure false:=by rfl)(hw:swappedStores [tg] e X.env=pure none:=by rfl)
  (h1:(assignEach [tg] X.env).map (·.2)=[assign tg X.env]:=by rfl):PS X (.Assign [tg] e pos) (yl te g):=by
 intro ac s σ H D I h;refine wpAny_Assign_stores (cu (z ac s σ H _ I h) λv s1 O=>?_) hs hw;obtain⟨x,H1,I1,U,q1⟩:=O;rw[h1];exact cu (hg ac s1 σ H1 x v _ I1 U q1) λ_ s2 q=>q
theorem aU{i:Nat}{x:Str}{e:Expr}{te:TE}{pos':Pos}(hN:X.N.Nodup)(hi:X.N[i]? = some x)(U:Loc X.env.scope x)(z:PE X e te)(hs:swapsWith e (some (.Name x pos')) pos.line X.env=pure false:=by rfl)(hf:X.fn x=true\/X.env.scope.names.lookup x=some .local:=by first|exact .inl rfl|exact .inr rfl|assumption) :
  PS X (.Assign [.Name x pos'] e pos) (yl te (b9 i)):=by
 intro ac s σ H D I h;refine wpAny_Assign_Name (cu (z ac s σ H _ I h) λv s1 O=>?_) hs;obtain⟨y,H1,I1,r1,q1⟩:=O;exact ot I1 hN hi U r1 (λs2 I2=>⟨_,H1,I2,q1⟩) hf
def Sn(i j:Nat)(ta:TA):TS:=λD σ H=>ta σ H λvs H1=>∃v w,vs=[v,w]/\D.nx ((σ.set i (some v)).set j (some w)) H1
theorem vp{i j:Nat}{x y:Str}{a b:Expr}{ta:TA}{px py pt:Pos}{kt k2 QW}(hc:X.calm=true)(hN:X.N.Nodup)(hi:X.N[i]? = some x)(hj:X.N[j]? = some y)(O:i≠j)
  (hx:X.env.scope.names.lookup x=some .local) (hy:X.env.scope.names.lookup y=some .local) (ha:PA X [a,b] ta)
  (hw:swappedStores [.Tuple [.Name x px,.Name y py] kt pt] (.Tuple [a,b] k2 QW) X.env=pure (some [x,y]))
  (hs:swapsWithSole [.Tuple [.Name x px,.Name y py] kt pt] (.Tuple [a,b] k2 QW) pos.line X.env=pure false:=by rfl) :
  PS X (.Assign [.Tuple [.Name x px,.Name y py] kt pt] (.Tuple [a,b] k2 QW) pos) (Sn i j ta):=by
 intro ac s σ H D I h;rw[exec_Assign_arm];refine X0 (wpAny_standAt ?_);rw[hs];refine X0 (X1 ?_);rw[YF (by decide)];refine X0 (Tuple_ (cu (ha _ ac s σ H _ I h) λus s1 zz=>?_));obtain⟨vs,H1,I1,r1,q1⟩:=zz;obtain⟨v,w,e1,q1⟩:=q1;subst e1;obtain⟨z,u2,rfl,rv,qo⟩ :∃z u2,us=[z,u2]/\RelV v z/\RelV w u2:=by
  cases r1 with
  |cons p q =>
   cases q with
   |cons p' q' =>cases q';exact⟨_,_,rfl,p,p'⟩
 refine Yz ?_ (by show 2<=sizeLine;decide);have I2:Inv X ac σ H1 {s1 with heap:=s1.heap.push {cls:=.type "tuple",data:=.seq [z,u2].toArray}}:=I1.kept (t':=s1.toks) λb o e=>X2 _ e;rw[hw];refine X0 (X1 ?_);show wpAny (model X.prog X.w) X.A (do rule "assign.swapped-stores";let items←unpackItems (.ref s1.heap.objs.size) 2 none;assignInOrder [λv=>bindName X.env y v,λv=>bindName X.env x v] items.reverse;pure Flow.next) _ _ _;refine X0 (wpAny_rule (X0 (unpackItems_tuple (items:=#[z,u2]) (I.ok.hd hc) (IsTup.new s1.heap _) λh' U=>?_)));have I3:=I2.kept (h':=h') (t':=s1.toks) λb o e=>U b o (Yp (X3 e)) e;show wpAny _ _ (assignInOrder [λv=>bindName X.env y v,λv=>bindName X.env x v] [u2,z] >>= λ_=>pure Flow.next) _ _ _;refine X0 (assignInOrder_cons (wpAny_bindName (ot I3 hN hj (.inl hy) qo (λs2 I4=>?_) (.inr hy))));refine assignInOrder_cons (wpAny_bindName (ot I4 hN hi (.inl hx) rv (λs3 I5=>assignInOrder_nil (X1 ?_)) (.inr hx)));rw[List.set_comm _ _ (Ne.symm O)]at I5;exact⟨_,H1,I5,q1⟩
end
structure It where
 go:Nat->Hp->Prop
 FL:Nat->Hp->V->Hp->Prop
 stop:Nat->Hp->Prop
def eI(X:Cx)(ac:eN)(H:Hp)(b:Addr):Prop :=
 H b=none/\b≠X.env.locals/\b∉X.fs/\(b∈X.ex\/X.s₀.heap.objs.size<=b)/\(∀x c,X.env.cells.lookup x=some c->c≠b)/\∀p∈X.pn++ac,p.1≠b
theorem Inv.pH{X:Cx}{ac:eN}{σ:St}{H H':Hp}{s:Shared}{b:Addr}(I:Inv X ac σ H s)(O:s.heap.objs.size<=b)(hn:H' b=none):eI X ac H' b:=by
 refine⟨hn,Nat.ne_of_gt (Yc I.lt O),I.RB O,.inr (X6 I.sz O),λx c e z=>?_,λp U z=>?_⟩
 ·obtain⟨v,q⟩:=I.cell x c e;exact YE (Yc q.lt (by rw[z];exact O)) (Nat.lt_irrefl _)
 ·exact YE (Yc (X3 (I.pin p U).1) (by rw[z];exact O)) (Nat.lt_irrefl _)
structure Turn(P:Program)(w:World)(K:YY)(tg:Expr)(J:It)(fp:Z6)(it:Addr)(tn:Nat->Heap->Prop):Prop where
 mem:it∈fp
 obj:∀i h,tn i h->∀b∈fp,∃o,h.get? b=some o/\∀v,o.data≠ .cell v
 keep:∀i h h',tn i h->(∀b∈fp,∀o,h.get? b=some o->h'.get? b=some o)->tn i h'
 item:∀(X:Cx),X.prog=P->X.w=w->X.K=K->X.calm=true->∀(i:Nat)(ac:eN)(s:Shared)(σ:St)(H:Hp)(E:nT),Inv X ac σ H s->(∀b∈fp,eI X ac H b)->tn i s.heap->J.go i H->
  wpAny (model P w) X.A (pyNext (.ref it)) (λr s1=>∃u,r=some u/\
   wpAny (model P w) X.A (letOwnedTupleGo tg (.ref it) u) (λ_ s2=>∃x H',Inv X ac σ H' s2/\RelV x u/\J.FL i H x H'/\tn (i+1) s2.heap/\∀b∈fp,H' b=none) E s1) E s
 done:∀(X:Cx),X.prog=P->X.w=w->X.K=K->X.calm=true->∀(i:Nat)(ac:eN)(s:Shared)(σ:St)(H:Hp)(E:nT),Inv X ac σ H s->(∀b∈fp,eI X ac H b)->tn i s.heap->J.stop i H->
  wpAny (model P w) X.A (pyNext (.ref it)) (λr s1=>r=none/\Inv X ac σ H s1) E s
 self:∀(A:Around)(i:Nat)(s:Shared)(Q:nT)(E:nT),tn i s.heap->Q (.ref it) s->wpAny (model P w) A (pyIter (.ref it)) Q E s
abbrev TI:=St->Hp->(It->Hp->Prop)->Prop
def PIE(X:Cx)(ac:eN)(σ:St)(tg:Expr)(R:It->Hp->Prop)(z:Value)(s2:Shared):Prop :=
 ∃(it:Addr)(fp:Z6)(tn:Nat->Heap->Prop)(J:It)(H':Hp),z=.ref it/\Inv X ac σ H' s2/\Turn X.prog X.w X.K tg J fp it tn/\tn 0 s2.heap/\(∀b∈fp,eI X ac H' b)/\R J H'
def PI(X:Cx)(tg iter:Expr)(wi:TI):Prop :=
 ∀(ac:eN)(s:Shared)(σ:St)(H:Hp)(R:It->Hp->Prop),Inv X ac σ H s->wi σ H R->
  wpAny (model X.prog X.w) X.A (eval iter X.env) (λv s1=>wpAny (model X.prog X.w) X.A (pyIter v) (PIE X ac σ tg R) X.xe s1) X.xe s
theorem F5{M:Model}{A:Around}{E:nT}{s:Shared}{tg:Expr}{it:Addr}{u:Value}{o:Obj}{n:String}{vs:Array Value}{Q:Z2}(U:s.heap.get? it=some o)(O:o.cls=.type n)(hd:o.data=.fields vs)
  (hn:["enumerate","zip","dict_itemiterator","dict_reverseitemiterator","odict_iterator","itertools.zip_longest","itertools.pairwise"].contains n=false) (z:Q () s):wpAny M A (letOwnedTupleGo tg (.ref it) u) Q E s:=by
 unfold letOwnedTupleGo;cases tg<;>first
  |exact X1 z
  | (cases u<;>first
    |exact X1 z
    | (refine X0 (wpAny_load U ?_)
       rw[O,hd];show wpAny M A (if(["enumerate","zip","dict_itemiterator","dict_reverseitemiterator","odict_iterator","itertools.zip_longest","itertools.pairwise"].contains n&&vs[0]? == some (rawInt _))=true then _ else _) Q E s;rw[YF (by intro h;rw[hn,Bool.false_and]at h;cases h)];exact X1 z))
def GB(K:YY)(a:Addr):It :=
 ⟨λi H=>∃xs x,bb K H a xs/\xs[i]? = some x,λi H x H'=>H'=H/\∀xs,bb K H a xs->xs[i]? = some x,λi H=>∃xs,bb K H a xs/\xs.length<=i⟩
def Gx(K:YY)(a:Addr):It :=
 ⟨λi H=>∃xs x,aX K H a xs/\xs[i]? = some x,λi H x H'=>H'=H/\∀xs,aX K H a xs->xs[i]? = some x,λi H=>∃xs,aX K H a xs/\xs.length<=i⟩
def Kt(lo:Int)(n:Nat):It:=⟨λi _=>i<n,λi H x H'=>H'=H/\x=.int (lo+i),λi _=>n<=i⟩
theorem BR{P:Program}{w:World}{K:YY}{tg:Expr}(a it:Addr):Turn P w K tg (GB K a) [it] it (λi h=>h.IsListIter it a i) where
 mem:=by simp
 obj:=λi h st b O=>by
  have e:b=it:=by simpa using O
  subst e;obtain⟨o,e,c,d⟩:=st;exact⟨o,e,λv z=>by rw[d]at z;cases z⟩
 keep:=λi h h' st k=>st.at λo e=>k it (by simp) o e
 item:=by intro X hP hw hK hc i ac s σ H E I hf st hg;subst hP hw hK;obtain⟨xs,x,hq,hx⟩:=hg;obtain⟨its,rv,p,hz⟩:=I.list hq;obtain⟨u,hu,ru⟩:=rv.get hx;obtain⟨f0,f1,f2,f3,f4,f5⟩:=hf it (by simp);refine wpAny_pyNext_list_item st p.isList (x:=u) (by simpa using hu) λh' U sb=>?_;have I1:Inv X ac σ H {s with heap:=h'}:=I.turned (t':=s.toks) (λb o O e=>(sb.2 b O).trans e) f0 f1 f3 f4 f5;obtain⟨o,e,c,d⟩:=id U;exact⟨u,rfl,F5 (s:={s with heap:=h'}) e c d (by decide) ⟨x,H,I1,ru,⟨rfl,λys hy=>by rw[I.Eo hy hq];exact hx⟩,U,λb O=>(hf b O).1⟩⟩
 done:=by intro X hP hw hK hc i ac s σ H E I hf st hg;subst hP hw hK;obtain⟨xs,hq,hx⟩:=hg;obtain⟨its,rv,p,hz⟩:=I.list hq;obtain⟨f0,f1,f2,f3,f4,f5⟩:=hf it (by simp);have hl:=rv.length;exact wpAny_pyNext_list_end (I.ok.hd hc) st p.isList (by simp;omega) λh' eb=>⟨rfl,I.turned (t':=s.toks) (λb o O e=>eb b o O e) f0 f1 f3 f4 f5⟩
 self:=λ_ _ _ _ _ st h=>wpAny_pyIter_listiter st h
theorem zG{P:Program}{w:World}{K:YY}{tg:Expr}(a it:Addr):Turn P w K tg (Gx K a) [it] it (λi h=>h.IsTupleIter it a i) where
 mem:=by simp
 obj:=λi h st b U=>by
  have e:b=it:=by simpa using U
  subst e;obtain⟨o,e,c,d⟩:=st;exact⟨o,e,λv z=>by rw[d]at z;cases z⟩
 keep:=λi h h' st k=>st.at λo e=>k it (by simp) o e
 item:=by intro X hP hw hK hc i ac s σ H E I hf st hg;subst hP hw hK;obtain⟨xs,x,hq,hx⟩:=hg;obtain⟨O,rv,p,hz⟩:=I.tuple hq;obtain⟨u,hu,ru⟩:=rv.get hx;obtain⟨f0,f1,f2,f3,f4,f5⟩:=hf it (by simp);refine wpAny_pyNext_tuple_item st (show s.heap.IsTuple a O.toArray from p) (x:=u) (by simpa using hu) λh' st' sb=>?_;have I1:Inv X ac σ H {s with heap:=h'}:=I.turned (t':=s.toks) (λb o U e=>(sb.2 b U).trans e) f0 f1 f3 f4 f5;obtain⟨o,e,c,d⟩:=id st';exact⟨u,rfl,F5 (s:={s with heap:=h'}) e c d (by decide) ⟨x,H,I1,ru,⟨rfl,λys hy=>by rw[I.pU hy hq];exact hx⟩,st',λb U=>(hf b U).1⟩⟩
 done:=by intro X hP hw hK hc i ac s σ H E I hf st hg;subst hP hw hK;obtain⟨xs,hq,hx⟩:=hg;obtain⟨O,rv,p,hz⟩:=I.tuple hq;obtain⟨f0,f1,f2,f3,f4,f5⟩:=hf it (by simp);have hl:=rv.length;exact wpAny_pyNext_tuple_end (I.ok.hd hc) st (show s.heap.IsTuple a O.toArray from p) (by simp;omega) λh' eb=>⟨rfl,I.turned (t':=s.toks) (λb o U e=>eb b o U e) f0 f1 f3 f4 f5⟩
 self:=λ_ _ _ _ _ st h=>wpAny_pyIter_tupleiter st h
theorem Al{P:Program}{w:World}{K:YY}{tg:Expr}(it:Addr)(lo:Int)(n:Nat):Turn P w K tg (Kt lo n) [it] it (λi h=>IsRangeIter h it (lo+(i:Nat)*1) ((n:Int)-(i:Nat)) 1) where
 mem:=by simp
 obj:=λi h st b O=>by
  have e:b=it:=by simpa using O
  subst e;exact⟨_,st,λv z=>by have z':Data.fields _=Data.cell v:=z;cases z'⟩
 keep:=λi h h' st k=>k it (by simp) _ st
 item:=by intro X hP hw hK hc i ac s σ H E I hf st hg;subst hP hw hK;obtain⟨f0,f1,f2,f3,f4,f5⟩:=hf it (by simp);have W:=Walks.range (prog:=X.prog) (w:=X.w) (I.ok.hd hc) it lo 1 n;refine W.item i s _ _ hg st λv h' tk hv U kk=>?_;obtain⟨t,rfl⟩:=hv;have I1:Inv X ac σ H {s with heap:=h',toks:=tk}:=I.turned (λb o O e=>kk b o (by simpa using O) e) f0 f1 f3 f4 f5;refine⟨_,rfl,F5 (s:={s with heap:=h',toks:=tk}) (n:="range_iterator") U rfl rfl (by decide) ⟨.int (lo+i),H,I1,⟨t,?_⟩,⟨rfl,rfl⟩,U,λb O=>(hf b O).1⟩⟩;rw[Int.mul_one]
 done:=by intro X hP hw hK hc i ac s σ H E I hf st hg;subst hP hw hK;obtain⟨f0,f1,f2,f3,f4,f5⟩:=hf it (by simp);exact wpAny_pyNext_range_end (I.ok.hd hc) st (by have:n<=i:=hg;omega) λh' eb=>⟨rfl,I.turned (t':=s.toks) (λb o O e=>eb b o O e) f0 f1 f3 f4 f5⟩
 self:=λ_ _ _ _ _ st h=>wpAny_pyIter_rangeiter st h
section
variable{X:Cx}{tg:Expr}
def O_(K:YY)(tl:TE):TI:=λσ H R=>tl σ H λx H1=>∃a,x=.ref a/\(∃xs,bb K H1 a xs)/\R (GB K a) H1
def HW(K:YY)(tl:TE):TI:=λσ H R=>tl σ H λx H1=>∃a,x=.ref a/\(∃xs,aX K H1 a xs)/\R (Gx K a) H1
theorem dg{l:Expr}{tl:TE}(hl:PE X l tl):PI X tg l (O_ X.K tl):=by
 intro ac s σ H R I h;refine cu (hl ac s σ H _ I h) λv s1 U=>?_;obtain⟨x,H1,z,r1,q1⟩:=U;obtain⟨a,e,⟨xs,O⟩,q⟩:=q1;subst e;cases r1;obtain⟨its,rv,p,hz⟩:=z.list O;refine wpAny_pyIter_list p.isList ?_;refine⟨s1.heap.objs.size,[s1.heap.objs.size],_,_,H1,rfl,z.kept (t':=s1.toks) λb o e=>X2 _ e,BR a _,⟨_,X4 _ rfl,rfl,rfl⟩,λb hb=>?_,q⟩;have e:b=s1.heap.objs.size:=by simpa using hb
 subst e;exact z.pH (X5 _) (z.hok.fresh (X5 _))
theorem cP{l:Expr}{tl:TE}(hl:PE X l tl):PI X tg l (HW X.K tl):=by
 intro ac s σ H R I h;refine cu (hl ac s σ H _ I h) λv s1 zz=>?_;obtain⟨x,H1,z,r1,q1⟩:=zz;obtain⟨a,e,⟨xs,U⟩,q⟩:=q1;subst e;cases r1;obtain⟨O,rv,p,hz⟩:=z.tuple U;refine wpAny_pyIter_tuple (show s1.heap.IsTuple a O.toArray from p) ?_;refine⟨s1.heap.objs.size,[s1.heap.objs.size],_,_,H1,rfl,z.kept (t':=s1.toks) λb o e=>X2 _ e,zG a _,⟨_,X4 _ rfl,rfl,rfl⟩,λb hb=>?_,q⟩;have e:b=s1.heap.objs.size:=by simpa using hb
 subst e;exact z.pH (X5 _) (z.hok.fresh (X5 _))
theorem xm{ac:eN}{σ:St}{H:Hp}{s:Shared}{R:It->Hp->Prop}{E:nT}{lo hi:Int}{t u v:Tok}{tk:Nat}(I:Inv X ac σ H s)(h1:-(2 ^ 62)<=lo)(h2:lo<2 ^ 62)(h3:-(2 ^ 62)<=hi)(h4:hi<2 ^ 62)
  (q:R (Kt lo (hi-lo).toNat) H):wpAny (model X.prog X.w) X.A (pyIter (.ref s.heap.objs.size)) (PIE X ac σ tg R) E {s with heap:=s.heap.push {cls:=.type "range",data:=.fields #[.int lo t,.int hi u,.int 1 v]},toks:=tk}:=by
 refine wpAny_pyIter_range (IsRange.new ..) (small_one h1 h2 h3 h4) ?_;have z:Inv X ac σ H {s with heap:=s.heap.push {cls:=.type "range",data:=.fields #[.int lo t,.int hi u,.int 1 v]},toks:=tk}:=I.kept λb o e=>X2 _ e;refine⟨(s.heap.push {cls:=.type "range",data:=.fields #[.int lo t,.int hi u,.int 1 v]}).objs.size,[(s.heap.push {cls:=.type "range",data:=.fields #[.int lo t,.int hi u,.int 1 v]}).objs.size],_,_,H,rfl,
  z.kept (t':=tk) λb o e=>X2 _ e,Al _ lo (hi-lo).toNat,?_,λb U=>?_,q⟩
 ·have O:lo+((0:Nat):Int)*1=lo:=by simp
  have e2:(((hi-lo).toNat:Nat):Int)-((0:Nat):Int)=Builtin.Range.rangeSize lo hi 1:=by rw[rangeSize_one];split<;>omega
  show IsRangeIter _ _ (lo+((0:Nat):Int)*1) ((((hi-lo).toNat:Nat):Int)-((0:Nat):Int)) 1;rw[O,e2];exact X4 _ rfl
 ·have e:b=(s.heap.push {cls:=.type "range",data:=.fields #[.int lo t,.int hi u,.int 1 v]}).objs.size:=by simpa using U
  subst e;exact z.pH (X5 _) (z.hok.fresh (X5 _))
def NA(ta:TA):TI:=λσ H R=>ta σ H λvs H1=>∃j:Int,vs=[.int j]/\-(2 ^ 62)<=j/\j<2 ^ 62/\R (Kt 0 j.toNat) H1
def PM(ta:TA):TI:=λσ H R=>ta σ H λvs H1=>∃i j:Int,vs=[.int i,.int j]/\(-(2 ^ 62)<=i/\i<2 ^ 62/\-(2 ^ 62)<=j/\j<2 ^ 62)/\R (Kt i (j-i).toNat) H1
theorem c9{a:Expr}{ta:TA}{p pos:Pos}(hg:Gl X "range")(hm:X.mg "range"=none)(ha:PA X [a] ta)(hs:starEach [a] X.env=[(false,eval a X.env)]:=by rfl):PI X tg (.Call (.Name "range" p) [a] [] pos) (NA ta):=by
 intro ac s σ H R I h;refine Call_ (jT I hg hm boot_range (PyProof.Rows.callWith_type1 (cu (ha pos ac s σ H _ I h) λus s1 U=>?_) hs rfl));obtain⟨vs,H1,I1,r1,z⟩:=U;obtain⟨j,e,z,q2,q⟩:=z;subst e;cases r1 with
 |cons r O =>cases O;obtain⟨t,rfl⟩:=r;exact call_range_1 (xm I1 (by omega) (by omega) z q2 (by simpa using q))
theorem oY{a b:Expr}{ta:TA}{p pos:Pos}(hg:Gl X "range")(hm:X.mg "range"=none)(ha:PA X [a,b] ta)(hs:starEach [a,b] X.env=[(false,eval a X.env),(false,eval b X.env)]:=by rfl)(z:starEach [b] X.env=[(false,eval b X.env)]:=by rfl) :
  PI X tg (.Call (.Name "range" p) [a,b] [] pos) (PM ta):=by
 intro ac s σ H R I h;refine Call_ (jT I hg hm boot_range (PyProof.Rows.callWith_type1 (cu (ha pos ac s σ H _ I h) λus s1 zz=>?_) (by rw[hs,z]) (by rw[z];rfl)));obtain⟨vs,H1,I1,r1,U⟩:=zz;obtain⟨i,j,e,⟨U,q2,q3,q4⟩,q⟩:=U;subst e;cases r1 with
 |cons r O =>
  cases O with
  |cons r' O =>cases O;obtain⟨t,rfl⟩:=r;obtain⟨t',rfl⟩:=r';exact call_range_2 (xm I1 U q2 q3 q4 q)
def Ry(wi:TI)(g:TG)(tb:TS):TS:=λD σ H=>wi σ H λJ H1=>∃W:Nat->Nat->St->Hp->Prop,(∃m,W 0 m σ H1)/\∀i m σ H,W i m σ H->
 (J.stop i H/\D.nx σ H)\/(J.go i H/\∃N:St->Hp->Prop,(∀σ' H',N σ' H'->∃z,z<m/\W (i+1) z σ' H')/\∀x H',J.FL i H x H'->g x σ H' λO H2=>tb {D with nx:=N,ct:=N,bk:=D.nx} O H2)
def kQ(fp:Z6)(h:Heap):eN:=fp.filterMap λb=>(h.get? b).map λo=>(b,o)
theorem cV{fp:Z6}{h:Heap}{b:Addr}{o:Obj}(z:b∈fp)(e:h.get? b=some o):(b,o)∈kQ fp h:=List.mem_filterMap.mpr ⟨b,z,by rw[e];rfl⟩
theorem Cz{fp:Z6}{h:Heap}{p:Addr×Obj}(z:p∈kQ fp h):p.1∈fp/\h.get? p.1=some p.2:=by
 obtain⟨b,U,e⟩:=List.mem_filterMap.mp z;cases q:h.get? b with
 |none=>rw[q]at e;cases e
 |some o =>rw[q]at e;have O:(b,o)=p:=Yr e;subst O;exact⟨U,q⟩
theorem Inv.pinned{ac:eN}{σ:St}{H:Hp}{s:Shared}{fp:Z6}(I:Inv X ac σ H s)(hf:∀b∈fp,eI X ac H b)(ho:∀b∈fp,∃o,s.heap.get? b=some o/\∀v,o.data≠ .cell v):Inv X (ac++kQ fp s.heap) σ H s :=
 I.iV λp hp=>(Yo.mp hp).elim (λz=>I.pin p (Ye _ z)) λz=>by obtain⟨U,e⟩:=Cz z;obtain⟨f0,f1,f2,_⟩:=hf p.1 U;obtain⟨o,O,d⟩:=ho p.1 U;rw[e]at O;cases O;exact⟨e,f0,f1,f2,d⟩
theorem Inv.iG{ac pl:eN}{σ:St}{H:Hp}{s:Shared}(I:Inv X (ac++pl) σ H s):Inv X ac σ H s:=I.iV λp z=>I.pin p (Ye _ (List.mem_append_left _ z))
theorem dR{iter:Expr}{body:List Stmt}{wi:TI}{g:TG}{tb:TS}{pos:Pos}(hp:PassesOwn (model X.prog X.w) X.A X.env X.xe)(hc:X.calm=true)(hi:PI X tg iter wi)(hg:PG X tg g)(O:uA X body tb)
  (hs:∀x,foldedSetIterable iter X.env x=pure x:=by intro _;rfl):PS X (.For tg iter body [] pos) (Ry wi g tb):=by
 intro ac s σ H D I h;refine wpAny_For (cu (hi ac s σ H _ I h) λv s1 h1=>cu h1 λitv s2 h2=>?_) hs;obtain⟨it,fp,tn,J,H2,e,I2,T,st2,f2,W,⟨m0,w0⟩,turn⟩:=h2;subst e;have z:∀{H':Hp},(∀b∈fp,H' b=none)->∀b∈fp,eI X ac H' b:=λhn b O=>⟨hn b O,(f2 b O).2⟩;refine codeAny_forLoop_any (λn s'=>∃i σ' H',Inv X ac σ' H' s'/\tn i s'.heap/\(∀b∈fp,H' b=none)/\W i n σ' H') ?_ m0 ⟨0,σ,H2,I2,st2,λb O=>(f2 b O).1,w0⟩;rintro n s3 ⟨i,O2,H3,I3,st3,TX,w3⟩;rcases turn i n O2 H3 w3 with⟨stop,qn⟩|⟨go,N,hN,step⟩
 ·refine wpAny_passesOwn hp (cu (T.done X rfl rfl rfl hc i ac s3 O2 H3 X.xe I3 (z TX) st3 stop) λr s4 zz=>?_);obtain⟨hr,I4⟩:=zz;subst hr;exact wpAny_execs_nil ⟨O2,H3,I4,qn⟩
 ·refine wpAny_passesOwn hp (cu (T.item X rfl rfl rfl hc i ac s3 O2 H3 X.xe I3 (z TX) st3 go) λr s4 zz=>?_);obtain⟨u,hr,h4⟩:=zz;subst hr;refine wpAny_passesOwn hp (cu h4 λ_ s5 zz=>?_);obtain⟨x,H5,I5,r5,y5,wt,yv⟩:=zz;have Vk:=I5.pinned (z yv) (T.obj _ _ wt);refine wpAny_passesOwn hp (cu (hg _ s5 O2 H5 x u _ Vk r5 (step x H5 y5)) λ_ s6 zz=>?_);obtain⟨WS,H6,I6,q6⟩:=zz;refine wpAny_passesOwn hp (cu (O _ s6 WS H6 _ I6 q6) λf s7 q7=>?_);have again:∀{U:St}{H7:Hp},Inv X (ac++kQ fp s5.heap) U H7 s7->N U H7->∃m,m<n/\∃i σ' H',Inv X ac σ' H' s7/\tn i s7.heap/\(∀b∈fp,H' b=none)/\W i m σ' H':=λ{U H7} I7 n7=>by obtain⟨m',hm,w7⟩:=hN U H7 n7;refine⟨m',hm,i+1,U,H7,I7.iG,T.keep _ _ _ wt λb O o e=>(I7.pin (b,o) (Ye _ (Ye _ (cV O e)))).1,λb O=>?_,w7⟩;obtain⟨o,e,d⟩:=T.obj _ _ wt b O;exact(I7.pin (b,o) (Ye _ (Ye _ (cV O e)))).2.1
  cases f with
  |next=>obtain⟨U,H7,I7,n7⟩:=q7;exact again I7 n7
  |cont=>obtain⟨U,H7,I7,n7⟩:=q7;exact again I7 n7
  |brk=>obtain⟨U,H7,I7,q7⟩:=q7;exact⟨U,H7,I7.iG,q7⟩
  |ret v=>obtain⟨x7,U,H7,I7,r7,q7⟩:=q7;exact⟨x7,U,H7,I7.iG,r7,q7⟩
end
theorem nZ{K:YY}{a:Addr}{xs:List V}{g:TG}{tb:TS}{D:Ends}{σ:St}{H:Hp}(Pv:Nat->St->Hp->Prop)(h0:Pv 0 σ H)(hl:∀i σ H,i<=xs.length->Pv i σ H->bb K H a xs)
  (hs:∀i x σ H,xs[i]? = some x->Pv i σ H->g x σ H λO H2=>tb {D with nx:=Pv (i+1),ct:=Pv (i+1),bk:=D.nx} O H2) (hd:∀σ H,Pv xs.length σ H->D.nx σ H) :
  ∃W:Nat->Nat->St->Hp->Prop,(∃m,W 0 m σ H)/\∀i m σ H,W i m σ H->
   ((GB K a).stop i H/\D.nx σ H)\/((GB K a).go i H/\∃N:St->Hp->Prop,(∀σ' H',N σ' H'->∃U,U<m/\W (i+1) U σ' H')/\∀x H',(GB K a).FL i H x H'->g x σ H' λO H2=>tb {D with nx:=N,ct:=N,bk:=D.nx} O H2):=by
 refine⟨λi m σ H=>m=xs.length-i/\i<=xs.length/\Pv i σ H,⟨xs.length,by simp,Yq _,h0⟩,?_⟩;rintro i m σ H ⟨rfl,hi,p⟩;have q:=hl i σ H hi p;by_cases z:i<xs.length
 ·refine .inr ⟨⟨xs,xs[i],q,by simp[z]⟩,Pv (i+1),λσ' H' p'=>⟨xs.length-(i+1),by omega,rfl,z,p'⟩,λx H' y=>?_⟩;obtain⟨e,y⟩:=y;subst e;exact hs i x σ _ (y xs q) p
 ·have e:i=xs.length:=by omega
  subst e;exact .inl ⟨⟨xs,q,X5 _⟩,hd σ H p⟩
theorem va{K:YY}{a:Addr}{xs:List V}{g:TG}{tb:TS}{D:Ends}{σ:St}{H:Hp}(Pv:Nat->St->Hp->Prop)(h0:Pv 0 σ H)(hl:∀i σ H,i<=xs.length->Pv i σ H->aX K H a xs)
  (hs:∀i x σ H,xs[i]? = some x->Pv i σ H->g x σ H λO H2=>tb {D with nx:=Pv (i+1),ct:=Pv (i+1),bk:=D.nx} O H2) (hd:∀σ H,Pv xs.length σ H->D.nx σ H) :
  ∃W:Nat->Nat->St->Hp->Prop,(∃m,W 0 m σ H)/\∀i m σ H,W i m σ H->
   ((Gx K a).stop i H/\D.nx σ H)\/((Gx K a).go i H/\∃N:St->Hp->Prop,(∀σ' H',N σ' H'->∃U,U<m/\W (i+1) U σ' H')/\∀x H',(Gx K a).FL i H x H'->g x σ H' λO H2=>tb {D with nx:=N,ct:=N,bk:=D.nx} O H2):=by
 refine⟨λi m σ H=>m=xs.length-i/\i<=xs.length/\Pv i σ H,⟨xs.length,by simp,Yq _,h0⟩,?_⟩;rintro i m σ H ⟨rfl,hi,p⟩;have q:=hl i σ H hi p;by_cases z:i<xs.length
 ·refine .inr ⟨⟨xs,xs[i],q,by simp[z]⟩,Pv (i+1),λσ' H' p'=>⟨xs.length-(i+1),by omega,rfl,z,p'⟩,λx H' y=>?_⟩;obtain⟨e,y⟩:=y;subst e;exact hs i x σ _ (y xs q) p
 ·have e:i=xs.length:=by omega
  subst e;exact .inl ⟨⟨xs,q,X5 _⟩,hd σ H p⟩
theorem gq{lo:Int}{n:Nat}{g:TG}{tb:TS}{D:Ends}{σ:St}{H:Hp}(Pv:Nat->St->Hp->Prop)(h0:Pv 0 σ H)
  (hs:∀i σ H,i<n->Pv i σ H->g (.int (lo+i)) σ H λO H2=>tb {D with nx:=Pv (i+1),ct:=Pv (i+1),bk:=D.nx} O H2) (hd:∀σ H,Pv n σ H->D.nx σ H) :
  ∃W:Nat->Nat->St->Hp->Prop,(∃m,W 0 m σ H)/\∀i m σ H,W i m σ H->
   ((Kt lo n).stop i H/\D.nx σ H)\/((Kt lo n).go i H/\∃N:St->Hp->Prop,(∀σ' H',N σ' H'->∃U,U<m/\W (i+1) U σ' H')/\∀x H',(Kt lo n).FL i H x H'->g x σ H' λO H2=>tb {D with nx:=N,ct:=N,bk:=D.nx} O H2):=by
 refine⟨λi m σ H=>m=n-i/\i<=n/\Pv i σ H,⟨n,by simp,Yq _,h0⟩,?_⟩;rintro i m σ H ⟨rfl,hi,p⟩;by_cases z:i<n
 ·refine .inr ⟨z,Pv (i+1),λσ' H' p'=>⟨n-(i+1),by omega,rfl,z,p'⟩,λx H' y=>?_⟩;obtain⟨e,y⟩:=y;subst e y;exact hs i σ _ z p
 ·have e:i=n:=by omega
  subst e;exact .inl ⟨X5 _,hd σ H p⟩
abbrev R2:=V->V->Hp->VK->Prop
def kj(X:Cx)(f:Value->Value->Sem Value)(r:R2):Prop :=
 ∀(ac:eN)(s:Shared)(σ:St)(H:Hp)(x y:V)(v u:Value)(Q:VK),Inv X ac σ H s->RelV x v->RelV y u->r x y H Q->
  wpAny (model X.prog X.w) X.A (f v u) (EP X ac σ Q) X.xe s
def QN(X:Cx)(f:Value->Sem Value)(r:V->Hp->VK->Prop):Prop :=
 ∀(ac:eN)(s:Shared)(σ:St)(H:Hp)(x:V)(v:Value)(Q:VK),Inv X ac σ H s->RelV x v->r x H Q->
  wpAny (model X.prog X.w) X.A (f v) (EP X ac σ Q) X.xe s
def gJ(X:Cx)(f:Value)(r:List V->Hp->VK->Prop):Prop :=
 ∀(ac:eN)(s:Shared)(σ:St)(H:Hp)(xs:List V)(us:Z4)(Q:VK),Inv X ac σ H s->Vals xs us->r xs H Q->
  wpAny (model X.prog X.w) X.A (call f us) (EP X ac σ Q) X.xe s
def Sv(X:Cx)(r:V->Hp->(Bool->Hp->Prop)->Prop):Prop :=
 ∀(ac:eN)(s:Shared)(σ:St)(H:Hp)(x:V)(v:Value)(Q:Bool->Hp->Prop),Inv X ac σ H s->RelV x v->r x H Q->
  wpAny (model X.prog X.w) X.A (truthy v) (TP X ac σ Q) X.xe s
def eC(r:R2)(ta tb:TE):TE:=λσ H Q=>ta σ H λx H1=>tb σ H1 λy H2=>r x y H2 Q
def WH(r:V->Hp->VK->Prop)(ta:TE):TE:=λσ H Q=>ta σ H λx H1=>r x H1 Q
inductive rI(C:Int->Int->Prop)(g:Int->Int->V)(x:V)(y:V)(H:Hp)(Q:VK):Prop
 |mk i j (_:x=.int i) (_:y=.int j) (_:C i j) (_:Q (g i j) H):rI C g x y H Q
inductive sy(g:Int->Int->V)(x:V)(y:V)(H:Hp)(Q:VK):Prop
 |mk i j (_:x=.int i) (_:y=.int j) (_:Q (g i j) H):sy g x y H Q
inductive rU(g:Int->V)(x:V)(H:Hp)(Q:VK):Prop
 |mk i (_:x=.int i) (_:Q (g i) H):rU g x H Q
section
variable{X:Cx}{a b c:Expr}{ta tb tc:TE}{pos:Pos}
theorem KW(ha:PE X a ta)(hb:PE X b tb){ac:eN}{s:Shared}{σ:St}{H:Hp}{R:V->V->Hp->Prop}(I:Inv X ac σ H s)
  (h:ta σ H λx H1=>tb σ H1 λy H2=>R x y H2) {Q:nT} {f:Value->Value->Sem Value}
  (hf:∀v u s2 x y H2,Inv X ac σ H2 s2->RelV x v->RelV y u->R x y H2->wpAny (model X.prog X.w) X.A (f v u) Q X.xe s2) :
  wpAny (model X.prog X.w) X.A (eval a X.env) (λv z=>wpAny (model X.prog X.w) X.A (eval b X.env) (λu O=>wpAny (model X.prog X.w) X.A (f v u) Q X.xe O) X.xe z) X.xe s:=by
 refine cu (ha ac s σ H _ I h) λv s1 U=>?_;obtain⟨x,H1,I1,r1,q1⟩:=U;refine cu (hb ac s1 σ H1 _ I1 q1) λu s2 U=>?_;obtain⟨y,H2,I2,r2,q2⟩:=U;exact hf v u s2 x y H2 I2 r1 r2 q2
theorem aL{z:Operator}{r:R2}(U:kj X (binaryOp z) r)(ha:PE X a ta)(hb:PE X b tb):PE X (.BinOp a z b pos) (eC r ta tb):=by intro ac s σ H Q I h;exact wpAny_BinOp (KW ha hb I h λv u s2 x y H2 I2 rx O q=>U ac s2 σ H2 x y v u Q I2 rx O q)
theorem Gs{z:UnaryOp}{r:V->Hp->VK->Prop}(O:QN X (unaryOp z) r)(ha:PE X a ta):PE X (.UnaryOp z a pos) (WH r ta):=by intro ac s σ H Q I h;exact UnaryOp_ (cu (ha ac s σ H _ I h) λv s1 ⟨x,H1,I1,U,q1⟩=>O ac s1 σ H1 x v Q I1 U q1)
theorem PN{f:Value->Value->Sem Value}{C:Int->Int->Prop}{g:Int->Int->Int}
  (rule:∀(i j:Int)(t u:Tok)(s:Shared)(Q:nT)(E:nT),C i j->Q (.int (g i j) s.toks) {s with toks:=s.toks+1}->wpAny (model X.prog X.w) X.A (f (.int i t) (.int j u)) Q E s) :
  kj X f (rI C λi j=>.int (g i j)):=by
 intro ac s σ H x y v u Q I z O h;obtain⟨i,j,rfl,rfl,U,q⟩:=h;obtain⟨t,rfl⟩:=z;obtain⟨t',rfl⟩:=O;exact rule i j t t' s _ _ U ⟨.int (g i j),H,I.tok _,⟨_,rfl⟩,q⟩
theorem Ox{f:Value->Value->Sem Value}{g:Int->Int->Int}
  (rule:∀(i j:Int)(t u:Tok)(s:Shared)(Q:nT)(E:nT),Q (.int (g i j) s.toks) {s with toks:=s.toks+1}->wpAny (model X.prog X.w) X.A (f (.int i t) (.int j u)) Q E s) :
  kj X f (sy λi j=>.int (g i j)):=by
 intro ac s σ H x y v u Q I z O h;obtain⟨i,j,rfl,rfl,q⟩:=h;obtain⟨t,rfl⟩:=z;obtain⟨t',rfl⟩:=O;exact rule i j t t' s _ _ ⟨.int (g i j),H,I.tok _,⟨_,rfl⟩,q⟩
theorem KI{f:Value->Value->Sem Value}{g:Int->Int->Bool}
  (rule:∀(i j:Int)(t u:Tok)(s:Shared)(Q:nT)(E:nT),Q (.bool (g i j)) s->wpAny (model X.prog X.w) X.A (f (.int i t) (.int j u)) Q E s) :
  kj X f (sy λi j=>.bl (g i j)):=by
 intro ac s σ H x y v u Q I z O h;obtain⟨i,j,rfl,rfl,q⟩:=h;obtain⟨t,rfl⟩:=z;obtain⟨t',rfl⟩:=O;exact rule i j t t' s _ _ ⟨.bl (g i j),H,I,rfl,q⟩
def RQ(i j:Int):Prop:=0<j/\j<1073741824
def QO(i j:Int):Prop:=0<=j/\j<=1000000/\i.natAbs<2 ^ 64
def Kv(i j:Int):Prop:=(-(2 ^ 64)<i/\i<2 ^ 64)\/(-(2 ^ 64)<j/\j<2 ^ 64)
theorem Kv.ok{i j:Int}(h:Kv i j):IntMulOk i j:=by
 rcases h with⟨h1,h2⟩|⟨h1,h2⟩
 ·exact .of_left (intBits_le_64 h1 h2)
 ·exact .of_right (intBits_le_64 h1 h2)
theorem cw:kj X (binaryOp .Add) (sy λi j=>.int (i+j)):=Ox λ_ _ _ _ _ _ _ q=>add_int q
theorem bN:kj X (binaryOp .Sub) (sy λi j=>.int (i-j)):=Ox λ_ _ _ _ _ _ _ q=>sub_int q
theorem vc:kj X (binaryOp .Mult) (rI Kv λi j=>.int (i*j)):=PN λ_ _ _ _ _ _ _ z q=>mul_int q z.ok
theorem IY:kj X (binaryOp .FloorDiv) (rI RQ λi j=>.int (i / j)):=PN λi j _ _ _ _ _ z q=>by have h1:(0:Int)<j:=z.1;have h2:j<1073741824:=z.2;exact floordiv_int (by omega) (by rw[Int.fdiv_eq_ediv_of_nonneg i (by omega)];exact q) (.inl (PyProof.noPylong_small (by omega)))
theorem rC:kj X (binaryOp .Mod) (rI (λ_ j=>0<j) λi j=>.int (i % j)):=PN λi j _ _ _ _ _ z q=>by have h1:(0:Int)<j:=z;exact mod_int' (by omega) (by rw[Int.fmod_eq_emod_of_nonneg i (by omega)];exact q)
theorem Dn:kj X (binaryOp .Pow) (rI QO λi j=>.int (i ^ j.toNat)):=PN λ_ _ _ _ _ _ _ z q=>pow_int_small z.1 z.2.1 z.2.2 q
theorem UP{f:Value->Sem Value}{g:Int->Int}
  (rule:∀(i:Int)(t:Tok)(s:Shared)(Q:nT)(E:nT),Q (.int (g i) s.toks) {s with toks:=s.toks+1}->wpAny (model X.prog X.w) X.A (f (.int i t)) Q E s) :
  QN X f (rU λi=>.int (g i)):=by
 intro ac s σ H x v Q I z h;obtain⟨i,rfl,q⟩:=h;obtain⟨t,rfl⟩:=z;exact rule i t s _ _ ⟨.int (g i),H,I.tok _,⟨_,rfl⟩,q⟩
theorem zX:QN X (unaryOp .USub) (rU λi=>.int (-i)):=UP λ_ _ _ _ _ q=>neg_int q
end
def O0:V->V->Bool
 | .non,.non=>true | .non,.int _=>true | .int _,.non=>true | .non,.bl _=>true | .bl _,.non=>true | .non,.str _=>true | .str _,.non=>true
 | .int _,.int _=>true | .bl _,.bl _=>true | .str _,.str _=>true | .B0 _,.B0 _=>true
 | .int _,.str _=>true | .str _,.int _=>true | .bl _,.str _=>true | .str _,.bl _=>true
 |_,_=>false
def Js:R2:=λx y H Q=>O0 x y=true/\Q (.bl (decide (x=y))) H
def SH:R2:=λx y H Q=>O0 x y=true/\Q (.bl (!decide (x=y))) H
theorem Bz{i j:Int}:decide (V.int i=V.int j)=(i==j):=by rw[Bool.eq_iff_iff];simp
theorem FW{i j:Bool}:decide (V.bl i=V.bl j)=(i==j):=by rw[Bool.eq_iff_iff];simp
theorem Bq{i j:Str}:decide (V.str i=V.str j)=(i==j):=by rw[Bool.eq_iff_iff];simp
theorem Bl{i j:Array UInt8}:decide (V.B0 i=V.B0 j)=(i.toList==j.toList):=by rw[Bool.eq_iff_iff];cases i;cases j;simp
section
variable{X:Cx}{a b c:Expr}{ta tb tc:TE}{pos:Pos}
theorem cf{ac:eN}{σ:St}{H:Hp}{s:Shared}{Q:VK}{k k':Bool}(I:Inv X ac σ H s)(q:Q (.bl k) H)(e:k=k'):EP X ac σ Q (.bool k') s:=by subst e;exact⟨.bl k,H,I,rfl,q⟩
theorem bH:kj X (compareOp .Eq) Js:=by
 intro ac s σ H x y v u Q I O z h;obtain⟨hs,q⟩:=h;cases x with
 |non =>
  cases O;cases y with
  |non=>cases z;exact PySem.EqNone.eq_none_none (cf I q (by simp))
  |bl j=>cases z;exact PySem.EqNone.eq_none_bool (cf I q (by simp))
  |int j=>obtain⟨t',rfl⟩:=z;exact PySem.EqNone.eq_none_int (cf I q (by simp))
  |str j=>obtain⟨t',rfl⟩:=z;exact PySem.EqNone.eq_none_str (cf I q (by simp))
  |_=>exact YE (show false=true from hs) Yh
 |bl i =>
  cases O;cases y with
  |non=>cases z;exact PySem.EqNone.eq_bool_none (cf I q (by simp))
  |bl j=>cases z;exact eq_bool (cf I q FW)
  |str j=>obtain⟨t',rfl⟩:=z;exact PySem.EqMixed.eq_bool_str (cf I q (by simp))
  |_=>exact YE (show false=true from hs) Yh
 |int i =>
  obtain⟨t,rfl⟩:=O;cases y with
  |non=>cases z;exact PySem.EqNone.eq_int_none (cf I q (by simp))
  |int j=>obtain⟨t',rfl⟩:=z;exact eq_int (cf I q Bz)
  |str j=>obtain⟨t',rfl⟩:=z;exact PySem.EqMixed.eq_int_str (cf I q (by simp))
  |_=>exact YE (show false=true from hs) Yh
 |str i =>
  obtain⟨t,rfl⟩:=O;cases y with
  |non=>cases z;exact PySem.EqNone.eq_str_none (cf I q (by simp))
  |bl j=>cases z;exact PySem.EqMixed.eq_str_bool (cf I q (by simp))
  |int j=>obtain⟨t',rfl⟩:=z;exact PySem.EqMixed.eq_str_int (cf I q (by simp))
  |str j=>obtain⟨t',rfl⟩:=z;exact eq_str (cf I q Bq)
  |_=>exact YE (show false=true from hs) Yh
 |B0 i =>
  obtain⟨t,rfl⟩:=O;cases y with
  |B0 j=>obtain⟨t',rfl⟩:=z;exact PySem.W.eq_bytes (cf I q Bl)
  |_=>exact YE (show false=true from hs) Yh
 |_=>cases y<;>exact YE (show false=true from hs) Yh
theorem xV:kj X (compareOp .NotEq) SH:=by
 intro ac s σ H x y v u Q I O z h;obtain⟨hs,q⟩:=h;cases x with
 |non =>
  cases O;cases y with
  |non=>cases z;exact PySem.EqNone.ne_none_none (cf I q (by simp))
  |bl j=>cases z;exact PySem.EqNone.ne_none_bool (cf I q (by simp))
  |int j=>obtain⟨t',rfl⟩:=z;exact PySem.EqNone.ne_none_int (cf I q (by simp))
  |str j=>obtain⟨t',rfl⟩:=z;exact PySem.EqNone.ne_none_str (cf I q (by simp))
  |_=>exact YE (show false=true from hs) Yh
 |bl i =>
  cases O;cases y with
  |non=>cases z;exact PySem.EqNone.ne_bool_none (cf I q (by simp))
  |bl j=>cases z;exact ne_bool (cf I q (congrArg not FW))
  |str j=>obtain⟨t',rfl⟩:=z;exact PySem.EqMixed.ne_bool_str (cf I q (by simp))
  |_=>exact YE (show false=true from hs) Yh
 |int i =>
  obtain⟨t,rfl⟩:=O;cases y with
  |non=>cases z;exact PySem.EqNone.ne_int_none (cf I q (by simp))
  |int j=>obtain⟨t',rfl⟩:=z;exact ne_int (cf I q (congrArg not Bz))
  |str j=>obtain⟨t',rfl⟩:=z;exact PySem.EqMixed.ne_int_str (cf I q (by simp))
  |_=>exact YE (show false=true from hs) Yh
 |str i =>
  obtain⟨t,rfl⟩:=O;cases y with
  |non=>cases z;exact PySem.EqNone.ne_str_none (cf I q (by simp))
  |bl j=>cases z;exact PySem.EqMixed.ne_str_bool (cf I q (by simp))
  |int j=>obtain⟨t',rfl⟩:=z;exact PySem.EqMixed.ne_str_int (cf I q (by simp))
  |str j=>obtain⟨t',rfl⟩:=z;exact ne_str (cf I q (congrArg not Bq))
  |_=>exact YE (show false=true from hs) Yh
 |B0 i =>
  obtain⟨t,rfl⟩:=O;cases y with
  |B0 j=>obtain⟨t',rfl⟩:=z;exact PySem.W.ne_bytes (cf I q (congrArg not Bl))
  |_=>exact YE (show false=true from hs) Yh
 |_=>cases y<;>exact YE (show false=true from hs) Yh
theorem DA:kj X (compareOp .Lt) (sy λi j=>.bl (decide (i<j))):=KI λ_ _ _ _ _ _ _ q=>lt_int q
theorem DU:kj X (compareOp .LtE) (sy λi j=>.bl (decide (i<=j))):=KI λ_ _ _ _ _ _ _ q=>le_int q
theorem iO:kj X (compareOp .Gt) (sy λi j=>.bl (decide (j<i))):=KI λ_ _ _ _ _ _ _ q=>gt_int q
theorem m4:kj X (compareOp .Is) (λx y H Q=>y=.non/\Q (.bl (decide (x=.non))) H):=by
 intro ac s σ H x y v u Q I z O h;obtain⟨rfl,q⟩:=h;cases O;refine is_none_gen (cf I q ?_);cases x<;>first
  | (cases z;rfl)
  | (obtain⟨t,rfl⟩:=z;rfl)
theorem vE:kj X (compareOp .IsNot) (λx y H Q=>y=.non/\Q (.bl (!decide (x=.non))) H):=by
 intro ac s σ H x y v u Q I z O h;obtain⟨rfl,q⟩:=h;cases O;refine isnot_none_gen (cf I q ?_);cases x<;>first
  | (cases z;rfl)
  | (obtain⟨t,rfl⟩:=z;rfl)
theorem Dj(b:Expr){z:CmpOp}(h:z≠ .In:=by decide)(h2:z≠ .NotIn:=by decide):behindInMarks z b=false:=by
 have O:(z==CmpOp.In)=false:=by cases z<;>first|rfl|exact YE rfl h
 have U:(z==CmpOp.NotIn)=false:=by cases z<;>first|rfl|exact YE rfl h2
 cases b<;>simp[behindInMarks,O,U]
theorem jO{z:CmpOp}{r:R2}(U:kj X (compareOp z) r)(ha:PE X a ta)(hb:PE X b tb)(hm:behindInMarks z b=false):PE X (.Compare a [z] [b] pos) (eC r ta tb):=by intro ac s σ H Q I h;exact wpAny_Compare1 (KW ha hb I h λv u s2 x y H2 I2 rx O q=>U ac s2 σ H2 x y v u Q I2 rx O q) hm
def gD(t:TE):TT:=λσ H Q=>t σ H λx H'=>Lp x H' Q
theorem eU{O:CmpOp}{r:R2}(ho:kj X (compareOp O) r)(ha:PE X a ta)(hb:PE X b tb)(hm:behindInMarks O b=false):PT X (.Compare a [O] [b] pos) (gD (eC r ta tb)):=by
 intro ac s σ H Q I h;refine wpAny_isTrue_Compare1 (cu (ha ac s σ H _ I h) λv s1 ⟨x,H1,I1,r1,q1⟩=>cu (hb ac s1 σ H1 _ I1 q1) λu s2 ⟨y,H2,I2,r2,q2⟩ =>
  cu (ho ac s2 σ H2 x y v u _ I2 r1 r2 q2) λc s3 ⟨z,H3,I3,U,k,e,q3⟩=>?_) hm
 subst e;cases U;exact wpAny_truthy_bool ⟨H3,I3,q3⟩
def LI(r r':R2)(ta tb tc:TE):TE:=λσ H Q=>ta σ H λx H1=>tb σ H1 λy H2=>r x y H2 λz O=>∃k,z=.bl k/\
 (if k=true then tc σ O λU H4=>r' y U H4 Q else Q (.bl false) O)
theorem DZ{op O:CmpOp}{r r':R2}(ho:kj X (compareOp op) r)(U:kj X (compareOp O) r')(ha:PE X a ta)(hb:PE X b tb)(hc:PE X c tc)
  (hm:lastMarks [op,O] [b,c]=false:=by with_unfolding_all rfl):PE X (.Compare a [op,O] [b,c] pos) (LI r r' ta tb tc):=by
 intro ac s σ H Q I h;refine Compare_chain (cu (ha ac s σ H _ I h) λv s1 ⟨x,H1,I1,r1,q1⟩=>chain_link (cu (hb ac s1 σ H1 _ I1 q1) λu s2 ⟨y,H2,I2,r2,q2⟩ =>
  cu (ho ac s2 σ H2 x y v u _ I2 r1 r2 q2) λd s3 ⟨z,H3,I3,r3,k,e,q3⟩=>?_)) hm
 subst e;cases r3;refine wpAny_truthy_bool ?_;cases k with
 |false=>exact ite_ff ⟨.bl false,H3,I3,rfl,q3⟩
 |true=>exact ite_tt (chain_last (cu (hc ac s3 σ H3 _ I3 q3) λw' s4 ⟨z',H4,I4,r4,q4⟩=>U ac s4 σ H4 y z' u w' Q I4 r2 r4 q4))
def Nt(K:YY)(x:V)(H:Hp)(k:Bool):Prop :=
 match x with
 | .non=>k=false
 | .bl b=>k=b
 | .int i=>k=(i != 0)
 | .str y=>y.length<=sizeLine/\k=((y.length:Int) != 0)
 | .B0 y=>y.size<=sizeLine/\k=((y.size:Int) != 0)
 | .ref p=>(∃xs,bb K H p xs/\k = !xs.isEmpty)\/(∃xs,aX K H p xs/\k = !xs.isEmpty)\/∃kvs,H p=some (.dK kvs)/\k = !kvs.isEmpty
 |_=>False
theorem ze{κ:Type}{kvs:List (κ×V)}{vs:List (κ×Value)}(r:KV kvs vs):(!vs.isEmpty) = !kvs.isEmpty:=by cases r<;>rfl
theorem rd{xs:List V}{z:Z4}(r:Vals xs z):(!z.toArray.isEmpty) = !xs.isEmpty:=by cases r<;>simp
theorem rN:(sizeLine:Nat)<2 ^ 63:=by rw[sizeLine_eq];decide
theorem K3:Sv X (λx H Q=>∃k,Nt X.K x H k/\Q k H):=by
 intro ac s σ H x v Q I U h;obtain⟨k,e,q⟩:=h;have hl:=rN;have hs:sizeLine=16777216:=sizeLine_eq;cases x with
 |non =>cases U;have z:k=false:=e;subst z;exact truthy_none ⟨H,I,q⟩
 |bl b =>cases U;have z:k=b:=e;subst z;exact wpAny_truthy_bool ⟨H,I,q⟩
 |int i =>obtain⟨t,rfl⟩:=U;have z:k=(i != 0):=e;subst z;exact PySem.P.truthy_int ⟨H,I,q⟩
 |str y =>obtain⟨t,rfl⟩:=U;obtain⟨hy,z⟩ : y.length<=sizeLine/\k=((y.length:Int) != 0):=e;subst z;exact PySem.P.truthy_str (by omega) ⟨H,I.tok _,q⟩
 |B0 y =>obtain⟨t,rfl⟩:=U;obtain⟨hy,z⟩ : y.size<=sizeLine/\k=((y.size:Int) != 0):=e;subst z;exact PySem.W.truthy_bytes (by omega) ⟨H,I.tok _,q⟩
 |ref p =>
  cases U;have z:(∃xs,bb X.K H p xs/\k = !xs.isEmpty)\/(∃xs,aX X.K H p xs/\k = !xs.isEmpty)\/∃kvs,H p=some (.dK kvs)/\k = !kvs.isEmpty:=e;rcases z with⟨xs,hx,z⟩|⟨xs,hx,z⟩|⟨kvs,hx,z⟩
  ·subst z;obtain⟨its,r,pl,hz⟩:=I.list hx;have O:=r.length;exact wpAny_truthy_list pl.isList (by simp only[Yi];omega) ⟨H,I.tok _,by rw[rd r];exact q⟩
  ·subst z;obtain⟨its,r,pl,hz⟩:=I.tuple hx;have O:=r.length;exact truthy_tuple pl (by simp only[Yi];omega) ⟨H,I.tok _,by rw[rd r];exact q⟩
  ·subst z;obtain⟨hz,hS,vs,r,m⟩ : kvs.length<=sizeLine/\(p==sysModules)=false/\∃vs,KV kvs vs/\s.heap.DictOf (bQ X.prog X.w) p vs:=I.hok p _ hx;have O:kvs.length=vs.length:=Paired.length r;exact wpAny_truthy_dict hS m (by omega) ⟨H,I.tok _,by rw[ze r];exact q⟩
 |_=>exact(show False from e).elim
theorem vals1{x:V}{us:Z4}(r:Vals [x] us):∃u,us=[u]/\RelV x u:=by
 cases r with
 |cons z O=>cases O;exact⟨_,rfl,z⟩
theorem vals2{x y:V}{us:Z4}(r:Vals [x,y] us):∃u z,us=[u,z]/\RelV x u/\RelV y z:=by
 cases r with
 |cons O U =>
  cases U with
  |cons r3 r4=>cases r4;exact⟨_,_,rfl,O,r3⟩
theorem Fb:gJ X (.builtin "abs") (λxs H Q=>∃i,xs=[.int i]/\Q (.int (if i<0 then -i else i)) H):=by intro ac s σ H xs us Q I r h;obtain⟨i,rfl,q⟩:=h;obtain⟨u,rfl,t,rfl⟩:=vals1 r;exact call_abs_int λu tk=>⟨.int (if i<0 then -i else i),H,I.tok _,⟨_,rfl⟩,q⟩
theorem uy(O:X.calm=true):gJ X (.builtin "max") (λxs H Q=>∃i j,xs=[.int i,.int j]/\Q (.int (if j > i then j else i)) H):=by
 intro ac s σ H xs us Q I r h;obtain⟨i,j,rfl,q⟩:=h;obtain⟨u,U,rfl,⟨t,rfl⟩,⟨t',rfl⟩⟩:=vals2 r;refine max_two_ints (I.ok.hd O) λh' tk k=>⟨_,H,I.kept k,?_,q⟩;by_cases z:j > i
 ·rw[YG z,YG z];exact⟨_,rfl⟩
 ·rw[YF z,YF z];exact⟨_,rfl⟩
theorem pR(O:X.calm=true):gJ X (.builtin "min") (λxs H Q=>∃i j,xs=[.int i,.int j]/\Q (.int (if j<i then j else i)) H):=by
 intro ac s σ H xs us Q I r h;obtain⟨i,j,rfl,q⟩:=h;obtain⟨u,U,rfl,⟨t,rfl⟩,⟨t',rfl⟩⟩:=vals2 r;refine min_two_ints (I.ok.hd O) λh' tk k=>⟨_,H,I.kept k,?_,q⟩;by_cases z:j<i
 ·rw[YG z,YG z];exact⟨_,rfl⟩
 ·rw[YF z,YF z];exact⟨_,rfl⟩
theorem il:gJ X (.type "int") (λxs H Q=>(∃i,xs=[.int i]/\Q (.int i) H)\/∃k,xs=[.bl k]/\Q (.int (if k then 1 else 0)) H):=by
 intro ac s σ H xs us Q I r h;rcases h with⟨i,rfl,q⟩|⟨k,rfl,q⟩
 ·obtain⟨u,rfl,t,rfl⟩:=vals1 r;exact call_int_int ⟨.int i,H,I,⟨_,rfl⟩,q⟩
 ·obtain⟨u,rfl,z⟩:=vals1 r;cases z;exact call_int_bool ⟨.int (if k then 1 else 0),H,I.tok _,⟨_,rfl⟩,q⟩
end
structure L5(h:Heap)(x dx C:Addr)(mA:Z0):Prop where
 obj:h.get? x=some (PySem.W.instObj C dx)
 ns:h.Ns1 dx mA
 ne:dx≠x
theorem uw{h:Heap}{dx:Addr}{mA:Z0}(n:h.Ns1 dx mA):∃od,h.get? dx=some od/\∀name,PySem.W.lookIn name od=some (mA name):=by
 obtain⟨o,es,ep,ho,hd,hk,_,hm⟩:=n;refine⟨o,ho,λname=>?_⟩;have e:=hm name;unfold nsFind findBy at e;rw[←Array.find?_toList]at e;unfold PySem.W.lookIn;rw[hd];dsimp only;split
 ·rename_i y q;rw[q]at e;exact congrArg some e
 ·rename_i q;rw[q]at e;have a:es.toList.any (·.refKey)=false:=by rw[List.any_eq_false];intro y U;obtain⟨z,t,O⟩:=hk y (Array.mem_toList_iff.mp U);simp[DictEntry.refKey,O]
  have a':¬es.toList.any (·.refKey)=true:=by rw[a];exact Yh
  rw[YF a'];exact congrArg some e
theorem L5.look{h:Heap}{x dx C:Addr}{mA:Z0}(I:L5 h x dx C mA):∃od,PySem.W.InstAt h x (PySem.W.instObj C dx) C (some od)/\∀name,PySem.W.lookIn name od=some (mA name) :=
 let ⟨od,ho,hl⟩:=uw I.ns
 ⟨od,⟨I.obj,rfl,rfl,ho⟩,hl⟩
def ql(f:Str)(v:V):List (Str×V)->List (Str×V)
 |[]=>[(f,v)]
 | (g,x)::r=>if g=f then(g,v)::r else(g,x)::ql f v r
theorem kD(f g:Str)(v:V):∀fs:List (Str×V),(ql f v fs).lookup g=if g=f then some v else fs.lookup g
 |[]=>by
  show List.lookup g [(f,v)]=_;by_cases h:g=f
  ·have z:(g==f)=true:=beq_iff_eq.mpr h;simp only[List.lookup,z,YG h]
  ·have z:(g==f)=false:=beq_eq_false_iff_ne.mpr h;simp only[List.lookup,z,YF h]
 | (k,x)::r=>by
  have U:=kD f g v r;rw[show ql f v ((k,x)::r)=(if k=f then(k,v)::r else(k,x)::ql f v r) from rfl];by_cases O:k=f
  ·rw[YG O];by_cases h:g=k
   ·have z:(g==k)=true:=beq_iff_eq.mpr h;simp only[List.lookup,z,YG (h.trans O)]
   ·have z:(g==k)=false:=beq_eq_false_iff_ne.mpr h;simp only[List.lookup,z,YF (λe:g=f=>h (e.trans O.symm))]
  ·rw[YF O];by_cases h:g=k
   ·have z:(g==k)=true:=beq_iff_eq.mpr h;simp only[List.lookup,z,YF (λe:g=f=>O (h.symm.trans e))]
   ·have z:(g==k)=false:=beq_eq_false_iff_ne.mpr h;simp only[List.lookup,z];exact U
theorem j6.some_of{v:V}{o:Z5}(r:j6 (some v) o):∃u,o=some u/\RelV v u:=by
 cases o with
 |none=>exact(show False from r).elim
 |some u=>exact⟨u,rfl,r⟩
theorem j6.none_of{o:Z5}(r:j6 none o):o=none:=by
 cases o with
 |none=>rfl
 |some u=>exact(show False from r).elim
section
variable{P:Program}{w:World}{H H':Hp}{h h':Heap}{a C dx:Addr}{fs fs':List (Str×V)}
theorem IA(hok:ky P w H h)(e:H a=some (.ins C dx fs)):∃mA,L5 h a dx C mA/\(∀f,j6 (fs.lookup f) (mA f))/\PySem.Within mA (fs.map (·.1))/\fs.length<=1000/\H dx=some (.own a):=by obtain⟨d,z,ne,O,mA,n,r,q⟩:=(show cD P w H h a (.ins C dx fs) from hok a _ e);exact⟨mA,⟨O,n,ne⟩,r,q,z,d⟩
end
structure Sj(K:YY)(C:Addr):Prop where
 pg:PySem.W.plainGet K C Str.empty=true
 hd:PySem.W.hasDictIn K C=true
 po:PySem.W.plainOver K C=true
 sa:PySem.W.findIn K (.ref C) "__setattr__"=some (some (.builtin "object.__setattr__"))
theorem Sj.get{K:YY}{C:Addr}(c:Sj K C)(f:Str):PySem.W.plainGet K C f=true:=c.pg
def nF(K:YY)(C:Addr)(f:Str):Prop:=PySem.W.findIn K (.ref C) f=some none
section
variable{X:Cx}{ac:eN}{σ:St}{H:Hp}{s:Shared}{A:Around}{E:nT}{Q:nT}{c:Value}{b:Bool}
inductive o_(K:YY)(H:Hp):V->Value->Prop where
 |non:o_ K H .non (.type "NoneType")
 |bl (x:Bool):o_ K H (.bl x) (.type "bool")
 |int (i:Int):o_ K H (.int i) (.type "int")
 |str (x:Str):o_ K H (.str x) (.type "str")
 |flt (x:UInt64):o_ K H (.flt x) (.type "float")
 |lst {a:Addr} {xs:List V} (e:H a=some (.lst xs)):o_ K H (.ref a) (.type "list")
 |zk {a:Addr} {o:Obj} {xs:List V} (e:H a=some (.zk o (.lst xs))):o_ K H (.ref a) (.type "list")
 |tup {a:Addr} {xs:List V} (e:H a=some (.tup xs)):o_ K H (.ref a) (.type "tuple")
 |dK {a:Addr} {kvs:List (Key×V)} (e:H a=some (.dK kvs)):o_ K H (.ref a) (.type "dict")
 |dT {a:Addr} {kvs:List (List dn×V)} (e:H a=some (.dT kvs)):o_ K H (.ref a) (.type "dict")
 |ins {a C dx:Addr} {fs:List (Str×V)} (e:H a=some (.ins C dx fs)) (cl:Sj K C) (ha:PySem.W.findIn K (.ref C) "__class__"=some (some (.builtin "object.__class__")))
   (hn:PySem.W.specialIn K (.builtin "object.__class__") "__get__"=some (some (.builtin "getset_descriptor.__get__"))) (htk:PySem.W.takesIn K (.builtin "object.__class__")=some true)
   (hm:PySem.W.mroIn K C (.type "object")=some true):o_ K H (.ref a) (.ref C)
theorem CI{x:V}{u t:Value}(I:Inv X ac σ H s)(U:RelV x u)(ty:o_ X.K H x t)(e:PySem.W.kitOne X.K t c=some b)(h:∀tk,Q (.bool b) {s with toks:=tk}) :
  wpAny (model X.prog X.w) A (call (.builtin "isinstance") [u,c]) Q E s:=by
 cases ty with
 |non=>cases(show u=Value.none from U);exact PySem.W.kia_one PySem.W.kitx_none I.mY True.intro e (λz=>nomatch z) h
 |bl y=>cases(show u=Value.bool y from U);exact PySem.W.kia_one PySem.W.kitx_bool I.mY True.intro e (λz=>nomatch z) h
 |int i=>obtain⟨t,q⟩:=(show∃t,u=Value.int i t from U);cases q;exact PySem.W.kia_one PySem.W.kitx_int I.mY True.intro e (λz=>nomatch z) h
 |str y=>obtain⟨t,q⟩:=(show∃t,u=Value.str y t from U);cases q;exact PySem.W.kia_one PySem.W.kitx_str I.mY True.intro e (λz=>nomatch z) h
 |flt y=>obtain⟨t,q⟩:=(show∃t,u=Value.float y t from U);cases q;exact PySem.W.kia_one PySem.W.kitx_float I.mY True.intro e (λz=>nomatch z) h
 | @lst a xs ea =>cases(show u=Value.ref a from U);obtain⟨_,_,n,_,h1⟩:=(show cD X.prog X.w H s.heap a (.lst xs) from I.hok a _ ea);exact PySem.W.kia_one PySem.W.kitx_list I.mY ⟨_,h1,rfl⟩ e (λz=>nomatch z) h
 | @zk a ob xs ea =>cases(show u=Value.ref a from U);obtain⟨_,_,_,n,_,h1⟩:=(show cD X.prog X.w H s.heap a (.zk ob (.lst xs)) from I.hok a _ ea);exact PySem.W.kia_one PySem.W.kitx_list I.mY ⟨_,h1,rfl⟩ e (λz=>nomatch z) h
 | @tup a xs ea =>cases(show u=Value.ref a from U);obtain⟨_,_,_,p⟩:=(show cD X.prog X.w H s.heap a (.tup xs) from I.hok a _ ea);obtain⟨o,h1,h2,_⟩:=p;exact PySem.W.kia_one PySem.W.kitx_tuple I.mY ⟨o,h1,h2⟩ e (λz=>nomatch z) h
 | @dK a kvs ea =>cases(show u=Value.ref a from U);obtain⟨_,_,vs,_,p⟩:=(show cD X.prog X.w H s.heap a (.dK kvs) from I.hok a _ ea);obtain⟨o,es,ep,h1,h2,_⟩:=p;exact PySem.W.kia_one PySem.W.kitx_dict I.mY ⟨o,h1,h2.1⟩ e (λz=>nomatch z) h
 | @dT a kvs ea =>cases(show u=Value.ref a from U);obtain⟨_,_,xs,_,o,es,ep,h1,h2,_⟩:=(show cD X.prog X.w H s.heap a (.dT kvs) from I.hok a _ ea);exact PySem.W.kia_one PySem.W.kitx_dict I.mY ⟨o,h1,h2.1⟩ e (λz=>nomatch z) h
 | @ins a C dx fs ea cl ha hn htk hm =>cases(show u=Value.ref a from U);obtain⟨mA,O,_⟩:=IA I.hok ea;obtain⟨od,J,_⟩:=O.look;exact PySem.W.kia_one (PySem.W.kitx_own (cl.get _) cl.hd ha hn htk hm) I.mY J e (λz=>nomatch z) h
end
structure fV(k:Nat)(A:Around):Prop where
 hd:A.handled=none
 dp:A.depth+3*k+5<recursionLimit
 un:A.units+16*k+200<cLine
theorem fV.mono{j k:Nat}{A:Around}(r:fV k A)(h:j<=k):fV j A:=⟨r.hd,by have:=r.dp;omega,by have:=r.un;omega⟩
theorem fV.deeper{k:Nat}{A:Around}(r:fV (k+1) A)(env:Env):fV k (A.deeper env) :=
 ⟨r.hd,by have:=r.dp;show A.depth+1+3*k+5<_;omega,by have:=r.un;show A.units+3+16*k+200<_;omega⟩
theorem yK{A:Around}{C:Addr}{us:Z4}{z:List (Str×Value)}:(A.under (.builtin "type.__call__" ⟨.ref C::us,z⟩)).depth=A.depth+1:=by
 first|rfl|simp[Around.under,Code.weight,Code.isCreation,Code.isGuard,Code.isCaller,Code.frames,Code.isFrame,guardIds]
theorem Ab{A:Around}{C:Addr}{us:Z4}{z:List (Str×Value)}:(A.under (.builtin "type.__call__" ⟨.ref C::us,z⟩)).units=A.units+1:=by
 first|rfl|simp[Around.under,Code.cUnits,Code.frames,Code.isFrame]
theorem fV.make{k:Nat}{A:Around}(r:fV (k+1) A)(C:Addr)(us:Z4)(z:List (Str×Value)):fV k (A.under (.builtin "type.__call__" ⟨.ref C::us,z⟩)) :=
 ⟨r.hd,by have:=r.dp;rw[yK];omega,by have:=r.un;rw[Ab];omega⟩
theorem fV.depth{k:Nat}{A:Around}(r:fV k A):A.depth<recursionLimit:=by have:=r.dp;omega
theorem fV.units{k:Nat}{A:Around}(r:fV k A):A.units+64<cLine:=by have:=r.un;omega
def ll:TA:=λ_ H Q=>Q [] H
def c6(ta:TE)(tr:TA):TA:=λσ H Q=>ta σ H λx H1=>tr σ H1 λxs H2=>Q (x::xs) H2
section
variable{X:Cx}{e:Expr}{es:List Expr}{te:TE}{t:TA}{pos:Pos}
theorem ag:PA X [] ll:=λ_ _ _ _ H Q I h=>Calls.spliced_nil ⟨[],H,I,.nil,h⟩
theorem aa(ha:PE X e te)(z:PA X es t)(hs:starEach (e::es) X.env=(false,eval e X.env)::starEach es X.env:=by rfl):PA X (e::es) (c6 te t):=by intro pos ac s σ H Q I h;rw[hs];show wpAny _ _ (spliced ((false,eval e X.env)::backTo pos (starEach es X.env))) _ _ s;refine Calls.spliced_cons (cu (ha ac s σ H _ I h) λu s1 O=>?_);obtain⟨x,H1,I1,U,q1⟩:=O;exact cu (z pos ac s1 σ H1 _ I1 q1) λus s2 ⟨xs,H2,I2,r2,q2⟩=>⟨x::xs,H2,I2,.cons U r2,q2⟩
def B5(t:TA):TE:=λσ H Q=>t σ H λxs H1=>xs.length<=sizeLine/\∀p,H1 p=none->Q (.ref p) (upd H1 p (.tup xs))
def LJ(t:TA):TE:=λσ H Q=>t σ H λxs H1=>xs.length<=sizeLine/\∀p,H1 p=none->Q (.ref p) (upd H1 p (.lst xs))
theorem aW{x1}(h:PA X es t):PE X (.Tuple es x1 pos) (B5 t):=by intro ac s σ H Q I U;refine wpAny_Tuple_spliced (cu (h pos ac s σ H _ I U) λus s1 ⟨xs,H1,O,r,z,q⟩=>⟨by rw[←r.length];exact z,?_⟩);have hf:H1 s1.heap.objs.size=none:=O.hok.fresh (X5 _);refine⟨.ref s1.heap.objs.size,upd H1 s1.heap.objs.size (.tup xs),O.laid (t':=s1.toks) (λb u e=>X2 _ e) (X5 _) ?_,rfl,q _ hf⟩;exact⟨z,us,r,⟨_,X4 _ rfl,rfl,⟨_,rfl⟩,rfl⟩⟩
theorem bw(h:PA X es t):PE X (.List es pos) (LJ t):=by intro ac s σ H Q I U;refine wpAny_List_spliced (cu (h pos ac s σ H _ I U) λus s1 ⟨xs,H1,O,r,z,q⟩=>⟨by rw[←r.length];exact z,?_⟩);have hf:H1 s1.heap.objs.size=none:=O.hok.fresh (X5 _);refine⟨.ref s1.heap.objs.size,upd H1 s1.heap.objs.size (.lst xs),O.laid (t':=s1.toks) (λb u e=>X2 _ e) (X5 _) ?_,rfl,q _ hf⟩;exact⟨z,us,0,r,X4 _ rfl⟩
end
abbrev Sp:=List V->Hp->VK->XK->Prop
abbrev sQ:=List Env->Hp->Shared->XK->nT
structure yU(P:Program)(w:World)(K:YY)(mg:Z0)(base:Heap)(A:Around)(outer:List Env)(s:Shared)(H:Hp):Prop where
 frames:A.frames=some outer
 mod:Mod K mg base
 bs:∀b o,base.get? b=some o->s.heap.get? b=some o/\H b=none
 I0:base.objs.size<=s.heap.objs.size
 qB:s.heap.FunFrames base outer
 MY:∀b∈frs outer,H b=none
 hok:ky P w H s.heap
 bare:AllBare s.gens
def CE(outer:List Env)(P:Program)(w:World)(H:Hp)(s:Shared)(Q:VK)(u:Value)(s':Shared):Prop :=
 ∃v H',s'.os=s.os/\AllBare s'.gens/\Un (frs outer) [] H H' s.heap s'.heap/\ky P w H' s'.heap/\RelV v u/\Q v H'
def CR(CX:sQ)(outer:List Env)(P:Program)(w:World)(H:Hp)(s:Shared)(Q:VK)(E:XK)(r:Result)(s':Shared):Prop :=
 match r with
 | .ok (.ret u)=>CE outer P w H s Q u s'
 | .ok _=>False
 | .error e=>CX outer H s E e s'
structure f_(P:Program)(w:World)(K:YY)(mg:Z0)(base:Heap)(CX:sQ)(k:Nat)(f:Addr)(fd:FuncData)(ps:List Str)(sp:Sp):Prop where
 len:∀vs H Q E,sp vs H Q E->vs.length=ps.length
 run:∀(A:Around)(outer:List Env)(s:Shared)(H:Hp)(args:Args)(us:Z4)(vs:List V)(Q:VK)(E:XK),fV k A->yU P w K mg base A outer s H->BindsTo s fd args (ps.zip us)->Vals vs us->sp vs H Q E->
  codeAny (model P w) A (.call (.ref f) args) (CR CX outer P w H s Q E) s
theorem f_.mono{P:Program}{w:World}{K:YY}{mg:Z0}{base:Heap}{CX:sQ}{j k:Nat}{f:Addr}{fd:FuncData}{ps:List Str}{sp:Sp}(F:f_ P w K mg base CX j f fd ps sp)(h:j<=k) :
  f_ P w K mg base CX k f fd ps sp:=⟨F.len,λA outer s H args us vs Q E z=>F.run A outer s H args us vs Q E (z.mono h)⟩
theorem f_.imp{P:Program}{w:World}{K:YY}{mg:Z0}{base:Heap}{CX:sQ}{k:Nat}{f:Addr}{fd:FuncData}{ps:List Str}{sp z:Sp}(F:f_ P w K mg base CX k f fd ps sp)
  (h:∀vs H Q E,z vs H Q E->sp vs H Q E):f_ P w K mg base CX k f fd ps z :=
 ⟨λvs H Q E q=>F.len vs H Q E (h _ _ _ _ q),λA outer s H args us vs Q E U he O hv hs=>F.run A outer s H args us vs Q E U he O hv (h _ _ _ _ hs)⟩
theorem yU.make{P:Program}{w:World}{K:YY}{mg:Z0}{base:Heap}{A:Around}{outer:List Env}{s:Shared}{H:Hp}(e:yU P w K mg base A outer s H)(C:Addr)(us:Z4)(z:List (Str×Value)) :
  yU P w K mg base (A.under (.builtin "type.__call__" ⟨.ref C::us,z⟩)) outer s H:=⟨by first|exact e.frames | (simpa[Around.under,Code.envs,Code.isFrame,pushEnvs] using e.frames),e.mod,e.bs,e.I0,e.qB,e.MY,e.hok,e.bare⟩
section
variable{X:Cx}{ac:eN}{σ:St}{H:Hp}{s s':Shared}
theorem Inv.env0(I:Inv X ac σ H s):yU X.prog X.w X.K X.mg X.base X.A X.stack s H :=
 ⟨I.ok.frames,I.ok.mod,I.bs,X6 I.ok.I0 I.sz,I.stack,I.qH,I.hok,I.bare⟩
theorem Inv.after{Q:VK}{u:Value}(I:Inv X ac σ H s)(h:CE X.stack X.prog X.w H s Q u s'):EP X ac σ Q u s':=by obtain⟨v,H',os,bare,un,hok,r,q⟩:=h;obtain⟨hh,g,d,t,O⟩:=s';obtain rfl:O=s.os:=os;exact⟨v,H',I.call (h':=hh) (g':=g) (d':=d) (t':=t) (ch:=[]) un hok bare (λb z=>YE z (by simp)),r,q⟩
end
def lj(sp:Sp)(JH:List V)(E:XK)(t:TA):TE:=λσ H Q=>t σ H λvs H1=>sp (vs++JH) H1 Q E
def Binds(K:YY)(fd:FuncData)(ps:List Str)(ds:Z4):Prop :=
 ∀(s:Shared)(us:Z4),K.In s.heap->(us++ds).length=ps.length->BindsTo s fd ⟨us,[]⟩ (ps.zip (us++ds))
theorem Binds.all{K:YY}{fd:FuncData}{ps:List Str}(h:∀us:Z4,us.length=ps.length->bindArgs fd ⟨us,[]⟩=pure (ps.zip us)):Binds K fd ps []:=λs us _ z=>by rw[YO]at z⊢;exact .of_eq (h us z)
def Passes(CX:sQ)(X:Cx)(E:XK):Prop:=∀(ac:eN)(σ:St)(H:Hp)(s:Shared)(e:Value)(s':Shared),Inv X ac σ H s->CX X.stack H s E e s'->X.xe e s'
section
variable{X:Cx}{CX:sQ}{k:Nat}{f C:Addr}{fd:FuncData}{ps:List Str}{sp:Sp}{JH:List V}{ds:Z4}{E:XK}{x m:Str}{p pos apos:Pos}{e o:Expr}{es:List Expr}{ta:TE}{t:TA}
theorem FT{ac:eN}{σ:St}{H:Hp}{s:Shared}{Q:VK}{us:Z4}{vs:List V}(F:f_ X.prog X.w X.K X.mg X.base CX k f fd ps sp)(U:fV k X.A)(hb:Binds X.K fd ps ds)(hd:Vals JH ds)(hx:Passes CX X E)
  (I:Inv X ac σ H s) (r:Vals vs us) (h:sp (vs++JH) H Q E):wpAny (model X.prog X.w) X.A (call (.ref f) us) (EP X ac σ Q) X.xe s:=by
 have O:Vals (vs++JH) (us++ds):=r.append hd;have hl:(us++ds).length=ps.length:=by rw[←O.length];exact F.len _ _ _ _ h
 refine wpAny_call (codeAny_mono (F.run X.A X.stack s H ⟨us,[]⟩ (us++ds) (vs++JH) Q E U I.env0 (hb s us I.mY hl) O h) λr s' z=>?_);cases r with
 |error e=>exact hx ac σ H s e s' I z
 |ok fl =>
  cases fl with
  |ret u=>exact I.after z
  |next=>exact YK z
  |brk=>exact YK z
  |cont=>exact YK z
theorem Jv(F:f_ X.prog X.w X.K X.mg X.base CX k f fd ps sp)(hr:fV k X.A)(hg:Gl X x)(hm:X.mg x=some (.ref f))(hk:PySem.W.keepIn X.K (.ref f)=true)(hb:Binds X.K fd ps ds)(hd:Vals JH ds)(hx:Passes CX X E)
  (ha:PA X (e::es) t) (z:(x==("__debug__" : Str))=false:=by decide) (he:starEach (e::es) X.env=(false,eval e X.env)::starEach es X.env:=by rfl) (O:(backTo pos (starEach es X.env)).any (·.1)=false:=by rfl) :
  PE X (.Call (.Name x p) (e::es) [] pos) (lj sp JH E t):=by
 intro ac s σ H Q I h;refine wpAny_Call_Name_kw (qG I hg hm ?_ z);refine PySem.W.callWith_K (h₀:=X.base) I.ok.mod.Lk hk (cu (ha pos ac s σ H _ I h) λus s1 ⟨vs,H1,U,r,q⟩=>⟨U.mY,?_⟩) he O;exact FT F hr hb hd hx U r q
end
structure ax(N P:List Str)(sc:Scope):Prop where
 kind:sc.kind=.function
 co:sc.isCoroutine=false
 gen:sc.isGenerator=false
 nd:N.Nodup
 pre:N.take P.length=P
 par:∀x∈P,sc.names.lookup x=some .local\/sc.names.lookup x=some .cell
 LF:∀y∈sc.names,y.2≠ .free
theorem uE{kindOf:Str->Option NameKind}{x:Str}:∀{binds:List (Str×Value)}{m:Z0},(∀v,(x,v)∉binds)->bindL kindOf binds m x=m x
 |[],_,_=>rfl
 | (n,v)::r,m,h=>by
  unfold bindL;rw[uE λw z=>h w (Yg _ z)];split
  ·have:x≠n:=by rintro rfl;exact h v YA
   simp[this]
  ·rfl
theorem ub{kindOf:Str->Option NameKind}{x:Str}:∀{binds:List (Str×Value)}{m:Z0},(∀v,(x,v)∉binds)->bindC kindOf binds m x=m x
 |[],_,_=>rfl
 | (n,v)::r,m,h=>by
  unfold bindC;rw[ub λw z=>h w (Yg _ z)];split
  ·rfl
  ·have:x≠n:=by rintro rfl;exact h v YA
   simp[this]
theorem ue{kindOf:Str->Option NameKind}{x:Str}{v:Value}:∀{P:List Str}{vs:Z4}{i:Nat}{m:Z0},P.Nodup->P[i]? = some x->vs[i]? = some v->kindOf x=some .local->
  bindL kindOf (P.zip vs) m x=some v
 |[],_,_,_,_,h,_,_=>by simp at h
 |_::_,[],_,_,_,_,h,_=>by simp at h
 |p::P,w::vs,0,m,nd,h1,h2,hk=>by simp at h1 h2;subst h1;subst h2;show bindL kindOf ((p,w)::P.zip vs) m p=_;unfold bindL;rw[uE λv hv=>(List.nodup_cons.mp nd).1 (List.of_mem_zip hv).1,YG hk];simp
 |p::P,w::vs,i+1,m,nd,h1,h2,hk=>by show bindL kindOf ((p,w)::P.zip vs) m x=_;unfold bindL;exact ue (i:=i) (List.nodup_cons.mp nd).2 (by simpa using h1) (by simpa using h2) hk
theorem uj{kindOf:Str->Option NameKind}{x:Str}{v:Value}:∀{P:List Str}{vs:Z4}{i:Nat}{m:Z0},P.Nodup->P[i]? = some x->vs[i]? = some v->kindOf x≠some .local->
  bindC kindOf (P.zip vs) m x=some v
 |[],_,_,_,_,h,_,_=>by simp at h
 |_::_,[],_,_,_,_,h,_=>by simp at h
 |p::P,w::vs,0,m,nd,h1,h2,hk=>by simp at h1 h2;subst h1;subst h2;show bindC kindOf ((p,w)::P.zip vs) m p=_;unfold bindC;rw[ub λv hv=>(List.nodup_cons.mp nd).1 (List.of_mem_zip hv).1,YF hk];simp
 |p::P,w::vs,i+1,m,nd,h1,h2,hk=>by show bindC kindOf ((p,w)::P.zip vs) m x=_;unfold bindC;exact uj (i:=i) (List.nodup_cons.mp nd).2 (by simpa using h1) (by simpa using h2) hk
def start(N:List Str)(vs:List V):St:=vs.map some++List.replicate (N.length-vs.length) none
def tK(CX:sQ)(P:Program)(w:World)(K:YY)(mg:Z0)(base:Heap)(N:List Str)(qual:Str)(scope:Scope)(f:Addr)(cd:Value)(A:Around)(outer:List Env)(s:Shared)(H:Hp)(E:XK):Cx where
 prog:=P
 w:=w
 K:=K
 mg:=mg
 base:=base
 A:=A.deeper (envOfC qual scope s.heap.objs.size f cd)
 N:=N
 s₀:=s
 H₀:=H
 env:=envOfC qual scope s.heap.objs.size f cd
 outer:=outer
 stack:=envOfC qual scope s.heap.objs.size f cd::outer
 ex:=[]
 calm:=true
 fn:=λ_=>true
 pn:=[]
 xe:=λe s'=>wpAny (model P w) (A.deeper (envOfC qual scope s.heap.objs.size f cd)) (leaving (envOfC qual scope s.heap.objs.size f cd) e) (λ_ z=>CX outer H s E e z) (λO z=>CX outer H s E O z) s'
theorem w6{sc:Scope}{n:Nat}{x:Str}(h:sc.names.lookup x=some .cell):∃c,(cellsFrom n sc.names []).lookup x=some c:=by have q:=PySem.W.cellsFrom_some sc.names n [] (.inl h);exact Option.isSome_iff_exists.mp q
theorem B1{CX:sQ}{P:Program}{w:World}{K:YY}{mg:Z0}{base:Heap}{N ps:List Str}{qual:Str}{scope:Scope}{f:Addr}{cd:Value}{A:Around}{outer:List Env}{s s1:Shared}{H:Hp}{E:XK}{us:Z4}{vs:List V}
  (S:ax N ps scope) (hd:A.handled=none) (e0:yU P w K mg base A outer s H) (hl:vs.length=ps.length) (r:Vals vs us)
  (x:InCallC s s.heap.objs.size (bindL (envOfC qual scope s.heap.objs.size f cd).kindOf (ps.zip us) λ_=>none) (cellsFrom (s.heap.objs.size+1) scope.names []) (bindC (envOfC qual scope s.heap.objs.size f cd).kindOf (ps.zip us) λ_=>none) s1) :
  Inv (tK CX P w K mg base N qual scope f cd A outer s H E) [] (start N vs) H s1:=by
 have hpl:ps.length<=N.length:=by have:=congrArg List.length S.pre;rw[Yv]at this;omega
 obtain⟨h1,tk,rfl,hk⟩:=x.done;have Nr:∀b:Addr,b∉(tK CX P w K mg base N qual scope f cd A outer s H E).ex:=λb z=>YE (show b∈([]:Z6) from z) (by simp);refine⟨⟨e0.mod,S.kind,rfl,rfl,X5 _,λy z c h1 h2=>?_,λy O=>?_,λy c _ h=>?_,λ_=>hd,Around.frames_deeper e0.frames,.inr ⟨rfl,rfl⟩,λb z=>YE z (Nr b),e0.bs,e0.I0,λb _ _=>Nr b,λb z=>YE z (Nr b),e0.qB,e0.MY⟩,
  rfl,e0.bare,Un.kept hk,⟨_,x.toInCall.ns,λi y v h1 h2 h3=>?_⟩,λy c h=>⟨_,x.cell y c h⟩,e0.hok.fresh (X5 _),λy c h=>?_,λp U=>YE (show p∈([]:eN) from U) (by simp),e0.hok.kept hk,?_⟩
 ·exact name_of_addr x.apart (PySem.mem_of_lookup h1) (PySem.mem_of_lookup h2)
 ·have O:scope.names.lookup y=some .cell\/scope.names.lookup y=some .free:=O;rcases O with O|O
  ·exact w6 O
  ·exact YE rfl (S.LF _ (PySem.mem_of_lookup O))
 ·exact Nat.le_of_lt (x.above y c (PySem.mem_of_lookup h))
 ·have hi:i<vs.length:=by
   unfold start at h2;by_cases hi:i<vs.length
   ·exact hi
   ·rw[Ys (by simpa using hi)]at h2;rw[List.getElem?_replicate]at h2;split at h2<;>cases h2
  have ha:vs[i]? = some v:=by
   unfold start at h2;rw[Yt (by simpa using hi),Yu]at h2;cases e:vs[i]? with
   |none=>rw[e]at h2;cases h2
   |some a=>rw[e]at h2;cases h2;rfl
  obtain⟨u,hu,rv⟩:=r.get ha;have U:ps[i]? = some y:=by rw[←S.pre,List.getElem?_take_of_lt (by omega)];exact h1
  have UA:ps.Nodup:=by rw[←S.pre];exact S.nd.sublist (List.take_sublist _ _)
  refine⟨u,rv,?_⟩;rcases S.par y (Yf U)with k|k
  ·exact .inl ⟨k,ue UA U hu k⟩
  ·obtain⟨c,e⟩:=w6 (n:=s.heap.objs.size+1) k;refine .inr ⟨.inl k,c,e,?_⟩;have q:=x.cell y c e;rw[uj UA U hu (by show scope.names.lookup y≠_;rw[k];decide)]at q;exact q
 ·exact e0.hok.fresh (Nat.le_of_lt (x.above y c (PySem.mem_of_lookup h)))
 ·unfold start;show _=N.length;rw[X_,X9,List.length_replicate];omega
theorem JG{CX:sQ}{P:Program}{w:World}{K:YY}{mg:Z0}{base:Heap}{k:Nat}{f:Addr}{name qual:Str}{z:Arguments}{body:List Stmt}{scope:Scope}{dV kV doc pm cdv ct oc:Value}{an od:Option Addr}
  {osl:Array (Z5)} {N ps:List Str} {sp:Sp} (lk:K.lookup f=some ⟨oc,od,.func (PySem.W.fnOf name qual z body scope dV kV doc pm an cdv ct),osl⟩) (hcd:PySem.W.codeIn K cdv qual=true) (S:ax N ps scope)
  (len:∀vs H Q E,sp vs H Q E->vs.length=ps.length)
  (O:∀(A:Around)(outer:List Env)(s:Shared)(H:Hp)(vs:List V)(Q:VK)(E:XK),fV k (A.deeper (envOfC qual scope s.heap.objs.size f cdv))->sp vs H Q E->
   ∃t,uA (tK CX P w K mg base N qual scope f cdv A outer s H E) body t/\t {nx:=λ_ H'=>Q .non H',rt:=Q} (start N vs) H) :
  f_ P w K mg base CX (k+1) f (PySem.W.fnOf name qual z body scope dV kV doc pm an cdv ct) ps sp:=by
 refine⟨len,λA outer s H args us vs Q E hr e0 hb r hsp=>?_⟩;have hl:=len _ _ _ _ hsp;have KX:K.In s.heap:=e0.mod.Lk.keeps λb o e=>(e0.bs b o e).1;have lim:s.heap.NoLimit:=e0.mod.nolimit.keeps λb o e=>(e0.bs b o e).1;have U:∀y∈ps.zip us,scope.names.lookup y.1=some .local\/(scope.names.lookup y.1=some .cell/\((cellsFrom (s.heap.objs.size+1) scope.names []).lookup y.1).isSome=true):=λ⟨n,v⟩ hy=>by
  rcases S.par n (List.of_mem_zip hy).1 with q|q
  ·exact .inl q
  ·exact .inr ⟨q,PySem.W.cellsFrom_some _ _ _ (.inl q)⟩
 refine codeAny_call_function hr.depth (KX _ _ lk) rfl S.co S.gen rfl (PySem.W.codeRec_of KX hcd) (hb _ _ _ _ ?_);refine wpAny_newFunctionEnv_cells S.kind U λenv he s1 x=>?_;subst he;refine⟨lim.keeps x.toInCall.keep,codeAny_func ?_⟩;obtain⟨t,ht,hq⟩:=O A outer s H vs Q E (hr.deeper _) hsp;have I:Inv (tK CX P w K mg base N qual scope f cdv A outer s H E) [] (start N vs) H s1:=B1 S hr.hd e0 hl r x;refine Yx (ht [] s1 (start N vs) H _ I hq) (λfl s' hs=>?_) λe s' hs=>hs;have fin:∀{σ':St}{H':Hp}{v:V}{u:Value},Inv (tK CX P w K mg base N qual scope f cdv A outer s H E) [] σ' H' s'->RelV v u->Q v H'->CE outer P w H s Q u s' :=
  λ{σ' H' v u} J rv q=>⟨v,H',J.os,J.bare,J.base,J.hok,rv,q⟩
 cases fl with
 |ret u =>obtain⟨v,σ',H',J,rv,q⟩:=hs;exact fin J rv q
 |next =>obtain⟨σ',H',J,q⟩:=hs;exact fin (v:=V.non) (u:=Value.none) J rfl q
 |brk =>obtain⟨_,_,_,q⟩:=hs;exact YK q
 |cont =>obtain⟨_,_,_,q⟩:=hs;exact YK q
section
variable{X:Cx}{x:Str}{p pos:Pos}{e:Expr}{es:List Expr}{t:TA}{id T:String}{r:List V->Hp->VK->Prop}
def P4(r:List V->Hp->VK->Prop)(t:TA):TE:=λσ H Q=>t σ H λvs H1=>r vs H1 Q
theorem aP(hc:gJ X (.builtin id) r)(hg:Gl X x)(hm:X.mg x=none)(hv:bootBuiltins x=some (.builtin id))(ha:PA X (e::es) t)(hn:x≠"__name__":=by decide)(z:(x==("__debug__" : Str))=false:=by decide)
  (U:starEach (e::es) X.env=(false,eval e X.env)::starEach es X.env:=by rfl) (O:(backTo pos (starEach es X.env)).any (·.1)=false:=by rfl):PE X (.Call (.Name x p) (e::es) [] pos) (P4 r t):=by
 intro ac s σ H Q I h;refine wpAny_Call_Name_kw (jT I hg hm hv ?_ hn z);exact PyProof.Rows.callWith_builtin1 (cu (ha pos ac s σ H _ I h) λus s1 ⟨vs,H1,I1,r1,q1⟩=>hc ac s1 σ H1 vs us Q I1 r1 q1) U O
theorem bA(hc:gJ X (.type T) r)(hg:Gl X x)(hm:X.mg x=none)(hv:bootBuiltins x=some (.type T))(ha:PA X (e::es) t)(hn:x≠"__name__":=by decide)(z:(x==("__debug__" : Str))=false:=by decide)
  (U:starEach (e::es) X.env=(false,eval e X.env)::starEach es X.env:=by rfl) (O:(backTo pos (starEach es X.env)).any (·.1)=false:=by rfl):PE X (.Call (.Name x p) (e::es) [] pos) (P4 r t):=by
 intro ac s σ H Q I h;refine wpAny_Call_Name_kw (jT I hg hm hv ?_ hn z);exact PyProof.Rows.callWith_type1 (cu (ha pos ac s σ H _ I h) λus s1 ⟨vs,H1,I1,r1,q1⟩=>hc ac s1 σ H1 vs us Q I1 r1 q1) U O
end
end L2
namespace HT
open PySem PyProof.Rows
section
variable{prog:Program}{w:World}{A:Around}{E:nT}{s:Shared}
theorem Jg{t b:Addr}{vs ws:Z4}{Q:nT}(ht:IsTup s.heap t vs.toArray)(hb:IsTup s.heap b ws.toArray)(hv:vs≠[])
  (h1:ws=[]->Q (.ref t) s) (h2:ws≠[]->Q (.ref s.heap.objs.size) {s with heap:=s.heap.push {cls:=.type "tuple",data:=.seq (vs++ws).toArray}})
  (hsz:vs.length+ws.length<=sizeLine):wpAny (model prog w) A (binaryOp .Add (.ref t) (.ref b)) Q E s:=by
 obtain⟨⟨cls,dd,data,sl⟩,ho,hc,n,hd⟩:=id ht;obtain⟨⟨cls2,dd2,data2,sl2⟩,z,U,n2,O⟩:=id hb;simp only at hc hd U O;subst hc hd U O;have e:vs.toArray++ws.toArray=(vs++ws).toArray:=by simp
 by_cases hw:ws=[]
 ·exact concat_meets ⟨_,ho,rfl⟩ ⟨_,z,rfl⟩ noFill_tuple_add seq_tuple_add PySem.F.slot_tuple_add PySem.F.entry_tuple_add (PySem.F.args_tuple_add_2 _ _)
   (tuple_addW1 t b vs.toArray ws.toArray n n2 dd dd2 sl sl2 (by simpa using hv) (by simp[hw])) ⟨ho,z,h1 hw⟩
 ·refine concat_meets ⟨_,ho,rfl⟩ ⟨_,z,rfl⟩ noFill_tuple_add seq_tuple_add PySem.F.slot_tuple_add PySem.F.entry_tuple_add (PySem.F.args_tuple_add_2 _ _)
   (tuple_addW2 t b vs.toArray ws.toArray n n2 dd dd2 sl sl2 (by simpa using hv) (by simpa using hw) (by rw[Yi,Yi];exact hsz)) ⟨ho,z,?_⟩
  rw[e];exact h2 hw
def fc(n d:Nat):Option Int->Nat
 |none=>d
 |some v=>if v<0 then(v+(n:Int)).toNat else min v.toNat n
theorem wF(n d:Nat):fc n d none=d:=rfl
theorem Be(n d k:Nat):fc n d (some (k:Int))=min k n:=by show(if(k:Int)<0 then((k:Int)+(n:Int)).toNat else min (k:Int).toNat n)=min k n;rw[YF (by omega),Int.toNat_natCast]
theorem KD(n d:Nat)(hd:d<=n)(o:Option Int):fc n d o<=n:=by
 cases o with
 |none=>exact hd
 |some v =>
  show(if v<0 then(v+(n:Int)).toNat else min v.toNat n)<=n;by_cases hv:v<0
  ·rw[YG hv];omega
  ·rw[YF hv];exact Nat.min_le_right _ _
theorem Bv(v:Int)(n d:Nat):(if v<0 then max (v+(n:Int)) 0 else min v (n:Int))=((fc n d (some v):Nat):Int):=by
 show(if v<0 then max (v+(n:Int)) 0 else min v (n:Int))=(((if v<0 then(v+(n:Int)).toNat else min v.toNat n):Nat):Int);by_cases hv:v<0
 ·simp only[YG hv];omega
 ·simp only[YF hv];omega
theorem Au(lo hi:Option Int)(n:Nat):Builtin.Slice.sliceAdjust lo hi 1 (n:Int)=(((fc n 0 lo:Nat):Int),((fc n n hi:Nat):Int)):=by
 have h1:¬((1:Int)<0):=by omega
 unfold Builtin.Slice.sliceAdjust;simp only[h1,if_false];refine Prod.ext ?_ ?_
 ·cases lo with
  |none=>rfl
  |some v=>exact Bv v n 0
 ·cases hi with
  |none=>rfl
  |some v=>exact Bv v n n
theorem zQ(i j:Nat):Builtin.Slice.slicePlaces (i:Int) (j:Int) 1=j-i:=by
 unfold Builtin.Slice.slicePlaces;have h1:(1:Int) > 0:=by omega
 simp only[h1,if_true,Int.ediv_one];split<;>omega
theorem r_{v:Value}{o:Option Int}{Q:Option Int->Shared->Prop}(p:IsPart v o)(h:Q o s):wpAny (model prog w) A (Builtin.Slice.slicePartIndex v) Q E s:=by
 cases p with
 |none=>exact slicePart_none h
 |int i t=>exact slicePart_int h
theorem ju{sl:Addr}{U vu:Value}{lo hi:Option Int}{n:Nat}{Q:Int×Int×Nat->Shared->Prop}(hs:s.heap.IsSliceOf sl U vu .none)(pl:IsPart U lo)(pu:IsPart vu hi)
  (h:Q (((fc n 0 lo:Nat):Int),1,fc n n hi-fc n 0 lo) s):wpAny (model prog w) A (Builtin.Slice.sliceApplied (.ref sl) (pure (n:Int))) Q E s:=by
 obtain⟨os,z,hcs,O⟩:=id hs;unfold Builtin.Slice.sliceApplied Builtin.Slice.sliceFields;refine X0 (X0 (wpAny_field z O (x:=U) rfl (X0 (wpAny_field z O (x:=vu) rfl (X0 (wpAny_field z O (x:=.none) rfl (X1 ?_)))))));refine X0 (slicePart_none ?_);show wpAny _ _ (if((1:Int)==0)=true then _ else _) _ _ s;rw[YF (by decide)];refine X0 (r_ pl (X0 (r_ pu (X0 (X1 ?_)))));show wpAny _ _ (match Builtin.Slice.sliceAdjust lo hi 1 (n:Int)with | (lo,hi)=>pure (lo,(1:Int),Builtin.Slice.slicePlaces lo hi 1)) _ _ s;rw[Au lo hi n];show wpAny _ _ (pure (((fc n 0 lo:Nat):Int),(1:Int),Builtin.Slice.slicePlaces ((fc n 0 lo:Nat):Int) ((fc n n hi:Nat):Int) 1)) _ _ s;rw[zQ];exact X1 h
theorem EY(xs:Array Value)(i k:Nat):((List.range k).filterMap λ(m:Nat)=>xs[((i:Int)+(m:Int)*1).toNat]?).toArray=((xs.toList.drop i).take k).toArray:=by
 have e:(λ(m:Nat)=>xs[((i:Int)+(m:Int)*1).toNat]?) = λm=>xs[i+m]?:=by
  funext m;have:((i:Int)+(m:Int)*1).toNat=i+m:=by omega
  rw[this]
 rw[e];have:=pick_run xs i k;rw[List.filterMap_map]at this;have z:((λx=>xs[x]?)∘ λx=>i+x) = λm=>xs[i+m]?:=rfl;rw[z]at this;rw[this]
theorem oP{t sl:Addr}{items:Array Value}{vl vu:Value}{lo hi:Option Int}{Q:nT}(O:IsTup s.heap t items)(hs:s.heap.IsSliceOf sl vl vu .none)(pl:IsPart vl lo)(pu:IsPart vu hi)
  (hw:¬(fc items.size 0 lo=0/\fc items.size items.size hi=items.size))
  (h:Q (.ref s.heap.objs.size) {s with heap:=s.heap.push {cls:=.type "tuple",data:=.seq ((items.toList.drop (fc items.size 0 lo)).take (fc items.size items.size hi-fc items.size 0 lo)).toArray}})
  (hsz:items.size<=sizeLine):wpAny (model prog w) A (getItem (.ref t) (.ref sl)) Q E s:=by
 have z:sizeOk (.seq ((items.toList.drop (fc items.size 0 lo)).take (fc items.size items.size hi-fc items.size 0 lo)).toArray):=by show((items.toList.drop (fc items.size 0 lo)).take (fc items.size items.size hi-fc items.size 0 lo)).toArray.size<=sizeLine;rw[Yi,Yv,List.length_drop,YU];omega
 have hj:fc items.size items.size hi<=items.size:=KD _ _ (X5 _) hi;obtain⟨os,hos,hcs,hds⟩:=id hs;have hTs:s.TypeIs (.ref sl) "slice":=⟨os,hos,hcs⟩;unfold getItem;try with_reducible refine Yy ?_
 first|refine X0 (X1 ?_)|skip
 refine X0 (wpAny_sequenceKey O.typeIs (by decide) ?_);refine X0 (wpAny_callSpecial?_slot (name:=Str.ofString "__getitem__") O.typeIs PyProof.Rows.slot_tuple_getitem
  (YQ PyProof.Rows.slot_tuple_getitem O.typeIs entry_tuple_getitem ?_ (args_tuple_getitem _ _)))
 show wpAny _ _ (Builtin.Tuple.tupleItemsOf (.ref t) >>= _) _ _ s;refine X0 (tupleItemsOf_ O ?_);refine X0 (wpAny_typeOf hTs ?_);rw[YG (by decide)];refine X0 (ju hs pl pu ?_);have U:¬((((fc items.size 0 lo:Nat):Int)==0&&(1:Int)==1&&(fc items.size items.size hi-fc items.size 0 lo)==items.size)=true):=by intro q;rw[YC,YC]at q;have q1:((fc items.size 0 lo:Nat):Int)=0:=eq_of_beq q.1.1;have q2:fc items.size items.size hi-fc items.size 0 lo=items.size:=eq_of_beq q.2;exact hw ⟨by omega,by omega⟩
 show wpAny _ _ (if(((fc items.size 0 lo:Nat):Int)==0&&(1:Int)==1&&(fc items.size items.size hi-fc items.size 0 lo)==items.size)=true then _ else _) _ _ s;rw[YF U,EY];first
  |exact X0 (m:=Builtin.Tuple.tupleExact _) (Yz (X1 ⟨_,rfl,X1 h⟩) z)
  |exact X0 (m:=Builtin.Tuple.tupleExact _) (Yz (X0 (X1 (X1 ⟨_,rfl,X1 h⟩))) z)
  |exact X0 (X0 (m:=Builtin.Tuple.tupleExact _) (Yz (X1 (X1 ⟨_,rfl,X1 h⟩)) z))
  |exact X0 (X0 (m:=Builtin.Tuple.tupleExact _) (Yz (X1 ⟨_,rfl,X1 h⟩) z))
end
end HT
namespace L2
open PySem PySem.Spec PyProof.Rows
abbrev TO:=St->Hp->(Option Int->Hp->Prop)->Prop
def PO(X:Cx)(e:Option Expr)(t:TO):Prop :=
 ∀(ac:eN)(s:Shared)(σ:St)(H:Hp)(Q:Option Int->Hp->Prop),Inv X ac σ H s->t σ H Q->
  wpAny (model X.prog X.w) X.A (evalPart e X.env) (λu s'=>∃o H',Inv X ac σ H' s'/\IsPart u o/\Q o H') X.xe s
def Ho:TO:=λ_ H Q=>Q none H
def PC(t:TE):TO:=λσ H Q=>t σ H λx H1=>∃i,x=.int i/\Q (some i) H1
section
variable{X:Cx}{e:Expr}{te:TE}{lo hi:Option Expr}{tl th:TO}{pos p2:Pos}
theorem fX:PO X none Ho:=by intro ac s σ H Q I h;rw[evalPart_none];exact X1 ⟨none,H,I,.none,h⟩
theorem dQ(h:PE X e te):PO X (some e) (PC te):=by intro ac s σ H Q I hw;rw[evalPart_some];refine cu (h ac s σ H _ I hw) λu s1 z=>?_;obtain⟨x,H1,U,O,q1⟩:=z;obtain⟨i,rfl,q⟩:=q1;obtain⟨t,rfl⟩:=O;exact⟨some i,H1,U,.int i t,q⟩
def Hj(X:Cx)(r:V->Option Int->Option Int->Hp->VK->Prop):Prop :=
 ∀(ac:eN)(s:Shared)(σ:St)(H:Hp)(x:V)(v z O:Value)(lo hi:Option Int)(sl:Addr)(Q:VK),Inv X ac σ H s->RelV x v->s.heap.IsSliceOf sl z O .none->IsPart z lo->IsPart O hi->r x lo hi H Q->
  ∃T id,typeLookup (.type T) "__getitem__"=pure (some (.builtin id))/\s.TypeIs v T/\wpAny (model X.prog X.w) X.A (getItem v (.ref sl)) (EP X ac σ Q) X.xe s
theorem Hj.or{r r':V->Option Int->Option Int->Hp->VK->Prop}(h:Hj X r)(h':Hj X r'):Hj X (λx lo hi H Q=>r x lo hi H Q\/r' x lo hi H Q):=by
 intro ac s σ H x v z U lo hi sl Q I O hs pl pu q;rcases q with q|q
 ·exact h ac s σ H x v z U lo hi sl Q I O hs pl pu q
 ·exact h' ac s σ H x v z U lo hi sl Q I O hs pl pu q
def Wb(r:V->Option Int->Option Int->Hp->VK->Prop)(te:TE)(tl th:TO):TE:=λσ H Q=>te σ H λx H1=>tl σ H1 λl H2=>th σ H2 λu z=>r x l u z Q
theorem dG{r:V->Option Int->Option Int->Hp->VK->Prop}(hr:Hj X r)(he:PE X e te)(hl:PO X lo tl)(hu:PO X hi th):PE X (.Subscript e (.Slice lo hi none p2) pos) (Wb r te tl th):=by intro ac s σ H Q I h;refine Subscript_ (cu (he ac s σ H _ I h) λv s1 zz=>?_);obtain⟨x,H1,I1,r1,q1⟩:=zz;refine wpAny_Slice (cu (hl ac s1 σ H1 _ I1 q1) λO s2 ⟨l,H2,I2,pl,q2⟩=>cu (hu ac s2 σ H2 _ I2 q2) λU z zz=>?_);obtain⟨u,H3,I3,pu,q3⟩:=zz;rw[evalPart_none];refine X1 ?_;have I4:Inv X ac σ H3 {z with heap:=z.heap.push {cls:=.type "slice",data:=.fields #[O,U,.none]}}:=I3.kept (t':=z.toks) λb ob q=>X2 _ q;obtain⟨T,id,hT,ht,hg⟩:=hr ac {z with heap:=z.heap.push {cls:=.type "slice",data:=.fields #[O,U,.none]}} σ H3 x v O U l u z.heap.objs.size Q I4 r1 (Heap.IsSliceOf.new ..) pl pu q3;show wpAny (model X.prog X.w) X.A (subscriptTail e (.Slice lo hi none p2) v (.ref z.heap.objs.size)) (EP X ac σ Q) X.xe {z with heap:=z.heap.push {cls:=.type "slice",data:=.fields #[O,U,.none]}};exact tail_any (ops:=[.ref z.heap.objs.size,v]) ht hT hg (by with_unfolding_all rfl)
def gI(xs:List V)(lo hi:Option Int):List V:=(xs.drop (HT.fc xs.length 0 lo)).take (HT.fc xs.length xs.length hi-HT.fc xs.length 0 lo)
theorem qe(xs:List V)(lo hi:Option Int):(gI xs lo hi).length<=xs.length:=by unfold gI;rw[Yv,List.length_drop];omega
inductive LW(K:YY)(x:V)(lo:Option Int)(hi:Option Int)(H:Hp)(Q:VK):Prop
 |mk a xs (_:x=.ref a) (_:aX K H a xs) (_:¬(HT.fc xs.length 0 lo=0/\HT.fc xs.length xs.length hi=xs.length)) (_:∀p,H p=none->Q (.ref p) (upd H p (.tup (gI xs lo hi)))):LW K x lo hi H Q
theorem LX:Hj X (LW X.K):=by
 intro ac s σ H x v vl vu lo hi sl Q I rx hs pl pu h;obtain⟨a,xs,rfl,hx,hw,q⟩:=h;cases rx;obtain⟨O,r,U,hz⟩:=I.tuple hx;have z:O.toArray.size=xs.length:=by rw[Yi];exact r.length.symm
 refine⟨"tuple",_,PyProof.Rows.slot_tuple_getitem.lookup,U.typeIs,?_⟩;refine HT.oP U hs pl pu (by rw[z];exact hw) ?_ (by rw[z];exact hz);rw[z];refine⟨.ref s.heap.objs.size,_,I.laid (t':=s.toks) (o:=.tup (gI xs lo hi)) (λb ob q=>X2 _ q) (X5 _) ?_,rfl,q _ (I.hok.fresh (X5 _))⟩;exact⟨X6 (qe xs lo hi) hz,_,(r.drop (HT.fc xs.length 0 lo)).take (HT.fc xs.length xs.length hi-HT.fc xs.length 0 lo),l9.new _ _⟩
inductive Kl(K:YY)(x:V)(y:V)(H:Hp)(Q:VK):Prop
 |mk a b xs ys (_:x=.ref a) (_:y=.ref b) (_:aX K H a xs) (_:aX K H b ys) (_:xs≠[]) (_:xs.length+ys.length<=sizeLine) (_:(ys=[]->Q (.ref a) H)) (_:(ys≠[]->∀p,H p=none->Q (.ref p) (upd H p (.tup (xs++ys))))):Kl K x y H Q
theorem Vals.uN{xs:List V}{us:Z4}(r:Vals xs us):us=[]↔xs=[]:=by
 cases r with
 |nil=>simp
 |cons _ _=>simp
theorem BE:kj X (binaryOp .Add) (Kl X.K):=by intro ac s σ H x y v u Q I rx ry h;obtain⟨a,b,xs,ys,rfl,rfl,ha,hb,hx,hz,q1,q2⟩:=h;cases rx;cases ry;obtain⟨its,U,p1,_⟩:=I.tuple ha;obtain⟨its2,O,p2,_⟩:=I.tuple hb;refine HT.Jg p1 p2 (λz=>hx (U.uN.mp z)) (λz=>⟨.ref a,H,I,rfl,q1 (O.uN.mp z)⟩) (λz=>?_) (by rw[←U.length,←O.length];exact hz);refine⟨.ref s.heap.objs.size,_,I.laid (t':=s.toks) (o:=.tup (xs++ys)) (λb ob q=>X2 _ q) (X5 _) ?_,rfl,q2 (λw=>z (O.uN.mpr w)) _ (I.hok.fresh (X5 _))⟩;exact⟨by rw[X_];exact hz,_,U.append O,l9.new _ _⟩
end
def Gm(n:Nat)(i:Int):Option Nat:=if 0<=i then(if i<n then some i.toNat else none)else if -(n:Int)<=i then some (i+n).toNat else none
def xf{α:Type}(xs:List α)(i:Int):Option α:=(Gm xs.length i).bind λj=>xs[j]?
theorem By{n:Nat}{i:Int}{j:Nat}(h:Gm n i=some j):seqIndex? i n=some j/\j<n/\-(n:Int)<=i/\i<n:=by
 unfold Gm at h;by_cases h0:0<=i
 ·rw[YG h0]at h;by_cases h1:i<n
  ·rw[YG h1]at h;have e:i.toNat=j:=Yr h;exact⟨by rw[seqIndex_of h0 h1,e],by omega,by omega,h1⟩
  ·rw[YF h1]at h;cases h
 ·rw[YF h0]at h;by_cases h1:-(n:Int)<=i
  ·rw[YG h1]at h;have e:(i+n).toNat=j:=Yr h;exact⟨by rw[seqIndex_neg (by omega) h1,e],by omega,h1,by omega⟩
  ·rw[YF h1]at h;cases h
theorem A3{α:Type}{xs:List α}{i:Int}{v:α}(h:xf xs i=some v):∃j,seqIndex? i xs.length=some j/\xs[j]? = some v/\j<xs.length/\-(xs.length:Int)<=i/\i<xs.length:=by
 unfold xf at h;cases e:Gm xs.length i with
 |none=>rw[e]at h;cases h
 |some j =>rw[e]at h;obtain⟨h1,h2,h3,h4⟩:=By e;exact⟨j,h1,h,h2,h3,h4⟩
theorem az{α:Type}{xs:List α}{j:Nat}{v:α}(h:xs[j]? = some v):xf xs (j:Int)=some v:=by
 have z:j<xs.length:=(Yj.mp h).1;have e:Gm xs.length (j:Int)=some j:=by unfold Gm;rw[YG (by omega),YG (by omega)];simp
 unfold xf;rw[e];exact h
theorem DG{α:Type}(xs:List α)(v:α):xf (xs++[v]) (-1)=some v:=by
 have z:(xs++[v]).length=xs.length+1:=by simp
 have e:Gm (xs++[v]).length (-1)=some xs.length:=by unfold Gm;rw[z,YF (by decide),YG (by omega)];congr 1;omega
 unfold xf;rw[e];show(xs++[v])[xs.length]? = some v;simp
def qO(b:Expr):Prop:=∀o i,subscripted b false o i=operate [o,i] (getItem o i)
def OR(X:Cx)(r:R2):Prop :=
 ∀(value z:Expr)(ac:eN)(s:Shared)(σ:St)(H:Hp)(x y:V)(v u:Value)(Q:VK),Inv X ac σ H s->RelV x v->RelV y u->r x y H Q->
  subscripted z false v u=operate [v,u] (getItem v u)->wpAny (model X.prog X.w) X.A (subscriptTail value z v u) (EP X ac σ Q) X.xe s
def Tx(X:Cx)(id:String)(r:V->List V->Hp->VK->Prop):Prop :=
 ∀(ac:eN)(s:Shared)(σ:St)(H:Hp)(x:V)(xs:List V)(v:Value)(us:Z4)(Q:VK),Inv X ac σ H s->RelV x v->Vals xs us->r x xs H Q->
  wpAny (model X.prog X.w) X.A (call (.builtin id) (v::us)) (EP X ac σ Q) X.xe s
section
variable{X:Cx}{a b:Expr}{ta tb:TE}{pos:Pos}
theorem jv{r:R2}(z:OR X r)(ha:PE X a ta)(hb:PE X b tb)(hs:qO b):PE X (.Subscript a b pos) (eC r ta tb):=by intro ac s σ H Q I h;exact Subscript_ (KW ha hb I h λv u s2 x y H2 I2 U O q=>z a b ac s2 σ H2 x y v u Q I2 U O q (hs _ _))
inductive iE(K:YY)(x:V)(y:V)(H:Hp)(Q:VK):Prop
 |mk p xs i v (_:x=.ref p) (_:y=.int i) (_:bb K H p xs) (_:xf xs i=some v) (_:Q v H):iE K x y H Q
inductive jt(K:YY)(x:V)(y:V)(H:Hp)(Q:VK):Prop
 |mk p xs i v (_:x=.ref p) (_:y=.int i) (_:aX K H p xs) (_:xf xs i=some v) (_:Q v H):jt K x y H Q
theorem fZ:OR X (iE X.K):=by
 intro value U ac s σ H x y v u Q I rx ry h hs;obtain⟨p,xs,i,z,rfl,rfl,hq,he,q⟩:=h;cases rx;obtain⟨t,rfl⟩:=ry;obtain⟨its,r,pl,hz⟩:=I.list hq;obtain⟨j,h1,h2,h3,h4,h5⟩:=A3 he;obtain⟨w,ew,qo⟩:=r.get h2;have hl:=r.length;have hn:=rN;have O:EP X ac σ Q w s:=⟨z,H,I,qo,q⟩;by_cases h0:0<=i
 ·have hj:i.toNat=j:=by rw[seqIndex_of h0 h5]at h1;exact Yr h1
  exact item_listR pl.isList h0 (by omega) (by rw[hj];simpa using ew) O hs
 ·have hj:(i+(its.toArray.size:Int)).toNat=j:=by rw[seqIndex_neg (by omega) h4]at h1;rw[Yi,←hl];exact Yr h1
  exact subscriptTail_builtinR (x:=w) pl.isList.typeIs slot_list_getitem.lookup
   (wpAny_getItem_list_neg (Q:=λr s'=>r=w/\EP X ac σ Q r s') pl.isList (by omega) (by rw[Yi]<;>omega) (by omega) (by rw[hj];simpa using ew) ⟨rfl,O⟩) hs
theorem zH:OR X (jt X.K):=by
 intro value O ac s σ H x y v u Q I rx ry h hs;obtain⟨p,xs,i,z,rfl,rfl,hq,he,q⟩:=h;cases rx;obtain⟨t,rfl⟩:=ry;obtain⟨its,r,pl,hz⟩:=I.tuple hq;obtain⟨j,h1,h2,h3,h4,h5⟩:=A3 he;obtain⟨w,ew,qo⟩:=r.get h2;have hl:=r.length;have hn:=rN;have U:EP X ac σ Q w s:=⟨z,H,I,qo,q⟩;exact subscriptTail_builtinR (x:=w) pl.typeIs slot_tuple_getitem.lookup
  (getItem_tuple (j:=j) (Q:=λr s'=>r=w/\EP X ac σ Q r s') pl (by omega) (by omega) (by rw[Yi,←hl];exact h1) (by simpa using ew) ⟨rfl,U⟩) hs
theorem zI(z:Z4)(n j:Nat)(u:Value):Obj.mapSeq (·.setIfInBounds j u) {cls:=.type "list",data:=.seq z.toArray n} ={cls:=.type "list",data:=.seq (z.set j u).toArray n}:=by simp[Obj.mapSeq]
theorem Inv.lst{ac:eN}{σ:St}{H:Hp}{s:Shared}{p:Addr}{xs:List V}(I:Inv X ac σ H s)(h:H p=some (.lst xs)) :
  ∃(O:Z4)(n:Nat),Vals xs O/\s.heap.get? p=some {cls:=.type "list",data:=.seq O.toArray n}/\xs.length<=sizeLine:=by
 obtain⟨z,O,n,r,e⟩:=I.hok p _ h;exact⟨O,n,r,e,z⟩
theorem Inv.Mf{ac:eN}{σ:St}{H:Hp}{s:Shared}{p:Addr}{xs ys:List V}{z its':Z4}{n O:Nat}{f:Obj->Obj}(I:Inv X ac σ H s)(h:H p=some (.lst xs))
  (ho:s.heap.get? p=some {cls:=.type "list",data:=.seq z.toArray n}) (U:f {cls:=.type "list",data:=.seq z.toArray n} ={cls:=.type "list",data:=.seq its'.toArray O}) (r:Vals ys its') (hz:ys.length<=sizeLine) (t:Nat) :
  Inv X ac σ (upd H p (.lst ys)) {s with heap:=s.heap.update p f,toks:=t}:=by
 have e:(s.heap.update p f).get? p=some {cls:=.type "list",data:=.seq its'.toArray O}:=by rw[Heap.get?_update_self f ho (by rw[U]<;>rfl),U]
 refine I.write (x:=p) (e:=p) (by rw[h];trivial) (.inl rfl) (λb u hb q=>(Heap.get?_update_other _ _ (Ne.symm hb)).trans q) ⟨_,e⟩ ?_;exact⟨hz,its',O,r,e⟩
inductive J1(o:V)(i:V)(v:V)(H:Hp)(Q:(Hp->Prop)):Prop
 |mk p xs k j (_:o=.ref p) (_:i=.int k) (_:H p=some (.lst xs)) (_:Gm xs.length k=some j) (_:Q (upd H p (.lst (xs.set j v)))):J1 o i v H Q
theorem set_list:OY X J1:=by
 intro ac s σ H o i v ov iv u Q I ro ri rv h;obtain⟨p,xs,k,j,rfl,rfl,hp,hj,q⟩:=h;cases ro;obtain⟨t,rfl⟩:=ri;obtain⟨z,n,r,U,hz⟩:=I.lst hp;obtain⟨h1,h2,h3,h4⟩:=By hj;have hl:=r.length;have hn:=rN;have I':Inv X ac σ (upd H p (.lst (xs.set j v))) {s with heap:=s.heap.update p (Obj.mapSeq (·.setIfInBounds j u))} :=
  I.Mf hp U (zI z n j u) (r.set rv j) (by rw[List.length_set];exact hz) s.toks
 by_cases h0:0<=k
 ·have O:k.toNat=j:=by rw[seqIndex_of h0 h4]at h1;exact Yr h1
  exact PySem.W.ki_setAt U h0 (by omega) (by rw[Yi,←hl];exact h4) (by rw[O];exact⟨_,I',q⟩)
 ·have O:(k+(z.toArray.size:Int)).toNat=j:=by rw[seqIndex_neg (by omega) h3]at h1;rw[Yi,←hl];exact Yr h1
  exact PySem.W.ki_setBack U (by omega) (by rw[Yi,←hl];exact h3) (by omega) (by rw[O];exact⟨_,I',q⟩)
theorem uK(lo hi:Option Int)(n:Nat):(sliceBounds lo hi none n).1=((HT.fc n 0 lo:Nat):Int)/\(sliceBounds lo hi none n).2.1=((HT.fc n n hi:Nat):Int)/\(sliceBounds lo hi none n).2.2=1:=by
 refine⟨?_,?_,rfl⟩
 ·cases lo with
  |none=>simp[sliceBounds,HT.fc]
  |some i =>
   simp only[sliceBounds,HT.fc,Option.getD_none,show(1:Int) > 0 by decide,if_true];by_cases h:i<0
   ·simp only[h,if_true]<;>omega
   ·simp only[h,if_false]<;>omega
 ·cases hi with
  |none=>simp[sliceBounds,HT.fc]
  |some i =>
   simp only[sliceBounds,HT.fc,Option.getD_none,show(1:Int) > 0 by decide,if_true];by_cases h:i<0
   ·simp only[h,if_true]<;>omega
   ·simp only[h,if_false]<;>omega
theorem sJ(z:Z4)(lo hi:Option Int):slicePick z.toArray lo hi none=((z.drop (HT.fc z.length 0 lo)).take (HT.fc z.length z.length hi-HT.fc z.length 0 lo)).toArray:=by obtain⟨h1,h2,h3⟩:=uK lo hi z.toArray.size;unfold slicePick;rw[h1,h2,h3];simp only[sliceRange_one,pick_run,Yi]<;>rfl
inductive yM(K:YY)(x:V)(lo:Option Int)(hi:Option Int)(H:Hp)(Q:VK):Prop
 |mk a xs (_:x=.ref a) (_:bb K H a xs) (_:∀p,H p=none->Q (.ref p) (upd H p (.lst (gI xs lo hi)))):yM K x lo hi H Q
theorem oC:Hj X (yM X.K):=by intro ac s σ H x v vl vu lo hi sl Q I rx hs pl pu h;obtain⟨a,xs,rfl,U,q⟩:=h;cases rx;obtain⟨its,r,O,hz⟩:=I.list U;have z:=r.length;refine⟨"list",_,slot_list_getitem.lookup,O.isList.typeIs,?_⟩;refine wpAny_getItem_list_slice O.isList hs pl pu .none (by simp) ?_ (by rw[Yi]<;>omega);rw[sJ,←z];refine⟨.ref s.heap.objs.size,_,I.laid (t':=s.toks) (o:=.lst (gI xs lo hi)) (λb ob q=>X2 _ q) (X5 _) ?_,rfl,q _ (I.hok.fresh (X5 _))⟩;exact⟨X6 (qe xs lo hi) hz,_,0,(r.drop (HT.fc xs.length 0 lo)).take (HT.fc xs.length xs.length hi-HT.fc xs.length 0 lo),X4 _ rfl⟩
def lI:V->Bool
 | .non=>true
 | .bl _=>true
 | .int _=>true
 | .str _=>true
 |_=>false
def Iz:V->V->Bool
 | .non,.non=>true
 | .bl a,.bl b=>a==b
 | .bl a,.int b=>(if a then 1 else 0)==b
 | .int a,.bl b=>a==(if b then 1 else 0)
 | .int a,.int b=>a==b
 | .str a,.str b=>a==b
 |_,_=>false
theorem LO{A:Around}{s:Shared}{y x:V}{u v:Value}(O:RelV y u)(z:RelV x v)(fy:lI y=true)(U:lI x=true):SeqAt.EqAt A s u v (Iz y x):=by
 cases y with
 |non =>
  cases O;cases x with
  |non=>cases z;exact SeqAt.EqAt.same _
  |bl b=>cases z;exact SeqAt.EqAt.none_bool b
  |int b=>obtain⟨t,rfl⟩:=z;exact SeqAt.EqAt.none_int b t
  |str b=>obtain⟨t,rfl⟩:=z;exact SeqAt.EqAt.none_str b t
  |_=>exact YE (show false=true from U) Yh
 |bl a =>
  cases O;cases x with
  |non=>cases z;exact SeqAt.EqAt.bool_none a
  |bl b=>cases z;exact SeqAt.EqAt.bool_bool a b
  |int b=>obtain⟨t,rfl⟩:=z;exact SeqAt.EqAt.bool_int a b t
  |str b=>obtain⟨t,rfl⟩:=z;exact SeqAt.EqAt.bool_str a b t
  |_=>exact YE (show false=true from U) Yh
 |int a =>
  obtain⟨t',rfl⟩:=O;cases x with
  |non=>cases z;exact SeqAt.EqAt.int_none a t'
  |bl b=>cases z;exact SeqAt.EqAt.int_bool a t' b
  |int b=>obtain⟨t,rfl⟩:=z;exact SeqAt.EqAt.int_int a t' b t
  |str b=>obtain⟨t,rfl⟩:=z;exact SeqAt.EqAt.int_str a t' b t
  |_=>exact YE (show false=true from U) Yh
 |str a =>
  obtain⟨t',rfl⟩:=O;cases x with
  |non=>cases z;exact SeqAt.EqAt.str_none a t'
  |bl b=>cases z;exact SeqAt.EqAt.str_bool a t' b
  |int b=>obtain⟨t,rfl⟩:=z;exact SeqAt.EqAt.str_int a t' b t
  |str b=>obtain⟨t,rfl⟩:=z;exact SeqAt.EqAt.str_str a t' b t
  |_=>exact YE (show false=true from U) Yh
 |_=>exact YE (show false=true from fy) Yh
def yo(x:V)(u:Value):Bool:=match u with
 | .none=>Iz .non x
 | .bool b=>Iz (.bl b) x
 | .int i _=>Iz (.int i) x
 | .str z _=>Iz (.str z) x
 |_=>false
theorem yA{x y:V}{u:Value}(r:RelV y u)(f:lI y=true):yo x u=Iz y x:=by
 cases y with
 |non=>cases r;rfl
 |bl b=>cases r;rfl
 |int i=>obtain⟨t,rfl⟩:=r;rfl
 |str z=>obtain⟨t,rfl⟩:=r;rfl
 |_=>exact YE (show false=true from f) Yh
theorem n_{x:V}:∀{xs:List V}{us:Z4},Vals xs us->xs.all lI=true->us.any (yo x)=xs.any λy=>Iz y x
 |_,_,.nil,_=>rfl
 |y::xs,u::us,.cons r t,f=>by rw[List.all_cons,YC]at f;rw[YV,YV,yA r f.1,n_ t f.2]
theorem jD{A:Around}{s:Shared}{x:V}{v:Value}(O:RelV x v)(U:lI x=true):∀{xs:List V}{us:Z4},Vals xs us->xs.all lI=true->∀u∈us,SeqAt.EqAt A s u v (yo x u)
 |_,_,.nil,_=>λu z=>by cases z
 |y::xs,u::us,.cons r t,f=>λu' z=>by
  rw[List.all_cons,YC]at f;rcases Ym.mp z with rfl|z
  ·rw[yA r f.1];exact LO r O f.1 U
  ·exact jD O U t f.2 u' z
def inV(x:V)(xs:List V):Bool:=xs.any λy=>Iz y x
inductive F8(K:YY)(neg:Bool)(x:V)(y:V)(H:Hp)(Q:VK):Prop
 |mk p xs (_:y=.ref p) (_:(bb K H p xs\/aX K H p xs)) (_:lI x=true) (_:xs.all lI=true) (_:Q (.bl (if neg then !inV x xs else inV x xs)) H):F8 K neg x y H Q
theorem dz:kj X (compareOp .In) (F8 X.K false):=by
 intro ac s σ H x y v u Q I rx ry h;obtain⟨p,xs,rfl,O,fx,fs,q⟩:=h;cases ry;rcases O with O|O
 ·obtain⟨z,r,pl,hz⟩:=I.list O;refine SeqAt.in_listAt (yo x) pl.isList (λw U=>jD rx fx r fs w (by simpa using U)) ⟨.bl _,H,I,rfl,?_⟩;rw[show z.toArray.any (yo x)=z.any (yo x) by simp,n_ r fs];exact q
 ·obtain⟨z,r,pl,hz⟩:=I.tuple O;refine SeqAt.in_tupleAt (yo x) pl (λw U=>jD rx fx r fs w (by simpa using U)) ⟨.bl _,H,I,rfl,?_⟩;rw[show z.toArray.any (yo x)=z.any (yo x) by simp,n_ r fs];exact q
theorem ie:kj X (compareOp .NotIn) (F8 X.K true):=by
 intro ac s σ H x y v u Q I rx ry h;obtain⟨p,xs,rfl,O,fx,fs,q⟩:=h;cases ry;rcases O with O|O
 ·obtain⟨z,r,pl,hz⟩:=I.list O;refine SeqAt.notIn_listAt (yo x) pl.isList (λw U=>jD rx fx r fs w (by simpa using U)) ⟨.bl _,H,I,rfl,?_⟩;rw[show z.toArray.any (yo x)=z.any (yo x) by simp,n_ r fs];exact q
 ·obtain⟨z,r,pl,hz⟩:=I.tuple O;refine SeqAt.notIn_tupleAt (yo x) pl (λw U=>jD rx fx r fs w (by simpa using U)) ⟨.bl _,H,I,rfl,?_⟩;rw[show z.toArray.any (yo x)=z.any (yo x) by simp,n_ r fs];exact q
theorem aM:gJ X (.builtin "len") (λxs H Q=>∃p ys,xs=[.ref p]/\(bb X.K H p ys\/aX X.K H p ys)/\Q (.int ys.length) H):=by
 intro ac s σ H xs us Q I r h;obtain⟨p,ys,rfl,O,q⟩:=h;obtain⟨u,rfl,rx⟩:=vals1 r;cases rx;have hn:=rN;rcases O with O|O
 ·obtain⟨U,r',pl,hz⟩:=I.list O;have z:=r'.length;exact Calls.call_len_list pl.isList (by simp only[Yi]<;>omega) ⟨.int ys.length,H,I.tok _,⟨s.toks+1,by rw[Yi,z]⟩,q⟩
 ·obtain⟨U,r',pl,hz⟩:=I.tuple O;have z:=r'.length;exact len_tuple pl (by simp only[Yi]<;>omega) ⟨.int ys.length,H,I.tok _,⟨s.toks+1,by rw[Yi,z]⟩,q⟩
theorem v7:gJ X (.type "list") (λxs H Q=>∃p ys,xs=[.ref p]/\(bb X.K H p ys\/aX X.K H p ys)/\∀l,H l=none->Q (.ref l) (upd H l (.lst ys))):=by
 intro ac s σ H xs us Q I r h;obtain⟨p,ys,rfl,U,q⟩:=h;obtain⟨u,rfl,rx⟩:=vals1 r;cases rx;have fin:∀(z:Z4),Vals ys z->ys.length<=sizeLine->∀(h':Heap)(O:Nat),(∀b o',s.heap.get? b=some o'->h'.get? b=some o')->
   h'.get? s.heap.objs.size=some {cls:=.type "list",dict:=none,data:=.seq z.toArray O,slots:=#[]}->EP X ac σ Q (.ref s.heap.objs.size) {s with heap:=h'}:=λz r' hz h' O kp e =>
  ⟨.ref s.heap.objs.size,_,I.laid (t':=s.toks) kp (X5 _) (show cD X.prog X.w _ h' _ (.lst ys) from⟨hz,z,O,r',e⟩),rfl,q _ (I.hok.fresh (X5 _))⟩
 rcases U with U|U
 ·obtain⟨z,r',pl,hz⟩:=I.list U;have hlen:=r'.length;obtain⟨o,ho,hc,n,hd⟩:=pl.isList;exact call_list_seq p (.inl rfl) ho hc hd (λh' O kp e=>fin z r' hz h' O kp e) (by simp only[Yi]<;>omega)
 ·obtain⟨z,r',pl,hz⟩:=I.tuple U;have hlen:=r'.length;obtain⟨o,ho,hc,n,hd⟩:=pl;exact call_list_seq p (.inr rfl) ho hc hd (λh' O kp e=>fin z r' hz h' O kp e) (by simp only[Yi]<;>omega)
theorem bu:gJ X (.type "tuple") (λxs H Q=>∃p ys,xs=[.ref p]/\((bb X.K H p ys/\∀l,H l=none->Q (.ref l) (upd H l (.tup ys)))\/(aX X.K H p ys/\Q (.ref p) H))):=by
 intro ac s σ H xs us Q I r h;obtain⟨p,ys,rfl,h⟩:=h;obtain⟨u,rfl,rx⟩:=vals1 r;cases rx;rcases h with⟨O,q⟩|⟨O,q⟩
 ·obtain⟨z,r',pl,hz⟩:=I.list O;have U:=r'.length;refine call_tuple_list pl.isList (λh' kp=>?_) (by simp only[Yi]<;>omega);have I1:Inv X ac σ H {s with heap:=h'}:=I.kept (t':=s.toks) kp;have I2:Inv X ac σ (upd H h'.objs.size (.tup ys)) {s with heap:=h'.push {cls:=.type "tuple",data:=.seq z.toArray}} :=
   I1.laid (t':=s.toks) (λb o e=>X2 _ e) (X5 _) (show cD X.prog X.w _ _ _ (.tup ys) from⟨hz,z,r',l9.new _ _⟩)
  exact⟨.ref h'.objs.size,_,I2,rfl,q _ (I1.hok.fresh (X5 _))⟩
 ·obtain⟨z,r',pl,hz⟩:=I.tuple O;exact call_tuple_same pl ⟨.ref p,H,I,rfl,q⟩
def Ud(K:YY)(T:String)(x:V)(H:Hp):Prop:=match x with
 | .str _=>T="str"
 | .int _=>T="int"
 | .ref p=>(T="list"/\∃xs,bb K H p xs)\/(T="tuple"/\∃o,K.lookup p=some o/\o.cls=.type "tuple"/\o.dict=none)\/
   (T="dict"/\((∃kvs,H p=some (.dK kvs))\/∃kvs,H p=some (.dT kvs)))\/(T="set"/\∃S n,H p=some (.set S n))
 |_=>False
theorem Lb{ac:eN}{σ:St}{H:Hp}{s:Shared}{T:String}{x:V}{v:Value}(I:Inv X ac σ H s)(r:RelV x v)(ty:Ud X.K T x H) :
  s.TypeIs v T/\∀a,v=.ref a->∃ob,s.heap.get? a=some ob/\ob.dict=none:=by
 cases x with
 |str z =>obtain⟨t,rfl⟩:=r;cases(show T="str" from ty);exact⟨typeIs_str s z t,λ_ e=>nomatch e⟩
 |int i =>obtain⟨t,rfl⟩:=r;cases(show T="int" from ty);exact⟨typeIs_int s i t,λ_ e=>nomatch e⟩
 |ref p =>
  cases r;rcases ty with⟨rfl,xs,hq⟩|⟨rfl,o,O,hc,hd⟩|⟨rfl,O⟩|⟨rfl,S,n,O⟩
  ·obtain⟨its,_,pl,_⟩:=I.list hq;refine⟨pl.isList.typeIs,λa e=>?_⟩;cases e;obtain⟨o,n,e,c,hd,_⟩:=pl;exact⟨o,e,hd⟩
  ·refine⟨⟨o,I.mY p o O,hc⟩,λa e=>?_⟩;cases e;exact⟨o,I.mY _ o O,hd⟩
  ·have z:∃o,s.heap.get? p=some o/\o.ExactDict:=by
    rcases O with⟨kvs,O⟩|⟨kvs,O⟩
    ·obtain⟨_,_,_,_,o,_,_,e,ex,_⟩:=I.hok p _ O;exact⟨o,e,ex⟩
    ·obtain⟨_,_,_,_,o,_,_,e,ex,_⟩:=I.hok p _ O;exact⟨o,e,ex⟩
   obtain⟨o,e,ex⟩:=z;refine⟨⟨o,e,ex.1⟩,λa U=>?_⟩;cases U;exact⟨o,e,ex.2.1⟩
  ·obtain⟨o,_,_,_,e,ex,_⟩:=I.hok p _ O;refine⟨⟨o,e,ex.1⟩,λa U=>?_⟩;cases U;exact⟨o,e,ex.2.1⟩
 |_=>exact YK ty
def WM(K:YY)(T:String)(r:V->List V->Hp->VK->Prop)(to:TE)(t:TA):TE:=λσ H Q=>to σ H λx H1=>Ud K T x H1/\t σ H1 λxs H2=>r x xs H2 Q
variable{o e:Expr}{es:List Expr}{to:TE}{t:TA}{name:Str}{apos cpos:Pos}{T id:String}{r:V->List V->Hp->VK->Prop}
theorem gN(pa:PlainAttrs T)(slot:Slot T name id)(hty:typeOf (.builtin id)=pure (.type "method_descriptor"))(hm:Tx X id r)(ho:PE X o to)(ha:PA X (e::es) t)
  (O:attributeBase o name X.env (eval o X.env)=eval o X.env:=by rfl)
  (hfew:((backTo cpos (starEach (e::es) X.env)).all (λx=>!x.1)&&(backToKw cpos (keywordEach [] X.env)).all (λx=>x.1.isSome)
   && decide ((e::es).length+([]:List Keyword).length+(if([]:List Keyword).isEmpty then 0 else 1)<30))=true:=by rfl)
  (U:(apos.endLine==cpos.line)=true:=by rfl) (hs:starEach (e::es) X.env=(false,eval e X.env)::starEach es X.env:=by rfl) (z:(backTo cpos (starEach es X.env)).any (·.1)=false:=by rfl) :
  PE X (.Call (.Attribute o name apos) (e::es) [] cpos) (WM X.K T r to t):=by
 intro ac s σ H Q I h;refine wpAny_Call_method_late O hfew U rfl (cu (ho ac s σ H _ I h) λv s1 zz=>?_);obtain⟨x,H1,I1,r1,ty,q1⟩:=zz;obtain⟨h1,h2⟩:=Lb I1 r1 ty;refine⟨T,id,pa,slot,hty,h1,h2,?_⟩;have hA:=ha cpos ac s1 σ H1 _ I1 q1;rw[hs]at hA⊢;refine Calls.callWith_builtin (by show(false||(backTo cpos (starEach es X.env)).any (·.1))=false;rw[z]<;>rfl) (Calls.evalArgs_plain ?_);exact cu hA λus s2 ⟨vs,H2,I2,r2,q2⟩=>hm ac s2 σ H2 x vs v us Q I2 r1 r2 q2
end
def TH(X:Cx)(id:String)(r:V->List V->Hp->VK->Prop):Prop :=
 ∀(ac:eN)(s:Shared)(σ:St)(H:Hp)(x:V)(xs:List V)(v:Value)(us:Z4)(Q:VK),Inv X ac σ H s->RelV x v->Vals xs us->r x xs H Q->
  wpAny (model X.prog X.w) X.A (call (.builtin id) (v::us)) (EP X ac σ Q) X.xe s
theorem Vals.one{x:V}{us:Z4}(h:Vals [x] us):∃u,us=[u]/\RelV x u:=by
 cases h with
 |cons r t=>cases t;exact⟨_,rfl,r⟩
theorem Vals.eraseIdx:∀{xs:List V}{us:Z4}(i:Nat),Vals xs us->Vals (xs.eraseIdx i) (us.eraseIdx i)
 |_,_,_,.nil=>.nil
 |_,_,0,.cons _ t=>t
 |_,_,i+1,.cons r t=>.cons r (Vals.eraseIdx i t)
theorem uo{α:Type}:∀(l:List α)(i:Nat),(l.eraseIdx i).length<=l.length
 |[],_=>X5 _
 |_::_,0=>Nat.le_succ _
 |_::r,i+1=>Nat.succ_le_succ (uo r i)
section
variable{X:Cx}{ac:eN}{σ:St}{H:Hp}{s:Shared}{l b:Addr}{xs ys zs:List V}
theorem Inv.N4{z its':Z4}{n:Nat}{f:Array Value->Array Value}{t':Nat}(I:Inv X ac σ H s)(hH:H l=some (.lst xs))
  (e:s.heap.get? l=some {cls:=.type "list",data:=.seq z.toArray n}) (U:f z.toArray=its'.toArray) (hv:Vals ys its') (hz:ys.length<=sizeLine) :
  Inv X ac σ (upd H l (.lst ys)) {s with heap:=s.heap.update l (Obj.mapSeq f),toks:=t'}:=by
 have q:=PySem.IsL.update e f;rw[U]at q;refine I.write (x:=l) (e:=l) (by rw[hH];exact trivial) (.inl rfl) (λb' u hb O=>(Heap.get?_update_other s.heap (Obj.mapSeq f) (Ne.symm hb)).trans O) ⟨_,q⟩ ?_;exact⟨hz,its',_,hv,q⟩
theorem Inv.QU{z:Z4}{t':Nat}(I:Inv X ac σ H s)(hv:Vals ys z)(hz:ys.length<=sizeLine) :
  Inv X ac σ (upd H s.heap.objs.size (.lst ys)) {s with heap:=s.heap.push {cls:=.type "list",data:=.seq z.toArray},toks:=t'} :=
 I.laid (λ_ _ q=>X2 _ q) (X5 _) ⟨hz,z,0,hv,X4 _ rfl⟩
theorem Inv.fresh(I:Inv X ac σ H s):H s.heap.objs.size=none:=I.hok.fresh (X5 _)
theorem Inv.Ji(I:Inv X ac σ H s)(U:H l=some (.lst xs)):xs.length<=sizeLine/\∃(O:Z4)(n:Nat),Vals xs O/\xs.length=O.length/\s.heap.get? l=some {cls:=.type "list",data:=.seq O.toArray n}:=by obtain⟨z,O,n,r,e⟩:=I.hok l _ U;exact⟨z,O,n,r,r.length,e⟩
end
section
variable{X:Cx}
inductive qK(x:V)(vs:List V)(H:Hp)(Q:VK):Prop
 |mk l xs y (_:x=.ref l) (_:vs=[y]) (_:H l=some (.lst xs)) (_:xs.length<sizeLine) (_:Q .non (upd H l (.lst (xs++[y])))):qK x vs H Q
theorem cb:TH X "list.append" qK:=by intro ac s σ H x vs v us Q I rx rv h;obtain⟨l,xs,y,rfl,rfl,U,hz,q⟩:=h;cases rx;obtain⟨u,rfl,ru⟩:=rv.one;obtain⟨z,O,n,r,hl,e⟩:=I.Ji U;refine call_meets F.slot_list_append ⟨_,e,rfl⟩ F.entry_list_append (F.args_list_append_2 _ _) (PySem.list_append l O.toArray n u (by rw[Yi];omega)) ⟨e,?_⟩;refine⟨.non,_,I.N4 (its':=O++[u]) U e (by simp) (r.append (.cons ru .nil)) ?_,rfl,q⟩;rw[X_,List.length_singleton];omega
inductive En(x:V)(vs:List V)(H:Hp)(Q:VK):Prop
 |mk l xs i k y (_:x=.ref l) (_:vs=[.int i]) (_:H l=some (.lst xs)) (_:-(2 ^ 63)<=i) (_:i<2 ^ 63) (_:seqIndex? i xs.length=some k) (_:xs[k]? = some y) (_:Q y (upd H l (.lst (xs.eraseIdx k)))):En x vs H Q
theorem Fd:TH X "list.pop" En:=by
 intro ac s σ H x vs v us Q I rx rv h;obtain⟨l,xs,i,k,y,rfl,rfl,U,h1,h2,hk,hy,q⟩:=h;cases rx;obtain⟨u,rfl,ru⟩:=rv.one;obtain⟨t,rfl⟩:=ru;obtain⟨z,O,n,r,hl,e⟩:=I.Ji U;obtain⟨w,hw,qo⟩:=r.get hy;refine call_meets F.slot_list_pop ⟨_,e,rfl⟩ F.entry_list_pop (F.args_list_pop_2 _ _)
  (MeetsSeq.list_pop_at l O.toArray n i t k w (fitsIndex_both h1 h2) (by rw[Yi,←hl];exact hk) (by rw[←Array.getElem?_toList];exact hw) (by rw[Yi];omega)) ⟨e,?_⟩
 refine⟨y,_,I.N4 (its':=O.eraseIdx k) U e ?_ (r.eraseIdx k) ?_,qo,q⟩
 ·show O.toArray.eraseIdxIfInBounds k=(O.eraseIdx k).toArray;rw[List.eraseIdxIfInBounds_toArray]
 ·have:=uo xs k;omega
inductive LM(x:V)(y:V)(H:Hp)(Q:VK):Prop
 |mk l b xs zs (_:x=.ref l) (_:y=.ref b) (_:H l=some (.lst xs)) (_:H b=some (.lst zs)) (_:xs.length+zs.length<=sizeLine) (_:∀p,H p=none->Q (.ref p) (upd H p (.lst (xs++zs)))):LM x y H Q
theorem gn:kj X (binaryOp .Add) LM:=by
 intro ac s σ H x y v u Q I rx ry h;obtain⟨l,b,xs,zs,rfl,rfl,hH,hB,hz,q⟩:=h;cases rx;cases ry;obtain⟨z,U,n,r,hl,e⟩:=I.Ji hH;obtain⟨z2,O,n2,r2,hl2,e2⟩:=I.Ji hB;refine PySem.P.add_list e e2 ?_ (by rw[Yi,Yi];omega);have ea:U.toArray++O.toArray=(U++O).toArray:=by simp
 rw[ea];exact⟨.ref _,_,I.QU (t':=s.toks) (r.append r2) (by rw[X_];omega),rfl,q _ I.fresh⟩
end
end L2
namespace Att
open PySem PySem.W PySem.Calls PyProof.Rows
theorem qr{P:Params}{h:Heap}:∀(ns:List Int)(vs:Z4),WellAll P h vs (ns.map WData.int)->IntsAre vs ns:=by
 intro ns;induction ns with
 |nil =>intro vs w;rw[List.map_nil]at w;cases w;exact .nil
 |cons n ns z =>
  intro vs w;rw[YT]at w;cases w with
  |cons a b =>cases a;exact .cons _ _ (z _ b)
theorem CJ{l:OpenLaw}{n:Nat}(hn:l.most=some n){P:Params}{h:Heap}{args:List WData}{O:Z4}
  (z:l.row.toRowW.claim.pre args=true) (hwl:WellAll P h O args) :
  ∃a vs ns,O=[Value.ref a]/\args=[WData.list (ns.map WData.int)]/\h.get? a=some {cls:=.type "list",data:=.seq vs.toArray}/\IntsAre vs ns/\ns.length<=n:=by
 have hsh:WShape.hasAll [] args [.list .int]=true:=(pre_splitW z).1;have hc:l.pre.holds [] {args:=args}=true:=(pre_splitW z).2;obtain⟨d,r,rfl,h1,h2⟩:=hasAllW_cons hsh;obtain rfl:=hasAllW_nil h2;obtain⟨xs,rfl,h3⟩:=hasW_list h1;obtain⟨ns,rfl⟩:=items_int h3;have hlen:ns.length<=n:=by
  unfold OpenLaw.pre at hc;have h4:(WTm.not (.lt (.lit (.int (n:Int))) (.len (.arg 0)))).holds [] {args:=[.list (ns.map .int)]}=true:=by have h4:=(holds_andW hc).1;rw[hn]at h4;exact h4
  have h5:=condW_of h4 (w_not (w_lt w_lit (w_len_list (w_arg rfl))));rw[X9]at h5;refine Nat.le_of_not_lt λq=>?_;have q':(n:Int)<((ns.length:Nat):Int):=by omega
  first
   | (rw[X8 q']at h5;exact YE h5 (by decide))
   | (simp at h5;omega)
 cases hwl with
 |cons w1 w2 =>
  cases w2;cases w1 with
  |list ho U=>exact⟨_,_,ns,rfl,rfl,ho,qr ns _ U,hlen⟩
theorem CS(l:OpenLaw)(args:List WData):l.row.toRowW.claim.post args (.bool true) args=true :=
 postW_of (r:=l.row.toRowW) (X:=(true==true))
  (show WShape.has [] (.bool true) .bool=true by first|rfl|decide|simp[WShape.has,WShape.arms,WShape.armsAll])
  (show(WTm.eq .res (.lit (.bool true))).value [] {args:=args,res:=some (.bool true),after:=args}=some (.bool (true==true)) from w_eq_bool (w_res rfl) w_lit) rfl
theorem wR{l:OpenLaw}{n:Nat}{q:Program}{O:List Str}{XP:(Z0)->Heap->Prop}{YP:World->Heap->Prop}{d:DefRec}
  (hn:l.most=some n) (hdf:d.params.defaults=[])
  (call:∀(w:World)(s₀ z:Shared)(mg mb:Z0)(fa:Addr)(o:Obj)(pm cd doc:Value)(a:Addr)(vs:Z4)(ns:List Int),
   Ground q O [] XP w s₀ mg mb z.heap->YP w z.heap->
   z.heap.get? fa=some o->o.data=.func (docDef d.name d.params d.body d.scope pm cd doc)->z.heap.CodeRec cd d.name->mg d.name=some (.ref fa)->
   z.heap.get? a=some {cls:=.type "list",data:=.seq vs.toArray}->IntsAre vs ns->ns.length<=n->z.gens = #[]->
   codeAny (model l.prog w) callerA (.call (.ref fa) ⟨[.ref a],[]⟩) (λr s'=>r=.ok (.ret (.bool true))/\OldK z.heap s'.heap/\s'.os=z.os/\AllBare s'.gens) z) :
  WalkO q O XP YP l.row.toRowW d [] (λf vs=>PySem.call f vs):=by
 intro w s₀ z mg mb G Y fa o pm cd doc dV kV ho hd hcd hD hmg hg args vals as hpre hlay hrd hwl hlo;obtain rfl:dV=.none:=Dflts.none hD hdf;obtain rfl:kV=.none:=Dflts.noKw hD;obtain⟨a,vs,ns,rfl,rfl,hobj,U,hlen⟩:=CJ hn hpre hwl;refine enter_call (codeAny_mono (call w s₀ z mg mb fa o pm cd doc a vs ns G Y ho (fd_plain hd) hcd hmg hobj U hlen hg) λr s' hq=>?_);obtain⟨rfl,h2,h3,h4⟩:=hq;exact⟨.inl ⟨.bool true,.bool true,[],rfl,λ_=>rfl,.bool true,CS l _,λ_=>⟨List.Pairwise.nil,λ_ hm=>(nomatch hm)⟩⟩,h2,h3,h4⟩
end Att
namespace L2
open PySem PySem.Spec PyProof.Rows
theorem B7{vs:Z4}{ns:List Int}(h:IntsAre vs ns):Vals (ns.map V.int) vs:=by
 induction h with
 |nil=>exact .nil
 |cons n t h z=>exact .cons ⟨t,rfl⟩ z
def Only(H:Hp):Prop:=∀b,H b=none\/∃o xs,H b=some (.zk o (.lst xs))
theorem FO{P:Program}{w:World}{K:YY}{mg mb:Z0}{CX:sQ}{k:Nat}{fa a:Addr}{fd:FuncData}{x:Str}{sp:Sp}{O:Shared}{vs:Z4}{ns:List Int}
  (KX:K.In O.heap) (hns:O.heap.Ns mainGlobals mg) (U:O.heap.Ns builtinsNs mb) (hbb:∀x:Str,x≠"__name__"->mb x=bootBuiltins x) (hlim:O.heap.NoLimit) (hg:O.gens = #[])
  (ha:O.heap.get? a=some {cls:=.type "list",data:=.seq vs.toArray}) (hi:IntsAre vs ns) (hl:ns.length<=sizeLine) (hr:fV k callerA)
  (F:∀base:Heap,K.In base->base.Ns mainGlobals mg->f_ P w K mg base CX k fa fd [x] sp) (hbind:∀(s:Shared)(u:Value),BindsTo s fd ⟨[u],[]⟩ [(x,u)])
  (hsp:∀H:Hp,Only H->bb K H a (ns.map V.int)->sp [.ref a] H (λv _=>v=.bl true) λ_ _ _=>False)
  (Rx:∀H e s',CX [] H O (λ_ _ _=>False) e s'->False) :
  codeAny (model P w) callerA (.call (.ref fa) ⟨[.ref a],[]⟩) (λr s'=>r=.ok (.ret (.bool true))/\OldK O.heap s'.heap/\s'.os=O.os/\AllBare s'.gens) O:=by
 have rv:=B7 hi;have lenV:=hi.length;have core:∀H:Hp,Only H->bb K H a (ns.map V.int)->ky P w H O.heap->(∀b,H b≠none->b=a)->(H a≠none->K.lookup a=none)->
   codeAny (model P w) callerA (.call (.ref fa) ⟨[.ref a],[]⟩) (λr s'=>r=.ok (.ret (.bool true))/\OldK O.heap s'.heap/\s'.os=O.os/\AllBare s'.gens) O:=by
  intro H hO hS hok hA hK;have BA:∀{b:Addr}{o:Obj},O.heap.get? b=some o->H b=none->(uU O.heap H).get? b=some o:=λe n=>DK e n;have Nr:∀{b:Addr}{o:Obj}{es:Array DictEntry}{ep:Nat},O.heap.get? b=some o->o.data=.dict es ep->H b=none:=λ{b o es ep} e d=>by
   cases q:H b with
   |none=>rfl
   |some u =>have e':b=a:=hA b (by rw[q];simp);subst e';rw[ha]at e;cases e;have d':Data.seq vs.toArray _=Data.dict es ep:=d;cases d'
  have Qy:∀{b:Addr}{m:Z0},O.heap.Ns b m->(uU O.heap H).Ns b m:=λ{b m} ⟨o,es,ep,e,d,r⟩=>⟨o,es,ep,BA e (Nr e d),d,r⟩;have TZ:K.In (uU O.heap H):=λb o e=>BA (KX b o e) (by
   cases q:H b with
   |none=>rfl
   |some u =>have e':b=a:=hA b (by rw[q];simp);subst e';rw[hK (by rw[q];simp)]at e;cases e)
  have hM:Mod K mg (uU O.heap H):=⟨TZ,Qy hns,⟨mb,Qy U,hbb⟩,let ⟨mc,h1,h2⟩:=hlim;⟨mc,Qy h1,h2⟩⟩;have e0:yU P w K mg (uU O.heap H) callerA [] O H:=⟨rfl,hM,λb o e=>Ir e,YR (C0 _ _),trivial,λb U=>YE (show b∈([]:Z6) from U) (by simp),hok,.of_eq hg⟩;refine codeAny_mono ((F _ TZ (Qy hns)).run callerA [] O H ⟨[.ref a],[]⟩ [.ref a] [.ref a] _ _ hr e0 (hbind O (.ref a)) (.cons rfl .nil) (hsp H hO hS)) λr s' h=>?_;cases r with
  |error e=>exact(Rx H e s' h).elim
  |ok fl =>
   cases fl with
   |next=>exact YK h
   |brk=>exact YK h
   |cont=>exact YK h
   |ret u =>
    obtain⟨v,H',os,bare,un,hok',r',q⟩:=h;have q':v=.bl true:=q;subst q';obtain rfl:u=Value.bool true:=r';refine⟨rfl,OldK.of_keep λb o e=>?_,os,bare⟩;cases q:H b with
    |none=>exact un.keep b o e q (by intro z;exact YE (show b∈([]:Z6) from z) (by simp)) (by simp)
    |some u =>
     rcases hO b with z|⟨ob,xs,z⟩
     ·rw[q]at z;cases z
     ·have z2:=un.tS b ob _ z;obtain⟨e1,_⟩:=hok b _ z;obtain⟨e2,_⟩:=hok' b _ z2;rw[e]at e1;cases e1;exact e2
 cases hk:K.lookup a with
 |some o =>have e:=KX a o hk;rw[ha]at e;cases e;refine core (λ_=>none) (λ_=>.inl rfl) (.inr ⟨_,vs.toArray,_,hk,rfl,rfl,rfl,by rw[Yi,lenV];exact hl,by simpa using rv⟩) (λb u z=>by have z':(none:Option HO)=some u:=z;cases z') (λb z=>YE rfl z) λz=>YE rfl z
 |none =>
  refine core (λb=>if b=a then some (.zk {cls:=.type "list",data:=.seq vs.toArray} (.lst (ns.map V.int)))else none) (λb=>?_) (.inl (.inr ⟨{cls:=.type "list",data:=.seq vs.toArray},YG rfl⟩)) (λb u z=>?_) (λb z=>?_) λ_=>hk
  ·by_cases U:b=a
   ·exact .inr ⟨_,_,YG U⟩
   ·exact .inl (YF U)
  ·by_cases U:b=a
   ·have z':=(YG U).symm.trans z;cases z';subst U;exact⟨ha,by rw[X9];exact hl,vs,_,rv,ha⟩
   ·have z':=(YF U).symm.trans z;cases z'
  ·by_cases U:b=a
   ·exact U
   ·exact YE (YF U) z
theorem JF{l:PySem.W.OpenLaw}{n k:Nat}{q:Program}{O:List Str}{XP:(Z0)->Heap->Prop}{YP:World->Heap->Prop}{d:DefRec}{K:Params->YY}{CX:World->sQ}{sp:World->Sp}{x:Str}
  (hn:l.most=some n) (hn2:n<=sizeLine) (hdf:d.params.defaults=[]) (hr:fV k callerA)
  (hY:∀(w:World)(h:Heap),YP w h->(K w.params).In h)
  (F:∀(w:World)(mg:Z0)(fa:Addr)(h:Heap),(K w.params).In h->h.Ns mainGlobals mg->mg d.name=some (.ref fa)->
   ∃fd:FuncData,(∀(s:Shared)(u:Value),BindsTo s fd ⟨[u],[]⟩ [(x,u)])/\
    ∀base:Heap,(K w.params).In base->base.Ns mainGlobals mg->f_ l.prog w (K w.params) mg base (CX w) k fa fd [x] (sp w))
  (hsp:∀(w:World)(H:Hp)(a:Addr)(ns:List Int),ns.length<=n->Only H->bb (K w.params) H a (ns.map V.int)->sp w [.ref a] H (λv _=>v=.bl true) λ_ _ _=>False)
  (Rx:∀(w:World)(H:Hp)(s:Shared)(e:Value)(s':Shared),CX w [] H s (λ_ _ _=>False) e s'->False) :
  PySem.W.WalkO q O XP YP l.row.toRowW d [] (λf vs=>PySem.call f vs):=by
 refine Att.wR hn hdf λw s₀ s₁ mg mb fa o pm cd doc a vs ns G Y ho hd hcd hmg hobj U z hg=>?_;have KX:=hY w _ Y;obtain⟨fd,hb,hF⟩:=F w mg fa _ KX G.T.g hmg;exact FO KX G.T.g G.T.b G.T.builtins G.T.nolimit hg hobj U (X6 z hn2) hr hF hb (λH hO hS=>hsp w H a ns z hO hS) λH e s'=>Rx w H s₁ e s'
def fw(s:Stmt):Arguments:=match s with
 | .FunctionDef _ a _ _ _ _ _ _ _ _=>a
 |_=>{posonlyargs:=[],args:=[],vararg:=none,kwonlyargs:=[],kw_defaults:=[],kwarg:=none,defaults:=[]}
def du(s:Stmt):List Stmt:=match s with
 | .FunctionDef _ _ b _ _ _ _ _ _ _=>b
 |_=>[]
def aq(s:Stmt):Scope:=match s with
 | .FunctionDef _ _ _ _ _ _ sc _ _ _=>sc
 |_=>{kind:=.function,names:=[],isGenerator:=false,isCoroutine:=false}
abbrev bx:sQ:=λ_ _ _ _ _ _=>False
abbrev E0:XK:=λ_ _ _=>False
theorem tY{X:Cx}:Passes bx X E0:=λ_ _ _ _ _ _ _ h=>h.elim
structure Dd(K:YY)(x qual:Str)(st:Stmt)(f:Addr)(fd:FuncData):Prop where
 ex:∃(oc:Value)(od:Option Addr)(kV doc pm:Value)(an:Option Addr)(cdv ct:Value)(osl:Array (Z5)),
  fd=PySem.W.fnOf x qual (fw st) (du st) (aq st) .none kV doc pm an cdv ct/\K.lookup f=some ⟨oc,od,.func fd,osl⟩/\PySem.W.codeIn K cdv qual=true
 kp:PySem.W.keepIn K (.ref f)=true
section
variable{P:Program}{w:World}{K:YY}{mg:Z0}{base:Heap}
theorem Dd.ok{x qual:Str}{st:Stmt}{f:Addr}{fd:FuncData}{N ps:List Str}{k:Nat}{sp:Sp}(F:Dd K x qual st f fd)(S:ax N ps (aq st))(len:∀vs H Q E,sp vs H Q E->vs.length=ps.length)
  (z:∀(cdv:Value)(A:Around)(outer:List Env)(s:Shared)(H:Hp)(vs:List V)(Q:VK)(E:XK),fV k (A.deeper (envOfC qual (aq st) s.heap.objs.size f cdv))->sp vs H Q E->
   ∃t,uA (tK bx P w K mg base N qual (aq st) f cdv A outer s H E).BF (du st) t/\t {nx:=λ_ H'=>Q .non H',rt:=Q} (start N vs) H):f_ P w K mg base bx (k+1) f fd ps sp:=by
 obtain⟨oc,od,kV,doc,pm,an,cdv,ct,osl,rfl,lk,U⟩:=F.ex;refine JG lk U S len λA outer s H vs Q E hr O=>?_;obtain⟨t,h,q⟩:=z cdv A outer s H vs Q E hr O;exact⟨t,h.BF,q⟩
theorem Dd.binds{x qual:Str}{st:Stmt}{f:Addr}{fd:FuncData}{ps:List Str}(F:Dd K x qual st f fd)
  (h:∀(kV doc pm:Value)(an:Option Addr)(cdv ct:Value)(us:Z4),us.length=ps.length->bindArgs (PySem.W.fnOf x qual (fw st) (du st) (aq st) .none kV doc pm an cdv ct) ⟨us,[]⟩=pure (ps.zip us)):Binds K fd ps []:=by
 obtain⟨oc,od,kV,doc,pm,an,cdv,ct,osl,rfl,O,z⟩:=F.ex;exact .all (h kV doc pm an cdv ct)
theorem zi{x qual:Str}{st:Stmt}{f:Addr}{oc:Value}{od an:Option Addr}{osl:Array (Z5)}{kV doc pm cdv ct:Value}(l:K.lookup f=some ⟨oc,od,.func (PySem.W.fnOf x qual (fw st) (du st) (aq st) .none kV doc pm an cdv ct),osl⟩)
  (c:PySem.W.codeIn K cdv qual=true) (k:PySem.W.keepIn K (.ref f)=true):Dd K x qual st f (PySem.W.fnOf x qual (fw st) (du st) (aq st) .none kV doc pm an cdv ct):=⟨⟨oc,od,kV,doc,pm,an,cdv,ct,osl,rfl,l,c⟩,k⟩
end
theorem jF{A:Around}{k:Nat}(z:fV k A):A.units+1<cLine:=Yb (Nat.add_le_add_left (by decide:1<=64) _) z.units
section
variable{X:Cx}
theorem pv(i:Nat){x:Str}{pos:Pos}(O:X.N[i]? = some x:=by rfl)(hv:Sf X.env.scope x:=by first|exact YI rfl|exact Or.inr (YI rfl)|exact Or.inr (Or.inr rfl))(hd:(x==("__debug__" : Str))=false:=by decide)
  (z:(x==("__classdict__" : Str))=false:=by decide):PE X (.Name x pos) (br i):=y_ O hv hd z
end
theorem cK{A B:Prop}(h:B):if false=true then A else B:=by rw[YF Yh];exact h
theorem cJ{A B:Prop}(h:A):if true=true then A else B:=by rw[YG rfl];exact h
theorem fY{c A B:Prop} [Decidable c](h1:c->A)(h2:¬c->B):if c then A else B:=by
 by_cases h:c
 ·rw[YG h];exact h1 h
 ·rw[YF h];exact h2 h
def aH(H H':Hp):Prop:=∀b o,H b=some o->H' b=some o
theorem aH.refl(H:Hp):aH H H:=λ_ _ h=>h
theorem aH.trans{H H1 H2:Hp}(a:aH H H1)(b:aH H1 H2):aH H H2:=λc o h=>b c o (a c o h)
def bS(cells:List (Str×Addr)):List (Str×NameKind)->List (Str×Addr)->List (Str×Addr)
 |[],acc=>acc
 | (n,k)::r,acc=>bS cells r (if(k==NameKind.free)=true then(n,(cells.lookup n).getD 0)::acc else acc)
theorem uG{cells:List (Str×Addr)}{x:Str}{c:Addr}:∀{ns:List (Str×NameKind)}{acc:List (Str×Addr)},(x,c)∈bS cells ns acc->((x,NameKind.free)∈ns/\c=(cells.lookup x).getD 0)\/(x,c)∈acc
 |[],_,h=>.inr h
 | (n,k)::r,acc,h=>by
  have q:=uG (ns:=r) h;rcases q with⟨O,U⟩|q
  ·exact .inl ⟨Yg _ O,U⟩
  ·by_cases z:(k==NameKind.free)=true
   ·rw[YG z]at q;have ek:k=NameKind.free:=by simpa using z
    rcases Ym.mp q with e|q
    ·cases e;subst ek;exact .inl ⟨YA,rfl⟩
    ·exact .inr q
   ·rw[YF z]at q;exact .inr q
theorem uu{cells:List (Str×Addr)}{p:Str×Addr}:∀{ns:List (Str×NameKind)}{acc:List (Str×Addr)},p∈acc->p∈bS cells ns acc
 |[],_,h=>h
 | (n,k)::r,acc,h=>by
  refine uu (ns:=r) ?_;split
  ·exact Yg _ h
  ·exact h
theorem tX{cells:List (Str×Addr)}{x:Str}:∀{ns:List (Str×NameKind)}{acc:List (Str×Addr)},(x,NameKind.free)∈ns->(x,(cells.lookup x).getD 0)∈bS cells ns acc
 | (n,k)::r,acc,h=>by
  rcases Ym.mp h with e|h
  ·cases e;refine uu (ns:=r) ?_;rw[YG (by rfl)];exact YA
  ·exact tX (ns:=r) h
theorem mP{x:Str}{c:Addr}:∀{l:List (Str×Addr)},(x,c)∈l->∃z,l.lookup x=some z
 | (n,d)::r,h=>by
  rw[YS];cases e:x==n with
  |true=>exact⟨d,rfl⟩
  |false =>
   rcases Ym.mp h with q|q
   ·cases q;simp at e
   ·exact mP q
theorem ux{env:Env}(f:(Str×NameKind)->List (Str×Addr)->Sem (ForInStep (List (Str×Addr))))(O:∀n acc c,env.cells.lookup n=some c->f (n,.free) acc=pure (.yield ((n,c)::acc)))
  (U:∀n k acc,(k==NameKind.free)=false->f (n,k) acc=pure (.yield acc)):∀(ns:List (Str×NameKind))(acc:List (Str×Addr)),(∀y∈ns,y.2=.free->∃c,env.cells.lookup y.1=some c)->forIn ns acc f=pure (bS env.cells ns acc)
 |[],_,_=>rfl
 | (n,k)::r,acc,h=>by
  have ih:=λz=>ux f O U r z λy hy=>h y (Yg _ hy);rw[List.forIn_cons];cases hk:k==NameKind.free with
  |true =>
   have ek:k=NameKind.free:=by simpa using hk
   subst ek;obtain⟨c,e⟩:=h (n,.free) YA rfl;have e':env.cells.lookup n=some c:=e;rw[O n acc c e];show forIn r ((n,c)::acc) f=_;rw[ih];show _=pure (bS env.cells r (if(NameKind.free==NameKind.free)=true then(n,(env.cells.lookup n).getD 0)::acc else acc));rw[YG (by rfl),e'];rfl
  |false =>rw[U n k acc hk];show forIn r acc f=_;rw[ih];show _=pure (bS env.cells r (if(k==NameKind.free)=true then(n,(env.cells.lookup n).getD 0)::acc else acc));rw[YF (by rw[hk];decide)]
theorem cX{scope:Scope}{env:Env}(h:∀y∈scope.names,y.2=.free->∃c,env.cells.lookup y.1=some c):closureFor scope env=pure (bS env.cells scope.names []):=by
 unfold closureFor;show(forIn scope.names [] _ >>= _)=_;rw[ux (env:=env) _ ?_ ?_ scope.names [] h]
 ·rfl
 ·intro n acc c e;show(if(NameKind.free==NameKind.free)=true then _ else _)=_;rw[YG (by rfl)];unfold cellOf;rw[e];first|rfl|skip
 ·intro n k acc z;show(if(k==NameKind.free)=true then _ else _)=_;rw[YF (by rw[z];decide)]
abbrev aV(X:Cx)(N':List Str)(sc:Scope)(cl:List (Str×Addr))(C:Addr)(s:Shared)(H:Hp)(fp:Z6):Cx :=
 {X with N:=N',s₀:=s,H₀:=H,env:=compEnvC sc cl C X.env,outer:=X.stack,stack:=X.stack,ex:=fp,fn:=λx=>sc.names.lookup x==some NameKind.local,pn:=[],xe:=λ_ _=>False}
structure bq(Gy:Scope)(ON N':List Str)(src:List (Option Nat))(sc:Scope):Prop where
 kind:sc.kind=.function
 Tb:Gy.kind=.function
 uniq:∀y∈sc.names,sc.names.lookup y.1=some y.2
 rD:∀y∈sc.names,y.2≠ .cell
 free:∀y∈sc.names,y.2=.free->Gy.names.lookup y.1=some .cell\/Gy.names.lookup y.1=some .free
 len:src.length=N'.length
 src:∀(i:Nat)(x:Str)(j:Nat),N'[i]? = some x->src[i]? = some (some j)->ON[j]? = some x/\sc.names.lookup x=some .free
def kP(src:List (Option Nat))(σ:St):St:=src.map λo=>o.bind λj=>(σ[j]?).bind id
theorem Gd{src:List (Option Nat)}{σ:St}{i:Nat}{v:V}(h:(kP src σ)[i]? = some (some v)):∃j,src[i]? = some (some j)/\σ[j]? = some (some v):=by
 unfold kP at h;rw[Yu]at h;cases e:src[i]? with
 |none=>rw[e]at h;cases h
 |some o =>
  rw[e]at h;cases o with
  |none=>cases h
  |some j =>
   have h':(σ[j]?).bind id=some v:=Yr h;cases e2:σ[j]? with
   |none=>rw[e2]at h';cases h'
   |some w =>rw[e2]at h';have z:w=some v:=h';exact⟨j,rfl,by rw[e2,z]⟩
def jK(X:Cx)(ifs:List Expr)(t:TT):Prop :=
 ∀(ac:eN)(s:Shared)(σ:St)(H:Hp)(Q:Bool->Hp->Prop),Inv X ac σ H s->t σ H Q->
  wpAny (model X.prog X.w) X.A (forIn ifs true λc r=>if r=true then do let ok←isTrue c X.env (eval c X.env);pure (ForInStep.yield ok)else pure (ForInStep.yield r)) (TP X ac σ Q) X.xe s
def Ef:TT:=λ_ H Q=>Q true H
theorem bD{X:Cx}:jK X [] Ef:=λ_ _ _ H _ I h=>wpAny_tests_nil ⟨H,I,h⟩
theorem dX{X:Cx}{c:Expr}{t:TT}(h:PT X c t):jK X [c] t:=λac s σ H Q I q=>wpAny_tests_one (h ac s σ H Q I q)
def qd(J:It)(g:TG)(tc:TT)(te:TE)(D:Addr)(Q:VK)(W:Nat->Nat->St->List V->Hp->Prop):Prop :=
 ∀i m σ ys H,W i m σ ys H->H D=some (.lst ys)/\((J.stop i H/\Q (.ref D) H)\/(J.go i H/\ys.length<sizeLine/\∃N:St->List V->Hp->Prop,(∀σ' z H',N σ' z H'->∃U,U<m/\W (i+1) U σ' z H')/\
  ∀x H',J.FL i H x H'->g x σ H' λO H2=>tc O H2 λb H3 =>
   if b=true then te O H3 λv H4=>H4 D=some (.lst ys)/\N O (ys++[v]) (upd H4 D (.lst (ys++[v])))else N O ys H3))
def Di(src:List (Option Nat))(wi:TI)(g:TG)(tc:TT)(te:TE):TE:=λσ H Q=>wi σ H λJ H1=>∀D,H1 D=none->
 ∃W:Nat->Nat->St->List V->Hp->Prop,(∃m,W 0 m (kP src σ) [] (upd H1 D (.lst [])))/\qd J g tc te D Q W
section
variable{X:Cx}{elt target iter:Expr}{ifs:List Expr}{sc:Scope}{pos:Pos}{wi:TI}{g:TG}{tc:TT}{te:TE}{N':List Str}{src:List (Option Nat)}
theorem za{it acc:Value}{env:Env}{prog:Program}{w:World}{A:Around}{s:Shared}{R:Z3}{F:nT}(hF:∀ev s',F ev s'->notedBy (model prog w) A env (λx s'=>R (.error x) s') ev s')(Iv:Nat->Shared->Prop)
  (turn:∀n s,Iv n s->wpAny (model prog w) A (pyNext it) (λr O=>match r with
   |none=>R (.ok .next) O
   |some v=>wpAny (model prog w) A (letOwnedTupleGo target it v) (λ_ U=>wpAny (model prog w) A (assign target env v) (λ_ s₂ =>
     wpAny (model prog w) A (forIn ifs true λc r=>if r=true then do let ok←isTrue c env (eval c env);pure (ForInStep.yield ok)else pure (ForInStep.yield r)) (λok s₃ =>
      if ok=true then wpAny (model prog w) A (eval elt env) (λx s₄ =>
       wpAny (model prog w) A (call (.builtin "list.append") [acc,x]) (λ_ s₅=>∃m,m<n/\Iv m s₅) F s₄) F s₃
      else∃m,m<n/\Iv m s₃) F s₂) F U) F O) F s)
  (n:Nat) (h:Iv n s):codeAny (model prog w) A (.compLoop (.ListComp elt [⟨target,iter,ifs,0⟩] sc pos) 0 it acc env) R s:=by
 refine codeAny_loop rfl Iv (λn s hI=>?_) n h;show wpAny _ A ((compTurn (.ListComp elt [⟨target,iter,ifs,0⟩] sc pos) 0 it acc env).onRaise (λx=>do noteFrame x env;theTreesLotGoes x)) _ _ s;refine wpAny_noted ?_;rw[compTurn_list];refine Yx (E:=F) ?_ (λ_ _ z=>z) hF;refine X0 (wpAny_standAt (X0 (cu (turn n s hI) λr O h₁=>?_)));cases r with
 |none=>exact X1 h₁
 |some v =>
  refine X0 (cu h₁ λ_ U h₁'=>X0 (cu h₁' λ_ s₂ h₂=>X0 (cu h₂ λok s₃ h₃=>?_)));cases ok with
  |false=>exact X1 ⟨rfl,h₃⟩
  |true=>exact X0 (X0 (cu h₃ λx s₄ h₄=>X0 (cu h₄ λ_ s₅ h₅=>X1 (X1 ⟨rfl,h₅⟩))))
theorem j5{ac:eN}{σ:St}{H:Hp}{s:Shared}{h1:Heap}{fp:Z6}(S:bq X.env.scope X.N N' src sc)(I:Inv X ac σ H s)(f2:∀b∈fp,eI X ac H b)(o2:∀b∈fp,b<s.heap.objs.size)
  (ns:h1.Ns s.heap.objs.size λx=>(([]:List (Str×Value)).reverse.lookup x)) (sb:Heap.SameBut s.heap.objs.size (s.heap.push {cls:=.type "dict",data:=.dict #[]}) h1) {tk:Nat} :
  Inv (aV X N' sc (bS X.env.cells sc.names []) s.heap.objs.size s H fp) [] (kP src σ) H {s with heap:=h1,toks:=tk}:=by
 have old:∀b o,s.heap.get? b=some o->h1.get? b=some o:=λb o e=>(sb.2 b (Yp (X3 e))).trans (X2 _ e);have U:∀x c,(bS X.env.cells sc.names []).lookup x=some c->X.env.cells.lookup x=some c/\sc.names.lookup x=some .free:=λx c e=>by
  rcases uG (mem_of_lookup e)with⟨m,q⟩|z
  ·obtain⟨c',e'⟩:=I.ok.has x (S.free _ m rfl);rw[e']at q;exact⟨by rw[e',q];rfl,S.uniq _ m⟩
  ·cases z
 have K_:∀x,sc.names.lookup x=some .free->∃c,(bS X.env.cells sc.names []).lookup x=some c:=λx e=>mP (tX (mem_of_lookup e));have kinds:∀(x:Str)(k:NameKind),(relabel sc X.env).names.lookup x=some k->(k=.cell\/k=.free)->sc.names.lookup x=some .free:=λx k e hk=>by
  have gen:∀ns:List (Str×NameKind),(∀y∈ns,y.2≠ .cell)->(ns.map λ(n,k)=>if(k==NameKind.free&&X.env.scope.kind == .function&&X.env.kindOf n==some .cell)then(n,NameKind.cell)else(n,k)).lookup x=some k->ns.lookup x=some .free:=by
   intro ns;induction ns with
   |nil=>intro _ h;cases h
   |cons y r ih =>
    obtain⟨n,k1⟩:=y;intro hn h;rw[YT]at h;dsimp only at h;by_cases hc:(k1==NameKind.free&&X.env.scope.kind == .function&&X.env.kindOf n==some .cell)=true
    ·rw[YG hc,YS]at h;rw[YS];cases O:x==n with
     |true =>
      have:k1=NameKind.free:=by
       cases hk1:k1==NameKind.free with
       |true=>simpa using hk1
       |false=>rw[hk1]at hc;simp at hc
      rw[this]
     |false=>rw[O]at h;exact ih (λy hy=>hn y (Yg _ hy)) h
    ·rw[YF hc,YS]at h;rw[YS];cases O:x==n with
     |true =>
      rw[O]at h;have h':k1=k:=Yr h;rcases hk with hk|hk
      ·exact YE (h'.trans hk) (hn (n,k1) YA)
      ·show some k1=_;rw[h',hk]
     |false=>rw[O]at h;exact ih (λy hy=>hn y (Yg _ hy)) h
  exact gen sc.names S.rD e
 have OM:∀x,sc.names.lookup x=some .free->(relabel sc X.env).names.lookup x=some .cell\/(relabel sc X.env).names.lookup x=some .free:=λx e=>by
  have gen:∀ns:List (Str×NameKind),ns.lookup x=some .free->(ns.map λ(n,k)=>if(k==NameKind.free&&X.env.scope.kind == .function&&X.env.kindOf n==some .cell)then(n,NameKind.cell)else(n,k)).lookup x=some .cell\/
    (ns.map λ(n,k)=>if(k==NameKind.free&&X.env.scope.kind == .function&&X.env.kindOf n==some .cell)then(n,NameKind.cell)else(n,k)).lookup x=some .free:=by
   intro ns;induction ns with
   |nil=>intro h;cases h
   |cons y r ih =>
    obtain⟨n,k1⟩:=y;intro h;rw[YT];dsimp only;rw[YS]at h;by_cases hc:(k1==NameKind.free&&X.env.scope.kind == .function&&X.env.kindOf n==some .cell)=true
    ·rw[YG hc,YS];cases O:x==n with
     |true=>exact .inl rfl
     |false=>rw[O]at h;exact ih h
    ·rw[YF hc,YS];cases O:x==n with
     |true =>rw[O]at h;exact .inr h
     |false=>rw[O]at h;exact ih h
  exact gen sc.names e
 refine⟨⟨I.mod,?_,I.ok.glob,I.ok.blt,X5 _,λx y c h1 h2=>I.ok.inj x y c (U x c h1).1 (U y c h2).1,λx O=>?_,λx c hf h=>?_,I.ok.hd,I.ok.frames,.inl rfl,λb hb=>⟨?_,λx c h=>?_⟩,I.bs,?_,λb o e hb=>?_,λb hb hs=>?_,I.stack,I.qH⟩,
  rfl,I.bare,Un.kept old,⟨_,ns,λi x v h1 h2 h3=>?_⟩,λx c h=>?_,I.hok.fresh (X5 _),λx c h=>I.mQ x c (U x c h).1,λp hp=>YE (show p∈([]:eN) from hp) (by simp),I.hok.kept old,?_⟩
 ·show(relabel sc X.env).kind=.function;exact S.kind
 ·obtain O|O:=O
  ·exact K_ x (kinds x _ O (.inl rfl))
  ·exact K_ x (kinds x _ O (.inr rfl))
 ·have e2:=(U x c h).2;have hf':(sc.names.lookup x==some NameKind.local)=true:=hf;rw[e2]at hf';cases hf'
 ·exact Yp (o2 b hb)
 ·exact(f2 b hb).2.2.2.2.1 x c (U x c h).1
 ·exact X6 I.ok.I0 I.sz
 ·rcases(f2 b hb).2.2.2.1 with z|z
  ·exact I.ok.EU b o e z
  ·exact YE (Yc (X3 e) (X6 I.ok.I0 z)) (Nat.lt_irrefl _)
 ·rcases Ym.mp (I.Aq b hs)with z|z
  ·exact(f2 b hb).2.1 z
  ·exact(f2 b hb).2.2.1 z
 ·obtain⟨j,e1,e2⟩:=Gd h2;obtain⟨e3,e4⟩:=S.src i x j h1 e1;obtain⟨m,hn,hl⟩:=I.loc;have kx:=S.free _ (mem_of_lookup e4) rfl;obtain⟨u,ru,l⟩:=hl j x v e3 e2 (.inr kx);refine⟨u,ru,.inr ⟨OM x e4,?_⟩⟩;obtain⟨c,hc⟩:=K_ x e4;refine⟨c,hc,?_⟩;have hc':=(U x c hc).1;rcases l with⟨lk,_⟩|⟨_,c',lc,z⟩
  ·have SS:X.env.scope.names.lookup x=some .local:=lk;rcases kx with q|q
   ·have q':X.env.scope.names.lookup x=some .cell:=q;rw[SS]at q';cases q'
   ·have q':X.env.scope.names.lookup x=some .free:=q;rw[SS]at q';cases q'
  ·rw[hc']at lc;cases lc;obtain⟨o,ho,hd⟩:=z;exact⟨o,old _ _ ho,hd⟩
 ·obtain⟨v,o,ho,hd⟩:=I.cell x c (U x c h).1;exact⟨v,o,old _ _ ho,hd⟩
 ·show(kP src σ).length=N'.length;unfold kP;rw[X9];exact S.len
abbrev om(F:Cx->nT)(Y:Cx):Cx:=Y.wish (F Y)
theorem l3{F:Cx->nT}{RR:Value->Addr->Z3}{ac:eN}{σ:St}{H2:Hp}{s2:Shared}{it:Addr}{fp:Z6}{tn:Nat->Heap->Prop}{J:It}{Q:VK}{E2:nT}
  (hc:X.calm=true) (S:bq X.env.scope X.N N' src sc)
  (hg:∀cl C s H fp,PG (om F (aV X N' sc cl C s H fp)) target g) (ht:∀cl C s H fp,jK (om F (aV X N' sc cl C s H fp)) ifs tc) (he:∀cl C s H fp,PE (om F (aV X N' sc cl C s H fp)) elt te)
  (I2:Inv X ac σ H2 s2) (T:Turn X.prog X.w X.K target J fp it tn) (st2:tn 0 s2.heap) (f2:∀b∈fp,eI X ac H2 b)
  (hW:∀D,H2 D=none->∃W:Nat->Nat->St->List V->Hp->Prop,(∃m,W 0 m (kP src σ) [] (upd H2 D (.lst [])))/\qd J g tc te D Q W)
  (hRR:∀D C s5 H' m,Inv X ac σ H' s5->s5.heap.Ns C m->eI X ac H' C->Q (.ref D) H'->RR (.ref D) C (.ok .next) s5)
  (hF:∀(O:Shared)(H3:Hp)(D:Addr) ev s',Inv X ac σ H3 O->(∀b∈fp,eI X ac H3 b)->F (aV X N' sc (bS X.env.cells sc.names []) O.heap.objs.size O H3 fp) ev s'->notedBy (model X.prog X.w) X.A (compEnvC sc (bS X.env.cells sc.names []) O.heap.objs.size X.env) (λx s''=>RR (.ref D) O.heap.objs.size (.error x) s'') ev s') :
  wpAny (model X.prog X.w) X.A (newList []) (λacc s₃=>wpAny (model X.prog X.w) X.A (newFunctionEnv sc X.env.globals (bS X.env.cells sc.names []) [] X.env.qual none .none (some X.env)) (λcenv s₄ =>
   codeAny (model X.prog X.w) X.A (.compStart (.ListComp elt [⟨target,iter,ifs,0⟩] sc pos) 0 (.ref it) acc {cenv with scope:=relabel sc X.env}) (RR acc cenv.locals) s₄) E2 s₃) E2 s2:=by
 have o2:∀b∈fp,b<s2.heap.objs.size:=λb U=>by obtain⟨o,z,_⟩:=T.obj 0 _ st2 b U;exact X3 z
 refine Yz ?_;have Mb:H2 s2.heap.objs.size=none:=I2.hok.fresh (X5 _);obtain⟨W,⟨m0,w0⟩,turn⟩:=hW s2.heap.objs.size Mb;have I3:Inv X ac σ (upd H2 s2.heap.objs.size (.lst [])) {s2 with heap:=s2.heap.push {cls:=.type "list",dict:=none,data:=.seq ([]:Z4).toArray}} :=
  I2.laid (t':=s2.toks) (λb u z=>X2 _ z) (X5 _) ⟨Yq _,[],0,.nil,X4 _ rfl⟩
 have st3:tn 0 (s2.heap.push {cls:=.type "list",dict:=none,data:=.seq ([]:Z4).toArray}):=T.keep 0 _ _ st2 λb U o z=>X2 _ z;generalize hs3:({s2 with heap:=s2.heap.push {cls:=.type "list",dict:=none,data:=.seq ([]:Z4).toArray}}:Shared)=O at I3;have hh3:O.heap=s2.heap.push {cls:=.type "list",dict:=none,data:=.seq ([]:Z4).toArray}:=by rw[←hs3]
 have GD:s2.heap.objs.size<O.heap.objs.size:=by rw[hh3,Heap.size_push];exact Nat.lt_succ_self _
 have o3:∀b∈fp,b<O.heap.objs.size:=λb U=>Nat.lt_trans (o2 b U) GD;have f3:∀b∈fp,eI X ac (upd H2 s2.heap.objs.size (.lst [])) b:=λb U=>⟨by rw[aI (Yp (o2 b U))];exact(f2 b U).1,(f2 b U).2⟩;rw[←hh3]at st3;refine wpAny_newFunctionEnv S.rD (by intro y hy;simp at hy) (λh1 hns hsb=>?_) S.kind;have hsb':Heap.SameBut O.heap.objs.size (O.heap.push {cls:=.type "dict",data:=.dict #[]}) h1:=hsb;generalize hY:aV X N' sc (bS X.env.cells sc.names []) O.heap.objs.size O (upd H2 s2.heap.objs.size (.lst [])) fp=Y;have I4:Inv Y [] (kP src σ) (upd H2 s2.heap.objs.size (.lst [])) {O with heap:=h1,toks:=O.toks+([]:List (Str×Value)).length}:=by rw[←hY];exact j5 S I3 f3 o3 hns hsb'
 have Dx:tn 0 h1:=T.keep 0 _ _ st3 λb U o z=>(hsb'.2 b (Yp (o3 b U))).trans (X2 _ z);have fC:∀(H':Hp),H' O.heap.objs.size=none->eI X ac H' O.heap.objs.size:=λH' hn=>I3.pH (X5 _) hn;have loop:codeAny (model X.prog X.w) X.A (.compLoop (.ListComp elt [⟨target,iter,ifs,0⟩] sc pos) 0 (.ref it) (.ref s2.heap.objs.size) (compEnvC sc (bS X.env.cells sc.names []) O.heap.objs.size X.env))
   (RR (.ref s2.heap.objs.size) O.heap.objs.size) {O with heap:=h1,toks:=O.toks+([]:List (Str×Value)).length}:=by
  have stat:∀{H':Hp},(∀b∈fp,H' b=none)->∀b∈fp,eI (om F Y) [] H' b:=λhn b U=>by have z:=I4.ok;subst hY;exact⟨hn b U,(z.GV b U).1,z.xR b U,.inl U,(z.GV b U).2,λp hp=>YE (show p∈([]:eN) from hp) (by simp)⟩
  have RD:=hg (bS X.env.cells sc.names []) O.heap.objs.size O (upd H2 s2.heap.objs.size (.lst [])) fp;have htY:=ht (bS X.env.cells sc.names []) O.heap.objs.size O (upd H2 s2.heap.objs.size (.lst [])) fp;have QR:=he (bS X.env.cells sc.names []) O.heap.objs.size O (upd H2 s2.heap.objs.size (.lst [])) fp;refine za (F:=F Y) (λev s' hx=>by subst hY;exact hF _ _ _ _ _ I3 f3 hx) (λn s'=>∃i σ' ys H',Inv (om F Y) [] σ' H' s'/\tn i s'.heap/\(∀b∈fp,H' b=none)/\W i n σ' ys H') ?_ m0
   ⟨0,_,[],_,I4.wish _,Dx,λb U=>(f3 b U).1,w0⟩
  rintro n s5 ⟨i,qL,ys,H5,I5,wt,yv,w5⟩;obtain⟨hD,alt⟩:=turn i n qL ys H5 w5;subst hY;rcases alt with⟨stop,qn⟩|⟨go,hsz,N,hN,step⟩
  ·refine cu (T.done (om F (aV X N' sc (bS X.env.cells sc.names []) O.heap.objs.size O (upd H2 s2.heap.objs.size (.lst [])) fp)) rfl rfl rfl hc i [] s5 qL H5 _ I5 (stat yv) wt stop) λr s6 zz=>?_;obtain⟨hr,I6⟩:=zz;subst hr;obtain⟨m6,n6,_⟩:=id I6.loc;exact hRR _ _ s6 H5 m6 (I3.call' I6.os I6.base I6.hok I6.bare λb U=>⟨(f3 b U).2.2.2.1,(f3 b U).2.1,(f3 b U).2.2.2.2.1,(f3 b U).2.2.2.2.2⟩) n6 (fC _ I6.free) qn
  ·refine cu (T.item (om F (aV X N' sc (bS X.env.cells sc.names []) O.heap.objs.size O (upd H2 s2.heap.objs.size (.lst [])) fp)) rfl rfl rfl hc i [] s5 qL H5 _ I5 (stat yv) wt go) λr s6 zz=>?_;obtain⟨u,hr,h6⟩:=zz;subst hr;refine cu h6 λ_ s7 zz=>?_;obtain⟨x,H7,I7,r7,y7,vA,Iw⟩:=zz;have Hr:=I7.pinned (stat Iw) (T.obj _ _ vA);refine cu (RD _ s7 qL H7 x u _ Hr r7 (step x H7 y7)) λ_ s8 zz=>?_;obtain⟨wq,H8,I8,q8⟩:=zz;refine cu (htY _ s8 wq H8 _ I8 q8) λb s9 zz=>?_;obtain⟨H9,I9,q9⟩:=zz;have again:∀{σ':St}{H':Hp}{s':Shared}{ys':List V}{m':Nat},Inv (om F (aV X N' sc (bS X.env.cells sc.names []) O.heap.objs.size O (upd H2 s2.heap.objs.size (.lst [])) fp)) ([]++kQ fp s7.heap) σ' H' s'->m'<n->W (i+1) m' σ' ys' H'->
     ∃m,m<n/\∃i σ' ys H',Inv (om F (aV X N' sc (bS X.env.cells sc.names []) O.heap.objs.size O (upd H2 s2.heap.objs.size (.lst [])) fp)) [] σ' H' s'/\tn i s'.heap/\(∀b∈fp,H' b=none)/\W i m σ' ys H':=λ{σ' H' s' ys' m'} I' hm w'=>by
    refine⟨m',hm,i+1,σ',ys',H',I'.iG,T.keep _ _ _ vA λb U o z=>(I'.pin (b,o) (Ye _ (Ye _ (cV U z)))).1,λb U=>?_,w'⟩;obtain⟨o,z,d⟩:=T.obj _ _ vA b U;exact(I'.pin (b,o) (Ye _ (Ye _ (cV U z)))).2.1
   cases b with
   |false =>rw[YF Yh]at q9⊢;obtain⟨m',hm,w'⟩:=hN _ _ _ q9;exact again I9 hm w'
   |true =>rw[YG rfl]at q9⊢;refine cu (QR _ s9 wq H9 _ I9 q9) λxv qN zz=>?_;obtain⟨v,Df,NH,r10,M3,w10⟩:=zz;obtain⟨m',hm,w'⟩:=hN _ _ _ w10;have Om:qK (.ref s2.heap.objs.size) [v] Df λ_ H'=>H'=upd Df s2.heap.objs.size (.lst (ys++[v])):=⟨_,ys,v,rfl,rfl,M3,hsz,rfl⟩;refine cu (cb _ qN wq Df _ _ _ _ _ NH (show RelV (.ref s2.heap.objs.size) (.ref s2.heap.objs.size) from rfl) (.cons r10 .nil) Om) λ_ Uh zz=>?_;obtain⟨_,To,Mx,_,Ro⟩:=zz;rw[Ro]at Mx;exact again Mx hm w'
 exact codeAny_compStart_list loop (T.self _ 0 _ _ _ Dx loop)
theorem bM(hc:X.calm=true)(S:bq X.env.scope X.N N' src sc)(hi:PI X target iter wi)
  (hg:∀cl C s H fp,PG (aV X N' sc cl C s H fp) target g) (ht:∀cl C s H fp,jK (aV X N' sc cl C s H fp) ifs tc) (he:∀cl C s H fp,PE (aV X N' sc cl C s H fp) elt te)
  (hs:∀x,foldedSetIterable iter X.env x=pure x:=by intro _;rfl) :
  PE X (.ListComp elt [⟨target,iter,ifs,0⟩] sc pos) (Di src wi g tc te):=by
 intro ac s σ H Q I h;rw[eval_ListComp];refine wpAny_comprehension_free (use:=none) rfl hs (cX λy U hk=>I.ok.has y.1 (S.free y U hk)) S.kind (λy U hl=>by rw[←hl];exact S.uniq y U) ?_;refine cu (hi ac s σ H _ I h) λv s1 h1=>cu h1 λitv s2 h2=>?_;obtain⟨it,fp,tn,J,H2,e,I2,T,st2,f2,hW⟩:=h2;subst e;refine l3 (F:=λ_ _ _=>False) (Q:=Q) (RR:=λacc C=>compPost (model X.prog X.w) X.A X.xe none (EP X ac σ Q) acc C) hc S hg ht he I2 T st2 f2 hW ?_ λ_ _ _ _ _ _ _ z=>YK z;intro D C s5 H' m I5 n5 O q;refine⟨m,n5,λh' sb=>⟨.ref D,H',?_,rfl,q⟩⟩;exact I5.turned (t':=s5.toks) (λb o hb e=>(sb.2 b hb).trans e) O.1 O.2.1 O.2.2.2.1 O.2.2.2.2.1 O.2.2.2.2.2
theorem fE{i:Nat}{x:Str}{pos' O:Pos}(hN:X.N.Nodup)(hi':X.N[i]? = some x)(hx:Loc X.env.scope x)(hsw:swapsWith (.ListComp elt [⟨target,iter,ifs,0⟩] sc pos) (some (.Name x pos')) O.line X.env=pure true)
  (hc:X.calm=true) (S:bq X.env.scope X.N N' src sc) (hi:PI X target iter wi)
  (hg:∀cl C s H fp,PG (aV X N' sc cl C s H fp) target g) (ht:∀cl C s H fp,jK (aV X N' sc cl C s H fp) ifs tc) (he:∀cl C s H fp,PE (aV X N' sc cl C s H fp) elt te)
  (hf:X.fn x=true\/X.env.scope.names.lookup x=some .local:=by first|exact .inl rfl|exact .inr rfl|assumption)
  (hs:∀x,foldedSetIterable iter X.env x=pure x:=by intro _;rfl) :
  PS X (.Assign [.Name x pos'] (.ListComp elt [⟨target,iter,ifs,0⟩] sc pos) O) (yl (Di src wi g tc te) (b9 i)):=by
 intro ac s σ H D I h;rw[exec_Assign_Name_used _ _ _ _ hsw];refine X0 (wpAny_standAt (X0 ?_));show wpAny _ _ (comprehension _ _ _ _ _ _ _ _ >>= _) _ _ s;refine X0 (wpAny_comprehension_free (use:=some (assign (.Name x pos') X.env)) rfl hs (cX λy hy hk=>I.ok.has y.1 (S.free y hy hk)) S.kind (λy hy hl=>by rw[←hl];exact S.uniq y hy) ?_);refine cu (hi ac s σ H _ I h) λv s1 h1=>cu h1 λitv s2 h2=>?_;obtain⟨it,fp,tn,J,H2,e,I2,T,st2,f2,hW⟩:=h2;subst e;refine l3 (F:=λ_ _ _=>False) (Q:=λy H'=>D.nx (σ.set i (some y)) H') (RR:=λacc C=>compPost (model X.prog X.w) X.A X.xe (some (assign (.Name x pos') X.env)) _ acc C) hc S hg ht he I2 T st2 f2 hW ?_ λ_ _ _ _ _ _ _ z=>YK z;intro D' C s5 H' m I5 n5 U q;refine wpAny_assign_Name (pM I5 hN hi' hx (show RelV (.ref D') (.ref D') from rfl) (λs6 I6 hsb=>?_) hf);obtain⟨a,sb,ha⟩:=hsb;have Rg:C≠a:=by
  rcases ha with z|z
  ·rw[z];exact U.2.1
  ·exact λe=>U.2.2.2.2.1 x a z e.symm
 refine⟨m,n5.sameBut sb Rg,λh' RZ=>?_⟩;refine X1 (X1 ?_);exact⟨_,H',I6.turned (t':=s6.toks) (λb o hb e=>(RZ.2 b hb).trans e) U.1 U.2.1 U.2.2.2.1 U.2.2.2.2.1 U.2.2.2.2.2,q⟩
end
def Bt(Gy:Scope)(ON N':List Str)(src:List (Option Nat))(sc:Scope):Bool :=
 sc.kind == .function&&Gy.kind == .function&&sc.names.all (λy=>sc.names.lookup y.1==some y.2&&y.2 != .cell&&(y.2 != .free||Gy.names.lookup y.1==some .cell||Gy.names.lookup y.1==some .free)) &&
 src.length==N'.length&&(N'.zip src).all λy=>match y.2 with|none=>true|some j=>ON[j]? == some y.1&&sc.names.lookup y.1==some .free
theorem bq.jN{Gy:Scope}{ON N':List Str}{src:List (Option Nat)}{sc:Scope}(h:Bt Gy ON N' src sc=true):bq Gy ON N' src sc:=by
 unfold Bt at h;simp only[YC]at h;obtain⟨⟨⟨⟨h1,h2⟩,h3⟩,h4⟩,h5⟩:=h;have O:=List.all_eq_true.mp h3;have Xk:=List.all_eq_true.mp h5;refine⟨by simpa using h1,by simpa using h2,λy U=>?_,λy U=>?_,λy U hf=>?_,by simpa using h4,λi x j e1 e2=>?_⟩
 ·have:=O y U;simp only[YC]at this;simpa using this.1.1
 ·have:=O y U;simp only[YC]at this;simpa using this.1.2
 ·have:=O y U;simp only[YC,Bool.or_eq_true]at this;rcases this.2 with(z|z)|z
  ·rw[hf]at z;exact YE z (by decide)
  ·exact .inl (by simpa using z)
  ·exact .inr (by simpa using z)
 ·have m:(x,some j)∈N'.zip src:=by refine Yf (i:=i) ?_;rw[List.getElem?_zip_eq_some];exact⟨e1,e2⟩
  have:=Xk _ m;simp only[YC]at this;exact⟨by simpa using this.1,by simpa using this.2⟩
section
variable{g:TG}{tc:TT}{te:TE}{D:Addr}{Q:VK}{sD:St}{H0:Hp}
theorem eT{lo:Int}{n:Nat}(Pv:Nat->St->List V->Hp->Prop)(h0:Pv 0 sD [] H0)(U:∀i σ ys H,i<=n->Pv i σ ys H->H D=some (.lst ys)/\ys.length<=i)(hz:n<=sizeLine)
  (hs:∀i σ ys H,i<n->Pv i σ ys H->g (.int (lo+i)) σ H λO H2=>tc O H2 λb H3=>if b=true then te O H3 λv H4=>H4 D=some (.lst ys)/\Pv (i+1) O (ys++[v]) (upd H4 D (.lst (ys++[v])))else Pv (i+1) O ys H3)
  (hd:∀σ ys H,Pv n σ ys H->Q (.ref D) H):∃W:Nat->Nat->St->List V->Hp->Prop,(∃m,W 0 m sD [] H0)/\qd (Kt lo n) g tc te D Q W:=by
 refine⟨λi m σ ys H=>m=n-i/\i<=n/\Pv i σ ys H,⟨n,by simp,Yq _,h0⟩,?_⟩;rintro i m σ ys H ⟨rfl,hi,p⟩;refine⟨(U i σ ys H hi p).1,?_⟩;by_cases z:i<n
 ·refine .inr ⟨z,Yb (U i σ ys H hi p).2 (Yc z hz),Pv (i+1),λσ' ys' H' p'=>⟨n-(i+1),by omega,rfl,z,p'⟩,λx H' y=>?_⟩;obtain⟨e,y⟩:=y;subst e y;exact hs i σ ys _ z p
 ·have e:i=n:=by omega
  subst e;exact .inl ⟨X5 _,hd σ ys H p⟩
theorem el{K:YY}{a:Addr}{xs:List V}(Pv:Nat->St->List V->Hp->Prop)(h0:Pv 0 sD [] H0)(U:∀i σ ys H,i<=xs.length->Pv i σ ys H->H D=some (.lst ys)/\ys.length<=i)(hl:∀i σ ys H,i<=xs.length->Pv i σ ys H->bb K H a xs)(hz:xs.length<=sizeLine)
  (hs:∀i x σ ys H,xs[i]? = some x->Pv i σ ys H->g x σ H λO H2=>tc O H2 λb H3=>if b=true then te O H3 λv H4=>H4 D=some (.lst ys)/\Pv (i+1) O (ys++[v]) (upd H4 D (.lst (ys++[v])))else Pv (i+1) O ys H3)
  (hd:∀σ ys H,Pv xs.length σ ys H->Q (.ref D) H):∃W:Nat->Nat->St->List V->Hp->Prop,(∃m,W 0 m sD [] H0)/\qd (GB K a) g tc te D Q W:=by
 refine⟨λi m σ ys H=>m=xs.length-i/\i<=xs.length/\Pv i σ ys H,⟨xs.length,by simp,Yq _,h0⟩,?_⟩;rintro i m σ ys H ⟨rfl,hi,p⟩;have q:=hl i σ ys H hi p;refine⟨(U i σ ys H hi p).1,?_⟩;by_cases z:i<xs.length
 ·refine .inr ⟨⟨xs,xs[i],q,by simp[z]⟩,Yb (U i σ ys H hi p).2 (Yc z hz),Pv (i+1),λσ' ys' H' p'=>⟨xs.length-(i+1),by omega,rfl,z,p'⟩,λx H' y=>?_⟩;obtain⟨e,y⟩:=y;subst e;exact hs i x σ ys _ (y xs q) p
 ·have e:i=xs.length:=by omega
  subst e;exact .inl ⟨⟨xs,q,X5 _⟩,hd σ ys H p⟩
theorem c_{K:YY}{a:Addr}{xs:List V}(Pv:Nat->St->List V->Hp->Prop)(h0:Pv 0 sD [] H0)(U:∀i σ ys H,i<=xs.length->Pv i σ ys H->H D=some (.lst ys)/\ys.length<=i)(hl:∀i σ ys H,i<=xs.length->Pv i σ ys H->aX K H a xs)(hz:xs.length<=sizeLine)
  (hs:∀i x σ ys H,xs[i]? = some x->Pv i σ ys H->g x σ H λO H2=>tc O H2 λb H3=>if b=true then te O H3 λv H4=>H4 D=some (.lst ys)/\Pv (i+1) O (ys++[v]) (upd H4 D (.lst (ys++[v])))else Pv (i+1) O ys H3)
  (hd:∀σ ys H,Pv xs.length σ ys H->Q (.ref D) H):∃W:Nat->Nat->St->List V->Hp->Prop,(∃m,W 0 m sD [] H0)/\qd (Gx K a) g tc te D Q W:=by
 refine⟨λi m σ ys H=>m=xs.length-i/\i<=xs.length/\Pv i σ ys H,⟨xs.length,by simp,Yq _,h0⟩,?_⟩;rintro i m σ ys H ⟨rfl,hi,p⟩;have q:=hl i σ ys H hi p;refine⟨(U i σ ys H hi p).1,?_⟩;by_cases z:i<xs.length
 ·refine .inr ⟨⟨xs,xs[i],q,by simp[z]⟩,Yb (U i σ ys H hi p).2 (Yc z hz),Pv (i+1),λσ' ys' H' p'=>⟨xs.length-(i+1),by omega,rfl,z,p'⟩,λx H' y=>?_⟩;obtain⟨e,y⟩:=y;subst e;exact hs i x σ ys _ (y xs q) p
 ·have e:i=xs.length:=by omega
  subst e;exact .inl ⟨⟨xs,q,X5 _⟩,hd σ ys H p⟩
end
section
variable{X:Cx}{N':List Str}{sc:Scope}{cl:List (Str×Addr)}{C:Addr}{s:Shared}{H:Hp}{fp:Z6}
theorem uW{env:Env}{x:Str}(e:sc.names.lookup x=some .free):(relabel sc env).names.lookup x=some .cell\/(relabel sc env).names.lookup x=some .free:=by
 have gen:∀ns:List (Str×NameKind),ns.lookup x=some .free->(ns.map λ(n,k)=>if(k==NameKind.free&&env.scope.kind == .function&&env.kindOf n==some .cell)then(n,NameKind.cell)else(n,k)).lookup x=some .cell\/
   (ns.map λ(n,k)=>if(k==NameKind.free&&env.scope.kind == .function&&env.kindOf n==some .cell)then(n,NameKind.cell)else(n,k)).lookup x=some .free:=by
  intro ns;induction ns with
  |nil=>intro h;cases h
  |cons y r O =>
   obtain⟨n,k1⟩:=y;intro h;rw[YT];dsimp only;rw[YS]at h;by_cases z:(k1==NameKind.free&&env.scope.kind == .function&&env.kindOf n==some .cell)=true
   ·rw[YG z,YS];cases hx:x==n with
    |true=>exact .inl rfl
    |false=>rw[hx]at h;exact O h
   ·rw[YF z,YS];cases hx:x==n with
    |true =>rw[hx]at h;exact .inr h
    |false=>rw[hx]at h;exact O h
 exact gen sc.names e
theorem gv{env:Env}{x:Str}{k:NameKind}(O:(k==NameKind.free)=false)(e:sc.names.lookup x=some k):(relabel sc env).names.lookup x=some k:=by
 have gen:∀ns:List (Str×NameKind),ns.lookup x=some k->(ns.map λ(n,k)=>if(k==NameKind.free&&env.scope.kind == .function&&env.kindOf n==some .cell)then(n,NameKind.cell)else(n,k)).lookup x=some k:=by
  intro ns;induction ns with
  |nil=>intro h;cases h
  |cons y r z =>
   obtain⟨n,k1⟩:=y;intro h;rw[YT];dsimp only;rw[YS]at h;cases hx:x==n with
   |true =>rw[hx]at h;have h':k1=k:=Yr h;subst h';rw[YF (by rw[O];simp),YS,hx]
   |false =>
    rw[hx]at h;split
    ·rw[YS,hx];exact z h
    ·rw[YS,hx];exact z h
 exact gen sc.names e
theorem oH(i:Nat){x:Str}{pos:Pos}(O:N'[i]? = some x:=by rfl)(hv:sc.names.lookup x=some .free:=by rfl)(hd:(x==("__debug__" : Str))=false:=by decide)(z:(x==("__classdict__" : Str))=false:=by decide) :
  PE (aV X N' sc cl C s H fp) (.Name x pos) (br i):=y_ (X:=aV X N' sc cl C s H fp) O (.inr (uW hv)) hd z
theorem gK(i:Nat){x:Str}{pos:Pos}(O:N'[i]? = some x:=by rfl)(hv:sc.names.lookup x=some .local:=by rfl)(hd:(x==("__debug__" : Str))=false:=by decide)(z:(x==("__classdict__" : Str))=false:=by decide) :
  PE (aV X N' sc cl C s H fp) (.Name x pos) (br i):=y_ (X:=aV X N' sc cl C s H fp) O (.inl (gv rfl hv)) hd z
theorem gg{i:Nat}{x:Str}{pos:Pos}(hn:N'.Nodup:=by decide +kernel)(z:N'[i]? = some x:=by rfl)(hv:sc.names.lookup x=some .local:=by rfl) :
  PG (aV X N' sc cl C s H fp) (.Name x pos) (b9 i):=aQ (X:=aV X N' sc cl C s H fp) hn z (.inl (gv rfl hv)) (.inr (gv rfl hv))
theorem GJ{x:Str}(hv:sc.names.lookup x=some .globalImplicit:=by rfl):Gl (aV X N' sc cl C s H fp) x:=gv (env:=X.env) rfl hv
end
section
variable{X:Cx}
theorem wj:gJ X (.builtin "divmod") (λxs H Q=>∃i j,xs=[.int i,.int j]/\(0<j/\j.natAbs.log2<9000)/\∀p,H p=none->Q (.ref p) (upd H p (.tup [.int (i / j),.int (i % j)]))):=by intro ac s σ H xs us Q I r h;obtain⟨i,j,rfl,⟨h1,h2⟩,q⟩:=h;obtain⟨u,z,rfl,⟨t,rfl⟩,⟨t',rfl⟩⟩:=vals2 r;refine divmod_int (by omega) ?_ (.inl (PyProof.noPylong_of_log2 h2));rw[Int.fdiv_eq_ediv_of_nonneg i (by omega),Int.fmod_eq_emod_of_nonneg i (by omega)];have hn:H s.heap.objs.size=none:=I.hok.fresh (X5 _);refine⟨.ref s.heap.objs.size,_,?_,rfl,q _ hn⟩;refine I.laid (λb o e=>X2 _ e) (X5 _) ⟨by simp only[YB,List.length_nil];rw[sizeLine_eq];decide,[.int (i / j) s.toks,.int (i % j) (s.toks+1)],.cons ⟨_,rfl⟩ (.cons ⟨_,rfl⟩ .nil),?_⟩;exact⟨_,X4 s.heap rfl,rfl,⟨0,rfl⟩,rfl⟩
end
def c5(H:Hp)(p:Addr):Prop:=∃a b:Int,H p=some (.lst [.int a,.int b])/\0<=a/\0<=b/\b<=2147483647
structure bt(p:Addr)(H H':Hp):Prop where
 keep:∀b o,b≠p->H b=some o->H' b=some o
 bV:c5 H' p
theorem bt.refl{p:Addr}{H:Hp}(h:c5 H p):bt p H H:=⟨λ_ _ _ e=>e,h⟩
theorem bt.trans{p:Addr}{H H1 H2:Hp}(a:bt p H H1)(b:bt p H1 H2):bt p H H2:=⟨λc o n e=>b.keep c o n (a.keep c o n e),b.bV⟩
theorem bt.same{p:Addr}{H H1:Hp}(h:c5 H p)(s:aH H H1):bt p H H1:=⟨λc o _ e=>s c o e,let ⟨a,b,e,r⟩:=h;⟨a,b,s _ _ e,r⟩⟩
theorem ai{H:Hp}{p:Addr}(h:H p=none)(o:HO):aH H (upd H p o):=λb u q=>by rw[aI (aY q h)];exact q
theorem bt.new{p q:Addr}{H H1:Hp}{o:HO}(a:bt p H H1)(h:H1 q=none):bt p H (upd H1 q o):=a.trans (.same a.bV (ai h o))
inductive yZ(K:YY)(vs:List V)(H:Hp)(Q:VK)(E:XK):Prop
 |mk (a:Addr) (ns:List Int) (k:Int) (_:vs=[.ref a,.int k]) (_:bb K H a (ns.map V.int)) (_:0<=k) (_:∀n,Q (.int n) H):yZ K vs H Q E
inductive Fy(K:YY)(vs:List V)(H:Hp)(Q:VK)(E:XK):Prop
 |mk (a:Addr) (ns:List Int) (k:Int) (_:vs=[.ref a,.int k]) (_:bb K H a (ns.map V.int)) (_:0<=k) (_:k<=1000) (_:∀p H',H p=none->aH H H'->c5 H' p->Q (.ref p) H'):Fy K vs H Q E
inductive eA(vs:List V)(H:Hp)(Q:VK)(E:XK):Prop
 |mk (p:Addr) (m:Int) (_:vs=[.ref p,.int m]) (_:c5 H p) (_:0<m) (_:m.natAbs.log2<9000) (_:∀d H',bt p H H'->0<=d->d<m->Q (.int d) H'):eA vs H Q E
theorem MB{n:Nat}{i:Int}(h0:0<=i)(h1:i<n):Gm n i=some i.toNat:=by unfold Gm;rw[YG h0,YG h1]
theorem iL{xs:List V}{i:Int}(h0:0<=i)(h1:i<xs.length):∃v,xf xs i=some v/\xs[i.toNat]? = some v:=by
 have e:=MB h0 h1;have z:i.toNat<xs.length:=by omega
 refine⟨xs[i.toNat],?_,by simp[z]⟩;unfold xf;rw[e];show xs[i.toNat]? = _;simp[z]
theorem bt.put{p D:Addr}{H O H4:Hp}{o:HO}(g3:bt p H O)(hD:O D=none)(n:D≠p)(z:bt p H H4):bt p H (upd H4 D o):=by
 refine⟨λb u nb e=>?_,?_⟩
 ·by_cases U:b=D
  ·subst U;exact YE (g3.keep b u n e) (by rw[hD];simp)
  ·rw[aI U];exact z.keep b u nb e
 ·obtain⟨x,y,e,r⟩:=z.bV;exact⟨x,y,by rw[aI (Ne.symm n)];exact e,r⟩
theorem bt.ne{p D:Addr}{H O:Hp}(g3:bt p H O)(U:O D=none):D≠p:=λe=>by subst e;obtain⟨_,_,z,_⟩:=g3.bV;rw[z]at U;cases U
section
variable{X:Cx}{x:Str}{pos:Pos}{c:Addr}{n:String}{a b:Expr}{ta tb:TE}
theorem rJ(hg:Gl X x)(hm:X.mg x=none)(hv:bootBuiltins x=some (.type n))(hn:x≠"__name__":=by decide)(hd:(x==("__debug__" : Str))=false:=by decide):PE X (.Name x pos) (tC (.ty n)):=Jk hg hm hv (show RelV (.ty n) (.type n) from rfl) hn hd
end
end L2
namespace PySem
open Sem (wp)
section
variable{prog:Program}{w:World}{A:Around}{E:nT}{h:Heap}{g:Array GenState}{d:Drawn}{t:Nat}{os:OsState}
variable{nm q:Str}{C N:Addr}{bs bm bmB:Z4}{hdct:Bool}{sn:List Str}{sub:Z4}{ab:Bool}{col:Option Bool}{dd:Option Addr}{k0 k1 k2 k3 k5:Z5}{B newId initId:String}
theorem mG(F:ExcBaseFacts B newId initId bmB)(T:OwnTail h bmB bm){mN:Z0}{rest:Z4}{fI:Addr}{oI:Obj}{Q:Fin->Shared->Prop}
  (hC:h.get? C=some (excClassObj nm q C N bs bm hdct sn sub ab col dd k0 k1 k2 k3 k5 newId)) (hn:h.Ns N mN) (hi:mN "__init__"=some (.ref fI))
  (hfI:h.get? fI=some oI) (hfc:oI.cls=.type "function")
  (hq:∀h' e,Heap.MadeExcOf h h' e (.ref C) rest->
   wpAny (model prog w) A (call (.ref fI) (.ref e::rest)) (λr s'=>r=.none/\Q (.done (.ret (.ref e))) s') E ⟨h',g,d,t,os⟩) (hrest:rest.length<=sizeLine:=by size_fits) :
  wpAny (model prog w) A (Builtin.«type.__call__» ⟨.ref C::rest,[]⟩) Q E ⟨h,g,d,t,os⟩:=by
 repeat (first|with_reducible refine wpAny_loadPart_at hC ?_|with_reducible refine wpAny_madeBy_exc hC ?_|wp_step)
 refine codeAny_call_builtin_code (Code.quiet_builtin _ F.quiet) (wpAny_check_new_subT F T hC ?_);refine codeAny_exc_new_subT F T hC ?_ hrest;show wpAny _ _ _ _ _ _;have z:=X2 {cls:=.ref C,data:=.fields #[.ref h.objs.size,.none,.none,.none,.bool false,.none]}
  (X2 {cls:=.type "tuple",data:=.seq rest.toArray} hC)
 have O:=X2 {cls:=.ref C,data:=.fields #[.ref h.objs.size,.none,.none,.none,.bool false,.none]}
  (X2 {cls:=.type "tuple",data:=.seq rest.toArray} hfI)
 have hn₁:((h.push {cls:=.type "tuple",data:=.seq rest.toArray}).push {cls:=.ref C,data:=.fields #[.ref h.objs.size,.none,.none,.none,.bool false,.none]}).Ns N mN :=
  let ⟨o,es,ep,e,r⟩:=hn;⟨o,es,ep,X2 _ (X2 _ e),r⟩
 have U:((h.push {cls:=.type "tuple",data:=.seq rest.toArray}).push
   {cls:=.ref C,data:=.fields #[.ref h.objs.size,.none,.none,.none,.bool false,.none]}).get? (h.objs.size+1)=some
   {cls:=.ref C,data:=.fields #[.ref h.objs.size,.none,.none,.none,.bool false,.none]}:=by heap_get
 have hcC:(Value.ref C::bm).contains (.ref C)=true:=by simp
 have T₁:=T.keeps (h':=(h.push {cls:=.type "tuple",data:=.seq rest.toArray}).push {cls:=.ref C,data:=.fields #[.ref h.objs.size,.none,.none,.none,.bool false,.none]})
  λb o e=>X2 _ (X2 _ e)
 unfold isInstance;repeat (first|with_reducible refine wpAny_loadPart_at U ?_ | (with_reducible refine wpAny_isSubtype_exc z ?_;rw[hcC])|wp_step)
 show wpAny _ _ (typeLookup (.ref C) _) _ _ _;refine wpAny_typeLookup_tail z hn₁ T₁ F.mroIs F.init.lookup ?_;rw[hi];refine Yy (X0 ?_);unfold bindSpecial;refine X0 (wpAny_typeOf (T:="function") ⟨_,O,hfc⟩ ?_);rw[YG (by decide)];refine X1 (X0 (Yx (hq _ (h.objs.size+1) ⟨λb o hb=>X2 _ (X2 _ hb),Heap.get?_none_of_le (Nat.le_succ _),h.objs.size,U,Heap.get?_none_of_le (X5 _),?_⟩) (λr s' hr=>?_) λ_ _ x=>x))
 ·exact X2 _ (Heap.get?_push_at rfl rfl)
 ·obtain⟨rfl,hQ⟩:=hr
  wp_walk
  exact hQ
theorem qZ(F:ExcBaseFacts B newId initId bmB)(T:OwnTail h bmB bm){mN:Z0}{rest:Z4}{fI:Addr}{oI:Obj}{Q:nT}
  (z:h.get? C=some (excClassObj nm q C N bs bm hdct sn sub ab col dd k0 k1 k2 k3 k5 newId)) (hn:h.Ns N mN) (hi:mN "__init__"=some (.ref fI))
  (U:h.get? fI=some oI) (O:oI.cls=.type "function")
  (hq:∀h' e,Heap.MadeExcOf h h' e (.ref C) rest->
   wpAny (model prog w) (A.under (.builtin "type.__call__" ⟨.ref C::rest,[]⟩)) (call (.ref fI) (.ref e::rest)) (λr s'=>r=.none/\Q (.ref e) s') E ⟨h',g,d,t,os⟩) (hrest:rest.length<=sizeLine:=by size_fits) :
  wpAny (model prog w) A (call (.ref C) rest) Q E ⟨h,g,d,t,os⟩:=by
 have f1:=tc_lookup;have f2:=tc_bind (.ref C);have hT:(⟨h,g,d,t,os⟩ : Shared).TypeIs (.ref C) "type":=⟨_,z,rfl⟩;refine wpAny_call (codeAny_of_tree ?_);show wpAny _ _ (callAny (.ref C) _) _ _ _;repeat (any_goals (first|assumption|with_reducible refine wpAny_loadPart_at z ?_|wp_step))
 refine⟨rfl,?_⟩;refine codeAny_call_builtin_at (Code.quiet_builtin _ (by decide +kernel)) entry_typeCall (wpAny_check_type_call_sub z (mG (hrest:=hrest) F T z hn hi U O λh' e hm=>?_));exact hq h' e hm
end
end PySem
namespace L2
open PySem PySem.Spec PyProof.Rows
abbrev u0:Z4:=[.type "ValueError",.type "Exception",.type "BaseException",.type "object"]
abbrev xO(a C:Addr)(od:Option Addr):HO:=.ext λh=>∃fl sl,h.get? a=some {cls:=.ref C,dict:=od,data:=.fields fl,slots:=sl}
abbrev xD(d:Addr)(fs:List (Str×V)):HO:=.ext λh=>∃mA,h.Ns1 d mA/\∀f,j6 (fs.lookup f) (mA f)
section
variable{P:Program}{w:World}{H:Hp}{h h':Heap}{a C d:Addr}{od:Option Addr}{fs:List (Str×V)}{o:HO}
theorem Dk{fl:Array Value}{sl:Array (Z5)}(e:h.get? a=some {cls:=.ref C,dict:=od,data:=.fields fl,slots:=sl}):cD P w H h a (xO a C od) :=
 ⟨⟨fl,sl,e⟩,⟨_,e⟩,λ_ _ ⟨fl,sl,e⟩ k=>⟨fl,sl,k _ e⟩⟩
theorem Fg{mA:Z0}(n:h.Ns1 d mA)(r:∀f,j6 (fs.lookup f) (mA f)):cD P w H h d (xD d fs) :=
 ⟨⟨mA,n,r⟩,(let ⟨o,_,_,e,_⟩:=n;⟨o,e⟩),λ_ _ ⟨mA,⟨o,es,ep,e,rest⟩,r⟩ k=>⟨mA,⟨o,es,ep,k _ e,rest⟩,r⟩⟩
theorem cD.there(x:cD P w H h a o):∃u,h.get? a=some u:=by
 cases o with
 |lst xs=>obtain⟨_,_,_,_,e⟩:=x;exact⟨_,e⟩
 |tup xs=>obtain⟨_,_,_,p⟩:=x;obtain⟨o,e,_⟩:=p;exact⟨_,e⟩
 |dK kvs=>obtain⟨_,_,_,_,o,_,_,e,_⟩:=x;exact⟨_,e⟩
 |dT kvs=>obtain⟨_,_,_,_,o,_,_,e,_⟩:=x;exact⟨_,e⟩
 |set S n=>obtain⟨o,_,_,_,e,_⟩:=x;exact⟨_,e⟩
 |ins C dx fs=>obtain⟨_,_,_,e,_⟩:=x;exact⟨_,e⟩
 |own y=>obtain⟨_,e⟩:=x;exact⟨_,e⟩
 |xd fs=>obtain⟨_,⟨_,_,_,e,_⟩,_⟩:=x;exact⟨_,e⟩
 |BI lo hi=>obtain⟨_,_,_,e⟩:=x;exact⟨_,e⟩
 |zk z u=>obtain⟨e,_⟩:=x;exact⟨_,e⟩
 |J7 ps=>exact⟨_,(show h.get? a=some _ from x)⟩
 |met f y=>exact⟨_,(show h.get? a=some _ from x)⟩
 |ext φ=>obtain⟨_,⟨_,e⟩,_⟩:=x;exact⟨_,e⟩
theorem ky.none_of(x:ky P w H h)(e:h.get? a=none):H a=none:=by
 cases q:H a with
 |none=>rfl
 |some u =>obtain⟨v,z⟩:=(x a u q).there;rw[e]at z;cases z
theorem ky.laidN(x:ky P w H h)(k:∀b u,h.get? b=some u->h'.get? b=some u)(O:h.get? a=none)(new:cD P w (upd H a o) h' a o):ky P w (upd H a o) h':=λb u e=>by
 have hn:=x.none_of O;by_cases z:b=a
 ·subst z;rw[ae]at e;cases e;exact new
 ·rw[aI z]at e;exact(x b u e).stay (λc v _ q=>k c v q) (λc q=>by rw[aI (aY q hn)];exact q) λc xs q=>by rw[aI (aY q hn)];exact q
theorem Un.laidN{fs ex:Z6}(k:∀b u,h.get? b=some u->h'.get? b=some u)(z:h.get? a=none)(hn:H a=none):Un fs ex H (upd H a o) h h' where
 keep:=λb u q _ _ _=>k b u q
 slot:=λb u q _ _ _=>⟨u.slots,k b u q⟩
 free:=λb u q n _=>by rw[aI (λe=>by rw[e,z]at q;cases q)];exact n
 there:=λb u q _=>⟨u,k b u q⟩
 tups:=λb xs q=>by rw[aI (aY q hn)];exact q
 tS:=λb u xs q=>by rw[aI (aY q hn)];exact q
 vK:=λb ps q=>⟨#[],by rw[aI (aY q hn),q];simp⟩
end
structure xC(K:YY)(C:Addr):Prop where
 cls:∃cd PE,PySem.W.clsIn K C=some cd/\cd.mro=.ref C :: .ref PE::u0/\cd.hasDict=true
 mo:PySem.W.mroIn K C (.type "object")=some true
 sa:PySem.W.findIn K (.ref C) "__setattr__"=some (some (.builtin "object.__setattr__"))
 ga:PySem.W.findIn K (.ref C) "__getattribute__"=some (some (.builtin "BaseException.__getattribute__"))
 gh:PySem.W.findIn K (.ref C) "__getattr__"=some none
 mb:PySem.W.mroIn K C (.type "BaseException")=some true
 ca:PySem.W.findIn K (.ref C) "__class__"=some (some (.builtin "object.__class__"))
 cg:PySem.W.specialIn K (.builtin "object.__class__") "__get__"=some (some (.builtin "getset_descriptor.__get__"))
 ct:PySem.W.takesIn K (.builtin "object.__class__")=some true
section
variable{prog:Program}{w:World}{A:Around}{E:nT}{R:Z3}{s:Shared}{K:YY}{x C:Addr}{ox:Obj}{od:Option Obj}{name:Str}{tk:Tok}{v:Value}
theorem t9(c:xC K C)(X:K.In s.heap)(I:PySem.W.InstAt s.heap x ox C od)(ht:PySem.W.findIn K (.ref C) name=some none)
  (h:∀b,wpAny (model prog w) A.in1 (Builtin.ObjectAttr.storeInOwnDict (.ref x) (.ref C) (.str name tk) name v b)
   (λU s'=>match U with | .done f=>R (.ok f) s' | .again c'=>c'.quiet=true/\codeAny (model prog w) A c' R s') (λe s'=>R (.error e) s') s) :
  codeAny (model prog w) A (.call (.builtin "object.__setattr__") ⟨[.ref x,.str name tk,v],[]⟩) R s:=by
 have O:=PySem.F.store_object;obtain⟨cd,PE,hc,z,_⟩:=c.cls;have sub:PySem.W.Looks (model prog w) s.heap (isInstance (.ref x) (.type "object")) true:=I.type.andThen (PySem.W.looks_mroIn X c.mo);refine codeAny_call_builtin O.slot.plain O.entry (@PySem.W.check_slot (model prog w) _ _ s "object.__setattr__" "object" "__setattr__" (.ref x) [.str name tk,v] [] _ O.kind O.split sub (O.args (.ref x) (.str name tk) v) ?_);have hm:PySem.W.Looks (model prog w) s.heap (mroOf (.ref C)) cd.mro:=(PySem.W.looks_clsIn X hc).andThen .now;have L3:PySem.W.Looks (model prog w) s.heap (Builtin.ObjectAttr.storeTaker? none) none:=.now;rw[PySem.W.osa_eq,refuse_eq];refine X0 (X0 (I.type.here (X0 (hm.here ?_))));rw[z,refuseLoop_ref,refuseLoop_ref,PySem.F.store_ValueError.passes];refine X1 (X0 (I.type.here (X0 ((PySem.W.looks_findIn X ht).here (X0 (L3.here ?_))))));exact h _
end
section
variable{X:Cx}{ac:eN}{σ:St}{H:Hp}{s:Shared}{a C dx:Addr}{fs:List (Str×V)}{f:Str}{v y:V}{u:Value}{A:Around}{E:nT}
theorem uh{mA:Z0}(r:∀f,j6 (fs.lookup f) (mA f)):PySem.Within mA (fs.map (·.1)):=by
 intro g hg;have O:=r g;cases e:fs.lookup g with
 |none=>rw[e]at O;exact YE (j6.none_of O) hg
 |some z =>
  clear O r hg;induction fs with
  |nil=>cases e
  |cons p t U =>
   obtain⟨k,w⟩:=p;rw[YS]at e;cases hk:g==k with
   |true =>
    have:g=k:=by simpa using hk
    subst this;exact YA
   |false=>rw[hk]at e;exact Yg _ (U e)
end
def jH(K:YY)(C:Addr)(bmB:Z4)(newId:String)(z:Z5):Bool:=match K.lookup C with
 |some o=>o.cls == .type "type"&&(match o.data with
  | .cls cd=>cd.mro.head? == some (.ref C)&&o.slots.size==6&&o.slots[4]? == some (some (.builtin newId)) && !cd.hasDel&&PySem.W.tailIn K bmB cd.mro.tail&&PySem.W.nsOkIn K cd.ns&&PySem.W.nsIn K cd.ns "__init__"==some z
  |_=>false)
 |none=>false
theorem rf{α:Type}{l:List α}{n:Nat}(h:l.length=n+1):∃a m,l=a::m/\m.length=n:=by
 cases l with
 |nil=>cases h
 |cons a m=>exact⟨a,m,rfl,Nat.succ.inj h⟩
theorem Py{K:YY}{h:Heap}{N:Addr}{mg:Z0}{n:Str}{r:Z5}(X:K.In h)(G:h.Ns N mg)(e:PySem.W.nsIn K N n=some r):mg n=r:=by
 cases r with
 |none=>exact PySem.W.ns_none_of X G e
 |some v =>
  obtain⟨o,es,ep,z,hd,_,O⟩:=G;unfold PySem.W.nsIn at e;split at e
  ·rename_i c d es' n' sl q;have:=X _ _ q;rw[z]at this;cases this;cases hd;split at e
   ·rename_i en he;cases e;rw[←O];unfold nsFind findBy;rw[←Array.find?_toList,he];rfl
   ·split at e<;>cases e
  ·cases e
theorem pP{K:YY}{h:Heap}{C:Addr}{bmB:Z4}{newId:String}{U:Z5}(X:K.In h)(q:jH K C bmB newId U=true) :
  ∃bm N nm q bs hdct sn sub ab col dd k0 k1 k2 k3 k5 mN,h.get? C=some (excClassObj nm q C N bs bm hdct sn sub ab col dd k0 k1 k2 k3 k5 newId)/\h.Ns N mN/\mN "__init__"=U/\OwnTail h bmB bm:=by
 unfold jH at q;cases ho:K.lookup C with
 |none=>rw[ho]at q;cases q
 |some o =>
  rw[ho]at q;obtain⟨cl,dd,dat,sl⟩:=o;cases dat with
  |cls cd =>
   simp only[YC,beq_iff_eq,Bool.not_eq_true']at q;obtain⟨rfl,⟨⟨⟨⟨⟨hm,hz⟩,hs⟩,z⟩,ht⟩,hok⟩,O⟩:=q;obtain⟨nm,bs,mro,ns,qn,hd,sn,sub,ab,col,del⟩:=cd;dsimp only at hm z hok O ht;subst z;obtain⟨l⟩:=sl;obtain⟨k0,l,rfl,z0⟩:=rf (show l.length=5+1 from hz);obtain⟨k1,l,rfl,z1⟩:=rf (n:=4) z0;obtain⟨k2,l,rfl,z2⟩:=rf (n:=3) z1;obtain⟨k3,l,rfl,z3⟩:=rf (n:=2) z2;obtain⟨k4,l,rfl,z4⟩:=rf (n:=1) z3;obtain⟨k5,l,rfl,z5⟩:=rf (n:=0) z4;cases List.length_eq_zero_iff.mp z5;cases(show some k4=_ from hs);cases mro with
   |nil=>cases hm
   |cons c bm =>cases hm;exact⟨bm,ns,nm,qn,bs,hd,sn,sub,ab,col,dd,k0,k1,k2,k3,k5,_,X _ _ ho,.of_isNs (PySem.W.isNs_of_in X hok),Py X (.of_isNs (PySem.W.isNs_of_in X hok)) O,PySem.W.tail_of_in X ht⟩
  |_=>exact YE ((YC _ _).mp q).2 Yh
section
variable{X:Cx}{CX:sQ}{k:Nat}{f C:Addr}{fd:FuncData}{ps:List Str}{sp:Sp}{E:XK}{x:Str}{p pos:Pos}{e:Expr}{es:List Expr}{t:TA}
theorem Inv.RJ{ac:eN}{σ:St}{H:Hp}{s:Shared}{h':Heap}{a:Addr}{rest:Z4}(I:Inv X ac σ H s)(m:Heap.MadeExcOf s.heap h' a (.ref C) rest):H a=none/\Inv X ac σ (upd H a (xO a C none)) {s with heap:=h'}:=by obtain⟨t,z,_,_⟩:=m.there;have hn:=I.hok.none_of m.new;exact⟨hn,I.un (t':=s.toks) (Un.laidN m.keeps m.new hn) (I.hok.laidN m.keeps m.new (Dk z))⟩
end
theorem Gk{H:Hp}{a:Addr}{o:HO}(h:H a=some o):upd H a o=H:=by
 funext b;unfold upd;by_cases e:b=a
 ·rw[YG e,e,h]
 ·rw[YF e]
structure Top(X:Cx)(L:Addr):Prop where
 ex:∃e0 r,X.stack=e0::r/\e0.frame=some L
 fr:X.env.frame=some L
structure Kx(X:Cx)(H:Hp)(h:Heap)(T:Addr):Prop where
 free:H T=none
 new:X.s₀.heap.objs.size<=T
 pn:∀p∈X.pn,p.1≠T
 obj:∃oT ts,h.get? T=some oT/\oT.data=.fields ts/\3<ts.size
structure RK(X:Cx)(H:Hp)(h:Heap)(e C:Addr)(od:Option Addr):Prop where
 at_:H e=some (xO e C od)
 obj:∃vs sl,h.get? e=some {cls:=.ref C,dict:=od,data:=.fields vs,slots:=sl}/\(vs[1]? = some .none\/∃T,vs[1]? = some (.ref T)/\Kx X H h T)
structure rV(X:Cx)(H:Hp)(h:Heap)(e C:Addr)(od:Option Addr)(T:Addr):Prop where
 at_:H e=some (xO e C od)
 obj:∃vs sl,h.get? e=some {cls:=.ref C,dict:=od,data:=.fields vs,slots:=sl}/\vs[1]? = some (.ref T)
 tb:Kx X H h T
section
variable{X:Cx}{ac:eN}{σ:St}{H:Hp}{s:Shared}{e C T L:Addr}{od:Option Addr}
theorem rV.T7{h:Heap}(f:rV X H h e C od T):RK X H h e C od:=⟨f.at_,let ⟨vs,sl,h1,h2⟩:=f.obj;⟨vs,sl,h1,.inr ⟨T,h2,f.tb⟩⟩⟩
theorem Inv.Q8(I:Inv X [] σ H s)(t:Kx X H s.heap T):T≠X.env.locals/\(∀x c,X.env.cells.lookup x=some c->c≠T)/\∀p∈X.pn++[],p.1≠T:=by
 obtain⟨oT,ts,h1,h2,_⟩:=t.obj;refine⟨λz=>?_,λx c hc z=>?_,λp hp=>t.pn p (by simpa using hp)⟩
 ·obtain⟨m,⟨o',es,ep,O,U,_⟩,_⟩:=I.loc;rw[←z,h1]at O;cases O;rw[U]at h2;cases h2
 ·obtain⟨v,o,ho,hd⟩:=I.cell x c hc;rw[z,h1]at ho;cases ho;rw[hd]at h2;cases h2
theorem Inv.mark(I:Inv X [] σ H s)(f:rV X H s.heap e C od T)(x:Value) :
  Inv X [] σ H {s with heap:=s.heap.update T (Obj.mapFields (·.setIfInBounds 3 x))}/\rV X H (s.heap.update T (Obj.mapFields (·.setIfInBounds 3 x))) e C od T:=by
 obtain⟨n1,n2,U⟩:=I.Q8 f.tb;obtain⟨oT,ts,h1,h2,h3⟩:=f.tb.obj;have keep:∀b o,b≠T->s.heap.get? b=some o->(s.heap.update T (Obj.mapFields (·.setIfInBounds 3 x))).get? b=some o:=λb o hb q=>(Heap.get?_update_other _ _ (Ne.symm hb)).trans q;have neT:e≠T:=λz=>by have:=f.at_;rw[z,f.tb.free]at this;cases this
 obtain⟨vs,sl,g1,g2⟩:=f.obj;have O:=Obj.data_mapFields h2 (·.setIfInBounds 3 x);refine⟨I.turned (t':=s.toks) (it:=T) keep f.tb.free n1 (.inr f.tb.new) n2 U,f.at_,⟨vs,sl,keep _ _ neT g1,g2⟩,f.tb.free,f.tb.new,f.tb.pn,_,_,Heap.get?_update_self _ h1 (Obj.isFreed_of_fields O),O,by simpa using h3⟩
theorem pV{M:Model}{A:Around}{E:nT}{Q:Z2}(I:Inv X [] σ H s)(f:rV X H s.heap e C od T)(fr:Option Addr)
  (q:∀s',Inv X [] σ H s'->rV X H s'.heap e C od T->Q () s'):wpAny M A (setFlight (.ref e) fr) Q E s:=by
 obtain⟨vs,sl,O,g2⟩:=f.obj;obtain⟨oT,ts,h1,h2,h3⟩:=f.tb.obj;unfold setFlight;refine X0 (wpAny_field O rfl g2 ?_);have ne:(Value.ref T != Value.none)=true:=by simp
 rw[YG ne];have z:=I.mark f (fr.elim .none λf=>rawInt f);exact wpAny_setField h1 h2 h3 (q _ z.1 z.2)
theorem Fs{M:Model}{A:Around}{E:nT}{Q:nT}{U:Env}(hA:A.frames=some X.stack)(tp:Top X L)(hf:U.frame=some L)(I:Inv X [] σ H s)
  (q:∀h',Inv X [] σ H {s with heap:=h'}->Heap.SlotsOnly (frs X.stack) s.heap h'->Q (.ref L) {s with heap:=h'}):wpAny M A (PySem.frameOf U) Q E s:=by
 obtain⟨e0,r,hst,h0⟩:=tp.ex;have hl:=I.stack;rw[hst]at hA hl;have dw:((e0::r).dropWhile λx=>x.frame != U.frame)=e0::r:=by rw[hf];simp[List.dropWhile,h0]
 unfold PySem.frameOf;refine X0 (wpAny_frameEnvs hA ?_);rw[dw];unfold frameObject;refine X0 (X0 (wpAny_readyFrames_fun hl λh1 O=>X1 ?_));rw[h0];have e1:(e0::r).filterMap (·.frame)=frs X.stack:=by rw[hst];rfl
 rw[e1]at O;refine X1 (q h1 ?_ O);refine I.call (g':=s.gens) (t':=s.toks) (d':=s.drawn) (ch:=[]) ⟨λb o hb _ hf _=>(O.2.1 b hf).trans hb,λb o hb _ _ _=>O.2.2 b o hb,λ_ _ _ n _=>n,λb o hb _=>let ⟨sl,z⟩:=O.2.2 b o hb;⟨_,z⟩,λ_ _ z=>z,λ_ _ _ z=>z,λb ps z=>⟨#[],by rw[z];simp⟩⟩ (λb u hb=>?_) I.bare λb hb=>YE hb (by simp);have nf:∀c v,H c=some v->c∉frs X.stack:=λc v hc hm=>by rw[I.qH c hm]at hc;cases hc
 refine(I.hok b u hb).stay (λc v hc z=>(O.2.1 c ?_).trans z) (λ_ z=>z) λ_ _ z=>z;rcases hc with rfl|hc
 ·exact nf c u hb
 ·exact nf c _ hc
theorem xa{M:Model}{A:Around}{E:nT}{Q:Z2}{env':Env}{O:Value}{U:Bool}{vs:Array Value}{sl:Array (Z5)}(hA:A.frames=some X.stack)(tp:Top X L)(hf:env'.frame=some L)(I:Inv X [] σ H s)
  (at_:H e=some (xO e C od)) (ho:s.heap.get? e=some {cls:=.ref C,dict:=od,data:=.fields vs,slots:=sl}) (h1:1<vs.size)
  (q:∀s' T,Inv X [] σ H s'->rV X H s'.heap e C od T->Q () s') :
  wpAny M A (do let a←PySem.frameOf env';let pl←entryPlaceOf L U;let b←EntryCells.newEntry O a .none (rawInt L) .none pl;setField (.ref e) 1 b) Q E s:=by
 refine X0 (Fs hA tp hf I λh2 I2 hs2=>?_);refine X0 (wpAny_entryPlaceOf λpl hpl=>?_);unfold EntryCells.newEntry newFields;refine X0 (Yz ?_ (hpl.sizeOk5 _ _ _ _ _));have ne:e∉frs X.stack:=λhm=>by rw[I.qH e hm]at at_;cases at_
 have ho2:h2.get? e=some {cls:=.ref C,dict:=od,data:=.fields vs,slots:=sl}:=(hs2.2.1 e ne).trans ho;generalize hTb:({cls:=.type "traceback",data:=.fields ([O,.ref L,.none,rawInt L,.none]++(if pl.isEmpty then List.replicate 6 Value.none else pl)).toArray}:Obj)=tb;have hTd:tb.data=.fields ([O,.ref L,.none,rawInt L,.none]++(if pl.isEmpty then List.replicate 6 Value.none else pl)).toArray:=by rw[←hTb]
 have hnf:tb.isFreed=false:=by rw[←hTb];rfl
 have I3:Inv X [] σ H {s with heap:=h2.push tb}:=I2.kept (t':=s.toks) λb o z=>X2 _ z;have S7:(h2.push tb).get? e=some {cls:=.ref C,dict:=od,data:=.fields vs,slots:=sl}:=X2 _ ho2;have Qv:(h2.push tb).get? h2.objs.size=some tb:=X4 _ hnf;have RE:H h2.objs.size=none:=I2.hok.fresh (X5 _);have neT:h2.objs.size≠e:=λz=>by rw[z]at RE;rw[RE]at at_;cases at_
 have Vx:∀p∈X.pn,p.1≠h2.objs.size:=λp hp z=>by have:=(I2.pin p (List.mem_append_left _ hp)).1;exact YE (X3 this) (by rw[z];exact Nat.lt_irrefl _)
 refine wpAny_setField S7 rfl h1 ?_;have Q_:(Obj.mapFields (·.setIfInBounds 1 (Value.ref h2.objs.size)) {cls:=.ref C,dict:=od,data:=.fields vs,slots:=sl}) ={cls:=.ref C,dict:=od,data:=.fields (vs.setIfInBounds 1 (Value.ref h2.objs.size)),slots:=sl}:=rfl;have Qs:=Heap.get?_update_self (Obj.mapFields (·.setIfInBounds 1 (Value.ref h2.objs.size))) S7 (by rw[Q_];rfl);rw[Q_]at Qs;have JX:∀b o,b≠e->(h2.push tb).get? b=some o->((h2.push tb).update e (Obj.mapFields (·.setIfInBounds 1 (Value.ref h2.objs.size)))).get? b=some o:=λb o hb z=>(Heap.get?_update_other _ _ (Ne.symm hb)).trans z;have I4:=I3.write (h':=(h2.push tb).update e (Obj.mapFields (·.setIfInBounds 1 (Value.ref h2.objs.size)))) (t':=s.toks) (x:=e) (e:=e) (o:=xO e C od) (by rw[at_];trivial) (.inl rfl) JX ⟨_,Qs⟩ (Dk Qs);rw[Gk at_]at I4;refine q _ h2.objs.size I4 ⟨at_,⟨_,sl,Qs,by simp[h1]⟩,RE,X6 I2.sz (X5 _),Vx,tb,_,JX _ _ neT Qv,hTd,?_⟩;simp only[Yi,X_,YB,List.length_nil];omega
theorem v8{M:Model}{A:Around}{E:nT}{Q:Z2}{O:Env}(hA:A.frames=some X.stack)(tp:Top X L)(hf:O.frame=some L)(I:Inv X [] σ H s)(f:RK X H s.heap e C od)
  (q:∀s' T,Inv X [] σ H s'->rV X H s'.heap e C od T->Q () s'):wpAny M A (noteFrame (.ref e) O) Q E s:=by
 obtain⟨vs,sl,ho,alt⟩:=f.obj;unfold noteFrame;simp only[hf];rcases alt with h1|⟨T,h1,tb⟩
 ·refine X0 (wpAny_field ho rfl h1 ?_);rw[YF (by decide)];exact xa hA tp hf I f.at_ ho (Array.getElem?_eq_some_iff.mp h1).1 q
 ·have fT:rV X H s.heap e C od T:=⟨f.at_,⟨vs,sl,ho,h1⟩,tb⟩;obtain⟨oT,ts,hT,U,h3⟩:=tb.obj;refine X0 (wpAny_field ho rfl h1 ?_);have ne:(Value.ref T != Value.none)=true:=by simp
  rw[YG ne];refine X0 (wpAny_field hT U (Yw h3) ?_);by_cases hm:(ts[3]==rawInt L)=true
  ·rw[YG hm];exact X1 (q s T I fT)
  ·rw[YF hm];have z:=I.mark fT .none;refine X0 (wpAny_setField hT U h3 ?_);obtain⟨vs',sl',ho',h1'⟩:=z.2.obj;exact xa hA tp hf z.1 f.at_ ho' (Array.getElem?_eq_some_iff.mp h1').1 q
end
def XE(X:Cx)(E:XK):nT:=λev s'=>∃e C od σ' H',ev=.ref e/\Inv X [] σ' H' s'/\RK X H' s'.heap e C od/\E (.ref C) (some e) H'
abbrev Cx.xs(X:Cx)(E:XK):Cx:=X.wish (XE X E)
def yy(P:Program)(w:World):sQ:=λouter H s E ev s'=>∃e C od H',ev=.ref e/\s'.os=s.os/\AllBare s'.gens/\Un (frs outer) [] H H' s.heap s'.heap/\ky P w H' s'.heap/\E (.ref C) (some e) H'/\H' e=some (xO e C od)/\
 ∃vs sl T oT ts,s'.heap.get? e=some {cls:=.ref C,dict:=od,data:=.fields vs,slots:=sl}/\vs[1]? = some (.ref T)/\H' T=none/\s.heap.objs.size<=T/\s'.heap.get? T=some oT/\oT.data=.fields ts/\3<ts.size
theorem OG{P:Program}{w:World}{X:Cx}:Passes (yy P w) X E0:=λ_ _ _ _ _ _ _ h=>by obtain⟨_,_,_,_,_,_,_,_,_,f,_⟩:=h;exact f.elim
theorem AQ{X:Cx}{E:XK}:Passes (yy X.prog X.w) (X.xs E) E:=by intro ac σ H s ev s' I h;obtain⟨e,C,od,H',rfl,os,bare,un,hok,hE,at_,vs,sl,T,oT,ts,ho,h1,hT,hn,U,hd,h3⟩:=h;have I':Inv (X.xs E) ac σ H' s':=I.call' (ch:=[]) os un hok bare λb z=>YE z (by simp);have I2:Inv X [] σ H' s':=(I'.iV (pins':=[]) λp O=>YE O (by simp)).eY;refine⟨e,C,od,σ,H',rfl,I2,⟨at_,vs,sl,ho,.inr ⟨T,h1,hT,X6 I.sz hn,λp O z=>?_,oT,ts,U,hd,h3⟩⟩,hE⟩;have:=(I.pin p (List.mem_append_left _ O)).1;exact YE (Yc (X3 this) hn) (by rw[z];exact Nat.lt_irrefl _)
theorem zv{X:Cx}{E:XK}{L:Addr}(tp:Top X L):PassesOwn (model X.prog X.w) X.A X.env (XE X E):=by
 intro ev s' h;obtain⟨e,C,od,σ,H,rfl,I,f,hE⟩:=h;refine v8 I.ok.frames tp tp.fr I f λs2 T I2 f2=>?_;obtain⟨vs,sl,g1,g2⟩:=f2.obj;show wpAny _ _ (field (.ref e) 1 >>= _) _ _ s2;refine X0 (wpAny_field g1 rfl g2 ?_);have ne:¬((Value.ref T==Value.none)=true):=by simp
 rw[YF ne];have z:=pV (M:=model X.prog X.w) (A:=X.A) (E:=XE X E) (Q:=λ_ O=>XE X E (.ref e) O) I2 f2 X.env.frame λO I3 U=>⟨e,C,od,σ,H,rfl,I3,U.T7,hE⟩;first
  |exact z
  |exact X0 (X1 z)
theorem Eh{X:Cx}{E:XK}{L:Addr}{ev:Value}{s':Shared}{Q:Z2}{E2:nT}(tp:Top X L)(h:XE X E ev s')(q:∀e C od σ H s2 T,ev=.ref e->Inv X [] σ H s2->rV X H s2.heap e C od T->E (.ref C) (some e) H->Q () s2) :
  wpAny (model X.prog X.w) X.A (leaving X.env ev) Q E2 s':=by
 obtain⟨e,C,od,σ,H,rfl,I,f,U⟩:=h;unfold leaving;exact X0 (v8 I.ok.frames tp tp.fr I f λs2 T O f2=>pV O f2 none λs3 I3 z=>q e C od σ H s3 T rfl I3 z U)
section
variable{P:Program}{w:World}{K:YY}{mg:Z0}{base:Heap}
theorem rl{CX:sQ}{N:List Str}{qual:Str}{sc:Scope}{f:Addr}{cd:Value}{A:Around}{outer:List Env}{s:Shared}{H:Hp}{E:XK}:Top (tK CX P w K mg base N qual sc f cd A outer s H E) s.heap.objs.size:=⟨⟨_,_,rfl,rfl⟩,rfl⟩
theorem Dd.Ll{x qual:Str}{st:Stmt}{f:Addr}{fd:FuncData}{N ps:List Str}{k:Nat}{sp:Sp}(F:Dd K x qual st f fd)(S:ax N ps (aq st))(len:∀vs H Q E,sp vs H Q E->vs.length=ps.length)
  (O:∀(cdv:Value)(A:Around)(outer:List Env)(s:Shared)(H:Hp)(vs:List V)(Q:VK)(E:XK),fV k (A.deeper (envOfC qual (aq st) s.heap.objs.size f cdv))->sp vs H Q E->
   ∃t,uA ((tK (yy P w) P w K mg base N qual (aq st) f cdv A outer s H E).xs E) (du st) t/\t {nx:=λ_ H'=>Q .non H',rt:=Q} (start N vs) H):f_ P w K mg base (yy P w) (k+1) f fd ps sp:=by
 obtain⟨oc,od,kV,doc,pm,an,cdv,ct,osl,rfl,lk,hcd⟩:=F.ex;refine JG lk hcd S len λA outer s H vs Q E hr hsp=>?_;obtain⟨t,h,q⟩:=O cdv A outer s H vs Q E hr hsp;refine⟨t,λac s1 σ H1 D I hw=>?_,q⟩;refine Yx (h ac s1 σ H1 D (I.wish _) hw) (λ_ _ z=>z.eY) λev s2 hx=>?_;refine Eh rl hx λe C od dJ H2 s3 T ee I3 U hE=>?_;subst ee;obtain⟨V0,U1,g1,g2⟩:=U.obj;obtain⟨oT,ts,t1,t2,t3⟩:=U.tb.obj;exact⟨e,C,od,H2,rfl,I3.os,I3.bare,I3.base,I3.hok,hE,U.at_,V0,U1,T,oT,ts,g1,g2,U.tb.free,U.tb.new,t1,t2,t3⟩
end
def Ky(C:Addr)(E:XK)(t:TA):TS:=λ_ σ H=>t σ H λvs H1=>vs.length<=sizeLine/\∀a,H1 a=none->E (.ref C) (some a) (upd H1 a (xO a C none))
theorem D8{X:Cx}{E:XK}{C:Addr}{x:Str}{np cpos pos:Pos}{e:Expr}{es:List Expr}{t:TA}(hc:X.calm=true)(hx:jH X.K C u0 "ValueError.__new__" none=true)(hg:Gl (X.xs E) x)(hm:X.mg x=some (.ref C))(ha:PA (X.xs E) (e::es) t)
  (U:(x==("__debug__" : Str))=false:=by decide) (he:starEach (e::es) X.env=(false,eval e X.env)::starEach es X.env:=by rfl) (hpl:(backTo cpos (starEach es X.env)).any (·.1)=false:=by rfl) :
  PS (X.xs E) (.Raise (some (.Call (.Name x np) (e::es) [] cpos)) none pos) (Ky C E t):=by
 intro ac s σ H D I h;obtain⟨bm,N,nm,q',bs,hd,sn,sub,ab,col,dd,k0,k1,k2,k3,k5,mN,hC,hN,hni,T⟩:=pP I.ok.mod.Lk hx;have z:(backTo cpos (starEach (e::es) X.env)).any (·.1)=false:=by rw[he];show(false||(backTo cpos (starEach es X.env)).any (·.1))=false;rw[hpl];rfl
 refine wpAny_Raise_call_subT (C:=C) (nm:=nm) (q:=q') (N:=N) (bs:=bs) (bm:=bm) (hdct:=hd) (sn:=sn) (sub:=sub) (ab:=ab) (col:=col) (dd:=dd) (k0:=k0) (k1:=k1) (k2:=k2) (k3:=k3) (k5:=k5)
  PySem.F.excBase_ValueError (mN:=mN) (T.hasType PySem.F.excBase_ValueError.hasBase) (I.ok.hd hc) z hni (qG I hg hm ⟨rfl,?_⟩ U)
 have hA:=ha cpos ac s σ H _ I h;rw[show starEach (e::es) (X.xs E).env=(false,eval e X.env)::starEach es X.env from he]at hA;rw[show starEach (e::es) (X.xs E).env=(false,eval e X.env)::starEach es X.env from he];refine Calls.evalArgs_plain (cu hA λus s1 zz=>?_);obtain⟨vs,H1,O,r,hz,q⟩:=zz;refine⟨rfl,by show us.length<=sizeLine;rw[←r.length];exact hz,O.bk _ _ hC,hN.keeps O.bk,T.keeps O.bk,λh' a m=>?_⟩;obtain⟨tt,et,_,_⟩:=m.there;obtain⟨hn,I2⟩:=O.RJ m;have I3:=(I2.iV (pins':=[]) λp hp=>YE hp (by simp)).eY;exact⟨a,C,none,σ,upd H1 a (xO a C none),rfl,I3,⟨ae,_,_,et,.inl rfl⟩,q a hn⟩
end L2
namespace L2
open PySem PyProof.Rows
theorem fs{N P:List Str}{sc:Scope}(h1:sc.kind=.function:=by rfl)(h2:sc.isCoroutine=false:=by rfl)(h3:sc.isGenerator=false:=by rfl)(h4:N.Nodup:=by decide +kernel)(h5:N.take P.length=P:=by rfl)
  (h6:∀x∈P,sc.names.lookup x=some .local\/sc.names.lookup x=some .cell:=by decide +kernel) (h7:∀y∈sc.names,y.2≠ .free:=by decide +kernel):ax N P sc:=⟨h1,h2,h3,h4,h5,h6,h7⟩
theorem lenS{P:Z4->Prop}{n:Nat}(h:∀a,∀l:Z4,l.length=n->P (a::l)):∀us:Z4,us.length=n+1->P us:=by
 intro us z;cases us with
 |nil=>cases z
 |cons a l=>exact h a l (Nat.succ.inj z)
theorem len0{P:Z4->Prop}(h:P []):∀us:Z4,us.length=0->P us:=by
 intro us z;cases us with
 |nil=>exact h
 |cons a l=>cases z
theorem Mc{P:Z4->Prop}(h:∀a0,P [a0]):∀us:Z4,us.length=1->P us:=lenS λa=>len0 (P:=λl=>P (a::l)) (h a)
theorem Mr{P:Z4->Prop}(h:∀a0 a1,P [a0,a1]):∀us:Z4,us.length=2->P us:=lenS λa=>Mc (P:=λl=>P (a::l)) (h a)
theorem Hn{P:Z4->Prop}(h:∀a0 a1 z,P [a0,a1,z]):∀us:Z4,us.length=3->P us:=lenS λa=>Mr (P:=λl=>P (a::l)) (h a)
theorem Mo{P:Z4->Prop}(h:∀a0 a1 O z,P [a0,a1,O,z]):∀us:Z4,us.length=4->P us:=lenS λa=>Hn (P:=λl=>P (a::l)) (h a)
theorem MM{P:Z4->Prop}(h:∀a0 a1 U z O,P [a0,a1,U,z,O]):∀us:Z4,us.length=5->P us:=lenS λa=>Mo (P:=λl=>P (a::l)) (h a)
structure FA(K:YY)(mg:Z0)(x:Str)(st:Stmt):Prop where
 ex:∃f fd,Dd K x x st f fd/\mg x=some (.ref f)
structure bz(CX:sQ)(P:Program)(w:World)(K:YY)(mg:Z0)(base:Heap)(k:Nat)(x:Str)(ps:List Str)(sp:Sp):Prop where
 ex:∃f fd,f_ P w K mg base CX k f fd ps sp/\Binds K fd ps []/\PySem.W.keepIn K (.ref f)=true/\mg x=some (.ref f)
def FnAt(P:Program)(w:World)(K:YY)(mg:Z0)(base:Heap)(k:Nat)(f:Addr)(ps:List Str)(sp:Sp):Prop :=
 ∃fd,f_ P w K mg base bx k f fd ps sp/\Binds K fd ps []/\PySem.W.keepIn K (.ref f)=true
section
variable{CX:sQ}{P:Program}{w:World}{K:YY}{mg:Z0}{base:Heap}{x:Str}{st:Stmt}{ps N:List Str}{sp:Sp}{j k:Nat}
theorem bz.m(G:bz CX P w K mg base j x ps sp)(h:j<=k:=by decide):bz CX P w K mg base k x ps sp:=by obtain⟨f,fd,h1,h2⟩:=G.ex;exact⟨f,fd,h1.mono h,h2⟩
theorem bz.at{f:Addr}(G:bz bx P w K mg base k x ps sp)(h:mg x=some (.ref f)):FnAt P w K mg base k f ps sp:=by obtain⟨g,fd,h1,h2,h3,h4⟩:=G.ex;cases h4.symm.trans h;exact⟨fd,h1,h2,h3⟩
theorem FA.cal(F:FA K mg x st)(ok:∀f fd,Dd K x x st f fd->f_ P w K mg base CX k f fd ps sp)
  (z:∀(kV doc pm:Value)(an:Option Addr)(cdv ct:Value)(us:Z4),us.length=ps.length->bindArgs (PySem.W.fnOf x x (fw st) (du st) (aq st) .none kV doc pm an cdv ct) ⟨us,[]⟩=pure (ps.zip us):=by first
   | (intro _ _ _ _ _ _;refine L2.Mc ?_;intro _;rfl)
   | (intro _ _ _ _ _ _;refine L2.Mr ?_;intro _ _;rfl)
   | (intro _ _ _ _ _ _;refine L2.Hn ?_;intro _ _ _;rfl)
   | (intro _ _ _ _ _ _;refine L2.Mo ?_;intro _ _ _ _;rfl)
   | (intro _ _ _ _ _ _;refine L2.MM ?_;intro _ _ _ _ _;rfl)):bz CX P w K mg base k x ps sp:=by
 obtain⟨f,fd,h1,h2⟩:=F.ex;exact⟨f,fd,ok f fd h1,h1.binds z,h1.kp,h2⟩
theorem FA.ok(F:FA K mg x st)(S:ax N ps (aq st))
  (z:∀(f:Addr)(cdv:Value)(A:Around)(outer:List Env)(s:Shared)(H:Hp)(vs:List V)(Q:VK)(E:XK),fV k (A.deeper (envOfC x (aq st) s.heap.objs.size f cdv))->sp vs H Q E->
   ∃t,uA (tK bx P w K mg base N x (aq st) f cdv A outer s H E).BF (du st) t/\t {nx:=λ_ H'=>Q .non H',rt:=Q} (start N vs) H)
  (len:∀vs H Q E,sp vs H Q E->vs.length=ps.length:=by
   intro vs H Q E h;first
   |exact YK h
   | (obtain⟨_,rfl,_⟩:=h;rfl)
   | (obtain⟨_,_,rfl,_⟩:=h;rfl)
   | (obtain⟨_,_,_,rfl,_⟩:=h;rfl)
   | (obtain⟨_,_,_,_,rfl,_⟩:=h;rfl)
   | (obtain⟨_,_,_,_,_,rfl,_⟩:=h;rfl)
   | (obtain⟨_,_,_,_,_,_,rfl,_⟩:=h;rfl)
   | (obtain⟨_,_,_,_,_,_,_,rfl,_⟩:=h;rfl)
   | (obtain⟨_,_,_,_,_,_,_,_,rfl,_⟩:=h;rfl)
   | (obtain⟨_,_,_,_,_,_,_,_,_,rfl,_⟩:=h;rfl)
   | (obtain⟨_,_,_,_,_,_,_,_,_,_,rfl,_⟩:=h;rfl)
   | (obtain⟨_,_,_,_,_,_,_,_,_,_,_,rfl,_⟩:=h;rfl))
  (O:∀(kV doc pm:Value)(an:Option Addr)(cdv ct:Value)(us:Z4),us.length=ps.length->bindArgs (PySem.W.fnOf x x (fw st) (du st) (aq st) .none kV doc pm an cdv ct) ⟨us,[]⟩=pure (ps.zip us):=by first
   | (intro _ _ _ _ _ _;refine L2.Mc ?_;intro _;rfl)
   | (intro _ _ _ _ _ _;refine L2.Mr ?_;intro _ _;rfl)
   | (intro _ _ _ _ _ _;refine L2.Hn ?_;intro _ _ _;rfl)
   | (intro _ _ _ _ _ _;refine L2.Mo ?_;intro _ _ _ _;rfl)
   | (intro _ _ _ _ _ _;refine L2.MM ?_;intro _ _ _ _ _;rfl)):bz bx P w K mg base (k+1) x ps sp :=
 F.cal (λf fd h1=>h1.ok S len λcdv A outer s H vs Q E=>z f cdv A outer s H vs Q E) O
theorem FA.Ll(F:FA K mg x st)(S:ax N ps (aq st))
  (z:∀(f:Addr)(cdv:Value)(A:Around)(outer:List Env)(s:Shared)(H:Hp)(vs:List V)(Q:VK)(E:XK),fV k (A.deeper (envOfC x (aq st) s.heap.objs.size f cdv))->sp vs H Q E->
   ∃t,uA ((tK (yy P w) P w K mg base N x (aq st) f cdv A outer s H E).xs E) (du st) t/\t {nx:=λ_ H'=>Q .non H',rt:=Q} (start N vs) H)
  (len:∀vs H Q E,sp vs H Q E->vs.length=ps.length:=by
   intro vs H Q E h;first
   |exact YK h
   | (obtain⟨_,rfl,_⟩:=h;rfl)
   | (obtain⟨_,_,rfl,_⟩:=h;rfl)
   | (obtain⟨_,_,_,rfl,_⟩:=h;rfl)
   | (obtain⟨_,_,_,_,rfl,_⟩:=h;rfl)
   | (obtain⟨_,_,_,_,_,rfl,_⟩:=h;rfl)
   | (obtain⟨_,_,_,_,_,_,rfl,_⟩:=h;rfl)
   | (obtain⟨_,_,_,_,_,_,_,rfl,_⟩:=h;rfl)
   | (obtain⟨_,_,_,_,_,_,_,_,rfl,_⟩:=h;rfl)
   | (obtain⟨_,_,_,_,_,_,_,_,_,rfl,_⟩:=h;rfl)
   | (obtain⟨_,_,_,_,_,_,_,_,_,_,rfl,_⟩:=h;rfl)
   | (obtain⟨_,_,_,_,_,_,_,_,_,_,_,rfl,_⟩:=h;rfl))
  (O:∀(kV doc pm:Value)(an:Option Addr)(cdv ct:Value)(us:Z4),us.length=ps.length->bindArgs (PySem.W.fnOf x x (fw st) (du st) (aq st) .none kV doc pm an cdv ct) ⟨us,[]⟩=pure (ps.zip us):=by first
   | (intro _ _ _ _ _ _;refine L2.Mc ?_;intro _;rfl)
   | (intro _ _ _ _ _ _;refine L2.Mr ?_;intro _ _;rfl)
   | (intro _ _ _ _ _ _;refine L2.Hn ?_;intro _ _ _;rfl)
   | (intro _ _ _ _ _ _;refine L2.Mo ?_;intro _ _ _ _;rfl)
   | (intro _ _ _ _ _ _;refine L2.MM ?_;intro _ _ _ _ _;rfl)):bz (yy P w) P w K mg base (k+1) x ps sp :=
 F.cal (λf fd h1=>h1.Ll S len λcdv A outer s H vs Q E=>z f cdv A outer s H vs Q E) O
end
section
variable{X:Cx}{CX:sQ}{x:Str}{ps:List Str}{sp:Sp}{j k:Nat}{E:XK}{e:Expr}{es:List Expr}{t:TA}{p pos:Pos}
theorem t_(G:bz CX X.prog X.w X.K X.mg X.base j x ps sp)(U:fV k X.A)(hg:Gl X x)(hx:Passes CX X E)(ha:PA X (e::es) t)(hl:j<=k:=by omega)
  (z:(x==("__debug__" : Str))=false:=by decide) (he:starEach (e::es) X.env=(false,eval e X.env)::starEach es X.env:=by rfl) (O:(backTo pos (starEach es X.env)).any (·.1)=false:=by rfl) :
  PE X (.Call (.Name x p) (e::es) [] pos) (lj sp [] E t):=by
 obtain⟨f,fd,h1,h2,h3,h4⟩:=G.ex;exact Jv (h1.mono hl) U hg h4 h3 h2 .nil hx ha z he O
end
section
variable{X:Cx}{a b e:Expr}{ta tb te:TE}{pos p pos2:Pos}{es:List Expr}{t:TA}
theorem aJ(K:YY)(ha:PE X a ta)(z:PE X b tb)(e:X.K=K:=by rfl)(hs:qO b:=by exact λ_ _=>rfl):PE X (.Subscript a b pos) (eC (jt K) ta tb):=by subst e;exact jv zH ha z hs
theorem bf(K:YY)(ha:PE X a ta)(z:PE X b tb)(e:X.K=K:=by rfl)(hs:qO b:=by exact λ_ _=>rfl):PE X (.Subscript a b pos) (eC (iE K) ta tb):=by subst e;exact jv fZ ha z hs
theorem ba{z:CmpOp}{r:R2}(O:kj X (compareOp z) r)(ha:PE X a ta)(U:PE X b tb)(hm:behindInMarks z b=false:=by exact Dj _):PT X (.Compare a [z] [b] pos) (gD (eC r ta tb)):=eU O ha U hm
theorem gH{z:CmpOp}{r:R2}(O:kj X (compareOp z) r)(ha:PE X a ta)(U:PE X b tb)(hm:behindInMarks z b=false:=by exact Dj _):PE X (.Compare a [z] [b] pos) (eC r ta tb):=jO O ha U hm
theorem aG{x:Str}{ps:List Str}{sp:Sp}{j k:Nat}(G:bz bx X.prog X.w X.K X.mg X.base j x ps sp)(U:fV k X.A)(ha:PA X (e::es) t)(hg:Gl X x:=by rfl)(hl:j<=k:=by omega)
  (z:(x==("__debug__" : Str))=false:=by decide) (he:starEach (e::es) X.env=(false,eval e X.env)::starEach es X.env:=by rfl) (O:(backTo pos (starEach es X.env)).any (·.1)=false:=by rfl) :
  PE X (.Call (.Name x p) (e::es) [] pos) (lj sp [] E0 t):=t_ G U hg tY ha hl z he O
theorem ay(z:PE X e te):uA X [.Return (some e) pos] (Jh te):=bC (Mt z)
theorem bE{c:Expr}{tc:TT}{u:TS}{rest:List Stmt}(O:PT X c tc)(U:PE X e te)(z:uA X rest u):uA X (.If c [.Return (some e) pos] [] pos2::rest) (vI (Cd tc (Jh te) uk) u):=ao (fi O (ay U) dc) z
end
theorem fJ{A:Around}{k:Nat}(z:fV k A):A.units+8<cLine:=by have:=z.un;omega
theorem sG:0<=sizeLine:=by decide
theorem eG:1<=sizeLine:=by decide
theorem cS:2<=sizeLine:=by decide
theorem cz:3<=sizeLine:=by decide
theorem zw:4<=sizeLine:=by decide
theorem KJ:5<=sizeLine:=by decide
def FK(K:YY)(x:Str)(st:Stmt)(f:Addr):Prop:=PySem.W.nsIn K mainGlobals x=some (some (.ref f))/\∃fd,Dd K x x st f fd
theorem FK.fa{K:YY}{h:Heap}{mg:Z0}{x:Str}{st:Stmt}{f:Addr}(F:FK K x st f)(X:K.In h)(G:h.Ns mainGlobals mg):FA K mg x st:=by obtain⟨h1,fd,h2⟩:=F;exact⟨f,fd,h2,YX X G h1⟩
theorem FK.h{K:YY}{h:Heap}{mg:Z0}{x:Str}{st:Stmt}{f:Addr}(F:FK K x st f)(X:K.In h)(G:h.Ns mainGlobals mg):mg x=some (.ref f):=YX X G F.1
theorem Oi{K:YY}{x:Str}{st:Stmt}{f:Addr}{oc:Value}{od an:Option Addr}{osl:Array (Z5)}{kV doc pm cdv ct:Value}(a:PySem.W.nsIn K mainGlobals x=some (some (.ref f)))
  (l:K.lookup f=some ⟨oc,od,.func (PySem.W.fnOf x x (fw st) (du st) (aq st) .none kV doc pm an cdv ct),osl⟩) (c:PySem.W.codeIn K cdv x=true) (k:PySem.W.keepIn K (.ref f)=true):FK K x st f :=
 ⟨a,_,zi l c k⟩
end L2
namespace L2
open PySem PySem.Spec PyProof.Rows
section
variable{X:Cx}{ac:eN}{σ:St}{H:Hp}{s:Shared}
theorem A1{xs:List V}{z:Z4}(r:Vals xs z){j:Nat}(h:j<z.toArray.size):∃x,xs[j]? = some x/\RelV x z.toArray[j]:=by
 have U:j<z.length:=by simpa using h
 have O:j<xs.length:=by rw[r.length];exact U
 refine⟨xs[j],by simp[O],?_⟩;obtain⟨u,e,ru⟩:=r.get (i:=j) (x:=xs[j]) (by simp[O]);have e':z[j]=u:=by rw[Yd U]at e;exact Yr e
 show RelV xs[j] z[j];rw[e'];exact ru
end
section
variable{X:Cx}
theorem xN{bs:List Bool}{z:Z4}(r:Vals (bs.map V.bl) z){i:Nat}{v:Value}(h:z.toArray[i]? = some v):∃b,bs[i]? = some b/\v=.bool b:=by
 have h':z[i]? = some v:=by simpa using h
 have hi:=(Yj.mp h').1;have O:i<bs.length:=by have:=r.length;rw[X9]at this;omega
 obtain⟨u,e,U⟩:=r.get (i:=i) (x:=.bl bs[i]) (by rw[Yu,Yd O];rfl);rw[h']at e;cases e;exact⟨bs[i],Yd O,U⟩
theorem range_all(bs:List Bool):(List.range bs.length).all (λi=>bs.getD i true)=bs.all id:=by
 induction bs with
 |nil=>rfl
 |cons b r z =>rw[YB,List.range_succ_eq_map,List.all_cons,List.all_map,List.all_cons];show(b&&_)=(b&&_);rw[←z];rfl
theorem range_any(bs:List Bool):(List.range bs.length).any (λi=>bs.getD i true)=bs.any id:=by
 induction bs with
 |nil=>rfl
 |cons b r z =>rw[YB,List.range_succ_eq_map,YV,List.any_map,YV];show(b||_)=(b||_);rw[←z];rfl
theorem ip(hc:X.calm=true):gJ X (.builtin "all") (λxs H Q=>∃(p:Addr)(bs:List Bool),xs=[.ref p]/\bb X.K H p (bs.map V.bl)/\Q (.bl (bs.all id)) H):=by
 intro ac s σ H xs us Q I r h;obtain⟨p,bs,rfl,hS,q⟩:=h;obtain⟨u,rfl,ru⟩:=vals1 r;cases ru;obtain⟨O,U,pl,hz⟩:=I.list hS;have hp:p<s.heap.objs.size:=by obtain⟨o,e,_⟩:=pl.isList;exact X3 e
 have hl:O.toArray.size=bs.length:=by have:=U.length;rw[X9]at this;simp[this]
 refine call_all_walk (wpAny_pyIter_list pl.isList ?_);refine⟨s.heap.objs.size,_,_,_,_,_,λi=>bs.getD i true,rfl,Walks.list (A:=X.A.in1) (I.ok.hd hc) _ p (Yp hp) O.toArray,⟨⟨_,X4 _ rfl,rfl,rfl⟩,?_⟩,?_,λh' tk hk=>?_⟩
 ·obtain⟨o,e,z⟩:=pl.isList;exact⟨o,X2 _ e,z⟩
 ·intro i v s' Q' E' hv hq;obtain⟨b,e,rfl⟩:=xN U hv;refine wpAny_truthy_bool ?_;have:bs.getD i true=b:=by rw[List.getD_eq_getElem?_getD,e];rfl
  rw[←this];exact hq
 ·rw[hl,range_all];have I1:Inv X ac σ H {s with heap:=s.heap.push {cls:=.type "list_iterator",data:=.fields #[.ref p,.int 0 0]}}:=I.kept (t':=s.toks) λb o e=>X2 _ e;have f:=I.pH (b:=s.heap.objs.size) (H':=H) (X5 _) (I.hok.fresh (X5 _));exact⟨.bl _,H,I1.turned (λb o hb e=>hk b o (by simpa using hb) e) f.1 f.2.1 f.2.2.2.1 f.2.2.2.2.1 f.2.2.2.2.2,rfl,q⟩
theorem pK(hc:X.calm=true):gJ X (.builtin "any") (λxs H Q=>∃(p:Addr)(bs:List Bool),xs=[.ref p]/\bb X.K H p (bs.map V.bl)/\Q (.bl (bs.any id)) H):=by
 intro ac s σ H xs us Q I r h;obtain⟨p,bs,rfl,hS,q⟩:=h;obtain⟨u,rfl,ru⟩:=vals1 r;cases ru;obtain⟨O,U,pl,hz⟩:=I.list hS;have hp:p<s.heap.objs.size:=by obtain⟨o,e,_⟩:=pl.isList;exact X3 e
 have hl:O.toArray.size=bs.length:=by have:=U.length;rw[X9]at this;simp[this]
 refine call_any_walk (wpAny_pyIter_list pl.isList ?_);refine⟨s.heap.objs.size,_,_,_,_,_,λi=>bs.getD i true,rfl,Walks.list (A:=X.A.in1) (I.ok.hd hc) _ p (Yp hp) O.toArray,⟨⟨_,X4 _ rfl,rfl,rfl⟩,?_⟩,?_,λh' tk hk=>?_⟩
 ·obtain⟨o,e,z⟩:=pl.isList;exact⟨o,X2 _ e,z⟩
 ·intro i v s' Q' E' hv hq;obtain⟨b,e,rfl⟩:=xN U hv;refine wpAny_truthy_bool ?_;have:bs.getD i true=b:=by rw[List.getD_eq_getElem?_getD,e];rfl
  rw[←this];exact hq
 ·rw[hl,range_any];have I1:Inv X ac σ H {s with heap:=s.heap.push {cls:=.type "list_iterator",data:=.fields #[.ref p,.int 0 0]}}:=I.kept (t':=s.toks) λb o e=>X2 _ e;have f:=I.pH (b:=s.heap.objs.size) (H':=H) (X5 _) (I.hok.fresh (X5 _));exact⟨.bl _,H,I1.turned (λb o hb e=>hk b o (by simpa using hb) e) f.1 f.2.1 f.2.2.2.1 f.2.2.2.2.1 f.2.2.2.2.2,rfl,q⟩
end
section
variable{elt t1 i1 t2 i2:Expr}{f1 f2:List Expr}{sc:Scope}{pos:Pos}
abbrev tI(elt t1 i1:Expr)(f1:List Expr)(t2 i2:Expr)(f2:List Expr)(sc:Scope)(pos:Pos):Expr:=.ListComp elt [⟨t1,i1,f1,0⟩,⟨t2,i2,f2,0⟩] sc pos
theorem qU(it acc:Value)(env:Env) :
  compTurn (tI elt t1 i1 f1 t2 i2 f2 sc pos) 0 it acc env=(do
   standAt i1.pos
   match←pyNext it with
   |none=>pure (.done .next)
   |some v =>
    letOwnedTupleGo t1 it v
    assign t1 env v
    let mut ok:=true
    for c in f1 do
     if ok then ok←isTrue c env (eval c env)
    if ok then
     let x←eval i2 env
     standAt i2.pos
     let x←foldedSetIterable i2 env x
     let _←runOwn (.compStart (tI elt t1 i1 f1 t2 i2 f2 sc pos) 1 (←holding [x] (pyIter x)) acc env) env
    again (.compLoop (tI elt t1 i1 f1 t2 i2 f2 sc pos) 0 it acc env)):=by rfl
theorem sf(it acc:Value)(env:Env) :
  compTurn (tI elt t1 i1 f1 t2 i2 f2 sc pos) 1 it acc env=(do
   standAt i2.pos
   match←pyNext it with
   |none=>pure (.done .next)
   |some v =>
    letOwnedTupleGo t2 it v
    assign t2 env v
    let mut ok:=true
    for c in f2 do
     if ok then ok←isTrue c env (eval c env)
    if ok then
     (do let _←call (.builtin "list.append") [acc,←eval elt env])
    again (.compLoop (tI elt t1 i1 f1 t2 i2 f2 sc pos) 1 it acc env)):=by rfl
section
variable{it acc:Value}{env:Env}{prog:Program}{w:World}{A:Around}{s:Shared}{R:Z3}
theorem uZ(Iv:Nat->Shared->Prop)
  (turn:∀n s,Iv n s->wpAny (model prog w) A (pyNext it) (λr z=>match r with
   |none=>R (.ok .next) z
   |some v=>wpAny (model prog w) A (letOwnedTupleGo t2 it v) (λ_ O=>wpAny (model prog w) A (assign t2 env v) (λ_ s₂ =>
     wpAny (model prog w) A (forIn f2 true λc r=>if r=true then do let ok←isTrue c env (eval c env);pure (ForInStep.yield ok)else pure (ForInStep.yield r)) (λok U =>
      if ok=true then wpAny (model prog w) A (eval elt env) (λx s₄ =>
       wpAny (model prog w) A (call (.builtin "list.append") [acc,x]) (λ_ s₅=>∃m,m<n/\Iv m s₅) (λ_ _=>False) s₄) (λ_ _=>False) U
      else∃m,m<n/\Iv m U) (λ_ _=>False) s₂) (λ_ _=>False) O) (λ_ _=>False) z) (λ_ _=>False) s)
  (n:Nat) (h:Iv n s) :
  codeAny (model prog w) A (.compLoop (tI elt t1 i1 f1 t2 i2 f2 sc pos) 1 it acc env) R s:=by
 refine codeAny_loop rfl Iv (λn s hI=>?_) n h;show wpAny _ A ((compTurn (tI elt t1 i1 f1 t2 i2 f2 sc pos) 1 it acc env).onRaise (λx=>do noteFrame x env;theTreesLotGoes x)) _ _ s;refine wpAny_noted ?_;rw[sf];refine X0 (wpAny_standAt (X0 (Yx (turn n s hI) (λr z h₁=>?_) λ_ _ h'=>h'.elim)));cases r with
 |none=>exact X1 h₁
 |some v =>
  refine X0 (Yx h₁ (λ_ O h₁'=>X0 (Yx h₁' (λ_ s₂ h₂=>X0 (Yx h₂ (λok U h₃=>?_) λ_ _ h'=>h'.elim)) λ_ _ h'=>h'.elim)) λ_ _ h'=>h'.elim);cases ok with
  |false=>exact X1 ⟨rfl,h₃⟩
  |true =>exact X0 (X0 (Yx h₃ (λx s₄ h₄=>X0 (Yx h₄ (λ_ s₅ h₅=>X1 (X1 ⟨rfl,h₅⟩)) λ_ _ h'=>h'.elim)) λ_ _ h'=>h'.elim))
theorem sV(hs:∀x,foldedSetIterable i2 env x=pure x)(Iv:Nat->Shared->Prop)
  (turn:∀n s,Iv n s->wpAny (model prog w) A (pyNext it) (λr z=>match r with
   |none=>R (.ok .next) z
   |some v=>wpAny (model prog w) A (letOwnedTupleGo t1 it v) (λ_ O=>wpAny (model prog w) A (assign t1 env v) (λ_ s₂ =>
     wpAny (model prog w) A (forIn f1 true λc r=>if r=true then do let ok←isTrue c env (eval c env);pure (ForInStep.yield ok)else pure (ForInStep.yield r)) (λok U =>
      if ok=true then wpAny (model prog w) A (eval i2 env) (λx s₄=>wpAny (model prog w) A (pyIter x) (λUm s₅ =>
       codeAny (model prog w) A (.compStart (tI elt t1 i1 f1 t2 i2 f2 sc pos) 1 Um acc env) (λr s'=>match r with | .ok _=>∃m,m<n/\Iv m s' | .error _=>False) s₅) (λ_ _=>False) s₄) (λ_ _=>False) U
      else∃m,m<n/\Iv m U) (λ_ _=>False) s₂) (λ_ _=>False) O) (λ_ _=>False) z) (λ_ _=>False) s)
  (n:Nat) (h:Iv n s) :
  codeAny (model prog w) A (.compLoop (tI elt t1 i1 f1 t2 i2 f2 sc pos) 0 it acc env) R s:=by
 refine codeAny_loop rfl Iv (λn s hI=>?_) n h;show wpAny _ A ((compTurn (tI elt t1 i1 f1 t2 i2 f2 sc pos) 0 it acc env).onRaise (λx=>do noteFrame x env;theTreesLotGoes x)) _ _ s;refine wpAny_noted ?_;rw[qU];refine X0 (wpAny_standAt (X0 (Yx (turn n s hI) (λr z h₁=>?_) λ_ _ h'=>h'.elim)));cases r with
 |none=>exact X1 h₁
 |some v =>
  refine X0 (Yx h₁ (λ_ O h₁'=>X0 (Yx h₁' (λ_ s₂ h₂=>X0 (Yx h₂ (λok U h₃=>?_) λ_ _ h'=>h'.elim)) λ_ _ h'=>h'.elim)) λ_ _ h'=>h'.elim);cases ok with
  |false=>exact X1 ⟨rfl,h₃⟩
  |true =>
   refine X0 (Yx h₃ (λx s₄ h₄=>?_) λ_ _ h'=>h'.elim);refine X0 (wpAny_standAt (X0 (wpAny_of_eq (hs x) ?_)));refine X0 (Yy (Yx h₄ (λUm s₅ h₅=>?_) λ_ _ h'=>h'.elim));refine X0 (wpAny_runOwn (codeAny_mono h₅ λr s' hr=>?_));cases r with
   |ok f=>exact X1 ⟨rfl,hr⟩
   |error x=>exact hr.elim
theorem kC
  (h0:codeAny (model prog w) A (.compLoop (tI elt t1 i1 f1 t2 i2 f2 sc pos) 1 it acc env) R s)
  (h:wpAny (model prog w) A (pyIter it) (λz s'=>codeAny (model prog w) A (.compLoop (tI elt t1 i1 f1 t2 i2 f2 sc pos) 1 z acc env) R s')
   (notedBy (model prog w) A env λx s'=>R (.error x) s') s) :
  codeAny (model prog w) A (.compStart (tI elt t1 i1 f1 t2 i2 f2 sc pos) 1 it acc env) R s:=by
 refine codeAny_of_tree ?_;show wpAny _ _ ((compStart (tI elt t1 i1 f1 t2 i2 f2 sc pos) 1 it acc env).onRaise (λx=>do noteFrame x env;standAt theWindowsPlace)) _ _ s;refine wpAny_notedAt ?_;unfold compStart;show wpAny _ _ (ask >>= _) _ _ s;refine X0 (wpAny_askSetting (wpAny_ite ?_));split
 ·first
   |exact X0 (X1 (X1 (And.intro rfl h0)))
   |exact X1 (And.intro rfl h0)
 ·first
   |exact X0 (wpAny_rule (X0 (wpAny_standAt (X0 (Yx h (λz s' h'=>X1 (And.intro rfl h')) λ_ _ x=>x)))))
   | (refine X0 (wpAny_rule ?_);show wpAny _ _ (standAt i2.pos >>= _) _ _ s;exact X0 (wpAny_standAt (X0 (Yx h (λz s' h'=>X1 (And.intro rfl h')) λ_ _ x=>x))))
end
end
def qV(J:It)(g:TG)(tc:TT)(te:TE)(D:Addr)(N:St->List V->Hp->Prop)(W:Nat->Nat->St->List V->Hp->Prop):Prop :=
 ∀i m σ ys H,W i m σ ys H->H D=some (.lst ys)/\((J.stop i H/\N σ ys H)\/(J.go i H/\ys.length<sizeLine/\∃U:St->List V->Hp->Prop,(∀σ' z H',U σ' z H'->∃m',m'<m/\W (i+1) m' σ' z H')/\
  ∀x H',J.FL i H x H'->g x σ H' λO H2=>tc O H2 λb H3 =>
   if b=true then te O H3 λv H4=>H4 D=some (.lst ys)/\U O (ys++[v]) (upd H4 D (.lst (ys++[v])))else U O ys H3))
def vV(J:It)(g:TG)(tc:TT)(wi2:TI)(g2:TG)(we:TT)(te:TE)(D:Addr)(Q:VK)(W:Nat->Nat->St->List V->Hp->Prop):Prop :=
 ∀i m σ ys H,W i m σ ys H->H D=some (.lst ys)/\((J.stop i H/\Q (.ref D) H)\/(J.go i H/\∃N:St->List V->Hp->Prop,(∀σ' z H',N σ' z H'->∃m',m'<m/\W (i+1) m' σ' z H')/\
  ∀x H',J.FL i H x H'->g x σ H' λO H2=>tc O H2 λb U =>
   if b=true then wi2 O U λJ2 H4=>∃W2:Nat->Nat->St->List V->Hp->Prop,(∃m,W2 0 m O ys H4)/\qV J2 g2 we te D N W2 else N O ys U))
def Fm(src:List (Option Nat))(wi:TI)(g:TG)(tc:TT)(wi2:TI)(g2:TG)(we:TT)(te:TE):TE:=λσ H Q=>wi σ H λJ H1=>∀D,H1 D=none->
 ∃W:Nat->Nat->St->List V->Hp->Prop,(∃m,W 0 m (kP src σ) [] (upd H1 D (.lst [])))/\vV J g tc wi2 g2 we te D Q W
section
variable{X:Cx}{elt t1 i1 t2 i2:Expr}{f1 f2:List Expr}{sc:Scope}{pos:Pos}{wi wi2:TI}{g g2:TG}{tc we:TT}{te:TE}{N':List Str}{src:List (Option Nat)}
theorem yI{Y:Cx}(hc:Y.calm=true)(QE:Y.xe = λ_ _=>False)(hg:PG Y t2 g2)(ht:jK Y f2 we)(he:PE Y elt te)
  {ac:eN} {σ:St} {H:Hp} {s:Shared} {ys:List V} {it D:Addr} {fp:Z6} {tn:Nat->Heap->Prop} {J:It} {N:St->List V->Hp->Prop} {R:Z3}
  (I:Inv Y ac σ H s) (T:Turn Y.prog Y.w Y.K t2 J fp it tn) (st:tn 0 s.heap) (ff:∀b∈fp,eI Y ac H b) {W:Nat->Nat->St->List V->Hp->Prop} {m:Nat} (w0:W 0 m σ ys H) (hW:qV J g2 we te D N W)
  (hR:∀σ' U H' s',Inv Y ac σ' H' s'->N σ' U H'->R (.ok .next) s') :
  codeAny (model Y.prog Y.w) Y.A (.compStart (tI elt t1 i1 f1 t2 i2 f2 sc pos) 1 (.ref it) (.ref D) Y.env) R s:=by
 have O:∀{H':Hp},(∀b∈fp,H' b=none)->∀b∈fp,eI Y ac H' b:=λhn b hb=>⟨hn b hb,(ff b hb).2⟩;have loop:codeAny (model Y.prog Y.w) Y.A (.compLoop (tI elt t1 i1 f1 t2 i2 f2 sc pos) 1 (.ref it) (.ref D) Y.env) R s:=by
  refine uZ (λn s'=>∃i σ' ys H',Inv Y ac σ' H' s'/\tn i s'.heap/\(∀b∈fp,H' b=none)/\W i n σ' ys H') ?_ m ⟨0,_,_,_,I,st,λb hb=>(ff b hb).1,w0⟩;rintro n s5 ⟨i,qL,ys,H5,I5,wt,yv,w5⟩;obtain⟨hD,alt⟩:=hW i n qL ys H5 w5;rcases alt with⟨stop,qn⟩|⟨go,hsz,N2,hN,step⟩
  ·refine cu (T.done Y rfl rfl rfl hc i ac s5 qL H5 _ I5 (O yv) wt stop) λr s6 z=>?_;obtain⟨hr,I6⟩:=z;subst hr;exact hR _ _ _ _ I6 qn
  ·refine cu (T.item Y rfl rfl rfl hc i ac s5 qL H5 _ I5 (O yv) wt go) λr s6 z=>?_;obtain⟨u,hr,h6⟩:=z;subst hr;refine cu h6 λ_ s7 z=>?_;obtain⟨x,H7,I7,r7,y7,vA,Iw⟩:=z;have Hr:=I7.pinned (O Iw) (T.obj _ _ vA);have hg':=hg _ s7 qL H7 x u _ Hr r7 (step x H7 y7);rw[QE]at hg';refine cu hg' λ_ s8 z=>?_;obtain⟨wq,H8,I8,q8⟩:=z;have ht':=ht _ s8 wq H8 _ I8 q8;rw[QE]at ht';refine cu ht' λb s9 z=>?_;obtain⟨H9,I9,q9⟩:=z;have again:∀{σ':St}{H':Hp}{s':Shared}{U:List V}{m':Nat},Inv Y (ac++kQ fp s7.heap) σ' H' s'->m'<n->W (i+1) m' σ' U H'->
     ∃m,m<n/\∃i σ' ys H',Inv Y ac σ' H' s'/\tn i s'.heap/\(∀b∈fp,H' b=none)/\W i m σ' ys H':=λ{σ' H' s' U m'} I' hm w'=>by
    refine⟨m',hm,i+1,σ',U,H',I'.iG,T.keep _ _ _ vA λb hb o e=>(I'.pin (b,o) (Ye _ (Ye _ (cV hb e)))).1,λb hb=>?_,w'⟩;obtain⟨o,e,d⟩:=T.obj _ _ vA b hb;exact(I'.pin (b,o) (Ye _ (Ye _ (cV hb e)))).2.1
   cases b with
   |false =>rw[YF Yh]at q9⊢;obtain⟨m',hm,w'⟩:=hN _ _ _ q9;exact again I9 hm w'
   |true =>rw[YG rfl]at q9⊢;have he':=he _ s9 wq H9 _ I9 q9;rw[QE]at he';refine cu he' λxv qN z=>?_;obtain⟨v,Df,NH,r10,M3,w10⟩:=z;obtain⟨m',hm,w'⟩:=hN _ _ _ w10;have Om:qK (.ref D) [v] Df λ_ H'=>H'=upd Df D (.lst (ys++[v])):=⟨_,ys,v,rfl,rfl,M3,hsz,rfl⟩;have ha':=cb _ qN wq Df _ _ _ _ _ NH (show RelV (.ref D) (.ref D) from rfl) (.cons r10 .nil) Om;rw[QE]at ha';refine cu ha' λ_ Uh z=>?_;obtain⟨_,To,Mx,_,Ro⟩:=z;rw[Ro]at Mx;exact again Mx hm w'
 exact kC loop (T.self _ 0 _ _ _ st loop)
theorem qh{ac:eN}{σ:St}{H2:Hp}{s2:Shared}{it:Addr}{fp:Z6}{tn:Nat->Heap->Prop}{J:It}{Q:VK}{E:nT}{RR:Value->Addr->Z3}
  (hc:X.calm=true) (S:bq X.env.scope X.N N' src sc)
  (hg:∀cl C s H fp,PG (aV X N' sc cl C s H fp) t1 g) (ht:∀cl C s H fp,jK (aV X N' sc cl C s H fp) f1 tc)
  (hi2:∀cl C s H fp,PI (aV X N' sc cl C s H fp) t2 i2 wi2) (hg2:∀cl C s H fp,PG (aV X N' sc cl C s H fp) t2 g2) (De:∀cl C s H fp,jK (aV X N' sc cl C s H fp) f2 we)
  (he:∀cl C s H fp,PE (aV X N' sc cl C s H fp) elt te) (hs2:∀(env:Env) x,foldedSetIterable i2 env x=pure x)
  (I2:Inv X ac σ H2 s2) (T:Turn X.prog X.w X.K t1 J fp it tn) (st2:tn 0 s2.heap) (HD:∀b∈fp,eI X ac H2 b)
  (hW:∀D,H2 D=none->∃W:Nat->Nat->St->List V->Hp->Prop,(∃m,W 0 m (kP src σ) [] (upd H2 D (.lst [])))/\vV J g tc wi2 g2 we te D Q W)
  (hRR:∀D C s5 H' m,Inv X ac σ H' s5->s5.heap.Ns C m->eI X ac H' C->Q (.ref D) H'->RR (.ref D) C (.ok .next) s5) :
  wpAny (model X.prog X.w) X.A (newList []) (λacc s₃=>wpAny (model X.prog X.w) X.A (newFunctionEnv sc X.env.globals (bS X.env.cells sc.names []) [] X.env.qual none .none (some X.env)) (λcenv s₄ =>
   codeAny (model X.prog X.w) X.A (.compStart (tI elt t1 i1 f1 t2 i2 f2 sc pos) 0 (.ref it) acc {cenv with scope:=relabel sc X.env}) (RR acc cenv.locals) s₄) E s₃) E s2:=by
 have o2:∀b∈fp,b<s2.heap.objs.size:=λb z=>by obtain⟨o,e,_⟩:=T.obj 0 _ st2 b z;exact X3 e
 refine Yz ?_;have Mb:H2 s2.heap.objs.size=none:=I2.hok.fresh (X5 _);obtain⟨W,⟨m0,w0⟩,turn⟩:=hW s2.heap.objs.size Mb;have I3:Inv X ac σ (upd H2 s2.heap.objs.size (.lst [])) {s2 with heap:=s2.heap.push {cls:=.type "list",dict:=none,data:=.seq ([]:Z4).toArray}} :=
  I2.laid (t':=s2.toks) (λb u e=>X2 _ e) (X5 _) ⟨Yq _,[],0,.nil,X4 _ rfl⟩
 have st3:tn 0 (s2.heap.push {cls:=.type "list",dict:=none,data:=.seq ([]:Z4).toArray}):=T.keep 0 _ _ st2 λb z o e=>X2 _ e;generalize hs3:({s2 with heap:=s2.heap.push {cls:=.type "list",dict:=none,data:=.seq ([]:Z4).toArray}}:Shared)=s3 at I3;have hh3:s3.heap=s2.heap.push {cls:=.type "list",dict:=none,data:=.seq ([]:Z4).toArray}:=by rw[←hs3]
 have GD:s2.heap.objs.size<s3.heap.objs.size:=by rw[hh3,Heap.size_push];exact Nat.lt_succ_self _
 have o3:∀b∈fp,b<s3.heap.objs.size:=λb z=>Nat.lt_trans (o2 b z) GD;have f3:∀b∈fp,eI X ac (upd H2 s2.heap.objs.size (.lst [])) b:=λb z=>⟨by rw[aI (Yp (o2 b z))];exact(HD b z).1,(HD b z).2⟩;rw[←hh3]at st3;refine wpAny_newFunctionEnv S.rD (by intro y hy;simp at hy) (λh1 hns hsb=>?_) S.kind;have hsb':Heap.SameBut s3.heap.objs.size (s3.heap.push {cls:=.type "dict",data:=.dict #[]}) h1:=hsb;have I4:Inv (aV X N' sc (bS X.env.cells sc.names []) s3.heap.objs.size s3 (upd H2 s2.heap.objs.size (.lst [])) fp) [] (kP src σ) (upd H2 s2.heap.objs.size (.lst [])) {s3 with heap:=h1,toks:=s3.toks+([]:List (Str×Value)).length} :=
  j5 S I3 f3 o3 hns hsb'
 have Dx:tn 0 h1:=T.keep 0 _ _ st3 λb z o e=>(hsb'.2 b (Yp (o3 b z))).trans (X2 _ e);have fC:∀(H':Hp),H' s3.heap.objs.size=none->eI X ac H' s3.heap.objs.size:=λH' hn=>I3.pH (X5 _) hn;have loop:codeAny (model X.prog X.w) X.A (.compLoop (tI elt t1 i1 f1 t2 i2 f2 sc pos) 0 (.ref it) (.ref s2.heap.objs.size) (compEnvC sc (bS X.env.cells sc.names []) s3.heap.objs.size X.env))
   (RR (.ref s2.heap.objs.size) s3.heap.objs.size) {s3 with heap:=h1,toks:=s3.toks+([]:List (Str×Value)).length}:=by
  have O:∀{H':Hp},(∀b∈fp,H' b=none)->∀b∈fp,eI (aV X N' sc (bS X.env.cells sc.names []) s3.heap.objs.size s3 (upd H2 s2.heap.objs.size (.lst [])) fp) [] H' b:=λhn b z =>
   ⟨hn b z,(I4.ok.GV b z).1,I4.ok.xR b z,.inl z,(I4.ok.GV b z).2,λp hp=>YE (show p∈([]:eN) from hp) (by simp)⟩
  refine sV (hs2 _) (λn s'=>∃i σ' ys H',Inv (aV X N' sc (bS X.env.cells sc.names []) s3.heap.objs.size s3 (upd H2 s2.heap.objs.size (.lst [])) fp) [] σ' H' s'/\tn i s'.heap/\(∀b∈fp,H' b=none)/\W i n σ' ys H') ?_ m0
   ⟨0,_,[],_,I4,Dx,λb z=>(f3 b z).1,w0⟩
  rintro n s5 ⟨i,qL,ys,H5,I5,wt,yv,w5⟩;obtain⟨hD,alt⟩:=turn i n qL ys H5 w5;rcases alt with⟨stop,qn⟩|⟨go,N,hN,step⟩
  ·refine cu (T.done (aV X N' sc (bS X.env.cells sc.names []) s3.heap.objs.size s3 (upd H2 s2.heap.objs.size (.lst [])) fp) rfl rfl rfl hc i [] s5 qL H5 _ I5 (O yv) wt stop) λr s6 zz=>?_;obtain⟨hr,I6⟩:=zz;subst hr;obtain⟨m6,n6,_⟩:=id I6.loc;refine hRR _ _ s6 H5 m6 (I3.call' I6.os I6.base I6.hok I6.bare λb z=>⟨(f3 b z).2.2.2.1,(f3 b z).2.1,(f3 b z).2.2.2.2.1,(f3 b z).2.2.2.2.2⟩) n6 (fC _ I6.free) qn
  ·refine cu (T.item (aV X N' sc (bS X.env.cells sc.names []) s3.heap.objs.size s3 (upd H2 s2.heap.objs.size (.lst [])) fp) rfl rfl rfl hc i [] s5 qL H5 _ I5 (O yv) wt go) λr s6 zz=>?_;obtain⟨u,hr,h6⟩:=zz;subst hr;refine cu h6 λ_ s7 zz=>?_;obtain⟨x,H7,I7,r7,y7,vA,Iw⟩:=zz;have Hr:=I7.pinned (O Iw) (T.obj _ _ vA);refine cu (hg _ _ _ _ _ _ s7 qL H7 x u _ Hr r7 (step x H7 y7)) λ_ s8 zz=>?_;obtain⟨wq,H8,I8,q8⟩:=zz;refine cu (ht _ _ _ _ _ _ s8 wq H8 _ I8 q8) λb s9 zz=>?_;obtain⟨H9,I9,q9⟩:=zz;have again:∀{σ':St}{H':Hp}{s':Shared}{U:List V}{m':Nat},Inv (aV X N' sc (bS X.env.cells sc.names []) s3.heap.objs.size s3 (upd H2 s2.heap.objs.size (.lst [])) fp) ([]++kQ fp s7.heap) σ' H' s'->m'<n->W (i+1) m' σ' U H'->
     ∃m,m<n/\∃i σ' ys H',Inv (aV X N' sc (bS X.env.cells sc.names []) s3.heap.objs.size s3 (upd H2 s2.heap.objs.size (.lst [])) fp) [] σ' H' s'/\tn i s'.heap/\(∀b∈fp,H' b=none)/\W i m σ' ys H':=λ{σ' H' s' U m'} I' hm w'=>by
    refine⟨m',hm,i+1,σ',U,H',I'.iG,T.keep _ _ _ vA λb z o e=>(I'.pin (b,o) (Ye _ (Ye _ (cV z e)))).1,λb z=>?_,w'⟩;obtain⟨o,e,d⟩:=T.obj _ _ vA b z;exact(I'.pin (b,o) (Ye _ (Ye _ (cV z e)))).2.1
   cases b with
   |false =>rw[YF Yh]at q9⊢;obtain⟨m',hm,w'⟩:=hN _ _ _ q9;exact again I9 hm w'
   |true =>rw[YG rfl]at q9⊢;refine cu (hi2 _ _ _ _ _ _ s9 wq H9 _ I9 q9) λv sA hA=>cu hA λitv sB hB=>?_;obtain⟨XC,XW,XS,JB,HB,eB,IB,TB,U9,fB,WB,⟨mB,wB⟩,Wy⟩:=hB;subst eB;refine yI (Y:=aV X N' sc (bS X.env.cells sc.names []) s3.heap.objs.size s3 (upd H2 s2.heap.objs.size (.lst [])) fp) hc rfl (hg2 _ _ _ _ _) (De _ _ _ _ _) (he _ _ _ _ _) IB TB U9 fB wB Wy ?_;intro σ' U H' s' I' hn;obtain⟨m',hm,w'⟩:=hN _ _ _ hn;exact again I' hm w'
 exact codeAny_compStart_list loop (T.self _ 0 _ _ _ Dx loop)
theorem uI(hc:X.calm=true)(S:bq X.env.scope X.N N' src sc)(hi:PI X t1 i1 wi)
  (hg:∀cl C s H fp,PG (aV X N' sc cl C s H fp) t1 g) (ht:∀cl C s H fp,jK (aV X N' sc cl C s H fp) f1 tc)
  (hi2:∀cl C s H fp,PI (aV X N' sc cl C s H fp) t2 i2 wi2) (hg2:∀cl C s H fp,PG (aV X N' sc cl C s H fp) t2 g2) (De:∀cl C s H fp,jK (aV X N' sc cl C s H fp) f2 we)
  (he:∀cl C s H fp,PE (aV X N' sc cl C s H fp) elt te) (hs:∀x,foldedSetIterable i1 X.env x=pure x:=by intro _;rfl) (hs2:∀(env:Env) x,foldedSetIterable i2 env x=pure x:=by intro _ _;rfl) :
  PE X (tI elt t1 i1 f1 t2 i2 f2 sc pos) (Fm src wi g tc wi2 g2 we te):=by
 intro ac s σ H Q I h;rw[eval_ListComp];refine wpAny_comprehension_free (use:=none) rfl hs (cX λy O hk=>I.ok.has y.1 (S.free y O hk)) S.kind (λy O hl=>by rw[←hl];exact S.uniq y O) ?_;refine cu (hi ac s σ H _ I h) λv s1 h1=>cu h1 λitv s2 h2=>?_;obtain⟨it,fp,tn,J,H2,e,I2,T,U,HD,hW⟩:=h2;subst e;refine qh (Q:=Q) (RR:=λacc C=>compPost (model X.prog X.w) X.A X.xe none (EP X ac σ Q) acc C) hc S hg ht hi2 hg2 De he hs2 I2 T U HD hW ?_;intro D C s5 H' m I5 n5 z q;refine⟨m,n5,λh' sb=>⟨.ref D,H',?_,rfl,q⟩⟩;exact I5.turned (t':=s5.toks) (λb o hb e=>(sb.2 b hb).trans e) z.1 z.2.1 z.2.2.2.1 z.2.2.2.2.1 z.2.2.2.2.2
end
end L2
namespace HT
open PySem PyProof.Rows
open PySem.AutoSeq1 (wpAny_loadPart')
theorem tuple_addW0(l b:Addr)(items z:Array Value)(n n2:Nat)(dd U:Option Addr)(sl O:Array (Z5))(hc0:items.isEmpty=true) :
  Meets (Builtin.«tuple.__add__» ⟨[.ref l,.ref b],[]⟩) (λ_ R s=>s.heap.get? l=some {cls:=.type "tuple",dict:=dd,data:=.seq items n,slots:=sl}/\s.heap.get? b=some {cls:=.type "tuple",dict:=U,data:=.seq z n2,slots:=O}/\R (.ok (.ret (Value.ref b))) {s with heap:=s.heap,toks:=s.toks}) :=
 .of_wp λprog w A R s h=>by
  obtain⟨hp,g,d,tk,os⟩:=s;obtain⟨hl,hb,h⟩:=h;have f1:=AutoSeq1.idx_int;have f2:=AutoSeq1.sub_tuple_tuple;have f3:=AutoSeq1.sub_list_list;have f4:=AutoSeq1.sub_tuple_list;have f5:=AutoSeq1.sub_list_tuple
  wp_walk using wpAny_loadPart' hl,wpAny_loadPart' hb
  exact⟨_,rfl,h⟩
section
variable{prog:Program}{w:World}{A:Around}{E:nT}{s:Shared}
theorem Gf{t b:Addr}{ws:Z4}{Q:nT}(ht:IsTup s.heap t #[])(hb:IsTup s.heap b ws.toArray)(h1:Q (.ref b) s):wpAny (model prog w) A (binaryOp .Add (.ref t) (.ref b)) Q E s:=by
 obtain⟨⟨cls,dd,data,sl⟩,ho,hc,n,hd⟩:=id ht;obtain⟨⟨cls2,dd2,data2,sl2⟩,U,O,n2,z⟩:=id hb;simp only at hc hd O z;subst hc hd O z;exact concat_meets ⟨_,ho,rfl⟩ ⟨_,U,rfl⟩ noFill_tuple_add seq_tuple_add PySem.F.slot_tuple_add PySem.F.entry_tuple_add (PySem.F.args_tuple_add_2 _ _)
   (tuple_addW0 t b #[] ws.toArray n n2 dd dd2 sl sl2 rfl) ⟨ho,U,h1⟩
theorem mD{t sl:Addr}{items:Array Value}{vl vu:Value}{lo hi:Option Int}{Q:nT}(z:IsTup s.heap t items)(hs:s.heap.IsSliceOf sl vl vu .none)(pl:IsPart vl lo)(pu:IsPart vu hi)
  (hw:fc items.size 0 lo=0/\fc items.size items.size hi=items.size)
  (h:Q (.ref t) s):wpAny (model prog w) A (getItem (.ref t) (.ref sl)) Q E s:=by
 obtain⟨os,hos,U,hds⟩:=id hs;have hTs:s.TypeIs (.ref sl) "slice":=⟨os,hos,U⟩;unfold getItem;try with_reducible refine Yy ?_
 first|refine X0 (X1 ?_)|skip
 refine X0 (wpAny_sequenceKey z.typeIs (by decide) ?_);refine X0 (wpAny_callSpecial?_slot (name:=Str.ofString "__getitem__") z.typeIs PyProof.Rows.slot_tuple_getitem
  (YQ PyProof.Rows.slot_tuple_getitem z.typeIs entry_tuple_getitem ?_ (args_tuple_getitem _ _)))
 show wpAny _ _ (Builtin.Tuple.tupleItemsOf (.ref t) >>= _) _ _ s;refine X0 (tupleItemsOf_ z ?_);refine X0 (wpAny_typeOf hTs ?_);rw[YG (by decide)];refine X0 (ju hs pl pu ?_);have O:(((fc items.size 0 lo:Nat):Int)==0&&(1:Int)==1&&(fc items.size items.size hi-fc items.size 0 lo)==items.size)=true:=by rw[hw.1,hw.2];simp
 show wpAny _ _ (if(((fc items.size 0 lo:Nat):Int)==0&&(1:Int)==1&&(fc items.size items.size hi-fc items.size 0 lo)==items.size)=true then _ else _) _ _ s;rw[YG O];refine X0 (m:=Builtin.Tuple.tupleIsExact _) ?_;unfold Builtin.Tuple.tupleIsExact;refine X0 (wpAny_typeOf z.typeIs (X1 ?_));show wpAny _ _ (if((Value.type "tuple")==(Value.type "tuple"))=true then _ else _) _ _ s;rw[YG (by decide)];exact X0 (wpAny_rule (X1 ⟨_,rfl,X1 h⟩))
end
end HT
namespace L2
open PySem PySem.Spec PyProof.Rows
section
variable{X:Cx}
theorem Ep(U:X.A.units<cLine):kj X (compareOp .Eq) (λx y H Q=>∃a b xs ys,x=.ref a/\y=.ref b/\bb X.K H a xs/\bb X.K H b ys/\xs.length≠ys.length/\Q (.bl false) H):=by intro ac s σ H x y v u Q I rx z h;obtain⟨a,b,xs,ys,rfl,rfl,ha,hb,hl,q⟩:=h;cases rx;cases z;obtain⟨its,O,p1,_⟩:=I.list ha;obtain⟨its',r2,p2,_⟩:=I.list hb;exact SeqAt.eq_list_lengthsAt p1.isList p2.isList (by simp[←O.length,←r2.length,hl]) U ⟨.bl false,H,I,rfl,q⟩
theorem Dl(U:X.A.units<cLine):kj X (compareOp .NotEq) (λx y H Q=>∃a b xs ys,x=.ref a/\y=.ref b/\bb X.K H a xs/\bb X.K H b ys/\xs.length≠ys.length/\Q (.bl true) H):=by intro ac s σ H x y v u Q I rx z h;obtain⟨a,b,xs,ys,rfl,rfl,ha,hb,hl,q⟩:=h;cases rx;cases z;obtain⟨its,O,p1,_⟩:=I.list ha;obtain⟨its',r2,p2,_⟩:=I.list hb;exact SeqAt.RcNeAt.lists_lengths p1.isList p2.isList (by simp[←O.length,←r2.length,hl]) U _ _ _ _ ⟨.bl true,H,I,rfl,q⟩
theorem xQ:kj X (binaryOp .Add) (λx y H Q=>∃a b ys,x=.ref a/\y=.ref b/\aX X.K H a []/\aX X.K H b ys/\Q (.ref b) H):=by intro ac s σ H x y v u Q I rx O h;obtain⟨a,b,ys,rfl,rfl,ha,hb,q⟩:=h;cases rx;cases O;obtain⟨its,U,p1,_⟩:=I.tuple ha;obtain⟨z,r2,p2,_⟩:=I.tuple hb;cases U;exact HT.Gf p1 p2 ⟨.ref b,H,I,rfl,q⟩
inductive F7(K:YY)(x:V)(lo:Option Int)(hi:Option Int)(H:Hp)(Q:VK):Prop
 |mk a xs (_:x=.ref a) (_:aX K H a xs) (_:(HT.fc xs.length 0 lo=0/\HT.fc xs.length xs.length hi=xs.length)) (_:Q (.ref a) H):F7 K x lo hi H Q
theorem IW:Hj X (F7 X.K):=by
 intro ac s σ H x v vl vu lo hi sl Q I rx hs pl pu h;obtain⟨a,xs,rfl,hx,hw,q⟩:=h;cases rx;obtain⟨O,r,U,hz⟩:=I.tuple hx;have z:O.toArray.size=xs.length:=by rw[Yi];exact r.length.symm
 refine⟨"tuple",_,PyProof.Rows.slot_tuple_getitem.lookup,U.typeIs,?_⟩;exact HT.mD U hs pl pu (by rw[z];exact hw) ⟨.ref a,H,I,rfl,q⟩
theorem Jc{x:V}{lo hi:Option Int}{H:Hp}{Q:VK}{a:Addr}{xs:List V}{K:YY}(e:x=.ref a)(h:aX K H a xs)(O:gI xs lo hi=xs->Q (.ref a) H)(U:∀p,H p=none->Q (.ref p) (upd H p (.tup (gI xs lo hi)))):LW K x lo hi H Q\/F7 K x lo hi H Q:=by
 by_cases z:HT.fc xs.length 0 lo=0/\HT.fc xs.length xs.length hi=xs.length
 ·refine .inr ⟨a,xs,e,h,z,O ?_⟩;unfold gI;rw[z.1,z.2];simp
 ·exact .inl ⟨a,xs,e,h,z,U⟩
end
inductive D where
 |int (i:Int)|str (x:Str)|non|bl (b:Bool)|tup (ds:List D)|lst (ds:List D)
deriving Inhabited
mutual
def a_(K:YY)(H:Hp):D->V->Prop
 | .int i,v=>v=.int i
 | .str x,v=>v=.str x
 | .non,v=>v=.non
 | .bl b,v=>v=.bl b
 | .tup ds,v=>∃a vs,v=.ref a/\aX K H a vs/\aK K H ds vs
 | .lst ds,v=>∃a vs,v=.ref a/\H a=some (.lst vs)/\aK K H ds vs
def aK(K:YY)(H:Hp):List D->List V->Prop
 |[],vs=>vs=[]
 |d::ds,vs=>∃v r,vs=v::r/\a_ K H d v/\aK K H ds r
end
mutual
def D.depth:D->Nat
 | .tup ds=>1+cG ds
 | .lst ds=>1+cG ds
 |_=>0
def cG:List D->Nat
 |[]=>0
 |d::ds=>max d.depth (cG ds)
end
def bI(b:Bool):Int:=if b then 1 else 0
mutual
def dj:D->D->Bool
 | .int i,.int j=>i==j
 | .int i,.bl b=>i==bI b
 | .bl b,.int j=>bI b==j
 | .bl b,.bl c=>b==c
 | .str x,.str y=>x==y
 | .non,.non=>true
 | .tup ds,.tup es=>gR ds es
 | .lst ds,.lst es=>gR ds es
 |_,_=>false
def gR:List D->List D->Bool
 |[],[]=>true
 |d::ds,e::es=>dj d e&&gR ds es
 |_,_=>false
end
mutual
theorem nW:∀d:D,dj d d=true
 | .int i=>by simp[dj]
 | .str x=>by simp[dj]
 | .non=>by simp[dj]
 | .bl b=>by simp[dj]
 | .tup ds=>by rw[dj];exact jz ds
 | .lst ds=>by rw[dj];exact jz ds
theorem jz:∀ds:List D,gR ds ds=true
 |[]=>by simp[gR]
 |d::ds=>by rw[gR,nW d,jz ds];rfl
end
section
variable{K:YY}{H:Hp}
theorem aK.length:∀{ds:List D}{vs:List V},aK K H ds vs->ds.length=vs.length
 |[],vs,h=>by rw[aK]at h;rw[h];rfl
 |d::ds,vs,h=>by rw[aK]at h;obtain⟨v,r,rfl,_,h⟩:=h;rw[YB,YB,aK.length h]
theorem aK.get:∀{ds:List D}{vs:List V}{i:Nat}{v:V},aK K H ds vs->vs[i]? = some v->∃d,ds[i]? = some d/\a_ K H d v
 |[],vs,i,v,h,e=>by rw[aK]at h;rw[h]at e;cases e
 |d::ds,vs,i,v,h,e=>by
  rw[aK]at h;obtain⟨u,r,rfl,h1,h2⟩:=h;cases i with
  |zero=>cases e;exact⟨d,rfl,h1⟩
  |succ i=>obtain⟨d',z,O⟩:=aK.get (i:=i) h2 e;exact⟨d',z,O⟩
theorem aK.of:∀{ds:List D}{vs:List V},ds.length=vs.length->(∀(i:Nat) d v,ds[i]? = some d->vs[i]? = some v->a_ K H d v)->aK K H ds vs
 |[],[],_,_=>by rw[aK]
 |[],v::vs,h,_=>by cases h
 |d::ds,[],h,_=>by cases h
 |d::ds,v::vs,h,k=>by rw[aK];exact⟨v,vs,rfl,k 0 d v rfl rfl,aK.of (by simpa using h) λi d v z O=>k (i+1) d v z O⟩
theorem aK.cons{d:D}{v:V}{ds:List D}{vs:List V}(h1:a_ K H d v)(h2:aK K H ds vs):aK K H (d::ds) (v::vs):=by rw[aK];exact⟨v,vs,rfl,h1,h2⟩
theorem aK.nil:aK K H [] []:=by rw[aK]
theorem aK.append:∀{ds es:List D}{vs ws:List V},aK K H ds vs->aK K H es ws->aK K H (ds++es) (vs++ws)
 |[],es,vs,ws,h,h'=>by rw[aK]at h;rw[h];exact h'
 |d::ds,es,vs,ws,h,h'=>by rw[aK]at h;obtain⟨u,r,rfl,h1,h2⟩:=h;exact aK.cons h1 (aK.append h2 h')
mutual
theorem a_.mono{H':Hp}(s:∀a xs,aX K H a xs->aX K H' a xs)(t:∀a xs,H a=some (.lst xs)->H' a=some (.lst xs)):∀{d:D}{v:V},a_ K H d v->a_ K H' d v
 | .int _,v,h=>by rw[a_]at h⊢;exact h
 | .str _,v,h=>by rw[a_]at h⊢;exact h
 | .non,v,h=>by rw[a_]at h⊢;exact h
 | .bl _,v,h=>by rw[a_]at h⊢;exact h
 | .tup ds,v,h=>by rw[a_]at h⊢;obtain⟨a,vs,e,q,h⟩:=h;exact⟨a,vs,e,s a vs q,aK.mono s t h⟩
 | .lst ds,v,h=>by rw[a_]at h⊢;obtain⟨a,vs,e,q,h⟩:=h;exact⟨a,vs,e,t a vs q,aK.mono s t h⟩
theorem aK.mono{H':Hp}(s:∀a xs,aX K H a xs->aX K H' a xs)(t:∀a xs,H a=some (.lst xs)->H' a=some (.lst xs)):∀{ds:List D}{vs:List V},aK K H ds vs->aK K H' ds vs
 |[],vs,h=>by rw[aK]at h⊢;exact h
 |d::ds,vs,h=>by rw[aK]at h⊢;obtain⟨u,r,e,h1,h2⟩:=h;exact⟨u,r,e,a_.mono s t h1,aK.mono s t h2⟩
end
end
theorem qX:∀{ds es:List D},ds.length≠es.length->gR ds es=false
 |[],[],h=>YE rfl h
 |[],_::_,_=>by rw[gR];all_goals simp
 |_::_,[],_=>by rw[gR];all_goals simp
 |d::ds,e::es,h=>by rw[gR,qX (by simpa using h),Bool.and_false]
theorem rM:∀{ds es:List D},ds.length=es.length->(List.range ds.length).all (λj=>dj (ds.getD j .non) (es.getD j .non))=gR ds es
 |[],[],_=>by rw[gR];rfl
 |d::ds,e::es,h=>by rw[gR,YB,List.range_succ_eq_map,List.all_cons,List.all_map,←rM (by simpa using h)];rfl
 |[],_::_,h=>by cases h
 |_::_,[],h=>by cases h
theorem D4{ds es:List D}:((List.range (min ds.length es.length)).all (λj=>dj (ds.getD j .non) (es.getD j .non))&&ds.length==es.length)=gR ds es:=by
 by_cases h:ds.length=es.length
 ·rw[←rM h,h,Nat.min_self];simp
 ·rw[qX h,beq_eq_false_iff_ne.mpr h,Bool.and_false]
theorem sj:∀{ds:List D}{i:Nat}{d:D},ds[i]? = some d->d.depth<=cG ds
 |[],i,d,e=>by cases e
 |d'::ds,0,d,e=>by cases e;rw[cG];exact Nat.le_max_left _ _
 |d'::ds,i+1,d,e=>by rw[cG];exact X6 (sj (i:=i) (by simpa using e)) (Nat.le_max_right _ _)
section
variable{X:Cx}{ac:eN}{σ:St}{H:Hp}{s:Shared}
theorem AA{ds:List D}{j:Nat}{d:D}(h:ds[j]? = some d):ds.getD j .non=d:=by rw[List.getD_eq_getElem?_getD,h];rfl
def both(A:Around)(s:Shared)(u v:Value)(b:Bool):Prop:=SeqAt.EqAt A s u v b/\SeqAt.RcAt A s u v b/\SeqAt.RcNeAt A s u v (!b)
def seqs:D->D->Bool
 | .tup _,.tup _=>true
 | .lst _,.lst _=>true
 |_,_=>false
theorem qR(I:Inv X ac σ H s){A:Around}(z:A.units<cLine):∀{d e:D}{x y:V}{u v:Value},seqs d e=false->a_ X.K H d x->a_ X.K H e y->RelV x u->RelV y v->both A s u v (dj d e)
 | .int i,.int j,x,y,u,v,hs,h1,h2,r1,r2=>by rw[a_]at h1;subst h1;obtain⟨t,rfl⟩:=r1;rw[a_]at h2;subst h2;obtain⟨w,rfl⟩:=r2;rw[dj];exact⟨.int_int i t j w,.int_int i t j w,.int_int i t j w⟩
 | .int i,.str j,x,y,u,v,hs,h1,h2,r1,r2=>by rw[a_]at h1;subst h1;obtain⟨t,rfl⟩:=r1;rw[a_]at h2;subst h2;obtain⟨w,rfl⟩:=r2;rw[show dj (.int i) (.str j)=false by simp[dj]];exact⟨.int_str i t j w,.int_str i t j w,.int_str i t j w⟩
 | .int i,.non,x,y,u,v,hs,h1,h2,r1,r2=>by rw[a_]at h1;subst h1;obtain⟨t,rfl⟩:=r1;rw[a_]at h2;subst h2;cases r2;rw[show dj (.int i) (.non)=false by simp[dj]];exact⟨.int_none i t,.int_none i t,.int_none i t⟩
 | .int i,.bl j,x,y,u,v,hs,h1,h2,r1,r2=>by rw[a_]at h1;subst h1;obtain⟨t,rfl⟩:=r1;rw[a_]at h2;subst h2;cases r2;rw[dj];exact⟨.int_bool i t j,.int_bool i t j,.int_bool i t j⟩
 | .int i,.tup j,x,y,u,v,hs,h1,h2,r1,r2=>by rw[a_]at h1;subst h1;obtain⟨t,rfl⟩:=r1;rw[a_]at h2;obtain⟨aw,GW,rfl,U,_⟩:=h2;cases r2;obtain⟨uV,Jz,O,_⟩:=I.tuple U;rw[show dj (.int i) (.tup j)=false by simp[dj]];exact⟨.int_tuple i t O z,.int_tuple i t O z,.int_tuple i t O z⟩
 | .int i,.lst j,x,y,u,v,hs,h1,h2,r1,r2=>by
  rw[a_]at h1;subst h1;obtain⟨t,rfl⟩:=r1;rw[a_]at h2;obtain⟨aw,GW,rfl,U,_⟩:=h2;cases r2;obtain⟨uV,Jz,HF,_⟩:=I.list (bb.of U);have O:=HF.isList
  rw[show dj (.int i) (.lst j)=false by simp[dj]];exact⟨.int_list i t O z,.int_list i t O z,.int_list i t O z⟩
 | .str i,.int j,x,y,u,v,hs,h1,h2,r1,r2=>by rw[a_]at h1;subst h1;obtain⟨t,rfl⟩:=r1;rw[a_]at h2;subst h2;obtain⟨w,rfl⟩:=r2;rw[show dj (.str i) (.int j)=false by simp[dj]];exact⟨.str_int i t j w,.str_int i t j w,.str_int i t j w⟩
 | .str i,.str j,x,y,u,v,hs,h1,h2,r1,r2=>by rw[a_]at h1;subst h1;obtain⟨t,rfl⟩:=r1;rw[a_]at h2;subst h2;obtain⟨w,rfl⟩:=r2;rw[dj];exact⟨.str_str i t j w,.str_str i t j w,.str_str i t j w⟩
 | .str i,.non,x,y,u,v,hs,h1,h2,r1,r2=>by rw[a_]at h1;subst h1;obtain⟨t,rfl⟩:=r1;rw[a_]at h2;subst h2;cases r2;rw[show dj (.str i) (.non)=false by simp[dj]];exact⟨.str_none i t,.str_none i t,.str_none i t⟩
 | .str i,.bl j,x,y,u,v,hs,h1,h2,r1,r2=>by rw[a_]at h1;subst h1;obtain⟨t,rfl⟩:=r1;rw[a_]at h2;subst h2;cases r2;rw[show dj (.str i) (.bl j)=false by simp[dj]];exact⟨.str_bool i t j,.str_bool i t j,.str_bool i t j⟩
 | .str i,.tup j,x,y,u,v,hs,h1,h2,r1,r2=>by rw[a_]at h1;subst h1;obtain⟨t,rfl⟩:=r1;rw[a_]at h2;obtain⟨aw,GW,rfl,U,_⟩:=h2;cases r2;obtain⟨uV,Jz,O,_⟩:=I.tuple U;rw[show dj (.str i) (.tup j)=false by simp[dj]];exact⟨.str_tuple i t O z,.str_tuple i t O z,.str_tuple i t O z⟩
 | .str i,.lst j,x,y,u,v,hs,h1,h2,r1,r2=>by
  rw[a_]at h1;subst h1;obtain⟨t,rfl⟩:=r1;rw[a_]at h2;obtain⟨aw,GW,rfl,U,_⟩:=h2;cases r2;obtain⟨uV,Jz,HF,_⟩:=I.list (bb.of U);have O:=HF.isList
  rw[show dj (.str i) (.lst j)=false by simp[dj]];exact⟨.str_list i t O z,.str_list i t O z,.str_list i t O z⟩
 | .non,.int j,x,y,u,v,hs,h1,h2,r1,r2=>by rw[a_]at h1;subst h1;cases r1;rw[a_]at h2;subst h2;obtain⟨w,rfl⟩:=r2;rw[show dj (.non) (.int j)=false by simp[dj]];exact⟨.none_int j w,.none_int j w,.none_int j w⟩
 | .non,.str j,x,y,u,v,hs,h1,h2,r1,r2=>by rw[a_]at h1;subst h1;cases r1;rw[a_]at h2;subst h2;obtain⟨w,rfl⟩:=r2;rw[show dj (.non) (.str j)=false by simp[dj]];exact⟨.none_str j w,.none_str j w,.none_str j w⟩
 | .non,.non,x,y,u,v,hs,h1,h2,r1,r2=>by rw[a_]at h1;subst h1;cases r1;rw[a_]at h2;subst h2;cases r2;rw[dj];exact⟨.same _,.none_none,.none_none⟩
 | .non,.bl j,x,y,u,v,hs,h1,h2,r1,r2=>by rw[a_]at h1;subst h1;cases r1;rw[a_]at h2;subst h2;cases r2;rw[show dj (.non) (.bl j)=false by simp[dj]];exact⟨.none_bool j,.none_bool j,.none_bool j⟩
 | .non,.tup j,x,y,u,v,hs,h1,h2,r1,r2=>by rw[a_]at h1;subst h1;cases r1;rw[a_]at h2;obtain⟨aw,GW,rfl,U,_⟩:=h2;cases r2;obtain⟨uV,Jz,O,_⟩:=I.tuple U;rw[show dj (.non) (.tup j)=false by simp[dj]];exact⟨.none_tuple O z,.none_tuple O z,.none_tuple O z⟩
 | .non,.lst j,x,y,u,v,hs,h1,h2,r1,r2=>by
  rw[a_]at h1;subst h1;cases r1;rw[a_]at h2;obtain⟨aw,GW,rfl,U,_⟩:=h2;cases r2;obtain⟨uV,Jz,HF,_⟩:=I.list (bb.of U);have O:=HF.isList
  rw[show dj (.non) (.lst j)=false by simp[dj]];exact⟨.none_list O z,.none_list O z,.none_list O z⟩
 | .bl i,.int j,x,y,u,v,hs,h1,h2,r1,r2=>by rw[a_]at h1;subst h1;cases r1;rw[a_]at h2;subst h2;obtain⟨w,rfl⟩:=r2;rw[dj];exact⟨.bool_int i j w,.bool_int i j w,.bool_int i j w⟩
 | .bl i,.str j,x,y,u,v,hs,h1,h2,r1,r2=>by rw[a_]at h1;subst h1;cases r1;rw[a_]at h2;subst h2;obtain⟨w,rfl⟩:=r2;rw[show dj (.bl i) (.str j)=false by simp[dj]];exact⟨.bool_str i j w,.bool_str i j w,.bool_str i j w⟩
 | .bl i,.non,x,y,u,v,hs,h1,h2,r1,r2=>by rw[a_]at h1;subst h1;cases r1;rw[a_]at h2;subst h2;cases r2;rw[show dj (.bl i) (.non)=false by simp[dj]];exact⟨.bool_none i,.bool_none i,.bool_none i⟩
 | .bl i,.bl j,x,y,u,v,hs,h1,h2,r1,r2=>by rw[a_]at h1;subst h1;cases r1;rw[a_]at h2;subst h2;cases r2;rw[dj];exact⟨.bool_bool i j,.bool_bool i j,.bool_bool i j⟩
 | .bl i,.tup j,x,y,u,v,hs,h1,h2,r1,r2=>by rw[a_]at h1;subst h1;cases r1;rw[a_]at h2;obtain⟨aw,GW,rfl,U,_⟩:=h2;cases r2;obtain⟨uV,Jz,O,_⟩:=I.tuple U;rw[show dj (.bl i) (.tup j)=false by simp[dj]];exact⟨.bool_tuple i O z,.bool_tuple i O z,.bool_tuple i O z⟩
 | .bl i,.lst j,x,y,u,v,hs,h1,h2,r1,r2=>by
  rw[a_]at h1;subst h1;cases r1;rw[a_]at h2;obtain⟨aw,GW,rfl,U,_⟩:=h2;cases r2;obtain⟨uV,Jz,HF,_⟩:=I.list (bb.of U);have O:=HF.isList
  rw[show dj (.bl i) (.lst j)=false by simp[dj]];exact⟨.bool_list i O z,.bool_list i O z,.bool_list i O z⟩
 | .tup i,.int j,x,y,u,v,hs,h1,h2,r1,r2=>by rw[a_]at h1;obtain⟨Jf,HN,rfl,q1,_⟩:=h1;cases r1;obtain⟨vD,Hm,pt,_⟩:=I.tuple q1;rw[a_]at h2;subst h2;obtain⟨w,rfl⟩:=r2;rw[show dj (.tup i) (.int j)=false by simp[dj]];exact⟨.tuple_int j w pt z,.tuple_int j w pt z,.tuple_int j w pt z⟩
 | .tup i,.str j,x,y,u,v,hs,h1,h2,r1,r2=>by rw[a_]at h1;obtain⟨Jf,HN,rfl,q1,_⟩:=h1;cases r1;obtain⟨vD,Hm,pt,_⟩:=I.tuple q1;rw[a_]at h2;subst h2;obtain⟨w,rfl⟩:=r2;rw[show dj (.tup i) (.str j)=false by simp[dj]];exact⟨.tuple_str j w pt z,.tuple_str j w pt z,.tuple_str j w pt z⟩
 | .tup i,.non,x,y,u,v,hs,h1,h2,r1,r2=>by rw[a_]at h1;obtain⟨Jf,HN,rfl,q1,_⟩:=h1;cases r1;obtain⟨vD,Hm,pt,_⟩:=I.tuple q1;rw[a_]at h2;subst h2;cases r2;rw[show dj (.tup i) (.non)=false by simp[dj]];exact⟨.tuple_none pt z,.tuple_none pt z,.tuple_none pt z⟩
 | .tup i,.bl j,x,y,u,v,hs,h1,h2,r1,r2=>by rw[a_]at h1;obtain⟨Jf,HN,rfl,q1,_⟩:=h1;cases r1;obtain⟨vD,Hm,pt,_⟩:=I.tuple q1;rw[a_]at h2;subst h2;cases r2;rw[show dj (.tup i) (.bl j)=false by simp[dj]];exact⟨.tuple_bool j pt z,.tuple_bool j pt z,.tuple_bool j pt z⟩
 | .tup ds,.tup es,x,y,u,v,hs,h1,h2,r1,r2=>by cases hs
 | .tup i,.lst j,x,y,u,v,hs,h1,h2,r1,r2=>by
  rw[a_]at h1;obtain⟨Jf,HN,rfl,q1,_⟩:=h1;cases r1;obtain⟨vD,Hm,pt,_⟩:=I.tuple q1;rw[a_]at h2;obtain⟨aw,GW,rfl,U,_⟩:=h2;cases r2;obtain⟨uV,Jz,HF,_⟩:=I.list (bb.of U);have O:=HF.isList
  rw[show dj (.tup i) (.lst j)=false by simp[dj]];exact⟨.tuple_list pt O z,.tuple_list pt O z,.tuple_list pt O z⟩
 | .lst i,.int j,x,y,u,v,hs,h1,h2,r1,r2=>by
  rw[a_]at h1;obtain⟨Jf,HN,rfl,q1,_⟩:=h1;cases r1;obtain⟨vD,Hm,HC,_⟩:=I.list (bb.of q1);have pt:=HC.isList
  rw[a_]at h2;subst h2;obtain⟨w,rfl⟩:=r2;rw[show dj (.lst i) (.int j)=false by simp[dj]];exact⟨.list_int j w pt z,.list_int j w pt z,.list_int j w pt z⟩
 | .lst i,.str j,x,y,u,v,hs,h1,h2,r1,r2=>by
  rw[a_]at h1;obtain⟨Jf,HN,rfl,q1,_⟩:=h1;cases r1;obtain⟨vD,Hm,HC,_⟩:=I.list (bb.of q1);have pt:=HC.isList
  rw[a_]at h2;subst h2;obtain⟨w,rfl⟩:=r2;rw[show dj (.lst i) (.str j)=false by simp[dj]];exact⟨.list_str j w pt z,.list_str j w pt z,.list_str j w pt z⟩
 | .lst i,.non,x,y,u,v,hs,h1,h2,r1,r2=>by
  rw[a_]at h1;obtain⟨Jf,HN,rfl,q1,_⟩:=h1;cases r1;obtain⟨vD,Hm,HC,_⟩:=I.list (bb.of q1);have pt:=HC.isList
  rw[a_]at h2;subst h2;cases r2;rw[show dj (.lst i) (.non)=false by simp[dj]];exact⟨.list_none pt z,.list_none pt z,.list_none pt z⟩
 | .lst i,.bl j,x,y,u,v,hs,h1,h2,r1,r2=>by
  rw[a_]at h1;obtain⟨Jf,HN,rfl,q1,_⟩:=h1;cases r1;obtain⟨vD,Hm,HC,_⟩:=I.list (bb.of q1);have pt:=HC.isList
  rw[a_]at h2;subst h2;cases r2;rw[show dj (.lst i) (.bl j)=false by simp[dj]];exact⟨.list_bool j pt z,.list_bool j pt z,.list_bool j pt z⟩
 | .lst i,.tup j,x,y,u,v,hs,h1,h2,r1,r2=>by
  rw[a_]at h1;obtain⟨Jf,HN,rfl,q1,_⟩:=h1;cases r1;obtain⟨vD,Hm,HC,_⟩:=I.list (bb.of q1);have pt:=HC.isList
  rw[a_]at h2;obtain⟨aw,GW,rfl,U,_⟩:=h2;cases r2;obtain⟨uV,Jz,O,_⟩:=I.tuple U;rw[show dj (.lst i) (.tup j)=false by simp[dj]];exact⟨.list_tuple pt O z,.list_tuple pt O z,.list_tuple pt O z⟩
 | .lst ds,.lst es,x,y,u,v,hs,h1,h2,r1,r2=>by cases hs
theorem p8(I:Inv X ac σ H s){a:Addr}{xs ys:List V}(h:bb X.K H a xs)(h':aX X.K H a ys):False:=by obtain⟨_,_,p,_⟩:=I.list h;obtain⟨_,_,z,_⟩:=I.tuple h';exact SeqAt.ne_of_list_tuple p.isList z rfl
mutual
theorem a_.inj(I:Inv X ac σ H s):∀{d e:D}{v:V},a_ X.K H d v->a_ X.K H e v->d=e
 | .int i,.int j,v,h1,h2=>by rw[a_]at h1;rw[a_]at h2;subst h1;injection h2 with h2;rw[h2]
 | .int i,.str j,v,h1,h2=>by rw[a_]at h1;rw[a_]at h2;subst h1;cases h2
 | .int i,.non,v,h1,h2=>by rw[a_]at h1;rw[a_]at h2;subst h1;cases h2
 | .int i,.bl j,v,h1,h2=>by rw[a_]at h1;rw[a_]at h2;subst h1;cases h2
 | .int i,.tup j,v,h1,h2=>by rw[a_]at h1;rw[a_]at h2;obtain⟨a,vs,rfl,q,g⟩:=h2;cases h1
 | .int i,.lst j,v,h1,h2=>by rw[a_]at h1;rw[a_]at h2;obtain⟨a,vs,rfl,q,g⟩:=h2;cases h1
 | .str i,.int j,v,h1,h2=>by rw[a_]at h1;rw[a_]at h2;subst h1;cases h2
 | .str i,.str j,v,h1,h2=>by rw[a_]at h1;rw[a_]at h2;subst h1;injection h2 with h2;rw[h2]
 | .str i,.non,v,h1,h2=>by rw[a_]at h1;rw[a_]at h2;subst h1;cases h2
 | .str i,.bl j,v,h1,h2=>by rw[a_]at h1;rw[a_]at h2;subst h1;cases h2
 | .str i,.tup j,v,h1,h2=>by rw[a_]at h1;rw[a_]at h2;obtain⟨a,vs,rfl,q,g⟩:=h2;cases h1
 | .str i,.lst j,v,h1,h2=>by rw[a_]at h1;rw[a_]at h2;obtain⟨a,vs,rfl,q,g⟩:=h2;cases h1
 | .non,.int j,v,h1,h2=>by rw[a_]at h1;rw[a_]at h2;subst h1;cases h2
 | .non,.str j,v,h1,h2=>by rw[a_]at h1;rw[a_]at h2;subst h1;cases h2
 | .non,.non,v,h1,h2=>rfl
 | .non,.bl j,v,h1,h2=>by rw[a_]at h1;rw[a_]at h2;subst h1;cases h2
 | .non,.tup j,v,h1,h2=>by rw[a_]at h1;rw[a_]at h2;obtain⟨a,vs,rfl,q,g⟩:=h2;cases h1
 | .non,.lst j,v,h1,h2=>by rw[a_]at h1;rw[a_]at h2;obtain⟨a,vs,rfl,q,g⟩:=h2;cases h1
 | .bl i,.int j,v,h1,h2=>by rw[a_]at h1;rw[a_]at h2;subst h1;cases h2
 | .bl i,.str j,v,h1,h2=>by rw[a_]at h1;rw[a_]at h2;subst h1;cases h2
 | .bl i,.non,v,h1,h2=>by rw[a_]at h1;rw[a_]at h2;subst h1;cases h2
 | .bl i,.bl j,v,h1,h2=>by rw[a_]at h1;rw[a_]at h2;subst h1;injection h2 with h2;rw[h2]
 | .bl i,.tup j,v,h1,h2=>by rw[a_]at h1;rw[a_]at h2;obtain⟨a,vs,rfl,q,g⟩:=h2;cases h1
 | .bl i,.lst j,v,h1,h2=>by rw[a_]at h1;rw[a_]at h2;obtain⟨a,vs,rfl,q,g⟩:=h2;cases h1
 | .tup i,.int j,v,h1,h2=>by rw[a_]at h1;rw[a_]at h2;obtain⟨a,vs,rfl,q,g⟩:=h1;cases h2
 | .tup i,.str j,v,h1,h2=>by rw[a_]at h1;rw[a_]at h2;obtain⟨a,vs,rfl,q,g⟩:=h1;cases h2
 | .tup i,.non,v,h1,h2=>by rw[a_]at h1;rw[a_]at h2;obtain⟨a,vs,rfl,q,g⟩:=h1;cases h2
 | .tup i,.bl j,v,h1,h2=>by rw[a_]at h1;rw[a_]at h2;obtain⟨a,vs,rfl,q,g⟩:=h1;cases h2
 | .tup i,.tup j,v,h1,h2=>by rw[a_]at h1;rw[a_]at h2;obtain⟨a,vs,rfl,q,g⟩:=h1;obtain⟨b,ws,e,z,g'⟩:=h2;cases e;rw[I.pU z q]at g';rw[aK.inj I g g']
 | .tup i,.lst j,v,h1,h2=>by rw[a_]at h1;rw[a_]at h2;obtain⟨a,vs,rfl,q,g⟩:=h1;obtain⟨b,ws,e,z,g'⟩:=h2;cases e;exact(p8 I (bb.of z) q).elim
 | .lst i,.int j,v,h1,h2=>by rw[a_]at h1;rw[a_]at h2;obtain⟨a,vs,rfl,q,g⟩:=h1;cases h2
 | .lst i,.str j,v,h1,h2=>by rw[a_]at h1;rw[a_]at h2;obtain⟨a,vs,rfl,q,g⟩:=h1;cases h2
 | .lst i,.non,v,h1,h2=>by rw[a_]at h1;rw[a_]at h2;obtain⟨a,vs,rfl,q,g⟩:=h1;cases h2
 | .lst i,.bl j,v,h1,h2=>by rw[a_]at h1;rw[a_]at h2;obtain⟨a,vs,rfl,q,g⟩:=h1;cases h2
 | .lst i,.tup j,v,h1,h2=>by rw[a_]at h1;rw[a_]at h2;obtain⟨a,vs,rfl,q,g⟩:=h1;obtain⟨b,ws,e,z,g'⟩:=h2;cases e;exact(p8 I (bb.of q) z).elim
 | .lst i,.lst j,v,h1,h2=>by rw[a_]at h1;rw[a_]at h2;obtain⟨a,vs,rfl,q,g⟩:=h1;obtain⟨b,ws,e,z,g'⟩:=h2;cases e;rw[q]at z;cases z;rw[aK.inj I g g']
theorem aK.inj(I:Inv X ac σ H s):∀{ds es:List D}{vs:List V},aK X.K H ds vs->aK X.K H es vs->ds=es
 |[],[],vs,h1,h2=>rfl
 |[],e::es,vs,h1,h2=>by rw[aK]at h1;rw[aK]at h2;obtain⟨v,r,rfl,_⟩:=h2;cases h1
 |d::ds,[],vs,h1,h2=>by rw[aK]at h1;rw[aK]at h2;obtain⟨v,r,rfl,_⟩:=h1;cases h2
 |d::ds,e::es,vs,h1,h2=>by rw[aK]at h1;rw[aK]at h2;obtain⟨v,r,rfl,a1,a2⟩:=h1;obtain⟨v',r',z,O,U⟩:=h2;injection z with z1 z2;rw[←z1]at O;rw[←z2]at U;rw[a_.inj I a1 O,aK.inj I a2 U]
end
theorem Ex(I:Inv X ac σ H s):∀(n:Nat){A:Around}{d e:D}{x y:V}{u v:Value},d.depth<=n->A.units+n<cLine->a_ X.K H d x->a_ X.K H e y->RelV x u->RelV y v->both A s u v (dj d e):=by
 intro n;induction n with
 |zero =>intro A d e x y u v hd hu h1 h2 r1 r2;refine qR I (by omega) ?_ h1 h2 r1 r2;cases d<;>cases e<;>first|rfl | (rw[D.depth]at hd;omega)
 |succ n ih =>
  intro A d e x y u v hd hu h1 h2 r1 r2;cases hs:seqs d e with
  |false=>exact qR I (by omega) hs h1 h2 r1 r2
  |true =>
   have items:∀{ds es:List D}{vs ws:List V}{z its':Z4},1+cG ds<=n+1->aK X.K H ds vs->aK X.K H es ws->Vals vs z->Vals ws its'->∀j (h1:j<z.toArray.size) (h2:j<its'.toArray.size),SeqAt.EqAt A.in1 s z.toArray[j] its'.toArray[j] (dj (ds.getD j .non) (es.getD j .non)):=by intro ds es vs ws z its' hdd g g' U qo j j1 j2;obtain⟨x,e1,rx⟩:=A1 U j1;obtain⟨y,e2,ry⟩:=A1 qo j2;obtain⟨d,ed,gd⟩:=g.get e1;obtain⟨e,ee,ge⟩:=g'.get e2;rw[AA ed,AA ee];have:=sj ed;exact(ih (by omega) (by show A.units+1+n<cLine;omega) gd ge rx ry).1
   cases d<;>cases e<;>first|cases hs|skip
   ·rename_i ds es;rw[D.depth]at hd;have g1:=h1;have g2:=h2;rw[a_]at h1;rw[a_]at h2;obtain⟨a,vs,rfl,q,g⟩:=h1;obtain⟨b,ws,rfl,q',g'⟩:=h2;cases r1;cases r2;obtain⟨z,U,p,_⟩:=I.tuple q;obtain⟨its',qo,p',_⟩:=I.tuple q';have l1:z.toArray.size=ds.length:=by simp[←U.length,g.length]
    have l2:its'.toArray.size=es.length:=by simp[←qo.length,g'.length]
    have z1:=SeqAt.RcAt.tuples p p' (by omega) (items hd g g' U qo);have z2:=SeqAt.RcNeAt.tuples p p' (by omega) (items hd g g' U qo);rw[l1,l2,D4]at z1 z2;rw[dj];refine⟨?_,z1,z2⟩;by_cases O:a=b
    ·subst O;have e:=a_.inj I g1 g2;injection e with e;rw[e,jz];exact .same _
    ·exact .of_refs O z1
   ·rename_i ds es;rw[D.depth]at hd;have g1:=h1;have g2:=h2;rw[a_]at h1;rw[a_]at h2;obtain⟨a,vs,rfl,q,g⟩:=h1;obtain⟨b,ws,rfl,q',g'⟩:=h2;cases r1;cases r2;obtain⟨z,U,p,_⟩:=I.list (bb.of q);obtain⟨its',qo,p',_⟩:=I.list (bb.of q');have l1:z.toArray.size=ds.length:=by simp[←U.length,g.length]
    have l2:its'.toArray.size=es.length:=by simp[←qo.length,g'.length]
    have zz:SeqAt.RcAt A s (.ref a) (.ref b) (gR ds es)/\SeqAt.RcNeAt A s (.ref a) (.ref b) (!gR ds es):=by
     by_cases hl:ds.length=es.length
     ·have z1:=SeqAt.RcAt.lists p.isList p'.isList (by rw[l1,l2,hl]) (by omega) (items hd g g' U qo);have z2:=SeqAt.RcNeAt.lists p.isList p'.isList (by rw[l1,l2,hl]) (by omega) (items hd g g' U qo);rw[l1,rM hl]at z1 z2;exact⟨z1,z2⟩
     ·rw[qX hl];exact⟨SeqAt.RcAt.lists_lengths p.isList p'.isList (by rw[l1,l2];simpa using hl) (by omega),SeqAt.RcNeAt.lists_lengths p.isList p'.isList (by rw[l1,l2];simpa using hl) (by omega)⟩
    rw[dj];refine⟨?_,zz.1,zz.2⟩;by_cases O:a=b
    ·subst O;have e:=a_.inj I g1 g2;injection e with e;rw[e,jz];exact .same _
    ·exact .of_refs O zz.1
inductive OT(K:YY)(A:Around)(x:V)(y:V)(H:Hp)(Q:VK):Prop
 |mk d e (_:a_ K H d x) (_:a_ K H e y) (_:A.units+d.depth<cLine) (_:Q (.bl (dj d e)) H):OT K A x y H Q
inductive O3(K:YY)(A:Around)(x:V)(y:V)(H:Hp)(Q:VK):Prop
 |mk d e (_:a_ K H d x) (_:a_ K H e y) (_:A.units+d.depth<cLine) (_:Q (.bl (!dj d e)) H):O3 K A x y H Q
theorem zg:kj X (compareOp .Eq) (OT X.K X.A):=by intro ac s σ H x y v u Q I z O h;obtain⟨d,e,h1,h2,U,q⟩:=h;exact(Ex I d.depth (X5 _) U h1 h2 z O).2.1 _ _ _ _ ⟨.bl _,H,I,rfl,q⟩
theorem F0:kj X (compareOp .NotEq) (O3 X.K X.A):=by intro ac s σ H x y v u Q I z O h;obtain⟨d,e,h1,h2,U,q⟩:=h;exact(Ex I d.depth (X5 _) U h1 h2 z O).2.2 _ _ _ _ ⟨.bl _,H,I,rfl,q⟩
end
section
variable{K:YY}{H H':Hp}{a:Addr}
theorem aH.fA{xs:List V}(e:aH H H')(h:aX K H a xs):aX K H' a xs:=by
 rcases h with h|h
 ·rcases h with h|⟨o,h⟩
  ·exact .inl (.inl (e _ _ h))
  ·exact .inl (.inr ⟨o,e _ _ h⟩)
 ·exact .inr h
theorem a_.same(s:aH H H'){d:D}{v:V}(h:a_ K H d v):a_ K H' d v:=h.mono (λ_ _ q=>s.fA q) (λ_ _ q=>s _ _ q)
theorem aK.same(s:aH H H'){d:List D}{v:List V}(h:aK K H d v):aK K H' d v:=h.mono (λ_ _ q=>s.fA q) (λ_ _ q=>s _ _ q)
theorem wa:a_ K H .non .non:=by rw[a_]
theorem oK(x:Int):a_ K H (.int x) (.int x):=by rw[a_]
theorem iY(x:Str):a_ K H (.str x) (.str x):=by rw[a_]
theorem vm(x:Bool):a_ K H (.bl x) (.bl x):=by rw[a_]
theorem cY{vs:List V}{ds:List D}(h:H a=some (.tup vs))(g:aK K H ds vs):a_ K H (.tup ds) (.ref a):=by rw[a_];exact⟨a,vs,rfl,aX.of h,g⟩
theorem qF{vs:List V}{ds:List D}(h:H a=some (.lst vs))(g:aK K H ds vs):a_ K H (.lst ds) (.ref a):=by rw[a_];exact⟨a,vs,rfl,h,g⟩
end
def Fj(xs:Array Nat):Prop:=xs.toList.Pairwise (· < ·)
theorem Fj.lt{xs:Array Nat}(h:Fj xs){i j a b:Nat}(z:i<j)(ha:xs[i]? = some a)(O:xs[j]? = some b):a<b:=by rw[←Array.getElem?_toList]at ha O;obtain⟨h1,U⟩:=Yj.mp ha;obtain⟨h2,e2⟩:=Yj.mp O;rw[←U,←e2];exact List.pairwise_iff_getElem.mp h i j h1 h2 z
theorem sk{xs:Array Nat}(h:Fj xs)(j:Nat):∀(z lo hi:Nat),hi<=xs.size->lo<=hi->hi-lo<=z->(∀i a,i<lo->xs[i]? = some a->a<j)->(∀i a,hi<=i->xs[i]? = some a->j<=a)->
  SetTable.below.go xs j z lo hi<=xs.size/\(∀i a,i<SetTable.below.go xs j z lo hi->xs[i]? = some a->a<j)/\∀i a,SetTable.below.go xs j z lo hi<=i->xs[i]? = some a->j<=a
 | 0,lo,hi,h1,h2,h3,h4,h5=>by
  have e:lo=hi:=by omega
  subst e;exact⟨h1,h4,h5⟩
 |z+1,lo,hi,h1,h2,h3,h4,h5=>by
  unfold SetTable.below.go;by_cases O:lo<hi
  ·rw[YG O];have hm:(lo+hi) / 2<xs.size:=by omega
   have eg:xs[(lo+hi) / 2]? = some xs[(lo+hi) / 2]:=Yw hm;have ed:xs.getD ((lo+hi) / 2) j=xs[(lo+hi) / 2]:=by simp[Array.getD,hm]
   dsimp only;rw[ed];by_cases U:xs[(lo+hi) / 2]<j
   ·rw[YG U];refine sk h j z _ hi h1 (by omega) (by omega) (λi a hi' e=>?_) h5;by_cases q:i=(lo+hi) / 2
    ·subst q;rw[eg]at e;cases e;exact U
    ·exact Nat.lt_trans (h.lt (by omega) e eg) U
   ·rw[YF U];refine sk h j z lo _ (by omega) (by omega) (by omega) h4 λi a hi' e=>?_;by_cases q:i=(lo+hi) / 2
    ·subst q;rw[eg]at e;cases e;omega
    ·have:=h.lt (show(lo+hi) / 2<i by omega) eg e;omega
  ·rw[YF O];have e:lo=hi:=by omega
   subst e;exact⟨h1,h4,h5⟩
theorem ni{xs:Array Nat}(h:Fj xs)(j:Nat):SetTable.below xs j<=xs.size/\(∀i a,i<SetTable.below xs j->xs[i]? = some a->a<j)/\∀i a,SetTable.below xs j<=i->xs[i]? = some a->j<=a :=
 sk h j xs.size 0 xs.size (X5 _) (Yq _) (by omega) (λi a hi=>YE hi (by omega)) λi a hi e=>by rw[Array.getElem?_eq_none hi]at e;cases e
theorem zf{xs:Array Nat}(h:Fj xs){j:Nat}(hn:xs[SetTable.below xs j]?≠some j):Fj (SetTable.insertAt xs (SetTable.below xs j) j):=by
 obtain⟨h1,h2,h3⟩:=ni h j;unfold Fj;rw[SetTable.toList_insertAt];have hl:∀a∈xs.toList.take (SetTable.below xs j),a<j:=λa ha=>by
  obtain⟨i,hi⟩:=List.mem_iff_getElem?.mp ha;rw[List.getElem?_take]at hi;split at hi
  ·rename_i hlt;exact h2 i a hlt (by rw[←Array.getElem?_toList];exact hi)
  ·cases hi
 have U:∀a∈xs.toList.drop (SetTable.below xs j),j<a:=λa ha=>by
  obtain⟨i,hi⟩:=List.mem_iff_getElem?.mp ha;rw[List.getElem?_drop,Array.getElem?_toList]at hi;have q:=h3 _ a (Nat.le_add_right _ i) hi;rcases Nat.lt_or_eq_of_le q with q|q
  ·exact q
  ·exfalso;subst q;cases i with
   |zero=>exact hn hi
   |succ i =>
    have z:SetTable.below xs j<xs.size:=by have:=(Array.getElem?_eq_some_iff.mp hi).1;omega
    have e0:xs[SetTable.below xs j]? = some xs[SetTable.below xs j]:=Yw z;have l1:=h3 _ _ (X5 _) e0;have l2:=h.lt (show SetTable.below xs j<SetTable.below xs j+(i+1) by omega) e0 hi;omega
 have O:(xs.toList.take (SetTable.below xs j)++xs.toList.drop (SetTable.below xs j)).Pairwise (· < ·):=by rw[List.take_append_drop];exact h
 rw[List.pairwise_append]at O;first
 | (rw[List.pairwise_append]
    refine⟨O.1,?_,λa ha b z=>?_⟩
    ·exact List.pairwise_cons.mpr ⟨U,O.2.1⟩
    ·rcases Ym.mp z with e|z
     ·subst e;exact hl a ha
     ·exact O.2.2 a ha b z)
 |skip
structure TabOk(t:SetTable)(b:Bool):Prop where
 Ru:Fj t.place
 QY:t.dummies = #[]
 led:t.led=b
theorem A8(j:Nat):SetTable.has #[] j=false:=by simp[SetTable.has]
theorem p6{t:SetTable}(hd:t.dummies = #[]){f:Nat->Int}{h:Int}(U:∀i,(f i==h)=false):∀(z:Nat)(p:SetTable.Probe)(j:Nat)(d:Option Nat),p.dummy=none->SetTable.probe.go t f h z p=some (.empty j d)->
  d=none/\t.slot j=.empty
 | 0,p,j,d,_,e=>by unfold SetTable.probe.go at e;cases e
 |z+1,p,j,d,O,e=>by
  have Wc:∀p:SetTable.Probe,p.dummy=none->(t.advance p).dummy=none:=λp O=>by
   unfold SetTable.advance;split
   ·exact O
   ·exact O
  unfold SetTable.probe.go at e;split at e
  ·rename_i hs;cases e;exact⟨O,hs⟩
  ·rename_i hs;unfold SetTable.slot at hs;dsimp only at hs;rw[hd,A8]at hs;split at hs<;>cases hs
  ·rename_i i hs;rw[U i]at e;exact p6 hd U z _ j d (Wc p O) e
theorem yP{t:SetTable}{j:Nat}(h:t.slot j=.empty):t.place[SetTable.below t.place j]?≠some j:=λe=>by unfold SetTable.slot at h;dsimp only at h;rw[e]at h;rw[YG (by simp)]at h;cases h
theorem Ca(n:Nat):Fj (Array.range n):=by unfold Fj;rw[Array.toList_range];exact List.pairwise_lt_range
theorem jU{t:SetTable}{b:Bool}(h:TabOk t b)(n:Nat):TabOk (t.standIn n) b:=⟨Ca n,rfl,h.led⟩
theorem CA{t:SetTable}{b:Bool}(ok:TabOk t b)(es:Z1)(h:Int)(x:Value):TabOk (layNew t es h x).2.1 b:=by
 unfold layNew;split
 ·rename_i slot wd e;have hs:t.slot slot=.empty:=by
   unfold SetTable.freeSlot at e;split at e
   ·rename_i j d e2;unfold SetTable.probe at e2;obtain⟨O,U⟩:=p6 ok.QY (λ_=>by simp;omega) _ _ _ _ rfl e2;subst O;cases e;exact U
   ·cases e
  have z:TabOk (t.put slot).1 b:=by unfold SetTable.put;refine⟨zf ok.Ru (yP hs),?_,ok.led⟩;show(if SetTable.has t.dummies slot=true then _ else t.dummies) = #[];rw[ok.QY,A8];rfl
  dsimp only;unfold SetTable.orStandIn;split
  ·exact z
  ·exact jU z _
 ·exact jU ok _
theorem tq{α:Type}(f:Nat->Option α)(n:Nat):(((List.range n).filterMap λj=>(f j).map (j,·)).map (·.1)).Pairwise (· < ·):=by
 have e:(((List.range n).filterMap λj=>(f j).map (j,·)).map (·.1))=(List.range n).filter λj=>(f j).isSome:=by rw[List.map_filterMap,←List.filterMap_eq_filter];congr 1;funext j;cases hf:f j<;>simp[Option.guard,hf]
 rw[e];exact List.Pairwise.filter _ List.pairwise_lt_range
theorem wz{t:SetTable}{b:Bool}(ok:TabOk t b)(es:Z1)(n:Nat):TabOk (relayAll t es n).2.1 b:=by
 unfold relayAll;split
 ·rename_i t' order e;have z:TabOk t' b:=by unfold SetTable.relaid SetTable.laid at e;simp only[bind,Option.bind_eq_some_iff]at e;obtain⟨owner,_,e⟩:=e;cases e;exact⟨tq _ _,rfl,ok.led⟩
  dsimp only;split
  ·exact z
  ·exact jU ok _
 ·exact jU ok _
section
variable{prog:Program}{w:World}{A:Around}{E:nT}{s:Shared}
def cx(w:World):Bool:=w.params.followText "set-order"
def Dc:Value->Key
 | .int i _=>.inl i
 | .str x _=>.inr x
 |_=>.inl 0
theorem Ad{k:Key}{v:Value}(h:iB k v=true):Dc v=k:=by rcases bP h with⟨i,t,rfl,rfl⟩|⟨x,t,rfl,rfl⟩<;>rfl
structure gE(prog:Program)(w:World)(h:Heap)(a:Addr)(ks:List Key)(es:Z1)(ep:Nat)(t:SetTable):Prop where
 obj:h.get? a=some {cls:=.type "set",dict:=none,data:=.set es ep t,slots:=#[]}
 els:ElemsOf (bQ prog w) es.toList
 few:es.size<scanBound
 fits:t.fits es.size=true
 tab:TabOk t (!cx w)
 Qi:ks.Nodup
 keys:(es.toList.map λe=>Dc e.2).Perm ks
theorem gE.keep{h h':Heap}{a:Addr}{ks:List Key}{es:Z1}{ep:Nat}{t:SetTable}(r:gE prog w h a ks es ep t)(k:∀o,h.get? a=some o->h'.get? a=some o):gE prog w h' a ks es ep t :=
 ⟨k _ r.obj,r.els,r.few,r.fits,r.tab,r.Qi,r.keys⟩
theorem gE.mem{h:Heap}{a:Addr}{ks:List Key}{es:Z1}{ep:Nat}{t:SetTable}(r:gE prog w h a ks es ep t){k:Key}:(∃e∈es.toList,(bQ prog w).is k e.2=true)↔k∈ks:=by
 constructor
 ·rintro⟨e,O,U⟩;refine r.keys.mem_iff.mp (Yl.mpr ⟨e,O,Ad U⟩)
 ·intro U;obtain⟨e,O,q⟩:=Yl.mp (r.keys.mem_iff.mpr U);obtain⟨⟨k',z,_⟩,_⟩:=r.els e O;refine⟨e,O,?_⟩;have:Dc e.2=k':=Ad z;rw[←q,this];exact z
open Classical in
noncomputable def oz (ks:List Key) (k:Key):List Key:=if k∈ks then ks else ks++[k]
theorem AX{h:Heap}{a:Addr}{es:Z1}{ep:Nat}{t:SetTable}(O:h.get? a=some {cls:=.type "set",dict:=none,data:=.set es ep t,slots:=#[]})(z:Z1)(t':SetTable) :
  (h.update a (Obj.putSet z t')).get? a=some {cls:=.type "set",dict:=none,data:=.set z (ep+1) t',slots:=#[]}:=by
 have:=Heap.get?_update_self (Obj.putSet z t') O (by rw[putSet_of z t' rfl];rfl);rw[putSet_of z t' rfl]at this;exact this
theorem x6{g:Bool->Sem Unit}(hg:∀(b:Bool)(U:Shared)(Q':Z2),Q' () U->wpAny (model prog w) A (g b) Q' E U)
  {a:Addr} {es:Z1} {ep:Nat} {t:SetTable} (ho:s.heap.get? a=some {cls:=.type "set",dict:=none,data:=.set es ep t,slots:=#[]})
  {z:Z1} {t2:SetTable} {ks:List Key} (he:ElemsOf (bQ prog w) z.toList) (hb:z.size<scanBound) (hf:t2.fits z.size=true) (ht:TabOk t2 (!cx w)) (hn:ks.Nodup) (hk:(z.toList.map λe=>Dc e.2).Perm ks)
  {wasDummy:Bool} {R:Option Bool->Shared->Prop}
  (h:∀h' es' ep' t',Heap.SameBut a s.heap h'->gE prog w h' a ks es' ep' t'->R (some true) {s with heap:=h'}) :
  wpAny (model prog w) A (do
    storeSet a z t2
    if(!wasDummy&&t2.tooFull)=true then do
      g (relayAll t2 z (SetTable.grown z.size)).2.2
      storeSet a (relayAll t2 z (SetTable.grown z.size)).1 (relayAll t2 z (SetTable.grown z.size)).2.1
      pure (some true)
     else pure (some true)) R E s:=by
 refine X0 (wpAny_storeSet_of ho rfl ?_ (fits_of_scanBound hb));have ho1:=AX ho z t2;have TN:=Heap.SameBut.update s.heap a (Obj.putSet z t2);split
 ·have hp:=relayAll_perm t2 z (SetTable.grown z.size);have hfr:=relayAll_fits t2 z (SetTable.grown z.size);have hto:=wz ht z (SetTable.grown z.size);generalize hRl:relayAll t2 z (SetTable.grown z.size)=Rl at hp hfr hto⊢;obtain⟨O,t3,gave2⟩:=Rl;dsimp only at hp hfr hto⊢;have hsz:O.size=z.size:=by rw[←YU,hp.length_eq,YU]
  have hb2:O.size<scanBound:=by rw[hsz];exact hb
  refine X0 (hg _ _ _ ?_);refine X0 (wpAny_storeSet_of ho1 rfl ?_ (fits_of_scanBound hb2));exact X1 (h _ O _ t3 (TN.trans (Heap.SameBut.update _ a _)) ⟨AX ho1 O t3,he.perm hp,hb2,hfr,hto,hn,(hp.map _).trans hk⟩)
 ·exact X1 (h _ z _ t2 TN ⟨ho1,he,hb,hf,ht,hn,hk⟩)
theorem Av{a:Addr}{ks:List Key}{es:Z1}{ep:Nat}{t:SetTable}{k:Key}{x:Value}{Q:Bool->Shared->Prop}(hkey:iB k x=true)(hsc:x.scannable=true)(hS:gE prog w s.heap a ks es ep t)
  (hroom:ks.length+1<scanBound)
  (h:∀b h' es' ep' t',Heap.SameBut a s.heap h'->gE prog w h' a (oz ks k) es' ep' t'->Q b {s with heap:=h'}) :
  wpAny (model prog w) A (setAddHashed a x ((bQ prog w).hash k)) Q E s:=by
 have AR:es.size=ks.length:=by rw[←hS.keys.length_eq,X9,YU]
 have hkey':(bQ prog w).is k x=true:=hkey;have hel:=hS.els;unfold setAddHashed setAddHashedIn;refine Yy (X0 (wpAny_setState_of hS.obj rfl hS.fits ?_));dsimp only;rw[byScan_of hsc hS.few hel];simp only[↓reduceIte];unfold setAddByScan;refine X0 ?_;refine X0 (wpAny_rule ?_);refine X0 (wpAny_setScan_of hkey' hS.obj rfl hS.fits hel ?_);cases hr:List.findIdx? (λe=>(bQ prog w).is k e.2) es.toList with
 |some j =>
  dsimp only;obtain⟨hj,hpj,_⟩:=List.findIdx?_eq_some_iff_getElem.mp hr;have hin:k∈ks:=hS.mem.mp ⟨es.toList[j],List.getElem_mem hj,hpj⟩;refine X1 (X1 ?_);have e:s ={s with heap:=s.heap}:=by cases s;rfl
  have:=h false s.heap es ep t (Heap.SameBut.refl a s.heap) (by unfold oz;rw[YG hin];exact hS);rw[e];exact this
 |none =>
  dsimp only;have hout:k∉ks:=λhin=>by obtain⟨e,he,hp⟩:=hS.mem.mpr hin;have:=List.findIdx?_eq_none_iff.mp hr e he;rw[hp]at this;exact Bool.noConfusion this
  have hgw:∀(b:Bool){s₁:Shared}{Q':Z2},Q' () s₁->wpAny (model prog w) A (match b with|true=>rule "set.scan.the-table-gave-way"|false=>pure ()) Q' E s₁ :=
   λb s₁ Q' hq=>by cases b<;>first|exact X1 hq|exact wpAny_rule hq
  have z:=layNew_perm t es ((bQ prog w).hash k) x;have O:=layNew_fits t es ((bQ prog w).hash k) x;have U:=CA hS.tab es ((bQ prog w).hash k) x;generalize hL:layNew t es ((bQ prog w).hash k) x=L at z O U⊢;obtain⟨es1,t1,wasDummy,gave⟩:=L;dsimp only at z O U⊢;rw[Array.toList_push]at z;have hel1:ElemsOf (bQ prog w) es1.toList:=(hel.push hkey' hsc).perm z;have hb1':es1.size<scanBound:=by rw[←YU,z.length_eq,X_,YU,AR];simpa using hroom
  have Tn:oz ks k=ks++[k]:=by unfold oz;rw[YF hout]
  have BP:(oz ks k).Nodup:=by rw[Tn,List.nodup_append];exact⟨hS.Qi,by simp,λx hx y hy e=>by simp at hy;subst hy;subst e;exact hout hx⟩
  have hkeys:(es1.toList.map λe=>Dc e.2).Perm (oz ks k):=by rw[Tn];refine(z.map _).trans ?_;rw[Ya];refine hS.keys.append ?_;show [Dc x].Perm [k];rw[Ad hkey]
  refine X0 (hgw _ ?_);split
  ·refine X0 ?_;rw[hashByValue_scannable 8 hsc];refine X1 ?_;refine x6 (ks:=oz ks k) ?_ hS.obj hel1 hb1' ?_ ?_ BP hkeys ?_
   ·intro b s₁ Q' hq;cases b<;>first|exact X1 hq|exact wpAny_rule hq
   ·split
    ·exact O
    ·exact SetTable.fits_plain_off O
   ·split
    ·exact U
    ·exact⟨U.Ru,U.QY,U.led⟩
   ·intro h' es' ep' t' hsb hS';dsimp only;exact X1 (h true h' es' ep' t' hsb hS')
  ·refine X0 (X1 ?_);simp only[↓reduceIte];refine x6 (ks:=oz ks k) ?_ hS.obj hel1 hb1' O U BP hkeys ?_
   ·intro b s₁ Q' hq;cases b<;>first|exact X1 hq|exact wpAny_rule hq
   ·intro h' es' ep' t' hsb hS';dsimp only;exact X1 (h true h' es' ep' t' hsb hS')
noncomputable def nv (key:Nat->Key):Nat->List Key
 | 0=>[]
 |i+1=>oz (nv key i) (key i)
theorem Ea(ks:List Key)(k:Key):(oz ks k).length<=ks.length+1:=by
 unfold oz;split
 ·omega
 ·simp
theorem rp(key:Nat->Key):∀i,(nv key i).length<=i
 | 0=>X5 _
 |i+1=>X6 (Ea _ _) (Nat.succ_le_succ (rp key i))
theorem Gg{ks:List Key}{k x:Key}:x∈oz ks k↔x∈ks\/x=k:=by
 unfold oz;split
 ·rename_i h;exact⟨.inl,λq=>q.elim id λe=>e▸h⟩
 ·simp
theorem xP{key:Nat->Key}{x:Key}:∀{i:Nat},x∈nv key i↔∃j,j<i/\key j=x
 | 0=>by simp[nv]
 |i+1=>by
  show x∈oz (nv key i) (key i)↔_;rw[Gg,xP];constructor
  ·rintro(⟨j,z,e⟩|e)
   ·exact⟨j,Nat.lt_succ_of_lt z,e⟩
   ·exact⟨i,Nat.lt_succ_self _,e.symm⟩
  ·rintro⟨j,z,e⟩;rcases Nat.lt_succ_iff_lt_or_eq.mp z with q|q
   ·exact .inl ⟨j,q,e⟩
   ·exact .inr (by rw[←e,q])
end
section
variable{prog:Program}{w:World}{A:Around}{R:Z3}{I:Addr}{fp wr:Z6}{G:Array GenState->Array GenState->Prop}{n:Nat}{P:Nat->Value->Prop}{St:Nat->Shared->Prop}
theorem E8(W:WalksS prog w A.in1 I fp wr G n P St)(S:Addr)(hSf:S∉fp)(key:Nat->Key)(hval:∀i v,P i v->iB (key i) v=true/\v.scannable=true)(hb:n+1<scanBound) :
  ∀(k i:Nat)(s:Shared)(es:Z1)(ep:Nat)(t:SetTable),n-i=k->i<=n->St i s->gE prog w s.heap S (nv key i) es ep t->
   (∀s' es' O t',Moved (S::wr) G s s'->gE prog w s'.heap S (nv key n) es' O t'->R (.ok (.ret .none)) s')->
   codeAny (model prog w) A (.builtin "set.update.loop" ⟨[.ref S,.ref I],[]⟩) R s:=by
 have hSw:S∉wr:=λh=>hSf (W.sub _ h);have z:∀b∈wr,b∈S::wr:=λb hb=>Yg _ hb;intro k;induction k with
 |zero =>
  intro i s es ep t hk hi U hS hR;have hin:i=n:=by omega
  subst hin;refine codeAny_builtin F.entry_set_update_loop ?_;rw[Around.under_plainId F.plain_set_update_loop _];show wpAny _ A.in1 (pyNext (.ref I) >>= _) _ _ s;refine X0 (W.done s _ _ U λs' hm=>?_);show wpAny _ A.in1 (ret Value.none) _ _ s';exact X1 (hR s' es ep t (hm.mono z) (hS.keep λo e=>hm.heap S o hSw e))
 |succ k ih =>
  intro i s es ep t hk hi U hS hR;have hlt:i<n:=by omega
  refine codeAny_builtin F.entry_set_update_loop ?_;rw[Around.under_plainId F.plain_set_update_loop _];show wpAny _ A.in1 (pyNext (.ref I) >>= _) _ _ s;refine X0 (W.item i s _ _ hlt U λv s' hP hst' hm=>?_);obtain⟨hv1,hv2⟩:=hval i v hP;have hS':=hS.keep (h':=s'.heap) λo e=>hm.heap S o hSw e;show wpAny _ A.in1 (holding [v] (setAdd S v) >>= _) _ _ s';refine X0 (Yy ?_);unfold setAdd;refine Yy ?_;refine X0 ((bQ prog w).pyHash (k:=key i) hv1 ?_);have hroom:(nv key i).length+1<scanBound:=by have:=rp key i;omega
  refine Av (s:={s' with toks:=s'.toks+1}) hv1 hv2 hS' hroom λb h' es' O t' hsb hS2=>?_;refine X1 ⟨plainId_quiet F.plain_set_update_loop _,ih (i+1) _ es' O t' (by omega) hlt (W.frame _ s' _ _ hst' (Nat.le_succ _) λb hb o e=>?_) hS2 λs'' es2 VT t2 hm'' hS''=>?_⟩
  ·rw[hsb.2 b (λh:b=S=>hSf (by rw[←h];exact hb))];exact e
  ·refine hR s'' es2 VT t2 (Moved.trans W.gtrans ((hm.mono z).then_heap (Nat.le_succ _) λb o hb e=>?_) hm'') hS'';rw[hsb.2 b (λh:b=S=>hb (by rw[h];exact YA))];exact e
end
section
variable{prog:Program}{w:World}{A:Around}{E:nT}{s:Shared}
theorem wQ(a:Value){Q₁:nT}
  (h:Q₁ (.ref s.heap.objs.size) {s with heap:=s.heap.push {cls:=.type "set",dict:=none,data:=.set #[] 0 (.fresh 0 0 (!cx w))}}) :
  codeAny (model prog w) A (.call (.builtin "set.__new__") ⟨[.type "set",a],[]⟩) (wants Q₁ E) s:=by
 refine codeAny_of_tree ?_;show wpAny _ A.in1 (do checkBuiltinCall "set.__new__" ⟨[.type "set",a],[]⟩;again (.builtin "set.__new__" ⟨[.type "set",a],[]⟩)) _ _ s;refine X0 (wpAny_of_eq (F.newCall_set_1 a) (X1 ⟨plainId_quiet F.plain_set_new _,codeAny_builtin F.entry_set_new ?_⟩));rw[Around.under_plainId F.plain_set_new _];unfold Builtin.«set.__new__» Builtin.Frozenset.newClass;have z:=sub_set_self;obtain⟨O,g,d,tk,os⟩:=s;dsimp only
 wp_walk
 refine wpAny_askSetting (X1 ?_);dsimp only;simp only[newObj];refine X0 (wpAny_alloc (X1 ?_));exact X1 h
end
theorem sub_tuple_set:isSubtype (.type "tuple") (.type "set")=pure false:=by rw[isSubtype_type];kernel_rfl
theorem sub_tuple_frozenset:isSubtype (.type "tuple") (.type "frozenset")=pure false:=by rw[isSubtype_type];kernel_rfl
structure vo(prog:Program)(w:World)(T:String)(l:Addr)(items:Array Value):Prop where
 KH:isSubtype (.type T) (.type "set")=pure false
 M0:isSubtype (.type T) (.type "frozenset")=pure false
 nd:(Value.type T==Value.type "dict")=false
 it:∀(A:Around)(s:Shared)(o:Obj),A.handled=none->s.heap.get? l=some o->o.cls=.type T->(∃n,o.data=.seq items n)->∃(oI:Obj)(St:Nat->Heap->Prop),
  (∀(E:nT)(Q:nT),Q (.ref s.heap.objs.size) {s with heap:=s.heap.push oI}->wpAny (model prog w) A (pyIter (.ref l)) Q E s)/\
  Walks prog w A s.heap.objs.size [s.heap.objs.size,l] [s.heap.objs.size] items.size (λi v=>items[i]? = some v) St/\St 0 (s.heap.push oI)
theorem src_list{prog:Program}{w:World}{l:Addr}{items:Array Value}:vo prog w "list" l items where
 KH:=F.sub_list_set
 M0:=F.sub_list_frozenset
 nd:=by decide
 it:=λA s o hh z U hd=>by have O:s.heap.IsList l items:=⟨o,z,U,hd⟩;refine⟨_,_,λE Q q=>wpAny_pyIter_list O q,Walks.list hh _ l (Yp (X3 z)) items,⟨_,X4 _ rfl,rfl,rfl⟩,O.push _⟩
theorem Iu{prog:Program}{w:World}{l:Addr}{items:Array Value}:vo prog w "tuple" l items where
 KH:=sub_tuple_set
 M0:=sub_tuple_frozenset
 nd:=by decide
 it:=λA s o hh z U hd=>by have O:s.heap.IsTuple l items:=⟨o,z,U,hd⟩;refine⟨_,_,λE Q q=>wpAny_pyIter_tuple O q,Walks.tuple hh _ l (Yp (X3 z)) items,⟨_,X4 _ rfl,rfl,rfl⟩,O.push _⟩
section
variable{prog:Program}{w:World}{A:Around}{E:nT}{s:Shared}
theorem x2{T:String}{l:Addr}{items:Array Value}{o:Obj}{key:Nat->Key}{Q:nT}(src:vo prog w T l items)
  (hh:A.handled=none) (ho:s.heap.get? l=some o) (hc:o.cls=.type T) (hdt:∃n,o.data=.seq items n) (hi:∀i v,items[i]? = some v->iB (key i) v=true/\v.scannable=true) (hb:items.size+1<scanBound)
  (h:∀(h':Heap)(tk:Nat) es ep t,gE prog w h' s.heap.objs.size (nv key items.size) es ep t->(∀b o,s.heap.get? b=some o->h'.get? b=some o)->Q (.ref s.heap.objs.size) {s with heap:=h',toks:=tk}) :
  wpAny (model prog w) A (call (.type "set") [.ref l]) Q E s:=by
 obtain⟨c,tl,hmro⟩:=F.called_set.mro;have hmade:=F.called_set.made;have hsub:=F.called_set.sub;refine wpAny_call (codeAny_of_tree ?_);show wpAny _ _ (callAny (.type "set") _) _ _ _;refine X1 ⟨Code.quiet_builtin _ (by decide +kernel),codeAny_builtin F.entry_type_call ?_⟩;rw[Around.under_plain (weight_type_call_type "set" [.ref l] []) rfl];have h1:=F.called_set.notType;have h2:=F.called_set.canCreate;have hct:=F.typeCall_set_1 (.ref l);repeat (any_goals (first|assumption|wp_step))
 refine codeAny_mono (wQ (.ref l) (E:=E) (Q₁:=λobj O=>obj=.ref s.heap.objs.size/\O ={s with heap:=s.heap.push {cls:=.type "set",dict:=none,data:=.set #[] 0 (.fresh 0 0 (!cx w))}}) ⟨rfl,rfl⟩) λr O hr=>?_;cases r with
 |error e=>exact hr
 |ok fl =>
  cases fl with
  |ret obj =>
   obtain⟨rfl,rfl⟩:=hr;have hS:(s.heap.push {cls:=.type "set",dict:=none,data:=.set #[] 0 (.fresh 0 0 (!cx w))}).get? s.heap.objs.size=some {cls:=.type "set",dict:=none,data:=.set #[] 0 (.fresh 0 0 (!cx w))}:=X4 _ rfl;have hT:Shared.TypeIs {s with heap:=s.heap.push {cls:=.type "set",dict:=none,data:=.set #[] 0 (.fresh 0 0 (!cx w))}} (.ref s.heap.objs.size) "set":=⟨_,hS,rfl⟩;have hli:=F.called_set.init.lookup;have hbi:=F.called_set.init.bind (.ref s.heap.objs.size);repeat (any_goals (first|assumption|wp_step))
   refine codeAny_mono (codeAny_call_builtin (R:=wants (λr U=>r=.none/\∃h' tk es ep t,U ={s with heap:=h',toks:=tk}/\
     gE prog w h' s.heap.objs.size (nv key items.size) es ep t/\(∀b o,s.heap.get? b=some o->h'.get? b=some o)) E) F.called_set.init.plain F.entry_set_init (check_set_init_1 hT ?_)) λr₂ U z=>?_
   ·have ho':(s.heap.push {cls:=.type "set",dict:=none,data:=.set #[] 0 (.fresh 0 0 (!cx w))}).get? l=some o:=X2 _ ho;have XZ:Shared.TypeIs {s with heap:=s.heap.push {cls:=.type "set",dict:=none,data:=.set #[] 0 (.fresh 0 0 (!cx w))}} (.ref l) T:=⟨_,ho',hc⟩;have hsls:=src.KH;have hslf:=src.M0;have hne:=src.nd;obtain⟨oI,St,hit,W,st⟩:=src.it A.in1.in1.in1 {s with heap:=s.heap.push {cls:=.type "set",dict:=none,data:=.set #[] 0 (.fresh 0 0 (!cx w))}} o (by simpa using hh) ho' hc hdt;unfold Builtin.«set.__init__» noKeywords Builtin.Frozenset.updateFrom;generalize hPI:pyIter=PI
    wp_walk
    subst hPI;refine wpAny_of_in1 (hit _ _ ?_);refine X0 (wpAny_runValue ?_);have hlS:l<s.heap.objs.size:=X3 ho;have hsz:(s.heap.push {cls:=.type "set",dict:=none,data:=.set #[] 0 (.fresh 0 0 (!cx w))}).objs.size=s.heap.objs.size+1:=Heap.size_push _ _;have hSf:s.heap.objs.size∉[(s.heap.push {cls:=.type "set",dict:=none,data:=.set #[] 0 (.fresh 0 0 (!cx w))}).objs.size,l]:=by rw[hsz];simp only[Ym,YH,or_false,not_or];exact⟨Yp (Nat.lt_succ_self _),Nat.ne_of_gt hlS⟩
    refine E8 W.toS s.heap.objs.size hSf key (λi v hv=>hi i v hv) hb (items.size-0) 0 _ #[] 0 (SetTable.fresh 0 0 (!cx w)) (by omega) (Yq _) st ?hS0 ?hR
    case hS0 =>have hget:=X2 oI hS;exact⟨hget,λe he=>YE he (by simp),by unfold scanBound;decide,by simp[SetTable.fits,SetTable.fresh,SetTable.fill],⟨List.Pairwise.nil,rfl,rfl⟩,List.nodup_nil,by simp[nv]⟩
    case hR =>
     intro s' es' ep' t' hm hS';obtain⟨h',g',d',tk',os'⟩:=s';have eg:g'=s.gens:=hm.gens;have ed:d'=s.drawn:=hm.drawn;have eo:os'=s.os:=hm.os;subst eg;subst ed;subst eo;show wpAny _ _ _ _ _ _;refine X1 ?_;show wpAny _ _ (ret Value.none) _ _ _;refine X1 ⟨rfl,h',tk',es',ep',t',rfl,hS',λb o e=>?_⟩;have hb1:b≠s.heap.objs.size:=Yp (X3 e);have hb2:b≠(s.heap.push {cls:=.type "set",dict:=none,data:=.set #[] 0 (.fresh 0 0 (!cx w))}).objs.size:=by rw[hsz];exact Yp (Nat.lt_succ_of_lt (X3 e))
     exact hm.heap b o (by simp only[Ym,YH,or_false,not_or];exact⟨hb1,hb2⟩) (X2 _ (X2 _ e))
   ·cases r₂ with
    |error e=>exact z
    |ok fl₂ =>
     cases fl₂ with
     |ret r =>
      obtain⟨rfl,h',tk,es,ep,t,rfl,hS',hk'⟩:=z;repeat (any_goals (first|assumption|wp_step))
      exact h _ _ es ep t hS' hk'
     |_=>exact z.elim
  |_=>exact hr.elim
end
theorem qj:entryFor table "set.__iter__"=some Builtin.«frozenset.__iter__» :=
 entryFor_alias (id':="frozenset.__iter__") (by kernel_rfl) rfl (by decide +kernel) (by kernel_rfl)
theorem fN:Slot "set_iterator" "__next__" "set_iterator.__next__" :=
 .of (owner:="set_iterator") (n:="__next__") (by rw[typeLookup_type,builtinLookup_eq_fast];kernel_rfl) (by decide +kernel) (by decide +kernel) (by decide +kernel)
  (by first|exact .inl (by decide +kernel)|exact .inr (by decide +kernel)) (by rw[isSubtype_type];kernel_rfl)
theorem sR:entryFor table "set_iterator.__next__"=some Builtin.«set_iterator.__next__»:=entryFor_of_fast (by kernel_rfl)
theorem vO(a:Value):argsOk "set_iterator.__next__" ⟨[a],[]⟩:=by unfold argsOk;kernel_rfl
section
variable{prog:Program}{w:World}{A:Around}{E:nT}{s:Shared}
theorem Cu{src:Source}{n:Nat}{Q:Nat->Shared->Prop}(hn:n≠0)(h:∀k d,k<n->Q k {s with drawn:=d}):wpAny (model prog w) A (choose src n) Q E s:=λ_ _ _ =>
 ⟨hn,h _ _ (Nat.mod_lt _ (Nat.pos_of_ne_zero hn))⟩
theorem jf{α:Type}:∀{xs:List α}{i:Nat}{x:α},xs[i]? = some x->(x::xs.eraseIdx i).Perm xs
 |[],i,x,h=>by simp at h
 |y::ys,0,x,h=>by
  have e:y=x:=by simpa using h
  subst e;exact List.Perm.refl _
 |y::ys,i+1,x,h=>by
  have h':ys[i]? = some x:=by simpa using h
  exact(List.Perm.swap _ _ _).trans ((jf h').cons y)
theorem oW{α:Type}:∀(n:Nat)(xs:List α)(s:Shared){Q:List α->Shared->Prop},xs.length=n->(∀ys d,ys.Perm xs->Q ys {s with drawn:=d})->wpAny (model prog w) A (drawOrder n xs) Q E s
 | 0,xs,s,Q,e,h=>by have:xs=[]:=List.length_eq_zero_iff.mp e;subst this;unfold drawOrder;exact X1 (h [] s.drawn (List.Perm.refl _))
 |n+1,[],s,Q,e,h=>by cases e
 |n+1,x::xs,s,Q,e,h=>by unfold drawOrder;refine X0 (Cu (by simp) λk d O=>?_);have z:(x::xs)[k]? = some (x::xs)[k]:=Yd O;rw[z];dsimp only;refine X0 (oW n _ _ (by rw[List.length_eraseIdx_of_lt O,e];rfl) λys d' U=>?_);exact X1 (h _ d' ((U.cons _).trans (jf z)))
abbrev gi(first:Value)(i:Nat)(S:Addr)(n ep:Nat):Obj:={cls:=.type "set_iterator",data:=.fields #[first,.int i 0,.ref S,.int n 0,.int ep 0]}
def pe(es:Z1)(t:SetTable):Bool:=!t.plain&&decide (es.size > 1)
theorem D5{S:Addr}{ks:List Key}{es:Z1}{ep:Nat}{t:SetTable}{Q:nT}(z:gE prog w s.heap S ks es ep t)
  (h1:(!cx w&&pe es t)=false->Q (.ref s.heap.objs.size) {s with heap:=s.heap.push (gi (.int 0 0) 0 S es.size ep)})
  (h2:(!cx w&&pe es t)=true->∀(d:Drawn)(ps:List Nat),ps.Perm (List.range es.size)->Q (.ref (s.heap.objs.size+1)) {s with heap:=(s.heap.push {cls:=.type "tuple",data:=.seq (ps.map λ(i:Nat)=>Value.int i 0).toArray}).push (gi (.ref s.heap.objs.size) 0 S es.size ep),drawn:=d}) :
  wpAny (model prog w) A (pyIter (.ref S)) Q E s:=by
 have hT:s.TypeIs (.ref S) "set":=⟨_,z.obj,rfl⟩;have hz:es.size<=sizeLine:=fits_of_scanBound z.few;refine wpAny_pyIter_slot hT F.slot_set_iter (YQ F.slot_set_iter hT qj ?_ (F.args_set_iter_1 _));unfold Builtin.«frozenset.__iter__» Builtin.Frozenset.slot0 slotArgs;simp only[List.isEmpty_nil,Bool.not_true,Bool.false_eq_true,↓reduceIte,bind_assoc,List.length_nil,bne_self_eq_false];unfold Builtin.Frozenset.addrOf Builtin.Frozenset.sizeOf;refine X0 (X1 ?_);try dsimp only
 refine X0 (X1 ?_);refine X0 (X0 (wpAny_setEntries_of z.obj rfl z.fits (X1 ?_)));unfold setDrawn setsByText;refine X0 (X0 (wpAny_setState_of z.obj rfl z.fits (X0 (X0 (wpAny_askSetting (X1 (X1 ?_)))))));show wpAny _ _ (if(!cx w&&pe es t)=true then _ else _) _ _ _;cases hb:(!cx w&&pe es t)
 ·rw[YF (by simp)];refine X0 (X1 ?_);refine X0 (wpAny_setEpoch_of z.obj rfl z.fits ?_);refine X0 (Yz (X1 ⟨_,rfl,"set_iterator",_,⟨_,X4 _ rfl,rfl⟩,fN.lookup,?_⟩));exact h1 hb
 ·rw[YG rfl];refine X0 (oW es.size (List.range es.size) s (by simp) λps d U=>?_);have hl:ps.length=es.size:=by rw[U.length_eq];simp
  refine X0 (wpAny_newTuple ?_ (by rw[X9,hl];exact hz));have O:=z.keep (h':=s.heap.push {cls:=.type "tuple",data:=.seq (ps.map λ(i:Nat)=>rawInt i).toArray}) λo e=>X2 _ e;refine X0 (wpAny_setEpoch_of O.obj rfl O.fits ?_);refine X0 (Yz (X1 ⟨_,rfl,"set_iterator",_,⟨_,X4 _ rfl,rfl⟩,fN.lookup,?_⟩));have:=h2 hb d ps U;rw[size_push'];exact this
theorem oF{I S:Addr}{first:Value}{i n ep:Nat}{Q:Z5->Shared->Prop}(U:s.heap.get? I=some (gi first i S n ep))
  (h:wpAny (model prog w) A.in1 (Builtin.«set_iterator.__next__» ⟨[.ref I],[]⟩) (λz s'=>∃r,z=.done (.ret r)/\Q (some r) s') (λe s'=>wpAny (model prog w) A (do if←isInstance e (.type "StopIteration")then pure none else throw e) Q E s') s) :
  wpAny (model prog w) A (pyNext (.ref I)) Q E s:=by
 have O:s.TypeIs (.ref I) "set_iterator":=⟨_,U,rfl⟩;unfold pyNext;refine X0 (wpAny_attempt (wpAny_callSpecial?_slot (name:=Str.ofString "__next__") O fN (YQ fN O sR ?_ (vO _))));refine Yx h (λz s' q=>?_) λe s' q=>?_
 ·obtain⟨r,rfl,q⟩:=q;exact⟨_,rfl,X1 q⟩
 ·exact q
theorem oa{I S:Addr}{first:Value}{i n ep:Nat}(z:s.heap.get? I=some (gi first i S n ep)){first':Value}{i':Nat}{fs:Array Value}(k:Nat)(v:Value)(O:k<5)(e:(#[first,.int i 0,.ref S,.int n 0,.int ep 0]:Array Value).setIfInBounds k v=fs) :
  (s.heap.update I (Obj.mapFields (·.setIfInBounds k v))).get? I=some {cls:=.type "set_iterator",data:=.fields fs}:=by
 have:=Heap.get?_update_self (Obj.mapFields (·.setIfInBounds k v)) z (Obj.isFreed_of_fields (Obj.data_mapFields (o:=gi first i S n ep) rfl _));rw[this,←e];rfl
end
section
variable{prog:Program}{w:World}{A:Around}{E:nT}{s:Shared}
theorem wC{Q:Z5->Shared->Prop}{h0:Heap}{I:Addr}(hh:A.handled=none)(O:∀h',Heap.ExtBut I h0 h'->Q none {s with heap:=h'})(hs:Heap.ExtBut I h0 s.heap) :
  wpAny (model prog w) A.in1 (newExc (.type "StopIteration") [] >>= λe=>(raiseNew e:Sem Fin)) (λz s'=>∃r,z=.done (.ret r)/\Q (some r) s') (λe s'=>wpAny (model prog w) A (do if←isInstance e (.type "StopIteration")then pure none else throw e) Q E s') s:=by
 refine X0 ?_;simp only[newExc,newTuple];refine X0 (Yz ?_ (by size_fits));refine X0 (m:=firstArgMember _ _) (wpAny_of_eq (a:=Value.none) (by first|rfl | (simp only[firstArgMember];rfl)) ?_);refine Yz ?_ (by size_fits);simp only[raiseNew];refine X0 (wpAny_handled ?_);rw[show A.in1.handled=none from hh];refine X0 (X1 (wpAny_throw ?_));refine X0 (wpAny_isInstance (T:="StopIteration") (b:=true) ⟨_,X4 _ rfl,rfl⟩ isSubtype_stop ?_);exact X1 (O _ ((hs.push _).push _))
theorem qJ{I S:Addr}{ks:List Key}{es:Z1}{i ep:Nat}{t:SetTable}{first:Value}{R:Fin->Shared->Prop}{F:nT}(O:s.heap.get? I=some (gi first i S es.size ep))(z:gE prog w s.heap S ks es ep t)
  (h:wpAny (model prog w) A (if let .int slot _:=first then do
    match←setNext S slot.toNat i ep with
    |some (x,next) =>
     setField (.ref I) 0 (rawInt next)
     setField (.ref I) 1 (rawInt (i+1))
     ret x
    |none=>setField (.ref I) 2 .none;raiseNew (←newExc (.type "StopIteration") [])
   else do
    let some places←seqItems? first|unsupported "internal:set_iterator"
    match places[i]? with
    |some (.int place _) =>
     let x←setNextDrawn S place.toNat ep
     setField (.ref I) 1 (rawInt (i+1))
     ret x
    |some _=>unsupported "internal:set_iterator"
    |none=>setField (.ref I) 0 (rawInt 0);setField (.ref I) 2 .none;raiseNew (←newExc (.type "StopIteration") [])) R F s) :
  wpAny (model prog w) A (Builtin.«set_iterator.__next__» ⟨[.ref I],[]⟩) R F s:=by
 unfold Builtin.«set_iterator.__next__» slotArgs;simp only[List.isEmpty_nil,Bool.not_true,Bool.false_eq_true,↓reduceIte,bind_assoc,List.length_nil,bne_self_eq_false];refine X0 (X1 ?_);try dsimp only
 refine X0 (wpAny_fieldsOf O rfl ?_);dsimp only;refine X0 (wpAny_setEntries_of z.obj rfl z.fits ?_);rw[YF (by simp)];exact h
theorem Jt{I S:Addr}{ks:List Key}{es:Z1}{i ep slot next:Nat}{t:SetTable}{v:Value}{Q:Z5->Shared->Prop}(z:s.heap.get? I=some (gi (.int slot 0) i S es.size ep))(hS:gE prog w s.heap S ks es ep t)
  (hn:∀(Q:Option (Value×Nat)->Shared->Prop)(E:nT),Q (some (v,next)) s->wpAny (model prog w) A.in1 (setNext S slot i ep) Q E s)
  (U:∀h',h'.get? I=some (gi (.int next 0) (i+1) S es.size ep)->(∀b,b≠I->h'.get? b=s.heap.get? b)->Q (some v) {s with heap:=h'}):wpAny (model prog w) A (pyNext (.ref I)) Q E s:=by
 refine oF z (qJ z hS ?_);dsimp only;refine X0 (hn _ _ ?_);dsimp only;refine X0 (wpAny_setField z rfl (by simp) ?_);have h1:=oa (s:=s) z (first':=.none) (i':=0) (fs:=#[.int next 0,.int i 0,.ref S,.int es.size 0,.int ep 0]) 0 (rawInt next) (by decide) (by simp[rawInt]);refine X0 (wpAny_setField h1 rfl (by simp) ?_);have h2:=oa (s:={s with heap:=s.heap.update I (Obj.mapFields (·.setIfInBounds 0 (rawInt next)))}) (first:=.int next 0) (i:=i) (S:=S) (n:=es.size) (ep:=ep) h1 (first':=.none) (i':=0) (fs:=#[.int next 0,.int ((i+1:Nat):Int) 0,.ref S,.int es.size 0,.int ep 0]) 1 (rawInt ((i:Int)+1)) (by decide) (by simp[rawInt]);refine X1 ⟨_,rfl,U _ h2 λb O=>?_⟩;exact((Heap.SameBut.update _ I _).2 b O).trans ((Heap.SameBut.update _ I _).2 b O)
theorem Mk{I S:Addr}{ks:List Key}{es:Z1}{i ep slot:Nat}{t:SetTable}{Q:Z5->Shared->Prop}(hh:A.handled=none)(z:s.heap.get? I=some (gi (.int slot 0) i S es.size ep))(U:gE prog w s.heap S ks es ep t)
  (hn:∀(Q:Option (Value×Nat)->Shared->Prop)(E:nT),Q none s->wpAny (model prog w) A.in1 (setNext S slot i ep) Q E s)
  (O:∀h',Heap.ExtBut I s.heap h'->Q none {s with heap:=h'}):wpAny (model prog w) A (pyNext (.ref I)) Q E s:=by
 refine oF z (qJ z U ?_);dsimp only;refine X0 (hn _ _ ?_);dsimp only;refine X0 (wpAny_setField z rfl (by simp) ?_);exact wC (s:={s with heap:=s.heap.update I (Obj.mapFields (·.setIfInBounds 2 .none))}) (I:=I) (h0:=s.heap) hh O (Heap.SameBut.update ..).extBut
theorem GY{I S T:Addr}{ks:List Key}{es:Z1}{i ep p:Nat}{t:SetTable}{ps:Array Value}{hv:Int}{v:Value}{Q:Z5->Shared->Prop}(z:s.heap.get? I=some (gi (.ref T) i S es.size ep))(O:gE prog w s.heap S ks es ep t)
  (hT:s.heap.get? T=some {cls:=.type "tuple",data:=.seq ps}) (hp:ps[i]? = some (.int p 0)) (U:es[p]? = some (hv,v))
  (hQ:∀h',h'.get? I=some (gi (.ref T) (i+1) S es.size ep)->(∀b,b≠I->h'.get? b=s.heap.get? b)->Q (some v) {s with heap:=h'}):wpAny (model prog w) A (pyNext (.ref I)) Q E s:=by
 refine oF z (qJ z O ?_);dsimp only;unfold seqItems?;refine X0 (X0 (wpAny_load hT (X1 ?_)));dsimp only;rw[hp];dsimp only;unfold setNextDrawn;refine X0 (X0 (wpAny_setState_of O.obj rfl O.fits ?_));dsimp only;rw[YF (by simp)];rw[show es[(p:Int).toNat]? = some (hv,v) from U];refine X1 ?_;refine X0 (wpAny_setField z rfl (by simp) ?_);have h2:=oa (s:=s) z (first':=.none) (i':=0) (fs:=#[.ref T,.int ((i+1:Nat):Int) 0,.ref S,.int es.size 0,.int ep 0]) 1 (rawInt ((i:Int)+1)) (by decide) (by simp[rawInt]);exact X1 ⟨_,rfl,hQ _ h2 λb hb=>(Heap.SameBut.update _ I _).2 b hb⟩
theorem MU{I S T:Addr}{ks:List Key}{es:Z1}{i ep:Nat}{t:SetTable}{ps:Array Value}{Q:Z5->Shared->Prop}(hh:A.handled=none)(z:s.heap.get? I=some (gi (.ref T) i S es.size ep))(hS:gE prog w s.heap S ks es ep t)
  (U:s.heap.get? T=some {cls:=.type "tuple",data:=.seq ps}) (O:ps[i]? = none)
  (hQ:∀h',Heap.ExtBut I s.heap h'->Q none {s with heap:=h'}):wpAny (model prog w) A (pyNext (.ref I)) Q E s:=by
 refine oF z (qJ z hS ?_);dsimp only;unfold seqItems?;refine X0 (X0 (wpAny_load U (X1 ?_)));dsimp only;rw[O];dsimp only;refine X0 (wpAny_setField z rfl (by simp) ?_);have h1:=oa (s:=s) z (first':=.none) (i':=0) (fs:=#[.int 0 0,.int i 0,.ref S,.int es.size 0,.int ep 0]) 0 (rawInt 0) (by decide) (by simp[rawInt]);refine X0 (wpAny_setField h1 rfl (by simp) ?_);refine wC (s:={s with heap:=(s.heap.update I (Obj.mapFields (·.setIfInBounds 0 (rawInt 0)))).update I (Obj.mapFields (·.setIfInBounds 2 .none))}) (I:=I) (h0:=s.heap) hh hQ ?_;exact((Heap.SameBut.update s.heap I _).trans (Heap.SameBut.update _ I _)).extBut
end
theorem Bf{α:Type}(next:Nat->Nat):∀(z k:Nat)(left:List α)(O:Array α),left.length=z->(pickOrder.go next z k left O).toList.Perm (O.toList++left)
 | 0,k,left,O,e=>by have:left=[]:=List.length_eq_zero_iff.mp e;subst this;unfold pickOrder.go;simp
 |z+1,k,left,O,e=>by
  unfold pickOrder.go;have U:next k % left.length<left.length:=Nat.mod_lt _ (by omega)
  have hg:left[next k % left.length]? = some left[next k % left.length]:=Yd U;rw[hg];dsimp only;refine(Bf next z (k+1) _ _ (by rw[List.length_eraseIdx_of_lt U,e];rfl)).trans ?_;rw[Array.toList_push,List.append_assoc];refine List.Perm.append_left _ ?_;exact jf hg
theorem ud{α:Type}(next:Nat->Nat)(xs:Array α):(pickOrder next xs).toList.Perm xs.toList:=by
 unfold pickOrder;have:=Bf next xs.size 0 xs.toList #[] (by simp)
 simpa using this
def Jp(place:Array Nat):Nat->Nat
 | 0=>0
 |i+1=>(place[i]?.getD 0)+1
theorem yO{place:Array Nat}(h:Fj place):∀{i:Nat},i<=place.size->SetTable.below place (Jp place i)=i
 | 0,_=>by
  obtain⟨h1,h2,h3⟩:=ni h 0;show SetTable.below place 0=0;rcases Nat.eq_zero_or_pos (SetTable.below place 0)with q|q
  ·exact q
  ·have hz:0<place.size:=by omega
   have:=h2 0 _ q (Yw hz);omega
 |i+1,hi=>by
  have U:i<place.size:=hi;have O:place[i]? = some place[i]:=Yw U;have es:Jp place (i+1)=place[i]+1:=by show(place[i]?.getD 0)+1=_;rw[O];rfl
  rw[es];obtain⟨h1,h2,h3⟩:=ni h (place[i]+1);rcases Nat.lt_trichotomy (SetTable.below place (place[i]+1)) (i+1)with q|q|q
  ·have:=h3 i _ (by omega) O;omega
  ·exact q
  ·have z:i+1<place.size:=by omega
   have e2:place[i+1]? = some place[i+1]:=Yw z;have a:=h2 (i+1) _ q e2;have b:=h.lt (Nat.lt_succ_self i) O e2;omega
section
variable{prog:Program}{w:World}
def Nx(prog:Program)(w:World)(S:Addr)(ks:List Key)(es:Z1)(ep:Nat)(t:SetTable)(sl:Nat->Nat)(vs:Z4):Prop :=
 ∀(i:Nat)(s:Shared)(A:Around)(E:nT)(Q:Option (Value×Nat)->Shared->Prop),gE prog w s.heap S ks es ep t->i<=es.size->Q ((vs[i]?).map λv=>(v,sl (i+1))) s->wpAny (model prog w) A (setNext S (sl i) i ep) Q E s
theorem Im{S:Addr}{ks:List Key}{es:Z1}{ep:Nat}{t:SetTable}(O:cx w=true):Nx prog w S ks es ep t (λ_=>0) ((pickOrder (w.params.setOrder S ep) es).toList.map (·.2)):=by intro i s A E Q z hi q;unfold setNext setsByText;refine X0 (wpAny_setState_of z.obj rfl z.fits ?_);dsimp only;refine X0 (X0 (wpAny_askSetting (X1 ?_)));rw[YG (show(model prog w).w.params.followText "set-order"=true from O),YF (by simp)];unfold setWalk setsByText;refine X0 (X0 (wpAny_setState_of z.obj rfl z.fits ?_));dsimp only;refine X0 (X0 (wpAny_askSetting (X1 ?_)));rw[YG (show(model prog w).w.params.followText "set-order"=true from O)];refine X0 (wpAny_askSetting (X1 (X1 ?_)));rw[Yu,Option.map_map,Array.getElem?_toList]at q;exact q
theorem Et{S:Addr}{ks:List Key}{es:Z1}{ep:Nat}{t:SetTable}(hb:cx w=false)(hd:pe es t=false):Nx prog w S ks es ep t (Jp t.place) (es.toList.map (·.2)):=by
 intro i s A E Q U hi q;have O:t.place.size=es.size:=by have:=U.fits;simp[SetTable.fits]at this;exact this.1
 unfold setNext setsByText;refine X0 (wpAny_setState_of U.obj rfl U.fits ?_);dsimp only;refine X0 (X0 (wpAny_askSetting (X1 ?_)));rw[YF (show¬(model prog w).w.params.followText "set-order"=true by show¬cx w=true;rw[hb];decide)];have RI:t.led=true:=by rw[U.tab.led,hb];rfl
 show wpAny _ _ (if pe es t=true then _ else _) _ _ _;rw[YF (by rw[hd];decide)];show wpAny _ _ ((if(!t.led && !es.isEmpty)=true then unsupported _ else pure ()) >>= _) _ _ _;rw[YF (by rw[RI];simp)];refine X0 (X1 (X1 ?_));rw[yO U.tab.Ru (by rw[O];exact hi)];rw[Yu,Option.map_map,Array.getElem?_toList]at q;by_cases hlt:i<es.size
 ·rw[Yw hlt]at q⊢;have z:i<t.place.size:=by rw[O];exact hlt
  have e2:Jp t.place (i+1)=t.place[i]+1:=by show(t.place[i]?.getD 0)+1=_;rw[Yw z];rfl
  rw[Yw z];dsimp only[Option.map_some,Function.comp]at q⊢;rw[e2]at q;exact q
 ·rw[Array.getElem?_eq_none (by omega)]at q⊢;exact q
theorem oQ:Slot "set_iterator" "__iter__" "set_iterator.__iter__" :=
 .of (owner:="set_iterator") (n:="__iter__") (by rw[typeLookup_type,builtinLookup_eq_fast];kernel_rfl) (by decide +kernel) (by decide +kernel) (by decide +kernel)
  (by first|exact .inl (by decide +kernel)|exact .inr (by decide +kernel)) (by rw[isSubtype_type];kernel_rfl)
theorem sP:entryFor table "set_iterator.__iter__"=some Builtin.«dict_keyiterator.__iter__» :=
 entryFor_alias (id':="dict_keyiterator.__iter__") (by kernel_rfl) rfl (by decide +kernel) (by kernel_rfl)
theorem uO(a:Value):argsOk "set_iterator.__iter__" ⟨[a],[]⟩:=by unfold argsOk;kernel_rfl
theorem Bi{A:Around}{E:nT}{s:Shared}{I S:Addr}{first:Value}{i n ep:Nat}{Q:nT}(O:s.heap.get? I=some (gi first i S n ep))(h:Q (.ref I) s):wpAny (model prog w) A (pyIter (.ref I)) Q E s:=by have z:s.TypeIs (.ref I) "set_iterator":=⟨_,O,rfl⟩;refine wpAny_pyIter_slot z oQ (YQ oQ z sP ?_ (uO _));show wpAny _ _ (ret (.ref I)) _ _ s;exact X1 ⟨_,rfl,"set_iterator",_,z,fN.lookup,h⟩
theorem Dz{A:Around}(hh:A.handled=none){I S:Addr}(U:S≠I){ks:List Key}{es:Z1}{ep:Nat}{t:SetTable}{sl:Nat->Nat}{vs:Z4}(hv:vs.length=es.size)(hn:Nx prog w S ks es ep t sl vs) :
  Walks prog w A I [I,S] [I] es.size (λi v=>vs[i]? = some v) (λi h=>h.get? I=some (gi (.int (sl i) 0) i S es.size ep)/\gE prog w h S ks es ep t) where
 sub:=λb z=>by simp at z;simp[z]
 frame:=λ_ _ _ st hk=>⟨hk I (by simp) _ st.1,st.2.keep λo e=>hk S (by simp) o e⟩
 item:=λi s Q E hi st O=>by have e:vs[i]? = some (vs[i]'(by omega)):=Yd (by omega);refine Jt (v:=vs[i]'(by omega)) (next:=sl (i+1)) st.1 st.2 (λQ E q=>hn i s _ E Q st.2 (Nat.le_of_lt hi) (by rw[e];exact q)) λh' h1 h2=>?_;exact O _ h' s.toks e ⟨h1,st.2.keep λo q=>(h2 S U).trans q⟩ λb o z q=>(h2 b (by simpa using z)).trans q
 done:=λs Q E st O=>Mk hh st.1 st.2 (λQ E q=>hn es.size s _ E Q st.2 (X5 _) (by rw[List.getElem?_eq_none (by omega)];exact q)) λh' he=>O h' s.toks λb o z e=>he b o (λh=>z (by simp[h])) e
 self:=λi s Q E st O=>Bi st.1 O
theorem zU{A:Around}(hh:A.handled=none){I S T:Addr}(hne:S≠I)(hnt:T≠I){ks:List Key}{es:Z1}{ep:Nat}{t:SetTable}{ps:List Nat}(hp:ps.Perm (List.range es.size)) :
  Walks prog w A I [I,S,T] [I] es.size (λi v=>(ps.filterMap λj=>(es[j]?).map (·.2))[i]? = some v) (λi h=>h.get? I=some (gi (.ref T) i S es.size ep)/\gE prog w h S ks es ep t/\h.get? T=some {cls:=.type "tuple",data:=.seq (ps.map λ(i:Nat)=>Value.int i 0).toArray}) where
 sub:=λb O=>by simp at O;simp[O]
 frame:=λ_ _ _ st hk=>⟨hk I (by simp) _ st.1,st.2.1.keep λo e=>hk S (by simp) o e,hk T (by simp) _ st.2.2⟩
 item:=λi s Q E hi st hQ=>by
  have U:ps.length=es.size:=by rw[hp.length_eq];simp
  have z:i<ps.length:=by omega
  have hpi:ps[i]<es.size:=List.mem_range.mp (hp.mem_iff.mp (List.getElem_mem z));have em:(ps.filterMap λj=>(es[j]?).map (·.2))=ps.map λj=>(es.getD j (0,.none)).2:=by
   have gen:∀l:List Nat,(∀j∈l,j<es.size)->(l.filterMap λj=>(es[j]?).map (·.2))=l.map λj=>(es.getD j (0,.none)).2:=by
    intro l;induction l with
    |nil=>intro _;rfl
    |cons a l ih =>intro U;have ha:=U a YA;rw[List.filterMap_cons,ih λj hj=>U j (Yg _ hj)];simp[Array.getD,ha]
   exact gen ps λj hj=>List.mem_range.mp (hp.mem_iff.mp hj)
  refine GY (p:=ps[i]) (hv:=es[ps[i]].1) (v:=es[ps[i]].2) st.1 st.2.1 st.2.2 (by simp[z]) (by rw[Yw hpi]) λh' h1 h2=>?_;refine hQ _ h' s.toks ?_ ⟨h1,st.2.1.keep λo q=>(h2 S hne).trans q,(h2 T hnt).trans st.2.2⟩ λb o O q=>(h2 b (by simpa using O)).trans q;rw[em,Yu,Yd z];simp[Array.getD,hpi]
 done:=λs Q E st hQ=>by
  have U:ps.length=es.size:=by rw[hp.length_eq];simp
  exact MU hh st.1 st.2.1 st.2.2 (by simp[U]) λh' he=>hQ h' s.toks λb o O e=>he b o (λh=>O (by simp[h])) e
 self:=λi s Q E st hQ=>Bi st.1 hQ
end
section
variable{prog:Program}{w:World}{A:Around}{E:nT}{s:Shared}
theorem EN(hh:A.handled=none){S:Addr}{ks:List Key}{es:Z1}{ep:Nat}{t:SetTable}{Q:nT}(U:gE prog w s.heap S ks es ep t)
  (h:∀(I:Addr)(h1:Heap)(d:Drawn)(fp:Z6)(vs:Z4)(St:Nat->Heap->Prop),(∀b o,s.heap.get? b=some o->h1.get? b=some o)->s.heap.objs.size<=I->(∀b∈fp,b=S\/s.heap.objs.size<=b)->
   Walks prog w A I fp [I] es.size (λi v=>vs[i]? = some v) St->St 0 h1->vs.length=es.size->vs.Perm (es.toList.map (·.2))->Q (.ref I) {s with heap:=h1,drawn:=d}) :
  wpAny (model prog w) A (pyIter (.ref S)) Q E s:=by
 have O:S<s.heap.objs.size:=X3 U.obj;refine D5 U (λz=>?_) λz d ps hp=>?_
 ·have key:∀sl vs,sl 0=0->vs.length=es.size->vs.Perm (es.toList.map (·.2))->Nx prog w S ks es ep t sl vs->Q (.ref s.heap.objs.size) {s with heap:=s.heap.push (gi (.int 0 0) 0 S es.size ep)}:=λsl vs h0 hl hpm hn=>by
   have W:=Dz (A:=A) hh (I:=s.heap.objs.size) (S:=S) (Yp O) hl hn;have:=h s.heap.objs.size (s.heap.push (gi (.int 0 0) 0 S es.size ep)) s.drawn _ vs _ (λb o e=>X2 _ e) (X5 _) (λb z=>?_) W ⟨?_,U.keep λo e=>X2 _ e⟩ hl hpm
   ·exact this
   ·simp only[Ym,YH,or_false]at z;rcases z with rfl|rfl
    ·exact .inr (X5 _)
    ·exact .inl rfl
   ·rw[h0];exact X4 _ rfl
  cases hbt:cx w with
  |true=>exact key _ _ rfl (by rw[X9,(ud _ _).length_eq,YU]) ((ud _ _).map _) (Im hbt)
  |false =>rw[hbt]at z;exact key _ _ rfl (by rw[X9,YU]) (List.Perm.refl _) (Et hbt (by simpa using z))
 ·have hl:ps.length=es.size:=by rw[hp.length_eq];simp
  have W:=zU (prog:=prog) (w:=w) (A:=A) hh (I:=s.heap.objs.size+1) (S:=S) (T:=s.heap.objs.size) (Yp (Nat.lt_succ_of_lt O)) (Yp (Nat.lt_succ_self _)) (ks:=ks) (es:=es) (ep:=ep) (t:=t) hp;have pm:(ps.filterMap λj=>(es[j]?).map (·.2)).Perm (es.toList.map (·.2)):=by refine(hp.filterMap _).trans ?_;rw[←List.map_filterMap];rw[filterMap_getElem?_range]
  refine h (s.heap.objs.size+1) _ d _ _ _ (λb o e=>X2 _ (X2 _ e)) (Nat.le_succ _) (λb z=>?_) W ⟨?_,U.keep λo e=>X2 _ (X2 _ e),X2 _ (X4 _ rfl)⟩ (by rw[pm.length_eq,X9,YU]) pm
  ·simp only[Ym,YH,or_false]at z;rcases z with rfl|rfl|rfl
   ·exact .inr (Nat.le_succ _)
   ·exact .inl rfl
   ·exact .inr (X5 _)
  ·have:=X4 (s.heap.push {cls:=.type "tuple",data:=.seq (ps.map λ(i:Nat)=>Value.int i 0).toArray}) (o:=gi (.ref s.heap.objs.size) 0 S es.size ep) rfl;rw[size_push']at this;exact this
theorem Fc{r:Addr}{Q:Bool->Shared->Prop}(U:s.TypeIs (.ref r) "set")(h:Q false s):wpAny (model prog w) A (Builtin.List.listLengthHint (.ref r)) Q E s:=by
 unfold Builtin.List.listLengthHint;refine X0 (wpAny_specialOf U PySem.F.slot_set_len.lookup ?_);generalize hid:("set.__len__" : String)=O
 wp_delta
 rw[show splitId O=some ("set","__len__") from by subst hid;decide +kernel];subst hid;refine X0 (wpAny_isInstance (T:="set") (b:=true) U (by rw[isSubtype_type];kernel_rfl) ?_);refine wpAny_ite_split (λz=>YE z (by decide)) (λ_=>?_);refine wpAny_ite_split (λ_=>?_) (λz=>YE (by decide +kernel) z);refine X0 (wpAny_typeOf U ?_);exact X1 h
theorem yV{S L:Addr}{ks:List Key}{es:Z1}{ep:Nat}{t:SetTable}{R:Z3}(hh:A.handled=none)(hS:gE prog w s.heap S ks es ep t)(Tt:L≠S)(res:Value)(U:Nat)(hL:s.heap.get? L=some {cls:=.type "list",data:=.seq #[] U})
  (hR:∀h' tk d O c',(∀b o,b≠L->s.heap.get? b=some o->h'.get? b=some o)->h'.get? L=some {cls:=.type "list",dict:=none,data:=.seq O c',slots:=#[]}->O.toList.Perm (es.toList.map (·.2))->R (.ok (.ret res)) {s with heap:=h',toks:=tk,drawn:=d}) :
  wpAny (model prog w) A.in1 (Builtin.List.listExtendWith (.ref L) (.ref S) res)
   (λfin s'=>match fin with | .done f=>R (.ok f) s' | .again c'=>c'.quiet=true/\codeAny (model prog w) A c' R s') (λe s'=>R (.error e) s') s:=by
 have hT:s.TypeIs (.ref S) "set":=⟨_,hS.obj,rfl⟩;have hz:es.size<=sizeLine:=fits_of_scanBound hS.few;unfold Builtin.List.listExtendWith;refine X0 (wpAny_typeOf hT ?_);have h1:Builtin.List.listSameRef (.ref L) (.ref S)=false:=by simp[Builtin.List.listSameRef,Tt]
 have h2:(Value.type "set"==Value.type "list")=false:=by decide
 have h3:(Value.type "set"==Value.type "tuple")=false:=by decide
 simp only[h1,h2,h3,Bool.or_false,Bool.false_eq_true,if_false];refine X0 (EN (A:=A.in1) hh hS λI h1 d fp vs St hk hI hfp W st hvl hpm=>?_);have hLlt:L<s.heap.objs.size:=X3 hL;have hLI:L≠I:=Yp (Yc hLlt hI);have hLf:L∉fp:=λhb=>by
  rcases hfp L hb with e|e
  ·exact Tt e
  ·exact YE hLlt (Nat.not_lt.mpr e)
 have key:∀(h:Heap)(c₁ tk:Nat),St 0 h->(∀b o,b≠L->s.heap.get? b=some o->h.get? b=some o)->
   h.get? L=some {cls:=.type "list",data:=.seq #[] c₁}->codeAny (model prog w) A (.builtin "list.extend.loop" ⟨[.ref L,.ref I,res],[]⟩) R {s with heap:=h,toks:=tk,drawn:=d}:=by
  intro h c₁ tk hst hkk z;refine codeAny_extend_loopS W.toS hz L hLf res es.size 0 _ #[] c₁ rfl (Yq _) hst z (ItemsOf.nil _) λs' O c' hm hS' hacc=>?_;rw[Moved.eq_with hm];refine hR s'.heap s'.toks d O c' (λb o hb e=>hm.heap b o (λhmem=>?_) (hkk b o hb e)) hS' ?_
  ·rcases Ym.mp hmem with e'|hmem
   ·exact hb e'
   ·have:=Yk.mp hmem;subst this;exact YE (X3 e) (Nat.not_lt.mpr hI)
  ·have ev:O.toList=vs:=by
    refine List.ext_getElem? λi=>?_;rw[Array.getElem?_toList];by_cases hlt:i<es.size
    ·have:i<O.size:=by rw[hacc.1];exact hlt
     rw[Yw this];exact(hacc.2 i _ (Yw this)).symm
    ·rw[Array.getElem?_eq_none (by rw[hacc.1];omega),List.getElem?_eq_none (by omega)]
   rw[ev];exact hpm
 have z:h1.get? L=some {cls:=.type "list",data:=.seq #[] U}:=hk _ _ hL;refine X0 (Yy (Fc (s:={s with heap:=h1,drawn:=d}) ⟨_,hk _ _ hS.obj,rfl⟩ ?_));refine wpAny_ite_split (λ_=>?_) (λ_=>X1 ⟨plainId_quiet PySem.F.plain_extend_loop _,key _ U _ st (λb o _ e=>hk b o e) z⟩);refine X0 (wpAny_rule ?_);refine X0 ?_;show wpAny _ _ (updateSeq L (·.push .none) >>= λ_=>updateSeq L (·.pop)) _ _ _;refine X0 (wpAny_updateSeq z rfl ?_);have hS₂:=Heap.get?_update_self (Obj.mapSeq (·.push Value.none)) z rfl;refine wpAny_updateSeq (hz:=by seq_fits) hS₂ rfl ?_;have hS₃:=Heap.get?_update_self (Obj.mapSeq (·.pop)) hS₂ rfl;refine X1 ⟨plainId_quiet PySem.F.plain_extend_loop _,key _ _ _ ?_ (λb o hb e=>?_) hS₃⟩
 ·refine W.frame 0 _ _ st λb hb o e=>?_;have hbS:b≠L:=λh=>hLf (h▸hb);exact(Heap.get?_update_other _ _ (Ne.symm hbS)).trans ((Heap.get?_update_other _ _ (Ne.symm hbS)).trans e)
 ·exact(Heap.get?_update_other _ _ (Ne.symm hb)).trans ((Heap.get?_update_other _ _ (Ne.symm hb)).trans (hk _ _ e))
theorem xH{S:Addr}{ks:List Key}{es:Z1}{ep:Nat}{t:SetTable}{R:Z4->Shared->Prop}(hh:A.handled=none)(hS:gE prog w s.heap S ks es ep t)
  (h:∀(h':Heap)(tk:Nat)(d:Drawn)(vs:Z4),s.heap.objs.size<=h'.objs.size->(∀b o,s.heap.get? b=some o->h'.get? b=some o)->vs.Perm (es.toList.map (·.2))->R vs {s with heap:=h',toks:=tk,drawn:=d}) :
  wpAny (model prog w) A (collect (.ref S)) R E s:=by
 have hlt:S<s.heap.objs.size:=X3 hS.obj;unfold collect;refine X0 (wpAny_runValue (codeAny_builtin entry_proto_collect' ?_));rw[Around.under_plainId PySem.F.plain_proto_collect _];show wpAny _ A.in1 (newList [] >>= λl=>again (.builtin "list.__iadd__" ⟨[l,.ref S],[]⟩)) _ _ s;refine X0 (Yz ?_);refine X1 ⟨plainId_quiet PySem.F.plain_list_iadd _,codeAny_builtin entry_list_iadd' ?_⟩;rw[Around.under_plainId PySem.F.plain_list_iadd _];have hL:(s.heap.push {cls:=.type "list",data:=.seq ([]:Z4).toArray}).get? s.heap.objs.size=some {cls:=.type "list",data:=.seq #[]}:=X4 _ rfl;show wpAny _ A.in1 (Builtin.List.listExtendWith (.ref s.heap.objs.size) (.ref S) (.ref s.heap.objs.size)) _ _ _;have key:=yV (A:=A) (s:={s with heap:=s.heap.push {cls:=.type "list",data:=.seq ([]:Z4).toArray}})
  (R:=λ(q:Result) (s':Shared)=>∃(h':Heap)(tk:Nat)(d:Drawn)(z:Array Value)(c':Nat),q=.ok (.ret (.ref s.heap.objs.size))/\s' ={s with heap:=h',toks:=tk,drawn:=d}/\
   (∀b o,s.heap.get? b=some o->h'.get? b=some o)/\h'.get? s.heap.objs.size=some {cls:=.type "list",dict:=none,data:=.seq z c',slots:=#[]}/\z.toList.Perm (es.toList.map (·.2)))
  hh (hS.keep λo e=>X2 _ e) (Nat.ne_of_gt hlt) (.ref s.heap.objs.size) 0 hL
  (λh' tk d z c' hk U O=>⟨h',tk,d,z,c',rfl,rfl,λb o e=>hk b o (Yp (X3 e)) (X2 _ e),U,O⟩)
 refine Yx key (λfin s' x=>?_) λe s' x=>?_
 ·cases fin with
  |done f =>obtain⟨h',tk,d,z,c',e,rfl,hk,U,O⟩:=x;cases e;show wpAny _ A (load s.heap.objs.size >>= _) _ _ _;refine X0 (wpAny_load U ?_);exact X1 (h h' tk d z.toList (Nat.le_of_lt (X3 U)) hk O)
  |again c₁ =>refine⟨x.1,codeAny_mono x.2 λq s₂ y=>?_⟩;obtain⟨h',tk,d,z,c',rfl,rfl,hk,U,O⟩:=y;show wpAny _ A (load s.heap.objs.size >>= _) _ _ _;refine X0 (wpAny_load U ?_);exact X1 (h h' tk d z.toList (Nat.le_of_lt (X3 U)) hk O)
 ·obtain⟨_,_,_,_,_,e',_⟩:=x;cases e'
theorem Ah{S:Addr}{ks:List Key}{es:Z1}{ep:Nat}{t:SetTable}{Q:nT}(hh:A.handled=none)(O:gE prog w s.heap S ks es ep t)
  (h:∀(h':Heap)(tk:Nat)(d:Drawn)(vs:Z4),s.heap.objs.size<=h'.objs.size->(∀b o,s.heap.get? b=some o->h'.get? b=some o)->vs.Perm (es.toList.map (·.2))->
   wpAny (model prog w) A.in1 (call (.builtin "list.sort") [.ref h'.objs.size]) (λ_ s'=>Q (.ref h'.objs.size) s') E {s with heap:=h'.push (seqObj "list" vs.toArray 0),toks:=tk,drawn:=d}) :
  wpAny (model prog w) A (call (.builtin "sorted") [.ref S]) Q E s:=by
 refine Calls.call_function_entry kind_sorted plain_sorted entry_sorted (args_sorted1 _) ?_;unfold Builtin.«sorted»;refine X0 (m:=checkCount "sorted" 1 1 _) (X1 ?_);refine X0 (xH (A:=A.in1) hh O λh' tk d vs hz U z=>?_);have hl:vs.length<=sizeLine:=by rw[z.length_eq,X9,YU];exact fits_of_scanBound O.few
 refine X0 (wpAny_newList ?_ hl);refine X0 (Yy (Yx (h h' tk d vs hz U z) (λ_ s' x=>?_) λ_ _ e=>e));exact X1 ⟨_,rfl,x⟩
end
def Pf(x y:Str):Prop:=x.cps.toList<y.cps.toList
theorem CC:bootBuiltins "set"=some (.type "set"):=by kernel_rfl
theorem Mu{x y:Str}(h:¬y.cps.toList<x.cps.toList)(n:x≠y):Pf x y:=by unfold Pf;have z:x.cps.toList<=y.cps.toList:=List.not_lt.mp h;refine Decidable.byContradiction λh2=>n ?_;have O:y.cps.toList<=x.cps.toList:=List.not_lt.mp h2;have e:=List.le_antisymm z O;cases x;cases y;simp at e;subst e;rfl
theorem Ht{vs:Z4}{ss:List Str}(hS:StrsAre vs ss){xs:Array Keyed}(hp:xs.Perm (pairsOf vs))(hs:SortedToK strKind xs (pairsOf vs).size) :
  ∃U,StrsAre (xs.map (·.2)).toList U/\U.Perm ss/\U.Pairwise λa b=>¬b.cps.toList<a.cps.toList:=by
 have hl:xs.toList.Perm (vs.zip vs):=by rw[←pairsOf_toList];exact Array.perm_iff_toList_perm.mp hp
 have z:∀p,p∈xs.toList->p.1=p.2/\p.1∈vs:=λp O=>mem_zip_self (hl.mem_iff.mp O);refine⟨xs.toList.map (λp=>strOf p.1),?_,?_,?_⟩
 ·have e:(xs.map (·.2)).toList=xs.toList.map (·.1):=by rw[Array.toList_map];exact List.map_congr_left λp O=>(z p O).1.symm
  rw[e];have h1:=strsAre_map (xs.toList.map (·.1)) (by intro v hv;obtain⟨p,O,rfl⟩:=Yl.mp hv;exact hS.all _ (z p O).2)
  rwa[List.map_map]at h1
 ·have h1:=hl.map (λp=>strOf p.1);have e2:(vs.zip vs).map (λp=>strOf p.1)=ss:=by
   have:(vs.zip vs).map (λp=>strOf p.1)=((vs.zip vs).map Prod.fst).map strOf:=by rw[List.map_map];rfl
   rw[this,List.map_fst_zip (X5 _),hS.strs]
  rwa[e2]at h1
 ·rw[List.pairwise_iff_getElem];intro i j hi hj hij;have hi':i<xs.size:=by simpa using hi
  have hj':j<xs.size:=by simpa using hj
  have h1:=hs i j (Nat.le_of_lt hij) (by rw[←hp.size_eq];exact hj');obtain⟨x,t,ex⟩:=hS.all _ (z xs[i] (by simp)).2;obtain⟨y,u,ey⟩:=hS.all _ (z xs[j] (by simp)).2;rw[KK_str hi' (x:=x) (t:=t) (q:=xs[i].2) (Prod.ext ex rfl),KK_str hj' (x:=y) (t:=u) (q:=xs[j].2) (Prod.ext ey rfl)]at h1;change decide (y.cps.toList<x.cps.toList)=false at h1;simp only[List.getElem_map,Array.getElem_toList];rw[show strOf xs[i].1=x by rw[ex];rfl,show strOf xs[j].1=y by rw[ey];rfl];exact of_decide_eq_false h1
section
variable{prog:Program}{w:World}{A:Around}{E:nT}{s:Shared}
theorem BO{a:Addr}{vs:Z4}{ns:List Int}{Q:nT}(ho:s.heap.get? a=some (seqObj "list" vs.toArray 0))(hI:IntsAre vs ns)(U:vs.length<64)
  (h:∀(O:Array Value)(z:List Int),IntsAre O.toList z->z.Perm ns->z.Pairwise (·<=·)->Q .none {s with heap:=sortedHeap s.heap a vs O}):wpAny (model prog w) A (call (.builtin "list.sort") [.ref a]) Q E s :=
 YQ slot_list_sort ⟨_,ho,rfl⟩ entry_list_sort (list_sort_tree ho hI U λO z a1 a2 a3=>⟨_,rfl,h O z a1 a2 a3⟩) (args_list_sort _)
theorem BG{a:Addr}{vs:Z4}{ss:List Str}{Q:nT}(ho:s.heap.get? a=some (seqObj "list" vs.toArray 0))(U:StrsAre vs ss)(h64:vs.length<64)
  (h:∀(O:Array Value)(z:List Str),StrsAre O.toList z->z.Perm ss->(z.Pairwise λa b=>¬b.cps.toList<a.cps.toList)->Q .none {s with heap:=sortedHeap s.heap a vs O}):wpAny (model prog w) A (call (.builtin "list.sort") [.ref a]) Q E s :=
 YQ slot_list_sort ⟨_,ho,rfl⟩ entry_list_sort (list_sort_treeK strKind_oneLt ho U.keysOf (λv₁ v₂ rest e=>keyKind_strs (by rw[←e];exact U)) h64 λst' hp hs=>⟨_,rfl,by obtain⟨z,h1,h2,h3⟩:=Ht U hp hs;exact h _ z h1 h2 h3⟩) (args_list_sort _)
end
def sg(xs ys:List V):Prop :=
 (∃ns z:List Int,xs=ns.map V.int/\ys=z.map V.int/\z.Pairwise (· < ·)/\∀n,n∈z↔n∈ns)\/∃ns z:List Str,xs=ns.map V.str/\ys=z.map V.str/\z.Pairwise Pf/\∀n,n∈z↔n∈ns
def DS(K:YY)(te:TE):TE:=λσ H Q=>te σ H λx H1=>∃a xs,x=.ref a/\(bb K H1 a xs\/aX K H1 a xs)/\xs.length<64/\((∃ns:List Int,xs=ns.map V.int)\/∃ss:List Str,xs=ss.map V.str)/\
 ∀p ys,H1 p=none->sg xs ys->Q (.ref p) (upd H1 p (.lst ys))
theorem LY{O ms':List Int}(h:O.Pairwise (·<=·))(n:O.Nodup):O.Pairwise (· < ·):=by rw[List.pairwise_iff_getElem]at h⊢;intro i j hi U z;have h1:=h i j hi U z;have h2:=List.pairwise_iff_getElem.mp n i j hi U z;omega
theorem yE{ns:List Int}:∀{us:Z4},IntsAre us ns->Vals (ns.map V.int) us:=by
 induction ns with
 |nil=>intro us r;cases r;exact .nil
 |cons y ys z=>intro us r;cases r with|cons _ t r=>exact .cons ⟨t,rfl⟩ (z r)
theorem zh{ns:List Str}:∀{us:Z4},StrsAre us ns->Vals (ns.map V.str) us:=by
 induction ns with
 |nil=>intro us r;cases r;exact .nil
 |cons y ys z=>intro us r;cases r with|cons _ t r=>exact .cons ⟨t,rfl⟩ (z r)
def keyV:V->Key
 | .int n=>.inl n
 | .str x=>.inr x
 |_=>.inl 0
def lK(xs:List V)(i:Nat):Key:=((xs[i]?).map keyV).getD (.inl 0)
theorem ml{xs:List V}{k:Key}:k∈nv (lK xs) xs.length↔∃x∈xs,keyV x=k:=by
 rw[xP];constructor
 ·rintro⟨j,z,e⟩;refine⟨xs[j],List.getElem_mem z,?_⟩;unfold lK at e;rw[Yd z]at e;exact e
 ·rintro⟨x,O,e⟩;obtain⟨j,z,rfl⟩:=List.mem_iff_getElem.mp O;refine⟨j,z,?_⟩;unfold lK;rw[Yd z];exact e
theorem Ed{xs:List V}{z:Z4}(r:Vals xs z)(hx:∀x∈xs,(∃n,x=.int n)\/∃y,x=.str y)(i:Nat)(v:Value)(e:z.toArray[i]? = some v):iB (lK xs i) v=true/\v.scannable=true:=by
 have U:z[i]? = some v:=by simpa using e
 have hl:=r.length;have hi:i<xs.length:=by rw[hl];exact(Yj.mp U).1
 obtain⟨u,hu,O⟩:=r.get (Yd hi);rw[U]at hu;cases hu;have ek:lK xs i=keyV xs[i]:=by unfold lK;rw[Yd hi];rfl
 rw[ek];rcases hx xs[i] (List.getElem_mem hi)with⟨n,q⟩|⟨y,q⟩
 ·rw[q]at O⊢;obtain⟨t,rfl⟩:=O;exact⟨pd n t,rfl⟩
 ·rw[q]at O⊢;obtain⟨t,rfl⟩:=O;exact⟨pA y t,rfl⟩
section
variable{X:Cx}{e:Expr}{te:TE}{p1 p2 pos pos2:Pos}
theorem xh{ac:eN}{σ:St}{H:Hp}{s:Shared}{Q:VK}{S:Addr}{xs:List V}{es:Z1}{ep:Nat}{t:SetTable}(hc:X.calm=true)(I:Inv X ac σ H s)(hS:gE X.prog X.w s.heap S (nv (lK xs) xs.length) es ep t)(h64:xs.length<64)
  (hx:(∃ns:List Int,xs=ns.map V.int)\/∃ss:List Str,xs=ss.map V.str) (q:∀p ys,H p=none->sg xs ys->Q (.ref p) (upd H p (.lst ys))) :
  wpAny (model X.prog X.w) X.A (call (.builtin "sorted") [.ref S]) (EP X ac σ Q) X.xe s:=by
 refine Ah (I.ok.hd hc) hS λh' tk d vs hz hk hp=>?_;have hn:H h'.objs.size=none:=I.hok.fresh hz;have O:(vs.map Dc).Perm (nv (lK xs) xs.length):=by refine(hp.map Dc).trans ?_;rw[List.map_map];exact hS.keys
 have hlen:vs.length<64:=by have h1:=O.length_eq;have h2:=rp (lK xs) xs.length;rw[X9]at h1;omega
 have hel:∀v∈vs,∃k,iB k v=true/\k∈nv (lK xs) xs.length:=λv hv=>by obtain⟨e,he,rfl⟩:=Yl.mp (hp.mem_iff.mp hv);obtain⟨⟨k,hk',_⟩,_⟩:=hS.els e he;exact⟨k,hk',hS.mem.mp ⟨e,he,hk'⟩⟩
 have hob:(h'.push (seqObj "list" vs.toArray 0)).get? h'.objs.size=some (seqObj "list" vs.toArray 0):=X4 _ rfl;have fin:∀(ys:List V)(z:Array Value),Vals ys z.toList->ys.length<64->sg xs ys->EP X ac σ Q (.ref h'.objs.size) {s with heap:=sortedHeap (h'.push (seqObj "list" vs.toArray 0)) h'.objs.size vs z,toks:=tk,drawn:=d}:=λys z r hl so=>by
  have keep:∀b o,s.heap.get? b=some o->(sortedHeap (h'.push (seqObj "list" vs.toArray 0)) h'.objs.size vs z).get? b=some o:=λb o e=>by have hb:=hk b o e;have hlt:=X3 hb;rw[sortedHeap_old (Yp hlt) (by rw[size_push'];exact Nat.lt_succ_of_lt hlt)];exact X2 _ hb
  obtain⟨c,hat⟩ :∃c,(sortedHeap (h'.push (seqObj "list" vs.toArray 0)) h'.objs.size vs z).get? h'.objs.size=some (seqObj "list" z c):=sortedHeap_at hob;have hobj:cD X.prog X.w (upd H h'.objs.size (.lst ys)) (sortedHeap (h'.push (seqObj "list" vs.toArray 0)) h'.objs.size vs z) h'.objs.size (.lst ys):=⟨by rw[sizeLine_eq];omega,z.toList,c,r,by rw[hat]⟩;refine⟨.ref h'.objs.size,upd H h'.objs.size (.lst ys),?_,rfl,q _ _ hn so⟩;exact I.call' (s':={s with heap:=sortedHeap (h'.push (seqObj "list" vs.toArray 0)) h'.objs.size vs z,toks:=tk,drawn:=d}) (ch:=[]) rfl (Un.laid keep hz hn) (I.hok.laid keep hz hobj) I.bare λb hb=>YE hb (by simp)
 rcases hx with⟨ns,rfl⟩|⟨ss,rfl⟩
 ·have hint:∀v∈vs,∃n t,v=Value.int n t:=λv hv=>by
   obtain⟨k,hk1,hk2⟩:=hel v hv;obtain⟨x,hx,e⟩:=ml.mp hk2;obtain⟨n,hn',rfl⟩:=Yl.mp hx;subst e;rcases bP hk1 with⟨i,t,e1,e2⟩|⟨y,t,e1,e2⟩
   ·exact⟨i,t,e2⟩
   ·cases e1
  have hI:=intsAre_map vs hint;refine BO hob hI hlen λz U a1 a2 a3=>?_;have ek:vs.map Dc=(vs.map numOf).map Sum.inl:=by rw[List.map_map];refine List.map_congr_left λv hv=>?_;obtain⟨n,t,rfl⟩:=hint v hv;rfl
  have BP:U.Nodup:=by refine a2.nodup_iff.mpr ?_;have h1:=O.nodup_iff.mpr hS.Qi;rw[ek]at h1;exact(List.pairwise_map.mp h1).imp λhne e=>hne (congrArg _ e)
  refine fin (U.map V.int) z (yE a1) (by rw[X9,a2.length_eq,X9];exact hlen) (.inl ⟨ns,U,rfl,rfl,LY (ms':=[]) a3 BP,λn=>?_⟩);rw[a2.mem_iff];have:n∈vs.map numOf↔(Sum.inl n:Key)∈vs.map Dc:=by
   rw[ek];constructor
   ·exact λh=>Yl.mpr ⟨n,h,rfl⟩
   ·intro h;obtain⟨m,hm,e⟩:=Yl.mp h;cases e;exact hm
  rw[this,O.mem_iff,ml];constructor
  ·rintro⟨x,hx,e⟩;obtain⟨m,hm,rfl⟩:=Yl.mp hx;cases e;exact hm
  ·exact λh=>⟨.int n,Yl.mpr ⟨n,h,rfl⟩,rfl⟩
 ·have hstr:∀v∈vs,∃n t,v=Value.str n t:=λv hv=>by
   obtain⟨k,hk1,hk2⟩:=hel v hv;obtain⟨x,hx,e⟩:=ml.mp hk2;obtain⟨n,hn',rfl⟩:=Yl.mp hx;subst e;rcases bP hk1 with⟨i,t,e1,e2⟩|⟨y,t,e1,e2⟩
   ·cases e1
   ·exact⟨y,t,e2⟩
  have hI:=strsAre_map vs hstr;refine BG hob hI hlen λz U a1 a2 a3=>?_;have ek:vs.map Dc=(vs.map strOf).map Sum.inr:=by rw[List.map_map];refine List.map_congr_left λv hv=>?_;obtain⟨n,t,rfl⟩:=hstr v hv;rfl
  have BP:U.Nodup:=by refine a2.nodup_iff.mpr ?_;have h1:=O.nodup_iff.mpr hS.Qi;rw[ek]at h1;exact(List.pairwise_map.mp h1).imp λhne e=>hne (congrArg _ e)
  refine fin (U.map V.str) z (zh a1) (by rw[X9,a2.length_eq,X9];exact hlen) (.inr ⟨ss,U,rfl,rfl,?_,λn=>?_⟩)
  ·rw[List.pairwise_iff_getElem]at a3⊢;intro i j hi hj hij;exact Mu (a3 i j hi hj hij) (List.pairwise_iff_getElem.mp BP i j hi hj hij)
  rw[a2.mem_iff];have:n∈vs.map strOf↔(Sum.inr n:Key)∈vs.map Dc:=by
   rw[ek];constructor
   ·exact λh=>Yl.mpr ⟨n,h,rfl⟩
   ·intro h;obtain⟨m,hm,e⟩:=Yl.mp h;cases e;exact hm
  rw[this,O.mem_iff,ml];constructor
  ·rintro⟨x,hx,e⟩;obtain⟨m,hm,rfl⟩:=Yl.mp hx;cases e;exact hm
  ·exact λh=>⟨.str n,Yl.mpr ⟨n,h,rfl⟩,rfl⟩
theorem yC(hc:X.calm=true)(hg1:Gl X "sorted")(hm1:X.mg "sorted"=none)(hg2:Gl X "set")(hm2:X.mg "set"=none)(he:PE X e te)(U:starEach [e] X.env=[(false,eval e X.env)]:=by rfl)
  (hs2:starEach [Expr.Call (.Name "set" p2) [e] [] pos2] X.env=[(false,eval (.Call (.Name "set" p2) [e] [] pos2) X.env)]:=by rfl) :
  PE X (.Call (.Name "sorted" p1) [.Call (.Name "set" p2) [e] [] pos2] [] pos) (DS X.K te):=by
 intro ac s σ H Q I h;refine wpAny_Call_Name_kw (jT I hg1 hm1 boot_sorted ?_ (by decide) (by decide));refine PyProof.Rows.callWith_builtin1 ?_ hs2 rfl;rw[hs2];refine Calls.spliced_cons ?_;refine wpAny_Call_Name_kw (jT I hg2 hm2 CC ?_ (by decide) (by decide));refine PyProof.Rows.callWith_type1 ?_ U rfl;rw[U];refine Calls.spliced_cons (cu (he ac s σ H _ I h) λu s1 zz=>?_);obtain⟨x,H1,I1,r1,a,xs,ex,OC,h64,hx,q⟩:=zz;refine Calls.spliced_nil ?_;subst ex;cases r1;have hx':∀x∈xs,(∃n,x=.int n)\/∃y,x=.str y:=λx Ue=>by
  rcases hx with⟨ns,rfl⟩|⟨ss,rfl⟩
  ·obtain⟨n,_,rfl⟩:=Yl.mp Ue;exact .inl ⟨n,rfl⟩
  ·obtain⟨n,_,rfl⟩:=Yl.mp Ue;exact .inr ⟨n,rfl⟩
 have go:∀{T:String}{z:Z4}{o:Obj},vo X.prog X.w T a z.toArray->Vals xs z->s1.heap.get? a=some o->o.cls=.type T->(∃n,o.data=.seq z.toArray n)->
   wpAny (model X.prog X.w) X.A (call (.type "set") [.ref a]) (λv s2=>wpAny (model X.prog X.w) X.A (spliced []) (λvs s3=>wpAny (model X.prog X.w) X.A (call (.builtin "sorted") (v::vs)) (EP X ac σ Q) X.xe s3) X.xe s2) X.xe s1:=λ{T z o} src r ho O hd=>by
  have hl:=r.length;refine x2 (key:=lK xs) src (I1.ok.hd hc) ho O hd (Ed r hx') (by simp[scanBound];omega) λh' tk es ep t hS hk=>?_;refine Calls.spliced_nil ?_;have UB:z.toArray.size=xs.length:=by rw[Yi,hl]
  rw[UB]at hS;exact xh hc (I1.kept (t':=tk) hk) hS h64 hx q
 rcases OC with OC|OC
 ·obtain⟨z,r,pl,_⟩:=I1.list OC;obtain⟨o,ho,O,hd⟩:=pl.isList;exact go src_list r ho O hd
 ·obtain⟨z,r,pl,_⟩:=I1.tuple OC;obtain⟨o,ho,O,hd⟩:=pl;exact go Iu r ho O hd
end
end L2
namespace L2
open PySem
mutual
def Ia:D->Bool
 | .tup ds=>qt ds
 | .lst _=>false
 |_=>true
def qt:List D->Bool
 |[]=>true
 |d::ds=>Ia d&&qt ds
end
mutual
theorem a_.b_{K:YY}{H H':Hp}(k:∀a xs,aX K H a xs->aX K H' a xs):∀{d:D}{v:V},Ia d=true->a_ K H d v->a_ K H' d v
 | .int _,v,_,h=>by rw[a_]at h⊢;exact h
 | .str _,v,_,h=>by rw[a_]at h⊢;exact h
 | .non,v,_,h=>by rw[a_]at h⊢;exact h
 | .bl _,v,_,h=>by rw[a_]at h⊢;exact h
 | .tup ds,v,n,h=>by rw[a_]at h⊢;obtain⟨a,vs,e,h1,h2⟩:=h;exact⟨a,vs,e,k a vs h1,aK.b_ k (by simpa[Ia] using n) h2⟩
 | .lst ds,v,n,h=>by simp[Ia]at n
theorem aK.b_{K:YY}{H H':Hp}(k:∀a xs,aX K H a xs->aX K H' a xs):∀{ds:List D}{vs:List V},qt ds=true->aK K H ds vs->aK K H' ds vs
 |[],vs,_,h=>by rw[aK]at h⊢;exact h
 |d::ds,vs,n,h=>by rw[qt,YC]at n;rw[aK]at h⊢;obtain⟨v,r,e,h1,h2⟩:=h;exact⟨v,r,e,a_.b_ k n.1 h1,aK.b_ k n.2 h2⟩
end
theorem bt.fA{K:YY}{p a:Addr}{H H1:Hp}{xs:List V}(O:c5 H p)(g:bt p H H1)(h:aX K H a xs):aX K H1 a xs:=by
 obtain⟨x,y,e,_⟩:=O;rcases h with(h|⟨o,h⟩)|h
 ·exact .inl (.inl (g.keep _ _ (λz=>by rw[z,e]at h;cases h) h))
 ·exact .inl (.inr ⟨o,g.keep _ _ (λz=>by rw[z,e]at h;cases h) h⟩)
 ·exact .inr h
theorem a_.grow{K:YY}{p:Addr}{H H1:Hp}{d:D}{v:V}(z:c5 H p)(g:bt p H H1)(n:Ia d=true)(h:a_ K H d v):a_ K H1 d v:=h.b_ (λ_ _ q=>g.fA z q) n
theorem aK.grow{K:YY}{p:Addr}{H H1:Hp}{d:List D}{v:List V}(z:c5 H p)(g:bt p H H1)(n:qt d=true)(h:aK K H d v):aK K H1 d v:=h.b_ (λ_ _ q=>g.fA z q) n
theorem kX{ds:List D}:qt ds=true↔∀d∈ds,Ia d=true:=by
 induction ds with
 |nil=>simp[qt]
 |cons d ds z=>rw[qt,YC,z];simp
end L2
namespace My
open PySem L2
def top(i:Nat):Stmt:=PySem.Challenge.pw_rowpipes_k72_whole_facts_in_branches.main.body.getD i (.Pass ⟨0,0,0,0⟩)
abbrev Du:Stmt:=top 75
abbrev MF:Stmt:=top 76
abbrev EK:Stmt:=top 77
abbrev NZ:List Str:=["_law_script","_law_k"]
abbrev Rt:List Str:=["_law_script","_law_k","_law_cell"]
abbrev Ot:List Str:=["_law_pot_here","_law_many","_law_digit"]
theorem KR:ax NZ ZF (aq Du):=fs
theorem JO:ax Rt ZF (aq MF):=fs
theorem FU:ax Ot ZC (aq EK):=fs
structure j_(mg:Z0):Prop where
 len:mg "len"=none
 max:mg "max"=none
 abs:mg "abs"=none
 divmod:mg "divmod"=none
 range:mg "range"=none
 tuple:mg "tuple"=none
 list:mg "list"=none
 isinstance:mg "isinstance"=none
variable{P:Program}{w:World}{K:YY}{mg:Z0}{base:Heap}
theorem JD(B:j_ mg)(F:FA K mg "_law_cell_at" Du) :
  bz bx P w K mg base 1 "_law_cell_at" ZF (yZ K):=by
 refine F.ok KR λf cdv A outer s H vs Q E hr h=>?_;obtain⟨a,ns,k,rfl,O,h0,q⟩:=h;refine⟨_,ao (fi (ba DA (pv 1) (aP aM rfl B.len YW (aa (pv 0) ag))) (ay (jv fZ (pv 0) (pv 1) (λ_ _=>rfl))) dc)
  (ay aj),?_⟩
 refine⟨_,rfl,_,rfl,a,_,rfl,.inl O,_,_,rfl,rfl,_,rfl,?_⟩;refine fY (λc=>?_) (λc=>?_)
 ·have U:k<(((ns.map V.int).length:Nat):Int):=YD c;obtain⟨v,hv,hg⟩:=iL h0 U;rw[Yu]at hg;cases e:ns[k.toNat]? with
  |none=>rw[e]at hg;cases hg
  |some n =>rw[e]at hg;have z:V.int n=v:=Yr hg;subst z;exact⟨_,rfl,_,rfl,a,_,_,_,rfl,rfl,O,hv,q n⟩
 ·exact q 0
theorem LZ(B:j_ mg)(F:FA K mg "_law_pot" MF)(G:bz bx P w K mg base 1 "_law_cell_at" ZF (yZ K)) :
  bz bx P w K mg base 2 "_law_pot" ZF (Fy K):=by
 refine F.ok JO λf cdv A outer s H vs Q E O h=>?_;obtain⟨a,ns,k,rfl,U,h0,h1,q⟩:=h;refine⟨_,ao (aU (i:=2) JO.nd rfl (YI rfl) (aG G O (aa (pv 0) (aa (pv 1) ag))))
  (ay (bw (aa (aP (uy rfl) rfl B.max PyProof.Rows.boot_max (aa aj (aa (aL bN (pv 2) (aL Dn aj aj)) ag)))
   (aa (aL cw (aL rC (aL cw (aL cw (aP Fb rfl B.abs PyProof.Rows.boot_abs (aa (pv 2) ag)) (aL vc aj (pv 1))) aj) aj) aj) ag)))),?_⟩
 refine⟨_,rfl,_,rfl,a,ns,k,rfl,U,h0,λn=>?_⟩;refine⟨_,rfl,_,_,rfl,rfl,⟨by decide,by decide,by decide⟩,_,_,rfl,rfl,_,_,rfl,?_⟩;refine⟨_,rfl,_,rfl,_,rfl,_,_,rfl,rfl,.inl ⟨by decide,by decide⟩,_,_,rfl,rfl,_,_,rfl,rfl,_,_,rfl,rfl,(by show(0:Int)<2147483629;decide),_,_,rfl,rfl,cS,λp z=>?_⟩;refine q p _ z (ai z _) ⟨_,_,ae,?_,?_,?_⟩
 ·split<;>omega
 ·have:=Int.emod_nonneg ((if n<0 then -n else n)+7919*k+3) (show(2147483629:Int)≠0 by decide);omega
 ·have:=Int.emod_lt_of_pos ((if n<0 then -n else n)+7919*k+3) (show(0:Int)<2147483629 by decide);omega
theorem Jb(B:j_ mg)(F:FA K mg "_law_draw" EK) :
  bz bx P w K mg base 1 "_law_draw" ZC eA:=by
 refine F.ok FU λf cdv A outer s H vs Q E hr h=>?_;obtain⟨p,m,rfl,⟨a,b,z,ha,hb,hb'⟩,hm,U,q⟩:=h;refine⟨_,ao (fi (ba iO (jv fZ (pv 0) aj (λ_ _=>rfl)) aj)
   (ao (c8 (aP wj rfl B.divmod PyProof.Rows.boot_divmod (aa (jv fZ (pv 0) aj (λ_ _=>rfl)) (aa (pv 1) ag)))
    (bU rfl (ar (jL (pv 0) aj set_list) (ar (aQ (i:=2) FU.nd rfl (YI rfl)) bF))))
   (ay (pv 2))) dc)
  (ao (c8 (aL rC (aL cw (aL vc (jv fZ (pv 0) aj (λ_ _=>rfl)) aj) aj) aj) (jL (pv 0) aj set_list))
  (ay (aL rC (aL IY (aL rC (aL vc (jv fZ (pv 0) aj (λ_ _=>rfl)) (jv fZ (pv 0) aj (λ_ _=>rfl))) aj) aj) (pv 1)))),?_⟩
 refine⟨_,rfl,p,_,_,_,rfl,rfl,bb.of z,rfl,_,_,rfl,rfl,_,rfl,?_⟩;refine fY (λc=>?_) (λc=>?_)
 ·refine⟨_,rfl,p,_,_,_,rfl,rfl,bb.of z,rfl,_,rfl,_,_,rfl,⟨hm,U⟩,λt ht=>?_⟩;have np:p≠t:=aY z ht;refine⟨t,_,rfl,aX.of ae,rfl,_,_,rfl,_,rfl,p,_,_,0,rfl,rfl,(by rw[aI np];exact z),rfl,_,_,rfl,rfl,?_⟩;refine⟨_,rfl,q _ _ ⟨λc o O e=>?_,_,_,ae,Int.ediv_nonneg ha (by omega),hb,hb'⟩ (Int.emod_nonneg _ (by omega)) (Int.emod_lt_of_pos _ hm)⟩;rw[aI O,aI (aY e ht)];exact e
 ·have h1:=Int.emod_nonneg (b*48271+11) (show(2147483647:Int)≠0 by decide);have h2:=Int.emod_lt_of_pos (b*48271+11) (show(0:Int)<2147483647 by decide);refine⟨_,rfl,p,_,_,_,rfl,rfl,bb.of z,rfl,_,_,rfl,rfl,.inr ⟨by decide,by decide⟩,_,_,rfl,rfl,_,_,rfl,rfl,(by show(0:Int)<2147483647;decide),_,rfl,p,_,_,1,rfl,rfl,z,rfl,?_⟩;refine⟨_,rfl,p,_,_,_,rfl,rfl,bb.of ae,rfl,_,rfl,p,_,_,_,rfl,rfl,bb.of ae,rfl,_,_,rfl,rfl,.inl ⟨?_,?_⟩,_,_,rfl,rfl,(by show(0:Int)<2147483629;decide),_,_,rfl,rfl,⟨by decide,by decide⟩,_,rfl,_,_,rfl,rfl,hm,?_⟩
  ·have e:((2:Int) ^ 64)=18446744073709551616:=by decide
   rw[e];omega
  ·have e:((2:Int) ^ 64)=18446744073709551616:=by decide
   rw[e];omega
  ·exact q _ _ ⟨λc o O e=>by rw[aI O];exact e,_,_,ae,ha,h1,by omega⟩ (Int.emod_nonneg _ (by omega)) (Int.emod_lt_of_pos _ hm)
structure nM(mg:Z0):Prop where
 int:mg "int"=none
 min:mg "min"=none
 all:mg "all"=none
 sorted:mg "sorted"=none
 set:mg "set"=none
def nK(v:V):Prop:=(∃n,v=.int n)\/∃x,v=.str x
theorem cy{m:Int}(h0:0<m)(h1:m<=1000):m.natAbs.log2<9000:=Yb (Nat.log2_le_self _) (by omega)
theorem ig{j:Int}(h:0<=j)(h1:j<=1000):-(2 ^ 62)<=j/\j<2 ^ 62:=by
 have e:((2:Int) ^ 62)=4611686018427387904:=by decide
 rw[e];omega
theorem kN{p a:Addr}{H H':Hp}{xs:List V}(U:c5 H p)(g:bt p H H')(e:H a=some (.tup xs)):H' a=some (.tup xs):=g.keep _ _ (λz=>by obtain⟨x,y,O,_⟩:=U;rw[z,O]at e;cases e) e
def aE(H H':Hp):Prop:=∀a xs,H a=some (.tup xs)->H' a=some (.tup xs)
theorem aE.of{H H':Hp}(s:aH H H'):aE H H':=λ_ _ e=>s _ _ e
theorem aE.grow{p:Addr}{H H':Hp}(z:c5 H p)(g:bt p H H'):aE H H':=λa xs e=>kN z g e
abbrev Hd:=List Str
theorem ak{i:Nat}{v:V}{σ:St}{H:Hp}{k:St->Hp->Prop}(h:k (σ.set i (some v)) H):b9 i v σ H k:=h
theorem tZ{K:YY}{H:Hp}:∀ws:List Str,aK K H (ws.map D.str) (ws.map V.str)
 |[]=>aK.nil
 |w::ws=>aK.cons (iY w) (tZ ws)
theorem bg{H H':Hp}{D:Addr}{o:HO}(z:H D=none)(s:aH H H'):aH H (upd H' D o):=λb u e=>by rw[aI (aY e z)];exact s _ _ e
theorem take_one{α:Type}{ws:List α}{i:Nat}{w:α}(h:ws[i]? = some w):ws.take (i+1)=ws.take i++[w]:=by rw[List.take_add_one,h];rfl
theorem bR{D:Ends}{σ:St}{H:Hp}(h:D.nx σ H):uk D σ H:=h
def sW:V->Str
 | .str _=>"w"
 |_=>"n"
def bK(hd:Hd)(c:Int):Str:=hd.getD (c-1).toNat ""
inductive W1 where
 |keep (c:Int) (t:Str)
 |same (c d:Int)
 |cut (cs:List Int)
 |turn (c:Int) (ps:List (V×V))
 |must (c:Int) (ps:List (V×V))
 |walk (c:Int) (mv:List V)
 |sort (cs:List (Int×Bool))
 |apart
 |count (cs:List Int)
 |sum (cs:List Int) (c:Int)
 |number
 |first (n:Int)
inductive Wk where
 |one (x:W1)
 |both (p q:List Wk)
 |meet (c d:Int) (p q:List Wk)
def W1.nm:W1->Str
 | .keep ..=>"keep"
 | .same ..=>"same"
 | .cut ..=>"cut"
 | .turn ..=>"turn"
 | .must ..=>"must"
 | .walk ..=>"walk"
 | .sort ..=>"sort"
 | .apart=>"apart"
 | .count ..=>"count"
 | .sum ..=>"sum"
 | .number=>"number"
 | .first ..=>"first"
def Wk.nm:Wk->Str
 | .one x=>x.nm
 | .both ..=>"both"
 | .meet ..=>"meet"
structure cn{α:Type}(At:Hp->Addr->α->Prop)(H:Hp)(p:Addr)(bs:Z6)(xs:List α):Prop where
 tup:H p=some (.tup (bs.map V.ref))
 len:bs.length=xs.length
 at_:∀(i:Nat) a x,bs[i]? = some a->xs[i]? = some x->At H a x
theorem cn.keep{α:Type}{At:Hp->Addr->α->Prop}{H H':Hp}{p:Addr}{bs:Z6}{xs:List α}(k:aE H H')(U:∀a x,At H a x->At H' a x)(h:cn At H p bs xs):cn At H' p bs xs:=⟨k _ _ h.tup,h.len,λi a x z O=>U _ _ (h.at_ i a x z O)⟩
theorem cn.get{α:Type}{At:Hp->Addr->α->Prop}{H:Hp}{p:Addr}{bs:Z6}{xs:List α}(h:cn At H p bs xs){i:Nat}{x:V}(z:(bs.map V.ref)[i]? = some x):∃(a:Addr)(y:α),x=.ref a/\xs[i]? = some y/\At H a y:=by
 rw[Yu]at z;cases e:bs[i]? with
 |none=>rw[e]at z;cases z
 |some b =>
  rw[e]at z;have O:V.ref b=x:=Yr z;subst O;have hi:i<xs.length:=by rw[←h.len];exact(Yj.mp e).1
  have U:xs[i]? = some xs[i]:=Yd hi;exact⟨b,xs[i],rfl,U,h.at_ i b _ e U⟩
abbrev vF(H:Hp)(a:Addr)(p:V×V):Prop:=H a=some (.tup [p.1,p.2])
def IJ(H:Hp)(a:Addr)(v:V):Prop:=∃s t,H a=some (.tup [.str s,v,.str t])
abbrev Jr(H:Hp)(a:Addr)(e:Int×Bool):Prop:=H a=some (.tup [.int e.1,.bl e.2])
def h_(H:Hp)(a:Addr):W1->Prop
 | .keep c t=>∃s xs,H a=some (.tup [.str "keep",.int c,.ref s])/\H s=some (.tup (.str t::xs))
 | .same c d=>H a=some (.tup [.str "same",.int c,.int d])
 | .cut cs=>∃t,H a=some (.tup [.str "cut",.ref t])/\H t=some (.tup (cs.map V.int))
 | .turn c ps=>∃t bs,H a=some (.tup [.str "turn",.int c,.ref t])/\cn vF H t bs ps
 | .must c ps=>∃t bs,H a=some (.tup [.str "must",.int c,.ref t])/\cn vF H t bs ps
 | .walk c mv=>∃s t bs,H a=some (.tup [.str "walk",.int c,.str s,.ref t])/\cn IJ H t bs mv
 | .sort cs=>∃t bs,H a=some (.tup [.str "sort",.ref t])/\cn Jr H t bs cs
 | .apart=>H a=some (.tup [.str "apart"])
 | .count cs=>∃t,H a=some (.tup [.str "count",.ref t])/\H t=some (.tup (cs.map V.int))
 | .sum cs c=>∃t,H a=some (.tup [.str "sum",.ref t,.int c])/\H t=some (.tup (cs.map V.int))
 | .number=>H a=some (.tup [.str "number"])
 | .first n=>H a=some (.tup [.str "first",.int n])
theorem IJ.keep{H H':Hp}(k:aE H H'){a:Addr}{v:V}(h:IJ H a v):IJ H' a v:=by obtain⟨s,t,h⟩:=h;exact⟨s,t,k _ _ h⟩
theorem h_.keep{H H':Hp}{a:Addr}{x:W1}(k:aE H H')(h:h_ H a x):h_ H' a x:=by
 cases x with
 |keep c t=>obtain⟨s,xs,h1,h2⟩:=h;exact⟨s,xs,k _ _ h1,k _ _ h2⟩
 |same c d=>exact k _ _ h
 |cut cs=>obtain⟨t,h1,h2⟩:=h;exact⟨t,k _ _ h1,k _ _ h2⟩
 |turn c ps=>obtain⟨t,bs,h1,h2⟩:=h;exact⟨t,bs,k _ _ h1,h2.keep k λ_ _ z=>k _ _ z⟩
 |must c ps=>obtain⟨t,bs,h1,h2⟩:=h;exact⟨t,bs,k _ _ h1,h2.keep k λ_ _ z=>k _ _ z⟩
 |walk c mv=>obtain⟨s,t,bs,h1,h2⟩:=h;exact⟨s,t,bs,k _ _ h1,h2.keep k λ_ _ z=>z.keep k⟩
 |sort cs=>obtain⟨t,bs,h1,h2⟩:=h;exact⟨t,bs,k _ _ h1,h2.keep k λ_ _ z=>k _ _ z⟩
 |apart=>exact k _ _ h
 |count cs=>obtain⟨t,h1,h2⟩:=h;exact⟨t,k _ _ h1,k _ _ h2⟩
 |sum cs c=>obtain⟨t,h1,h2⟩:=h;exact⟨t,k _ _ h1,k _ _ h2⟩
 |number=>exact k _ _ h
 |first n=>exact k _ _ h
theorem h_.first{H:Hp}{a:Addr}{x:W1}(h:h_ H a x):∃xs,H a=some (.tup (.str x.nm::xs)):=by
 cases x with
 |keep c t=>obtain⟨s,xs,h1,h2⟩:=h;exact⟨_,h1⟩
 |same c d=>exact⟨_,h⟩
 |cut cs=>obtain⟨t,h1,h2⟩:=h;exact⟨_,h1⟩
 |turn c ps=>obtain⟨t,bs,h1,h2⟩:=h;exact⟨_,h1⟩
 |must c ps=>obtain⟨t,bs,h1,h2⟩:=h;exact⟨_,h1⟩
 |walk c mv=>obtain⟨s,t,bs,h1,h2⟩:=h;exact⟨_,h1⟩
 |sort cs=>obtain⟨t,bs,h1,h2⟩:=h;exact⟨_,h1⟩
 |apart=>exact⟨_,h⟩
 |count cs=>obtain⟨t,h1,h2⟩:=h;exact⟨_,h1⟩
 |sum cs c=>obtain⟨t,h1,h2⟩:=h;exact⟨_,h1⟩
 |number=>exact⟨_,h⟩
 |first n=>exact⟨_,h⟩
def dZ:Nat->Hp->Addr->Wk->Prop
 |_,H,a,.one x=>h_ H a x
 | 0,_,_,_=>False
 |n+1,H,a,.both p q=>∃b c bs cs,H a=some (.tup [.str "both",.ref b,.ref c])/\cn (dZ n) H b bs p/\cn (dZ n) H c cs q
 |n+1,H,a,.meet c d p q=>∃b e bs es,H a=some (.tup [.str "meet",.int c,.int d,.ref b,.ref e])/\cn (dZ n) H b bs p/\cn (dZ n) H e es q
abbrev jA(n:Nat)(H:Hp)(p:Addr)(ws:List Wk):Prop:=∃bs,cn (dZ n) H p bs ws
theorem dZ.keep{H H':Hp}(k:aE H H'):∀{n:Nat}{a:Addr}{x:Wk},dZ n H a x->dZ n H' a x
 | 0,a,.one x,h=>h_.keep k h
 |n+1,a,.one x,h=>h_.keep k h
 |n+1,a,.both p q,h=>by obtain⟨b,c,bs,cs,h1,h2,h3⟩:=h;exact⟨b,c,bs,cs,k _ _ h1,h2.keep k λ_ _ z=>z.keep k,h3.keep k λ_ _ z=>z.keep k⟩
 |n+1,a,.meet c d p q,h=>by obtain⟨b,e,bs,es,h1,h2,h3⟩:=h;exact⟨b,e,bs,es,k _ _ h1,h2.keep k λ_ _ z=>z.keep k,h3.keep k λ_ _ z=>z.keep k⟩
theorem dZ.first{H:Hp}:∀{n:Nat}{a:Addr}{x:Wk},dZ n H a x->∃xs,H a=some (.tup (.str x.nm::xs))
 | 0,a,.one x,h=>h_.first h
 |n+1,a,.one x,h=>h_.first h
 |n+1,a,.both p q,h=>by obtain⟨b,c,bs,cs,h1,_⟩:=h;exact⟨_,h1⟩
 |n+1,a,.meet c d p q,h=>by obtain⟨b,e,bs,es,h1,_⟩:=h;exact⟨_,h1⟩
theorem jA.keep{n:Nat}{H H':Hp}{p:Addr}{ws:List Wk}(k:aE H H')(h:jA n H p ws):jA n H' p ws:=by obtain⟨bs,h⟩:=h;exact⟨bs,h.keep k λ_ _ z=>z.keep k⟩
abbrev iH(H:Hp)(a:Addr)(h:Hd):Prop:=H a=some (.tup (h.map V.str))
structure oN(H:Hp)(l:Addr)(as:Z6)(hs:List Hd):Prop where
 lst:H l=some (.lst (as.map V.ref))
 len:as.length=hs.length
 at_:∀(i:Nat) a h,as[i]? = some a->hs[i]? = some h->iH H a h
theorem oN.same{H H':Hp}{l:Addr}{as:Z6}{hs:List Hd}(s:aH H H')(h:oN H l as hs):oN H' l as hs:=⟨s _ _ h.lst,h.len,λi a r z O=>s _ _ (h.at_ i a r z O)⟩
theorem oN.nth{H:Hp}{l:Addr}{as:Z6}{hs:List Hd}{i:Nat}{h:Hd}(x:oN H l as hs)(e:hs[i]? = some h):∃a,(as.map V.ref)[i]? = some (.ref a)/\iH H a h:=by
 have hi:i<as.length:=by rw[x.len];exact(Yj.mp e).1
 exact⟨as[i],by rw[Yu,Yd hi];rfl,x.at_ i _ _ (Yd hi) e⟩
theorem gW{hd:List Str}{c:Int}(h:1<=c/\c<=hd.length):xf (hd.map V.str) (c-1)=some (.str (bK hd c)):=by
 have hi:(c-1).toNat<hd.length:=by omega
 have e:(((c-1).toNat:Nat):Int)=c-1:=by omega
 have:=az (xs:=hd.map V.str) (j:=(c-1).toNat) (v:=.str (bK hd c)) (by rw[Yu,Yd hi];unfold bK;rw[List.getD_eq_getElem?_getD,Yd hi];rfl)
 rw[e]at this;exact this
def fU:W1->List Int
 | .keep c _=>[c]
 | .same c d=>[c,d]
 | .cut cs=>cs
 | .turn c _=>[c]
 | .must c _=>[c]
 | .walk c _=>[c]
 | .sort cs=>cs.map λe=>e.1
 | .count cs=>cs
 | .sum cs c=>cs++[c]
 |_=>[]
def m9:W1->Prop
 | .cut cs=>cs.length<=1000
 | .sort cs=>cs.length<=1000
 | .count cs=>cs.length<=1000
 | .sum cs _=>cs.length<=1000
 | .turn _ ps=>ps.length<=1000
 | .must _ ps=>ps.length<=1000
 | .walk _ mv=>mv.length<=1000
 |_=>True
def JV:W1->Prop
 | .turn _ ps=>∀p∈ps,nK p.1/\nK p.2
 | .must _ ps=>∀p∈ps,nK p.1/\nK p.2
 | .walk _ mv=>∀v∈mv,v=.non\/nK v
 |_=>True
end My
namespace L2
open PySem PySem.Spec PyProof.Rows
theorem AZ{ns:List Int}{O:Z4}(r:Vals (ns.map V.int) O){i:Nat}{v:Value}(h:O.toArray[i]? = some v):∃t,v=.int (ns.getD i 0) t:=by
 have h':O[i]? = some v:=by simpa using h
 have hi:=(Yj.mp h').1;have U:i<ns.length:=by have:=r.length;rw[X9]at this;omega
 obtain⟨u,e,ru⟩:=r.get (i:=i) (x:=.int ns[i]) (by rw[Yu,Yd U];rfl);rw[h']at e;cases e;obtain⟨t,z⟩:=ru;exact⟨t,by rw[z,List.getD_eq_getElem?_getD,Yd U];rfl⟩
end L2
namespace L2
open PySem
def RL(K:YY):List V->Hp->VK->Prop:=λxs H Q=>∃p ys,xs=[.ref p]/\(bb K H p ys\/aX K H p ys)/\Q (.int ys.length) H
variable{X:Cx}
end L2
namespace L2
open PySem PySem.Spec PyProof.Rows
variable{X:Cx}
def NX(K:YY)(n:String):List V->Hp->VK->Prop:=λxs H Q=>∃x t b,xs=[x,.ty n]/\o_ K H x t/\PySem.W.kitOne K t (.type n)=some b/\Q (.bl b) H
theorem oj{n:String}:gJ X (.builtin "isinstance") (NX X.K n):=by intro ac s σ H xs us Q I r h;obtain⟨x,t,b,rfl,ty,e,q⟩:=h;obtain⟨u,O,rfl,z,U⟩:=vals2 r;cases(show O=Value.type n from U);exact CI I z ty e λtk=>⟨.bl b,H,I.tok _,rfl,q⟩
def QM(K:YY)(ta tb:TE):TE:=λσ H Q=>ta σ H λx H1=>∃k,Nt K x H1 k/\if k=true then Q x H1 else tb σ H1 Q
theorem M5{a b:Expr}{ta tb:TE}{pos:Pos}(ha:PE X a ta)(hb:PE X b tb):PE X (.BoolOp .Or [a,b] pos) (QM X.K ta tb):=by
 intro ac s σ H Q I h;refine BoolOp_or (cu (ha ac s σ H _ I h) λv s1 z=>?_);obtain⟨x,H1,I1,O,k,hk,q1⟩:=z;refine cu (K3 ac s1 σ H1 x v (λb H2=>b=k/\H2=H1) I1 O ⟨k,hk,rfl,rfl⟩) λb s2 z=>?_;obtain⟨H2,U,e1,e2⟩:=z;subst e1 e2;cases b with
 |false=>exact jq hb ac s2 σ _ Q U q1
 |true=>exact⟨x,_,U,O,q1⟩
end L2
namespace L2
open PySem
inductive Ek(x:V)(y:V)(H:Hp)(Q:VK):Prop
 |mk a b xs ys (_:x=.ref a) (_:y=.ref b) (_:H a=some (.tup xs)) (_:H b=some (.tup ys)) (_:xs.length+ys.length<=sizeLine) (_:∀t H',aH H H'->H' t=some (.tup (xs++ys))->Q (.ref t) H'):Ek x y H Q
theorem cO{X:Cx}:kj X (binaryOp .Add) Ek:=by
 intro ac s σ H x y v u Q I rx U h;obtain⟨a,b,xs,ys,rfl,rfl,ha,O,hz,q⟩:=h;by_cases hx:xs=[]
 ·subst hx;exact xQ ac s σ H _ _ v u Q I rx U ⟨a,b,ys,rfl,rfl,aX.of ha,aX.of O,q b H (aH.refl _) O⟩
 ·exact BE ac s σ H _ _ v u Q I rx U ⟨a,b,xs,ys,rfl,rfl,aX.of ha,aX.of O,hx,hz,λz=>q a H (aH.refl _) (by rw[z,YO];exact ha),λ_ p hp=>q p _ (λb' u' e=>by rw[aI (aY e hp)];exact e) ae⟩
inductive Po(x:V)(lo:Option Int)(hi:Option Int)(H:Hp)(Q:VK):Prop
 |mk a xs (_:x=.ref a) (_:H a=some (.tup xs)) (_:∀t H',aH H H'->H' t=some (.tup (gI xs lo hi))->Q (.ref t) H'):Po x lo hi H Q
theorem iX{X:Cx}:Hj X Po:=by intro ac s σ H x v U vu lo hi sl Q I rx hs pl pu h;obtain⟨a,xs,rfl,O,q⟩:=h;exact(LX.or IW) ac s σ H _ v U vu lo hi sl Q I rx hs pl pu (Jc rfl (aX.of O) (λz=>q a H (aH.refl _) (by rw[z];exact O)) λp hp=>q p _ (λb' u' e=>by rw[aI (aY e hp)];exact e) ae)
theorem rq{xs:List V}{n:Nat}(h:n<=xs.length):gI xs none (some (n:Int))=xs.take n:=by unfold gI;rw[HT.Be,HT.wF];simp[Nat.min_eq_left h]
theorem xw{xs:List V}{n:Nat}(h:n<=xs.length):gI xs (some (n:Int)) none=xs.drop n:=by unfold gI;rw[HT.Be,HT.wF,Nat.min_eq_left h];exact List.take_of_length_le (by rw[List.length_drop];exact X5 _)
structure EO(X:Cx)(e:Expr)(t:TE):Prop where
 h:PE X e t
structure AO(X:Cx)(es:List Expr)(t:TA):Prop where
 h:PA X es t
structure SO(X:Cx)(sts:List Stmt)(t:TS):Prop where
 h:uA X sts t
section
variable{X:Cx}{a b e:Expr}{es:List Expr}{ta tb te:TE}{t:TA}{pos pos':Pos}
theorem bB:AO X [] ll:=⟨ag⟩
theorem au(ha:EO X e te)(z:AO X es t)(hs:starEach (e::es) X.env=(false,eval e X.env)::starEach es X.env:=by rfl):AO X (e::es) (c6 te t):=⟨aa ha.h z.h hs⟩
theorem An(h:AO X es t):EO X (.List es pos) (LJ t):=⟨bw h.h⟩
theorem bJ{x1}(h:AO X es t):EO X (.Tuple es x1 pos) (B5 t):=⟨aW h.h⟩
theorem uf{r:R2}(z:OR X r)(ha:EO X a ta)(O:EO X b tb)(hs:qO b):EO X (.Subscript a b pos) (eC r ta tb):=⟨jv z ha.h O.h hs⟩
theorem MN{i:Nat}{x:Str}{rest:List Stmt}{u:TS}(O:X.N.Nodup)(hi:X.N[i]? = some x)(z:Loc X.env.scope x)(U:EO X e te)(h2:SO X rest u)(hs:swapsWith e (some (.Name x pos')) pos.line X.env=pure false:=by rfl)(hf:X.fn x=true\/X.env.scope.names.lookup x=some .local:=by first|exact .inl rfl|exact .inr rfl|assumption) :
  SO X (.Assign [.Name x pos'] e pos::rest) (vI (yl te (b9 i)) u):=⟨ao (aU O hi z U.h hs hf) h2.h⟩
end
theorem Bc{X:Cx}{sts:List Stmt}{t:TS}{R:TS->Prop}(h:SO X sts t)(r:R t):∃t,uA X sts t/\R t:=⟨t,h.h,r⟩
theorem oU{t u:TT}{σ:St}{H:Hp}{Q:Bool->Hp->Prop}(h:t σ H λc H1=>if c=true then Q true H1 else u σ H1 Q):S0 t u σ H Q:=h
end L2
namespace L2
open PySem PySem.Spec PyProof.Rows
def cM(K:YY)(d:Addr)(key:Str)(f:Addr):Prop :=
 ∃(es:Array DictEntry)(ep:Nat)(i:Nat)(x:Int)(t:Tok),K.lookup d=some ⟨.type "dict",none,.dict es ep,#[]⟩/\es.all (λe=>isExactStrKey e.key)=true/\es.findIdx? (λe=>e.key.isStr key)=some i/\es[i]? = some ⟨x,.str key t,.ref f⟩
inductive Cc(K:YY)(x:V)(y:V)(H:Hp)(Q:VK):Prop
 |mk d k f (_:x=.ref d) (_:y=.str k) (_:cM K d k f) (_:Q (.ref f) H):Cc K x y H Q
section
variable{X:Cx}
theorem oB:OR X (Cc X.K):=by
 intro value U ac s σ H x y v u Q I rx ry h hs;obtain⟨d,k,f,rfl,rfl,⟨es,ep,i,hx,te,lk,ha,hi,he⟩,q⟩:=h;cases rx;obtain⟨t,rfl⟩:=ry;have z:s.heap.get? d=some ⟨.type "dict",none,.dict es ep,#[]⟩:=I.mY _ _ lk;have O:s.TypeIs (.ref d) "dict":=⟨_,z,rfl⟩;have fin:EP X ac σ Q (.ref f) {s with toks:=s.toks+1}:=⟨.ref f,H,I.kept (h':=s.heap) (t':=s.toks+1) λ_ _ e=>e,rfl,q⟩;refine subscriptTail_builtinR (x:=.ref f) O slot_dict_getitem.lookup ?_ hs;unfold getItem;try with_reducible refine Yy ?_
 refine X0 (wpAny_sequenceKey O (by decide) ?_);refine X0 (wpAny_callSpecial?_slot (name:=Str.ofString "__getitem__") O slot_dict_getitem
  (YQ slot_dict_getitem O entry_dict_getitem ?_ (args_dict_getitem _ _)))
 show wpAny _ _ (dictGet d (.str k t) >>= _) _ _ s;refine X0 ?_;unfold dictGet;try with_reducible refine Yy ?_
 refine X0 (wpAny_pyHash_str ?_);unfold dictFind;refine X0 ?_;try with_reducible refine Yy ?_
 refine X0 (wpAny_dictEntries (s:={s with toks:=s.toks+1}) z rfl ?_);dsimp only;rw[YG ha];unfold foundByValue;rw[hi];dsimp only;rw[he];dsimp only;refine X0 (wpAny_dictEpoch (s:={s with toks:=s.toks+1}) z rfl ?_);refine X0 (wpAny_eqBool_str ?_);refine X0 (wpAny_dictEpoch (s:={s with toks:=s.toks+1}) z rfl ?_);rw[YF (by simp),X8 rfl];refine X0 (wpAny_rule (X1 ?_));refine X0 (wpAny_dictEntries (s:={s with toks:=s.toks+1}) z rfl (X1 ?_));rw[he];refine X1 ⟨.ref f,rfl,X1 ⟨rfl,fin⟩⟩
def Mp(X:Cx)(CX:sQ)(k:Nat)(E:XK)(te:TE)(t:TA):TE:=λσ H Q=>te σ H λv H1=>∃f fd ps sp,v=.ref f/\f_ X.prog X.w X.K X.mg X.base CX k f fd ps sp/\PySem.W.keepIn X.K (.ref f)=true/\Binds X.K fd ps []/\t σ H1 λvs H2=>sp vs H2 Q E
variable{CX:sQ}{k:Nat}{E:XK}{x:Str}{p pos:Pos}{e:Expr}{es:List Expr}{te:TE}{t:TA}
theorem oR(hn:PE X (.Name x p) te)(hr:fV k X.A)(hx:Passes CX X E)(ha:PA X (e::es) t)
  (he:starEach (e::es) X.env=(false,eval e X.env)::starEach es X.env:=by rfl) (z:(backTo pos (starEach es X.env)).any (·.1)=false:=by rfl) :
  PE X (.Call (.Name x p) (e::es) [] pos) (Mp X CX k E te t):=by
 intro ac s σ H Q I h;refine wpAny_Call_Name_kw (cu (hn ac s σ H _ I h) λu s1 zz=>?_);obtain⟨v,H1,O,rv,f,fd,ps,sp,ev,F,hk,hb,q⟩:=zz;subst ev;cases rv;refine PySem.W.callWith_K (h₀:=X.base) O.ok.mod.Lk hk (cu (ha pos ac s1 σ H1 _ O q) λus s2 ⟨vs,H2,U,r,q2⟩=>⟨U.mY,?_⟩) he z;exact FT F hr hb .nil hx U r (by rw[YO];exact q2)
end
end L2
namespace My
open PySem L2
structure Fw(mg:Z0):Prop where
 str:mg "str"=none
 any:mg "any"=none
 zip:mg "zip"=none
 enumerate:mg "enumerate"=none
theorem sx{K:YY}{t:Value}(h:(t==t)=true):PySem.W.kitOne K t t=some true:=by unfold PySem.W.kitOne;exact YG h
def iM:Sp:=λvs H Q _=>∃v,vs=[v]/\nK v/\Q (.str (sW v)) H
abbrev pG:Stmt:=top 9
theorem Ax:ax ["cell"] ["cell"] (aq pG):=fs
variable{P:Program}{w:World}{K:YY}{mg:Z0}{base:Heap}
theorem BH(B:j_ mg)(O:Fw mg)(z:PySem.W.kitOne K (.type "int") (.type "str")=some false)(F:FA K mg "sort_of" pG) :
  bz bx P w K mg base 1 "sort_of" ["cell"] iM:=by
 refine F.ok Ax λf cdv A outer s H vs Q E U h=>?_;obtain⟨v,rfl,hv,q⟩:=h;refine⟨_,(ay (jx (je (aP (oj (n:="str")) rfl B.isinstance PyProof.Rows.boot_isinstance (aa (pv 0) (aa (rJ (n:="str") rfl O.str (by decide +kernel)) ag)))) aD aD)),?_⟩;rcases hv with⟨n,rfl⟩|⟨x,rfl⟩
 ·exact⟨_,rfl,_,_,false,rfl,.int n,z,_,rfl,cK q⟩
 ·exact⟨_,rfl,_,_,true,rfl,.str x,sx (by decide),_,rfl,cJ q⟩
inductive fD(ok:W1->Prop)(vs:List V)(H:Hp)(Q:VK)(E:XK):Prop
 |mk (a:Addr) (x:W1) (_:vs=[.ref a]) (_:h_ H a x) (_:ok x) (_:m9 x) (_:∀(u:Addr)(H':Hp),aH H H'->H' u=some (.tup ((fU x).map V.int))->Q (.ref u) H'):fD ok vs H Q E
def Q2(x:W1):Prop:=x=.apart\/x=.number\/∃n,x=.first n
def AD:Sp:=λvs H Q _=>∃v,vs=[v]/\∀(u:Addr)(H':Hp),aH H H'->H' u=some (.tup [])->Q (.ref u) H'
abbrev jW:Stmt:=top 13
theorem sO:ax Z8 Z8 (aq jW):=fs
theorem CZ(F:FA K mg "no_columns" jW) :
  bz bx P w K mg base 1 "no_columns" Z8 AD:=by
 refine F.ok sO λf cdv A outer s H vs Q E O h=>?_;have z:=fJ O;obtain⟨v,rfl,q⟩:=h;refine⟨_,(ay (aW ag)),?_⟩;exact⟨Yq _,λu z=>q u _ (ai z _) ae⟩
theorem Ge:∀vs H Q E,fD Q2 vs H Q E->AD vs H Q E:=by rintro vs H Q E ⟨a,x,rfl,_,z,_,q⟩;refine⟨_,rfl,λu H' s O=>q u H' s ?_⟩;rw[O];rcases z with rfl|rfl|⟨n,rfl⟩<;>rfl
def A2(x:W1):Prop:=∃c,(∃t,x=.keep c t)\/(∃ps,x=.turn c ps)\/(∃ps,x=.must c ps)\/∃mv,x=.walk c mv
theorem A2.at_{x:W1}{H:Hp}{a:Addr}(h:A2 x)(ha:h_ H a x):∃c y ys,H a=some (.tup (y :: .int c::ys))/\fU x=[c]:=by
 obtain⟨c,⟨t,rfl⟩|⟨ps,rfl⟩|⟨ps,rfl⟩|⟨mv,rfl⟩⟩:=h
 ·obtain⟨s,xs,h1,h2⟩:=ha;exact⟨c,_,_,h1,rfl⟩
 ·obtain⟨t,bs,h1,h2⟩:=ha;exact⟨c,_,_,h1,rfl⟩
 ·obtain⟨t,bs,h1,h2⟩:=ha;exact⟨c,_,_,h1,rfl⟩
 ·obtain⟨s,t,bs,h1,h2⟩:=ha;exact⟨c,_,_,h1,rfl⟩
abbrev j3:Stmt:=top 14
theorem tE:ax Z8 Z8 (aq j3):=fs
theorem BY(F:FA K mg "one_column" j3) :
  bz bx P w K mg base 1 "one_column" Z8 (fD A2):=by
 refine F.ok tE λf cdv A outer s H vs Q E O h=>?_;have z:=fJ O;obtain⟨a,x,rfl,ha,ho,hs,q⟩:=h;refine⟨_,(ay (aW (aa (aJ K (pv 0) aj) ag))),?_⟩;obtain⟨c,y,ys,h1,U⟩:=ho.at_ ha;refine⟨_,rfl,a,_,1,_,rfl,rfl,aX.of h1,az (j:=1) rfl,eG,λu z=>q u _ (ai z _) ?_⟩;rw[ae,U];rfl
def J6(x:W1):Prop:=∃c d,x=.same c d
abbrev i7:Stmt:=top 15
theorem rY:ax Z8 Z8 (aq i7):=fs
theorem yB(F:FA K mg "two_columns" i7) :
  bz bx P w K mg base 1 "two_columns" Z8 (fD J6):=by
 refine F.ok rY λf cdv A outer s H vs Q E U h=>?_;obtain⟨a,x,rfl,ha,O,hs,q⟩:=h;refine⟨_,(ay (dG iX (pv 0) (dQ aj) (dQ aj))),?_⟩;obtain⟨c,d,rfl⟩:=O;have h1:H a=some (.tup [.str "same",.int c,.int d]):=ha;exact⟨_,rfl,_,rfl,_,rfl,a,_,rfl,h1,λt H' s' z=>q t H' s' (by rw[z];rfl)⟩
def F2(x:W1):Prop:=∃cs,x=.cut cs\/x=.count cs
abbrev gk:Stmt:=top 16
theorem nX:ax Z8 Z8 (aq gk):=fs
theorem wO(F:FA K mg "listed_columns" gk) :
  bz bx P w K mg base 1 "listed_columns" Z8 (fD F2):=by
 refine F.ok nX λf cdv A outer s H vs Q E O h=>?_;obtain⟨a,x,rfl,ha,z,hs,q⟩:=h;refine⟨_,(ay (aJ K (pv 0) aj)),?_⟩;obtain⟨cs,rfl|rfl⟩:=z
 ·obtain⟨t,h1,h2⟩:=ha;exact⟨_,rfl,a,_,1,_,rfl,rfl,aX.of h1,rfl,q t H (aH.refl _) h2⟩
 ·obtain⟨t,h1,h2⟩:=ha;exact⟨_,rfl,a,_,1,_,rfl,rfl,aX.of h1,rfl,q t H (aH.refl _) h2⟩
def wb(x:W1):Prop:=∃cs,x=.sort cs
abbrev ir:Stmt:=top 17
theorem qu:ax Z8 Z8 (aq ir):=fs
theorem wH(B:j_ mg)(F:FA K mg "sort_columns" ir) :
  bz bx P w K mg base 1 "sort_columns" Z8 (fD wb):=by
 refine F.ok qu λf cdv A outer s H vs Q E hr h=>?_;have U:=fJ hr;obtain⟨a,x,rfl,ha,ho,hs,q⟩:=h;refine⟨_,(ay (bA bu rfl B.tuple YM (aa (bM (N':=["column","greatest_first"]) (src:=[none,none]) rfl (bq.jN (by kernel_rfl)) (cP (aJ K (pv 0) aj)) (g:=(n4 K 2 (cQ (b9 0) (cQ (b9 1) pC)))) (λcl C s H fp=>(bU rfl (ar (gg (i:=0)) (ar (gg (i:=1)) bF)))) (λcl C s H fp=>bD) (te:=(br 0)) (λcl C s H fp=>(gK 0))) ag))),?_⟩;obtain⟨cs,rfl⟩:=ho;obtain⟨t,bs,h1,z⟩:=ha;have hs:cs.length<=1000:=hs;have hl:(bs.map V.ref).length=cs.length:=by rw[X9,z.len]
 refine⟨_,rfl,a,_,1,_,rfl,rfl,aX.of h1,rfl,t,rfl,⟨_,aX.of z.tup⟩,λD O=>?_⟩;refine c_ (xs:=bs.map V.ref) (λi σ ys H'=>(∃o1 o2,σ=[o1,o2])/\ys=((cs.take i).map λe=>e.1).map V.int/\ys.length=i/\H' D=some (.lst ys)/\aH H H') ⟨⟨none,none,rfl⟩,rfl,rfl,ae,ai O _⟩ ?_ ?_ ?_ ?_ ?_
 ·rintro i σ ys H' _ ⟨_,_,hi,h,_⟩;exact⟨h,YR hi⟩
 ·rintro i σ ys H' _ ⟨_,_,_,_,sm⟩;exact aX.of (sm _ _ z.tup)
 ·rw[hl];exact X6 hs (by decide)
 ·rintro i x σ ys H' hx ⟨⟨o1,o2,rfl⟩,rfl,hi,h,sm⟩;obtain⟨b,c,rfl,ec,hb⟩:=z.get hx;refine⟨b,_,rfl,aX.of (sm _ _ hb),rfl,_,_,rfl,ak ⟨_,_,rfl,ak ⟨rfl,?_⟩⟩⟩;refine⟨_,rfl,h,⟨_,_,rfl⟩,?_,?_,ae,bg O sm⟩
  ·rw[List.take_add_one,ec,Ya,Ya];rfl
  ·rw[X_,hi];rfl
 ·rintro σ ys H' ⟨_,rfl,_,h,sm⟩;rw[hl,YJ]at h;exact⟨D,_,rfl,.inl ⟨bb.of h,λu U=>q u _ (sm.trans (ai U _)) ae⟩⟩
def JJ(x:W1):Prop:=∃cs c,x=.sum cs c
abbrev i6:Stmt:=top 18
theorem sh:ax Z8 Z8 (aq i6):=fs
theorem zq(F:FA K mg "sum_columns" i6) :
  bz bx P w K mg base 1 "sum_columns" Z8 (fD JJ):=by
 refine F.ok sh λf cdv A outer s H vs Q E hr h=>?_;have O:=fJ hr;obtain⟨a,x,rfl,ha,ho,hs,q⟩:=h;refine⟨_,(ay (aL cO (aJ K (pv 0) aj) (aW (aa (aJ K (pv 0) aj) ag)))),?_⟩;obtain⟨cs,c,rfl⟩:=ho;obtain⟨t,h1,h2⟩:=ha;have hs:cs.length<=1000:=hs;refine⟨_,rfl,a,_,1,_,rfl,rfl,aX.of h1,rfl,_,rfl,a,_,2,_,rfl,rfl,aX.of h1,rfl,eG,λu O=>?_⟩;have U:=ai O (.tup [.int c]);refine⟨t,u,_,_,rfl,rfl,U _ _ h2,ae,?_,λt' H' s' z=>q t' H' (U.trans s') ?_⟩
 ·rw[X9];exact X6 (show cs.length+1<=1001 by omega) (by decide)
 ·rw[z];show _=some (HO.tup ((cs++[c]).map V.int));rw[Ya];rfl
def there(c:Int)(h:Hd):Bool:=decide (1<=c)&&decide (c<=(h.length:Nat))
inductive qI(vs:List V)(H:Hp)(Q:VK)(E:XK):Prop
 |mk (c:Int) (a:Addr) (h:Hd) (_:vs=[.int c,.ref a]) (_:iH H a h) (_:Q (.bl (there c h)) H):qI vs H Q E
abbrev nE:Stmt:=top 20
theorem xo:ax ["column","head"] ["column","head"] (aq nE):=fs
theorem FJ(B:j_ mg)(F:FA K mg "is_there" nE) :
  bz bx P w K mg base 1 "is_there" ["column","head"] qI:=by
 refine F.ok xo λf cdv A outer s H vs Q E z h=>?_;obtain⟨c,a,h,rfl,ha,q⟩:=h;refine⟨_,(ay (DZ DU DU aj (pv 0) (aP aM rfl B.len YW (aa (pv 1) ag)))),?_⟩;refine⟨_,rfl,_,_,rfl,rfl,_,rfl,?_⟩;unfold there at q;refine fY (λk=>?_) (λk=>?_)
 ·rw[k]at q;refine⟨_,rfl,a,_,rfl,.inr (aX.of ha),_,_,rfl,rfl,?_⟩;rw[X9];rw[Bool.true_and]at q;exact q
 ·rw[Yn.mpr k]at q;exact q
def eX:Wk->List Hd->Bool
 | .one x,hs=>(fU x).all λc=>there c (hs.headD [])
 | .both ..,_=>true
 | .meet c d _ _,hs=>there c (hs.headD [])&&there d (hs.getD 1 [])
def DC:Wk->Nat
 | .one _=>1
 |_=>2
def nI:Wk->Prop
 | .one x=>m9 x
 |_=>True
inductive eF(n:Nat)(F:Wk->List Hd->Bool)(ok:Wk->List Hd->Prop)(vs:List V)(H:Hp)(Q:VK)(E:XK):Prop
 |mk (a l:Addr) (x:Wk) (as:Z6) (hs:List Hd) (_:vs=[.ref a,.ref l]) (_:dZ n H a x) (_:oN H l as hs) (_:hs.length=DC x) (_:nI x) (_:ok x hs) (_:∀H',aH H H'->Q (.bl (F x hs)) H'):eF n F ok vs H Q E
def Kp(P:Program)(w:World)(K:YY)(mg:Z0)(base:Heap)(aR:Addr)(L:Nat)(x:W1):Prop :=
 ∃(f:Addr)(fd:FuncData),cM K aR x.nm f/\f_ P w K mg base bx L f fd Z8 (fD λy=>y=x)/\PySem.W.keepIn K (.ref f)=true/\Binds K fd Z8 []
theorem cI{ok z:W1->Prop}(h:∀x,z x->ok x):∀vs H Q E,fD z vs H Q E->fD ok vs H Q E:=by rintro vs H Q E ⟨a,x,h1,h2,h3,h4,h5⟩;exact⟨a,x,h1,h2,h x h3,h4,h5⟩
theorem B6{aR:Addr}{f1 f2 f3 O f5 f6:Addr}
  (tk:cM K aR "keep" f2) (ts:cM K aR "same" f3) (tc:cM K aR "cut" O) (tt:cM K aR "turn" f2) (tm:cM K aR "must" f2) (tw:cM K aR "walk" f2) (to:cM K aR "sort" f5) (ta:cM K aR "apart" f1) (tn:cM K aR "count" O) (tu:cM K aR "sum" f6) (tb:cM K aR "number" f1) (tf:cM K aR "first" f1)
  (G0:FnAt P w K mg base 1 f1 Z8 AD) (z:FnAt P w K mg base 1 f2 Z8 (fD A2)) (G3:FnAt P w K mg base 1 f3 Z8 (fD J6)) (G4:FnAt P w K mg base 1 O Z8 (fD F2)) (G5:FnAt P w K mg base 1 f5 Z8 (fD wb)) (G6:FnAt P w K mg base 1 f6 Z8 (fD JJ)):∀x,Kp P w K mg base aR 1 x:=by
 obtain⟨d1,G0,b1,k1⟩:=G0;obtain⟨d2,z,U,k2⟩:=z;obtain⟨d3,G3,b3,k3⟩:=G3;obtain⟨d4,G4,b4,k4⟩:=G4;obtain⟨d5,G5,b5,k5⟩:=G5;obtain⟨d6,G6,b6,k6⟩:=G6;have G1:=G0.imp Ge;intro x;cases x with
 |keep c t=>exact⟨f2,d2,tk,z.imp (cI λ_ e=>⟨c,.inl ⟨t,e⟩⟩),k2,U⟩
 |same c d=>exact⟨f3,d3,ts,G3.imp (cI λ_ e=>⟨c,d,e⟩),k3,b3⟩
 |cut cs=>exact⟨O,d4,tc,G4.imp (cI λ_ e=>⟨cs,.inl e⟩),k4,b4⟩
 |turn c ps=>exact⟨f2,d2,tt,z.imp (cI λ_ e=>⟨c,.inr (.inl ⟨ps,e⟩)⟩),k2,U⟩
 |must c ps=>exact⟨f2,d2,tm,z.imp (cI λ_ e=>⟨c,.inr (.inr (.inl ⟨ps,e⟩))⟩),k2,U⟩
 |walk c mv=>exact⟨f2,d2,tw,z.imp (cI λ_ e=>⟨c,.inr (.inr (.inr ⟨mv,e⟩))⟩),k2,U⟩
 |sort cs=>exact⟨f5,d5,to,G5.imp (cI λ_ e=>⟨cs,e⟩),k5,b5⟩
 |apart=>exact⟨f1,d1,ta,G1.imp (cI λ_ e=>.inl e),k1,b1⟩
 |count cs=>exact⟨O,d4,tn,G4.imp (cI λ_ e=>⟨cs,.inr e⟩),k4,b4⟩
 |sum cs c=>exact⟨f6,d6,tu,G6.imp (cI λ_ e=>⟨cs,c,e⟩),k6,b6⟩
 |number=>exact⟨f1,d1,tb,G1.imp (cI λ_ e=>.inr (.inl e)),k1,b1⟩
 |first n=>exact⟨f1,d1,tf,G1.imp (cI λ_ e=>.inr (.inr ⟨n,e⟩)),k1,b1⟩
theorem dY{x:W1}{hs:List Hd}(h:hs.length=DC (.one x)):∃hd,hs=[hd]:=by
 cases hs with
 |nil=>cases h
 |cons hd r =>
  cases r with
  |nil=>exact⟨hd,rfl⟩
  |cons _ _=>cases h
theorem mq{hs:List Hd}(h:hs.length=2):∃h1 h2,hs=[h1,h2]:=by
 match hs,h with
 |[h1,h2],_=>exact⟨h1,h2,rfl⟩
theorem Cg{x:W1}(h:m9 x):(fU x).length<=1001:=by cases x<;>simp only[fU,X_,YB,List.length_nil,X9]<;>first|omega | (simp only[m9]at h;omega)
theorem O9{x:W1}:x.nm≠"meet"/\x.nm≠"both":=by cases x<;>(simp only[W1.nm];decide +kernel)
def uc:Wk->List Int
 | .one x=>fU x
 |_=>[]
inductive vn(n:Nat)(x:Wk)(vs:List V)(H:Hp)(Q:VK)(E:XK):Prop
 |mk (a:Addr) (_:vs=[.ref a]) (_:dZ n H a x) (_:nI x) (_:∀(u:Addr)(H':Hp),aH H H'->H' u=some (.tup ((uc x).map V.int))->Q (.ref u) H'):vn n x vs H Q E
def E6(P:Program)(w:World)(K:YY)(mg:Z0)(base:Heap)(aR:Addr)(n:Nat)(x:Wk):Prop :=
 ∃(f:Addr)(fd:FuncData),cM K aR x.nm f/\f_ P w K mg base bx 1 f fd Z8 (vn n x)/\PySem.W.keepIn K (.ref f)=true/\Binds K fd Z8 []
theorem c7{n:Nat}{H:Hp}{a:Addr}{x:W1}:dZ n H a (.one x)↔h_ H a x:=by cases n<;>exact Iff.rfl
theorem LB{P:Program}{w:World}{K:YY}{mg:Z0}{base:Heap}{aR f:Addr}{n:Nat}(h:∀x,Kp P w K mg base aR 1 x)(tb:cM K aR "both" f)(G:FnAt P w K mg base 1 f Z8 AD) :
  ∀x:Wk,x.nm≠"meet"->E6 P w K mg base aR n x:=by
 obtain⟨fd,G,b,k⟩:=G;intro x z;cases x with
 |one x =>obtain⟨g,O,h1,h2,h3⟩:=h x;refine⟨g,O,h1,h2.imp ?_,h3⟩;rintro vs H Q E ⟨a,rfl,ha,hs,q⟩;exact⟨a,x,rfl,c7.mp ha,rfl,hs,q⟩
 |both p q =>refine⟨f,fd,tb,G.imp ?_,k,b⟩;rintro vs H Q E ⟨a,rfl,ha,hs,q⟩;exact⟨_,rfl,q⟩
 |meet c d p q=>exact YE rfl z
theorem C3{x:Wk}(h:nI x):(uc x).length<=1001:=by
 cases x with
 |one x=>exact Cg h
 |both p q=>exact Yq _
 |meet c d p q=>exact Yq _
abbrev jo:Stmt:=top 21
theorem kZ:ax ["worker","heads","columns_of"] Z7 (aq jo):=fs
theorem BN{n:Nat}{aC:Addr}(B:j_ mg)(B2:nM mg)(mC:mg "COLUMNS_OF"=some (.ref aC))(GC:∀x:Wk,x.nm≠"meet"->E6 P w K mg base aC n x)(F:FA K mg "columns_fit" jo)
  (nH:bz bx P w K mg base 1 "is_there" ["column","head"] qI) :
  bz bx P w K mg base 2 "columns_fit" Z7 (eF n eX (λ_ _=>True)):=by
 refine F.ok kZ λf cdv A outer s H vs Q E O h=>?_;have hu:=fJ O;have z:=jF O;obtain⟨a,l,x,as,hs,rfl,ha,U,hn,hsm,XD,q⟩:=h;refine⟨_,(bE (ba bH (aJ K (pv 0) aj) aD) (kK (aG nH O (aa (aJ K (pv 0) aj) (aa (bf K (pv 1) aj) ag))) (jq (aG nH O (aa (aJ K (pv 0) aj) (aa (bf K (pv 1) aj) ag)))))
   (ao (aU (i:=2) kZ.nd rfl (YI rfl) (jv (r:=Cc K) oB (cZ rfl mC (show RelV (.ref aC) (.ref aC) from rfl)) (aJ K (pv 0) aj) (λ_ _=>rfl)))
   (ay (aP (ip rfl) rfl B2.all PyProof.Rows.boot_all (aa (bM (N':=["column","heads"]) (src:=[none,some 1]) rfl (bq.jN (by kernel_rfl)) (cP (oR (k:=1) (pv 2) O tY (aa (pv 0) ag))) (λcl C s H fp=>(gg (i:=0))) (λcl C s H fp=>bD) (te:=(lj qI [] E0 (c6 (br 0) (c6 (eC (iE K) (br 1) (tC (.int 0))) ll)))) (λcl C s H fp=>(aG (hg:=GJ) nH O (aa (gK 0) (aa (bf K (oH 1) aj) ag))))) ag))))),?_⟩
 obtain⟨xs,h1⟩:=ha.first;refine⟨_,rfl,a,_,0,_,rfl,rfl,aX.of h1,az (j:=0) rfl,rfl,_,rfl,fY (λk=>?_) (λk=>bR ?_)⟩
 ·have k:V.str x.nm=V.str "meet":=YD k;injection k with k;cases x with
  |one x=>exact YE k O9.1
  |both p q=>exact YE k (by show("both" : Str)≠"meet";decide +kernel)
  |meet c d p q' =>
  obtain⟨h0,h2,rfl⟩:=mq hn;obtain⟨a0,e0,lX⟩:=U.nth (i:=0) rfl;obtain⟨a1,e1,JP⟩:=U.nth (i:=1) rfl;cases n with
  |zero=>exact YK ha
  |succ n =>
  obtain⟨b,e,bs,es,h1,_⟩:=ha;refine⟨_,rfl,a,_,1,_,rfl,rfl,aX.of h1,rfl,_,rfl,l,_,0,_,rfl,rfl,bb.of U.lst,az (j:=0) e0,c,a0,h0,rfl,lX,_,rfl,?_⟩;have q:=q H (aH.refl _);have q:Q (.bl (there c h0&&there d h2)) H:=q;refine fY (λk=>?_) (λk=>?_)
  ·rw[k,Bool.true_and]at q;exact⟨_,rfl,a,_,2,_,rfl,rfl,aX.of h1,rfl,_,rfl,l,_,1,_,rfl,rfl,bb.of U.lst,az (j:=1) e1,d,a1,h2,rfl,JP,q⟩
  ·rw[Yn.mpr k]at q;exact q
 ·have hx:x.nm≠"meet":=λe=>k (X8 (by rw[e]));obtain⟨g,gd,GU,FG,kG,bG⟩:=GC x hx;refine⟨_,rfl,a,_,0,_,rfl,rfl,aX.of h1,az (j:=0) rfl,aC,x.nm,g,rfl,rfl,GU,ak ?_⟩;dsimp only;refine⟨_,rfl,g,gd,_,vn n x,rfl,FG,kG,bG,_,rfl,a,rfl,ha,hsm,λu H1 s1 z=>⟨u,rfl,⟨_,aX.of z⟩,λD hD=>?_⟩⟩;have hh:∃h0,hs[0]? = some h0/\hs.headD []=h0:=by
   cases hs with
   |nil=>cases x<;>cases hn
   |cons h0 r=>exact⟨h0,rfl,rfl⟩
  obtain⟨h0,V7,eh⟩:=hh;obtain⟨a0,e0,lX⟩:=U.nth V7;refine c_ (xs:=(uc x).map V.int) (λi σ ys H'=>(∃o,σ=[o,some (.ref l)])/\ys=(((uc x).take i).map λc=>there c h0).map V.bl/\ys.length=i/\H' D=some (.lst ys)/\aH H1 H') ⟨⟨none,rfl⟩,rfl,rfl,ae,ai hD _⟩ ?_ ?_ ?_ ?_ ?_
  ·rintro i σ ys H' _ ⟨_,_,hi,h,_⟩;exact⟨h,YR hi⟩
  ·rintro i σ ys H' _ ⟨_,_,_,_,sm⟩;exact aX.of (sm _ _ z)
  ·rw[X9];exact X6 (C3 hsm) (by decide)
  ·rintro i v σ ys H' hv ⟨⟨o,rfl⟩,rfl,hi,h,sm⟩;rw[Yu]at hv;cases ec:(uc x)[i]? with
   |none=>rw[ec]at hv;cases hv
   |some c =>
    rw[ec]at hv;have hv:V.int c=v:=Yr hv;subst hv;have s2:=s1.trans sm;refine⟨_,rfl,_,rfl,l,_,0,_,rfl,rfl,bb.of (s2 _ _ U.lst),az (j:=0) e0,c,a0,h0,rfl,s2 _ _ lX,h,⟨_,rfl⟩,?_,?_,ae,bg hD sm⟩
    ·rw[take_one ec,Ya,Ya];rfl
    ·rw[X_,hi];rfl
  ·rintro σ ys H' ⟨_,rfl,_,h,sm⟩;rw[X9,YJ]at h;refine⟨D,_,rfl,bb.of h,?_⟩;have e:eX x hs=((uc x).map λc=>there c h0).all id:=by
    cases x with
    |one x =>show(fU x).all (λc=>there c (hs.headD []))=_;rw[eh,List.all_map];rfl
    |both p q=>rfl
    |meet c d p q=>exact YE rfl hx
   rw[←e];exact q H' (s1.trans sm)
end My
namespace L2
open PySem
section
variable{g g2:TG}{tc we:TT}{te:TE}{wi2:TI}{D:Addr}{Q:VK}{N:St->List V->Hp->Prop}{sD:St}{H0:Hp}{R7:List V}{K:YY}{a:Addr}{xs:List V}
theorem yR(Pv:Nat->St->List V->Hp->Prop)(h0:Pv 0 sD [] H0)(hD:∀i σ ys H,i<=xs.length->Pv i σ ys H->H D=some (.lst ys))(hl:∀i σ ys H,i<=xs.length->Pv i σ ys H->bb K H a xs)
  (hs:∀i x σ ys H,xs[i]? = some x->Pv i σ ys H->g x σ H λO H2=>tc O H2 λb U=>if b=true then wi2 O U λJ2 H4=>∃W2:Nat->Nat->St->List V->Hp->Prop,(∃m,W2 0 m O ys H4)/\qV J2 g2 we te D (Pv (i+1)) W2 else Pv (i+1) O ys U)
  (hd:∀σ ys H,Pv xs.length σ ys H->Q (.ref D) H):∃W:Nat->Nat->St->List V->Hp->Prop,(∃m,W 0 m sD [] H0)/\vV (GB K a) g tc wi2 g2 we te D Q W:=by
 refine⟨λi m σ ys H=>m=xs.length-i/\i<=xs.length/\Pv i σ ys H,⟨xs.length,by simp,Yq _,h0⟩,?_⟩;rintro i m σ ys H ⟨rfl,hi,p⟩;have q:=hl i σ ys H hi p;refine⟨hD i σ ys H hi p,?_⟩;by_cases z:i<xs.length
 ·refine .inr ⟨⟨xs,xs[i],q,by simp[z]⟩,Pv (i+1),λσ' ys' H' p'=>⟨xs.length-(i+1),by omega,rfl,z,p'⟩,λx H' y=>?_⟩;obtain⟨e,y⟩:=y;subst e;exact hs i x σ ys _ (y xs q) p
 ·have e:i=xs.length:=by omega
  subst e;exact .inl ⟨⟨xs,q,X5 _⟩,hd σ ys H p⟩
end
end L2
namespace My
open PySem L2
def alike(s t:Str):Bool:=decide (s=t) && !decide (s="t")
inductive qM(vs:List V)(H:Hp)(Q:VK)(E:XK):Prop
 |mk (s t:Str) (_:vs=[.str s,.str t]) (_:Q (.bl (alike s t)) H):qM vs H Q E
theorem eQ(s t:Str):decide (V.str s=V.str t)=decide (s=t):=by
 by_cases e:s=t
 ·rw[e];simp
 ·rw[X7 e,X7 (λz=>e (V.str.inj z))]
abbrev gV:Stmt:=top 22
theorem pN:ax ["one","other"] ["one","other"] (aq gV):=fs
variable{P:Program}{w:World}{K:YY}{mg:Z0}{base:Heap}
theorem Ee{tk:Tok}(z:mg "TALLY"=some (.str "t" tk))(F:FA K mg "are_same_sort" gV) :
  bz bx P w K mg base 1 "are_same_sort" ["one","other"] qM:=by
 refine F.ok pN λf cdv A outer s H vs Q E O h=>?_;obtain⟨s1,t1,rfl,q⟩:=h;refine⟨_,(ay (kK (gH bH (pv 0) (pv 1)) (jq (gH xV (pv 0) (cZ (v:=.str "t") rfl z ⟨_,rfl⟩))))),?_⟩;unfold alike at q;refine⟨_,rfl,_,rfl,rfl,_,rfl,?_⟩;rw[eQ];refine fY (λk=>?_) (λk=>?_)
 ·rw[k,Bool.true_and,←eQ]at q;exact⟨_,rfl,rfl,q⟩
 ·rw[Yn.mpr k]at q;exact q
def iZ(vs:List V)(t:Str):Bool:=!decide (t="t")&&vs.all λv=>decide (sW v=t)
inductive iN(vs:List V)(H:Hp)(Q:VK)(E:XK):Prop
 |mk (l:Addr) (us:List V) (t:Str) (_:vs=[.ref l,.str t]) (_:H l=some (.lst us)) (_:us.length<=100000) (_:(∀v∈us,nK v)) (_:∀H',aH H H'->Q (.bl (iZ us t)) H'):iN vs H Q E
abbrev kH:Stmt:=top 23
theorem vZ:ax ZL ZL (aq kH):=fs
theorem xB{tk:Tok}(B2:nM mg)(mT:mg "TALLY"=some (.str "t" tk))(F:FA K mg "cells_fit" kH)
  (jw:bz bx P w K mg base 1 "sort_of" ["cell"] iM) :
  bz bx P w K mg base 2 "cells_fit" ZL iN:=by
 refine F.ok vZ λf cdv A outer s H vs Q E U h=>?_;obtain⟨l,us,t,rfl,O,hz,hc,q⟩:=h;refine⟨_,(ay (kK (gH xV (pv 1) (cZ (v:=.str "t") rfl mT ⟨_,rfl⟩)) (jq (aP (ip rfl) rfl B2.all PyProof.Rows.boot_all (aa (bM (N':=["cell","column_sort"]) (src:=[none,some 1]) rfl (bq.jN (by kernel_rfl)) (dg (pv 0)) (λcl C s H fp=>(gg (i:=0))) (λcl C s H fp=>bD) (te:=(eC Js (lj iM [] E0 (c6 (br 0) ll)) (br 1))) (λcl C s H fp=>(gH bH (aG (hg:=GJ) jw U (aa (gK 0) ag)) (oH 1)))) ag))))),?_⟩;unfold iZ at q;refine⟨_,rfl,rfl,_,rfl,?_⟩;rw[eQ];refine fY (λk=>?_) (λk=>?_)
 ·rw[k,Bool.true_and]at q;refine⟨_,rfl,l,rfl,⟨_,bb.of O⟩,λD z=>?_⟩;refine el (xs:=us) (λi σ ys H'=>(∃o,σ=[o,some (.str t)])/\ys=((us.take i).map λv=>decide (sW v=t)).map V.bl/\ys.length=i/\H' D=some (.lst ys)/\aH H H') ⟨⟨none,rfl⟩,rfl,rfl,ae,ai z _⟩ ?_ ?_ ?_ ?_ ?_
  ·rintro i σ ys H' _ ⟨_,_,hi,h,_⟩;exact⟨h,YR hi⟩
  ·rintro i σ ys H' _ ⟨_,_,_,_,sm⟩;exact bb.of (sm _ _ O)
  ·exact X6 hz (by decide)
  ·rintro i v σ ys H' hv ⟨⟨o,rfl⟩,rfl,hi,h,sm⟩;refine⟨_,rfl,v,rfl,hc v (Yf hv),_,rfl,rfl,h,⟨_,rfl⟩,?_,?_,ae,bg z sm⟩
   ·rw[take_one hv,Ya,Ya,eQ];rfl
   ·rw[X_,hi];rfl
  ·rintro σ ys H' ⟨_,rfl,_,h,sm⟩;rw[YJ]at h;refine⟨D,_,rfl,bb.of h,?_⟩;have e:(us.all λv=>decide (sW v=t))=(us.map λv=>decide (sW v=t)).all id:=by rw[List.all_map];rfl
   rw[←e];exact q H' sm
 ·rw[Yn.mpr k]at q;exact q H (aH.refl _)
def goodW:Wk->Prop
 | .one x=>JV x
 |_=>True
def j9(ss:List Str):Bool:=ss.all λs=>decide (s=ss.headD "")
def b_(t:Str):Str:=if t="t" then "n" else t
def bW:Wk->List Hd->Bool
 | .one (.keep c t),hs=>decide (t=b_ (bK (hs.headD []) c))
 | .one (.same c d),hs=>alike (bK (hs.headD []) c) (bK (hs.headD []) d)
 | .one (.turn c ps),hs=>iZ (ps.flatMap λp=>[p.1,p.2]) (bK (hs.headD []) c)
 | .one (.must c ps),hs=>j9 (ps.map λp=>sW p.2)&&iZ (ps.map λp=>p.1) (bK (hs.headD []) c)
 | .one (.walk c mv),hs=>iZ (mv.filter λv=>!decide (v=.non)) (bK (hs.headD []) c)
 | .one (.sum _ c),hs=>!decide (bK (hs.headD []) c="w")
 | .both ..,hs=>decide (hs.headD []=hs.getD 1 [])
 | .meet c d _ _,hs=>alike (bK (hs.headD []) c) (bK (hs.getD 1 []) d)
 |_,_=>true
def sE(k:Wk->Prop)(x:Wk)(hs:List Hd):Prop:=k x/\eX x hs=true/\goodW x
theorem mw{c:Int}{h:Hd}(e:there c h=true):1<=c/\c<=h.length:=by unfold there at e;simp only[YC,decide_eq_true_eq]at e;exact e
theorem fv{x:W1}{h:Hd}{c:Int}(e:eX (.one x) [h]=true)(z:c∈fU x):1<=c/\c<=h.length:=mw (List.all_eq_true.mp e c z)
abbrev lh:Stmt:=top 24
theorem n9:ax ["worker","heads","column_sort"] Z7 (aq lh):=fs
theorem wZ{n:Nat}{tk:Tok}(mT:mg "TALLY"=some (.str "t" tk))(F:FA K mg "keep_fits" lh) :
  bz bx P w K mg base 1 "keep_fits" Z7 (eF n bW (sE λx=>∃c t,x=.one (.keep c t))):=by
 refine F.ok n9 λf cdv A outer s H vs Q E hr h=>?_;obtain⟨a,l,x,as,hs,rfl,ha,z,hn,O,U,q⟩:=h;refine⟨_,(ao (aU (i:=2) n9.nd rfl (YI rfl) (aJ K (bf K (pv 1) aj) (aL bN (aJ K (pv 0) aj) aj)))
   (ay (gH bH (aJ K (aJ K (pv 0) aj) aj) (jx (ba bH (pv 2) (cZ (v:=.str "t") rfl mT ⟨_,rfl⟩)) aD (pv 2))))),?_⟩
 obtain⟨⟨c,t,rfl⟩,hf,hg⟩:=U;obtain⟨hd,rfl⟩:=dY hn;obtain⟨a0,e0,lX⟩:=z.nth (i:=0) rfl;obtain⟨st,xs,h1,h2⟩:=c7.mp ha;have hc:=fv hf (c:=c) (by simp[fU]);refine⟨_,rfl,l,_,0,_,rfl,rfl,bb.of z.lst,az (j:=0) e0,_,rfl,a,_,1,_,rfl,rfl,aX.of h1,rfl,_,_,rfl,rfl,a0,_,_,_,rfl,rfl,aX.of lX,gW hc,ak ?_⟩;dsimp only;refine⟨_,rfl,a,_,2,_,rfl,rfl,aX.of h1,rfl,st,_,0,_,rfl,rfl,aX.of h2,az (j:=0) rfl,_,rfl,rfl,_,rfl,?_⟩;have q:=q H (aH.refl _);have q:Q (.bl (decide (t=b_ (bK hd c)))) H:=q;unfold b_ at q;rw[eQ];refine fY (λk=>?_) (λk=>?_)
 ·rw[YG (YD k),←eQ]at q;exact⟨rfl,q⟩
 ·rw[YF (λe=>k (X8 e)),←eQ]at q;exact⟨_,rfl,rfl,q⟩
abbrev lV:Stmt:=top 25
theorem uL:ax Z7 Z7 (aq lV):=fs
theorem xA{n:Nat}(F:FA K mg "same_fits" lV)
  (gS:bz bx P w K mg base 1 "are_same_sort" ["one","other"] qM) :
  bz bx P w K mg base 2 "same_fits" Z7 (eF n bW (sE λx=>∃c d,x=.one (.same c d))):=by
 refine F.ok uL λf cdv A outer s H vs Q E hr h=>?_;obtain⟨a,l,x,as,hs,rfl,ha,O,hn,hsm,ho,q⟩:=h;refine⟨_,(ay (aG gS hr (aa (aJ K (bf K (pv 1) aj) (aL bN (aJ K (pv 0) aj) aj)) (aa (aJ K (bf K (pv 1) aj) (aL bN (aJ K (pv 0) aj) aj)) ag)))),?_⟩;obtain⟨⟨c,d,rfl⟩,hf,hg⟩:=ho;obtain⟨hd,rfl⟩:=dY hn;obtain⟨a0,e0,U⟩:=O.nth (i:=0) rfl;have h1:H a=some (.tup [.str "same",.int c,.int d]):=c7.mp ha;have hc:=fv hf (c:=c) (by simp[fU]);have z:=fv hf (c:=d) (by simp[fU]);refine⟨_,rfl,l,_,0,_,rfl,rfl,bb.of O.lst,az (j:=0) e0,_,rfl,a,_,1,_,rfl,rfl,aX.of h1,rfl,_,_,rfl,rfl,a0,_,_,_,rfl,rfl,aX.of U,gW hc,?_⟩;exact⟨_,rfl,l,_,0,_,rfl,rfl,bb.of O.lst,az (j:=0) e0,_,rfl,a,_,2,_,rfl,rfl,aX.of h1,rfl,_,_,rfl,rfl,a0,_,_,_,rfl,rfl,aX.of U,gW z,_,_,rfl,q H (aH.refl _)⟩
abbrev nh:Stmt:=top 29
theorem x9:ax Z7 Z7 (aq nh):=fs
theorem yz{n:Nat}(F:FA K mg "sum_fits" nh) :
  bz bx P w K mg base 1 "sum_fits" Z7 (eF n bW (sE λx=>∃cs c,x=.one (.sum cs c))):=by
 refine F.ok x9 λf cdv A outer s H vs Q E hr h=>?_;obtain⟨a,l,x,as,hs,rfl,ha,z,hn,O,U,q⟩:=h;refine⟨_,(ay (gH xV (aJ K (bf K (pv 1) aj) (aL bN (aJ K (pv 0) aj) aj)) aD)),?_⟩;obtain⟨⟨cs,c,rfl⟩,hf,hg⟩:=U;obtain⟨hd,rfl⟩:=dY hn;obtain⟨a0,e0,lX⟩:=z.nth (i:=0) rfl;obtain⟨t,h1,h2⟩:=c7.mp ha;have hc:=fv hf (c:=c) (by simp[fU]);have q:=q H (aH.refl _);have q:Q (.bl (!decide (bK hd c="w"))) H:=q;rw[←eQ]at q;exact⟨_,rfl,l,_,0,_,rfl,rfl,bb.of z.lst,az (j:=0) e0,_,rfl,a,_,2,_,rfl,rfl,aX.of h1,rfl,_,_,rfl,rfl,a0,_,_,_,rfl,rfl,aX.of lX,gW hc,rfl,q⟩
abbrev l7:Stmt:=top 31
theorem vU:ax Z7 Z7 (aq l7):=fs
theorem yi{n:Nat}(F:FA K mg "meet_fits" l7)
  (gS:bz bx P w K mg base 1 "are_same_sort" ["one","other"] qM) :
  bz bx P w K mg base 2 "meet_fits" Z7 (eF n bW (sE λx=>∃c d p q,x=.meet c d p q)):=by
 refine F.ok vU λf cdv A outer s H vs Q E U h=>?_;obtain⟨a,l,x,as,hs,rfl,ha,O,hn,hsm,ho,q⟩:=h;refine⟨_,(ay (aG gS U (aa (aJ K (bf K (pv 1) aj) (aL bN (aJ K (pv 0) aj) aj)) (aa (aJ K (bf K (pv 1) aj) (aL bN (aJ K (pv 0) aj) aj)) ag)))),?_⟩;obtain⟨⟨c,d,p1,p2,rfl⟩,z,hg⟩:=ho;obtain⟨h0,h2,rfl⟩:=mq hn;obtain⟨a0,e0,lX⟩:=O.nth (i:=0) rfl;obtain⟨a1,e1,JP⟩:=O.nth (i:=1) rfl;cases n with
 |zero=>exact YK ha
 |succ n =>
 obtain⟨b,e,bs,es,h1,_⟩:=ha;have z:(there c h0&&there d h2)=true:=z;rw[YC]at z;refine⟨_,rfl,l,_,0,_,rfl,rfl,bb.of O.lst,az (j:=0) e0,_,rfl,a,_,1,_,rfl,rfl,aX.of h1,rfl,_,_,rfl,rfl,a0,_,_,_,rfl,rfl,aX.of lX,gW (mw z.1),?_⟩;exact⟨_,rfl,l,_,1,_,rfl,rfl,bb.of O.lst,az (j:=1) e1,_,rfl,a,_,2,_,rfl,rfl,aX.of h1,rfl,_,_,rfl,rfl,a1,_,_,_,rfl,rfl,aX.of JP,gW (mw z.2),_,_,rfl,q H (aH.refl _)⟩
theorem DB(s t:List Str):dj (.tup (s.map D.str)) (.tup (t.map D.str))=decide (s=t):=by
 have gen:∀s t:List Str,gR (s.map D.str) (t.map D.str)=decide (s=t):=by
  intro s;induction s with
  |nil=>intro t;cases t<;>simp[gR]
  |cons x s U =>
   intro t;cases t with
   |nil=>simp[gR]
   |cons y t =>rw[YT,YT,gR,U t];by_cases z:x=y<;>by_cases O:s=t<;>simp[dj,z,O]
 rw[dj,gen]
theorem JQ{K:YY}{H:Hp}{a:Addr}{h:Hd}(e:iH H a h):a_ K H (.tup (h.map D.str)) (.ref a):=cY e (tZ h)
theorem zb(h:List Str):(D.tup (h.map D.str)).depth<=1:=by
 rw[D.depth];have:cG (h.map D.str)<=0:=by
  induction h with
  |nil=>rw[List.map_nil,cG];exact X5 _
  |cons x h z=>rw[YT,cG];exact Nat.max_le.mpr ⟨by simp[D.depth],z⟩
 omega
abbrev k_:Stmt:=top 30
theorem vw:ax Z7 Z7 (aq k_):=fs
theorem xS{n:Nat}(F:FA K mg "both_fits" k_) :
  bz bx P w K mg base 1 "both_fits" Z7 (eF n bW (sE λx=>∃p q,x=.both p q)):=by
 refine F.ok vw λf cdv A outer s H vs Q E O h=>?_;have hu:=fJ O;obtain⟨a,l,x,as,hs,rfl,ha,z,hn,U,ho,q⟩:=h;refine⟨_,(ay (gH zg (bf K (pv 1) aj) (bf K (pv 1) aj))),?_⟩;obtain⟨⟨p1,p2,rfl⟩,hf,hg⟩:=ho;obtain⟨h0,h2,rfl⟩:=mq hn;obtain⟨a0,e0,lX⟩:=z.nth (i:=0) rfl;obtain⟨a1,e1,JP⟩:=z.nth (i:=1) rfl;refine⟨_,rfl,l,_,0,_,rfl,rfl,bb.of z.lst,az (j:=0) e0,_,rfl,l,_,1,_,rfl,rfl,bb.of z.lst,az (j:=1) e1,_,_,JQ lX,JQ JP,?_,?_⟩
 ·exact Yb (Nat.add_le_add_left (X6 (zb h0) (by decide:1<=8)) _) hu
 ·rw[DB];exact q H (aH.refl _)
end My
namespace L2
open PySem
section
variable{g g2:TG}{tc we:TT}{te:TE}{wi2:TI}{D:Addr}{Q:VK}{N:St->List V->Hp->Prop}{sD:St}{H0:Hp}{R7:List V}{K:YY}{a:Addr}{xs:List V}
theorem ur(Pv:Nat->St->List V->Hp->Prop)(h0:Pv 0 sD [] H0)(hD:∀i σ ys H,i<=xs.length->Pv i σ ys H->H D=some (.lst ys))(hl:∀i σ ys H,i<=xs.length->Pv i σ ys H->aX K H a xs)
  (hs:∀i x σ ys H,xs[i]? = some x->Pv i σ ys H->g x σ H λO H2=>tc O H2 λb U=>if b=true then wi2 O U λJ2 H4=>∃W2:Nat->Nat->St->List V->Hp->Prop,(∃m,W2 0 m O ys H4)/\qV J2 g2 we te D (Pv (i+1)) W2 else Pv (i+1) O ys U)
  (hd:∀σ ys H,Pv xs.length σ ys H->Q (.ref D) H):∃W:Nat->Nat->St->List V->Hp->Prop,(∃m,W 0 m sD [] H0)/\vV (Gx K a) g tc wi2 g2 we te D Q W:=by
 refine⟨λi m σ ys H=>m=xs.length-i/\i<=xs.length/\Pv i σ ys H,⟨xs.length,by simp,Yq _,h0⟩,?_⟩;rintro i m σ ys H ⟨rfl,hi,p⟩;have q:=hl i σ ys H hi p;refine⟨hD i σ ys H hi p,?_⟩;by_cases z:i<xs.length
 ·refine .inr ⟨⟨xs,xs[i],q,by simp[z]⟩,Pv (i+1),λσ' ys' H' p'=>⟨xs.length-(i+1),by omega,rfl,z,p'⟩,λx H' y=>?_⟩;obtain⟨e,y⟩:=y;subst e;exact hs i x σ ys _ (y xs q) p
 ·have e:i=xs.length:=by omega
  subst e;exact .inl ⟨⟨xs,q,X5 _⟩,hd σ ys H p⟩
theorem oZ(Pv:Nat->St->List V->Hp->Prop)(h0:Pv 0 sD R7 H0)(U:∀i σ ys H,i<=xs.length->Pv i σ ys H->H D=some (.lst ys)/\(i<xs.length->ys.length<sizeLine))(hl:∀i σ ys H,i<=xs.length->Pv i σ ys H->aX K H a xs)
  (hs:∀i x σ ys H,xs[i]? = some x->Pv i σ ys H->g x σ H λO H2=>tc O H2 λb H3=>if b=true then te O H3 λv H4=>H4 D=some (.lst ys)/\Pv (i+1) O (ys++[v]) (upd H4 D (.lst (ys++[v])))else Pv (i+1) O ys H3)
  (hd:∀σ ys H,Pv xs.length σ ys H->N σ ys H):∃W:Nat->Nat->St->List V->Hp->Prop,(∃m,W 0 m sD R7 H0)/\qV (Gx K a) g tc te D N W:=by
 refine⟨λi m σ ys H=>m=xs.length-i/\i<=xs.length/\Pv i σ ys H,⟨xs.length,by simp,Yq _,h0⟩,?_⟩;rintro i m σ ys H ⟨rfl,hi,p⟩;have q:=hl i σ ys H hi p;refine⟨(U i σ ys H hi p).1,?_⟩;by_cases z:i<xs.length
 ·refine .inr ⟨⟨xs,xs[i],q,by simp[z]⟩,(U i σ ys H hi p).2 z,Pv (i+1),λσ' ys' H' p'=>⟨xs.length-(i+1),by omega,rfl,z,p'⟩,λx H' y=>?_⟩;obtain⟨e,y⟩:=y;subst e;exact hs i x σ ys _ (y xs q) p
 ·have e:i=xs.length:=by omega
  subst e;exact .inl ⟨⟨xs,q,X5 _⟩,hd σ ys H p⟩
end
end L2
namespace My
open PySem L2
abbrev kM:Stmt:=top 26
theorem vq:ax Z7 Z7 (aq kM):=fs
variable{P:Program}{w:World}{K:YY}{mg:Z0}{base:Heap}
theorem xj{n:Nat}(F:FA K mg "turn_fits" kM)
  (gG:bz bx P w K mg base 2 "cells_fit" ZL iN) :
  bz bx P w K mg base 3 "turn_fits" Z7 (eF n bW (sE λx=>∃c ps,x=.one (.turn c ps))):=by
 refine F.ok vq λf cdv A outer s H vs Q E hr h=>?_;have hu:=fJ hr;obtain⟨a,l,x,as,hs,rfl,ha,hL,hn,hsm,ho,q⟩:=h;refine⟨_,(ay (aG gG hr (aa (uI (N':=["pair","cell"]) (src:=[none,none]) rfl (bq.jN (by kernel_rfl)) (cP (aJ K (pv 0) aj)) (λcl C s H fp=>(gg (i:=0))) (λcl C s H fp=>bD) (wi2:=(HW K (br 0))) (λcl C s H fp=>(cP (gK 0))) (λcl C s H fp=>(gg (i:=1))) (λcl C s H fp=>bD) (te:=(br 1)) (λcl C s H fp=>(gK 1))) (aa (aJ K (bf K (pv 1) aj) (aL bN (aJ K (pv 0) aj) aj)) ag)))),?_⟩;obtain⟨⟨c,ps,rfl⟩,hf,hg⟩:=ho;obtain⟨hd,rfl⟩:=dY hn;obtain⟨a0,e0,lX⟩:=hL.nth (i:=0) rfl;obtain⟨t,bs,h1,O⟩:=c7.mp ha;have hc:=fv hf (c:=c) (by simp[fU]);have hz:ps.length<=1000:=hsm;have hg:∀p∈ps,nK p.1/\nK p.2:=hg;have hlb:(bs.map V.ref).length=ps.length:=by rw[X9,O.len]
 refine⟨_,rfl,a,_,2,_,rfl,rfl,aX.of h1,rfl,t,rfl,⟨_,aX.of O.tup⟩,λD hD=>?_⟩;refine ur (xs:=bs.map V.ref) (λi σ ys H'=>(∃o1 U,σ=[o1,U])/\ys=(ps.take i).flatMap (λp=>[p.1,p.2])/\ys.length=2*i/\H' D=some (.lst ys)/\aH H H') ⟨⟨none,none,rfl⟩,rfl,rfl,ae,ai hD _⟩ ?_ ?_ ?_ ?_
 ·rintro i σ ys H' _ ⟨_,_,_,h,_⟩;exact h
 ·rintro i σ ys H' _ ⟨_,_,_,_,sm⟩;exact aX.of (sm _ _ O.tup)
 ·rintro i v σ ys H' hv ⟨⟨o1,U,rfl⟩,rfl,hi,h,sm⟩;obtain⟨b,p,rfl,ep,hb⟩:=O.get hv;have hib:i<1000:=by have:=(Yj.mp ep).1;omega
  refine ak ⟨_,rfl,b,rfl,⟨_,aX.of (sm _ _ hb)⟩,?_⟩;refine oZ (xs:=[p.1,p.2]) (λj σ zs H2=>(∃o,σ=[some (.ref b),o])/\zs=(ps.take i).flatMap (λp=>[p.1,p.2])++[p.1,p.2].take j/\zs.length=2*i+j/\H2 D=some (.lst zs)/\aH H H2) ⟨⟨U,rfl⟩,by rw[List.take_zero,YO],hi,h,sm⟩ ?_ ?_ ?_ ?_
  ·rintro j σ zs H2 hj ⟨_,_,z,h2,_⟩;refine⟨h2,λ_=>?_⟩;rw[z];exact Yb (show 2*i+j<=3000 by have:j<=2:=hj;omega) (by decide)
  ·rintro j σ zs H2 _ ⟨_,_,_,_,s2⟩;exact aX.of (s2 _ _ hb)
  ·rintro j u σ zs H2 hu' ⟨⟨o,rfl⟩,rfl,z,h2,s2⟩;refine ak ⟨_,rfl,h2,⟨_,rfl⟩,?_,?_,ae,bg hD s2⟩
   ·rw[take_one hu',List.append_assoc]
   ·rw[X_,z];rfl
  ·rintro σ zs H2 ⟨⟨o,rfl⟩,rfl,z,h2,s2⟩;refine⟨⟨_,_,rfl⟩,?_,by rw[z];show 2*i+2=_;omega,h2,s2⟩;rw[take_one ep,List.flatMap_append];rfl
 ·rintro σ ys H1 ⟨_,rfl,hyl,h,sm⟩;rw[hlb,YJ]at h hyl;refine⟨_,rfl,l,_,0,_,rfl,rfl,bb.of (sm _ _ hL.lst),az (j:=0) e0,_,rfl,a,_,1,_,rfl,rfl,aX.of (sm _ _ h1),rfl,_,_,rfl,rfl,a0,_,_,_,rfl,rfl,aX.of (sm _ _ lX),gW hc,?_⟩;refine⟨D,_,_,rfl,h,by omega,λv hv=>?_,λH' s'=>q H' (sm.trans s')⟩;obtain⟨p,hp,hv⟩:=List.mem_flatMap.mp hv;simp only[Ym,YH,or_false]at hv;rcases hv with rfl|rfl
  ·exact(hg p hp).1
  ·exact(hg p hp).2
abbrev lr:Stmt:=top 28
theorem oO:ax ["worker","heads","cells"] Z7 (aq lr):=fs
theorem xE{n:Nat}(F:FA K mg "walk_fits" lr)
  (gG:bz bx P w K mg base 2 "cells_fit" ZL iN) :
  bz bx P w K mg base 3 "walk_fits" Z7 (eF n bW (sE λx=>∃c mv,x=.one (.walk c mv))):=by
 refine F.ok oO λf cdv A outer s H vs Q E hr h=>?_;obtain⟨a,l,x,as,hs,rfl,ha,hL,hn,hsm,ho,q⟩:=h;refine⟨_,(ao (fE (i:=2) (N':=["state","cell","after"]) (src:=[none,none,none]) oO.nd rfl (YI rfl) rfl rfl (bq.jN (by kernel_rfl)) (cP (aJ K (pv 0) aj)) (g:=(n4 K 3 (cQ (b9 0) (cQ (b9 1) (cQ (b9 2) pC))))) (λcl C s H fp=>(bU rfl (ar (gg (i:=0)) (ar (gg (i:=1)) (ar (gg (i:=2)) bF))))) (tc:=(gD (eC (λx y H Q=>y=.non/\Q (.bl (!decide (x=.non))) H) (br 1) (tC .non)))) (λcl C s H fp=>dX (ba vE (gK 1) dk)) (te:=(br 1)) (λcl C s H fp=>(gK 1)))
   (ay (aG gG hr (aa (pv 2) (aa (aJ K (bf K (pv 1) aj) (aL bN (aJ K (pv 0) aj) aj)) ag))))),?_⟩
 obtain⟨⟨c,mv,rfl⟩,hf,hg⟩:=ho;obtain⟨hd,rfl⟩:=dY hn;obtain⟨a0,e0,lX⟩:=hL.nth (i:=0) rfl;obtain⟨st,t,bs,h1,U⟩:=c7.mp ha;have hc:=fv hf (c:=c) (by simp[fU]);have hz:mv.length<=1000:=hsm;have hg:∀v∈mv,v=.non\/nK v:=hg;have O:(bs.map V.ref).length=mv.length:=by rw[X9,U.len]
 refine⟨_,rfl,a,_,3,_,rfl,rfl,aX.of h1,rfl,t,rfl,⟨_,aX.of U.tup⟩,λD hD=>?_⟩;refine c_ (xs:=bs.map V.ref) (λi σ ys H'=>(∃o1 o2 o3,σ=[o1,o2,o3])/\ys=(mv.take i).filter (λv=>!decide (v=.non))/\ys.length<=i/\H' D=some (.lst ys)/\aH H H') ⟨⟨none,none,none,rfl⟩,rfl,X5 _,ae,ai hD _⟩ ?_ ?_ ?_ ?_ ?_
 ·rintro i σ ys H' _ ⟨_,_,hi,h,_⟩;exact⟨h,hi⟩
 ·rintro i σ ys H' _ ⟨_,_,_,_,sm⟩;exact aX.of (sm _ _ U.tup)
 ·rw[O];exact X6 hz (by decide)
 ·rintro i v σ ys H' hv ⟨⟨o1,o2,o3,rfl⟩,rfl,hi,h,sm⟩;obtain⟨b,u,rfl,eu,s1,t1,hb⟩:=U.get hv;refine⟨b,_,rfl,aX.of (sm _ _ hb),rfl,_,_,rfl,ak ⟨_,_,rfl,ak ⟨_,_,rfl,ak ⟨rfl,?_⟩⟩⟩⟩;refine⟨_,rfl,rfl,_,rfl,?_⟩;refine fY (λk=>?_) (λk=>?_)
  ·refine⟨_,rfl,h,⟨_,_,_,rfl⟩,?_,by rw[X_];simp only[List.length_singleton];omega,ae,bg hD sm⟩;rw[take_one eu,List.filter_append,List.filter_cons,YG k];rfl
  ·refine⟨⟨_,_,_,rfl⟩,?_,by omega,h,sm⟩;rw[take_one eu,List.filter_append,List.filter_cons,YF k];simp
 ·rintro σ ys H1 ⟨_,rfl,hyl,h,sm⟩;rw[O,YJ]at h hyl;refine ak ?_;dsimp only;refine⟨_,rfl,_,rfl,l,_,0,_,rfl,rfl,bb.of (sm _ _ hL.lst),az (j:=0) e0,_,rfl,a,_,1,_,rfl,rfl,aX.of (sm _ _ h1),rfl,_,_,rfl,rfl,a0,_,_,_,rfl,rfl,aX.of (sm _ _ lX),gW hc,?_⟩;refine⟨D,_,_,rfl,h,by omega,λv hv=>?_,λH' s'=>q H' (sm.trans s')⟩;obtain⟨hm,hk⟩:=List.mem_filter.mp hv;rcases hg v hm with rfl|z
  ·simp at hk
  ·exact z
end My
namespace L2
open PySem PySem.Spec PyProof.Rows
open Classical in
noncomputable def n0 (ks:List Key) (k:Key):Bool:=decide (k∈ks)
open Classical in
theorem ix{ks:List Key}{k:Key}:n0 ks k=true↔k∈ks:=by unfold n0;exact decide_eq_true_iff
noncomputable def ic (ks:List Key) (k:Key):List Key:=if n0 ks k=true then ks else ks++[k]
theorem Gp(ks:List Key)(k k':Key):n0 (ic ks k) k'=(n0 ks k'||decide (k'=k)):=by
 rw[Bool.eq_iff_iff,Bool.or_eq_true,decide_eq_true_eq,ix,ix];unfold ic;by_cases h:n0 ks k=true
 ·rw[YG h];exact⟨.inl,λz=>z.elim id λe=>by rw[e];exact ix.mp h⟩
 ·rw[YF h,Yo,Yk]
def zl(J:It)(g:TG)(te:TE)(Q:VK)(W:Nat->Nat->St->List Key->Hp->Prop):Prop :=
 ∀i m σ ks H,W i m σ ks H->ks.length+1<scanBound/\((J.stop i H/\Q (.int (ks.length:Nat)) H)\/(J.go i H/\∃N:St->List Key->Hp->Prop,(∀σ' z H',N σ' z H'->∃U,U<m/\W (i+1) U σ' z H')/\
  ∀x H',J.FL i H x H'->g x σ H' λO H2=>te O H2 λv H3=>∃k,v=kV k/\N O (ic ks k) H3))
def Ib(src:List (Option Nat))(wi:TI)(g:TG)(te:TE):TE:=λσ H Q=>wi σ H λJ H1=>∃W:Nat->Nat->St->List Key->Hp->Prop,(∃m,W 0 m (kP src σ) [] H1)/\zl J g te Q W
section
variable{prog:Program}{w:World}{A:Around}{s:Shared}{R:Z3}{elt target iter:Expr}{sc:Scope}{pos:Pos}{it acc:Value}{env:Env}
theorem CB:compTurn (.SetComp elt [⟨target,iter,[],0⟩] sc pos) 0 it acc env=(standAt iter.pos >>= λ_=>pyNext it >>= λr=>match r with
   |none=>pure (.done .next)
   |some v=>letOwnedTupleGo target it v >>= λ_=>assign target env v >>= λ_=>(eval elt env >>= λx=>standAt elt.pos >>= λ_=>call (.builtin "set.add") [acc,x] >>= λ_=>pure ()) >>= λ_=>again (.compLoop (.SetComp elt [⟨target,iter,[],0⟩] sc pos) 0 it acc env)):=by rfl
theorem zc(h0:codeAny (model prog w) A (.compLoop (.SetComp elt [⟨target,iter,[],0⟩] sc pos) 0 it acc env) R s)
  (h:wpAny (model prog w) A (pyIter it) (λz s'=>codeAny (model prog w) A (.compLoop (.SetComp elt [⟨target,iter,[],0⟩] sc pos) 0 z acc env) R s') (notedBy (model prog w) A env λx s'=>R (.error x) s') s) :
  codeAny (model prog w) A (.compStart (.SetComp elt [⟨target,iter,[],0⟩] sc pos) 0 it acc env) R s:=by
 refine codeAny_of_tree (show wpAny _ _ ((compStart (.SetComp elt [⟨target,iter,[],0⟩] sc pos) 0 it acc env).onRaise (λx=>do noteFrame x env;standAt theWindowsPlace)) _ _ s from wpAny_notedAt ?_);unfold compStart;refine show wpAny _ _ (ask >>= _) _ _ s from X0 (wpAny_askSetting (wpAny_ite ?_))
 split
 ·first|exact X0 (X1 (X1 ⟨rfl,h0⟩))|exact X1 ⟨rfl,h0⟩
 ·refine X0 (wpAny_rule (show wpAny _ _ (standAt iter.pos >>= _) _ _ s from ?_));exact X0 (wpAny_standAt (X0 (cu h λz s' h'=>X1 ⟨rfl,h'⟩)))
theorem B8(Iv:Nat->Shared->Prop)
  (turn:∀n s,Iv n s->wpAny (model prog w) A (pyNext it) (λr z=>match r with
   |none=>R (.ok .next) z
   |some v=>wpAny (model prog w) A (letOwnedTupleGo target it v) (λ_ O=>wpAny (model prog w) A (assign target env v) (λ_ s₂=>wpAny (model prog w) A (eval elt env) (λx s₄ =>
       wpAny (model prog w) A (call (.builtin "set.add") [acc,x]) (λ_ s₅=>∃m,m<n/\Iv m s₅) (λ_ _=>False) s₄) (λ_ _=>False) s₂) (λ_ _=>False) O) (λ_ _=>False) z) (λ_ _=>False) s)
  (n:Nat) (h:Iv n s):codeAny (model prog w) A (.compLoop (.SetComp elt [⟨target,iter,[],0⟩] sc pos) 0 it acc env) R s:=by
 refine codeAny_loop rfl Iv (λn s hI=>?_) n h;show wpAny _ A ((compTurn (.SetComp elt [⟨target,iter,[],0⟩] sc pos) 0 it acc env).onRaise (λx=>do noteFrame x env;theTreesLotGoes x)) _ _ s;refine wpAny_noted ?_;rw[CB];refine X0 (wpAny_standAt (X0 (Yx (turn n s hI) (λr z U=>?_) λ_ _ h'=>h'.elim)));cases r with
 |none=>exact X1 U
 |some v =>refine X0 (Yx U (λ_ O h₁'=>X0 (Yx h₁' (λ_ s₂ h₂=>?_) λ_ _ h'=>h'.elim)) λ_ _ h'=>h'.elim);exact X0 (X0 (Yx h₂ (λx s₄ h₄=>X0 (wpAny_standAt (X0 (Yx h₄ (λ_ s₅ h₅=>X1 (X1 ⟨rfl,h₅⟩)) λ_ _ h'=>h'.elim)))) λ_ _ h'=>h'.elim))
end
theorem Lv{k:Key}{u:Value}(r:RelV (kV k) u):iB k u=true/\u.scannable=true:=by
 cases k with
 |inl i=>obtain⟨t,rfl⟩:=r;exact⟨pd _ _,rfl⟩
 |inr x=>obtain⟨t,rfl⟩:=r;exact⟨pA _ _,rfl⟩
section
variable{X:Cx}{elt target iter:Expr}{sc:Scope}{pos:Pos}{wi:TI}{g:TG}{te:TE}{N':List Str}{src:List (Option Nat)}
abbrev u_(h:Heap)(prog:Program)(w:World)(S:Addr)(ks:List Key):Prop:=h.SetOf (bQ prog w) S (λk=>n0 ks k) ks.length
theorem EC{h:Heap}{prog:Program}{w:World}{S:Addr}{ks:List Key}(x:u_ h prog w S ks):∃o,h.get? S=some o/\∀v,o.data≠ .cell v:=by obtain⟨o,es,ep,t,O,_,hd,_⟩:=x;exact⟨o,O,λv z=>by rw[hd]at z;cases z⟩
theorem me{h h':Heap}{prog:Program}{w:World}{S:Addr}{ks:List Key}(x:u_ h prog w S ks)(k:∀o,h.get? S=some o->h'.get? S=some o):u_ h' prog w S ks:=by obtain⟨o,es,ep,t,O,z⟩:=x;exact⟨o,es,ep,t,k _ O,z⟩
theorem zm{ac:eN}{σ:St}{H2:Hp}{s2:Shared}{it:Addr}{fp:Z6}{tn:Nat->Heap->Prop}{J:It}{Q:VK}{E:nT}{RR:Value->Addr->Z3}
  (hc:X.calm=true) (S:bq X.env.scope X.N N' src sc)
  (hg:∀cl C s H fp,PG (aV X N' sc cl C s H fp) target g) (he:∀cl C s H fp,PE (aV X N' sc cl C s H fp) elt te)
  (I2:Inv X ac σ H2 s2) (T:Turn X.prog X.w X.K target J fp it tn) (st2:tn 0 s2.heap) (f2:∀b∈fp,eI X ac H2 b)
  (hW:∃W:Nat->Nat->St->List Key->Hp->Prop,(∃m,W 0 m (kP src σ) [] H2)/\zl J g te Q W)
  (hRR:∀D C s5 H' m ks,Inv X ac σ H' s5->s5.heap.Ns C m->eI X ac H' C->C≠D->u_ s5.heap X.prog X.w D ks->Q (.int (ks.length:Nat)) H'->RR (.ref D) C (.ok .next) s5) :
  wpAny (model X.prog X.w) X.A (newSet (.type "set")) (λacc s₃=>wpAny (model X.prog X.w) X.A (newFunctionEnv sc X.env.globals (bS X.env.cells sc.names []) [] X.env.qual none .none (some X.env)) (λcenv s₄ =>
   codeAny (model X.prog X.w) X.A (.compStart (.SetComp elt [⟨target,iter,[],0⟩] sc pos) 0 (.ref it) acc {cenv with scope:=relabel sc X.env}) (RR acc cenv.locals) s₄) E s₃) E s2:=by
 have o2:∀b∈fp,b<s2.heap.objs.size:=λb O=>by obtain⟨o,e,_⟩:=T.obj 0 _ st2 b O;exact X3 e
 refine wpAny_newSet_of (knd:=bQ X.prog X.w) λled hS=>?_;have Mb:H2 s2.heap.objs.size=none:=I2.hok.fresh (X5 _);obtain⟨W,⟨m0,w0⟩,turn⟩:=hW;have JZ:∀b o,s2.heap.get? b=some o->(s2.heap.push {cls:=.type "set",dict:=none,data:=.set #[] 0 (.fresh 0 0 led)}).get? b=some o:=λb o e=>X2 _ e;have I3:Inv X ac σ H2 {s2 with heap:=s2.heap.push {cls:=.type "set",dict:=none,data:=.set #[] 0 (.fresh 0 0 led)}}:=I2.kept (t':=s2.toks) JZ;have fS:eI X ac H2 s2.heap.objs.size:=I2.pH (X5 _) Mb;have st3:tn 0 (s2.heap.push {cls:=.type "set",dict:=none,data:=.set #[] 0 (.fresh 0 0 led)}):=T.keep 0 _ _ st2 λb O o e=>JZ b o e;generalize hs3:({s2 with heap:=s2.heap.push {cls:=.type "set",dict:=none,data:=.set #[] 0 (.fresh 0 0 led)}}:Shared)=s3 at I3;have hh3:s3.heap=s2.heap.push {cls:=.type "set",dict:=none,data:=.set #[] 0 (.fresh 0 0 led)}:=by rw[←hs3]
 have GD:s2.heap.objs.size<s3.heap.objs.size:=by rw[hh3,Heap.size_push];exact Nat.lt_succ_self _
 generalize XG:s2.heap.objs.size=U at *;have o3:∀b∈U::fp,b<s3.heap.objs.size:=λb O=>by
  rcases Ym.mp O with rfl|O
  ·exact GD
  ·exact Nat.lt_trans (o2 b O) GD
 have nS:∀b∈fp,b≠U:=λb O=>Yp (o2 b O);have f3:∀b∈U::fp,eI X ac H2 b:=λb O=>by
  rcases Ym.mp O with rfl|O
  ·exact fS
  ·exact f2 b O
 rw[←hh3]at st3 hS;refine wpAny_newFunctionEnv S.rD (by intro y hy;simp at hy) (λh1 hns hsb=>?_) S.kind;have hsb':Heap.SameBut s3.heap.objs.size (s3.heap.push {cls:=.type "dict",data:=.dict #[]}) h1:=hsb;have I4:Inv (aV X N' sc (bS X.env.cells sc.names []) s3.heap.objs.size s3 H2 (U::fp)) [] (kP src σ) H2 {s3 with heap:=h1,toks:=s3.toks+([]:List (Str×Value)).length} :=
  j5 S I3 f3 o3 hns hsb'
 have k4:∀b o,b<s3.heap.objs.size->s3.heap.get? b=some o->h1.get? b=some o:=λb o O e=>(hsb'.2 b (Yp O)).trans (X2 _ e);have Dx:tn 0 h1:=T.keep 0 _ _ st3 λb O o e=>k4 b o (o3 b (Yg _ O)) e;have e0:(λk:Key=>n0 [] k) = λ_=>false:=by funext k;exact Yn.mpr λz=>by cases ix.mp z
 have VX:u_ s3.heap X.prog X.w U []:=by show Heap.SetOf _ _ _ (λk=>n0 [] k) _;rw[e0];exact hS
 have Xy:u_ h1 X.prog X.w U []:=me VX λo e=>k4 _ o GD e;have fC:∀(H':Hp),H' s3.heap.objs.size=none->eI X ac H' s3.heap.objs.size:=λH' hn=>I3.pH (X5 _) hn;generalize hY:aV X N' sc (bS X.env.cells sc.names []) s3.heap.objs.size s3 H2 (U::fp)=Y at I4;have Qo:Y.prog=X.prog:=by rw[←hY]
 have Qk:Y.w=X.w:=by rw[←hY]
 have Uv:Y.K=X.K:=by rw[←hY]
 have Ux:Y.calm=X.calm:=by rw[←hY]
 have Qn:Y.A=X.A:=by rw[←hY]
 have Uy:Y.env=compEnvC sc (bS X.env.cells sc.names []) s3.heap.objs.size X.env:=by rw[←hY]
 have Qm:Y.ex=U::fp:=by rw[←hY]
 have TM:Y.xe = λ_ _=>False:=by rw[←hY]
 have Vl:Y.pn=[]:=by rw[←hY]
 have RD:PG Y target g:=by rw[←hY];exact hg _ _ _ _ _
 have QR:PE Y elt te:=by rw[←hY];exact he _ _ _ _ _
 have stat:∀{pl:eN}{H':Hp}{b:Addr},H' b=none->b∈U::fp->(∀p∈pl,p.1≠b)->eI Y pl H' b:=λ{pl H' b} hn O hp =>
  ⟨hn,(I4.ok.GV b (by rw[Qm];exact O)).1,I4.ok.xR b (by rw[Qm];exact O),.inl (by rw[Qm];exact O),(I4.ok.GV b (by rw[Qm];exact O)).2,λp h=>hp p (by rw[Vl]at h;exact h)⟩
 have OK:∀{σ':St}{H':Hp}{s':Shared}{pl:eN}{o:Obj},Inv Y pl σ' H' s'->s'.heap.get? U=some o->(∀v,o.data≠ .cell v)->H' U=none->Inv Y [(U,o)] σ' H' s':=λ{σ' H' s' pl o} J e d hn =>
  J.iV λp hp=>by
   have:p=(U,o):=by simpa using hp
   subst this;exact⟨e,hn,(stat (pl:=[]) hn YA λ_ z=>nomatch z).2.1,(stat (pl:=[]) hn YA λ_ z=>nomatch z).2.2.1,d⟩
 have loop:codeAny (model X.prog X.w) X.A (.compLoop (.SetComp elt [⟨target,iter,[],0⟩] sc pos) 0 (.ref it) (.ref U) (compEnvC sc (bS X.env.cells sc.names []) s3.heap.objs.size X.env))
   (RR (.ref U) s3.heap.objs.size) {s3 with heap:=h1,toks:=s3.toks+([]:List (Str×Value)).length}:=by
  refine B8 (λn s'=>∃i σ' ks H',Inv Y [] σ' H' s'/\tn i s'.heap/\(∀b∈U::fp,H' b=none)/\u_ s'.heap X.prog X.w U ks/\W i n σ' ks H') ?_ m0
   ⟨0,_,[],_,I4,Dx,λb O=>(f3 b O).1,Xy,w0⟩
  rintro n s5 ⟨i,qL,ks,H5,I5,wt,yv,R5,w5⟩;obtain⟨hroom,alt⟩:=turn i n qL ks H5 w5;obtain⟨oS,eS,dS⟩:=EC R5;have Uo:=OK I5 eS dS (yv _ YA);have FY:∀{H':Hp},(∀b∈fp,H' b=none)->∀b∈fp,eI Y [(U,oS)] H' b:=λhn b O=>stat (hn b O) (Yg _ O) λp hp=>by
   have:p=(U,oS):=by simpa using hp
   subst this;exact(nS b O).symm
  have Tp:∀b∈fp,H5 b=none:=λb O=>yv b (Yg _ O);rcases alt with⟨stop,qn⟩|⟨go,N,hN,step⟩
  ·have:=T.done Y Qo Qk Uv (by rw[Ux];exact hc) i [(U,oS)] s5 qL H5 (λ_ _=>False) Uo (FY Tp) wt stop;rw[Qn]at this;refine cu this λr s6 zz=>?_;obtain⟨hr,I6⟩:=zz;subst hr;have UU:u_ s6.heap X.prog X.w U ks:=me R5 λo e=>by rw[eS]at e;cases e;exact(I6.pin (U,oS) (Ye _ (.head _))).1
   subst hY;obtain⟨m6,n6,_⟩:=id I6.loc;exact hRR _ _ s6 H5 m6 ks (I3.call' I6.os I6.base I6.hok I6.bare λb O=>⟨(f3 b O).2.2.2.1,(f3 b O).2.1,(f3 b O).2.2.2.2.1,(f3 b O).2.2.2.2.2⟩) n6 (fC _ I6.free) (Nat.ne_of_gt GD) UU qn
  ·have:=T.item Y Qo Qk Uv (by rw[Ux];exact hc) i [(U,oS)] s5 qL H5 (λ_ _=>False) Uo (FY Tp) wt go;rw[Qn]at this;refine cu this λr s6 zz=>?_;obtain⟨u,hr,h6⟩:=zz;subst hr;refine cu h6 λ_ s7 zz=>?_;obtain⟨x,H7,I7,r7,y7,vA,Iw⟩:=zz;have Hr:=I7.pinned (FY Iw) (T.obj _ _ vA);have SY:=RD _ s7 qL H7 x u _ Hr r7 (step x H7 y7);rw[Qo,Qk,Qn,Uy,TM]at SY;refine cu SY λ_ s8 zz=>?_;obtain⟨wq,H8,I8,q8⟩:=zz;have T6:=QR _ s8 wq H8 _ I8 q8;rw[Qo,Qk,Qn,Uy,TM]at T6;refine cu T6 λxv s9 zz=>?_;obtain⟨v,H9,I9,r9,k,ek,w9⟩:=zz;subst ek;obtain⟨hk1,hk2⟩:=Lv r9;have pS:=I9.pin (U,oS) (Ye _ (List.mem_append_left _ (.head _)));have Ww:u_ s9.heap X.prog X.w U ks:=me R5 λo e=>by rw[eS]at e;cases e;exact pS.1
   refine call_set_add (knd:=bQ X.prog X.w) (k:=k) hk1 hk2 Ww hroom λh' hsb hS'=>?_;obtain⟨m',hm,w'⟩:=hN _ _ _ w9;have Kr:∀b∈fp,∀o,s7.heap.get? b=some o->s9.heap.get? b=some o/\H9 b=none:=λb O o e=>by have:=I9.pin (b,o) (Ye _ (Ye _ (cV O e)));exact⟨this.1,this.2.1⟩
   have VR:Inv Y [] wq H9 s9:=I9.iV λp hp=>nomatch hp
   have PL:=stat (pl:=[]) (H':=H9) (b:=U) pS.2.1 YA λ_ z=>nomatch z
   refine⟨m',hm,i+1,wq,ic ks k,H9,VR.turned (t':=s9.toks+1) (λb o O e=>(hsb.2 b O).trans e) PL.1 PL.2.1 PL.2.2.2.1 PL.2.2.2.2.1 PL.2.2.2.2.2,T.keep _ _ _ vA λb O o e=>(hsb.2 b (nS b O)).trans (Kr b O o e).1,λb O=>?_,?_,w'⟩
   ·rcases Ym.mp O with rfl|O
    ·exact pS.2.1
    ·obtain⟨o,e,_⟩:=T.obj _ _ vA b O;exact(Kr b O o e).2
   ·have e1:(λk'=>n0 ks k'||decide (k'=k)) = λk'=>n0 (ic ks k) k':=by funext k';exact(Gp ks k k').symm
    have e2:(if n0 ks k=true then ks.length else ks.length+1)=(ic ks k).length:=by
     unfold ic;by_cases h:n0 ks k=true
     ·rw[YG h,YG h]
     ·rw[YF h,YF h,X_];rfl
    show h'.SetOf (bQ X.prog X.w) U (λk'=>n0 (ic ks k) k') (ic ks k).length;rw[←e1,←e2];exact hS'
 exact zc loop (T.self _ 0 _ _ _ Dx loop)
theorem yY{np lp:Pos}(hc:X.calm=true)(Vn:Gl X "len")(QS:X.mg "len"=none)(S:bq X.env.scope X.N N' src sc)(hi:PI X target iter wi)
  (hg:∀cl C s H fp,PG (aV X N' sc cl C s H fp) target g) (he:∀cl C s H fp,PE (aV X N' sc cl C s H fp) elt te)
  (hs:∀x,foldedSetIterable iter X.env x=pure x:=by intro _;rfl) (z:starEach [Expr.SetComp elt [⟨target,iter,[],0⟩] sc pos] X.env=[(false,eval (.SetComp elt [⟨target,iter,[],0⟩] sc pos) X.env)]:=by rfl) :
  PE X (.Call (.Name "len" np) [.SetComp elt [⟨target,iter,[],0⟩] sc pos] [] lp) (Ib src wi g te):=by
 intro ac s σ H Q I h;refine wpAny_Call_Name_kw (jT I Vn QS YW ?_ (by decide) (by decide));refine PyProof.Rows.callWith_builtin1 ?_ z rfl;rw[z];refine Calls.spliced_cons ?_;rw[arm_eval_SetComp];refine wpAny_comprehension_free (use:=none) (e:=.SetComp elt [⟨target,iter,[],0⟩] sc pos) (g:=⟨target,iter,[],0⟩) (gs:=[]) rfl hs (cX λy hy hk=>I.ok.has y.1 (S.free y hy hk)) S.kind (λy hy hl=>by rw[←hl];exact S.uniq y hy) ?_;refine cu (hi ac s σ H _ I h) λv s1 h1=>cu h1 λitv s2 h2=>?_;obtain⟨it,fp,tn,J,H2,e,I2,T,st2,f2,hW⟩:=h2;subst e;refine zm (Q:=Q) (RR:=λacc C=>compPost (model X.prog X.w) X.A X.xe none (λv s2=>wpAny (model X.prog X.w) X.A (spliced []) (λvs s3=>wpAny (model X.prog X.w) X.A (call (.builtin "len") (v::vs)) (EP X ac σ Q) X.xe s3) X.xe s2) acc C) hc S hg he I2 T st2 f2 hW ?_;intro D C U H' m ks I5 n5 O hCD hS q;refine⟨m,n5,λh' sb=>Calls.spliced_nil ?_⟩;have I6:=I5.turned (t':=U.toks) (λb o hb e=>(sb.2 b hb).trans e) O.1 O.2.1 O.2.2.2.1 O.2.2.2.2.1 O.2.2.2.2.2;obtain⟨o,es,ep,t,ho,hex,hd,hel,_,hb,hf,hn⟩:=me (h':=h') hS λo e=>(sb.2 _ hCD.symm).trans e;have hsc:(scanBound:Int)<2 ^ 63:=by decide
 have hlt:((es.size:Nat):Int)<2 ^ 63:=Int.lt_trans (Int.ofNat_lt.mpr hb) hsc;refine call_len_set (s:={U with heap:=h',toks:=U.toks}) ho hex hd hf hlt ?_;exact⟨.int (ks.length:Nat),H',I6.kept (h':=h') (t':=U.toks+1+1) λ_ _ e=>e,⟨_,by rw[hn]⟩,q⟩
end
end L2
namespace L2
open PySem
theorem yL{K:YY}{a:Addr}{xs:List V}{g:TG}{te:TE}{Q:VK}{sD:St}{H0:Hp}(Pv:Nat->St->List Key->Hp->Prop)(h0:Pv 0 sD [] H0)(hb:∀i σ ks H,i<=xs.length->Pv i σ ks H->ks.length+1<scanBound)(hl:∀i σ ks H,i<=xs.length->Pv i σ ks H->aX K H a xs)
  (hs:∀i x σ ks H,xs[i]? = some x->Pv i σ ks H->g x σ H λO H2=>te O H2 λv H3=>∃k,v=kV k/\Pv (i+1) O (ic ks k) H3)
  (hd:∀σ ks H,Pv xs.length σ ks H->Q (.int (ks.length:Nat)) H):∃W:Nat->Nat->St->List Key->Hp->Prop,(∃m,W 0 m sD [] H0)/\zl (Gx K a) g te Q W:=by
 refine⟨λi m σ ks H=>m=xs.length-i/\i<=xs.length/\Pv i σ ks H,⟨xs.length,by simp,Yq _,h0⟩,?_⟩;rintro i m σ ks H ⟨rfl,hi,p⟩;have q:=hl i σ ks H hi p;refine⟨hb i σ ks H hi p,?_⟩;by_cases z:i<xs.length
 ·refine .inr ⟨⟨xs,xs[i],q,by simp[z]⟩,Pv (i+1),λσ' ks' H' U=>⟨xs.length-(i+1),by omega,rfl,z,U⟩,λx H' y=>?_⟩;obtain⟨e,y⟩:=y;subst e;exact hs i x σ ks _ (y xs q) p
 ·have e:i=xs.length:=by omega
  subst e;exact .inl ⟨⟨xs,q,X5 _⟩,hd σ ks H p⟩
theorem E_(ks:List Key)(k:Key):ks.length<=(ic ks k).length/\(ic ks k).length<=ks.length+1:=by
 unfold ic;split
 ·exact⟨X5 _,Nat.le_succ _⟩
 ·rw[X_];simp
end L2
namespace My
open PySem L2
noncomputable def iS (acc:List Key) (ss:List Str):List Key:=ss.foldl (λacc s=>ic acc (.inr s)) acc
theorem r6:∀(ss:List Str)(acc:List Key),acc.length<=(iS acc ss).length/\(iS acc ss).length<=acc.length+ss.length
 |[],acc=>⟨X5 _,X5 _⟩
 |s::ss,acc=>by have h1:=r6 ss (ic acc (.inr s));have h2:=E_ acc (.inr s);show acc.length<=(iS (ic acc (.inr s)) ss).length/\(iS (ic acc (.inr s)) ss).length<=acc.length+(ss.length+1);omega
theorem yc(O:Str):∀ss:List Str,((iS [.inr O] ss).length > 1) =¬(∀s∈ss,s=O)
 |[]=>by simp[iS]
 |s::ss=>by
  by_cases e:s=O
  ·have:iS [.inr O] (s::ss)=iS [.inr O] ss:=by show iS (ic [.inr O] (.inr s)) ss=_;unfold ic;rw[YG (ix.mpr (by rw[e];exact Yk.mpr rfl))]
   rw[this,yc O ss];simp[e]
  ·have:iS [.inr O] (s::ss)=iS [.inr O,.inr s] ss:=by show iS (ic [.inr O] (.inr s)) ss=_;unfold ic;rw[YF (λz=>e (by have:=Yk.mp (ix.mp z);injection this))];rfl
   have U:=(r6 ss [.inr O,.inr s]).1;rw[this];simp only[YB,List.length_nil]at U;simp[e];omega
theorem Ct(ss:List Str):decide ((1:Int)<((iS [] ss).length:Nat)) = !j9 ss:=by
 cases ss with
 |nil=>simp[iS,j9]
 |cons s ss =>
  have:iS [] (s::ss)=iS [.inr s] ss:=by show iS (ic [] (.inr s)) ss=_;unfold ic;rw[YF (λz=>by cases ix.mp z)];rfl
  rw[this];have h:=yc s ss;have e:j9 (s::ss)=decide (∀x∈ss,x=s):=by
   unfold j9;rw[Bool.eq_iff_iff,List.all_eq_true,decide_eq_true_eq];constructor
   ·intro z x O;exact YD (z x (Yg _ O))
   ·intro z x O;rcases Ym.mp O with rfl|O
    ·exact X8 rfl
    ·exact X8 (z x O)
  rw[e,←decide_not,decide_eq_decide];constructor
  ·intro z;have:(iS [.inr s] ss).length > 1:=by omega
   rwa[h]at this
  ·intro z;rw[←h]at z;omega
theorem B_{ss:List Str}{i:Nat}{s:Str}(h:ss[i]? = some s):iS [] (ss.take (i+1))=ic (iS [] (ss.take i)) (.inr s):=by unfold iS;rw[take_one h,List.foldl_append];rfl
abbrev kF:Stmt:=top 27
theorem vN:ax Z7 Z7 (aq kF):=fs
variable{P:Program}{w:World}{K:YY}{mg:Z0}{base:Heap}
theorem w8{n:Nat}(B:j_ mg)(F:FA K mg "must_fits" kF)
  (jw:bz bx P w K mg base 1 "sort_of" ["cell"] iM)
  (gG:bz bx P w K mg base 2 "cells_fit" ZL iN) :
  bz bx P w K mg base 3 "must_fits" Z7 (eF n bW (sE λx=>∃c ps,x=.one (.must c ps))):=by
 refine F.ok vN λf cdv A outer s H vs Q E hr h=>?_;obtain⟨a,l,x,as,hs,rfl,ha,hL,hn,hsm,ho,q⟩:=h;refine⟨_,(bE (ba iO (yY (N':=["old","new"]) (src:=[none,none]) rfl rfl B.len (bq.jN (by kernel_rfl)) (cP (aJ K (pv 0) aj)) (g:=n4 K 2 (cQ (b9 0) (cQ (b9 1) pC))) (λcl C s H fp=>(bU rfl (ar (gg (i:=0)) (ar (gg (i:=1)) bF)))) (te:=(lj iM [] E0 (c6 (br 1) ll))) (λcl C s H fp=>(aG (hg:=GJ) jw hr (aa (gK 1) ag)))) aj) cR
   (ay (aG gG hr (aa (bM (N':=["old","new"]) (src:=[none,none]) rfl (bq.jN (by kernel_rfl)) (cP (aJ K (pv 0) aj)) (g:=(n4 K 2 (cQ (b9 0) (cQ (b9 1) pC)))) (λcl C s H fp=>(bU rfl (ar (gg (i:=0)) (ar (gg (i:=1)) bF)))) (λcl C s H fp=>bD) (te:=(br 0)) (λcl C s H fp=>(gK 0))) (aa (aJ K (bf K (pv 1) aj) (aL bN (aJ K (pv 0) aj) aj)) ag))))),?_⟩
 obtain⟨⟨c,ps,rfl⟩,hf,hg⟩:=ho;obtain⟨hd,rfl⟩:=dY hn;obtain⟨a0,e0,lX⟩:=hL.nth (i:=0) rfl;obtain⟨t,bs,h1,O⟩:=c7.mp ha;have hc:=fv hf (c:=c) (by simp[fU]);have hz:ps.length<=1000:=hsm;have hg:∀p∈ps,nK p.1/\nK p.2:=hg;have z:(bs.map V.ref).length=ps.length:=by rw[X9,O.len]
 have hls:(ps.map λp=>sW p.2).length=ps.length:=X9 _;refine⟨_,rfl,a,_,2,_,rfl,rfl,aX.of h1,rfl,t,rfl,⟨_,aX.of O.tup⟩,?_⟩;refine yL (xs:=bs.map V.ref) (λi σ ks H'=>(∃o1 U,σ=[o1,U])/\ks=iS [] ((ps.map λp=>sW p.2).take i)/\H'=H) ⟨⟨none,none,rfl⟩,rfl,rfl⟩ ?_ ?_ ?_ ?_
 ·rintro i σ ks H' hi ⟨_,rfl,_⟩;have:=(r6 ((ps.map λp=>sW p.2).take i) []).2;rw[Yv,List.length_nil]at this;exact Yb (show _<=1001 by omega) (by decide)
 ·rintro i σ ks H' _ ⟨_,_,rfl⟩;exact aX.of O.tup
 ·rintro i v σ ks H' hv ⟨⟨o1,U,rfl⟩,rfl,rfl⟩;obtain⟨b,p,rfl,ep,hb⟩:=O.get hv;refine⟨b,_,rfl,aX.of hb,rfl,_,_,rfl,ak ⟨_,_,rfl,ak ⟨rfl,?_⟩⟩⟩;refine⟨_,rfl,p.2,rfl,(hg p (Yf ep)).2,.inr (sW p.2),rfl,⟨_,_,rfl⟩,?_,rfl⟩;rw[B_ (by rw[Yu,ep];rfl)]
 ·rintro σ ks H' ⟨_,rfl,rfl⟩;rw[z,←hls,YJ];refine⟨_,_,rfl,rfl,_,rfl,?_⟩;have q:∀Ua,aH H' Ua->Q (.bl (j9 (ps.map λp=>sW p.2)&&iZ (ps.map λp=>p.1) (bK hd c))) Ua:=q;rw[Ct];cases hO:j9 (ps.map λp=>sW p.2)with
  |false =>rw[hO]at q;exact cJ (q H' (aH.refl _))
  |true =>
   rw[hO]at q;refine cK (bR ⟨_,rfl,a,_,2,_,rfl,rfl,aX.of h1,rfl,t,rfl,⟨_,aX.of O.tup⟩,λD hD=>?_⟩);refine c_ (xs:=bs.map V.ref) (λi σ ys H2=>(∃o1 U,σ=[o1,U])/\ys=(ps.take i).map (λp=>p.1)/\ys.length=i/\H2 D=some (.lst ys)/\aH H' H2) ⟨⟨none,none,rfl⟩,rfl,rfl,ae,ai hD _⟩ ?_ ?_ ?_ ?_ ?_
   ·rintro i σ ys H2 _ ⟨_,_,hi,h,_⟩;exact⟨h,YR hi⟩
   ·rintro i σ ys H2 _ ⟨_,_,_,_,sm⟩;exact aX.of (sm _ _ O.tup)
   ·rw[z];exact X6 hz (by decide)
   ·rintro i v σ ys H2 hv ⟨⟨o1,U,rfl⟩,rfl,hi,h,sm⟩;obtain⟨b,p,rfl,ep,hb⟩:=O.get hv;refine⟨b,_,rfl,aX.of (sm _ _ hb),rfl,_,_,rfl,ak ⟨_,_,rfl,ak ⟨rfl,?_⟩⟩⟩;refine⟨_,rfl,h,⟨_,_,rfl⟩,?_,?_,ae,bg hD sm⟩
    ·rw[take_one ep,Ya];rfl
    ·rw[X_,hi];rfl
   ·rintro σ ys H2 ⟨_,rfl,hyl,h,sm⟩;rw[z,YJ]at h hyl;refine⟨_,rfl,l,_,0,_,rfl,rfl,bb.of (sm _ _ hL.lst),az (j:=0) e0,_,rfl,a,_,1,_,rfl,rfl,aX.of (sm _ _ h1),rfl,_,_,rfl,rfl,a0,_,_,_,rfl,rfl,aX.of (sm _ _ lX),gW hc,?_⟩;refine⟨D,_,_,rfl,h,by omega,λv hv=>?_,λH3 s'=>q H3 (sm.trans s')⟩;obtain⟨p,hp,rfl⟩:=Yl.mp hv;exact(hg p hp).1
end My
namespace L2
open PySem PySem.Spec PyProof.Rows
def jy(K:YY)(d:Addr)(key:Str):Prop :=
 (d==sysModules)=false/\∃(es:Array DictEntry)(ep:Nat),K.lookup d=some ⟨.type "dict",none,.dict es ep,#[]⟩/\es.all (λe=>isExactStrKey e.key)=true/\es.findIdx? (λe=>e.key.isStr key)=none
inductive A5(K:YY)(x:V)(y:V)(H:Hp)(Q:VK):Prop
 |mk d k (_:x=.str k) (_:y=.ref d) (_:(((∃f,cM K d k f)/\Q (.bl false) H)\/(jy K d k/\Q (.bl true) H))):A5 K x y H Q
section
variable{X:Cx}
theorem pE:kj X (compareOp .NotIn) (A5 X.K):=by
 intro ac s σ H x y v u Q I rx ry h;obtain⟨d,k,rfl,rfl,h⟩:=h;cases ry;obtain⟨t,rfl⟩:=rx;rcases h with⟨⟨f,es,ep,i,hx,te,lk,ha,hi,he⟩,q⟩|⟨⟨hd,es,ep,lk,ha,hi⟩,q⟩
 ·have z:s.heap.get? d=some ⟨.type "dict",none,.dict es ep,#[]⟩:=I.mY _ _ lk;have U:s.TypeIs (.ref d) "dict":=⟨_,z,rfl⟩;have O:EP X ac σ Q (.bool false) {s with toks:=s.toks+1}:=⟨.bl false,H,I.kept (h':=s.heap) (t':=s.toks+1) λ_ _ e=>e,rfl,q⟩;show wpAny _ _ (do return Value.bool (!(←contains (.ref d) (.str k t)))) (EP X ac σ Q) X.xe s;refine X0 (wpAny_contains_slot U slot_dict_contains (YQ slot_dict_contains U entry_dict_contains ?_ (args_dict_contains _ _)));show wpAny _ _ (dictGet d (.str k t) >>= _) _ _ s;refine X0 ?_;unfold dictGet;try with_reducible refine Yy ?_
  refine X0 (wpAny_pyHash_str ?_);unfold dictFind;refine X0 ?_;try with_reducible refine Yy ?_
  refine X0 (wpAny_dictEntries (s:={s with toks:=s.toks+1}) z rfl ?_);dsimp only;rw[YG ha];unfold foundByValue;rw[hi];dsimp only;rw[he];dsimp only;refine X0 (wpAny_dictEpoch (s:={s with toks:=s.toks+1}) z rfl ?_);refine X0 (wpAny_eqBool_str ?_);refine X0 (wpAny_dictEpoch (s:={s with toks:=s.toks+1}) z rfl ?_);rw[YF (by simp),X8 rfl];refine X0 (wpAny_rule (X1 ?_));refine X0 (wpAny_dictEntries (s:={s with toks:=s.toks+1}) z rfl (X1 ?_));rw[he];show wpAny _ _ (ret (.bool true)) _ _ _;exact X1 ⟨_,rfl,wpAny_truthy_bool (X1 O)⟩
 ·have z:s.heap.get? d=some ⟨.type "dict",none,.dict es ep,#[]⟩:=I.mY _ _ lk;have U:s.TypeIs (.ref d) "dict":=⟨_,z,rfl⟩;have O:EP X ac σ Q (.bool true) {s with toks:=s.toks+1}:=⟨.bl true,H,I.kept (h':=s.heap) (t':=s.toks+1) λ_ _ e=>e,rfl,q⟩;show wpAny _ _ (do return Value.bool (!(←contains (.ref d) (.str k t)))) (EP X ac σ Q) X.xe s;refine X0 (wpAny_contains_slot U slot_dict_contains (YQ slot_dict_contains U entry_dict_contains ?_ (args_dict_contains _ _)));show wpAny _ _ (dictGet d (.str k t) >>= _) _ _ s;refine X0 ?_;unfold dictGet;try with_reducible refine Yy ?_
  refine X0 (wpAny_pyHash_str ?_);unfold dictFind;refine X0 ?_;try with_reducible refine Yy ?_
  refine X0 (wpAny_dictEntries (s:={s with toks:=s.toks+1}) z rfl ?_);dsimp only;rw[YG ha];unfold foundByValue;rw[hi];dsimp only;refine X1 ?_;show wpAny _ _ (pure none) _ _ _;refine X1 ?_;show wpAny _ _ (Builtin.Dict.pendingKey? d _ >>= _) _ _ _;exact X0 (wpAny_pendingKey_other hd (X1 ⟨_,rfl,wpAny_truthy_bool (X1 O)⟩))
end
end L2
namespace My
open PySem L2
def J0(P:Program)(w:World)(K:YY)(mg:Z0)(base:Heap)(aS:Addr)(n:Nat)(x:Wk):Prop :=
 (∃(f:Addr)(fd:FuncData),cM K aS x.nm f/\f_ P w K mg base bx 3 f fd Z7 (eF n bW (sE λy=>y=x))/\PySem.W.keepIn K (.ref f)=true/\Binds K fd Z7 [])\/(jy K aS x.nm/\∀hs,bW x hs=true)
theorem fH{n:Nat}{F:Wk->List Hd->Bool}{k k':Wk->Prop}(h:∀x,k' x->k x):∀vs H Q E,eF n F (sE k') vs H Q E->eF n F (sE k) vs H Q E:=by rintro vs H Q E ⟨a,l,x,as,hs,h1,h2,h3,h4,h5,⟨h6,h7⟩,h8⟩;exact⟨a,l,x,as,hs,h1,h2,h3,h4,h5,⟨h x h6,h7⟩,h8⟩
variable{P:Program}{w:World}{K:YY}{mg:Z0}{base:Heap}
theorem B4{n:Nat}{aS:Addr}{f1 f2 f3 f4 f5 U O z:Addr}
  (t1:cM K aS "keep" f1) (t2:cM K aS "same" f2) (t3:cM K aS "turn" f3) (t4:cM K aS "must" f4) (t5:cM K aS "walk" f5) (t6:cM K aS "sum" U) (t7:cM K aS "both" O) (t8:cM K aS "meet" z)
  (u1:jy K aS "cut") (u2:jy K aS "sort") (u3:jy K aS "apart") (u4:jy K aS "count") (u5:jy K aS "number") (u6:jy K aS "first")
  (G1:FnAt P w K mg base 1 f1 Z7 (eF n bW (sE λx=>∃c t,x=.one (.keep c t)))) (G2:FnAt P w K mg base 2 f2 Z7 (eF n bW (sE λx=>∃c d,x=.one (.same c d)))) (G3:FnAt P w K mg base 3 f3 Z7 (eF n bW (sE λx=>∃c ps,x=.one (.turn c ps)))) (G4:FnAt P w K mg base 3 f4 Z7 (eF n bW (sE λx=>∃c ps,x=.one (.must c ps))))
  (G5:FnAt P w K mg base 3 f5 Z7 (eF n bW (sE λx=>∃c mv,x=.one (.walk c mv)))) (G6:FnAt P w K mg base 1 U Z7 (eF n bW (sE λx=>∃cs c,x=.one (.sum cs c)))) (G7:FnAt P w K mg base 1 O Z7 (eF n bW (sE λx=>∃p q,x=.both p q))) (G8:FnAt P w K mg base 2 z Z7 (eF n bW (sE λx=>∃c d p q,x=.meet c d p q))):∀x,J0 P w K mg base aS n x:=by
 obtain⟨d1,G1,b1,k1⟩:=G1;obtain⟨d2,G2,b2,k2⟩:=G2;obtain⟨d3,G3,b3,k3⟩:=G3;obtain⟨d4,G4,b4,k4⟩:=G4;obtain⟨d5,G5,b5,k5⟩:=G5;obtain⟨d6,G6,b6,k6⟩:=G6;obtain⟨d7,G7,b7,k7⟩:=G7;obtain⟨d8,G8,b8,k8⟩:=G8;intro x;match x with
 | .one (.keep c t)=>exact .inl ⟨f1,d1,t1,(G1.imp (fH λ_ e=>⟨c,t,e⟩)).mono (by omega),k1,b1⟩
 | .one (.same c d)=>exact .inl ⟨f2,d2,t2,(G2.imp (fH λ_ e=>⟨c,d,e⟩)).mono (by omega),k2,b2⟩
 | .one (.turn c ps)=>exact .inl ⟨f3,d3,t3,G3.imp (fH λ_ e=>⟨c,ps,e⟩),k3,b3⟩
 | .one (.must c ps)=>exact .inl ⟨f4,d4,t4,G4.imp (fH λ_ e=>⟨c,ps,e⟩),k4,b4⟩
 | .one (.walk c mv)=>exact .inl ⟨f5,d5,t5,G5.imp (fH λ_ e=>⟨c,mv,e⟩),k5,b5⟩
 | .one (.sum cs c)=>exact .inl ⟨U,d6,t6,(G6.imp (fH λ_ e=>⟨cs,c,e⟩)).mono (by omega),k6,b6⟩
 | .both p q=>exact .inl ⟨O,d7,t7,(G7.imp (fH λ_ e=>⟨p,q,e⟩)).mono (by omega),k7,b7⟩
 | .meet c d p q=>exact .inl ⟨z,d8,t8,(G8.imp (fH λ_ e=>⟨c,d,p,q,e⟩)).mono (by omega),k8,b8⟩
 | .one (.cut _)=>exact .inr ⟨u1,λ_=>rfl⟩
 | .one (.sort _)=>exact .inr ⟨u2,λ_=>rfl⟩
 | .one .apart=>exact .inr ⟨u3,λ_=>rfl⟩
 | .one (.count _)=>exact .inr ⟨u4,λ_=>rfl⟩
 | .one .number=>exact .inr ⟨u5,λ_=>rfl⟩
 | .one (.first _)=>exact .inr ⟨u6,λ_=>rfl⟩
abbrev lW:Stmt:=top 33
theorem n8:ax ["worker","heads","fit"] Z7 (aq lW):=fs
theorem xW{n:Nat}{aS:Addr}(U:mg "SORTS_FIT"=some (.ref aS))(GS:∀x:Wk,J0 P w K mg base aS n x)(F:FA K mg "sorts_fit" lW) :
  bz bx P w K mg base 4 "sorts_fit" Z7 (eF n bW (sE λ_=>True)):=by
 refine F.ok n8 λf cdv A outer s H vs Q E hr h=>?_;obtain⟨a,l,x,as,hs,rfl,ha,hL,hn,z,ho,q⟩:=h;refine⟨_,(bE (eU pE (aJ K (pv 0) aj) (cZ rfl U (show RelV (.ref aS) (.ref aS) from rfl)) rfl) cR
   (ao (aU (i:=2) n8.nd rfl (YI rfl) (jv (r:=Cc K) oB (cZ rfl U (show RelV (.ref aS) (.ref aS) from rfl)) (aJ K (pv 0) aj) (λ_ _=>rfl)))
   (ay (oR (k:=3) (pv 2) hr tY (aa (pv 0) (aa (pv 1) ag)))))),?_⟩
 obtain⟨xs,h1⟩:=ha.first;obtain⟨_,hf,hg⟩:=ho;refine⟨_,rfl,a,_,0,_,rfl,rfl,aX.of h1,az (j:=0) rfl,aS,x.nm,rfl,rfl,?_⟩;rcases GS x with⟨g,gd,GU,FG,kG,bG⟩|⟨O,he⟩
 ·refine .inl ⟨⟨g,GU⟩,_,rfl,cK (bR ?_)⟩;refine⟨_,rfl,a,_,0,_,rfl,rfl,aX.of h1,az (j:=0) rfl,aS,x.nm,g,rfl,rfl,GU,ak ?_⟩;dsimp only;exact⟨_,rfl,g,gd,_,_,rfl,FG,kG,bG,_,rfl,_,rfl,a,l,x,as,hs,rfl,ha,hL,hn,z,⟨rfl,hf,hg⟩,q⟩
 ·refine .inr ⟨O,_,rfl,cJ ?_⟩;have q:=q H (aH.refl _);rw[he hs]at q;exact q
def Gw(h:Hd)(cs:List Int):Prop:=∀c∈cs,1<=c/\c<=h.length
inductive oG(vs:List V)(H:Hp)(Q:VK)(E:XK):Prop
 |mk (a b:Addr) (h:Hd) (cs:List Int) (_:vs=[.ref a,.ref b]) (_:iH H a h) (_:H b=some (.tup (cs.map V.int))) (_:cs.length<=1000) (_:Gw h cs) (_:∀(u:Addr)(H':Hp),aH H H'->iH H' u (cs.map (bK h))->Q (.ref u) H'):oG vs H Q E
abbrev rn:Stmt:=top 34
theorem C5:ax ["head","columns"] ["head","columns"] (aq rn):=fs
theorem CU(B:j_ mg)(F:FA K mg "picked" rn) :
  bz bx P w K mg base 1 "picked" ["head","columns"] oG:=by
 refine F.ok C5 λf cdv A outer s H vs Q E hr h=>?_;have O:=fJ hr;obtain⟨a,b,h,cs,rfl,ha,U,hz,ht,q⟩:=h;refine⟨_,(ay (bA bu rfl B.tuple YM (aa (bM (N':=["column","head"]) (src:=[none,some 0]) rfl (bq.jN (by kernel_rfl)) (cP (pv 1)) (λcl C s H fp=>(gg (i:=0))) (λcl C s H fp=>bD) (te:=(eC (jt K) (br 1) (eC (sy λi j=>V.int (i-j)) (br 0) (tC (.int 1))))) (λcl C s H fp=>(aJ K (oH 1) (aL bN (gK 0) aj)))) ag))),?_⟩;refine⟨_,rfl,b,rfl,⟨_,aX.of U⟩,λD z=>?_⟩;refine c_ (xs:=cs.map V.int) (λi σ ys H'=>(∃o,σ=[o,some (.ref a)])/\ys=((cs.take i).map (bK h)).map V.str/\ys.length=i/\H' D=some (.lst ys)/\aH H H') ⟨⟨none,rfl⟩,rfl,rfl,ae,ai z _⟩ ?_ ?_ ?_ ?_ ?_
 ·rintro i σ ys H' _ ⟨_,_,hi,h,_⟩;exact⟨h,YR hi⟩
 ·rintro i σ ys H' _ ⟨_,_,_,_,sm⟩;exact aX.of (sm _ _ U)
 ·rw[X9];exact X6 hz (by decide)
 ·rintro i v σ ys H' hv ⟨⟨o,rfl⟩,rfl,hi,hh,sm⟩;rw[Yu]at hv;cases ec:cs[i]? with
  |none=>rw[ec]at hv;cases hv
  |some c =>
   rw[ec]at hv;have hv:V.int c=v:=Yr hv;subst hv;refine⟨_,rfl,_,rfl,_,_,rfl,rfl,a,_,_,_,rfl,rfl,aX.of (sm _ _ ha),gW (ht c (Yf ec)),hh,⟨_,rfl⟩,?_,?_,ae,bg z sm⟩
   ·rw[take_one ec,Ya,Ya];rfl
   ·rw[X_,hi];rfl
 ·rintro σ ys H' ⟨_,rfl,_,hh,sm⟩;rw[X9,YJ]at hh;exact⟨D,_,rfl,.inl ⟨bb.of hh,λu O=>q u _ (sm.trans (ai O _)) ae⟩⟩
theorem A0{ts:List Str}{c:Int}(h1:1<=c)(h2:c<=ts.length):gI (ts.map V.str) none (some (c-1))=(ts.take (c-1).toNat).map V.str:=by have:=rq (xs:=ts.map V.str) (n:=(c-1).toNat) (by rw[X9];omega);rw[show(((c-1).toNat:Nat):Int)=c-1 by omega]at this;rw[this,List.map_take]
theorem uB{ts:List Str}{c:Int}(h1:1<=c)(h2:c<=ts.length):gI (ts.map V.str) (some c) none=(ts.drop c.toNat).map V.str:=by have:=xw (xs:=ts.map V.str) (n:=c.toNat) (by rw[X9];omega);rw[show((c.toNat:Nat):Int)=c by omega]at this;rw[this,List.map_drop]
def bc:Wk->List Hd->Hd
 | .one (.cut cs),hs=>cs.map (bK (hs.headD []))
 | .one (.must c ps),hs=>(hs.headD []).take (c-1).toNat++(ps.take 1).map (λp=>sW p.2)++(hs.headD []).drop c.toNat
 | .one (.walk _ _),hs=>hs.headD []++(["w"]:Hd)
 | .one (.count cs),hs=>cs.map (bK (hs.headD []))++(["t"]:Hd)
 | .one (.sum cs _),hs=>cs.map (bK (hs.headD []))++(["t"]:Hd)
 | .one .number,hs=>hs.headD []++(["t"]:Hd)
 | .meet _ d _ _,hs=>hs.headD []++(hs.getD 1 []).take (d-1).toNat++(hs.getD 1 []).drop d.toNat
 |_,hs=>hs.headD []
def Qh:Wk->Prop
 | .one (.must _ ps)=>ps≠[]
 |_=>True
structure RV(k:Wk->Prop)(x:Wk)(hs:List Hd):Prop where
 k:k x
 fit:eX x hs=true
 good:goodW x
 ne:Qh x
 sm:∀h∈hs,h.length<=1000
inductive dU(n:Nat)(k:Wk->Prop)(vs:List V)(H:Hp)(Q:VK)(E:XK):Prop
 |mk (a l:Addr) (x:Wk) (as:Z6) (hs:List Hd) (_:vs=[.ref a,.ref l]) (_:dZ n H a x) (_:oN H l as hs) (_:hs.length=DC x) (_:nI x) (_:RV k x hs) (_:∀u H',aH H H'->iH H' u (bc x hs)->Q (.ref u) H'):dU n k vs H Q E
theorem nz{a b:Addr}{xs ys:Hd}{H:Hp}{Q:VK}(h1:iH H a xs)(h2:iH H b ys)(hz:xs.length+ys.length<=100000)(q:∀t H',aH H H'->iH H' t (xs++ys)->Q (.ref t) H'):Ek (.ref a) (.ref b) H Q :=
 ⟨a,b,_,_,rfl,rfl,h1,h2,by rw[X9,X9];exact X6 hz (by decide),λt H' s' z=>q t H' s' (by rw[iH,Ya];exact z)⟩
abbrev iK:Stmt:=top 37
theorem qA:ax Z7 Z7 (aq iK):=fs
theorem ED{n:Nat}(F:FA K mg "head_of_walk" iK) :
  bz bx P w K mg base 1 "head_of_walk" Z7 (dU n (λx=>∃c mv,x=.one (.walk c mv))):=by
 refine F.ok qA λf cdv A outer s H vs Q E hr h=>?_;have O:=fJ hr;obtain⟨a,l,x,as,hs,rfl,ha,U,hn,hsm,z,q⟩:=h;refine⟨_,(ay (aL cO (bf K (pv 1) aj) (aW (aa aD ag)))),?_⟩;obtain⟨c,mv,rfl⟩:=z.k;obtain⟨hd,rfl⟩:=dY hn;obtain⟨a0,e0,lX⟩:=U.nth (i:=0) rfl;have hz:=z.sm hd (by simp);refine⟨_,rfl,l,_,0,_,rfl,rfl,bb.of U.lst,az (j:=0) e0,eG,λu O=>?_⟩;have su:=ai O (.tup [.str "w"]);exact nz (ys:=["w"]) (su _ _ lX) ae (by show _+1<=_;omega) λt H' s' ht=>q t H' (su.trans s') ht
abbrev gm:Stmt:=top 39
theorem oX:ax Z7 Z7 (aq gm):=fs
theorem Aw{n:Nat}{tk:Tok}(mT:mg "TALLY"=some (.str "t" tk))(F:FA K mg "head_of_number" gm) :
  bz bx P w K mg base 1 "head_of_number" Z7 (dU n (λx=>x=.one .number)):=by
 refine F.ok oX λf cdv A outer s H vs Q E hr h=>?_;have O:=fJ hr;obtain⟨a,l,x,as,hs,rfl,ha,U,hn,hsm,z,q⟩:=h;refine⟨_,(ay (aL cO (bf K (pv 1) aj) (aW (aa (cZ (v:=.str "t") rfl mT ⟨_,rfl⟩) ag)))),?_⟩;cases z.k;obtain⟨hd,rfl⟩:=dY hn;obtain⟨a0,e0,lX⟩:=U.nth (i:=0) rfl;have hz:=z.sm hd (by simp);refine⟨_,rfl,l,_,0,_,rfl,rfl,bb.of U.lst,az (j:=0) e0,eG,λu O=>?_⟩;have su:=ai O (.tup [.str "t"]);exact nz (ys:=["t"]) (su _ _ lX) ae (by show _+1<=_;omega) λt H' s' ht=>q t H' (su.trans s') ht
abbrev js:Stmt:=top 35
theorem q5:ax Z7 Z7 (aq js):=fs
theorem Jn{n:Nat}(F:FA K mg "head_of_cut" js)
  (rZ:bz bx P w K mg base 1 "picked" ["head","columns"] oG) :
  bz bx P w K mg base 2 "head_of_cut" Z7 (dU n (λx=>∃cs,x=.one (.cut cs))):=by
 refine F.ok q5 λf cdv A outer s H vs Q E hr h=>?_;obtain⟨a,l,x,as,hs,rfl,ha,U,hn,z,O,q⟩:=h;refine⟨_,(ay (aG rZ hr (aa (bf K (pv 1) aj) (aa (aJ K (pv 0) aj) ag)))),?_⟩;obtain⟨cs,rfl⟩:=O.k;obtain⟨hd,rfl⟩:=dY hn;obtain⟨a0,e0,lX⟩:=U.nth (i:=0) rfl;obtain⟨t,h1,h2⟩:=c7.mp ha;exact⟨_,rfl,l,_,0,_,rfl,rfl,bb.of U.lst,az (j:=0) e0,_,rfl,a,_,1,_,rfl,rfl,aX.of h1,rfl,a0,t,hd,cs,rfl,lX,h2,z,λc hc=>fv O.fit hc,q⟩
abbrev fO:Stmt:=top 38
theorem m_:ax Z7 Z7 (aq fO):=fs
theorem F6{n:Nat}{tk:Tok}(mT:mg "TALLY"=some (.str "t" tk))(F:FA K mg "head_of_tallied" fO)
  (rZ:bz bx P w K mg base 1 "picked" ["head","columns"] oG) :
  bz bx P w K mg base 2 "head_of_tallied" Z7 (dU n (λx=>∃cs,x=.one (.count cs)\/∃c,x=.one (.sum cs c))):=by
 refine F.ok m_ λf cdv A outer s H vs Q E U h=>?_;have hu:=fJ U;have O:=jF U;obtain⟨a,l,x,as,hs,rfl,ha,hL,hn,z,ho,q⟩:=h;refine⟨_,(ay (aL cO (aG rZ U (aa (bf K (pv 1) aj) (aa (aJ K (pv 0) aj) ag))) (aW (aa (cZ (v:=.str "t") rfl mT ⟨_,rfl⟩) ag)))),?_⟩;have key:∃(cs:List Int)(hd:Hd)(t y:Addr)(v:V)(vs:List V),hs=[hd]/\H a=some (.tup (v :: .ref t::vs))/\H t=some (.tup (cs.map V.int))/\cs.length<=1000/\Gw hd cs/\bc x hs=cs.map (bK hd)++(["t"]:Hd):=by
  obtain⟨cs,rfl|⟨c,rfl⟩⟩:=ho.k
  ·obtain⟨hd,rfl⟩:=dY hn;obtain⟨t,h1,h2⟩:=c7.mp ha;exact⟨cs,hd,t,t,_,_,rfl,h1,h2,z,λc hc=>fv ho.fit hc,rfl⟩
  ·obtain⟨hd,rfl⟩:=dY hn;obtain⟨t,h1,h2⟩:=c7.mp ha;exact⟨cs,hd,t,t,_,_,rfl,h1,h2,z,λc hc=>fv ho.fit (List.mem_append_left _ hc),rfl⟩
 obtain⟨cs,hd,t,_,v,vs,rfl,h1,h2,hz,hth,eh⟩:=key;obtain⟨a0,e0,lX⟩:=hL.nth (i:=0) rfl;refine⟨_,rfl,l,_,0,_,rfl,rfl,bb.of hL.lst,az (j:=0) e0,_,rfl,a,_,1,_,rfl,rfl,aX.of h1,az (j:=1) rfl,a0,t,hd,cs,rfl,lX,h2,hz,hth,λu1 H1 s1 O=>?_⟩;refine⟨eG,λu hu=>?_⟩;have su:=ai hu (.tup [.str "t"]);refine nz (ys:=["t"]) (su _ _ O) ae ?_ λt' H' s' ht=>q t' H' (s1.trans (su.trans s')) (by rw[eh];exact ht);rw[X9];show _+1<=_;omega
abbrev iu:Stmt:=top 40
theorem qp:ax Z7 Z7 (aq iu):=fs
theorem Fi{n:Nat}(F:FA K mg "head_of_meet" iu) :
  bz bx P w K mg base 1 "head_of_meet" Z7 (dU n (λx=>∃c d p q,x=.meet c d p q)):=by
 refine F.ok qp λf cdv A outer s H vs Q E hr h=>?_;obtain⟨a,l,x,as,hs,rfl,ha,O,hn,hsm,ho,q⟩:=h;refine⟨_,(ay (aL cO (aL cO (bf K (pv 1) aj) (dG iX (bf K (pv 1) aj) fX (dQ (aL bN (aJ K (pv 0) aj) aj)))) (dG iX (bf K (pv 1) aj) (dQ (aJ K (pv 0) aj)) fX))),?_⟩;obtain⟨c,d,p,q',rfl⟩:=ho.k;obtain⟨h0,h2,rfl⟩:=mq hn;obtain⟨a0,e0,lX⟩:=O.nth (i:=0) rfl;obtain⟨a1,e1,JP⟩:=O.nth (i:=1) rfl;have hz0:=ho.sm h0 (by simp);have hz1:=ho.sm h2 (by simp);have hf:(there c h0&&there d h2)=true:=ho.fit;rw[YC]at hf;obtain⟨d1,d2⟩:=mw hf.2;cases n with
 |zero=>exact YK ha
 |succ n =>
 obtain⟨b,e,bs,es,h1,_⟩:=ha;refine⟨_,rfl,l,_,0,_,rfl,rfl,bb.of O.lst,az (j:=0) e0,_,rfl,l,_,1,_,rfl,rfl,bb.of O.lst,az (j:=1) e1,?_⟩;refine⟨_,rfl,a,_,2,_,rfl,rfl,aX.of h1,rfl,_,_,rfl,rfl,_,rfl,a1,_,rfl,JP,λt1 H1 s1 U=>?_⟩;rw[A0 d1 d2]at U;refine nz (s1 _ _ lX) U (by rw[Yv];omega) λt2 H2 s2 De=>?_;have z:=s1.trans s2;refine⟨_,rfl,l,_,1,_,rfl,rfl,bb.of (z _ _ O.lst),az (j:=1) e1,_,rfl,a,_,2,_,rfl,rfl,aX.of (z _ _ h1),rfl,_,rfl,a1,_,rfl,z _ _ JP,λt3 H3 s3 NB=>?_⟩;rw[uB d1 d2]at NB;refine nz (s3 _ _ De) NB (by rw[X_,Yv,List.length_drop];omega) λt4 H4 s4 Ra=>q t4 H4 (z.trans (s3.trans s4)) Ra
abbrev iA:Stmt:=top 36
theorem gT:ax ["worker","heads","column","pairs","told"] Z7 (aq iA):=fs
theorem E1{n:Nat}(B:j_ mg)(F:FA K mg "head_of_must" iA)
  (jw:bz bx P w K mg base 1 "sort_of" ["cell"] iM) :
  bz bx P w K mg base 2 "head_of_must" Z7 (dU n (λx=>∃c ps,x=.one (.must c ps))):=by
 refine F.ok gT λf cdv A outer s H vs Q E hr h=>?_;have hu:=fJ hr;obtain⟨a,l,x,as,hs,rfl,ha,hL,hn,hsm,ho,q⟩:=h;refine⟨_,(ao (vp (i:=2) (j:=3) rfl gT.nd rfl rfl (by decide) rfl rfl (aa (aJ K (pv 0) aj) (aa (aJ K (pv 0) aj) ag)) rfl)
   (ao (fE (i:=4) (N':=["old","new"]) (src:=[none,none]) gT.nd rfl (YI rfl) rfl rfl (bq.jN (by kernel_rfl)) (cP (dG iX (pv 3) fX (dQ aj))) (g:=(n4 K 2 (cQ (b9 0) (cQ (b9 1) pC)))) (λcl C s H fp=>(bU rfl (ar (gg (i:=0)) (ar (gg (i:=1)) bF)))) (λcl C s H fp=>bD) (te:=(lj iM [] E0 (c6 (br 1) ll))) (λcl C s H fp=>(aG (hg:=GJ) jw hr (aa (gK 1) ag))))
   (ay (aL cO (aL cO (dG iX (bf K (pv 1) aj) fX (dQ (aL bN (pv 2) aj))) (M5 (bA bu rfl B.tuple YM (aa (pv 4) ag)) (dG iX (bf K (pv 1) aj) (dQ (aL bN (pv 2) aj)) (dQ (pv 2))))) (dG iX (bf K (pv 1) aj) (dQ (pv 2)) fX))))),?_⟩
 obtain⟨c,ps,rfl⟩:=ho.k;obtain⟨hd,rfl⟩:=dY hn;obtain⟨a0,e0,lX⟩:=hL.nth (i:=0) rfl;obtain⟨t,bs,h1,hI⟩:=c7.mp ha;obtain⟨c1,c2⟩:=fv ho.fit (c:=c) (by simp[fU]);have hz:=ho.sm hd (by simp);have z:ps≠[]:=ho.ne;have hg:∀p∈ps,nK p.1/\nK p.2:=ho.good;have Q4:gI (bs.map V.ref) none (some 1)=(bs.take 1).map V.ref:=by have e:=rq (xs:=bs.map V.ref) (n:=1) (by rw[X9,hI.len];cases ps with|nil=>exact YE rfl z|cons _ _=>simp);rw[List.map_take];exact e
 refine⟨_,rfl,a,_,1,_,rfl,rfl,aX.of h1,rfl,_,rfl,a,_,2,_,rfl,rfl,aX.of h1,rfl,_,_,rfl,?_⟩;dsimp only;refine⟨_,rfl,_,rfl,t,_,rfl,hI.tup,λt1 H1 s1 O=>?_⟩;rw[Q4]at O;refine⟨t1,rfl,⟨_,aX.of O⟩,λD hD=>?_⟩;have U:((bs.take 1).map V.ref).length=1:=by rw[X9,Yv,hI.len];cases ps with|nil=>exact YE rfl z|cons _ _=>simp
 refine c_ (xs:=(bs.take 1).map V.ref) (λi σ ys H'=>(∃o1 o2,σ=[o1,o2])/\ys=((ps.take i).map λp=>sW p.2).map V.str/\ys.length=i/\H' D=some (.lst ys)/\aH H1 H') ⟨⟨none,none,rfl⟩,rfl,rfl,ae,ai hD _⟩ ?_ ?_ ?_ ?_ ?_
 ·rintro i σ ys H' _ ⟨_,_,hi,h,_⟩;exact⟨h,YR hi⟩
 ·rintro i σ ys H' _ ⟨_,_,_,_,sm⟩;exact aX.of (sm _ _ O)
 ·rw[U];decide
 ·rintro i v σ ys H' hv ⟨⟨o1,o2,rfl⟩,rfl,hi,h,sm⟩;have hv':(bs.map V.ref)[i]? = some v:=by
   rw[List.map_take,List.getElem?_take]at hv;split at hv
   ·exact hv
   ·cases hv
  obtain⟨b,p,rfl,ep,hb⟩:=hI.get hv';refine⟨b,_,rfl,aX.of (sm _ _ (s1 _ _ hb)),rfl,_,_,rfl,ak ⟨_,_,rfl,ak ⟨rfl,?_⟩⟩⟩;refine⟨_,rfl,p.2,rfl,(hg p (Yf ep)).2,h,⟨_,_,rfl⟩,?_,?_,ae,bg hD sm⟩
  ·rw[take_one ep,Ya,Ya];rfl
  ·rw[X_,hi];rfl
 ·rintro σ ys H' ⟨_,rfl,hi,h,sm⟩;rw[U]at h hi;have s2:=s1.trans sm;refine ak ?_;dsimp only;refine⟨_,rfl,l,_,0,_,rfl,rfl,bb.of (s2 _ _ hL.lst),az (j:=0) e0,_,rfl,_,_,rfl,rfl,_,rfl,a0,_,rfl,s2 _ _ lX,λt3 H3 s3 NB=>?_⟩;rw[A0 c1 c2]at NB;refine⟨_,rfl,D,_,rfl,.inl ⟨bb.of (s3 _ _ h),λu hu=>⟨true,.inr (.inl ⟨_,aX.of ae,?_⟩),cJ ?_⟩⟩⟩
  ·cases ps with|nil=>exact YE rfl z|cons _ _=>rfl
  have su:=ai hu (.tup (((ps.take 1).map λp=>sW p.2).map V.str));refine nz (su _ _ NB) ae (by rw[Yv,X9,Yv];omega) λt4 H4 s4 Ra=>?_;have s5:=s2.trans (s3.trans (su.trans s4));refine⟨_,rfl,l,_,0,_,rfl,rfl,bb.of (s5 _ _ hL.lst),az (j:=0) e0,_,rfl,_,rfl,a0,_,rfl,s5 _ _ lX,λt6 H6 s6 GK=>?_⟩;rw[uB c1 c2]at GK;refine nz (s6 _ _ Ra) GK (by rw[X_,Yv,X9,Yv,List.length_drop];omega) λt7 H7 s7 M_=>q t7 H7 (s5.trans (s6.trans s7)) M_
def Dv(P:Program)(w:World)(K:YY)(mg:Z0)(base:Heap)(aT:Addr)(n:Nat)(x:Wk):Prop :=
 (∃(f:Addr)(fd:FuncData),cM K aT x.nm f/\f_ P w K mg base bx 2 f fd Z7 (dU n λy=>y=x)/\PySem.W.keepIn K (.ref f)=true/\Binds K fd Z7 [])\/(jy K aT x.nm/\∀hs,bc x hs=hs.headD [])
theorem fF{n:Nat}{k k':Wk->Prop}(h:∀x,k' x->k x):∀vs H Q E,dU n k' vs H Q E->dU n k vs H Q E:=by rintro vs H Q E ⟨a,l,x,as,hs,h1,h2,h3,h4,h5,⟨h6,h7,h8,h9,h10⟩,z⟩;exact⟨a,l,x,as,hs,h1,h2,h3,h4,h5,⟨h x h6,h7,h8,h9,h10⟩,z⟩
theorem zj{n:Nat}{aT:Addr}{f1 f2 f3 z f5 U:Addr}
  (t1:cM K aT "cut" f1) (t2:cM K aT "must" f2) (t3:cM K aT "walk" f3) (t4:cM K aT "count" z) (V3:cM K aT "sum" z) (t5:cM K aT "number" f5) (t6:cM K aT "meet" U)
  (u1:jy K aT "keep") (u2:jy K aT "same") (u3:jy K aT "turn") (u4:jy K aT "sort") (u5:jy K aT "apart") (u6:jy K aT "first") (u7:jy K aT "both")
  (G1:FnAt P w K mg base 2 f1 Z7 (dU n λx=>∃cs,x=.one (.cut cs))) (G2:FnAt P w K mg base 2 f2 Z7 (dU n λx=>∃c ps,x=.one (.must c ps))) (G3:FnAt P w K mg base 1 f3 Z7 (dU n λx=>∃c mv,x=.one (.walk c mv))) (O:FnAt P w K mg base 2 z Z7 (dU n λx=>∃cs,x=.one (.count cs)\/∃c,x=.one (.sum cs c)))
  (G5:FnAt P w K mg base 1 f5 Z7 (dU n λx=>x=.one .number)) (G6:FnAt P w K mg base 1 U Z7 (dU n λx=>∃c d p q,x=.meet c d p q)):∀x,Dv P w K mg base aT n x:=by
 obtain⟨d1,G1,b1,k1⟩:=G1;obtain⟨d2,G2,b2,k2⟩:=G2;obtain⟨d3,G3,b3,k3⟩:=G3;obtain⟨d4,O,b4,k4⟩:=O;obtain⟨d5,G5,b5,k5⟩:=G5;obtain⟨d6,G6,b6,k6⟩:=G6;intro x;match x with
 | .one (.cut cs)=>exact .inl ⟨f1,d1,t1,G1.imp (fF λ_ e=>⟨cs,e⟩),k1,b1⟩
 | .one (.must c ps)=>exact .inl ⟨f2,d2,t2,G2.imp (fF λ_ e=>⟨c,ps,e⟩),k2,b2⟩
 | .one (.walk c mv)=>exact .inl ⟨f3,d3,t3,(G3.imp (fF λ_ e=>⟨c,mv,e⟩)).mono (by omega),k3,b3⟩
 | .one (.count cs)=>exact .inl ⟨z,d4,t4,O.imp (fF λ_ e=>⟨cs,.inl e⟩),k4,b4⟩
 | .one (.sum cs c)=>exact .inl ⟨z,d4,V3,O.imp (fF λ_ e=>⟨cs,.inr ⟨c,e⟩⟩),k4,b4⟩
 | .one .number=>exact .inl ⟨f5,d5,t5,(G5.imp (fF λ_ e=>e)).mono (by omega),k5,b5⟩
 | .meet c d p q=>exact .inl ⟨U,d6,t6,(G6.imp (fF λ_ e=>⟨c,d,p,q,e⟩)).mono (by omega),k6,b6⟩
 | .one (.keep _ _)=>exact .inr ⟨u1,λ_=>rfl⟩
 | .one (.same _ _)=>exact .inr ⟨u2,λ_=>rfl⟩
 | .one (.turn _ _)=>exact .inr ⟨u3,λ_=>rfl⟩
 | .one (.sort _)=>exact .inr ⟨u4,λ_=>rfl⟩
 | .one .apart=>exact .inr ⟨u5,λ_=>rfl⟩
 | .one (.first _)=>exact .inr ⟨u6,λ_=>rfl⟩
 | .both _ _=>exact .inr ⟨u7,λ_=>rfl⟩
theorem FE{x:Wk}{hs:List Hd}(hn:hs.length=DC x):∃h0,hs[0]? = some h0/\hs.headD []=h0:=by
 cases hs with
 |nil=>cases x<;>cases hn
 |cons h0 r=>exact⟨h0,rfl,rfl⟩
abbrev ly:Stmt:=top 42
theorem ou:ax ["worker","heads","head_of_told"] Z7 (aq ly):=fs
theorem xq{n:Nat}{aT:Addr}(mH:mg "HEADS_TOLD"=some (.ref aT))(GH:∀x:Wk,Dv P w K mg base aT n x)(F:FA K mg "head_told" ly) :
  bz bx P w K mg base 3 "head_told" Z7 (dU n (λ_=>True)):=by
 refine F.ok ou λf cdv A outer s H vs Q E hr h=>?_;obtain⟨a,l,x,as,hs,rfl,ha,hL,hn,O,z,q⟩:=h;refine⟨_,(bE (eU pE (aJ K (pv 0) aj) (cZ rfl mH (show RelV (.ref aT) (.ref aT) from rfl)) rfl) (bf K (pv 1) aj)
   (ao (aU (i:=2) ou.nd rfl (YI rfl) (jv (r:=Cc K) oB (cZ rfl mH (show RelV (.ref aT) (.ref aT) from rfl)) (aJ K (pv 0) aj) (λ_ _=>rfl)))
   (ay (oR (k:=2) (pv 2) hr tY (aa (pv 0) (aa (pv 1) ag)))))),?_⟩
 obtain⟨xs,h1⟩:=ha.first;refine⟨_,rfl,a,_,0,_,rfl,rfl,aX.of h1,az (j:=0) rfl,aT,x.nm,rfl,rfl,?_⟩;rcases GH x with⟨g,gd,GU,FG,kG,bG⟩|⟨U,he⟩
 ·refine .inl ⟨⟨g,GU⟩,_,rfl,cK (bR ?_)⟩;refine⟨_,rfl,a,_,0,_,rfl,rfl,aX.of h1,az (j:=0) rfl,aT,x.nm,g,rfl,rfl,GU,ak ?_⟩;dsimp only;exact⟨_,rfl,g,gd,_,_,rfl,FG,kG,bG,_,rfl,_,rfl,a,l,x,as,hs,rfl,ha,hL,hn,O,⟨rfl,z.fit,z.good,z.ne,z.sm⟩,q⟩
 ·refine .inr ⟨U,_,rfl,cJ ?_⟩;obtain⟨h0,e0,eh⟩:=FE hn;obtain⟨a0,e0,lX⟩:=hL.nth e0;refine⟨_,rfl,l,_,0,_,rfl,rfl,bb.of hL.lst,az (j:=0) e0,q a0 H (aH.refl _) ?_⟩;rw[he hs,eh];exact lX
def cm:Wk->List (List Wk)
 | .one _=>[]
 | .both p q=>[p,q]
 | .meet _ _ p q=>[p,q]
inductive xZ(n:Nat)(vs:List V)(H:Hp)(Q:VK)(E:XK):Prop
 |mk (a:Addr) (x:Wk) (_:vs=[.ref a]) (_:dZ n H a x) (_:∀(u:Addr)(bs:Z6)(H':Hp),aH H H'->cn (jA (n-1)) H' u bs (cm x)->Q (.ref u) H'):xZ n vs H Q E
def Nu:List V:=[.str "both",.str "meet"]
def E9:List V:=[.str "keep",.str "same",.str "cut",.str "turn",.str "must"]
structure Iq(K:YY)(mg:Z0)(nm:Str)(a:Addr)(vs:List V):Prop where
 m:mg nm=some (.ref a)
 t:∀H,aX K H a vs
theorem AU{x y:Str}:Iz (.str x) (.str y)=decide (y=x):=by
 show(x==y)=_;by_cases h:x=y
 ·rw[h];simp
 ·rw[X7 (λe=>h e.symm)];exact beq_false_of_ne h
def gC:Wk->Bool
 | .one _=>false
 |_=>true
def cH(s:Str):Bool:=inV (.str s) E9
theorem Pa{x:Wk}:inV (.str x.nm) Nu=gC x:=by
 cases x with
 |one x=>cases x<;>(simp only[Wk.nm,W1.nm,gC];decide +kernel)
 |both p q=>simp only[Wk.nm,gC];decide +kernel
 |meet c d p q=>simp only[Wk.nm,gC];decide +kernel
theorem wL{us:List V}{a b:V}:gI (us++[a,b]) (some (-2)) none=[a,b]:=by
 unfold gI HT.fc;have z:(us++[a,b]).length=us.length+2:=by simp
 rw[z];show List.take (us.length+2-(if(-2:Int)<0 then((-2:Int)+((us.length+2:Nat):Int)).toNat else _)) (List.drop (if(-2:Int)<0 then((-2:Int)+((us.length+2:Nat):Int)).toNat else _) (us++[a,b]))=_;rw[YG (by decide)];have:((-2:Int)+((us.length+2:Nat):Int)).toNat=us.length:=by omega
 rw[this,List.drop_left];simp
abbrev jg:Stmt:=top 2
theorem rE:ax Z8 Z8 (aq jg):=fs
theorem Ln{n:Nat}{aB:Addr}(Cb:Iq K mg "BRANCHED" aB Nu)(F:FA K mg "branches_of" jg) :
  bz bx P w K mg base 1 "branches_of" Z8 (xZ n):=by
 refine F.ok rE λf cdv A outer s H vs Q E hr h=>?_;obtain⟨a,x,rfl,ha,q⟩:=h;refine⟨_,(ay (jx (eU dz (aJ K (pv 0) aj) (cZ (v:=.ref aB) rfl Cb.m rfl) rfl) (dG iX (pv 0) (dQ (Gs zX aj)) fX) (aW ag))),?_⟩;obtain⟨xs,h1⟩:=ha.first;refine⟨_,rfl,a,_,0,_,rfl,rfl,aX.of h1,az (j:=0) rfl,aB,Nu,rfl,.inr (Cb.t _),rfl,rfl,_,rfl,?_⟩;show if inV (.str x.nm) Nu=true then _ else _
 rw[Pa];cases x with
 |one x =>refine cK ⟨sG,λp hp=>q p [] _ (ai hp _) ⟨ae,rfl,λi a x e=>by cases e⟩⟩
 |both p q' =>
  cases n with
  |zero=>exact YK ha
  |succ n =>
  obtain⟨b,c,bs,cs,h1,h2,h3⟩:=ha;refine cJ ⟨_,rfl,_,rfl,_,rfl,a,_,rfl,h1,λt H' s' O=>?_⟩;rw[show [V.str "both",.ref b,.ref c]=[V.str "both"]++[.ref b,.ref c] from rfl,wL]at O;refine q t [b,c] H' s' ⟨O,rfl,λi a x z U=>?_⟩;have k:=aE.of s';match i with
  | 0=>cases z;cases U;exact jA.keep k ⟨bs,h2⟩
  | 1=>cases z;cases U;exact jA.keep k ⟨cs,h3⟩
  |i+2=>cases z
 |meet c d p q' =>
  cases n with
  |zero=>exact YK ha
  |succ n =>
  obtain⟨b,e,bs,es,h1,h2,h3⟩:=ha;refine cJ ⟨_,rfl,_,rfl,_,rfl,a,_,rfl,h1,λt H' s' O=>?_⟩;rw[show [V.str "meet",.int c,.int d,.ref b,.ref e]=[V.str "meet",.int c,.int d]++[.ref b,.ref e] from rfl,wL]at O;refine q t [b,e] H' s' ⟨O,rfl,λi a x z U=>?_⟩;have k:=aE.of s';match i with
  | 0=>cases z;cases U;exact jA.keep k ⟨bs,h2⟩
  | 1=>cases z;cases U;exact jA.keep k ⟨es,h3⟩
  |i+2=>cases z
def bh:Wk->Str
 | .one (.first n)=>if n<=0 then "first 0" else "first"
 |x=>x.nm
inductive vR(n:Nat)(vs:List V)(H:Hp)(Q:VK)(E:XK):Prop
 |mk (a:Addr) (x:Wk) (_:vs=[.ref a]) (_:dZ n H a x) (_:Q (.str (bh x)) H):vR n vs H Q E
theorem x_{x:Wk}(h:x.nm="first"):∃n,x=.one (.first n):=by
 revert h;cases x with
 |one x=>cases x<;>simp only[Wk.nm,W1.nm]<;>first | (intro h;exact⟨_,rfl⟩) | (intro h;exact YE h (by decide +kernel))
 |both p q=>simp only[Wk.nm];intro h;exact YE h (by decide +kernel)
 |meet c d p q=>simp only[Wk.nm];intro h;exact YE h (by decide +kernel)
theorem wY{x:Wk}(h:x.nm≠"first"):bh x=x.nm:=by
 cases x with
 |one x=>cases x<;>first|rfl|exact YE rfl h
 |both p q=>rfl
 |meet c d p q=>rfl
abbrev ji:Stmt:=top 43
theorem rX:ax Z8 Z8 (aq ji):=fs
theorem Jj{n:Nat}(F:FA K mg "name_passed" ji) :
  bz bx P w K mg base 1 "name_passed" Z8 (vR n):=by
 refine F.ok rX λf cdv A outer s H vs Q E O h=>?_;obtain⟨a,x,rfl,ha,q⟩:=h;refine⟨_,(bE (PW.pt (fM (ba bH (aJ K (pv 0) aj) aD) (gx (ba DU (aJ K (pv 0) aj) aj)))) aD
   (ay (aJ K (pv 0) aj))),?_⟩
 obtain⟨xs,h1⟩:=ha.first;refine⟨_,rfl,a,_,0,_,rfl,rfl,aX.of h1,az (j:=0) rfl,rfl,_,rfl,?_⟩;rw[eQ];by_cases e:x.nm="first"
 ·rw[X8 e];obtain⟨m,rfl⟩:=x_ e;have h1:H a=some (.tup [.str "first",.int m]):=c7.mp ha;refine cJ ⟨_,rfl,a,_,1,_,rfl,rfl,aX.of h1,rfl,_,_,rfl,rfl,_,rfl,?_⟩;have q:Q (.str (if m<=0 then "first 0" else "first")) H:=q;refine fY (λk=>?_) (λk=>bR ?_)
  ·rw[YG (YD k)]at q;exact q
  ·rw[YF (λz=>k (X8 z))]at q;exact⟨_,rfl,a,_,0,_,rfl,rfl,aX.of h1,rfl,q⟩
 ·rw[X7 e];rw[wY e]at q;exact cK (cK (bR ⟨_,rfl,a,_,0,_,rfl,rfl,aX.of h1,az (j:=0) rfl,q⟩))
structure Kn where
 hd:Hd
 ps:List Str
 lo:Bool
def iT(H:Hp)(a:Addr)(k:Kn):Prop:=∃h p,H a=some (.tup [.ref h,.ref p,.bl k.lo])/\iH H h k.hd/\iH H p k.ps
theorem iT.same{H H':Hp}{a:Addr}{k:Kn}(s:aH H H')(h:iT H a k):iT H' a k:=by obtain⟨u,p,h1,h2,h3⟩:=h;exact⟨u,p,s _ _ h1,s _ _ h2,s _ _ h3⟩
def mn:Wk->List Str->Bool
 | .one (.walk _ _),ps=>ps.all cH
 | .meet _ _ p q,_=>(p++q).all λw=>cH w.nm
 |_,_=>true
def Kh(x:Wk):Prop:=∀p∈cm x,p.length<=1000
inductive As(n:Nat)(vs:List V)(H:Hp)(Q:VK)(E:XK):Prop
 |mk (a b:Addr) (x:Wk) (k:Kn) (_:vs=[.ref a,.ref b]) (_:dZ n H a x) (_:iT H b k) (_:k.ps.length<=1000) (_:Kh x) (_:∀H',aH H H'->Q (.bl (mn x k.ps)) H'):As n vs H Q E
theorem IZ{x:Wk}(h:x.nm="walk"):∃c mv,x=.one (.walk c mv):=by
 revert h;cases x with
 |one x=>cases x<;>simp only[Wk.nm,W1.nm]<;>first | (intro h;exact⟨_,_,rfl⟩) | (intro h;exact YE h (by decide +kernel))
 |both p q=>simp only[Wk.nm];intro h;exact YE h (by decide +kernel)
 |meet c d p q=>simp only[Wk.nm];intro h;exact YE h (by decide +kernel)
theorem AJ{x:Wk}(h:x.nm="meet"):∃c d p q,x=.meet c d p q:=by
 revert h;cases x with
 |one x=>cases x<;>simp only[Wk.nm,W1.nm]<;>(intro h;exact YE h (by decide +kernel))
 |both p q=>simp only[Wk.nm];intro h;exact YE h (by decide +kernel)
 |meet c d p q=>intro h;exact⟨_,_,_,_,rfl⟩
theorem Ey{x:Wk}{ps:List Str}(h:x.nm≠"walk")(h2:x.nm≠"meet"):mn x ps=true:=by
 cases x with
 |one x=>cases x<;>first|rfl|exact YE rfl h
 |both p q=>rfl
 |meet c d p q=>exact YE rfl h2
abbrev ny:Stmt:=top 44
theorem yg:ax ZG ZG (aq ny):=fs
theorem zD{n:Nat}{z:Addr}(B2:nM mg)(Co:Iq K mg "ONE_ROW" z E9)(F:FA K mg "rows_fit" ny)
  (fk:bz bx P w K mg base 1 "branches_of" Z8 (xZ n)) :
  bz bx P w K mg base 2 "rows_fit" ZG (As n):=by
 refine F.ok yg λf cdv A outer s H vs Q E hr h=>?_;have hu:=fJ hr;obtain⟨a,b,x,k,rfl,ha,hk,hps,NP,q⟩:=h;refine⟨_,(bE (ba bH (aJ K (pv 0) aj) aD) (aP (ip rfl) rfl B2.all PyProof.Rows.boot_all (aa (bM (N':=["name"]) (src:=[none]) rfl (bq.jN (by kernel_rfl)) (cP (aJ K (pv 1) aj)) (λcl C s H fp=>(gg (i:=0))) (λcl C s H fp=>bD) (te:=(eC (F8 K false) (br 0) (tC (.ref z)))) (λcl C s H fp=>(jO dz (gK 0) (cZ (v:=.ref z) GJ Co.m rfl) rfl))) ag))
   (bE (ba bH (aJ K (pv 0) aj) aD) (aP (ip rfl) rfl B2.all PyProof.Rows.boot_all (aa (uI (N':=["branch","inner"]) (src:=[none,none]) rfl (bq.jN (by kernel_rfl)) (cP (aG fk hr (aa (pv 0) ag))) (λcl C s H fp=>(gg (i:=0))) (λcl C s H fp=>bD) (wi2:=(HW K (br 0))) (λcl C s H fp=>(cP (gK 0))) (λcl C s H fp=>(gg (i:=1))) (λcl C s H fp=>bD) (te:=(eC (F8 K false) (eC (jt K) (br 1) (tC (.int 0))) (tC (.ref z)))) (λcl C s H fp=>(jO dz (aJ K (gK 1) aj) (cZ (v:=.ref z) GJ Co.m rfl) rfl))) ag))
   (ay cR))),?_⟩
 obtain⟨xs,h1⟩:=ha.first;refine⟨_,rfl,a,_,0,_,rfl,rfl,aX.of h1,az (j:=0) rfl,rfl,_,rfl,?_⟩;rw[eQ];by_cases e:x.nm="walk"
 ·rw[X8 e];obtain⟨c,mv,rfl⟩:=IZ e;obtain⟨hh,p,hk1,hk2,U⟩:=hk;refine cJ ⟨_,rfl,b,_,1,_,rfl,rfl,aX.of hk1,rfl,p,rfl,⟨_,aX.of U⟩,λD O=>?_⟩;refine c_ (xs:=k.ps.map V.str) (λi σ ys H'=>(∃o,σ=[o])/\ys=((k.ps.take i).map cH).map V.bl/\ys.length=i/\H' D=some (.lst ys)/\aH H H') ⟨⟨none,rfl⟩,rfl,rfl,ae,ai O _⟩ ?_ ?_ ?_ ?_ ?_
  ·rintro i σ ys H' _ ⟨_,_,hi,h,_⟩;exact⟨h,YR hi⟩
  ·rintro i σ ys H' _ ⟨_,_,_,_,sm⟩;exact aX.of (sm _ _ U)
  ·rw[X9];exact X6 hps (by decide)
  ·rintro i v σ ys H' hv ⟨⟨o,rfl⟩,rfl,hi,h,sm⟩;rw[Yu]at hv;cases ec:k.ps[i]? with
   |none=>rw[ec]at hv;cases hv
   |some s0 =>
    rw[ec]at hv;have hv:V.str s0=v:=Yr hv;subst hv;refine⟨_,rfl,z,E9,rfl,.inr (Co.t _),rfl,rfl,h,⟨_,rfl⟩,?_,?_,ae,bg O sm⟩
    ·rw[take_one ec,Ya,Ya];rfl
    ·rw[X_,hi];rfl
  ·rintro σ ys H' ⟨_,rfl,_,h,sm⟩;rw[X9,YJ]at h;refine⟨D,_,rfl,bb.of h,?_⟩;rw[show(k.ps.map cH).all id=k.ps.all cH by rw[List.all_map];rfl];exact q H' sm
 ·rw[X7 e];refine cK (bR ⟨_,rfl,a,_,0,_,rfl,rfl,aX.of h1,az (j:=0) rfl,rfl,_,rfl,?_⟩);rw[eQ];by_cases e2:x.nm="meet"
  ·rw[X8 e2];obtain⟨c,d,p1,p2,rfl⟩:=AJ e2;refine cJ ⟨_,rfl,a,_,rfl,ha,λu bs H1 s1 hI=>⟨u,rfl,⟨_,aX.of hI.tup⟩,λD O=>?_⟩⟩;let ws:Nat->List Wk:=λi=>(([p1,p2]:List (List Wk)).take i).flatten
   have hw1:p1.length<=1000:=NP p1 (by simp[cm]);have hw2:p2.length<=1000:=NP p2 (by simp[cm]);have hlb:(bs.map V.ref).length=2:=by rw[X9,hI.len];rfl
   have hws:∀i,(ws i).length<=2000:=by
    intro i;match i with
    | 0=>exact Yq _
    | 1=>show(p1++[]).length<=_;rw[YO];omega
    |i+2=>show((p1::p2::List.take i []).flatten).length<=_;rw[List.take_nil];show(p1++(p2++[])).length<=_;rw[YO,X_];omega
   refine ur (xs:=bs.map V.ref) (λi σ ys H'=>(∃o1 o2,σ=[o1,o2])/\ys=(ws i).map (λw=>V.bl (cH w.nm))/\H' D=some (.lst ys)/\aH H1 H') ⟨⟨none,none,rfl⟩,rfl,ae,ai O _⟩ ?_ ?_ ?_ ?_
   ·rintro i σ ys H' _ ⟨_,_,h,_⟩;exact h
   ·rintro i σ ys H' _ ⟨_,_,_,sm⟩;exact aX.of (sm _ _ hI.tup)
   ·rintro i v σ ys H' hv ⟨⟨o1,o2,rfl⟩,rfl,h,sm⟩;obtain⟨b',pp,rfl,ep,cs,hJ⟩:=hI.get hv;have hpl:pp.length<=1000:=NP pp (Yf ep);refine ak ⟨_,rfl,b',rfl,⟨_,aX.of (sm _ _ hJ.tup)⟩,?_⟩;refine oZ (xs:=cs.map V.ref) (λj σ zs H2=>(∃o,σ=[some (.ref b'),o])/\zs=(ws i).map (λw=>V.bl (cH w.nm))++(pp.take j).map (λw=>V.bl (cH w.nm))/\H2 D=some (.lst zs)/\aH H1 H2) ⟨⟨o2,rfl⟩,by rw[List.take_zero,List.map_nil,YO],h,sm⟩ ?_ ?_ ?_ ?_
    ·rintro j σ zs H2 hj ⟨_,rfl,h2,_⟩;refine⟨h2,λ_=>?_⟩;rw[X_,X9,X9,Yv];have:=hws i;exact Yb (show _<=3000 by omega) (by decide)
    ·rintro j σ zs H2 _ ⟨_,_,_,s2⟩;exact aX.of (s2 _ _ hJ.tup)
    ·rintro j v2 σ zs H2 hu' ⟨⟨o,rfl⟩,rfl,h2,s2⟩;obtain⟨c',wk,rfl,ew,hW⟩:=hJ.get hu';obtain⟨ys',hW⟩:=hW.first;refine ak ⟨_,rfl,c',_,0,_,rfl,rfl,aX.of (s2 _ _ hW),az (j:=0) rfl,z,E9,rfl,.inr (Co.t _),rfl,rfl,h2,⟨_,rfl⟩,?_,ae,bg O s2⟩;rw[take_one ew,Ya,List.append_assoc];rfl
    ·rintro σ zs H2 ⟨⟨o,rfl⟩,rfl,h2,s2⟩;refine⟨⟨_,_,rfl⟩,?_,h2,s2⟩;rw[X9,hJ.len,YJ,←Ya];congr 1;show _=((cm (.meet c d p1 p2)).take (i+1)).flatten;rw[take_one ep,List.flatten_append];show _=_++(pp++[]);rw[YO];rfl
   ·rintro σ ys H' ⟨_,rfl,h,sm⟩;rw[hlb]at h;refine⟨D,(p1++p2).map λw=>cH w.nm,rfl,bb.of ?_,?_⟩
    ·rw[h,List.map_map];show some (HO.lst ((p1++(p2++[])).map _))=_;rw[YO];rfl
    ·rw[List.all_map];exact q H' (s1.trans sm)
  ·rw[X7 e2];rw[Ey e e2]at q;exact cK (bR (q H (aH.refl _)))
theorem ui(ss:List Str):(ss.map V.str).all lI=true:=by rw[List.all_eq_true];intro v hv;obtain⟨s,_,rfl⟩:=Yl.mp hv;rfl
def nQ(ps:List Str)(s:Str):Bool:=inV (.str s) (ps.map V.str)
theorem G9{ps:List Str}{s:Str}:nQ ps s=true↔s∈ps:=by
 unfold nQ inV;rw[List.any_eq_true];constructor
 ·rintro⟨v,hv,e⟩;obtain⟨t,z,rfl⟩:=Yl.mp hv;rw[AU]at e;rw[YD e];exact z
 ·intro h;exact⟨.str s,Yl.mpr ⟨s,h,rfl⟩,by rw[AU];exact X8 rfl⟩
def gp:Wk->Kn->Bool
 | .one (.keep c _),k=>decide (bK k.hd c="t")
 | .one (.first n),k=>decide (¬n<=0)&&(nQ k.ps "walk"||nQ k.ps "both"||nQ k.ps "meet")
 | .meet ..,k=>nQ k.ps "walk"||nQ k.ps "first"
 |_,_=>false
def keepIn(x:Wk)(h:Hd):Prop:=∀c t,x=.one (.keep c t)->1<=c/\c<=h.length
inductive vt(n:Nat)(vs:List V)(H:Hp)(Q:VK)(E:XK):Prop
 |mk (a b:Addr) (x:Wk) (k:Kn) (_:vs=[.ref a,.ref b]) (_:dZ n H a x) (_:iT H b k) (_:keepIn x k.hd) (_:∀H',aH H H'->Q (.bl (gp x k)) H'):vt n vs H Q E
theorem HY{x:Wk}(h:x.nm="keep"):∃c t,x=.one (.keep c t):=by
 revert h;cases x with
 |one x=>cases x<;>simp only[Wk.nm,W1.nm]<;>first | (intro h;exact⟨_,_,rfl⟩) | (intro h;exact YE h (by decide +kernel))
 |both p q=>simp only[Wk.nm];intro h;exact YE h (by decide +kernel)
 |meet c d p q=>simp only[Wk.nm];intro h;exact YE h (by decide +kernel)
theorem rK{x:Wk}:bh x="first"↔∃n,¬n<=(0:Int)/\x=.one (.first n):=by
 constructor
 ·intro h;by_cases e:x.nm="first"
  ·obtain⟨n,rfl⟩:=x_ e;refine⟨n,λz=>?_,rfl⟩;have h:(if n<=0 then("first 0" : Str)else "first")="first":=h;rw[YG z]at h;exact YE h (by decide +kernel)
  ·rw[wY e]at h;exact YE h e
 ·rintro⟨n,h,rfl⟩;show(if n<=0 then("first 0" : Str)else "first")="first";rw[YF h]
theorem C8{x:Wk}{k:Kn}(h1:x.nm≠"keep")(h2:bh x≠"first")(h3:x.nm≠"meet"):gp x k=false:=by
 match x with
 | .one (.keep _ _)=>exact YE rfl h1
 | .one (.first n) =>
  have:n<=0:=by
   by_cases z:n<=0
   ·exact z
   ·exact YE (rK.mpr ⟨n,z,rfl⟩) h2
  show(decide (¬n<=0)&&_)=false;rw[X7 (λz=>z this)];rfl
 | .meet ..=>exact YE rfl h3
 | .both ..=>rfl
 | .one (.same ..)=>rfl
 | .one (.cut ..)=>rfl
 | .one (.turn ..)=>rfl
 | .one (.must ..)=>rfl
 | .one (.walk ..)=>rfl
 | .one (.sort ..)=>rfl
 | .one .apart=>rfl
 | .one (.count ..)=>rfl
 | .one (.sum ..)=>rfl
 | .one .number=>rfl
abbrev jn:Stmt:=top 46
theorem gc:ax ["worker","known","head","passed","loose"] ZG (aq jn):=fs
theorem EX{n:Nat}{tk:Tok}(B3:Fw mg)(mT:mg "TALLY"=some (.str "t" tk))(F:FA K mg "makes_loose" jn)
  (i_:bz bx P w K mg base 1 "name_passed" Z8 (vR n)) :
  bz bx P w K mg base 2 "makes_loose" ZG (vt n):=by
 refine F.ok gc λf cdv A outer s H vs Q E hr h=>?_;have hu:=fJ hr;have z:=jF hr;obtain⟨a,b,x,k,rfl,ha,hk,hkp,q⟩:=h;refine⟨_,(ao (c8 (pv 1) (bU rfl (ar (aQ (i:=2) gc.nd rfl (YI rfl)) (ar (aQ (i:=3) gc.nd rfl (Or.inr rfl)) (ar (aQ (i:=4) gc.nd rfl (YI rfl)) bF)))))
   (bE (ba bH (aJ K (pv 0) aj) aD) (gH bH (aJ K (pv 2) (aL bN (aJ K (pv 0) aj) aj)) (cZ (v:=.str "t") rfl mT ⟨_,rfl⟩))
   (bE (ba bH (aG i_ hr (aa (pv 0) ag)) aD) (aP (pK rfl) rfl B3.any PyProof.Rows.boot_any (aa (bM (N':=["name","passed"]) (src:=[none,some 3]) rfl (bq.jN (by kernel_rfl)) (cP (aW (aa aD (aa aD (aa aD ag))))) (λcl C s H fp=>(gg (i:=0))) (λcl C s H fp=>bD) (te:=(eC (F8 K false) (br 0) (br 1))) (λcl C s H fp=>(jO dz (gK 0) (oH 1) rfl))) ag))
   (bE (ba bH (aJ K (pv 0) aj) aD) (aP (pK rfl) rfl B3.any PyProof.Rows.boot_any (aa (bM (N':=["name","passed"]) (src:=[none,some 3]) rfl (bq.jN (by kernel_rfl)) (cP (aW (aa aD (aa aD ag)))) (λcl C s H fp=>(gg (i:=0))) (λcl C s H fp=>bD) (te:=(eC (F8 K false) (br 0) (br 1))) (λcl C s H fp=>(jO dz (gK 0) (oH 1) rfl))) ag))
   (ay cR))))),?_⟩
 obtain⟨xs,h1⟩:=ha.first;obtain⟨hh,p,hk1,hk2,hk3⟩:=hk;refine⟨_,rfl,b,_,rfl,aX.of hk1,rfl,_,_,rfl,ak ⟨_,_,rfl,ak ⟨_,_,rfl,ak ⟨rfl,?_⟩⟩⟩⟩;dsimp only;refine⟨_,rfl,a,_,0,_,rfl,rfl,aX.of h1,az (j:=0) rfl,rfl,_,rfl,?_⟩;rw[eQ];by_cases e:x.nm="keep"
 ·rw[X8 e];obtain⟨c,t,rfl⟩:=HY e;obtain⟨st,ys,hx1,hx2⟩:=c7.mp ha;refine cJ ⟨_,rfl,_,rfl,a,_,1,_,rfl,rfl,aX.of hx1,rfl,_,_,rfl,rfl,hh,_,_,_,rfl,rfl,aX.of hk2,gW (hkp c t rfl),rfl,?_⟩;rw[eQ];exact q H (aH.refl _)
 rw[X7 e];refine cK (bR ⟨_,rfl,a,x,rfl,ha,rfl,_,rfl,?_⟩);rw[eQ];by_cases e2:bh x="first"
 ·rw[X8 e2];obtain⟨m,hm,rfl⟩:=rK.mp e2;refine cJ ⟨cz,λu hu=>?_⟩;have O:=ai hu (.tup [V.str "walk",.str "both",.str "meet"]);have z:upd H u (.tup [V.str "walk",.str "both",.str "meet"]) u=_:=ae;revert O z;generalize upd H u (.tup [V.str "walk",.str "both",.str "meet"])=H1;intro O z;refine⟨u,rfl,⟨_,aX.of z⟩,λD U=>?_⟩;refine c_ (xs:=(["walk","both","meet"]:List Str).map V.str) (λi σ ys H'=>(∃o,σ=[o,some (.ref p)])/\ys=(((["walk","both","meet"]:List Str).take i).map (nQ k.ps)).map V.bl/\ys.length=i/\H' D=some (.lst ys)/\aH H1 H') ⟨⟨none,rfl⟩,rfl,rfl,ae,ai U _⟩ ?_ ?_ ?_ ?_ ?_
  ·rintro i σ ys H' _ ⟨_,_,hi,h,_⟩;exact⟨h,YR hi⟩
  ·rintro i σ ys H' _ ⟨_,_,_,_,sm⟩;exact aX.of (sm _ _ z)
  ·decide
  ·rintro i v σ ys H' hv ⟨⟨o,rfl⟩,rfl,hi,h,sm⟩;rw[Yu]at hv;cases ec:(["walk","both","meet"]:List Str)[i]? with
   |none=>rw[ec]at hv;cases hv
   |some s0 =>
    rw[ec]at hv;have hv:V.str s0=v:=Yr hv;subst hv;refine⟨_,rfl,_,rfl,p,_,rfl,.inr (aX.of (sm _ _ (O _ _ hk3))),rfl,ui _,h,⟨_,rfl⟩,?_,?_,ae,bg U sm⟩
    ·rw[take_one ec,Ya,Ya];rfl
    ·rw[X_,hi];rfl
  ·rintro σ ys H' ⟨_,rfl,_,h,sm⟩;refine⟨D,_,rfl,bb.of h,?_⟩;have q:=q H' (O.trans sm);have q:Q (.bl (decide (¬m<=0)&&(nQ k.ps "walk"||nQ k.ps "both"||nQ k.ps "meet"))) H':=q;rw[X8 hm,Bool.true_and]at q;show Q (.bl (nQ k.ps "walk"||(nQ k.ps "both"||(nQ k.ps "meet"||false)))) H';rw[Bool.or_false,←Bool.or_assoc];exact q
 rw[X7 e2];refine cK (bR ⟨_,rfl,a,_,0,_,rfl,rfl,aX.of h1,az (j:=0) rfl,rfl,_,rfl,?_⟩);rw[eQ];by_cases e3:x.nm="meet"
 ·rw[X8 e3];obtain⟨c,d,p1,p2,rfl⟩:=AJ e3;refine cJ ⟨cS,λu hu=>?_⟩;have O:=ai hu (.tup [V.str "walk",.str "first"]);have z:upd H u (.tup [V.str "walk",.str "first"]) u=_:=ae;revert O z;generalize upd H u (.tup [V.str "walk",.str "first"])=H1;intro O z;refine⟨u,rfl,⟨_,aX.of z⟩,λD U=>?_⟩;refine c_ (xs:=(["walk","first"]:List Str).map V.str) (λi σ ys H'=>(∃o,σ=[o,some (.ref p)])/\ys=(((["walk","first"]:List Str).take i).map (nQ k.ps)).map V.bl/\ys.length=i/\H' D=some (.lst ys)/\aH H1 H') ⟨⟨none,rfl⟩,rfl,rfl,ae,ai U _⟩ ?_ ?_ ?_ ?_ ?_
  ·rintro i σ ys H' _ ⟨_,_,hi,h,_⟩;exact⟨h,YR hi⟩
  ·rintro i σ ys H' _ ⟨_,_,_,_,sm⟩;exact aX.of (sm _ _ z)
  ·decide
  ·rintro i v σ ys H' hv ⟨⟨o,rfl⟩,rfl,hi,h,sm⟩;rw[Yu]at hv;cases ec:(["walk","first"]:List Str)[i]? with
   |none=>rw[ec]at hv;cases hv
   |some s0 =>
    rw[ec]at hv;have hv:V.str s0=v:=Yr hv;subst hv;refine⟨_,rfl,_,rfl,p,_,rfl,.inr (aX.of (sm _ _ (O _ _ hk3))),rfl,ui _,h,⟨_,rfl⟩,?_,?_,ae,bg U sm⟩
    ·rw[take_one ec,Ya,Ya];rfl
    ·rw[X_,hi];rfl
  ·rintro σ ys H' ⟨_,rfl,_,h,sm⟩;refine⟨D,_,rfl,bb.of h,?_⟩;have q:=q H' (O.trans sm);have q:Q (.bl (nQ k.ps "walk"||nQ k.ps "first")) H':=q;show Q (.bl (nQ k.ps "walk"||(nQ k.ps "first"||false))) H';rw[Bool.or_false];exact q
 rw[X7 e3];rw[C8 e e2 e3]at q;exact cK (bR (q H (aH.refl _)))
def eE:Wk->Bool
 | .one (.must ..)=>true
 |_=>false
def vP(x:Wk)(k:Kn)(hs:List Hd):Option Str :=
 if eX x hs=true then
  if bW x hs=true then
   if(bc x hs).length<=6 then
    if mn x k.ps=true then
     if(eE x&&k.lo)=true then some "loose" else none
    else some "rows"
   else some "wide"
  else some "sort"
 else some "column"
def wV:Option Str->V
 |none=>.non
 |some s=>.str s
structure sY(x:Wk):Prop where
 sm:nI x
 good:goodW x
 ne:Qh x
 wide:Kh x
inductive Gn(n:Nat)(vs:List V)(H:Hp)(Q:VK)(E:XK):Prop
 |mk (a b l:Addr) (x:Wk) (k:Kn) (as:Z6) (hs:List Hd) (_:vs=[.ref a,.ref b,.ref l]) (_:dZ n H a x) (_:iT H b k) (_:oN H l as hs) (_:hs.length=DC x) (_:sY x) (_:k.ps.length<=1000) (_:(∀h∈hs,h.length<=1000)) (_:∀H',aH H H'->Q (wV (vP x k hs)) H'):Gn n vs H Q E
theorem IP{x:Wk}:decide (x.nm="must")=eE x:=by
 cases x with
 |one x=>cases x<;>(simp only[Wk.nm,W1.nm,eE];first|exact X8 rfl|decide +kernel|exact X7 (by decide +kernel))
 |both p q=>simp only[Wk.nm,eE];exact X7 (by decide +kernel)
 |meet c d p q=>simp only[Wk.nm,eE];exact X7 (by decide +kernel)
abbrev pB:Stmt:=top 45
theorem zP:ax ["worker","known","heads"] ["worker","known","heads"] (aq pB):=fs
theorem B9{n:Nat}(B:j_ mg){tw:Tok}(mW:mg "WIDEST_ROW"=some (.int 6 tw))(F:FA K mg "why_not" pB)
  (tP:bz bx P w K mg base 2 "columns_fit" Z7 (eF n eX λ_ _=>True))
  (wJ:bz bx P w K mg base 4 "sorts_fit" Z7 (eF n bW (sE λ_=>True)))
  (lR:bz bx P w K mg base 3 "head_told" Z7 (dU n λ_=>True))
  (zp:bz bx P w K mg base 2 "rows_fit" ZG (As n)) :
  bz bx P w K mg base 5 "why_not" ["worker","known","heads"] (Gn n):=by
 refine F.ok zP λf cdv A outer s H vs Q E hr h=>?_;have hu:=fJ hr;obtain⟨a,b,l,x,k,as,hs,rfl,ha,hk,hL,hn,hok,hps,U2,q⟩:=h;refine⟨_,(bE (pQ (je (aG tP hr (aa (pv 0) (aa (pv 2) ag))))) aD
   (bE (pQ (je (aG wJ hr (aa (pv 0) (aa (pv 2) ag))))) aD
   (bE (ba iO (aP aM rfl B.len YW (aa (aG lR hr (aa (pv 0) (aa (pv 2) ag))) ag)) (cZ (v:=.int 6) rfl mW ⟨_,rfl⟩)) aD
   (bE (pQ (je (aG zp hr (aa (pv 0) (aa (pv 1) ag))))) aD
   (bE (PW.pt (fM (ba bH (aJ K (pv 0) aj) aD) (gx (je (aJ K (pv 1) aj))))) aD
   (ay dk)))))),?_⟩
 unfold vP at q;refine⟨_,rfl,_,rfl,a,l,x,as,hs,rfl,ha,hL,hn,hok.sm,trivial,λH1 s1=>⟨_,rfl,?_⟩⟩;by_cases U:eX x hs=false
 ·rw[U];rw[YF (by rw[U];decide)]at q;exact cJ (q H1 s1)
 have U:eX x hs=true:=by simpa using U
 rw[U];rw[YG U]at q;have ha1:=ha.keep (aE.of s1);refine cK (bR ⟨_,rfl,_,rfl,a,l,x,as,hs,rfl,ha1,hL.same s1,hn,hok.sm,⟨trivial,U,hok.good⟩,λH2 s2=>⟨_,rfl,?_⟩⟩);have O:=s1.trans s2;by_cases e2:bW x hs=false
 ·rw[e2];rw[YF (by rw[e2];decide)]at q;exact cJ (q H2 O)
 have e2:bW x hs=true:=by simpa using e2
 rw[e2];rw[YG e2]at q;have ha2:=ha.keep (aE.of O);refine cK (bR ⟨_,rfl,_,rfl,a,l,x,as,hs,rfl,ha2,hL.same O,hn,hok.sm,⟨trivial,U,hok.good,hok.ne,U2⟩,λu H3 s3 hu=>?_⟩);have zL:=O.trans s3;refine⟨u,_,rfl,.inr (aX.of hu),_,_,rfl,rfl,_,rfl,?_⟩;rw[X9];by_cases e3:¬(bc x hs).length<=6
 ·rw[YF e3]at q;rw[X8 (show(6:Int)<((bc x hs).length:Nat) by omega)];exact cJ (q H3 zL)
 have e3:(bc x hs).length<=6:=by omega
 rw[YG e3]at q;rw[X7 (show¬(6:Int)<((bc x hs).length:Nat) by omega)];have ha3:=ha.keep (aE.of zL);refine cK (bR ⟨_,rfl,_,rfl,a,b,x,k,rfl,ha3,hk.same zL,hps,hok.wide,λH4 s4=>⟨_,rfl,?_⟩⟩);have GG:=zL.trans s4;by_cases e4:mn x k.ps=false
 ·rw[e4];rw[YF (by rw[e4];decide)]at q;exact cJ (q H4 GG)
 have e4:mn x k.ps=true:=by simpa using e4
 rw[e4];rw[YG e4]at q;have Sk:=ha.keep (aE.of GG);obtain⟨xs,h1⟩:=Sk.first;refine cK (bR ⟨_,rfl,a,_,0,_,rfl,rfl,aX.of h1,az (j:=0) rfl,rfl,_,rfl,?_⟩);rw[eQ,IP];cases e5:eE x with
 |false =>rw[e5]at q;exact cK (cK (bR (q H4 GG)))
 |true =>
  rw[e5,Bool.true_and]at q;obtain⟨hh,p,hk1,_⟩:=hk.same GG;refine cJ ⟨_,rfl,b,_,2,_,rfl,rfl,aX.of hk1,rfl,_,rfl,?_⟩;refine fY (λz=>?_) (λz=>bR ?_)
  ·rw[YG z]at q;exact q H4 GG
  ·rw[YF z]at q;exact q H4 GG
end My
namespace L2
open PySem PySem.Spec PyProof.Rows
section
variable{X:Cx}{N':List Str}{src:List (Option Nat)}{sc:Scope}{elt t1 i1 t2 i2:Expr}{f1 f2:List Expr}{pos:Pos}{wi wi2:TI}{g g2:TG}{tc we:TT}{te:TE}
theorem xr{i:Nat}{x:Str}{pos' O:Pos}(hN:X.N.Nodup)(hi':X.N[i]? = some x)(hx:Loc X.env.scope x)(hsw:swapsWith (tI elt t1 i1 f1 t2 i2 f2 sc pos) (some (.Name x pos')) O.line X.env=pure true)
  (hc:X.calm=true) (S:bq X.env.scope X.N N' src sc) (hi:PI X t1 i1 wi)
  (hg:∀cl C s H fp,PG (aV X N' sc cl C s H fp) t1 g) (ht:∀cl C s H fp,jK (aV X N' sc cl C s H fp) f1 tc)
  (hi2:∀cl C s H fp,PI (aV X N' sc cl C s H fp) t2 i2 wi2) (hg2:∀cl C s H fp,PG (aV X N' sc cl C s H fp) t2 g2) (De:∀cl C s H fp,jK (aV X N' sc cl C s H fp) f2 we)
  (he:∀cl C s H fp,PE (aV X N' sc cl C s H fp) elt te)
  (hf:X.fn x=true\/X.env.scope.names.lookup x=some .local:=by first|exact .inl rfl|exact .inr rfl|assumption)
  (hs:∀x,foldedSetIterable i1 X.env x=pure x:=by intro _;rfl) (hs2:∀(env:Env) x,foldedSetIterable i2 env x=pure x:=by intro _ _;rfl) :
  PS X (.Assign [.Name x pos'] (tI elt t1 i1 f1 t2 i2 f2 sc pos) O) (yl (Fm src wi g tc wi2 g2 we te) (b9 i)):=by
 intro ac s σ H D I h;rw[exec_Assign_Name_used _ _ _ _ hsw];refine X0 (wpAny_standAt (X0 ?_));show wpAny _ _ (comprehension _ _ _ _ _ _ _ _ >>= _) _ _ s;refine X0 (wpAny_comprehension_free (use:=some (assign (.Name x pos') X.env)) rfl hs (cX λy hy hk=>I.ok.has y.1 (S.free y hy hk)) S.kind (λy hy hl=>by rw[←hl];exact S.uniq y hy) ?_);refine cu (hi ac s σ H _ I h) λv s1 h1=>cu h1 λitv s2 h2=>?_;obtain⟨it,fp,tn,J,H2,e,I2,T,st2,HD,hW⟩:=h2;subst e;refine qh (Q:=λy H'=>D.nx (σ.set i (some y)) H') (RR:=λacc C=>compPost (model X.prog X.w) X.A X.xe (some (assign (.Name x pos') X.env)) _ acc C) hc S hg ht hi2 hg2 De he hs2 I2 T st2 HD hW ?_;intro D' C s5 H' m I5 n5 U q;refine wpAny_assign_Name (pM I5 hN hi' hx (show RelV (.ref D') (.ref D') from rfl) (λs6 I6 hsb=>?_) hf);obtain⟨a,sb,ha⟩:=hsb;have Rg:C≠a:=by
  rcases ha with z|z
  ·rw[z];exact U.2.1
  ·exact λe=>U.2.2.2.2.1 x a z e.symm
 refine⟨m,n5.sameBut sb Rg,λh' RZ=>?_⟩;refine X1 (X1 ?_);exact⟨_,H',I6.turned (t':=s6.toks) (λb o hb e=>(RZ.2 b hb).trans e) U.1 U.2.1 U.2.2.2.1 U.2.2.2.2.1 U.2.2.2.2.2,q⟩
end
end L2
namespace My
open PySem L2
structure kW(H:Hp)(l:Addr)(as:Z6)(ks:List Kn):Prop where
 lst:H l=some (.lst (as.map V.ref))
 len:as.length=ks.length
 at_:∀(i:Nat) a k,as[i]? = some a->ks[i]? = some k->iT H a k
theorem kW.same{H H':Hp}{l:Addr}{as:Z6}{ks:List Kn}(s:aH H H')(h:kW H l as ks):kW H' l as ks:=⟨s _ _ h.lst,h.len,λi a k z O=>(h.at_ i a k z O).same s⟩
theorem kW.get{H:Hp}{l:Addr}{as:Z6}{ks:List Kn}(h:kW H l as ks){i:Nat}{x:V}(z:(as.map V.ref)[i]? = some x):∃(a:Addr)(k:Kn),x=.ref a/\ks[i]? = some k/\iT H a k:=by
 rw[Yu]at z;cases e:as[i]? with
 |none=>rw[e]at z;cases z
 |some b =>
  rw[e]at z;have O:V.ref b=x:=Yr z;subst O;have hi:i<ks.length:=by rw[←h.len];exact(Yj.mp e).1
  have U:ks[i]? = some ks[i]:=Yd hi;exact⟨b,ks[i],rfl,U,h.at_ i b _ e U⟩
def E3(ps ns:List Str):Prop:=ps.Pairwise Pf/\∀s,s∈ps↔s∈ns
def mz(ks:List Kn):List Hd:=ks.map λk=>k.hd
structure Sg(x:Wk)(k:Kn)(ks:List Kn):Prop where
 n:ks.length=DC x
 ok:sY x
 fit:eX x (mz ks)=true
 keep:keepIn x k.hd
 hd:∀k∈ks,k.hd.length<=1000
 ps:∀k∈ks,k.ps.length<=20
inductive rz(n:Nat)(vs:List V)(H:Hp)(Q:VK)(E:XK):Prop
 |mk (a b l:Addr) (x:Wk) (k:Kn) (as:Z6) (ks:List Kn) (_:vs=[.ref a,.ref b,.ref l]) (_:dZ n H a x) (_:iT H b k) (_:kW H l as ks) (_:Sg x k ks) (_:∀(u:Addr)(k':Kn)(H':Hp),aH H H'->iT H' u k'->k'.hd=bc x (mz ks)->E3 k'.ps (ks.flatMap (λk=>k.ps)++[bh x])->k'.lo=(gp x k||ks.any λk=>k.lo)->Q (.ref u) H'):rz n vs H Q E
theorem FX{x:Wk}:DC x<=2:=by cases x<;>simp[DC]
theorem DL{ks:List Kn}{m:Nat}(z:ks.length<=m)(h:∀k∈ks,k.ps.length<=20):(ks.flatMap λk=>k.ps).length<=20*m:=by
 induction ks generalizing m with
 |nil=>exact Yq _
 |cons k ks U =>rw[List.flatMap_cons,X_];have h1:=h k (by simp);have h2:=U (m:=m-1) (by simp at z;omega) λk O=>h k (by simp[O]);simp at z;omega
theorem Bb{H:Hp}{D:Addr}{ks:List Kn}{bs:Z6}(h:H D=some (.lst (bs.map V.ref)))(U:bs.length=ks.length)(ha:∀(i:Nat) a k,bs[i]? = some a->ks[i]? = some k->iH H a k.hd):oN H D bs (mz ks):=by
 refine⟨h,by rw[U,mz,X9],λi a r O z=>?_⟩;rw[mz,Yu]at z;cases ek:ks[i]? with
 |none=>rw[ek]at z;cases z
 |some k =>rw[ek]at z;cases z;exact ha i a k O ek
abbrev iz:Stmt:=top 47
theorem kg:ax ["worker","known","told","names"] ["worker","known","told"] (aq iz):=fs
variable{P:Program}{w:World}{K:YY}{mg:Z0}{base:Heap}
theorem CD{n:Nat}(B:j_ mg)(B2:nM mg)(B3:Fw mg)(F:FA K mg "known_behind" iz)
  (lR:bz bx P w K mg base 3 "head_told" Z7 (dU n λ_=>True))
  (i_:bz bx P w K mg base 1 "name_passed" Z8 (vR n))
  (tx:bz bx P w K mg base 2 "makes_loose" ZG (vt n)) :
  bz bx P w K mg base 4 "known_behind" ["worker","known","told"] (rz n):=by
 refine F.ok kg λf cdv A outer s H vs Q E hr h=>?_;have hu:=fJ hr;have hu1:=jF hr;obtain⟨a,b,l,x,k,as,ks,rfl,ha,hk,hL,ho,q⟩:=h;refine⟨_,(ao (xr (i:=3) (N':=["head","passed","loose","name"]) (src:=[none,none,none,none]) kg.nd rfl (YI rfl) rfl rfl (bq.jN (by kernel_rfl)) (dg (pv 2)) (g:=(n4 K 3 (cQ (b9 0) (cQ (b9 1) (cQ (b9 2) pC))))) (λcl C s H fp=>(bU rfl (ar (gg (i:=0)) (ar (gg (i:=1)) (ar (gg (i:=2)) bF))))) (λcl C s H fp=>bD) (wi2:=(HW K (br 1))) (λcl C s H fp=>(cP (gK 1))) (λcl C s H fp=>(gg (i:=3))) (λcl C s H fp=>bD) (te:=(br 3)) (λcl C s H fp=>(gK 3)))
   (ay (aW (aa (aG lR hr (aa (pv 0) (aa (bM (N':=["head","passed","loose"]) (src:=[none,none,none]) rfl (bq.jN (by kernel_rfl)) (dg (pv 2)) (g:=(n4 K 3 (cQ (b9 0) (cQ (b9 1) (cQ (b9 2) pC))))) (λcl C s H fp=>(bU rfl (ar (gg (i:=0)) (ar (gg (i:=1)) (ar (gg (i:=2)) bF))))) (λcl C s H fp=>bD) (te:=(br 0)) (λcl C s H fp=>(gK 0))) ag))) (aa (bA bu rfl B.tuple YM (aa (yC rfl rfl B2.sorted rfl B2.set (aL gn (pv 3) (bw (aa (aG i_ hr (aa (pv 0) ag)) ag)))) ag)) (aa (N5 (aG tx hr (aa (pv 0) (aa (pv 1) ag))) (jq (aP (pK rfl) rfl B3.any PyProof.Rows.boot_any (aa (bM (N':=["head","passed","loose"]) (src:=[none,none,none]) rfl (bq.jN (by kernel_rfl)) (dg (pv 2)) (g:=(n4 K 3 (cQ (b9 0) (cQ (b9 1) (cQ (b9 2) pC))))) (λcl C s H fp=>(bU rfl (ar (gg (i:=0)) (ar (gg (i:=1)) (ar (gg (i:=2)) bF))))) (λcl C s H fp=>bD) (te:=(br 2)) (λcl C s H fp=>(gK 2))) ag)))) ag)))))),?_⟩
 have hn2:ks.length<=2:=by rw[ho.n];exact FX
 have hla:(as.map V.ref).length=ks.length:=by rw[X9,hL.len]
 refine⟨_,rfl,l,rfl,⟨_,bb.of hL.lst⟩,λD hD=>?_⟩;have hfl:∀i,((ks.take i).flatMap λk=>k.ps).length<=40:=λi=>DL (m:=2) (by rw[Yv];omega) λk hk=>ho.ps k (List.mem_of_mem_take hk);refine yR (xs:=as.map V.ref) (λi σ ys H'=>(∃o1 U o3 o4,σ=[o1,U,o3,o4])/\ys=((ks.take i).flatMap λk=>k.ps).map V.str/\H' D=some (.lst ys)/\aH H H') ⟨⟨none,none,none,none,rfl⟩,rfl,ae,ai hD _⟩ ?_ ?_ ?_ ?_
 ·rintro i σ ys H' _ ⟨_,_,h,_⟩;exact h
 ·rintro i σ ys H' _ ⟨_,_,_,sm⟩;exact bb.of (sm _ _ hL.lst)
 ·rintro i v σ ys H' hv ⟨⟨o1,U,o3,o4,rfl⟩,rfl,h,sm⟩;obtain⟨b',k',rfl,ek,hh,p,hk1,hk2,hk3⟩:=hL.get hv;have hpl:k'.ps.length<=20:=ho.ps k' (Yf ek);refine⟨b',_,rfl,aX.of (sm _ _ hk1),rfl,_,_,rfl,ak ⟨_,_,rfl,ak ⟨_,_,rfl,ak ⟨rfl,?_⟩⟩⟩⟩;refine⟨_,rfl,p,rfl,⟨_,aX.of (sm _ _ hk3)⟩,?_⟩;refine oZ (xs:=k'.ps.map V.str) (λj σ zs H2=>(∃o1 U o3 o4,σ=[o1,U,o3,o4])/\zs=((ks.take i).flatMap λk=>k.ps).map V.str++(k'.ps.take j).map V.str/\H2 D=some (.lst zs)/\aH H H2) ⟨⟨_,_,_,_,rfl⟩,by rw[List.take_zero,List.map_nil,YO],h,sm⟩ ?_ ?_ ?_ ?_
  ·rintro j σ zs H2 hj ⟨_,rfl,h2,_⟩;refine⟨h2,λ_=>?_⟩;rw[X_,X9,X9,Yv];have:=hfl i;exact Yb (show _<=60 by omega) (by decide)
  ·rintro j σ zs H2 _ ⟨_,_,_,s2⟩;exact aX.of (s2 _ _ hk3)
  ·rintro j v2 σ zs H2 hu' ⟨⟨o1,U,o3,o4,rfl⟩,rfl,h2,s2⟩;rw[Yu]at hu';cases es:k'.ps[j]? with
   |none=>rw[es]at hu';cases hu'
   |some s0 =>rw[es]at hu';have hv2:V.str s0=v2:=Yr hu';subst hv2;refine ak ⟨_,rfl,h2,⟨_,_,_,_,rfl⟩,?_,ae,bg hD s2⟩;rw[take_one es,Ya,List.append_assoc];rfl
  ·rintro σ zs H2 ⟨⟨o1,U,o3,o4,rfl⟩,rfl,h2,s2⟩;refine⟨⟨_,_,_,_,rfl⟩,?_,h2,s2⟩;rw[X9,YJ,←Ya,take_one ek,List.flatMap_append];show _=(_++(k'.ps++[])).map V.str;rw[YO]
 ·rintro σ ys H1 ⟨_,rfl,h1,s1⟩;rw[hla,YJ]at h1;have hfl:=hfl ks.length;rw[YJ]at hfl;refine ak ?_;dsimp only;have hL1:=hL.same s1;refine⟨_,rfl,_,rfl,l,rfl,⟨_,bb.of hL1.lst⟩,λD2 hD2=>?_⟩;refine el (xs:=as.map V.ref) (λi σ ys H'=>(∃o1 U o3,σ=[o1,U,o3])/\(∃bs:Z6,ys=bs.map V.ref/\bs.length=i/\∀(j:Nat) a k,bs[j]? = some a->ks[j]? = some k->iH H1 a k.hd)/\H' D2=some (.lst ys)/\aH H1 H') ⟨⟨none,none,none,rfl⟩,⟨[],rfl,rfl,λj a k e=>by cases e⟩,ae,ai hD2 _⟩ ?_ ?_ ?_ ?_ ?_
  ·rintro i σ ys H' _ ⟨_,⟨bs,rfl,hi,_⟩,h,_⟩;exact⟨h,by rw[X9];exact YR hi⟩
  ·rintro i σ ys H' _ ⟨_,_,_,sm⟩;exact bb.of (sm _ _ hL1.lst)
  ·rw[hla];exact X6 hn2 (by decide)
  ·rintro i v σ ys H' hv ⟨⟨o1,U,o3,rfl⟩,⟨bs,rfl,hi,hb⟩,h,sm⟩;obtain⟨b',k',rfl,ek,hh,p,hk1,hk2,hk3⟩:=hL1.get hv;refine⟨b',_,rfl,aX.of (sm _ _ hk1),rfl,_,_,rfl,ak ⟨_,_,rfl,ak ⟨_,_,rfl,ak ⟨rfl,?_⟩⟩⟩⟩;refine⟨_,rfl,h,⟨_,_,_,rfl⟩,⟨bs++[hh],by rw[Ya];rfl,by rw[X_,hi];rfl,λj a k z e2=>?_⟩,ae,bg hD2 sm⟩;by_cases hj:j<bs.length
   ·rw[Yt hj]at z;exact hb j a k z e2
   ·have hj':j=bs.length:=by have:=(Yj.mp z).1;rw[X_]at this;simp at this;omega
    rw[hj',Ys (X5 _),Nat.sub_self]at z;cases z;rw[hj',hi,ek]at e2;cases e2;exact hk2
  ·rintro σ ys H2 ⟨_,⟨bs,rfl,hi,hb⟩,h2,s2⟩;rw[hla]at hi;have s12:=s1.trans s2;refine⟨a,D2,x,bs,mz ks,rfl,ha.keep (aE.of s12),Bb h2 hi (λi a k z e2=>s2 _ _ (hb i a k z e2)),by rw[mz,X9,ho.n],ho.ok.sm,⟨trivial,ho.fit,ho.ok.good,ho.ok.ne,λh hh=>by obtain⟨k,hk,rfl⟩:=Yl.mp hh;exact ho.hd k hk⟩,λu1 H3 s3 hu1=>?_⟩;have zL:=s12.trans s3;refine⟨_,rfl,_,rfl,a,x,rfl,ha.keep (aE.of zL),eG,λu2 hu2=>?_⟩;have s4:=ai hu2 (.lst [V.str (bh x)]);refine⟨D,u2,_,_,rfl,rfl,s4 _ _ (s3 _ _ (s2 _ _ h1)),ae,by rw[X9];exact X6 (show _+1<=41 by omega) (by decide),λu3 mU=>?_⟩;have s5:=ai mU (.lst (((ks.flatMap λk=>k.ps).map V.str)++[V.str (bh x)]));have hmap:(ks.flatMap λk=>k.ps).map V.str++[V.str (bh x)]=((ks.flatMap λk=>k.ps)++[bh x]).map V.str:=by rw[Ya];rfl
   refine⟨u3,_,rfl,.inl (bb.of ae),?_,.inr ⟨_,hmap⟩,λu4 ys ku hS=>?_⟩
   ·rw[X_,X9];show _+1<64;omega
   have s6:=ai ku (.lst ys);have hys:∃O:List Str,ys=O.map V.str/\E3 O ((ks.flatMap λk=>k.ps)++[bh x]):=by
    rcases hS with⟨ns,O,z,e2,_⟩|⟨ns,O,z,e2,e3,e4⟩
    ·rw[hmap]at z;cases ns with
     |nil=>rw[Ya]at z;simp at z
     |cons n ns =>
      exfalso;have:V.int n∈((ks.flatMap λk=>k.ps)++[bh x]).map V.str:=by rw[z];simp
      obtain⟨s,_,e⟩:=Yl.mp this;cases e
    ·rw[hmap]at z;have:ns=(ks.flatMap λk=>k.ps)++[bh x]:=(List.map_inj_right (f:=V.str) (λa b e=>V.str.inj e)).mp z.symm;subst this;exact⟨O,e2,e3,e4⟩
   obtain⟨O,rfl,hms⟩:=hys;refine⟨u4,_,rfl,.inl ⟨bb.of ae,λu5 Jl=>?_⟩⟩;have s7:=ai Jl (.tup (O.map V.str));have Qg:=s4.trans (s5.trans (s6.trans s7));have K4:upd (upd (upd (upd H3 u2 (.lst [V.str (bh x)])) u3 (.lst (((ks.flatMap λk=>k.ps).map V.str)++[V.str (bh x)]))) u4 (.lst (O.map V.str))) u5 (.tup (O.map V.str)) u5=some (.tup (O.map V.str)):=ae;revert Qg K4;generalize upd (upd (upd (upd H3 u2 (.lst [V.str (bh x)])) u3 (.lst (((ks.flatMap λk=>k.ps).map V.str)++[V.str (bh x)]))) u4 (.lst (O.map V.str))) u5 (.tup (O.map V.str))=H4;intro Qg K4;have GG:=zL.trans Qg;refine⟨_,rfl,_,rfl,a,b,x,k,rfl,ha.keep (aE.of GG),hk.same GG,ho.keep,λH5 s8=>?_⟩;have TR:=GG.trans s8;have fin:∀(v:Bool)(H6:Hp),aH H5 H6->v=(gp x k||ks.any λk=>k.lo)->∀u6,H6 u6=none->Q (.ref u6) (upd H6 u6 (.tup [.ref u1,.ref u5,.bl v])):=by intro v H6 s9 hv u6 DH;have qN:=ai DH (.tup [.ref u1,.ref u5,.bl v]);have Px:=(s8.trans s9).trans qN;exact q u6 ⟨bc x (mz ks),O,v⟩ _ ((TR.trans s9).trans qN) ⟨u1,u5,ae,Px _ _ (Qg _ _ hu1),Px _ _ K4⟩ rfl hms hv
   refine⟨_,rfl,fY (λe=>?_) (λe=>?_)⟩
   ·exact⟨cz,fin true H5 (aH.refl _) (by rw[e];rfl)⟩
   have O6:=hL.same TR;refine⟨_,rfl,l,rfl,⟨_,bb.of O6.lst⟩,λD3 A9=>?_⟩;refine el (xs:=as.map V.ref) (λi σ ys H'=>(∃o1 U o3,σ=[o1,U,o3])/\ys=((ks.take i).map λk=>k.lo).map V.bl/\ys.length=i/\H' D3=some (.lst ys)/\aH H5 H') ⟨⟨none,none,none,rfl⟩,rfl,rfl,ae,ai A9 _⟩ ?_ ?_ ?_ ?_ ?_
   ·rintro i σ ys H' _ ⟨_,_,hi,h,_⟩;exact⟨h,YR hi⟩
   ·rintro i σ ys H' _ ⟨_,_,_,_,sm⟩;exact bb.of (sm _ _ O6.lst)
   ·rw[hla];exact X6 hn2 (by decide)
   ·rintro i v σ ys H' hv ⟨⟨o1,U,o3,rfl⟩,rfl,hi,h,sm⟩;obtain⟨b',k',rfl,ek,hh,p,hk1,hk2,hk3⟩:=O6.get hv;refine⟨b',_,rfl,aX.of (sm _ _ hk1),rfl,_,_,rfl,ak ⟨_,_,rfl,ak ⟨_,_,rfl,ak ⟨rfl,?_⟩⟩⟩⟩;refine⟨_,rfl,h,⟨_,_,_,rfl⟩,?_,?_,ae,bg A9 sm⟩
    ·rw[take_one ek,Ya,Ya];rfl
    ·rw[X_,hi];rfl
   ·rintro σ ys H' ⟨_,rfl,_,h,sm⟩;rw[hla,YJ]at h;refine⟨D3,_,rfl,bb.of h,cz,fin _ H' sm ?_⟩;rw[Yn.mpr e,Bool.false_or,List.any_map];rfl
end My
namespace L2
open PySem PySem.Spec PyProof.Rows
section
variable{X:Cx}{tg e:Expr}
theorem PG.BF{g:TG}(h:PG X.BF tg g):PG X tg g:=λac s σ H v u Q I r U =>
 Yx (h ac s σ H v u Q (I.wish _) r U) (λ_ _ ⟨σ',H',O,q⟩=>⟨σ',H',O.eY,q⟩) λ_ _ z=>YK z
theorem jK.BF{ifs:List Expr}{t:TT}(h:jK X.BF ifs t):jK X ifs t:=λac s σ H Q I U =>
 Yx (h ac s σ H Q (I.wish _) U) (λ_ _ ⟨H',O,q⟩=>⟨H',O.eY,q⟩) λ_ _ z=>YK z
end
section
variable{X:Cx}{elt target iter:Expr}{ifs:List Expr}{sc:Scope}{pos:Pos}{wi:TI}{g:TG}{tc:TT}{te:TE}{N':List Str}{src:List (Option Nat)}{E:XK}{L:Addr}
theorem Ap{ac:eN}{σ:St}{H2:Hp}{O:Shared}{fp:Z6}{cl:List (Str×Addr)}{use:Option (Value->Sem Unit)}{QQ:nT}{acc:Value}{ev:Value}{s':Shared}(tp:Top X L)(I3:Inv X ac σ H2 O)
  (f3:∀b∈fp,eI X ac H2 b) (h:XE (aV X N' sc cl O.heap.objs.size O H2 fp) E ev s') :
  notedBy (model X.prog X.w) X.A (compEnvC sc cl O.heap.objs.size X.env) (λx s''=>compPost (model X.prog X.w) X.A (XE X E) use QQ acc O.heap.objs.size (.error x) s'') ev s':=by
 obtain⟨e,C,od,σ',H,rfl,I,f,hE⟩:=h;have VE:Top (aV X N' sc cl O.heap.objs.size O H2 fp) L:=⟨tp.ex,tp.fr⟩;refine v8 (X:=aV X N' sc cl O.heap.objs.size O H2 fp) I.ok.frames VE tp.fr I f λs5 T I5 f5=>?_;obtain⟨m6,n6,_⟩:=id I5.loc;have fin:∃m,s5.heap.Ns O.heap.objs.size m/\∀h',Heap.SameBut O.heap.objs.size s5.heap h'->∀U:Env,U.locals=O.heap.objs.size->wpAny (model X.prog X.w) X.A (PySem.passOn "comprehension.variables-let-go" (.ref e) U:Sem Value) (λ_ _=>False) (XE X E) {s5 with heap:=h'}:=by
  refine⟨m6,n6,λh' sb U hcl=>?_⟩;have J:Inv X [] σ H s5:=(I3.call' I5.os I5.base I5.hok I5.bare λb hb=>⟨(f3 b hb).2.2.2.1,(f3 b hb).2.1,(f3 b hb).2.2.2.2.1,(f3 b hb).2.2.2.2.2⟩).iV (pins':=[]) λp hp=>YE hp (by simp);have fC:eI X [] H O.heap.objs.size:=by have z:=I3.pH (H':=H) (b:=O.heap.objs.size) (X5 _) I5.free;exact⟨z.1,z.2.1,z.2.2.1,z.2.2.2.1,z.2.2.2.2.1,λp hp=>z.2.2.2.2.2 p (List.mem_append_left _ (by simpa using hp))⟩
  have J2:Inv X [] σ H {s5 with heap:=h'}:=J.turned (t':=s5.toks) (λb o hb z=>(sb.2 b hb).trans z) fC.1 fC.2.1 fC.2.2.2.1 fC.2.2.2.2.1 fC.2.2.2.2.2;obtain⟨vs,sl,g1,g2⟩:=f5.obj;obtain⟨oT,ts,t1,t2,t3⟩:=f5.tb.obj;have M8:∀b,H b≠none->b≠O.heap.objs.size:=λb hb z=>hb (by rw[z];exact I5.free);have neT:T≠O.heap.objs.size:=λz=>by obtain⟨o,es,ep,ho,hd,_⟩:=n6;have ho':s5.heap.get? O.heap.objs.size=some o:=ho;rw[z,ho']at t1;cases t1;rw[hd]at t2;cases t2
  have f6:rV X H h' e C od T:=⟨f5.at_,⟨vs,sl,(sb.2 e (M8 e (by rw[f5.at_];simp))).trans g1,g2⟩,f5.tb.free,X6 I3.sz f5.tb.new,λp hp z=>by have:=(I3.pin p (List.mem_append_left _ hp)).1;exact YE (Yc (X3 this) f5.tb.new) (by rw[z];exact Nat.lt_irrefl _),oT,ts,(sb.2 T neT).trans t1,t2,t3⟩
  obtain⟨vs',sl',WY,Nj⟩:=f6.obj;unfold PySem.passOn;refine X0 (wpAny_field WY rfl Nj ?_);have ne:¬((Value.ref T==Value.none)=true):=by simp
  rw[YF ne];have go:=pV (M:=model X.prog X.w) (A:=X.A) (E:=XE X E) (Q:=λ_ s7=>wpAny (model X.prog X.w) X.A (throw (.ref e):Sem Value) (λ_ _=>False) (XE X E) s7) J2 f6 U.frame λs7 I7 f7=>wpAny_throw ⟨e,C,od,σ,H,rfl,I7,f7.T7,hE⟩;first
   |exact X0 go
   |exact X0 (X1 (X0 go))
 cases use<;>exact fin
theorem Cv(hc:X.calm=true)(tp:Top X L)(S:bq X.env.scope X.N N' src sc)(hi:PI (X.xs E) target iter wi)
  (hg:∀cl C s H fp,PG ((aV X N' sc cl C s H fp).xs E) target g) (ht:∀cl C s H fp,jK ((aV X N' sc cl C s H fp).xs E) ifs tc) (he:∀cl C s H fp,PE ((aV X N' sc cl C s H fp).xs E) elt te)
  (hs:∀x,foldedSetIterable iter X.env x=pure x:=by intro _;rfl) :
  PE (X.xs E) (.ListComp elt [⟨target,iter,ifs,0⟩] sc pos) (Di src wi g tc te):=by
 intro ac s σ H Q I h;rw[eval_ListComp];refine wpAny_comprehension_free (use:=none) rfl hs (cX λy U hk=>I.ok.has y.1 (S.free y U hk)) S.kind (λy U hl=>by rw[←hl];exact S.uniq y U) ?_;refine cu (hi ac s σ H _ I h) λv s1 h1=>cu h1 λitv s2 h2=>?_;obtain⟨it,fp,tn,J,H2,z,I2,T,st2,f2,hW⟩:=h2;subst z;refine l3 (X:=X) (F:=λY=>XE Y E) (Q:=Q) (RR:=compPost (model X.prog X.w) X.A (XE X E) none (EP (X.xs E) ac σ Q)) hc S hg ht he I2.eY T st2 f2 hW ?_ λ_ _ _ _ _ I3 f3 hx=>Ap tp I3 f3 hx;intro D C s5 H' m I5 n5 O q;refine⟨m,n5,λh' sb=>⟨.ref D,H',?_,rfl,q⟩⟩;exact(I5.turned (t':=s5.toks) (λb o hb z=>(sb.2 b hb).trans z) O.1 O.2.1 O.2.2.2.1 O.2.2.2.2.1 O.2.2.2.2.2).wish _
end
abbrev Nc(t:Addr):Array Value:=#[.ref t,.none,.none,.none,.bool false,.none]
abbrev xF(a C:Addr)(od:Option Addr):HO:=.ext λh=>∃t sl,h.get? a=some {cls:=.ref C,dict:=od,data:=.fields (Nc t),slots:=sl}
section
variable{P:Program}{w:World}{H:Hp}{h h':Heap}{a C d:Addr}{od:Option Addr}{fs:List (Str×V)}{o:HO}
theorem Kc{z:Addr}{sl:Array (Z5)}(e:h.get? a=some {cls:=.ref C,dict:=od,data:=.fields (Nc z),slots:=sl}):cD P w H h a (xF a C od) :=
 ⟨⟨z,sl,e⟩,⟨_,e⟩,λ_ _ ⟨z,sl,e⟩ k=>⟨z,sl,k _ e⟩⟩
end
section
variable{X:Cx}{ac:eN}{σ:St}{H:Hp}{s:Shared}{a C dx:Addr}{fs:List (Str×V)}{f:Str}{v y:V}{u:Value}{A:Around}{E:nT}
theorem Lg{Q:Z2}(I:Inv X ac σ H s)(e:H a=some (xF a C (some dx)))(ed:H dx=some (xD dx fs))(c:xC X.K C)(n:nF X.K C f)(hz:fs.length<1000)(ry:RelV y u)
  (h:∀s',Inv X ac σ (upd H dx (xD dx (ql f y fs))) s'->Q () s'):wpAny (model X.prog X.w) A (setAttr (.ref a) f u) Q E s:=by
 obtain⟨⟨tt,sl,ha⟩,_⟩:=I.hok a _ e;obtain⟨⟨mA,ns,r⟩,_⟩:=I.hok dx _ ed;obtain⟨od,ho,hl⟩:=uw ns;have J:PySem.W.InstAt s.heap a {cls:=.ref C,dict:=some dx,data:=.fields (Nc tt),slots:=sl} C (some od):=⟨ha,rfl,rfl,ho⟩;have wi:=uh r;have Xv:(fs.map (·.1)).length+1<=sizeLine:=by rw[X9,sizeLine_eq];omega
 obtain⟨cd,PE,hc,_,hd'⟩:=c.cls;refine PySem.W.set_plain I.mY J c.sa (t9 (s:={s with toks:=s.toks+1}) c I.mY J n λb=>?_);refine X0 (X1 (X0 (X0 (wpAny_loadPart ha (X0 (PySem.W.Looks.here (s:={s with toks:=s.toks+1}) (PySem.W.looks_clsIn I.mY hc) ?_))))));rw[hd'];refine X1 (a:=some dx) (X0 (X1 (X0 ?_)));refine wpAny_nsSet1 (s:={s with toks:=s.toks+1}) ns λh' U hs2=>?_;obtain⟨oD,esD,epD,O,hdD,hcD⟩:=U.count (PySem.Within.cons f u wi);refine X0 (wpAny_lookBehind O (by rw[hdD];exact pastItsLine_dict (X6 hcD (by rw[YB];exact Nat.le_succ_of_le Xv))) ?_);refine X1 (h _ ?_);refine I.write (x:=dx) (e:=dx) (by rw[ed];exact True.intro) (.inl rfl) (λb q hb z=>(hs2.2 b hb).trans z) ⟨_,O⟩ (Fg U λg=>?_);show j6 ((ql f y fs).lookup g) (if g=f then some u else mA g);rw[kD];by_cases q:g=f
 ·rw[YG q,YG q];exact ry
 ·rw[YF q,YF q];exact r g
theorem Mh{Q:Z2}(I:Inv X ac σ H s)(e:H a=some (xF a C none))(c:xC X.K C)(n:nF X.K C f)(ry:RelV y u)
  (h:∀dx s',H dx=none->Inv X ac σ (upd (upd (upd H dx (xD dx [])) a (xF a C (some dx))) dx (xD dx (ql f y []))) s'->Q () s'):wpAny (model X.prog X.w) A (setAttr (.ref a) f u) Q E s:=by
 obtain⟨⟨tt,sl,ha⟩,_⟩:=I.hok a _ e;have J:PySem.W.InstAt s.heap a {cls:=.ref C,dict:=none,data:=.fields (Nc tt),slots:=sl} C none:=⟨ha,rfl,rfl,True.intro⟩;obtain⟨cd,PE,hc,_,hd'⟩:=c.cls;refine PySem.W.set_plain I.mY J c.sa (t9 (s:={s with toks:=s.toks+1}) c I.mY J n λb=>?_);refine X0 (X1 (X0 (X0 (wpAny_loadPart ha (X0 (PySem.W.Looks.here (s:={s with toks:=s.toks+1}) (PySem.W.looks_clsIn I.mY hc) ?_))))));rw[hd'];have na:a≠s.heap.objs.size:=Yp (X3 ha);have fr:H s.heap.objs.size=none:=I.hok.fresh (X5 _);have hgd:(s.heap.push {cls:=.type "dict",data:=.dict #[]}).get? s.heap.objs.size=some {cls:=.type "dict",data:=.dict #[]}:=X4 _ rfl;have hn0:(s.heap.push {cls:=.type "dict",data:=.dict #[]}).Ns1 s.heap.objs.size (λ_=>none):=Heap.Ns1.of_empty ⟨_,#[],_,hgd,rfl,λe he=>YE he (by simp),λ_=>rfl⟩;have I1:Inv X ac σ (upd H s.heap.objs.size (xD s.heap.objs.size [])) {s with heap:=s.heap.push {cls:=.type "dict",data:=.dict #[]},toks:=s.toks+1} :=
  I.laid (λb u q=>X2 _ q) (X5 _) (Fg hn0 λg=>True.intro)
 have ha1:(s.heap.push {cls:=.type "dict",data:=.dict #[]}).get? a=some {cls:=.ref C,dict:=none,data:=.fields (Nc tt),slots:=sl}:=X2 _ ha;refine X0 (wpAny_alloc' ?_);refine X0 (wpAny_update' ha1 ?_);have O:((s.heap.push {cls:=.type "dict",data:=.dict #[]}).update a λo=>{cls:=o.cls,dict:=some s.heap.objs.size,data:=o.data,slots:=o.slots}).get? a=some {cls:=.ref C,dict:=some s.heap.objs.size,data:=.fields (Nc tt),slots:=sl}:=Heap.get?_update_self _ ha1 rfl;have I2:Inv X ac σ (upd (upd H s.heap.objs.size (xD s.heap.objs.size [])) a (xF a C (some s.heap.objs.size))) {s with heap:=(s.heap.push {cls:=.type "dict",data:=.dict #[]}).update a λo=>{cls:=o.cls,dict:=some s.heap.objs.size,data:=o.data,slots:=o.slots},toks:=s.toks+1} :=
  I1.write (x:=a) (e:=a) (by rw[aI na,e];exact True.intro) (.inl rfl) (λb q hb z=>(Heap.get?_update_ne _ _ _ _ hb).trans z) ⟨_,O⟩ (Kc O)
 have hd2:=I2.hok s.heap.objs.size (xD s.heap.objs.size []) (by rw[aI (Ne.symm na)];exact ae);obtain⟨⟨mA,ns,r⟩,_⟩:=hd2;refine X1 (X0 (X1 (X0 ?_)));refine wpAny_nsSet1 (s:={s with heap:=(s.heap.push {cls:=.type "dict",data:=.dict #[]}).update a λo=>{cls:=o.cls,dict:=some s.heap.objs.size,data:=o.data,slots:=o.slots},toks:=s.toks+1}) ns λh' U hs2=>?_;obtain⟨oD,esD,epD,hoD,hdD,hcD⟩:=U.count (PySem.Within.cons f u (uh r));refine X0 (wpAny_lookBehind hoD (by rw[hdD];exact pastItsLine_dict (X6 hcD (by show 1<=sizeLine+1;exact Nat.succ_le_succ (Yq _)))) ?_);refine X1 (h s.heap.objs.size _ fr ?_);refine I2.write (x:=s.heap.objs.size) (e:=s.heap.objs.size) (by rw[aI (Ne.symm na),ae];exact True.intro) (.inl rfl) (λb q hb z=>(hs2.2 b hb).trans z) ⟨_,hoD⟩ (Fg U λg=>?_);show j6 ((ql f y []).lookup g) (if g=f then some u else mA g);rw[kD];by_cases q:g=f
 ·rw[YG q,YG q];exact ry
 ·rw[YF q,YF q];exact r g
end
section
variable{X:Cx}{CX:sQ}{k:Nat}{f C:Addr}{fd:FuncData}{ps:List Str}{sp:Sp}{E:XK}{x:Str}{p pos:Pos}{e:Expr}{es:List Expr}{t:TA}
theorem Inv.ND{ac:eN}{σ:St}{H:Hp}{s:Shared}{h':Heap}{a:Addr}{rest:Z4}(I:Inv X ac σ H s)(m:Heap.MadeExcOf s.heap h' a (.ref C) rest):H a=none/\Inv X ac σ (upd H a (xF a C none)) {s with heap:=h'}:=by obtain⟨t,z,_,_⟩:=m.there;have hn:=I.hok.none_of m.new;exact⟨hn,I.un (t':=s.toks) (Un.laidN m.keeps m.new hn) (I.hok.laidN m.keeps m.new (Kc z))⟩
def PU(C:Addr)(sp:Sp)(E:XK)(t:TA):TE:=λσ H Q=>t σ H λvs H1=>vs.length<=sizeLine/\∀a,H1 a=none->sp (.ref a::vs) (upd H1 a (xF a C none)) (λv H2=>v=.non/\Q (.ref a) H2) E
theorem IU(hx:jH X.K C u0 "ValueError.__new__" (some (.ref f))=true)(hk:PySem.W.keepIn X.K (.ref C)=true)(hf:PySem.W.isFn X.K (.ref f)=true)(F:f_ X.prog X.w X.K X.mg X.base CX k f fd ps sp)(hr:fV (k+1) X.A)(hg:Gl X x)(hm:X.mg x=some (.ref C))
  (hb:Binds X.K fd ps []) (hpx:Passes CX X E) (ha:PA X (e::es) t)
  (hdb:(x==("__debug__" : Str))=false:=by decide) (he:starEach (e::es) X.env=(false,eval e X.env)::starEach es X.env:=by rfl) (hpl:(backTo pos (starEach es X.env)).any (·.1)=false:=by rfl) :
  PE X (.Call (.Name x p) (e::es) [] pos) (PU C sp E t):=by
 intro ac s σ H Q I h;refine wpAny_Call_Name_kw (qG I hg hm ?_ hdb);refine PySem.W.callWith_K (h₀:=X.base) I.ok.mod.Lk hk (cu (ha pos ac s σ H _ I h) λus s1 ⟨vs,H1,I1,r,hz,q⟩=>⟨I1.mY,?_⟩) he hpl;obtain⟨bm,N,nm,q',bs,hd,sn,sub,ab,col,dd,k0,k1,k2,k3,k5,mN,hC,hN,hni,T⟩:=pP I1.mY hx;have hfn:∃oI,s1.heap.get? f=some oI/\oI.cls=.type "function":=by have z:PySem.W.typeIn X.K (.ref f)=some (.type "function"):=beq_iff_eq.mp hf;obtain⟨o,ho,hc⟩:=Option.map_eq_some_iff.mp (show(X.K.lookup f).map (·.cls)=some _ from z);exact⟨o,I1.mY _ _ ho,hc⟩
 obtain⟨oI,hfI,hfc⟩:=hfn;obtain⟨hp,gs,dr,tk,os⟩:=s1;refine qZ PySem.F.excBase_ValueError T hC hN hni hfI hfc (λh' a m=>?_) (by show us.length<=sizeLine;rw[←r.length];exact hz);obtain⟨hn,I2⟩:=I1.ND m;have hq:=q a hn;have r2:Vals (V.ref a::vs) (Value.ref a::us):=.cons rfl r;have hl:(Value.ref a::us).length=ps.length:=by rw[←r2.length];exact F.len _ _ _ _ hq
 have hl':((Value.ref a::us)++([]:Z4)).length=ps.length:=by rw[YO];exact hl
 have U:=hb _ (Value.ref a::us) I2.mY hl';rw[YO]at U;refine wpAny_call (codeAny_mono (F.run _ X.stack _ _ ⟨Value.ref a::us,[]⟩ (Value.ref a::us) _ _ E (hr.make C us []) (I2.env0.make C us []) U r2 hq) λr s' O=>?_);cases r with
 |error ee=>exact hpx ac σ _ _ ee s' I2 O
 |ok fl =>
  cases fl with
  |ret u =>obtain⟨v,H',I3,rv,ev,q3⟩:=I2.after O;subst ev;exact⟨rv,⟨V.ref a,H',I3,rfl,q3⟩⟩
  |next=>exact YK O
  |brk=>exact YK O
  |cont=>exact YK O
end
section
variable{X:Cx}{o value:Expr}{ta tv:TE}{f:Str}{pos pos':Pos}
def MA(K:YY)(ta tv:TE)(f:Str):TS:=λD σ H=>tv σ H λy H1=>ta σ H1 λx H2=>∃a C,x=.ref a/\xC K C/\nF K C f/\
 ((H2 a=some (xF a C none)/\∀dx,H2 dx=none->D.nx σ (upd (upd (upd H2 dx (xD dx [])) a (xF a C (some dx))) dx (xD dx (ql f y []))))\/
  ∃dx fs,H2 a=some (xF a C (some dx))/\H2 dx=some (xD dx fs)/\fs.length<1000/\D.nx σ (upd H2 dx (xD dx (ql f y fs))))
theorem xY(ha:PE X o ta)(hv:PE X value tv)(hs:swapsWith value (some (.Attribute o f pos')) pos.line X.env=pure false):PS X (.Assign [.Attribute o f pos'] value pos) (MA X.K ta tv f):=by
 intro ac s σ H D I h;refine plainObj_wpAny_Assign_Attribute (cu (hv ac s σ H _ I h) λu s1 ⟨y,H1,I1,ry,q⟩=>cu (ha ac s1 σ H1 _ I1 q) λov s2 zz=>?_) hs;obtain⟨x,H2,I2,rx,a,C,ex,c,n,q2⟩:=zz;subst ex;obtain rfl:ov=Value.ref a:=rx;rcases q2 with⟨z,O⟩|⟨dx,fs,z,ed,l,O⟩
 ·exact Mh I2 z c n ry λdx s3 hn U=>⟨σ,_,U,O dx hn⟩
 ·exact Lg I2 z ed c n l ry λs3 U=>⟨σ,_,U,O⟩
end
end L2
namespace PySem
section
variable{M:Model}{A:Around}{E:nT}{env:Env}
variable{nm q:Str}{C N:Addr}{bs bm:Z4}{hdct:Bool}{sn:List Str}{sub:Z4}{ab:Bool}{col:Option Bool}{dd:Option Addr}{k0 k1 k2 k3 k5:Z5}{newId:String}
theorem wA{s:Shared}{x:Sem Value}{Q:Flow->Shared->Prop}(O:bm.contains (.type "BaseException")=true)(hh:A.handled=none)
  (h:wpAny M A x (λv z=>∃e t od sl,v=.ref e/\z.heap.get? C=some (excClassObj nm q C N bs bm hdct sn sub ab col dd k0 k1 k2 k3 k5 newId)/\
   z.heap.get? e=some {cls:=.ref C,dict:=od,data:=.fields #[.ref t,.none,.none,.none,.bool false,.none],slots:=sl}/\E (.ref e) z) E s) :
  wpAny M A (raiseStmt env (some x) none) Q E s:=by
 have hcB:(Value.ref C::bm).contains (.type "BaseException")=true:=by rw[List.contains_cons,O,Bool.or_true]
 unfold raiseStmt;refine X0 (Yx h (λv z U=>?_) λ_ _ x=>x);obtain⟨e,t,od,sl,rfl,hC,he,hE⟩:=U;obtain⟨hp,g,d,tk,os⟩:=z;repeat (first|with_reducible refine wpAny_loadPart_at he ?_|with_reducible refine wpAny_loadPart_at hC ?_ | (with_reducible refine wpAny_isSubtype_exc hC ?_;rw[hcB])|wp_step)
 exact wpAny_raiseNew_none hh hE
end
end PySem
namespace L2
open PySem PySem.Spec PyProof.Rows
def IT(C:Addr)(E:XK)(te:TE):TS:=λ_ σ H=>te σ H λv H1=>∃a od,v=.ref a/\H1 a=some (xF a C od)/\E (.ref C) (some a) (upd H1 a (xO a C od))
theorem CT{X:Cx}{E:XK}{C:Addr}{pos:Pos}{e:Expr}{te:TE}{U:Z5}(hc:X.calm=true)(hx:jH X.K C u0 "ValueError.__new__" U=true)(he:PE (X.xs E) e te) :
  PS (X.xs E) (.Raise (some e) none pos) (IT C E te):=by
 intro ac s σ H D I h;obtain⟨bm,N,nm,q',bs,hd,sn,sub,ab,col,dd,k0,k1,k2,k3,k5,mN,hC,hN,hni,T⟩:=pP I.ok.mod.Lk hx;rw[arm_exec_Raise];show wpAny _ _ (do standAt pos;raiseStmt X.env (some (do let v←eval e X.env;standAt pos;pure v)) none) _ _ s;refine X0 (wpAny_standAt (wA (C:=C) (nm:=nm) (q:=q') (N:=N) (bs:=bs) (bm:=bm) (hdct:=hd) (sn:=sn) (sub:=sub) (ab:=ab) (col:=col) (dd:=dd) (k0:=k0) (k1:=k1) (k2:=k2) (k3:=k3) (k5:=k5) (newId:="ValueError.__new__") (T.hasType PySem.F.excBase_ValueError.hasBase) (I.ok.hd hc) ?_));refine X0 (cu (he ac s σ H _ I h) λu s1 ⟨v,H1,O,rv,a,od,ev,ea,q⟩=>X0 (wpAny_standAt (X1 ?_)));subst ev;cases rv;obtain⟨⟨tt,sl,ha⟩,_⟩:=O.hok a _ ea;refine⟨a,tt,od,sl,rfl,O.bk _ _ hC,ha,?_⟩;have I2:=(O.iV (pins':=[]) λp hp=>YE hp (by simp)).eY;have I3:Inv X [] σ (upd H1 a (xO a C od)) s1:=by have:=I2.write (x:=a) (e:=a) (h':=s1.heap) (t':=s1.toks) (o:=xO a C od) (by rw[ea];exact True.intro) (.inl rfl) (λb q hb z=>z) ⟨_,ha⟩ (Dk ha);exact this
 exact⟨a,C,od,σ,upd H1 a (xO a C od),rfl,I3,⟨ae,_,_,ha,.inl rfl⟩,q⟩
end L2
namespace My
open PySem L2
structure Fl where
 o:Bool
 j:Bool
 f:Bool
 w:Bool
 l:Bool
def pO(s:Str):Bool:=!cH s
def pJ(s:Str):Bool:=decide (s="walk")||decide (s="both")||decide (s="meet")
def pF(s:Str):Bool:=decide (s="first")
def pW(s:Str):Bool:=decide (s="walk")
def flagsOf(ps:List Str)(l:Bool):Fl:=⟨ps.any pO,ps.any pJ,ps.any pF,ps.any pW,l⟩
def Kn.fl(k:Kn):Fl:=flagsOf k.ps k.lo
def looseW:Wk->Hd->Fl->Bool
 | .one (.keep c _),h,_=>decide (bK h c="t")
 | .one (.first n),_,f=>decide (¬n<=0)&&f.j
 | .meet ..,_,f=>f.w||f.f
 |_,_,_=>false
def xT:Wk->Fl->Bool
 | .one (.walk _ _),f=>!f.o
 | .meet _ _ p q,_=>(p++q).all λw=>cH w.nm
 |_,_=>true
def mI(x:Wk)(f:Fl)(hs:List Hd):Option Str :=
 if eX x hs=true then
  if bW x hs=true then
   if(bc x hs).length<=6 then
    if xT x f=true then
     if(eE x&&f.l)=true then some "loose" else none
    else some "rows"
   else some "wide"
  else some "sort"
 else some "column"
theorem any_eq(ps:List Str)(s:Str):ps.any (λt=>decide (t=s))=nQ ps s:=by
 apply Bool.eq_iff_iff.mpr;rw[G9,List.any_eq_true];constructor
 ·rintro⟨t,h,e⟩;rw[←YD e];exact h
 ·intro h;exact⟨s,h,X8 rfl⟩
theorem Fh(ps:List Str)(p q:Str->Bool):ps.any (λs=>p s||q s)=(ps.any p||ps.any q):=by
 induction ps with
 |nil=>rfl
 |cons a ps z=>rw[YV,YV,YV,z];cases p a<;>cases q a<;>simp
theorem Kz(ps:List Str):ps.any pJ=(nQ ps "walk"||nQ ps "both"||nQ ps "meet"):=by unfold pJ;rw[Fh ps (λs=>decide (s="walk")||decide (s="both")) (λs=>decide (s="meet")),Fh,any_eq,any_eq,any_eq]
theorem E5(x:Wk)(k:Kn):gp x k=looseW x k.hd k.fl:=by
 have z:=Kz k.ps;have U:k.ps.any pF=nQ k.ps "first":=any_eq _ _;have O:k.ps.any pW=nQ k.ps "walk":=any_eq _ _;cases x with
 |one x =>
  cases x<;>try rfl
  show(decide _&&(nQ k.ps "walk"||nQ k.ps "both"||nQ k.ps "meet"))=(decide _&&k.ps.any pJ);rw[z]
 |both p q=>rfl
 |meet c d p q =>show(nQ k.ps "walk"||nQ k.ps "first")=(k.ps.any pW||k.ps.any pF);rw[U,O]
theorem IG(x:Wk)(k:Kn):mn x k.ps=xT x k.fl:=by
 cases x with
 |one x =>
  cases x<;>try rfl
  show k.ps.all cH = !(k.ps.any pO);rw[List.not_any_eq_all_not];congr 1;funext s;show _ = !(!cH s);rw[Bool.not_not]
 |both p q=>rfl
 |meet c d p q=>rfl
theorem ME(x:Wk)(k:Kn)(hs:List Hd):vP x k hs=mI x k.fl hs:=by unfold vP mI;rw[IG];rfl
def Oc(x:Wk)(h:Hd)(f:Fl)(fs:List Fl):Fl:=⟨fs.any (λg=>g.o)||pO (bh x),fs.any (λg=>g.j)||pJ (bh x),fs.any (λg=>g.f)||pF (bh x),fs.any (λg=>g.w)||pW (bh x),looseW x h f||fs.any λg=>g.l⟩
theorem Hv{a b:List Str}{p:Str->Bool}(h:∀s,s∈a↔s∈b):a.any p=b.any p:=by
 apply Bool.eq_iff_iff.mpr;rw[List.any_eq_true,List.any_eq_true];constructor
 ·rintro⟨t,m,e⟩;exact⟨t,(h t).mp m,e⟩
 ·rintro⟨t,m,e⟩;exact⟨t,(h t).mpr m,e⟩
theorem vy(ks:List Kn)(x:Wk)(p:Str->Bool){ps:List Str}(h:E3 ps (ks.flatMap (λk=>k.ps)++[bh x])):ps.any p=((ks.any λk=>k.ps.any p)||p (bh x)):=by rw[Hv h.2,List.any_append,List.any_flatMap];simp
theorem JR{x:Wk}{k k':Kn}{ks:List Kn}(h:E3 k'.ps (ks.flatMap (λk=>k.ps)++[bh x]))(z:k'.lo=(gp x k||ks.any λk=>k.lo)):k'.fl=Oc x k.hd k.fl (ks.map Kn.fl):=by unfold Kn.fl flagsOf Oc;rw[vy ks x pO h,vy ks x pJ h,vy ks x pF h,vy ks x pW h,z,E5,List.any_map,List.any_map,List.any_map,List.any_map,List.any_map];rfl
inductive Res where
 |ok (h:Hd) (f:Fl)
 |no (p:List Int) (s:Str)
def m7(x:Wk)(h:Hd)(f:Fl)(pl:List Int)(es:List (Hd×Fl)):Res:=match mI x f (es.map λe=>e.1)with
 |some s=>.no pl s
 |none=>.ok (bc x (es.map λe=>e.1)) (Oc x h f (es.map λe=>e.2))
def hZ(r:Res)(g:Hd->Fl->Res):Res:=match r with
 | .ok h f=>g h f
 | .no a s=>.no a s
def putL(step:Hd->Fl->List Int->Wk->Res)(pl:List Int):Nat->Hd->Fl->List Wk->Res
 |_,h,f,[]=>.ok h f
 |i,h,f,x::ws=>hZ (step h f (pl++[(i:Int)]) x) λh' f'=>putL step pl (i+1) h' f' ws
def uJ(step:Hd->Fl->List Int->Wk->Res)(x:Wk)(h:Hd)(f:Fl)(pl:List Int):List (List Wk)->Nat->List (Hd×Fl)->Res
 |[],_,es=>m7 x h f pl es
 |p::ps,j,es=>hZ (putL step (pl++[(j:Int)]) 0 h f p) λh' f'=>uJ step x h f pl ps (j+1) (es++[(h',f')])
def bY:Nat->Hd->Fl->List Int->Wk->Res
 | 0,h,f,pl,x=>m7 x h f pl [(h,f)]
 |n+1,h,f,pl,x=>match x with
  | .one _=>m7 x h f pl [(h,f)]
  |_=>uJ (bY n) x h f pl (cm x) 0 []
def F9:List Str:=["keep","same","cut","turn","must","walk","sort","apart","count","sum","number","first","both","meet","first 0"]
theorem Es(x:Wk):bh x∈F9:=by
 match x with
 | .one (.first n) =>show(if n<=0 then("first 0" : Str)else "first")∈F9;split<;>decide +kernel
 | .one (.keep ..) | .one (.same ..) | .one (.cut ..) | .one (.turn ..) | .one (.must ..) | .one (.walk ..) | .one (.sort ..) | .one .apart | .one (.count ..) | .one (.sum ..) | .one .number | .both .. | .meet ..=>exact List.mem_of_elem_eq_true (by simp only[bh,Wk.nm,W1.nm];decide +kernel)
theorem sub_len:∀{l m:List Str},l.Nodup->(∀s∈l,s∈m)->l.length<=m.length
 |[],m,_,_=>Yq _
 |a::l,m,hn,hs=>by
  rw[List.nodup_cons]at hn;have ha:a∈m:=hs a (by simp);have:=sub_len (l:=l) (m:=m.erase a) hn.2 λs h=>by
   have ne:s≠a:=by rintro rfl;exact hn.1 h
   exact(List.mem_erase_of_ne ne).mpr (hs s (by simp[h]))
  rw[List.length_erase_of_mem ha]at this;have z:0<m.length:=List.length_pos_of_mem ha;rw[YB];omega
theorem Hs{x:Str}:¬Pf x x:=λh=>List.lt_irrefl _ h
structure qy(k:Kn):Prop where
 hd:k.hd.length<=6
 nd:k.ps.Nodup
 sub:∀s∈k.ps,s∈F9
theorem qy.few{k:Kn}(h:qy k):k.ps.length<=15:=sub_len h.nd h.sub
theorem qy.next{k':Kn}{ks:List Kn}{x:Wk}(O:∀k∈ks,qy k)(hh:k'.hd.length<=6)(h:E3 k'.ps (ks.flatMap (λk=>k.ps)++[bh x])):qy k':=by
 refine⟨hh,h.1.imp λ{a b} e z=>by subst z;exact Hs e,λs hs=>?_⟩;rcases Yo.mp ((h.2 s).mp hs)with z|z
 ·obtain⟨k,h1,h2⟩:=List.mem_flatMap.mp z;exact(O k h1).sub s h2
 ·rw[Yk.mp z];exact Es x
def inClass(s:Stmt)(i:Nat):Stmt:=match s with
 | .ClassDef _ _ _ body _ _ _ _ _ _ _=>body.getD i (.Pass ⟨0,0,0,0⟩)
 |_=>.Pass ⟨0,0,0,0⟩
abbrev pk:Stmt:=inClass (top 6) 0
theorem Ih:ax ZM ZM (aq pk):=⟨rfl,rfl,rfl,by decide +kernel,rfl,by decide +kernel,by decide +kernel⟩
abbrev KL(pl wy:V):List (Str×V):=ql "why" wy (ql "place" pl [])
def AV(K:YY)(C:Addr):Sp:=λvs H Q _=>∃a O z,vs=[.ref a,O,z]/\H a=some (xF a C none)/\xC K C/\nF K C "place"/\nF K C "why"/\
 ∀dx H',H dx=none->(∀b o,b≠a->H b=some o->H' b=some o)->H' a=some (xF a C (some dx))->H' dx=some (xD dx (KL O z))->Q .non H'
structure Pd(K:YY)(mg:Z0)(C fI:Addr):Prop where
 xc:xC K C
 np:nF K C "place"
 nr:nF K C "why"
 Qr:jH K C u0 "ValueError.__new__" (some (.ref fI))=true
 kp:PySem.W.keepIn K (.ref C)=true
 fn:PySem.W.isFn K (.ref fI)=true
 mf:mg "NoPipe"=some (.ref C)
section
variable{P:Program}{w:World}{K:YY}{mg:Z0}{base:Heap}{f C:Addr}{fd:FuncData}
theorem DE(F:Dd K "__init__" "NoPipe.__init__" pk f fd):f_ P w K mg base bx 1 f fd ZM (AV K C):=by
 refine F.ok Ih (λvs H Q E h=>?_) (λcdv A outer s H vs Q E hr h=>?_)
 ·obtain⟨a,v1,U,rfl,_⟩:=h;rfl
 obtain⟨a,v1,U,rfl,ha,c,n1,n2,q⟩:=h;refine⟨_,ao (xY (pv 0) (pv 1) rfl) (bC (xY (pv 0) (pv 2) rfl)),?_⟩;refine⟨_,rfl,_,rfl,a,C,rfl,c,n1,.inl ⟨ha,λdx z=>?_⟩⟩;have nd:a≠dx:=aY ha z;refine⟨_,rfl,_,rfl,a,C,rfl,c,n2,.inr ⟨dx,_,by rw[aI nd];exact ae,ae,by show 1<1000;decide,?_⟩⟩;refine q dx _ z (λb o nb e=>?_) (by rw[aI nd,aI nd];exact ae) ae;have O:b≠dx:=aY e z;rw[aI O,aI O,aI nb,aI O];exact e
end
abbrev Tr:=List (List Int×Hd×Bool)
def lH(r:Res)(g:Hd->Fl->Tr):Tr:=match r with
 | .ok h f=>g h f
 | .no _ _=>[]
def GQ(st:Hd->Fl->List Int->Wk->Res)(tr:Hd->Fl->List Int->Wk->Tr)(pl:List Int):Nat->Hd->Fl->List Wk->Tr
 |i,h,f,[]=>[(pl++[(i:Int)],h,f.l)]
 |i,h,f,x::ws=>(pl++[(i:Int)],h,f.l)::(tr h f (pl++[(i:Int)]) x++lH (st h f (pl++[(i:Int)]) x) λh' f'=>GQ st tr pl (i+1) h' f' ws)
def Dg(st:Hd->Fl->List Int->Wk->Res)(tr:Hd->Fl->List Int->Wk->Tr)(h:Hd)(f:Fl)(pl:List Int):List (List Wk)->Nat->Tr
 |[],_=>[]
 |p::ps,j=>GQ st tr (pl++[(j:Int)]) 0 h f p++lH (putL st (pl++[(j:Int)]) 0 h f p) λ_ _=>Dg st tr h f pl ps (j+1)
def Dh:Nat->Hd->Fl->List Int->Wk->Tr
 | 0,_,_,_,_=>[]
 |n+1,h,f,pl,x=>Dg (bY n) (Dh n) h f pl (cm x) 0
abbrev TL(n:Nat)(pl:List Int)(i:Nat)(h:Hd)(f:Fl)(ws:List Wk):Tr:=GQ (bY n) (Dh n) pl i h f ws
theorem AI{n:Nat}{pl:List Int}{i:Nat}{h:Hd}{f:Fl}{x:Wk}{ws:List Wk}:TL n pl i h f (x::ws)=(pl++[(i:Int)],h,f.l)::(Dh n h f (pl++[(i:Int)]) x++lH (bY n h f (pl++[(i:Int)]) x) λh' f'=>TL n pl (i+1) h' f' ws):=rfl
theorem xg{n:Nat}{h:Hd}{f:Fl}{pl:List Int}{p:List Wk}{ps:List (List Wk)}{j:Nat}:Dg (bY n) (Dh n) h f pl (p::ps) j=TL n (pl++[(j:Int)]) 0 h f p++lH (putL (bY n) (pl++[(j:Int)]) 0 h f p) λ_ _=>Dg (bY n) (Dh n) h f pl ps (j+1):=rfl
def At(pl:List Int)(i:Nat)(p:List Int):Prop:=∃(j:Nat)(r:List Int),i<=j/\p=pl++(j:Int)::r
structure Fits(pl:List Int)(i:Nat)(t:Tr):Prop where
 at_:∀e∈t,At pl i e.1
 nd:(t.map (·.1)).Nodup
theorem Fits.nil{pl:List Int}{i:Nat}:Fits pl i []:=⟨by simp,by simp⟩
theorem vh{pl:List Int}{i j:Nat}{r r':List Int}(e:pl++(i:Int)::r=pl++(j:Int)::r'):i=j/\r=r':=by have:=List.append_cancel_left e;injection this with h1 h2;exact⟨by omega,h2⟩
theorem Az{st:Hd->Fl->List Int->Wk->Res}{tr:Hd->Fl->List Int->Wk->Tr}(H:∀h f pl x,Fits pl 0 (tr h f pl x)){pl:List Int}:∀(ws:List Wk)(i:Nat)(h:Hd)(f:Fl),Fits pl i (GQ st tr pl i h f ws)
 |[],i,h,f=>⟨λe O=>by
   have:e=(pl++[(i:Int)],h,f.l):=by simpa[GQ] using O
   rw[this];exact⟨i,[],X5 _,rfl⟩,by simp[GQ]⟩
 |x::ws,i,h,f=>by
  have hx:=H h f (pl++[(i:Int)]) x;have hr:Fits pl (i+1) (lH (st h f (pl++[(i:Int)]) x) λh' f'=>GQ st tr pl (i+1) h' f' ws):=by
   cases st h f (pl++[(i:Int)]) x with
   |ok h' f'=>exact Az H ws (i+1) h' f'
   |no a s=>exact .nil
  have ex:∀e∈tr h f (pl++[(i:Int)]) x,∃(k:Nat)(r:List Int),e.1=pl++(i:Int)::(k:Int)::r:=λe O=>by obtain⟨k,r,_,U⟩:=hx.at_ e O;exact⟨k,r,by rw[U];simp⟩
  revert hr;show Fits pl (i+1) _->Fits pl i ((pl++[(i:Int)],h,f.l)::(tr h f (pl++[(i:Int)]) x++_));generalize (lH (st h f (pl++[(i:Int)]) x) λh' f'=>GQ st tr pl (i+1) h' f' ws)=R;intro hr;refine⟨λe O=>?_,?_⟩
  ·rcases Ym.mp O with rfl|O
   ·exact⟨i,[],X5 _,rfl⟩
   ·rcases Yo.mp O with z|z
    ·obtain⟨k,r,U⟩:=ex e z;exact⟨i,_,X5 _,U⟩
    ·obtain⟨j,r,hj,U⟩:=hr.at_ e z;exact⟨j,r,by omega,U⟩
  ·rw[YT,Ya,List.nodup_cons,List.nodup_append];refine⟨λhm=>?_,hx.nd,hr.nd,λa ha b hb e=>?_⟩
   ·rcases Yo.mp hm with z|z
    ·obtain⟨e,O,q⟩:=Yl.mp z;obtain⟨k,r,U⟩:=ex e O;rw[U]at q;have:=(vh (r':=[]) q).2;cases this
    ·obtain⟨e,O,q⟩:=Yl.mp z;obtain⟨j,r,hj,U⟩:=hr.at_ e O;rw[U]at q;have:=(vh (r':=[]) q).1;omega
   ·obtain⟨U,h1,rfl⟩:=Yl.mp ha;obtain⟨e2,h2,q⟩:=Yl.mp hb;obtain⟨k,r,z1⟩:=ex U h1;obtain⟨j,r',hj,z2⟩:=hr.at_ e2 h2;rw[←e,z1,z2]at q;have:=(vh q).1;omega
theorem Gi{st:Hd->Fl->List Int->Wk->Res}{tr:Hd->Fl->List Int->Wk->Tr}(H:∀h f pl x,Fits pl 0 (tr h f pl x)){h:Hd}{f:Fl}{pl:List Int}:∀(ps:List (List Wk))(j:Nat),Fits pl j (Dg st tr h f pl ps j)
 |[],j=>.nil
 |p::ps,j=>by
  have hx:=Az (st:=st) H (pl:=pl++[(j:Int)]) p 0 h f;have U:Fits pl (j+1) (lH (putL st (pl++[(j:Int)]) 0 h f p) λ_ _=>Dg st tr h f pl ps (j+1)):=by
   cases putL st (pl++[(j:Int)]) 0 h f p with
   |ok h' f'=>exact Gi H ps (j+1)
   |no a s=>exact .nil
  have ex:∀e∈GQ st tr (pl++[(j:Int)]) 0 h f p,∃(r:List Int),e.1=pl++(j:Int)::r:=λe he=>by obtain⟨k,r,_,O⟩:=hx.at_ e he;exact⟨_,by rw[O];simp;rfl⟩
  revert U;show Fits pl (j+1) _->Fits pl j (GQ st tr (pl++[(j:Int)]) 0 h f p++_);generalize (lH (putL st (pl++[(j:Int)]) 0 h f p) λ_ _=>Dg st tr h f pl ps (j+1))=R;intro U;refine⟨λe he=>?_,?_⟩
  ·rcases Yo.mp he with z|z
   ·obtain⟨r,O⟩:=ex e z;exact⟨j,_,X5 _,O⟩
   ·obtain⟨k,r,hj,O⟩:=U.at_ e z;exact⟨k,r,by omega,O⟩
  ·rw[Ya,List.nodup_append];refine⟨hx.nd,U.nd,λa ha b hb e=>?_⟩;obtain⟨O,h1,rfl⟩:=Yl.mp ha;obtain⟨e2,h2,q⟩:=Yl.mp hb;obtain⟨r,z1⟩:=ex O h1;obtain⟨k,r',hj,z2⟩:=U.at_ e2 h2;rw[←e,z1,z2]at q;have:=(vh q).1;omega
theorem FP:∀(n:Nat)(h:Hd)(f:Fl)(pl:List Int)(x:Wk),Fits pl 0 (Dh n h f pl x)
 | 0,_,_,_,_=>.nil
 |n+1,h,f,pl,x=>Gi (FP n) (cm x) 0
theorem J_{n:Nat}{pl:List Int}{i:Nat}{h:Hd}{f:Fl}{ws:List Wk}:((TL n pl i h f ws).map (·.1)).Nodup:=(Az (FP n) ws i h f).nd
structure jB(H:Hp)(as:Z6)(t:Tr):Prop where
 len:as.length=t.length
 at_:∀(i:Nat) a e,as[i]? = some a->t[i]? = some e->∃q hh,H a=some (.tup [.ref q,.ref hh,.bl e.2.2])/\H q=some (.tup (e.1.map V.int))/\iH H hh e.2.1
theorem jB.nil{H:Hp}:jB H [] []:=⟨rfl,λi a e h=>by cases h⟩
theorem jB.app{H:Hp}{as bs:Z6}{t u:Tr}(h:jB H as t)(h':jB H bs u):jB H (as++bs) (t++u):=by
 refine⟨by rw[X_,X_,h.len,h'.len],λi a e z O=>?_⟩;have U:=h.len;by_cases hi:i<as.length
 ·rw[Yt hi]at z;rw[Yt (by omega)]at O;exact h.at_ i a e z O
 ·rw[Ys (by omega)]at z;rw[Ys (by omega),←U]at O;exact h'.at_ _ a e z O
theorem jB.one{H:Hp}{a q hh:Addr}{p:List Int}{h:Hd}{b:Bool}(h1:H a=some (.tup [.ref q,.ref hh,.bl b]))(h2:H q=some (.tup (p.map V.int)))(h3:iH H hh h):jB H [a] [(p,h,b)] :=
 ⟨rfl,λi c e z O=>by
  cases i with
  |zero=>cases z;cases O;exact⟨q,hh,h1,h2,h3⟩
  |succ i=>cases z⟩
def GL(H:Hp)(xs ys:List V)(t:Tr):Prop:=∃as:Z6,ys=xs++as.map V.ref/\jB H as t
theorem GL.app{H:Hp}{xs ys:List V}{t u:Tr}{bs:Z6}(h:GL H xs ys t)(h':jB H bs u):GL H xs (ys++bs.map V.ref) (t++u):=by obtain⟨as,rfl,h1⟩:=h;exact⟨as++bs,by rw[Ya,List.append_assoc],h1.app h'⟩
def Nn:Nat->Hd->Fl->List Int->Wk->Nat->Tr
 | 0,_,_,_,_,_=>[]
 |n+1,h,f,pl,x,j=>Dg (bY n) (Dh n) h f pl ((cm x).drop j) j
theorem Pk{n:Nat}{h:Hd}{f:Fl}{pl:List Int}{x:Wk}:Dh n h f pl x=Nn n h f pl x 0:=by cases n<;>rfl
theorem Ja{n:Nat}{h:Hd}{f:Fl}{pl:List Int}{x:Wk}{j:Nat}(z:(cm x).length<=j):Nn n h f pl x j=[]:=by
 cases n with
 |zero=>rfl
 |succ n=>show Dg _ _ _ _ _ ((cm x).drop j) j=[];rw[List.drop_of_length_le z];rfl
theorem Li{m:Nat}{h h':Hd}{f f':Fl}{pl:List Int}{x:Wk}{j:Nat}{p:List Wk}(e:(cm x).drop j=p::(cm x).drop (j+1))(z:putL (bY m) (pl++[(j:Int)]) 0 h f p=.ok h' f'):Nn (m+1) h f pl x j=TL m (pl++[(j:Int)]) 0 h f p++Nn (m+1) h f pl x (j+1):=by show Dg _ _ _ _ _ ((cm x).drop j) j=_;rw[e,xg,z];rfl
end My
namespace L2
open PySem PySem.Spec PyProof.Rows
section
variable{X:Cx}{ac:eN}{σ:List (Option V)}{H H':Hp}{s:Shared}{h':Heap}
theorem Inv.CW{t':Nat}{fp:Z6}{T:Addr}{xs:List V}(I:Inv X ac σ H s)(hf:∀b∈fp,eI X ac H b)(k:∀b o,b∉fp->s.heap.get? b=some o->h'.get? b=some o)(hT:s.heap.objs.size<=T)
  (new:cD X.prog X.w (upd H T (.tup xs)) h' T (.tup xs)):Inv X ac σ (upd H T (.tup xs)) {s with heap:=h',toks:=t'}:=by
 have U:H T=none:=I.hok.fresh hT;have JN:∀b u,H b=some u->b∉fp:=λb u e z=>by rw[(hf b z).1]at e;cases e
 have V1:∀b o,s.heap.get? b=some o->b≠T:=λb o e z=>by have:=X3 e;rw[z]at this;exact YE (Yc this hT) (Nat.lt_irrefl _)
 refine I.step (g':=s.gens) (d':=s.drawn) (ch:=fp) (λb hb=>?_) (λb o _ _ O e _=>k b o O e) (λb o _ _ O e _=>⟨o.slots,k b o O e⟩) (λb o O e n=>by rw[aI (V1 b o e)];exact n)
  (λb o O e=>⟨o,k b o O e⟩) (λb ys e=>by rw[aI (aY e U)];exact e) (λb o u e=>by rw[aI (aY e U)];exact e) (λb ps e=>⟨#[],by rw[aI (aY e U),e];simp⟩) (λm hm=>?_) (λb u e=>?_) I.bare
 ·obtain⟨f0,f1,f2,f3,f4,f5⟩:=hf b hb;exact⟨f3,f1,f4,f5⟩
 ·obtain⟨o,es,ep,ho,r⟩:=hm;exact⟨o,es,ep,k _ o (λz=>(hf _ z).2.1 rfl) ho,r⟩
 ·by_cases hb:b=T
  ·subst hb;rw[ae]at e;cases e;exact new
  ·rw[aI hb]at e;refine(I.hok b u e).stay (λc v O q=>k c v ?_ q) (λc q=>by rw[aI (aY q U)];exact q) λc ys q=>by rw[aI (aY q U)];exact q
   rcases O with z|z
   ·rw[z];exact JN b u e
   ·exact JN c _ z
theorem Inv.zZ{t':Nat}{fp:Z6}(I:Inv X ac σ H s)(U:∀b∈fp,eI X ac H b)(k:∀b o,b∉fp->s.heap.get? b=some o->h'.get? b=some o):Inv X ac σ H {s with heap:=h',toks:=t'}:=by
 have JN:∀b u,H b=some u->b∉fp:=λb u e z=>by rw[(U b z).1]at e;cases e
 refine I.step (g':=s.gens) (d':=s.drawn) (ch:=fp) (λb hb=>?_) (λb o _ _ O e _=>k b o O e) (λb o _ _ O e _=>⟨o.slots,k b o O e⟩) (λb o O e n=>n)
  (λb o O e=>⟨o,k b o O e⟩) (λb ys e=>e) (λb o u e=>e) (λb ps e=>⟨#[],by rw[e];simp⟩) (λm hm=>?_) (λb u e=>?_) I.bare
 ·obtain⟨f0,f1,f2,f3,f4,f5⟩:=U b hb;exact⟨f3,f1,f4,f5⟩
 ·obtain⟨o,es,ep,ho,r⟩:=hm;exact⟨o,es,ep,k _ o (λz=>(U _ z).2.1 rfl) ho,r⟩
 ·refine(I.hok b u e).stay (λc v O q=>k c v ?_ q) (λ_ q=>q) λ_ _ q=>q;rcases O with z|z
  ·rw[z];exact JN b u e
  ·exact JN c _ z
end
section
variable{prog:Program}{w:World}{A:Around}{E:nT}{s:Shared}
theorem Aj{it t:Addr}{i:Nat}{items:Array Value}{x:Value}{Q:nT}(z:s.heap.IsTupleIter it t i)(ht:s.heap.IsTuple t items)(hx:items[i]? = some x)
  (hQ:∀h',h'.IsTupleIter it t (i+1)->Heap.SameBut it s.heap h'->Q x {s with heap:=h'}):wpAny (model prog w) A (Builtin.SmallTypes.nextOf (.ref it)) Q E s:=by
 obtain⟨o,O,hc,hd⟩:=id z;obtain⟨ol,hol,_,nl,U⟩:=ht;unfold Builtin.SmallTypes.nextOf;refine X0 (wpAny_callSpecial?_slot (name:=Str.ofString "__next__") z.typeIs F.slot_tuple_iterator_next (YQ F.slot_tuple_iterator_next z.typeIs F.entry_tuple_iterator_next ?_ (F.args_tuple_iterator_next_1 _)));show wpAny _ _ (field (.ref it) 0 >>= _) _ _ s;refine X0 (wpAny_field O hd (x:=.ref t) rfl ?_);show wpAny _ _ (if(Value.ref t==Value.none)=true then _ else _) _ _ s;rw[YF (show¬((Value.ref t==Value.none)=true) from Yh)];show wpAny _ _ (field (.ref it) 1 >>= _) _ _ s;refine X0 (wpAny_field O hd (x:=.int i 0) rfl ?_);show wpAny _ _ (seqItems? (.ref t) >>= _) _ _ s;refine X0 (wpAny_seqItems hol U ?_);simp only[Int.toNat_natCast,hx];refine X0 (wpAny_setField O hd (by simp) (X1 ⟨x,rfl,X1 (hQ _ ?_ (Heap.SameBut.update ..))⟩));exact⟨_,Heap.get?_update_self _ O (Obj.isFreed_of_fields (Obj.data_mapFields hd _)),(Obj.cls_mapFields ..).trans hc,by rw[Obj.data_mapFields hd];simp[rawInt]⟩
end
section
variable{prog:Program}{w:World}{A:Around}{E:nT}{s:Shared}
theorem lD{it t:Addr}{i:Nat}{items:Array Value}{Q:nT}(hh:A.handled=none)(z:s.heap.IsTupleIter it t i)(ht:s.heap.IsTuple t items)(hx:items[i]? = none)
  (hE:∀h' e,Heap.ExtBut it s.heap h'->(∃o,h'.get? e=some o/\o.cls=.type "StopIteration")->E (.ref e) {s with heap:=h'}):wpAny (model prog w) A (Builtin.SmallTypes.nextOf (.ref it)) Q E s:=by
 obtain⟨o,U,hc,hd⟩:=id z;obtain⟨ol,hol,_,nl,O⟩:=ht;unfold Builtin.SmallTypes.nextOf;refine X0 (wpAny_callSpecial?_slot (name:=Str.ofString "__next__") z.typeIs F.slot_tuple_iterator_next (YQ F.slot_tuple_iterator_next z.typeIs F.entry_tuple_iterator_next ?_ (F.args_tuple_iterator_next_1 _)));show wpAny _ _ (field (.ref it) 0 >>= _) _ _ s;refine X0 (wpAny_field U hd (x:=.ref t) rfl ?_);show wpAny _ _ (if(Value.ref t==Value.none)=true then _ else _) _ _ s;rw[YF (show¬((Value.ref t==Value.none)=true) from Yh)];show wpAny _ _ (field (.ref it) 1 >>= _) _ _ s;refine X0 (wpAny_field U hd (x:=.int i 0) rfl ?_);show wpAny _ _ (seqItems? (.ref t) >>= _) _ _ s;refine X0 (wpAny_seqItems hol O ?_);simp only[Int.toNat_natCast,hx];refine X0 (wpAny_rule (X0 (wpAny_setField U hd (by simp) ?_)));show wpAny _ _ (newExc (.type "StopIteration") [] >>= _) _ _ _;refine X0 ?_;simp only[newExc,newTuple];refine X0 (Yz ?_ (by size_fits));refine X0 (m:=firstArgMember _ _) (wpAny_of_eq (a:=Value.none) (by first|rfl | (simp only[firstArgMember];rfl)) ?_);refine Yz ?_ (by size_fits);simp only[raiseNew];refine X0 (wpAny_handled ?_);first|rw[show A.in1.handled=none from hh]|rw[hh]
 refine X0 (X1 (wpAny_throw ?_));exact hE _ _ (((Heap.SameBut.update ..).extBut.push _).push _) ⟨_,X4 _ rfl,rfl⟩
theorem uR{h h':Heap}{a b:Addr}{xs:Array Value}(x:h.IsTuple a xs)(hs:Heap.ExtBut b h h')(z:a≠b):h'.IsTuple a xs:=let ⟨o,ho,r⟩:=x;⟨o,hs a o z ho,r⟩
theorem Cr(hh:A.handled=none)(it t:Addr)(U:t≠it)(items:Array Value):Draws prog w A it [it,t] items.size (λi v=>items[i]? = some v) (λi h=>h.IsTupleIter it t i/\h.IsTuple t items) where
 live:=λ_ _ st=>let ⟨o,ho,_⟩:=st.1;⟨o,ho⟩
 frame:=λ_ _ _ st hk=>⟨st.1.at λo e=>hk it (by simp) o e,let ⟨o,ho,r⟩:=st.2;⟨o,hk t (by simp) o ho,r⟩⟩
 item:=λi s Q E hi st hQ=>by refine Aj st.1 st.2 (x:=items[i]) (by simp[hi]) λh' z O=>?_;exact hQ _ h' s.toks (by simp[hi]) ⟨z,uR st.2 O.extBut U⟩ O
 done:=λs Q E st hE=>lD hh st.1 st.2 (by simp) hE
abbrev QC(h:Heap)(t:Addr):Heap:=h.push {cls:=.type "tuple_iterator",data:=.fields #[.ref t,.int 0 0]}
abbrev Td(h:Heap)(t:Addr):Heap:=(QC h t).push {cls:=.type "enumerate",data:=.fields #[.none,.bool false,.ref h.objs.size,rawInt 0,.none,.none]}
theorem xt(t:Addr)(items:Array Value)(n:Nat)(O:Option Addr)(sl:Array (Z5)) :
  Meets (Builtin.«enumerate.__new__» ⟨[.type "enumerate",.ref t],[]⟩) (λ_ R s=>s.heap.get? t=some {cls:=.type "tuple",dict:=O,data:=.seq items n,slots:=sl}/\R (.ok (.ret (.ref (QC s.heap t).objs.size))) {s with heap:=Td s.heap t}) :=
 .of_wp λprog w A R s h=>by
  obtain⟨hp,g,d,tk,os⟩:=s;obtain⟨z,h⟩:=h;have hsub:=sub_enumerate;have U:Heap.IsTuple (Shared.heap ⟨hp,g,d,tk,os⟩) t items:=⟨_,z,rfl,n,rfl⟩
  wp_walk using AutoSeq1.wpAny_loadPart' z
  refine wpAny_stack_any λst=>X1 ?_;split
  ·rename_i c _ _ _ _ _;cases(c==Value.type "enumerate")
   ·wp_walk using AutoSeq1.wpAny_loadPart' z,wpAny_pyIter_tuple U
    exact⟨_,rfl,h⟩
   ·wp_walk using AutoSeq1.wpAny_loadPart' z,wpAny_pyIter_tuple U
    exact⟨_,rfl,h⟩
  ·wp_walk using AutoSeq1.wpAny_loadPart' z,wpAny_pyIter_tuple U
   exact⟨_,rfl,h⟩
theorem zd{t:Addr}{items:Array Value}{Q:nT}(hL:s.heap.IsTuple t items)
  (h:∀h',IsEnum h' (s.heap.objs.size+1) s.heap.objs.size 0 .none->h'.IsTupleIter s.heap.objs.size t 0->h'.objs.size=s.heap.objs.size+2->(∀b o,s.heap.get? b=some o->h'.get? b=some o)->Q (.ref (s.heap.objs.size+1)) {s with heap:=h'}) :
  wpAny (model prog w) A (call (.type "enumerate") [.ref t]) Q E s:=by
 obtain⟨⟨c,U,dt,sl⟩,hl,O,n,hd⟩:=hL;replace O:c=.type "tuple":=O;replace hd:dt=.seq items n:=hd;subst O hd;refine callType_new F.called_enumerate (by decide) (F.typeCall_enumerate_1 _) (F.newCall_enumerate_1 _) (λobj=>F.args_object_init_2 obj _) F.entry_enumerate_new (xt t items n U sl) ⟨hl,?_⟩;have hz:(QC s.heap t).objs.size=s.heap.objs.size+1:=Heap.size_push ..;show _/\_;have z:(Td s.heap t).get? (QC s.heap t).objs.size=some _:=X4 _ rfl;rw[hz]at z;rw[hz];exact⟨⟨_,z,rfl⟩,h _ z ⟨_,X2 _ (X4 _ rfl),rfl,rfl⟩ (by rw[Heap.size_push,hz]) λb o x=>X2 _ (X2 _ x)⟩
end
def PJ(K:YY)(a:Addr):It :=
 ⟨λi H=>∃xs x,aX K H a xs/\xs[i]? = some x,
   λi H v H'=>∃T x,v=.ref T/\H T=none/\H'=upd H T (.tup [.int (i:Nat),x])/\∀xs,aX K H a xs->xs[i]? = some x,
   λi H=>∃xs,aX K H a xs/\xs.length<=i⟩
theorem yH{P:Program}{w:World}{K:YY}{es:List Expr}{x1:Nat}{pos:Pos}(a e it:Addr)(hne:e≠it) :
  Turn P w K (.Tuple es x1 pos) (PJ K a) [e,it] e (λi h=>(∃old,IsEnum h e it (i:Nat) old)/\h.IsTupleIter it a i) where
 mem:=by simp
 obj:=λi h st c O=>by
  obtain⟨⟨old,h1⟩,⟨o4,e4,c4,d4⟩⟩:=st;simp only[Ym,YH,or_false]at O;rcases O with rfl|rfl
  ·exact⟨_,h1,λv z=>by cases(show Data.fields _=Data.cell v from z)⟩
  ·exact⟨o4,e4,λv z=>by rw[d4]at z;cases z⟩
 keep:=λi h h' st k=>by obtain⟨⟨old,h1⟩,h4⟩:=st;exact⟨⟨old,k e (by simp) _ h1⟩,h4.at λo q=>k it (by simp) o q⟩
 item:=by
  intro X hP hw hK O i ac s σ H E I hf st hg;subst hP hw hK;obtain⟨xs,x,hq,hx⟩:=hg;obtain⟨U,rv,p,hz⟩:=I.tuple hq;obtain⟨u,hu,ru⟩:=rv.get hx;obtain⟨⟨old,h1⟩,h4⟩:=st;have p':s.heap.IsTuple a U.toArray:=p;have Xz:e≠a:=λz=>by obtain⟨o,eo,co,_⟩:=p';rw[←z,h1]at eo;cases eo;exact YE (Value.type.inj co) (by decide)
  have UT:a≠it:=λz=>by obtain⟨o,eo,co,_⟩:=p';obtain⟨o4,e4,c4,_⟩:=h4;rw[z,e4]at eo;cases eo;exact YE (Value.type.inj (c4.symm.trans co)) (by decide)
  have hu':U.toArray[i]? = some u:=by simpa using hu
  have hlt:i<U.toArray.size:=by
   rcases Nat.lt_or_ge i U.toArray.size with z|z
   ·exact z
   ·rw[Array.getElem?_eq_none z]at hu';cases hu'
  refine wpAny_pyNext_enum_itemD (Cr (show X.A.in1.handled=none from I.ok.hd O) it a UT U.toArray) h1 ⟨h4,p'⟩ hlt hne (by simp[hne,Xz]) λy h' tk hy g1 g2 g3 gs g6=>⟨_,rfl,?_⟩;have Wr:y=u:=by rw[hu']at hy;exact(Yr hy).symm
  subst Wr;refine wpAny_letOwnedTupleGo_enum (show IsEnumOut h' e it ((i:Int)+1) y s.heap.objs.size from g1) λh'' f1 fs=>?_;have elt:e<s.heap.objs.size:=X3 h1;have WQ:s.heap.objs.size≠e:=Nat.ne_of_gt elt;have kk:∀c o,c∉[e,it]->s.heap.get? c=some o->h''.get? c=some o:=λc o O q=>by simp only[Ym,YH,or_false,not_or]at O;exact fs.extBut _ _ O.1 (g6 c o O.1 O.2 q)
  have pT:=fs.extBut _ _ WQ g3;have I1:Inv X ac σ (upd H s.heap.objs.size (.tup [.int (i:Nat),x])) {s with heap:=h'',toks:=tk+1}:=I.CW hf kk (X5 _) ⟨by show 2<=sizeLine;decide,[.int (i:Nat) tk,y],.cons ⟨tk,rfl⟩ (.cons ru .nil),⟨_,pT,rfl,⟨_,rfl⟩,rfl⟩⟩;refine⟨.ref s.heap.objs.size,_,I1,rfl,⟨_,x,rfl,I.hok.fresh (X5 _),rfl,λys hy'=>by rw[I.pU hy' hq];exact hx⟩,⟨⟨_,f1⟩,g2.1.extBut fs.extBut hne.symm⟩,λc O=>?_⟩;have hn:=(hf c O).1;have:c≠s.heap.objs.size:=by
   simp only[Ym,YH,or_false]at O;obtain⟨o4,e4,_⟩:=h4;rcases O with rfl|rfl
   ·exact Yp elt
   ·exact Yp (X3 e4)
  rw[aI this];exact hn
 done:=by
  intro X hP hw hK O i ac s σ H E I hf st hg;subst hP hw hK;obtain⟨xs,hq,hx⟩:=hg;obtain⟨U,rv,p,hz⟩:=I.tuple hq;obtain⟨⟨old,h1⟩,h4⟩:=st;have hl:=rv.length;have hn:U.toArray[i]? = none:=by simp;omega
  unfold pyNext;have hT:s.TypeIs (.ref e) "enumerate":=⟨_,h1,rfl⟩;refine X0 (wpAny_attempt (wpAny_callSpecial?_slot (name:=Str.ofString "__next__") hT F.slot_enumerate_next (YQ F.slot_enumerate_next hT F.entry_enumerate_next ?_ (F.args_enumerate_next_1 _))));show wpAny _ _ (field (.ref e) 2 >>= _) _ _ _;refine X0 (wpAny_field h1 rfl (x:=.ref it) rfl ?_);refine X0 (lD (show X.A.in1.handled=none from I.ok.hd O) h4 (show s.heap.IsTuple a U.toArray from p) hn λh' x he' hx'=>?_);obtain⟨o,ho,hco⟩:=hx';refine X0 (wpAny_isInstance (T:="StopIteration") (b:=true) ⟨o,ho,hco⟩ isSubtype_stop ?_);refine X1 ⟨rfl,I.zZ (t':=s.toks) hf λc o O q=>?_⟩;simp only[Ym,YH,or_false,not_or]at O;exact he' c o O.2 q
 self:=λ_ _ _ _ _ st h=>let ⟨⟨_,h1⟩,_⟩:=st;wpAny_pyIter_enum h1 h
section
variable{X:Cx}
def Pz(K:YY)(ta:TA):TI:=λσ H R=>ta σ H λvs H1=>∃a,vs=[.ref a]/\(∃xs,aX K H1 a xs)/\R (PJ K a) H1
theorem kz{es:List Expr}{x1:Nat}{tpos:Pos}{a:Expr}{ta:TA}{p pos:Pos}(hg:Gl X "enumerate")(hm:X.mg "enumerate"=none)(ha:PA X [a] ta)(hs:starEach [a] X.env=[(false,eval a X.env)]:=by rfl) :
  PI X (.Tuple es x1 tpos) (.Call (.Name "enumerate" p) [a] [] pos) (Pz X.K ta):=by
 intro ac s σ H R I h;refine Call_ (jT I hg hm (by decide +kernel:bootBuiltins "enumerate"=some (.type "enumerate")) (PyProof.Rows.callWith_type1 (cu (ha pos ac s σ H _ I h) λus s1 zz=>?_) hs rfl));obtain⟨vs,H1,O,r1,q1⟩:=zz;obtain⟨l1,e,⟨xs,U⟩,q⟩:=q1;subst e;cases r1 with
 |cons r rr =>
  cases rr;cases r;obtain⟨its,rv,p1,hz⟩:=O.tuple U;refine zd p1 λh' he hi hsz hk=>?_;refine wpAny_pyIter_enum (show IsEnum h' _ _ _ _ from he) ?_;refine⟨_,[s1.heap.objs.size+1,s1.heap.objs.size],_,_,H1,rfl,O.kept (t':=s1.toks) hk,yH _ _ _ (Nat.succ_ne_self _),⟨⟨_,he⟩,hi⟩,λc hc=>?_,q⟩;simp only[Ym,YH,or_false]at hc;have z:s1.heap.objs.size<=c:=by rcases hc with rfl|rfl<;>first|exact X5 _|exact Nat.le_add_right _ _
  exact O.pH z (O.hok.fresh z)
end
theorem jC{K:YY}{a:Addr}{xs:List V}{g:TG}{tb:TS}{D:Ends}{σ:St}{H:Hp}(Pv:Nat->St->Hp->Prop)(h0:Pv 0 σ H)(hl:∀i σ H,i<=xs.length->Pv i σ H->aX K H a xs)
  (hs:∀i x σ H T,xs[i]? = some x->Pv i σ H->H T=none->g (.ref T) σ (upd H T (.tup [.int (i:Nat),x])) λO H2=>tb {D with nx:=Pv (i+1),ct:=Pv (i+1),bk:=D.nx} O H2) (hd:∀σ H,Pv xs.length σ H->D.nx σ H) :
  ∃W:Nat->Nat->St->Hp->Prop,(∃m,W 0 m σ H)/\∀i m σ H,W i m σ H->
   ((PJ K a).stop i H/\D.nx σ H)\/((PJ K a).go i H/\∃N:St->Hp->Prop,(∀σ' H',N σ' H'->∃U,U<m/\W (i+1) U σ' H')/\∀x H',(PJ K a).FL i H x H'->g x σ H' λO H2=>tb {D with nx:=N,ct:=N,bk:=D.nx} O H2):=by
 refine⟨λi m σ H=>m=xs.length-i/\i<=xs.length/\Pv i σ H,⟨xs.length,by simp,Yq _,h0⟩,?_⟩;rintro i m σ H ⟨rfl,hi,p⟩;have q:=hl i σ H hi p;by_cases z:i<xs.length
 ·refine .inr ⟨⟨xs,xs[i],q,by simp[z]⟩,Pv (i+1),λσ' H' p'=>⟨xs.length-(i+1),by omega,rfl,z,p'⟩,λv H' y=>?_⟩;obtain⟨T,x,rfl,hT,rfl,hx⟩:=y;exact hs i x σ H T (hx xs q) p hT
 ·have e:i=xs.length:=by omega
  subst e;exact .inl ⟨⟨xs,q,X5 _⟩,hd σ H p⟩
end L2
namespace My
open PySem L2
section
variable{X:Cx}{N':List Str}{sc:Scope}{cl:List (Str×Addr)}{C:Addr}{s:Shared}{H:Hp}{fp:Z6}{E:XK}
theorem KO{i:Nat}{x:Str}{pos:Pos}(hn:N'.Nodup:=by decide +kernel)(z:N'[i]? = some x:=by rfl)(hv:sc.names.lookup x=some .local:=by rfl):PG ((aV X N' sc cl C s H fp).xs E) (.Name x pos) (b9 i):=PG.BF (gg (X:=X) (cl:=cl) (C:=C) (s:=s) (H:=H) (fp:=fp) (N':=N') hn z hv)
theorem RF(i:Nat){x:Str}{pos:Pos}(O:N'[i]? = some x:=by rfl)(hv:sc.names.lookup x=some .local:=by rfl)(hd:(x==("__debug__" : Str))=false:=by decide)(z:(x==("__classdict__" : Str))=false:=by decide):PE ((aV X N' sc cl C s H fp).xs E) (.Name x pos) (br i):=PE.BF (gK (X:=X) (cl:=cl) (C:=C) (s:=s) (H:=H) (fp:=fp) (N':=N') i O hv hd z)
end
theorem gB{t1 t2:TS}{D:Ends}{σ:St}{H:Hp}(z:St->Hp->Prop)(h:∀T:St->Hp->Prop,(∀σ' H',z σ' H'->T σ' H')->t1 {D with nx:=T} σ H)(t:∀σ' H',z σ' H'->t2 D σ' H'):vI t1 t2 D σ H:=h _ t
theorem md{α:Type}{l:List α}{i:Nat}{x:α}(h:l[i]? = some x):l.drop i=x::l.drop (i+1):=by obtain⟨hi,rfl⟩:=Yj.mp h;exact List.drop_eq_getElem_cons hi
def gz(fl:Addr)(H H':Hp):Prop:=∀b o,b≠fl->H b=some o->H' b=some o
theorem gz.of{fl:Addr}{H H':Hp}(s:aH H H'):gz fl H H':=λ_ _ _ e=>s _ _ e
theorem gz.trans{fl:Addr}{H H1 H2:Hp}(a:gz fl H H1)(b:gz fl H1 H2):gz fl H H2:=λ_ _ n e=>b _ _ n (a _ _ n e)
theorem gz.put{fl:Addr}{H H1:Hp}{o:HO}(a:gz fl H H1):gz fl H (upd H1 fl o):=λb u n e=>by rw[aI n];exact a _ _ n e
theorem gz.new{fl L:Addr}{H H1:Hp}{o:HO}(z:H L=none)(a:gz fl H H1):gz fl H (upd H1 L o):=λb u n e=>by rw[aI (aY e z)];exact a _ _ n e
theorem gz.b_{fl:Addr}{H H':Hp}{xs:List V}(g:gz fl H H')(h:H fl=some (.lst xs)):aE H H':=λa ys e=>g _ _ (λz=>by rw[z,h]at e;cases e) e
theorem iT.keep{H H':Hp}{a:Addr}{k:Kn}(s:aE H H')(h:iT H a k):iT H' a k:=by obtain⟨u,p,h1,h2,h3⟩:=h;exact⟨u,p,s _ _ h1,s _ _ h2,s _ _ h3⟩
def yw:Nat->List Wk->Prop
 | 0,ws=>ws.length<=12/\∀x∈ws,sY x
 |n+1,ws=>ws.length<=12/\∀x∈ws,sY x/\∀p∈cm x,yw n p
theorem yw.len{n:Nat}{ws:List Wk}(h:yw n ws):ws.length<=12:=by cases n<;>exact h.1
theorem yw.ok{n:Nat}{ws:List Wk}(h:yw n ws){x:Wk}(z:x∈ws):sY x:=by
 cases n with
 |zero=>exact h.2 x z
 |succ n=>exact(h.2 x z).1
def cW:Nat->Nat
 | 0=>1
 |n+1=>1+2*(12*cW n+1)
def bnd(n:Nat):Nat:=12*cW n+1
def Xu(C fl:Addr)(H:Hp)(a:List Int)(s:Str)(E:XK):Prop:=∀(e dx q:Addr)(H':Hp),gz fl H H'->H' e=some (xO e C (some dx))->H' dx=some (xD dx (KL (.ref q) (.str s)))->H' q=some (.tup (a.map V.int))->E (.ref C) (some e) H'
theorem jB.keep{H H':Hp}{as:Z6}{t:Tr}(s:aE H H')(h:jB H as t):jB H' as t:=⟨h.len,λi a e z O=>let ⟨q,hh,z1,z2,z3⟩:=h.at_ i a e z O;⟨q,hh,s _ _ z1,s _ _ z2,s _ _ z3⟩⟩
structure QK(n:Nat)(H:Hp)(p b pl fl:Addr)(ws:List Wk)(k:Kn)(pi:List Int)(xs:List V):Prop where
 pp:jA n H p ws
 kn:iT H b k
 pl:H pl=some (.tup (pi.map V.int))
 fl:H fl=some (.lst xs)
 ok:yw n ws
 ko:qy k
 pz:pi.length+2*n<=100
 xz:xs.length+bnd n<=100000
def AG(C:Addr):Nat->Sp
 | 0=>λ_ _ _ _=>False
 |n+1=>λvs H Q E=>∃(p b pl fl:Addr)(ws:List Wk)(k:Kn)(pi:List Int)(xs:List V),vs=[.ref p,.ref b,.ref pl,.ref fl]/\QK n H p b pl fl ws k pi xs/\
  (∀a s,putL (bY n) pi 0 k.hd k.fl ws=.no a s->Xu C fl H a s E)/\
  (∀h f,putL (bY n) pi 0 k.hd k.fl ws=.ok h f->∀(u:Addr)(k':Kn)(H':Hp)(as:Z6),gz fl H H'->iT H' u k'->qy k'->k'.hd=h->k'.fl=f->H' fl=some (.lst (xs++as.map V.ref))->as.length<=bnd n->jB H' as (TL n pi 0 k.hd k.fl ws)->Q (.ref u) H')
theorem oo{x:Wk}(h:gC x=false):cm x=[]/\DC x=1:=by cases x<;>first|exact⟨rfl,rfl⟩|cases h
theorem Iy{n:Nat}{x:Wk}{h:Hd}{f:Fl}{pl:List Int}(z:gC x=false):bY n h f pl x=m7 x h f pl [(h,f)]:=by
 cases x with
 |one x=>cases n<;>rfl
 |both p q=>cases z
 |meet c d p q=>cases z
theorem Mw{n:Nat}{x:Wk}{h:Hd}{f:Fl}{pl:List Int}(z:gC x=true):bY (n+1) h f pl x=uJ (bY n) x h f pl (cm x) 0 []:=by
 cases x with
 |one x=>cases z
 |both p q=>rfl
 |meet c d p q=>rfl
theorem rW{x:Wk}(z:gC x=true):(cm x).length=2/\DC x=2:=by cases x<;>first|exact⟨rfl,rfl⟩|cases z
theorem RW{x:Wk}{H:Hp}{a:Addr}(h:dZ 0 H a x):gC x=false:=by cases x<;>first|rfl|exact YK h
def qi(ks:List Kn):List (Hd×Fl):=ks.map λk=>(k.hd,k.fl)
theorem HV(ks:List Kn):(qi ks).map (λe=>e.1)=mz ks:=by rw[qi,List.map_map];rfl
theorem HP(ks:List Kn):(qi ks).map (λe=>e.2)=ks.map Kn.fl:=by rw[qi,List.map_map];rfl
theorem IE{x:Wk}{f:Fl}{hs:List Hd}(h:mI x f hs=none):eX x hs=true/\(bc x hs).length<=6:=by
 unfold mI at h;split at h
 ·split at h
  ·split at h
   ·exact⟨by assumption,by assumption⟩
   ·cases h
  ·cases h
 ·cases h
theorem HS{x:Wk}{k:Kn}{ks:List Kn}(z:gC x=false->ks=[k])(h:eX x (mz ks)=true):keepIn x k.hd:=by rintro c t rfl;rw[z rfl]at h;exact fv h (by simp[fU])
theorem Mg(n:Nat):1<=cW n:=by
 cases n with
 |zero=>exact X5 _
 |succ n=>show 1<=1+_;omega
theorem Bu(n:Nat):cW (n+1)=1+2*bnd n:=rfl
theorem wM{H H':Hp}{L u:Addr}{as:Z6}{ks:List Kn}{k:Kn}(h:kW H L as ks)(g:∀a k,iT H a k->iT H' a k)(hk:iT H' u k)(hL:H' L=some (.lst ((as++[u]).map V.ref))):kW H' L (as++[u]) (ks++[k]):=by
 refine⟨hL,by rw[X_,X_,h.len];rfl,λi a k' z U=>?_⟩;by_cases hi:i<as.length
 ·rw[Yt hi]at z;rw[Yt (by rw[←h.len];exact hi)]at U;exact g _ _ (h.at_ i a k' z U)
 ·have O:i=as.length:=by have:=(Yj.mp z).1;rw[X_]at this;simp at this;omega
  rw[O,Ys (X5 _),Nat.sub_self]at z;rw[O,h.len,Ys (X5 _),Nat.sub_self]at U;cases z;cases U;exact hk
theorem aE.refl{H:Hp}:aE H H:=λ_ _ e=>e
theorem aE.trans{H H1 H2:Hp}(a:aE H H1)(b:aE H1 H2):aE H H2:=λ_ _ e=>b _ _ (a _ _ e)
theorem aE.dP{H H':Hp}{L:Addr}{xs:List V}{o:HO}(k:aE H H')(h:H' L=some (.lst xs)):aE H (upd H' L o):=λa ys e=>by have:=k _ _ e;rw[aI (λz=>by rw[z,h]at this;cases this)];exact this
theorem K9(pi:List Int)(i:Int):pi.map V.int++[V.int i]=(pi++[i]).map V.int:=by rw[Ya];rfl
inductive W4(a b c d e:V)(σ:St):Prop
 |mk (o5 o6 o7 o8 o9 p9 x8:Option V) (h:σ=[some a,some b,some c,some d,some e,o5,o6,o7,o8,o9,p9,x8])
inductive PB(a b c d e f g h i:V)(σ:St):Prop
 |mk (o9 p9 x8:Option V) (h:σ=[some a,some b,some c,some d,some e,some f,some g,some h,some i,o9,p9,x8])
inductive Vo(n:Nat)(p b pl fl:Addr)(H:Hp)(k:Kn)(ws:List Wk)(pi:List Int)(xs:List V)(i:Nat)(σ:St)(H':Hp):Prop
 |mk (kb:Addr) (ki:Kn) (ys:List V) (st:W4 (.ref p) (.ref b) (.ref pl) (.ref fl) (.ref kb) σ) (h1:iT H' kb ki) (h2:qy ki) (h3:gz fl H H') (h4:H' fl=some (.lst ys)) (h5:ys.length<=xs.length+i*cW n) (h6:putL (bY n) pi 0 k.hd k.fl ws=putL (bY n) pi i ki.hd ki.fl (ws.drop i)) (h7:∃t,GL H' xs ys t/\TL n pi 0 k.hd k.fl ws=t++TL n pi i ki.hd ki.fl (ws.drop i))
inductive UN(n:Nat)(p b pl fl kb:Addr)(i:Nat)(a u2 L:Addr)(H4:Hp)(x:Wk)(ki k:Kn)(ws:List Wk)(pi:List Int)(ys xs:List V)(σ:St)(H6:Hp):Prop
 |mk (as:Z6) (ks:List Kn) (zs:List V) (st:PB (.ref p) (.ref b) (.ref pl) (.ref fl) (.ref kb) (.int (i:Nat)) (.ref a) (.ref u2) (.ref L) σ) (h1:kW H6 L as ks) (h2:ks.length=(cm x).length) (h3:∀k∈ks,qy k) (h4:aE H4 H6) (h5:gz fl H4 H6) (h6:H6 fl=some (.lst zs)) (h7:zs.length<=ys.length+cW n) (h8:gC x=true->bY n ki.hd ki.fl (pi++[(i:Int)]) x=m7 x ki.hd ki.fl (pi++[(i:Int)]) (qi ks)) (h9:∃t,GL H6 xs zs t/\TL n pi 0 k.hd k.fl ws=t++lH (bY n ki.hd ki.fl (pi++[(i:Int)]) x) λh' f'=>TL n pi (i+1) h' f' (ws.drop (i+1)))
inductive V_(n:Nat)(p b pl fl kb:Addr)(i:Nat)(a u2 L:Addr)(H4:Hp)(H5:Hp)(x:Wk)(ki k:Kn)(ws:List Wk)(pi:List Int)(ys xs:List V)(j:Nat)(σ:St)(H6:Hp):Prop
 |mk (as:Z6) (ks:List Kn) (zs:List V) (st:PB (.ref p) (.ref b) (.ref pl) (.ref fl) (.ref kb) (.int (i:Nat)) (.ref a) (.ref u2) (.ref L) σ) (h1:kW H6 L as ks) (h2:ks.length=j) (h3:∀k∈ks,qy k) (h4:aE H5 H6) (h5:gz fl H4 H6) (h6:H6 fl=some (.lst zs)) (h7:∀m,n=m+1->zs.length<=ys.length+1+j*bnd m) (h8:j=0->zs.length<=ys.length+1) (h9:∀m,n=m+1->gC x=true->bY n ki.hd ki.fl (pi++[(i:Int)]) x=uJ (bY m) x ki.hd ki.fl (pi++[(i:Int)]) ((cm x).drop j) j (qi ks)) (h10:∃t,GL H6 xs zs t/\TL n pi 0 k.hd k.fl ws=t++(Nn n ki.hd ki.fl (pi++[(i:Int)]) x j++lH (bY n ki.hd ki.fl (pi++[(i:Int)]) x) λh' f'=>TL n pi (i+1) h' f' (ws.drop (i+1))))
inductive Wd(n:Nat)(p b pl fl kb:Addr)(i:Nat)(a u2 L:Addr)(H4:Hp)(x:Wk)(ki k:Kn)(ws:List Wk)(pi:List Int)(zs xs:List V)(o9 p9 x8:Option V)(σ:St)(H7:Hp):Prop
 |mk (as:Z6) (ks:List Kn) (st:σ=[some (.ref p),some (.ref b),some (.ref pl),some (.ref fl),some (.ref kb),some (.int (i:Nat)),some (.ref a),some (.ref u2),some (.ref L),o9,p9,x8]) (h1:kW H7 L as ks) (h2:ks.length=DC x) (h3:∀k∈ks,qy k) (h4:gC x=false->ks=[ki]) (h5:aE H4 H7) (h6:gz fl H4 H7) (h7:H7 fl=some (.lst zs)) (h8:bY n ki.hd ki.fl (pi++[(i:Int)]) x=m7 x ki.hd ki.fl (pi++[(i:Int)]) (qi ks)) (h9:∃t,GL H7 xs zs t/\TL n pi 0 k.hd k.fl ws=t++lH (bY n ki.hd ki.fl (pi++[(i:Int)]) x) λh' f'=>TL n pi (i+1) h' f' (ws.drop (i+1)))
abbrev ib:Stmt:=top 48
theorem cj:ax ["pipe","begun","prefix","found","known","at","worker","place","told","side","branch","why"] ["pipe","begun","prefix","found"] (aq ib):=fs
variable{P:Program}{w:World}{K:YY}{mg:Z0}{base:Heap}
theorem Ae{C fI:Addr}{d2:FuncData}{n L:Nat}(B:j_ mg)(mE:mg "enumerate"=none)(Cf:Pd K mg C fI)(F:FA K mg "go_through" ib)(GI:f_ P w K mg base bx 1 fI d2 ZM (AV K C))(bI:Binds K d2 ZM [])
  (fk:bz bx P w K mg base 1 "branches_of" Z8 (xZ n))
  (kc:bz (yy P w) P w K mg base (L+5) "go_through" ["pipe","begun","prefix","found"] (AG C n))
  (CQ:bz bx P w K mg base 5 "why_not" ["worker","known","heads"] (Gn n))
  (r0:bz bx P w K mg base 4 "known_behind" ["worker","known","told"] (rz n)) :
  bz (yy P w) P w K mg base (L+6) "go_through" ["pipe","begun","prefix","found"] (AG C (n+1)):=by
 refine F.Ll cj λf cdv A outer s H vs Q E hr h=>?_;have hu:=fJ hr;have hu1:=jF hr;obtain⟨p,b,pl,fl,ws,k,pi,xs,rfl,hG,qx,q⟩:=h;refine⟨_,(ao (aU (i:=4) cj.nd rfl (YI rfl) (pv 1))
   (ao (dR (zv rl) rfl (kz rfl mE (aa (pv 0) ag)) (bU rfl (ar (aQ (i:=5) cj.nd rfl (YI rfl)) (ar (aQ (i:=6) cj.nd rfl (YI rfl)) bF)))
    (ao (aU (i:=7) cj.nd rfl (YI rfl) (aL cO (pv 2) (aW (aa (pv 5) ag))))
     (ao (cN (gN PySem.F.plainAttrs_list PySem.F.slot_list_append PySem.F.type_list_append cb (pv 3) (aa (aW (aa (pv 7) (aa (aJ K (pv 4) aj) (aa (aJ K (pv 4) aj) ag)))) ag)))
     (ao (aU (i:=8) cj.nd rfl (YI rfl) (bw ag))
     (ao (dR (zv rl) rfl (kz rfl mE (aa (aG fk hr (aa (pv 6) ag)) ag)) (bU rfl (ar (aQ (i:=9) cj.nd rfl (YI rfl)) (ar (aQ (i:=10) cj.nd rfl (YI rfl)) bF)))
      (bC (cN (gN PySem.F.plainAttrs_list PySem.F.slot_list_append PySem.F.type_list_append cb (pv 8) (aa (t_ kc hr rfl AQ (aa (pv 10) (aa (pv 4) (aa (aL cO (pv 7) (aW (aa (pv 9) ag))) (aa (pv 3) ag))))) ag)))))
     (ao (fi (ba bH (aP aM rfl B.len YW (aa (pv 8) ag)) aj)
      (bC (cN (gN PySem.F.plainAttrs_list PySem.F.slot_list_append PySem.F.type_list_append cb (pv 8) (aa (pv 4) ag))))
      dc)
     (ao (aU (i:=11) cj.nd rfl (YI rfl) (aG CQ hr (aa (pv 6) (aa (pv 4) (aa (Cv (N':=["head","passed","loose"]) (src:=[none,none,none]) rfl rl (bq.jN (by kernel_rfl)) (dg (pv 8)) (g:=(n4 K 3 (cQ (b9 0) (cQ (b9 1) (cQ (b9 2) pC))))) (λcl C s H fp=>(bU rfl (ar (KO (i:=0)) (ar (KO (i:=1)) (ar (KO (i:=2)) bF))))) (λcl C s H fp=>jK.BF bD) (te:=(br 0)) (λcl C s H fp=>(RF 0))) ag)))))
     (ao (fi (ba vE (pv 11) dk)
      (bC (CT rfl Cf.Qr (IU Cf.Qr Cf.kp Cf.fn (GI.mono (by omega)) hr rfl Cf.mf bI tY (aa (pv 7) (aa (pv 11) ag)))))
      dc)
     (bC (aU (i:=4) cj.nd rfl (YI rfl) (aG r0 hr (aa (pv 6) (aa (pv 4) (aa (pv 8) ag))))))))))))))
   (ao (cN (gN PySem.F.plainAttrs_list PySem.F.slot_list_append PySem.F.type_list_append cb (pv 3) (aa (aW (aa (aL cO (pv 2) (aW (aa (aP aM rfl B.len YW (aa (pv 0) ag)) ag))) (aa (aJ K (pv 4) aj) (aa (aJ K (pv 4) aj) ag)))) ag)))
   (ay (pv 4))))),?_⟩
 obtain⟨⟨bs,hI⟩,hk,hpl,hfl,hok,hko,hpz,XN⟩:=hG;have hlb:(bs.map V.ref).length=ws.length:=by rw[X9,hI.len]
 have hcw:=Mg n;have hw9:=hok.len;have hbn:bnd n=12*cW n+1:=rfl;refine⟨_,rfl,ak ?_⟩;dsimp only;refine⟨_,rfl,p,rfl,⟨_,aX.of hI.tup⟩,?_⟩;refine jC (xs:=bs.map V.ref) (Vo n p b pl fl H k ws pi xs)
  ⟨b,k,xs,⟨_,_,_,_,_,_,_,rfl⟩,hk,hko,gz.of (aH.refl _),hfl,Nat.le_add_right _ _,rfl,[],⟨[],(by simp),.nil⟩,rfl⟩ ?_ ?_ ?_
 ·rintro i σ H' _ ⟨kb,ki,ys,_,_,_,g,_⟩;exact aX.of (g.b_ hfl _ _ hI.tup)
 ·rintro i v σ H' T hx ⟨kb,ki,ys,⟨o5,o6,o7,o8,o9,p9,x8,rfl⟩,hki,hoi,g,O,hyz,U,tr,hLs,htr⟩ hT;obtain⟨a,x,rfl,ex,ha⟩:=hI.get hx;have T9:i<12:=by have:=(Yj.mp ex).1;omega
  have hic:i*cW n+cW n<=12*cW n:=by have:=Nat.mul_le_mul_right (cW n) T9;rw[Nat.succ_mul]at this;exact this
  have Uc:=hok.ok (Yf ex);rw[md ex]at U htr;rw[AI]at htr;have U:putL (bY n) pi 0 k.hd k.fl ws=hZ (bY n ki.hd ki.fl (pi++[(i:Int)]) x) λh' f'=>putL (bY n) pi (i+1) h' f' (ws.drop (i+1)):=U;have sT:=ai hT (.tup [.int (i:Nat),.ref a]);refine⟨T,_,rfl,aX.of ae,rfl,_,_,rfl,ak ⟨_,_,rfl,ak ⟨rfl,?_⟩⟩⟩;dsimp only;refine⟨_,rfl,_,rfl,eG,λu1 vk=>?_⟩;have sU:=ai vk (.tup [.int (i:Nat)]);refine⟨pl,u1,_,_,rfl,rfl,sU _ _ (sT _ _ (g.b_ hfl _ _ hpl)),ae,by rw[X9];exact X6 (show _+1<=1000 by omega) (by decide),λu2 H2 KY hu2=>ak ?_⟩;rw[K9]at hu2;have s2:=sT.trans (sU.trans KY);dsimp only;obtain⟨hh,ph,hk1,hk2,hk3⟩:=hki;have hki:iT H' kb ki:=⟨hh,ph,hk1,hk2,hk3⟩;refine⟨_,rfl,.inl ⟨rfl,_,bb.of (s2 _ _ O)⟩,_,rfl,_,rfl,kb,_,0,_,rfl,rfl,aX.of (s2 _ _ hk1),az (j:=0) rfl,_,rfl,kb,_,2,_,rfl,rfl,aX.of (s2 _ _ hk1),rfl,cz,λu3 mU=>?_⟩;have s3:=ai mU (.tup [.ref u2,.ref hh,.bl ki.lo]);refine⟨fl,_,_,rfl,rfl,s3 _ _ (s2 _ _ O),Yb (show ys.length<=100000 by omega) (by decide),?_⟩;have g4:gz fl H' (upd (upd H2 u3 (.tup [.ref u2,.ref hh,.bl ki.lo])) fl (.lst (ys++[.ref u3]))):=(gz.of (s2.trans s3)).put;have BV:upd (upd H2 u3 (.tup [.ref u2,.ref hh,.bl ki.lo])) fl (.lst (ys++[.ref u3])) fl=some (.lst (ys++[.ref u3])):=ae;have ku:upd (upd H2 u3 (.tup [.ref u2,.ref hh,.bl ki.lo])) fl (.lst (ys++[.ref u3])) u2=some (.tup ((pi++[(i:Int)]).map V.int)):=by rw[aI (λz=>by have:=s2 _ _ O;rw[←z,hu2]at this;cases this)];exact s3 _ _ hu2
  have K2:GL (upd (upd H2 u3 (.tup [.ref u2,.ref hh,.bl ki.lo])) fl (.lst (ys++[.ref u3]))) xs (ys++[.ref u3]) (tr++[(pi++[(i:Int)],ki.hd,ki.lo)]):=by
   obtain⟨as,ey,OX⟩:=hLs;have n3:u3≠fl:=λz=>by have:=s2 _ _ O;rw[←z,mU]at this;cases this
   exact GL.app (bs:=[u3]) ⟨as,ey,OX.keep (g4.b_ O)⟩ (jB.one (by rw[aI n3];exact ae) ku (g4.b_ O _ _ hk2))
  revert g4 BV ku K2;generalize upd (upd H2 u3 (.tup [.ref u2,.ref hh,.bl ki.lo])) fl (.lst (ys++[.ref u3]))=H4;intro g4 BV ku K2;have Qf:aE H' H4:=g4.b_ O;have Uz:aE H H4:=(g.b_ hfl).trans Qf;refine⟨Yq _,λL hL=>ak ?_⟩;have Nb:L≠fl:=λz=>by rw[z,BV]at hL;cases hL
  dsimp only;refine gB (UN n p b pl fl kb i a u2 L H4 x ki k ws pi ys xs) (λT2 hT2=>?_) ?_
  ·have sL:=ai hL (.lst []);refine⟨_,rfl,a,x,rfl,ha.keep (Uz.trans (aE.of sL)),λu5 cs H5 s5 hJ=>⟨u5,rfl,⟨_,aX.of hJ.tup⟩,?_⟩⟩;have nR:(cs.map V.ref).length=(cm x).length:=by rw[X9,hJ.len]
   refine jC (xs:=cs.map V.ref) (V_ n p b pl fl kb i a u2 L H4 H5 x ki k ws pi ys xs)
    ⟨[],[],ys++[.ref u3],⟨_,_,_,rfl⟩,⟨s5 _ _ ae,rfl,λi a k e=>by cases e⟩,rfl,λk hk=>(by cases hk),aE.refl,(gz.of sL).trans (gz.of s5),s5 _ _ (sL _ _ BV),?_,?_,?_,tr++[(pi++[(i:Int)],ki.hd,ki.lo)],(by obtain⟨as,ey,OX⟩:=K2;exact⟨as,ey,OX.keep (aE.of (sL.trans s5))⟩),(by rw[htr,Pk];simp;rfl)⟩ ?_ ?_ ?_
   ·intro m _;rw[X_,Nat.zero_mul];simp
   ·intro _;rw[X_];simp
   ·rintro m rfl hb;exact Mw hb
   ·rintro j σ H6 _ ⟨as,ks,zs,_,_,_,_,kT,_⟩;exact aX.of (kT _ _ hJ.tup)
   ·rintro j v σ H6 Xt hv ⟨as,ks,zs,⟨o9,p9,x8,rfl⟩,C9,hkl,K1,NG,g6,yD,M9,_,mR,t6,qv,GK⟩ hT2';obtain⟨c',pp,rfl,ep,ds,Nd⟩:=hJ.get hv;have hbr:gC x=true:=by
     cases hq:gC x with
     |true=>rfl
     |false=>rw[(oo hq).1]at ep;cases ep
    obtain⟨m,rfl⟩ :∃m,n=m+1:=by
     cases n with
     |zero=>rw[RW ha]at hbr;cases hbr
     |succ m=>exact⟨m,rfl⟩
    have hj2:j<2:=by have:=(Yj.mp ep).1;rw[(rW hbr).1]at this;exact this
    have M9:=M9 m rfl;have hcs:=Bu m;have XY:j*bnd m+bnd m<=2*bnd m:=by have:=Nat.mul_le_mul_right (bnd m) hj2;rw[Nat.succ_mul]at this;exact this
    have mR:=mR m rfl hbr;rw[md ep]at mR;have sA:=ai hT2' (.tup [.int (j:Nat),.ref c']);refine⟨Xt,_,rfl,aX.of ae,rfl,_,_,rfl,ak ⟨_,_,rfl,ak ⟨rfl,?_⟩⟩⟩;dsimp only;refine⟨_,rfl,.inl ⟨rfl,_,bb.of (sA _ _ C9.lst)⟩,_,rfl,_,rfl,_,rfl,_,rfl,eG,λu7 CN=>?_⟩;have sB:=ai CN (.tup [.int (j:Nat)]);have JT:aE H4 H6:=g6.b_ BV;refine⟨u2,u7,_,_,rfl,rfl,sB _ _ (sA _ _ (JT _ _ ku)),ae,by rw[X9,X_];exact X6 (show _+1+1<=1000 by omega) (by decide),λu8 H8 s8 fJ=>?_⟩;rw[K9]at fJ;have uS:=sA.trans (sB.trans s8);have MW:=NG.trans (aE.of uS);have g8:gz fl H H8:=(g.trans g4).trans (g6.trans (gz.of uS));have SJ:iT H8 kb ki:=(hki.keep Qf).keep (JT.trans (aE.of uS));refine⟨_,rfl,c',kb,u8,fl,pp,ki,(pi++[(i:Int)])++[(j:Int)],zs,rfl,⟨⟨ds,Nd.keep MW λ_ _ z=>z.keep MW⟩,SJ,fJ,uS _ _ yD,(hok.2 x (Yf ex)).2 pp (Yf ep),hoi,by rw[X_,X_];show _+1+1+_<=_;omega,by omega⟩,?_,?_⟩
    ·intro a' s' he;have ht:putL (bY (m+1)) pi 0 k.hd k.fl ws=.no a' s':=by rw[U,mR];show hZ (hZ (putL (bY m) ((pi++[(i:Int)])++[(j:Int)]) 0 ki.hd ki.fl pp) _) _=_;rw[he];rfl
     exact λe dx q' H9 g9=>qx a' s' ht e dx q' H9 (g8.trans g9)
    ·intro h' f' he u k' H9 Ub g9 hk' OF eh ef Q7 T8 hB9;have hL9:H9 L=some (.lst (as.map V.ref)):=g9 _ _ Nb (uS _ _ C9.lst);have Pt:aE H8 H9:=g9.b_ (uS _ _ yD);refine⟨L,_,_,rfl,rfl,hL9,?_,as++[u],ks++[k'],zs++Ub.map V.ref,⟨_,_,_,rfl⟩,?_,?_,?_,(MW.trans Pt).dP hL9,?_,?_,?_,?_,?_,t6++TL m ((pi++[(i:Int)])++[(j:Int)]) 0 ki.hd ki.fl pp,?_,?_⟩
     ·rw[X9,C9.len,hkl];exact Nat.lt_trans hj2 (by decide)
     ·refine wM C9 (λa k z=>z.keep (((aE.of uS).trans Pt).dP hL9)) (hk'.keep (aE.refl.dP hL9)) ?_;rw[ae,Ya];rfl
     ·rw[X_,hkl];rfl
     ·intro k2 hk2;rcases Yo.mp hk2 with z|z
      ·exact K1 k2 z
      ·rw[Yk.mp z];exact OF
     ·exact gz.new hL ((g6.trans (gz.of uS)).trans g9)
     ·rw[aI (Ne.symm Nb)];exact Q7
     ·rintro m' e;cases e;rw[X_,Nat.succ_mul,X9];omega
     ·intro z;cases z
     ·rintro m' e _;cases e;rw[mR];show hZ (putL (bY m) ((pi++[(i:Int)])++[(j:Int)]) 0 ki.hd ki.fl pp) _=_;rw[he];show uJ (bY m) x ki.hd ki.fl (pi++[(i:Int)]) _ (j+1) (qi ks++[(h',f')])=_;rw[show qi (ks++[k'])=qi ks++[(h',f')] by rw[qi,Ya,←eh,←ef];rfl]
     ·obtain⟨N1,Pc,EZ⟩:=qv;have OS:aE H6 (upd H9 L (.lst (as.map V.ref++[.ref u]))):=((aE.of uS).trans Pt).dP hL9;exact GL.app ⟨N1,Pc,EZ.keep OS⟩ (hB9.keep (aE.refl.dP hL9))
     ·rw[GK,Li (md ep) he];simp only[List.append_assoc]
   ·rintro σ H6 ⟨as,ks,zs,⟨o9,p9,x8,rfl⟩,C9,hkl,K1,NG,g6,yD,M9,hz0,mR,t6,qv,GK⟩;rw[nR]at hkl M9 hz0 mR GK;refine hT2 _ _ ⟨as,ks,zs,⟨_,_,_,rfl⟩,C9,hkl,K1,g6.b_ BV,g6,yD,?_,?_,t6,qv,(by rw[GK,Ja (X5 _)];rfl)⟩
    ·cases hq:gC x with
     |false=>have:=hz0 (by rw[(oo hq).1];rfl);omega
     |true =>
      obtain⟨m,rfl⟩ :∃m,n=m+1:=by
       cases n with
       |zero=>rw[RW ha]at hq;cases hq
       |succ m=>exact⟨m,rfl⟩
      have:=M9 m rfl;rw[(rW hq).1]at this;rw[Bu];omega
    ·intro hq;obtain⟨m,rfl⟩ :∃m,n=m+1:=by
      cases n with
      |zero=>rw[RW ha]at hq;cases hq
      |succ m=>exact⟨m,rfl⟩
     have:=mR m rfl hq;rw[List.drop_length]at this;exact this
  rintro σ H6 ⟨as0,SW,zs,⟨o9,p9,x8,rfl⟩,rh,Ie,R4,JT,g6,yD,M9,mR,t6,qv,GK⟩;refine gB (Wd n p b pl fl kb i a u2 L H4 x ki k ws pi zs xs o9 p9 x8) (λT3 Qv=>?_) ?_
  ·refine⟨_,rfl,L,_,rfl,.inl (bb.of rh.lst),rfl,_,rfl,?_⟩;cases hq:gC x with
   |false =>
    have e0:as0=[]:=List.eq_nil_of_length_eq_zero (by rw[rh.len,Ie,(oo hq).1];rfl);subst e0;have ek:SW=[]:=List.eq_nil_of_length_eq_zero (by rw[Ie,(oo hq).1];rfl);subst ek;refine cJ ⟨_,rfl,.inl ⟨rfl,_,bb.of rh.lst⟩,_,rfl,L,_,_,rfl,rfl,rh.lst,(by show 0<sizeLine;decide),Qv _ _ ⟨[kb],[ki],rfl,?_,(oo hq).2.symm,?_,λ_=>rfl,JT.dP rh.lst,gz.new hL g6,?_,?_,t6,?_,GK⟩⟩
    ·exact wM rh (λa k z=>z.keep (aE.refl.dP rh.lst)) ((hki.keep Qf).keep (JT.dP rh.lst)) (by rw[ae];rfl)
    ·intro k2 hk2;rw[Yk.mp hk2];exact hoi
    ·rw[aI (Ne.symm Nb)];exact yD
    ·exact Iy hq
    ·obtain⟨N1,Pc,EZ⟩:=qv;exact⟨N1,Pc,EZ.keep (aE.refl.dP rh.lst)⟩
   |true =>
    have e2:as0.length=2:=by rw[rh.len,Ie,(rW hq).1]
    rw[X7 (by rw[X9,e2];intro z;cases z)];exact cK (bR (Qv _ _ ⟨as0,SW,rfl,rh,by rw[Ie,(rW hq).1,(rW hq).2],R4,λz=>(by rw[hq]at z;cases z),JT,g6,yD,mR hq,t6,qv,GK⟩))
  rintro σ H7 ⟨as,ks,rfl,C9,hkn,JE,hone,Rf,g7,Rq,EF,t7,K6,M_⟩;have SN:aE H H7:=Uz.trans Rf;have OO:iT H7 kb ki:=(hki.keep Qf).keep Rf;have hla:(as.map V.ref).length=ks.length:=by rw[X9,C9.len]
  have hn2:ks.length<=2:=by rw[hkn];exact FX
  refine⟨_,rfl,_,rfl,_,rfl,L,rfl,⟨_,bb.of C9.lst⟩,λD2 hD2=>?_⟩;refine el (xs:=as.map V.ref) (λi σ ys H'=>(∃o1 o2 o3,σ=[o1,o2,o3])/\(∃bs:Z6,ys=bs.map V.ref/\bs.length=i/\∀(j:Nat) a k,bs[j]? = some a->ks[j]? = some k->iH H7 a k.hd)/\H' D2=some (.lst ys)/\aH H7 H') ⟨⟨none,none,none,rfl⟩,⟨[],rfl,rfl,λj a k e=>by cases e⟩,ae,ai hD2 _⟩ ?_ ?_ ?_ ?_ ?_
  ·rintro i σ ys H' _ ⟨_,⟨bs,rfl,hi,_⟩,h,_⟩;exact⟨h,by rw[X9];exact YR hi⟩
  ·rintro i σ ys H' _ ⟨_,_,_,sm⟩;exact bb.of (sm _ _ C9.lst)
  ·rw[hla];exact X6 hn2 (by decide)
  ·rintro i v σ ys H' hv ⟨⟨o1,o2,o3,rfl⟩,⟨bs,rfl,hi,hb⟩,h,sm⟩;obtain⟨b',k',rfl,ek,hh',p',hq1,hq2,XT⟩:=C9.get hv;refine⟨b',_,rfl,aX.of (sm _ _ hq1),rfl,_,_,rfl,ak ⟨_,_,rfl,ak ⟨_,_,rfl,ak ⟨rfl,?_⟩⟩⟩⟩;refine⟨_,rfl,h,⟨_,_,_,rfl⟩,⟨bs++[hh'],by rw[Ya];rfl,by rw[X_,hi];rfl,λj a k e1 e2=>?_⟩,ae,bg hD2 sm⟩;by_cases hj:j<bs.length
   ·rw[Yt hj]at e1;exact hb j a k e1 e2
   ·have hj':j=bs.length:=by have:=(Yj.mp e1).1;rw[X_]at this;simp at this;omega
    rw[hj',Ys (X5 _),Nat.sub_self]at e1;cases e1;rw[hj',hi,ek]at e2;cases e2;exact hq2
  rintro σ ys' H8 ⟨_,⟨ds,rfl,hi,hb⟩,h8,s8⟩;rw[hla]at hi;have Si:=SN.trans (aE.of s8);refine⟨a,kb,D2,x,ki,ds,mz ks,rfl,ha.keep Si,OO.same s8,Bb h8 hi (λi a k e1 e2=>s8 _ _ (hb i a k e1 e2)),by rw[mz,X9,hkn],Uc,X6 hoi.few (by decide),λh hh=>by obtain⟨k,hk,rfl⟩:=Yl.mp hh;exact X6 (JE k hk).hd (by decide),λH9 s9=>ak ?_⟩;have LU:=s8.trans s9;have Xa:=SN.trans (aE.of LU);have g9:gz fl H H9:=(g.trans g4).trans (g7.trans (gz.of LU));rw[ME];have hfin:m7 x ki.hd ki.fl (pi++[(i:Int)]) (qi ks)=match mI x ki.fl (mz ks)with|some s=>.no (pi++[(i:Int)]) s|none=>.ok (bc x (mz ks)) (Oc x ki.hd ki.fl (ks.map Kn.fl)):=by unfold m7;rw[HV,HP];first|done | (cases mI x ki.fl (mz ks)<;>rfl)
  cases ew:mI x ki.fl (mz ks)with
  |some s =>
   rw[ew]at hfin;have ht:putL (bY n) pi 0 k.hd k.fl ws=.no (pi++[(i:Int)]) s:=by rw[U,EF,hfin];rfl
   dsimp only;refine⟨_,rfl,rfl,_,rfl,cJ ⟨_,rfl,_,rfl,cS,λe he=>?_⟩⟩;have ne:∀d o,H9 d=some o->d≠e:=λd o z y=>by subst y;rw[he]at z;cases z
   refine⟨e,_,_,rfl,ae,Cf.xc,Cf.np,Cf.nr,λdx H3 hdx keep h2 h3=>⟨rfl,e,some dx,rfl,h2,?_⟩⟩;have kk:∀d o,H9 d=some o->H3 d=some o:=λd o z=>keep d o (ne d o z) (by rw[aI (ne d o z)];exact z);have VG:dx≠e:=λy=>by subst y;rw[ae]at hdx;cases hdx
   have QD:H9 u2=some (.tup ((pi++[(i:Int)]).map V.int)):=(Rf.trans (aE.of LU)) _ _ ku;refine qx _ s ht e dx u2 _ (λd o nd z=>?_) ae (by rw[aI VG];exact h3) ?_
   ·have z9:=g9 _ _ nd z;rw[aI (ne d o z9)];exact kk _ _ z9
   ·rw[aI (ne u2 _ QD)];exact kk _ _ QD
  |none =>
   rw[ew]at hfin;obtain⟨hfit,Sy⟩:=IE ew;dsimp only;refine⟨_,rfl,rfl,_,rfl,cK (bR ?_)⟩;dsimp only;refine⟨_,rfl,_,rfl,_,rfl,a,kb,L,x,ki,as,ks,rfl,ha.keep Xa,OO.same LU,C9.same LU,⟨hkn,Uc,hfit,HS hone hfit,λk hk=>X6 (JE k hk).hd (by decide),λk hk=>X6 (JE k hk).few (by decide)⟩,λu k' Df qN hk' e1 e2 e3=>ak ?_⟩;refine⟨u,k',zs,⟨_,_,_,_,_,_,_,rfl⟩,hk',qy.next JE (by rw[e1];exact Sy) e2,g9.trans (gz.of qN),qN _ _ (LU _ _ Rq),?_,?_,t7,?_,?_⟩
   ·rw[Nat.succ_mul];omega
   ·rw[U,EF,hfin,e1,JR e2 e3];rfl
   ·obtain⟨N1,Pc,EZ⟩:=K6;exact⟨N1,Pc,EZ.keep (aE.of (LU.trans qN))⟩
   ·rw[M_,EF,hfin,e1,JR e2 e3];rfl
 ·rintro σ H' ⟨kb,ki,ys,⟨o5,o6,o7,o8,o9,p9,x8,rfl⟩,hki,hoi,g,O,hyz,U,tr,hLs,htr⟩;rw[hlb]at hyz U htr;rw[List.drop_length]at U htr;have XA:=Nat.mul_le_mul_right (cW n) hw9;obtain⟨hh,ph,hk1,hk2,hk3⟩:=hki;have k0:=g.b_ hfl;dsimp only;refine⟨_,rfl,.inl ⟨rfl,_,bb.of O⟩,_,rfl,_,rfl,p,_,rfl,.inr (aX.of (k0 _ _ hI.tup)),eG,λu1 vk=>?_⟩;have sU:=ai vk (.tup [.int ((bs.map V.ref).length:Nat)]);refine⟨pl,u1,_,_,rfl,rfl,sU _ _ (k0 _ _ hpl),ae,by rw[X9];exact X6 (show _+1<=1000 by omega) (by decide),λu2 H2 KY hu2=>?_⟩;have s2:=sU.trans KY;refine⟨_,rfl,kb,_,0,_,rfl,rfl,aX.of (s2 _ _ hk1),az (j:=0) rfl,_,rfl,kb,_,2,_,rfl,rfl,aX.of (s2 _ _ hk1),rfl,cz,λu3 mU=>?_⟩;have s3:=ai mU (.tup [.ref u2,.ref hh,.bl ki.lo]);have QA:=s2.trans s3;refine⟨fl,_,_,rfl,rfl,QA _ _ O,Yb (show ys.length<=100000 by omega) (by decide),_,rfl,?_⟩;have kU:aE H' (upd (upd H2 u3 (.tup [.ref u2,.ref hh,.bl ki.lo])) fl (.lst (ys++[.ref u3]))):=(aE.of QA).dP (QA _ _ O);obtain⟨as,ey,OX⟩:=hLs;have nf:u3≠fl:=λz=>by have:=s2 _ _ O;rw[←z,mU]at this;cases this
  have n2:u2≠fl:=λz=>by have:=s2 _ _ O;rw[←z,hu2]at this;cases this
  rw[K9]at hu2;have hone:jB (upd (upd H2 u3 (.tup [.ref u2,.ref hh,.bl ki.lo])) fl (.lst (ys++[.ref u3]))) [u3] [(pi++[((bs.map V.ref).length:Int)],ki.hd,ki.lo)]:=jB.one (by rw[aI nf];exact ae) (by rw[aI n2];exact s3 _ _ hu2) (kU _ _ hk2);refine q ki.hd ki.fl U kb ki _ (as++[u3]) (g.trans (gz.of QA)).put ⟨hh,ph,kU _ _ hk1,kU _ _ hk2,kU _ _ hk3⟩ hoi rfl rfl ?_ ?_ ?_
  ·rw[ae,ey,Ya,List.append_assoc];rfl
  ·rw[ey,X_,X9]at hyz;rw[X_];show as.length+1<=_;omega
  ·rw[htr,←hlb];exact(OX.keep kU).app hone
def f0:Fl:=⟨false,false,false,false,false⟩
def FI(n:Nat)(hd:Hd)(ws:List Wk):Res:=putL (bY n) [] 0 hd f0 ws
def U3(C:Addr)(H:Hp)(a:List Int)(s:Str)(E:XK):Prop:=∀(e dx q:Addr)(H':Hp),aH H H'->H' e=some (xO e C (some dx))->H' dx=some (xD dx (KL (.ref q) (.str s)))->H' q=some (.tup (a.map V.int))->E (.ref C) (some e) H'
structure Sr(n:Nat)(H:Hp)(a p:Addr)(hd:Hd)(ws:List Wk):Prop where
 Tj:iH H a hd
 six:hd.length<=6
 pp:jA n H p ws
 ok:yw n ws
inductive Ai(C:Addr)(n:Nat)(vs:List V)(H:Hp)(Q:VK)(E:XK):Prop
 |mk (a p:Addr) (hd:Hd) (ws:List Wk) (_:vs=[.ref a,.ref p]) (_:Sr n H a p hd ws) (_:2*n<=100) (_:bnd n<=100000) (_:(∀x s,FI n hd ws=.no x s->U3 C H x s E)) (_:(∀h f,FI n hd ws=.ok h f->∀(l:Addr)(H':Hp)(as:Z6),aH H H'->H' l=some (.lst (as.map V.ref))->as.length<=bnd n->jB H' as (TL n [] 0 hd f0 ws)->Q (.ref l) H')):Ai C n vs H Q E
theorem nj{fl:Addr}{H H1 H':Hp}(hn:H fl=none)(s:aH H H1)(g:gz fl H1 H'):aH H H':=λb o e=>g _ _ (aY e hn) (s _ _ e)
abbrev ra:Stmt:=top 49
theorem uF:ax ["head","pipe","found"] ["head","pipe"] (aq ra):=fs
theorem C6{C:Addr}{n L:Nat}(F:FA K mg "survey" ra)
  (kc:bz (yy P w) P w K mg base (L+6) "go_through" ["pipe","begun","prefix","found"] (AG C (n+1))) :
  bz (yy P w) P w K mg base (L+7) "survey" ["head","pipe"] (Ai C n):=by
 refine F.Ll uF λf cdv A outer s H vs Q E hr h=>?_;have hu:=fJ hr;have hu1:=jF hr;obtain⟨a,p,hd,ws,rfl,hI,hn2,hbn,qx,q⟩:=h;refine⟨_,(ao (aU (i:=2) uF.nd rfl (YI rfl) (bw ag))
   (ao (cN (t_ kc hr rfl AQ (aa (pv 1) (aa (aW (aa (pv 0) (aa (aW ag) (aa cR ag)))) (aa (aW ag) (aa (pv 2) ag))))))
   (ay (pv 2)))),?_⟩
 refine⟨Yq _,λF hF=>ak ?_⟩;dsimp only;have s0:=ai hF (.lst []);have J3:upd H F (.lst []) F=some (.lst []):=ae;revert s0 J3;generalize upd H F (.lst [])=H0;intro s0 J3;refine⟨_,rfl,_,rfl,sG,λz vk=>?_⟩;have s1:=ai vk (.tup []);refine⟨cz,λu2 hu2=>?_⟩;have s2:=ai hu2 (.tup [.ref a,.ref z,.bl false]);refine⟨sG,λu3 mU=>?_⟩;have s3:=ai mU (.tup []);have U:=s0.trans (s1.trans (s2.trans s3));have zL:=s1.trans (s2.trans s3);have e1:=s3 _ _ (s2 _ _ (ae (H:=H0) (a:=z) (o:=.tup [])));have e2:=s3 _ _ (ae (H:=upd H0 z (.tup [])) (a:=u2) (o:=.tup [.ref a,.ref z,.bl false]));have e3:upd (upd (upd H0 z (.tup [])) u2 (.tup [.ref a,.ref z,.bl false])) u3 (.tup []) u3=some (.tup []):=ae;revert U zL e1 e2 e3;generalize upd (upd (upd H0 z (.tup [])) u2 (.tup [.ref a,.ref z,.bl false])) u3 (.tup [])=H3;intro U zL e1 e2 e3;refine⟨_,rfl,p,u2,u3,F,ws,⟨hd,[],false⟩,[],[],rfl,⟨hI.pp.keep (aE.of U),⟨a,z,e2,U _ _ hI.Tj,e1⟩,e3,zL _ _ J3,hI.ok,⟨hI.six,List.nodup_nil,λs hs=>(by cases hs)⟩,by simpa using hn2,by simpa using hbn⟩,?_,?_⟩
 ·intro x s he e dx q' H' g;exact qx x s he e dx q' H' (nj hF U g)
 ·intro h f he u k' H' as g hk' OF eh ef O T8 hT;exact⟨_,rfl,q h f he F H' as (nj hF U g) (by rw[List.nil_append]at O;exact O) T8 hT⟩
structure O1(K:YY)(mg:Z0)(C:Addr):Prop where
 xc:xC K C
 Qr:jH K C u0 "ValueError.__new__" none=true
 mf:mg "NoPlace"=some (.ref C)
def seek(t:Tr)(p:List Int):Option (Hd×Bool):=(t.find? λe=>decide (e.1=p)).map (·.2)
inductive zx(CP:Addr)(vs:List V)(H:Hp)(Q:VK)(E:XK):Prop
 |mk (l pa:Addr) (as:Z6) (t:Tr) (p:List Int) (_:vs=[.ref l,.ref pa]) (_:H l=some (.lst (as.map V.ref))) (_:jB H as t) (_:H pa=some (.tup (p.map V.int))) (_:(seek t p=none->∀(e:Addr)(H':Hp),aH H H'->H' e=some (xO e CP none)->E (.ref CP) (some e) H')) (_:(∀b,seek t p=some b->∀(u hh:Addr)(H':Hp),aH H H'->H' u=some (.tup [.ref hh,.bl b.2])->iH H' hh b.1->Q (.ref u) H')):zx CP vs H Q E
def dI(p:List Int):D:=.tup (p.map D.int)
theorem ye{K:YY}{H:Hp}{a:Addr}{p:List Int}(h:H a=some (.tup (p.map V.int))):a_ K H (dI p) (.ref a):=by
 refine cY h (aK.of (by rw[X9,X9]) λi d v z O=>?_);rw[Yu]at z O;cases q:p[i]? with
 |none=>rw[q]at z;cases z
 |some x=>rw[q]at z O;cases z;cases O;exact oK x
theorem S8:∀(p q:List Int),gR (p.map D.int) (q.map D.int)=decide (p=q)
 |[],[]=>by rw[List.map_nil,gR];rfl
 |[],y::q=>by rw[List.map_nil,YT];simp[gR]
 |x::p,[]=>by rw[List.map_nil,YT];simp[gR]
 |x::p,y::q=>by rw[YT,YT,gR,S8 p q,dj];rw[Bool.eq_iff_iff];simp
theorem Ov(p q:List Int):dj (dI p) (dI q)=decide (p=q):=by unfold dI;rw[dj];exact S8 p q
theorem Hf(p:List Int):(dI p).depth<=1:=by
 unfold dI;rw[D.depth];have:∀l:List Int,cG (l.map D.int)=0:=λl=>by
  induction l with
  |nil=>rfl
  |cons a l z=>rw[YT,cG,z];simp[D.depth]
 rw[this];exact X5 _
theorem Hy{t:Tr}{p:List Int}{i:Nat}{e:List Int×Hd×Bool}(h:∀e∈t.take i,e.1≠p)(O:t[i]? = some e)(ep:e.1=p):seek t p=some e.2:=by
 have e0:t=t.take i++e::t.drop (i+1):=by rw[←md O,List.take_append_drop]
 unfold seek;rw[e0,List.find?_append,List.find?_eq_none.mpr λx z=>(by simpa using h x z)];simp[ep]
theorem IS{t:Tr}{p:List Int}(h:∀e∈t,e.1≠p):seek t p=none:=by unfold seek;rw[List.find?_eq_none.mpr λx z=>(by simpa using h x z)];rfl
abbrev ma:Stmt:=top 50
theorem jR:ax ["seen","place","there","head","loose"] ["seen","place"] (aq ma):=fs
theorem Jw{CP:Addr}(Cp:O1 K mg CP)(F:FA K mg "look_up" ma) :
  bz (yy P w) P w K mg base 1 "look_up" ["seen","place"] (zx CP):=by
 refine F.Ll jR λf cdv A outer s H vs Q E hr h=>?_;have hu:=fJ hr;obtain⟨l,pa,as,t,p,rfl,hl,hT,hp,qx,q⟩:=h;refine⟨_,(ao (dR (zv rl) rfl (dg (pv 0)) (bU rfl (ar (aQ (i:=2) jR.nd rfl (YI rfl)) (ar (aQ (i:=3) jR.nd rfl (YI rfl)) (ar (aQ (i:=4) jR.nd rfl (YI rfl)) bF))))
    (bC (fi (ba zg (pv 2) (pv 1))
      (ay (aW (aa (pv 3) (aa (pv 4) ag))))
      dc)))
   (bC (D8 rfl Cp.Qr rfl Cp.mf (aa aD ag)))),?_⟩
 have hd:∀q:List Int,(A.deeper (PyProof.Rows.envOfC "look_up" (aq ma) s.heap.objs.size f cdv)).units+(dI q).depth<cLine:=λq=>by have:=Hf q;have:=hu;omega
 refine⟨_,rfl,l,rfl,⟨_,bb.of hl⟩,?_⟩;refine nZ (xs:=as.map V.ref) (λi σ H'=>(∃o2 o3 o4,σ=[some (.ref l),some (.ref pa),o2,o3,o4])/\H'=H/\∀e∈t.take i,e.1≠p) ⟨⟨none,none,none,rfl⟩,rfl,by simp⟩ ?_ ?_ ?_
 ·rintro i σ H' _ ⟨_,rfl,_⟩;exact bb.of hl
 ·rintro i v σ H' hv ⟨⟨o2,o3,o4,rfl⟩,rfl,O⟩;rw[Yu]at hv;cases ea:as[i]? with
  |none=>rw[ea]at hv;cases hv
  |some a =>
   rw[ea]at hv;have hv':V.ref a=v:=Yr hv;subst hv';have hi:i<t.length:=by rw[←hT.len];exact(Yj.mp ea).1
   have et:t[i]? = some t[i]:=Yd hi;obtain⟨c,hh,h1,h2,h3⟩:=hT.at_ i a _ ea et;refine⟨a,_,rfl,aX.of h1,rfl,_,_,rfl,ak ⟨_,_,rfl,ak ⟨_,_,rfl,ak ⟨rfl,?_⟩⟩⟩⟩;dsimp only;refine⟨_,rfl,_,rfl,dI t[i].1,dI p,ye h2,ye hp,hd _,_,rfl,?_⟩;rw[Ov];refine fY (λc=>?_) λc=>?_
   ·have c':t[i].1=p:=YD c;refine⟨_,rfl,_,rfl,cS,λu U=>?_⟩;exact q _ (Hy O et c') u hh _ (ai U _) ae (ai U _ _ _ h3)
   ·refine bR ⟨⟨_,_,_,rfl⟩,rfl,λe he=>?_⟩;rw[List.take_add_one,et]at he;rcases Yo.mp he with z|z
    ·exact O e z
    ·have:e=t[i]:=by simpa using z
     rw[this];exact λz=>c (X8 z)
 ·rintro σ H' ⟨⟨o2,o3,o4,rfl⟩,rfl,O⟩;rw[X9,hT.len,YJ]at O;refine⟨eG,λe he=>?_⟩;exact qx (IS O) e _ (ai he _) ae
end My
namespace L2
open PySem PySem.Spec PyProof.Rows
section
variable{κ:Type} [DecidableEq κ]
def gY(kvs:List (κ×V))(k:κ):Option V:=(kvs.find? λkv=>decide (kv.1=k)).map (·.2)
def putK(kvs:List (κ×V))(k:κ)(v:V):List (κ×V) :=
 if(kvs.any λkv=>decide (kv.1=k))=true then kvs.map (λkv=>if kv.1=k then(kv.1,v)else kv)else kvs++[(k,v)]
theorem eO{p:κ×V}{r:List (κ×V)}{k:κ}(e:p.1=k):gY (p::r) k=some p.2:=by simp[gY,List.find?_cons,e]
theorem eJ{p:κ×V}{r:List (κ×V)}{k:κ}(e:¬p.1=k):gY (p::r) k=gY r k:=by simp[gY,List.find?_cons,e]
theorem oe(k:κ):∀kvs:List (κ×V),(kvs.any λkv=>decide (kv.1=k))=(gY kvs k).isSome
 |[]=>rfl
 |p::r=>by
  rw[YV];by_cases e:p.1=k
  ·simp only[eO e,X8 e,Bool.true_or,Option.isSome_some]
  ·rw[eJ e,X7 e,Bool.false_or];exact oe k r
theorem yh(k j:κ)(y:V):∀kvs:List (κ×V),gY (kvs.map λkv=>if kv.1=k then(kv.1,y)else kv) j=(gY kvs j).map λx=>if j=k then y else x
 |[]=>rfl
 |p::r=>by
  have O:=yh k j y r;rw[YT];by_cases h:p.1=k
  ·rw[YG h];by_cases e:p.1=j
   ·rw[eO (p:=(p.1,y)) e,eO e,Option.map_some,YG (e.symm.trans h)]
   ·rw[eJ (p:=(p.1,y)) e,eJ e,O]
  ·rw[YF h];by_cases e:p.1=j
   ·rw[eO (p:=p) e,eO e,Option.map_some,YF (λz=>h (e.trans z))]
   ·rw[eJ (p:=p) e,eJ e,O]
theorem uv(k j:κ)(y:V):∀kvs:List (κ×V),gY kvs k=none->gY (kvs++[(k,y)]) j=if j=k then some y else gY kvs j
 |[],_=>by
  by_cases e:k=j
  ·rw[YG e.symm];exact eO (p:=(k,y)) e
  ·rw[YF (λz=>e z.symm)];exact eJ (p:=(k,y)) e
 |p::r,hn=>by
  rw[List.cons_append];have O:¬p.1=k:=λz=>by rw[eO z]at hn;cases hn
  rw[eJ O]at hn;have U:=uv k j y r hn;by_cases e:p.1=j
  ·rw[eO e,eO e,YF (λz=>O (e.trans z))]
  ·rw[eJ e,eJ e,U]
theorem oh(kvs:List (κ×V))(k j:κ)(y:V):gY (putK kvs k y) j=if j=k then some y else gY kvs j:=by
 unfold putK;by_cases a:(kvs.any λkv=>decide (kv.1=k))=true
 ·rw[YG a,yh];rw[oe]at a;by_cases e:j=k
  ·obtain⟨x,z⟩:=Option.isSome_iff_exists.mp a;rw[YG e,e,z,Option.map_some,YG rfl]
  ·rw[YF e];cases gY kvs j with
   |none=>rfl
   |some x=>rw[Option.map_some,YF e]
 ·rw[YF a];refine uv k j y kvs ?_;rw[oe]at a;cases q:gY kvs k with
  |none=>rfl
  |some x=>rw[q]at a;exact(a rfl).elim
theorem k9(kvs:List (κ×V))(k:κ)(v:V):(putK kvs k v).length<=kvs.length+1:=by
 unfold putK;split
 ·rw[X9];omega
 ·rw[X_,YB,List.length_nil];omega
theorem j6.Cn{o:Option V}{u:Z5}(r:j6 o u):o.isSome=u.isSome:=by
 cases o with
 |none=>cases u with
  |none=>rfl
  |some _=>exact(show False from r).elim
 |some _=>cases u with
  |none=>exact(show False from r).elim
  |some _=>rfl
theorem KV.val{kvs:List (κ×V)}{vs:List (κ×Value)}(r:KV kvs vs)(k:κ):j6 (gY kvs k) (valueAt vs k):=by
 unfold KV at r;induction r with
 |nil=>exact True.intro
 | @cons p q ps qs h t ih =>
  obtain⟨h1,h2⟩:=h;by_cases e:p.1=k
  ·have O:q.1=k:=h1.symm.trans e;have b:valueAt (q::qs) k=some q.2:=by simp[valueAt,List.find?_cons,O]
   rw[eO e,b];exact h2
  ·have O:¬q.1=k:=λz=>e (h1.trans z);have b:valueAt (q::qs) k=valueAt qs k:=by simp[valueAt,List.find?_cons,O]
   rw[eJ e,b];exact ih
theorem KV.any{kvs:List (κ×V)}{vs:List (κ×Value)}(r:KV kvs vs)(k:κ):(kvs.any λkv=>decide (kv.1=k))=vs.any λkv=>decide (kv.1=k):=by
 unfold KV at r;induction r with
 |nil=>rfl
 |cons h t z=>rw[YV,YV,z,h.1]
theorem KV.repl{kvs:List (κ×V)}{vs:List (κ×Value)}(r:KV kvs vs)(k:κ){y:V}{u:Value}(O:RelV y u) :
  KV (kvs.map λkv=>if kv.1=k then(kv.1,y)else kv) (vs.map λkv=>if kv.1=k then(kv.1,u)else kv):=by
 unfold KV at r⊢;induction r with
 |nil=>exact .nil
 | @cons p q ps qs h t ih =>
  rw[YT,YT];refine .cons ?_ ih;obtain⟨h1,h2⟩:=h;by_cases e:p.1=k
  ·rw[YG e,YG (h1.symm.trans e)];exact⟨h1,O⟩
  ·rw[YF e,YF (λz=>e (h1.trans z))];exact⟨h1,h2⟩
theorem KV.put{kvs:List (κ×V)}{vs:List (κ×Value)}(r:KV kvs vs)(k:κ){y:V}{u:Value}(z:RelV y u):KV (putK kvs k y) (stored vs k u):=by
 unfold putK stored;rw[r.any k];by_cases e:(vs.any λkv=>decide (kv.1=k))=true
 ·rw[YG e,YG e];exact r.repl k z
 ·rw[YF e,YF e];exact Paired.snoc r ⟨rfl,z⟩
theorem KV.length{kvs:List (κ×V)}{vs:List (κ×Value)}(r:KV kvs vs):kvs.length=vs.length:=Paired.length r
end
theorem DX{P:Program}{w:World}{k:Key}{u:Value}(r:RelV (kV k) u):(bQ P w).is k u=true:=by
 cases k with
 |inl i=>obtain⟨t,e⟩:=(show∃t,u=Value.int i t from r);subst e;exact x4 P w i t
 |inr x=>obtain⟨t,e⟩:=(show∃t,u=Value.str x t from r);subst e;exact yt P w x t
theorem Oh{P:Program}{w:World}{k:dn}{u:Value}(r:RelV (oV k) u):(optKind P w).is k u=true:=by
 cases k with
 |none=>obtain rfl:u=Value.none:=r;rfl
 |some k=>exact DX (P:=P) (w:=w) r
theorem uz{P:Program}{w:World}:∀{ks:List dn}{us:Z4},Vals (ks.map oV) us->ItemsAre (optKind P w) ks us
 |[],_,r=>by rw[List.map_nil]at r;cases r;exact .nil
 |k::ks,_,r=>by
  rw[YT]at r;cases r with
  |cons h t=>exact .cons (Oh h) (uz t)
abbrev KT(H:Hp):List (List dn×V)->List (List dn×Addr×Value)->Prop:=Paired λp q=>p.1=q.1/\H q.2.1=some (.tup (p.1.map oV))/\RelV p.2 q.2.2
theorem KT.val{H:Hp}{kvs:List (List dn×V)}{xs:List (List dn×Addr×Value)}(r:KT H kvs xs)(k:List dn):j6 (gY kvs k) ((atKey xs k).map (·.2)):=by
 induction r with
 |nil=>exact True.intro
 | @cons p q ps qs h t ih =>
  obtain⟨h1,_,h2⟩:=h;by_cases e:p.1=k
  ·have O:q.1=k:=h1.symm.trans e;have b:atKey (q::qs) k=some q.2:=by simp[atKey,List.find?_cons,O]
   rw[eO e,b];exact h2
  ·have O:¬q.1=k:=λz=>e (h1.trans z);have b:atKey (q::qs) k=atKey qs k:=by simp[atKey,List.find?_cons,O]
   rw[eJ e,b];exact ih
theorem KT.repl{H:Hp}{kvs:List (List dn×V)}{xs:List (List dn×Addr×Value)}(r:KT H kvs xs)(k:List dn){y:V}{u:Value}(O:RelV y u) :
  KT H (kvs.map λkv=>if kv.1=k then(kv.1,y)else kv) (xs.map (putAt k u)):=by
 induction r with
 |nil=>exact .nil
 | @cons p q ps qs h t ih =>
  rw[YT,YT];refine .cons ?_ ih;obtain⟨h1,h2,h3⟩:=h;unfold putAt;by_cases e:p.1=k
  ·rw[YG e,YG (h1.symm.trans e)];exact⟨h1,h2,O⟩
  ·rw[YF e,YF (λz=>e (h1.trans z))];exact⟨h1,h2,h3⟩
theorem KT.put{H:Hp}{kvs:List (List dn×V)}{xs:List (List dn×Addr×Value)}(r:KT H kvs xs)(k:List dn){b:Addr}{y:V}{u:Value}(O:H b=some (.tup (k.map oV)))(z:RelV y u) :
  KT H (putK kvs k y) (storedH xs k b u):=by
 have e:(kvs.any λkv=>decide (kv.1=k))=(atKey xs k).isSome:=by rw[oe,(r.val k).Cn,Option.isSome_map]
 unfold putK storedH;rw[e];by_cases q:(atKey xs k).isSome=true
 ·rw[YG q,YG q];exact r.repl k z
 ·rw[YF q,YF q];exact Paired.snoc r ⟨rfl,O,z⟩
theorem KT.keeps{H H':Hp}{kvs:List (List dn×V)}{xs:List (List dn×Addr×Value)}(r:KT H kvs xs)(O:∀b ys,H b=some (.tup ys)->H' b=some (.tup ys)):KT H' kvs xs :=
 Paired.NN r λ_ _ z=>⟨z.1,O _ _ z.2.1,z.2.2⟩
section
variable{P:Program}{w:World}{H:Hp}{h:Heap}{a:Addr}
theorem Kb{u:HO}(ok:ky P w H h)(e:Rd H a u):cD P w H h a u:=e.ok ok
theorem DY{kvs:List (Key×V)}(ok:ky P w H h)(e:Rd H a (.dK kvs)):kvs.length<=sizeLine/\(a==sysModules)=false/\∃vs,KV kvs vs/\h.DictOf (bQ P w) a vs :=
 show cD P w H h a (.dK kvs) from Kb ok e
theorem ck{kvs:List (Key×V)}(ok:ky P w H h)(e:H a=some (.dK kvs)):kvs.length<=sizeLine/\(a==sysModules)=false/\∃vs,KV kvs vs/\h.DictOf (bQ P w) a vs:=DY ok (.inl e)
theorem vz{ks:List dn}(ok:ky P w H h)(e:H a=some (.tup (ks.map oV))):(tupleKind (optKind P w)).is h ks a:=by obtain⟨_,z,r,o,h1,h2,⟨n,h3⟩,_⟩:=(show cD P w H h a (.tup (ks.map oV)) from ok a _ e);exact⟨o,z.toArray,n,h1,h2,h3,by simpa using uz r⟩
theorem Fn{kvs:List (List dn×V)}(ok:ky P w H h)(e:Rd H a (.dT kvs)):kvs.length<=sizeLine/\(a==sysModules)=false/\
  ∃xs,KT H kvs xs/\h.DictOfH (tupleKind (optKind P w)) a xs:=by
 obtain⟨z,y,xs,r,o,es,ep,h1,h2,h3,h4,h5⟩:=(show cD P w H h a (.dT kvs) from Kb ok e);refine⟨z,y,xs,r,o,es,ep,h1,h2,h3,h4,λx O=>?_,h5⟩;have all:∀{l:List (List dn×V)}{m:List (List dn×Addr×Value)},KT H l m->∀x∈m,(tupleKind (optKind P w)).is h x.1 x.2.1:=by
  intro l m q;induction q with
  |nil=>intro x O;exact nomatch O
  | @cons p q ps qs hq t ih =>
   intro x O;rcases Ym.mp O with e|O
   ·subst e;exact vz ok (by rw[←hq.1];exact hq.2.1)
   ·exact ih x O
 exact all r x O
theorem Ku{kvs:List (List dn×V)}(ok:ky P w H h)(e:H a=some (.dT kvs)):kvs.length<=sizeLine/\(a==sysModules)=false/\
  ∃xs,KT H kvs xs/\h.DictOfH (tupleKind (optKind P w)) a xs:=Fn ok (.inl e)
end
def Am(H:Hp)(a:Addr)(y:V)(r:Option V):Prop :=
 (∃kvs k,Rd H a (.dK kvs)/\y=kV k/\r=gY kvs k)\/∃kvs k b,Rd H a (.dT kvs)/\y=.ref b/\H b=some (.tup (k.map oV))/\r=gY kvs k
def Cs(H:Hp)(a:Addr)(y v:V)(H':Hp):Prop :=
 (∃kvs k,H a=some (.dK kvs)/\y=kV k/\kvs.length<sizeLine/\H'=upd H a (.dK (putK kvs k v)))\/
 ∃kvs k b,H a=some (.dT kvs)/\y=.ref b/\H b=some (.tup (k.map oV))/\kvs.length<sizeLine/\H'=upd H a (.dT (putK kvs k v))
theorem Am.t{H:Hp}{a b:Addr}{kvs:List (List dn×V)}{k:List dn}(e:H a=some (.dT kvs))(z:H b=some (.tup (k.map oV))):Am H a (.ref b) (gY kvs k):=.inr ⟨kvs,k,b,.inl e,rfl,z,rfl⟩
theorem Cs.t{H:Hp}{a b:Addr}{kvs:List (List dn×V)}{k:List dn}{v:V}(e:H a=some (.dT kvs))(z:H b=some (.tup (k.map oV)))(O:kvs.length<sizeLine) :
  Cs H a (.ref b) v (upd H a (.dT (putK kvs k v))):=.inr ⟨kvs,k,b,e,rfl,z,O,rfl⟩
section
variable{X:Cx}{ac:eN}{σ:St}{H:Hp}{s:Shared}{a:Addr}{y v:V}{u r:Value}{o:Option V}{A:Around}{E:nT}
theorem Inv.big(I:Inv X ac σ H s):sysModules<s.heap.objs.size:=by have h:mainGlobals<s.heap.objs.size:=(I.mod.glob.keeps I.bk).lt;exact Nat.lt_trans (by decide) h
theorem BS{Q:nT}(hu:A.units+1<cLine)(I:Inv X ac σ H s)(g:Am H a y (some v))(ry:RelV y u)(h:∀U s',Inv X ac σ H s'->RelV v U->Q U s') :
  wpAny (model X.prog X.w) A (getItem (.ref a) u) Q E s:=by
 rcases g with⟨kvs,k,e,ey,l⟩|⟨kvs,k,b,e,ey,eb,l⟩
 ·subst ey;obtain⟨z,hd,vs,O,dd⟩:=DY I.hok e;obtain⟨U,hw,qo⟩:=j6.some_of (v:=v) (o:=valueAt vs k) (by rw[l];exact O.val k);exact wpAny_getItem_of (DX ry) dd.mapOf hw (h U _ (I.tok _) qo)
 ·subst ey;cases(show u=Value.ref b from ry);obtain⟨z,hd,xs,O,dd⟩:=Fn I.hok e;obtain⟨U,hw,qo⟩:=j6.some_of (v:=v) (o:=(atKey xs k).map (·.2)) (by rw[l];exact O.val k);obtain⟨p,hp,hp2⟩:=Option.map_eq_some_iff.mp hw;refine wpAny_getItem_heap (tupleKind_room_in1 hu) (vz I.hok eb) dd hp ?_;rw[hp2];exact h U _ (I.tok _) qo
theorem uX{h':Heap}{t':Nat}{O:HO}(I:Inv X ac σ H s)(mu:OU (H a))(hs:Heap.SameBut a s.heap h')(he:∃q,h'.get? a=some q)(new:cD X.prog X.w (upd H a O) h' a O) :
  Inv X ac σ (upd H a O) {s with heap:=h',toks:=t'} :=
 I.write (x:=a) (e:=a) mu (.inl rfl) (λb q U z=>(hs.2 b U).trans z) he new
theorem Lc{P:Program}{w:World}{H':Hp}{h':Heap}{kvs:List (Key×V)}{vs:List (Key×Value)}(z:kvs.length<=sizeLine)(hd:(a==sysModules)=false)(O:KV kvs vs)(dd:h'.DictOf (bQ P w) a vs) :
  cD P w H' h' a (.dK kvs):=⟨z,hd,vs,O,dd⟩
theorem CG{H':Hp}{Q:Z2}(hu:A.units+1<cLine)(I:Inv X ac σ H s)(g:Cs H a y v H')(ry:RelV y u)(rv:RelV v r)(h:∀s',Inv X ac σ H' s'->Q () s') :
  wpAny (model X.prog X.w) A (setItem (.ref a) u r) Q E s:=by
 rcases g with⟨kvs,k,e,ey,l,eH⟩|⟨kvs,k,b,e,ey,eb,l,eH⟩
 ·subst ey eH;obtain⟨z,hd,vs,O,dd⟩:=ck I.hok e;have hz:vs.length<=sizeLine:=by rw[←O.length];exact z
  have hl:(putK kvs k v).length<=sizeLine:=by have:=k9 kvs k v;omega
  refine wpAny_setItem_pairs (hsz:=hz) (DX ry) dd λh' Nh hs=>h _ ?_;have he:∃q,h'.get? a=some q:=let ⟨q,_,_,U,_⟩:=Nh;⟨q,U⟩
  exact uX I (by rw[e];exact True.intro) hs he (Lc hl hd (O.put k rv) Nh)
 ·subst ey eH;cases(show u=Value.ref b from ry);obtain⟨z,hd,xs,O,dd⟩:=Ku I.hok e;have hz:xs.length<=sizeLine:=by rw[←Paired.length O];exact z
  have hl:(putK kvs k v).length<=sizeLine:=by have:=k9 kvs k v;omega
  refine wpAny_setItem_heap (hsz:=hz) (tupleKind_room_in1 hu) (vz I.hok eb) dd λh' Nh hs=>h _ ?_;obtain⟨q,es,ep,U,h2,h3,h4,_,h5⟩:=Nh;refine uX I (by rw[e];exact True.intro) hs ⟨q,U⟩ ⟨hl,hd,_,(O.put k eb rv).keeps λc ys ec=>?_,q,es,ep,U,h2,h3,h4,h5⟩;rw[aI (JM ec e (λz=>nomatch z))];exact ec
end
def Pg(i:Expr):Prop:=∀O z,subscripted i false O z=operate [O,z] (getItem O z)
theorem HI{prog:Program}{w:World}{A:Around}{E:nT}{s:Shared}{env:Env}{value z:Expr}{pos:Pos}{T id:String}{Q:nT}
  (hl:typeLookup (.type T) "__getitem__"=pure (some (.builtin id))) (hs:Pg z)
  (h:wpAny (model prog w) A (eval value env) (λo s₁=>wpAny (model prog w) A (eval z env) (λi O=>O.TypeIs o T/\wpAny (model prog w) A (getItem o i) Q E O) E s₁) E s) :
  wpAny (model prog w) A (eval (.Subscript value z pos) env) Q E s:=by
 refine Subscript_ (Yx h (λo s₁ h₁=>Yx h₁ (λi O U=>?_) λ_ _ x=>x) λ_ _ x=>x);obtain⟨hT,U⟩:=U;unfold subscriptTail;refine X0 ?_;rw[getitemInPython_of_ne hT.not_modules];refine X0 (wpAny_specialOf hT hl ?_);have fin:wpAny (model prog w) A (subscripted z false o i) (λr s₃=>wpAny (model prog w) A (letTemporaryGo value o r >>= λ_=>pure r) Q E s₃) E O:=by rw[hs o i];exact wpAny_operating (Yx U (λr s₃ h₃=>X0 (wpAny_letTemporaryGo (X1 h₃))) λ_ _ x=>x)
 first
  |exact X1 (X0 fin)
  |exact X0 (X1 (X0 fin))
  |exact X0 fin
theorem yr{X:Cx}{ac:eN}{σ:St}{H:Hp}{s:Shared}{a:Addr}{y:V}{o:Option V}(I:Inv X ac σ H s)(g:Am H a y o):s.TypeIs (.ref a) "dict":=by
 rcases g with⟨kvs,k,e,_,_⟩|⟨kvs,k,b,e,_,_,_⟩
 ·obtain⟨_,_,vs,_,dd⟩:=DY I.hok e;exact dd.typeIs
 ·obtain⟨_,_,xs,_,dd⟩:=Fn I.hok e;exact dd.typeIs
def NJ(td ty:TE):TE:=λσ H Q=>td σ H λx H1=>ty σ H1 λy H2=>∃a v,x=.ref a/\Am H2 a y (some v)/\Q v H2
def NT(td ty tv:TE):TS:=λD σ H=>tv σ H λv H1=>td σ H1 λx H2=>ty σ H2 λy z=>∃a H4,x=.ref a/\Cs z a y v H4/\D.nx σ H4
section
variable{X:Cx}{o i e value:Expr}{pos pos' tpos:Pos}{td ty tv:TE}
theorem Bx(hu:X.A.units+1<cLine)(U:PE X o td)(hi:PE X i ty)(hs:Pg i):PE X (.Subscript o i pos) (NJ td ty):=by intro ac s σ H Q I h;refine HI PySem.F.slot_dict_getitem.lookup hs (cu (U ac s σ H _ I h) λu s1 ⟨x,H1,I1,rx,q1⟩=>cu (hi ac s1 σ H1 _ I1 q1) λiv s2 zz=>?_);obtain⟨y,H2,z,O,a,v,ex,g,q2⟩:=zz;subst ex;obtain rfl:u=Value.ref a:=rx;exact⟨yr z g,BS hu z g O λw' s3 I3 qo=>⟨v,H2,I3,qo,q2⟩⟩
theorem AN(hu:X.A.units+1<cLine)(O:PE X o td)(hi:PE X i ty)(hv:PE X value tv)(hs:swapsWith value (some (.Subscript o i pos')) pos.line X.env=pure false) :
  PS X (.Assign [.Subscript o i pos'] value pos) (NT td ty tv):=by
 intro ac s σ H D I h;refine wpAny_Assign_Subscript (cu (hv ac s σ H _ I h) λr s1 ⟨v,H1,I1,rv,q1⟩=>cu (O ac s1 σ H1 _ I1 q1) λu s2 ⟨x,H2,I2,rx,q2⟩=>cu (hi ac s2 σ H2 _ I2 q2) λiv s3 U=>?_) hs;obtain⟨y,H3,I3,z,a,H4,ex,g,q3⟩:=U;subst ex;obtain rfl:u=Value.ref a:=rx;exact CG hu I3 g z rv λs4 I4=>⟨σ,H4,I4,q3⟩
end
theorem xG{P:Program}{w:World}{H:Hp}(h:Heap)(z:sysModules<h.objs.size):cD P w H (h.push {cls:=.type "dict",data:=.dict #[]}) h.objs.size (.dT []) :=
 ⟨Yq _,beq_eq_false_iff_ne.mpr (Ne.symm (Yp z)),[],.nil,_,#[],0,X4 _ rfl,⟨rfl,rfl,rfl⟩,rfl,rfl,List.nodup_nil⟩
def Lq:TE:=λ_ H Q=>∀p,H p=none->Q (.ref p) (upd H p (.dT []))
section
variable{X:Cx}{pos:Pos}
theorem FN:PE X (.Dict [] [] pos) Lq:=λac s σ H Q I h =>
 wpAny_Dict_empty ⟨.ref s.heap.objs.size,_,I.laid (a:=s.heap.objs.size) (o:=.dT []) (t':=s.toks) (λ_ _ q=>X2 _ q) (X5 _) (xG s.heap I.big),rfl,h _ (I.hok.fresh (X5 _))⟩
end
abbrev TD:=List (List dn×V)
theorem compTurn_dict(ek ev target iter:Expr)(ifs:List Expr)(scope:Scope)(pos:Pos)(it:Value)(d:Addr)(env:Env) :
  compTurn (.DictComp ek ev [⟨target,iter,ifs,0⟩] scope pos) 0 it (.ref d) env=(do
   standAt iter.pos
   match←pyNext it with
   |none=>pure (.done .next)
   |some v =>
    letOwnedTupleGo target it v
    assign target env v
    let mut ok:=true
    for c in ifs do
     if ok then ok←isTrue c env (eval c env)
    if ok then
     (do
      let kv←eval ek env
      let vv←holding [kv] (eval ev env)
      standAt {ek.pos with endLine:=ev.pos.endLine,endCol:=ev.pos.endCol}
      holding [kv,vv] (dictSet d kv vv))
    again (.compLoop (.DictComp ek ev [⟨target,iter,ifs,0⟩] scope pos) 0 it (.ref d) env)):=by rfl
section
variable{prog:Program}{w:World}{A:Around}{E:nT}{R:Z3}{s:Shared}
theorem codeAny_compStart_dict{ek ev target iter ifs rest scope pos it acc env}
  (h0:codeAny (model prog w) A (.compLoop (.DictComp ek ev (⟨target,iter,ifs,0⟩::rest) scope pos) 0 it acc env) R s)
  (h:wpAny (model prog w) A (pyIter it) (λz s'=>codeAny (model prog w) A (.compLoop (.DictComp ek ev (⟨target,iter,ifs,0⟩::rest) scope pos) 0 z acc env) R s')
   (notedBy (model prog w) A env λx s'=>R (.error x) s') s) :
  codeAny (model prog w) A (.compStart (.DictComp ek ev (⟨target,iter,ifs,0⟩::rest) scope pos) 0 it acc env) R s:=by
 refine codeAny_of_tree ?_;show wpAny _ _ ((compStart (.DictComp ek ev (⟨target,iter,ifs,0⟩::rest) scope pos) 0 it acc env).onRaise (λx=>do noteFrame x env;standAt theWindowsPlace)) _ _ s;refine wpAny_notedAt ?_;unfold compStart;show wpAny _ _ (ask >>= _) _ _ s;refine X0 (wpAny_askSetting (wpAny_ite ?_));split
 ·first
   |exact X0 (X1 (X1 (And.intro rfl h0)))
   |exact X1 (And.intro rfl h0)
 ·first
   |exact X0 (wpAny_rule (X0 (wpAny_standAt (X0 (Yx h (λz s' h'=>X1 (And.intro rfl h')) λ_ _ x=>x)))))
   | (refine X0 (wpAny_rule ?_);show wpAny _ _ (standAt iter.pos >>= _) _ _ s;exact X0 (wpAny_standAt (X0 (Yx h (λz s' h'=>X1 (And.intro rfl h')) λ_ _ x=>x))))
end
section
variable{X:Cx}{ac:eN}{σ:St}{H:Hp}{s:Shared}{a b:Addr}{v:V}{r:Value}{E:nT}{A:Around}{kvs:TD}{k:List dn}
theorem CL{Q:Z2}(hu:A.units<cLine)(I:Inv X ac σ H s)(e:H a=some (.dT kvs))(eb:H b=some (.tup (k.map oV)))(l:kvs.length<sizeLine)(rv:RelV v r)(h:∀s',Inv X ac σ (upd H a (.dT (putK kvs k v))) s'->Q () s') :
  wpAny (model X.prog X.w) A (dictSet a (.ref b) r) Q E s:=by
 obtain⟨z,hd,xs,O,dd⟩:=Ku I.hok e;have hz:xs.length<=sizeLine:=by rw[←Paired.length O];exact z
 have hl:(putK kvs k v).length<=sizeLine:=by have:=k9 kvs k v;omega
 refine wpAny_dictSet_heap (hsz:=hz) hu (vz I.hok eb) dd λh' Nh hs=>h _ ?_;obtain⟨q,es,ep,U,h2,h3,h4,_,h5⟩:=Nh;refine uX I (by rw[e];exact True.intro) hs ⟨q,U⟩ ⟨hl,hd,_,(O.put k eb rv).keeps λc ys ec=>?_,q,es,ep,U,h2,h3,h4,h5⟩;rw[aI (JM ec e (λz=>nomatch z))];exact ec
end
def yS(J:It)(g:TG)(tc:TT)(tk tv:TE)(D:Addr)(Q:VK)(W:Nat->Nat->St->TD->Hp->Prop):Prop :=
 ∀i m σ ys H,W i m σ ys H->H D=some (.dT ys)/\((J.stop i H/\Q (.ref D) H)\/(J.go i H/\ys.length<sizeLine/\∃N:St->TD->Hp->Prop,(∀σ' z H',N σ' z H'->∃U,U<m/\W (i+1) U σ' z H')/\
  ∀x H',J.FL i H x H'->g x σ H' λO H2=>tc O H2 λb H3 =>
   if b=true then tk O H3 λy H4=>tv O H4 λv H5=>∃b k,y=.ref b/\H5 b=some (.tup (k.map oV))/\H5 D=some (.dT ys)/\N O (putK ys k v) (upd H5 D (.dT (putK ys k v)))else N O ys H3))
def Me(src:List (Option Nat))(wi:TI)(g:TG)(tc:TT)(tk tv:TE):TE:=λσ H Q=>wi σ H λJ H1=>∀D,H1 D=none->
 ∃W:Nat->Nat->St->TD->Hp->Prop,(∃m,W 0 m (kP src σ) [] (upd H1 D (.dT [])))/\yS J g tc tk tv D Q W
section
variable{X:Cx}{ek ev target iter:Expr}{ifs:List Expr}{sc:Scope}{pos:Pos}{wi:TI}{g:TG}{tc:TT}{tk tv:TE}{N':List Str}{src:List (Option Nat)}
theorem zK{it:Value}{d:Addr}{env:Env}{prog:Program}{w:World}{A:Around}{s:Shared}{R:Z3}(Iv:Nat->Shared->Prop)
  (turn:∀n s,Iv n s->wpAny (model prog w) A (pyNext it) (λr z=>match r with
   |none=>R (.ok .next) z
   |some v=>wpAny (model prog w) A (letOwnedTupleGo target it v) (λ_ O=>wpAny (model prog w) A (assign target env v) (λ_ s₂ =>
     wpAny (model prog w) A (forIn ifs true λc r=>if r=true then do let ok←isTrue c env (eval c env);pure (ForInStep.yield ok)else pure (ForInStep.yield r)) (λok U =>
      if ok=true then wpAny (model prog w) A (eval ek env) (λx s₄ =>
       wpAny (model prog w) A (eval ev env) (λy s₄'=>wpAny (model prog w) A (dictSet d x y) (λ_ s₅=>∃m,m<n/\Iv m s₅) (λ_ _=>False) s₄') (λ_ _=>False) s₄) (λ_ _=>False) U
      else∃m,m<n/\Iv m U) (λ_ _=>False) s₂) (λ_ _=>False) O) (λ_ _=>False) z) (λ_ _=>False) s)
  (n:Nat) (h:Iv n s) :
  codeAny (model prog w) A (.compLoop (.DictComp ek ev [⟨target,iter,ifs,0⟩] sc pos) 0 it (.ref d) env) R s:=by
 refine codeAny_loop rfl Iv (λn s hI=>?_) n h;show wpAny _ A ((compTurn (.DictComp ek ev [⟨target,iter,ifs,0⟩] sc pos) 0 it (.ref d) env).onRaise (λx=>do noteFrame x env;theTreesLotGoes x)) _ _ s;refine wpAny_noted ?_;rw[compTurn_dict];refine X0 (wpAny_standAt (X0 (Yx (turn n s hI) (λr z h₁=>?_) λ_ _ h'=>h'.elim)));cases r with
 |none=>exact X1 h₁
 |some v =>
  refine X0 (Yx h₁ (λ_ O h₁'=>X0 (Yx h₁' (λ_ s₂ h₂=>X0 (Yx h₂ (λok U h₃=>?_) λ_ _ h'=>h'.elim)) λ_ _ h'=>h'.elim)) λ_ _ h'=>h'.elim);cases ok with
  |false=>exact X1 ⟨rfl,h₃⟩
  |true =>refine X0 (X0 (Yx h₃ (λx s₄ h₄=>X0 (Yy (Yx h₄ (λy s₄' h₄'=>X0 (wpAny_standAt (Yy (Yx h₄' (λ_ s₅ h₅=>X1 ⟨rfl,h₅⟩) λ_ _ h'=>h'.elim)))) λ_ _ h'=>h'.elim))) λ_ _ h'=>h'.elim))
theorem yf{ac:eN}{σ:St}{H2:Hp}{s2:Shared}{it:Addr}{fp:Z6}{tn:Nat->Heap->Prop}{J:It}{Q:VK}{E:nT}{RR:Value->Addr->Z3}
  (hc:X.calm=true) (S:bq X.env.scope X.N N' src sc)
  (hg:∀cl C s H fp,PG (aV X N' sc cl C s H fp) target g) (ht:∀cl C s H fp,jK (aV X N' sc cl C s H fp) ifs tc) (hk:∀cl C s H fp,PE (aV X N' sc cl C s H fp) ek tk) (hv:∀cl C s H fp,PE (aV X N' sc cl C s H fp) ev tv) (hu:X.A.units<cLine)
  (I2:Inv X ac σ H2 s2) (T:Turn X.prog X.w X.K target J fp it tn) (st2:tn 0 s2.heap) (f2:∀b∈fp,eI X ac H2 b)
  (hW:∀D,H2 D=none->∃W:Nat->Nat->St->TD->Hp->Prop,(∃m,W 0 m (kP src σ) [] (upd H2 D (.dT [])))/\yS J g tc tk tv D Q W)
  (hRR:∀D C s5 H' m,Inv X ac σ H' s5->s5.heap.Ns C m->eI X ac H' C->Q (.ref D) H'->RR (.ref D) C (.ok .next) s5) :
  wpAny (model X.prog X.w) X.A newDict (λacc s₃=>wpAny (model X.prog X.w) X.A (newFunctionEnv sc X.env.globals (bS X.env.cells sc.names []) [] X.env.qual none .none (some X.env)) (λcenv s₄ =>
   codeAny (model X.prog X.w) X.A (.compStart (.DictComp ek ev [⟨target,iter,ifs,0⟩] sc pos) 0 (.ref it) acc {cenv with scope:=relabel sc X.env}) (RR acc cenv.locals) s₄) E s₃) E s2:=by
 have o2:∀b∈fp,b<s2.heap.objs.size:=λb z=>by obtain⟨o,e,_⟩:=T.obj 0 _ st2 b z;exact X3 e
 refine Yz ?_;have Mb:H2 s2.heap.objs.size=none:=I2.hok.fresh (X5 _);obtain⟨W,⟨m0,w0⟩,turn⟩:=hW s2.heap.objs.size Mb;have I3:Inv X ac σ (upd H2 s2.heap.objs.size (.dT [])) {s2 with heap:=s2.heap.push {cls:=.type "dict",data:=.dict #[]}} :=
  I2.laid (t':=s2.toks) (λb u e=>X2 _ e) (X5 _) (xG s2.heap I2.big)
 have st3:tn 0 (s2.heap.push {cls:=.type "dict",data:=.dict #[]}):=T.keep 0 _ _ st2 λb z o e=>X2 _ e;generalize hs3:({s2 with heap:=s2.heap.push {cls:=.type "dict",data:=.dict #[]}}:Shared)=s3 at I3;have hh3:s3.heap=s2.heap.push {cls:=.type "dict",data:=.dict #[]}:=by rw[←hs3]
 have GD:s2.heap.objs.size<s3.heap.objs.size:=by rw[hh3,Heap.size_push];exact Nat.lt_succ_self _
 have o3:∀b∈fp,b<s3.heap.objs.size:=λb z=>Nat.lt_trans (o2 b z) GD;have f3:∀b∈fp,eI X ac (upd H2 s2.heap.objs.size (.dT [])) b:=λb z=>⟨by rw[aI (Yp (o2 b z))];exact(f2 b z).1,(f2 b z).2⟩;rw[←hh3]at st3;refine wpAny_newFunctionEnv S.rD (by intro y hy;simp at hy) (λh1 hns hsb=>?_) S.kind;have hsb':Heap.SameBut s3.heap.objs.size (s3.heap.push {cls:=.type "dict",data:=.dict #[]}) h1:=hsb;have I4:Inv (aV X N' sc (bS X.env.cells sc.names []) s3.heap.objs.size s3 (upd H2 s2.heap.objs.size (.dT [])) fp) [] (kP src σ) (upd H2 s2.heap.objs.size (.dT [])) {s3 with heap:=h1,toks:=s3.toks+([]:List (Str×Value)).length} :=
  j5 S I3 f3 o3 hns hsb'
 have Dx:tn 0 h1:=T.keep 0 _ _ st3 λb z o e=>(hsb'.2 b (Yp (o3 b z))).trans (X2 _ e);have fC:∀(H':Hp),H' s3.heap.objs.size=none->eI X ac H' s3.heap.objs.size:=λH' hn=>I3.pH (X5 _) hn;have loop:codeAny (model X.prog X.w) X.A (.compLoop (.DictComp ek ev [⟨target,iter,ifs,0⟩] sc pos) 0 (.ref it) (.ref s2.heap.objs.size) (compEnvC sc (bS X.env.cells sc.names []) s3.heap.objs.size X.env))
   (RR (.ref s2.heap.objs.size) s3.heap.objs.size) {s3 with heap:=h1,toks:=s3.toks+([]:List (Str×Value)).length}:=by
  have U:∀{H':Hp},(∀b∈fp,H' b=none)->∀b∈fp,eI (aV X N' sc (bS X.env.cells sc.names []) s3.heap.objs.size s3 (upd H2 s2.heap.objs.size (.dT [])) fp) [] H' b:=λhn b z =>
   ⟨hn b z,(I4.ok.GV b z).1,I4.ok.xR b z,.inl z,(I4.ok.GV b z).2,λp hp=>YE (show p∈([]:eN) from hp) (by simp)⟩
  refine zK (λn s'=>∃i σ' ys H',Inv (aV X N' sc (bS X.env.cells sc.names []) s3.heap.objs.size s3 (upd H2 s2.heap.objs.size (.dT [])) fp) [] σ' H' s'/\tn i s'.heap/\(∀b∈fp,H' b=none)/\W i n σ' ys H') ?_ m0
   ⟨0,_,[],_,I4,Dx,λb z=>(f3 b z).1,w0⟩
  rintro n s5 ⟨i,qL,ys,H5,I5,wt,yv,w5⟩;obtain⟨hD,alt⟩:=turn i n qL ys H5 w5;rcases alt with⟨stop,qn⟩|⟨go,hsz,N,hN,step⟩
  ·refine cu (T.done (aV X N' sc (bS X.env.cells sc.names []) s3.heap.objs.size s3 (upd H2 s2.heap.objs.size (.dT [])) fp) rfl rfl rfl hc i [] s5 qL H5 _ I5 (U yv) wt stop) λr s6 O=>?_;obtain⟨hr,I6⟩:=O;subst hr;obtain⟨m6,n6,_⟩:=id I6.loc;refine hRR _ _ s6 H5 m6 (I3.call' I6.os I6.base I6.hok I6.bare λb z=>⟨(f3 b z).2.2.2.1,(f3 b z).2.1,(f3 b z).2.2.2.2.1,(f3 b z).2.2.2.2.2⟩) n6 (fC _ I6.free) qn
  ·refine cu (T.item (aV X N' sc (bS X.env.cells sc.names []) s3.heap.objs.size s3 (upd H2 s2.heap.objs.size (.dT [])) fp) rfl rfl rfl hc i [] s5 qL H5 _ I5 (U yv) wt go) λr s6 O=>?_;obtain⟨u,hr,h6⟩:=O;subst hr;refine cu h6 λ_ s7 O=>?_;obtain⟨x,H7,I7,r7,y7,vA,Iw⟩:=O;have Hr:=I7.pinned (U Iw) (T.obj _ _ vA);refine cu (hg _ _ _ _ _ _ s7 qL H7 x u _ Hr r7 (step x H7 y7)) λ_ s8 O=>?_;obtain⟨wq,H8,I8,q8⟩:=O;refine cu (ht _ _ _ _ _ _ s8 wq H8 _ I8 q8) λb s9 O=>?_;obtain⟨H9,I9,q9⟩:=O;have again:∀{σ':St}{H':Hp}{s':Shared}{ys':TD}{m':Nat},Inv (aV X N' sc (bS X.env.cells sc.names []) s3.heap.objs.size s3 (upd H2 s2.heap.objs.size (.dT [])) fp) ([]++kQ fp s7.heap) σ' H' s'->m'<n->W (i+1) m' σ' ys' H'->
     ∃m,m<n/\∃i σ' ys H',Inv (aV X N' sc (bS X.env.cells sc.names []) s3.heap.objs.size s3 (upd H2 s2.heap.objs.size (.dT [])) fp) [] σ' H' s'/\tn i s'.heap/\(∀b∈fp,H' b=none)/\W i m σ' ys H':=λ{σ' H' s' ys' m'} I' hm w'=>by
    refine⟨m',hm,i+1,σ',ys',H',I'.iG,T.keep _ _ _ vA λb z o e=>(I'.pin (b,o) (Ye _ (Ye _ (cV z e)))).1,λb z=>?_,w'⟩;obtain⟨o,e,d⟩:=T.obj _ _ vA b z;exact(I'.pin (b,o) (Ye _ (Ye _ (cV z e)))).2.1
   cases b with
   |false =>rw[YF Yh]at q9⊢;obtain⟨m',hm,w'⟩:=hN _ _ _ q9;exact again I9 hm w'
   |true =>rw[YG rfl]at q9⊢;refine cu (hk _ _ _ _ _ _ s9 wq H9 _ I9 q9) λxv qN O=>?_;obtain⟨y,Df,NH,r10,Om⟩:=O;refine cu (hv _ _ _ _ _ _ qN wq Df _ NH Om) λvv Uh O=>?_;obtain⟨v,To,Mx,r11,kb,kk,ey,hkb,QI,w11⟩:=O;subst ey;obtain rfl:xv=Value.ref kb:=r10;obtain⟨m',hm,w'⟩:=hN _ _ _ w11;exact CL (X:=aV X N' sc (bS X.env.cells sc.names []) s3.heap.objs.size s3 (upd H2 s2.heap.objs.size (.dT [])) fp) hu Mx QI hkb hsz r11 λs12 UG=>again UG hm w'
 exact codeAny_compStart_dict loop (T.self _ 0 _ _ _ Dx loop)
end
section
variable{X:Cx}
theorem DR{ek ev target iter:Expr}{ifs:List Expr}{N':List Str}{src:List (Option Nat)}{sc:Scope}{pos:Pos}{wi:TI}{g:TG}{tc:TT}{tk tv:TE}(hc:X.calm=true)(S:bq X.env.scope X.N N' src sc)(hi:PI X target iter wi)
  (hg:∀cl C s H fp,PG (aV X N' sc cl C s H fp) target g) (ht:∀cl C s H fp,jK (aV X N' sc cl C s H fp) ifs tc) (U:∀cl C s H fp,PE (aV X N' sc cl C s H fp) ek tk) (hv:∀cl C s H fp,PE (aV X N' sc cl C s H fp) ev tv) (hu:X.A.units<cLine)
  (hs:∀x,foldedSetIterable iter X.env x=pure x:=by intro _;rfl) :
  PE X (.DictComp ek ev [⟨target,iter,ifs,0⟩] sc pos) (Me src wi g tc tk tv):=by
 intro ac s σ H Q I h;show wpAny _ _ (comprehension _ _ _ _ _ _ _ _) _ _ s;refine wpAny_comprehension_free (use:=none) rfl hs (cX λy O U=>I.ok.has y.1 (S.free y O U)) S.kind (λy O hl=>by rw[←hl];exact S.uniq y O) ?_;refine cu (hi ac s σ H _ I h) λv s1 h1=>cu h1 λitv s2 h2=>?_;obtain⟨it,fp,tn,J,H2,e,I2,T,st2,f2,hW⟩:=h2;subst e;refine yf (Q:=Q) (RR:=λacc C=>compPost (model X.prog X.w) X.A X.xe none (EP X ac σ Q) acc C) hc S hg ht U hv hu I2 T st2 f2 hW ?_;intro D C s5 H' m I5 n5 z q;refine⟨m,n5,λh' sb=>⟨.ref D,H',?_,rfl,q⟩⟩;exact I5.turned (t':=s5.toks) (λb o hb e=>(sb.2 b hb).trans e) z.1 z.2.1 z.2.2.2.1 z.2.2.2.2.1 z.2.2.2.2.2
theorem BU(hc:X.calm=true):gJ X (.builtin "min") (λxs H Q=>∃(p:Addr)(ns:List Int),xs=[.ref p]/\bb X.K H p (ns.map V.int)/\ns≠[]/\∀M,M∈ns->(∀a∈ns,M<=a)->Q (.int M) H):=by
 intro ac s σ H xs us Q I r h;obtain⟨p,ns,rfl,hS,hne,q⟩:=h;obtain⟨u,rfl,ru⟩:=vals1 r;cases ru;obtain⟨O,rv,pl,hz⟩:=I.list hS;have hp:p<s.heap.objs.size:=by obtain⟨o,e,_⟩:=pl.isList;exact X3 e
 have hl:O.toArray.size=ns.length:=by have:=rv.length;rw[X9]at this;simp[this]
 have hpos:0<ns.length:=List.length_pos_iff.mpr hne;refine call_min_walkS (wpAny_pyIter_list pl.isList ?_);have W:=(Walks.list (prog:=X.prog) (w:=X.w) (A:=X.A.in1) (I.ok.hd hc) s.heap.objs.size p (Yp hp) O.toArray).toS;refine⟨s.heap.objs.size,_,_,_,_,_,_,_,rfl,W,⟨⟨_,X4 _ rfl,rfl,rfl⟩,?_⟩,λb U=>?_,by rw[hl];exact hpos,CmpOf.ints_lt (λi=>ns.getD i 0) (λi v hv=>AZ rv hv),λv s' hP hm=>?_⟩
 ·obtain⟨o,e,z⟩:=pl.isList;exact⟨o,X2 _ e,z⟩
 ·simp only[Ym,YH,or_false]at U;show b<(s.heap.push _).objs.size;rw[Heap.size_push];rcases U with rfl|rfl
  ·exact Nat.lt_succ_self _
  ·exact Nat.lt_succ_of_lt hp
 ·obtain⟨t',rfl⟩:=AZ rv hP;have U:=argBest_lt (λi=>ns.getD i 0) (O.toArray.size-1);rw[hl]at U;obtain⟨h',g',d',tk',os'⟩:=s';have e1:g'=s.gens:=hm.gens;have e2:d'=s.drawn:=hm.drawn;have e3:os'=s.os:=hm.os;subst e1 e2 e3;have I1:Inv X ac σ H {s with heap:=s.heap.push {cls:=.type "list_iterator",data:=.fields #[.ref p,.int 0 0]}}:=I.kept (t':=s.toks) λb o e=>X2 _ e;have f:=I.pH (b:=s.heap.objs.size) (H':=H) (X5 _) (I.hok.fresh (X5 _));refine⟨.int _,H,I1.turned (λb o U e=>hm.heap b o (by simpa using U) e) f.1 f.2.1 f.2.2.2.1 f.2.2.2.2.1 f.2.2.2.2.2,⟨t',rfl⟩,q _ ?_ λa ha=>?_⟩
  ·rw[hl];have hi:argBest (λi j=>decide (ns.getD i 0<ns.getD j 0)) (ns.length-1)<ns.length:=by omega
   rw[List.getD_eq_getElem?_getD,Yd hi,Option.getD_some];exact List.getElem_mem hi
  ·obtain⟨j,hj,rfl⟩:=List.mem_iff_getElem.mp ha;have:=U.2 j (by omega);rw[hl];rw[List.getD_eq_getElem?_getD (l:=ns) (i:=j),Yd hj,Option.getD_some]at this;exact this
end
open PySem.Builtin PySem.Builtin.Tuple SeqAt in
theorem s_(l:Addr)(items:Array Value)(n:Nat)(dd:Option Addr)(sl:Array (Z5))(x:Value)(e:Value->Bool)(j:Nat)(hj:j<items.size)(ht:e items[j]=true)(hf:∀k (h:k<items.size),k<j->e items[k]=false) :
  Meets (Builtin.«tuple.index» ⟨[.ref l,x],[]⟩)
   (λA R s=>s.heap.get? l=some {cls:=.type "tuple",dict:=dd,data:=.seq items n,slots:=sl}/\(∀y,y∈items->EqAt A.in1 s y x (e y))/\R (.ok (.ret (.int (j:Nat) s.toks))) {s with toks:=s.toks+1}) :=
 .of_wp λprog w A R s h=>by
  obtain⟨hp,g,d,tk,os⟩:=s;obtain⟨hl,he,h⟩:=h
  wp_walk using wpAny_loadPart' hl
  change wpAny _ _ (forIn (m:=Sem) ([:Min.min items.size items.size]:Std.Legacy.Range) ((none,()):Option _×Unit) (λ(i:Nat) (_:Option _×Unit)=>match items[i]? with
      |some y=>do
       let __do_lift←eqBool y x
       if __do_lift=true then do
         let __do_lift←retInt (i:Nat)
         pure (ForInStep.done (some __do_lift,()))
        else pure (ForInStep.yield (none,()))
      |_=>pure (ForInStep.yield (none,())))) _ _ _
  rw[Std.Legacy.Range.forIn_eq_forIn_range'];refine wpAny_forIn_list _ (λrest b s'=>b.1=none/\s'=⟨hp,g,d,tk,os⟩/\∃k,k<=j/\rest=List.range' k (items.size-k)) _ ?_ ?_ _ _ ⟨rfl,rfl,0,Yq _,by simp[Std.Legacy.Range.size]⟩
  ·rintro y rest b s' ⟨hb,rfl,k,hk,O⟩;have z:k<items.size:=by omega
   rw[show items.size-k=(items.size-(k+1))+1 by omega,List.range'_succ]at O;injection O with h1 h2;subst h1;dsimp only;rw[Yw z];refine X0 (he _ (Array.getElem_mem z) prog w _ _ ?_);by_cases U:y=j
   ·subst U;rw[ht]
    wp_walk
    exact⟨_,rfl,h⟩
   ·rw[hf y z (by omega)]
    wp_walk
    exact⟨rfl,rfl,y+1,by omega,h2⟩
  ·rintro b s' ⟨hb,rfl,k,hk,O⟩;have:(List.range' k (items.size-k)).length=0:=by rw[←O];rfl
   rw[List.length_range']at this;omega
section
variable{X:Cx}
inductive Dr(K:YY)(v:V)(vs:List V)(H:Hp)(Q:VK):Prop
 |mk (p:Addr) (cs:List Int) (c:Int) (j:Nat) (_:v=.ref p) (_:vs=[.int c]) (_:aX K H p (cs.map V.int)) (_:cs[j]? = some c) (_:(∀k,k<j->cs[k]?≠some c)) (_:Q (.int (j:Nat)) H):Dr K v vs H Q
theorem BX:Tx X "tuple.index" (Dr X.K):=by
 intro ac s σ H v vs u us Q I rx rv h;obtain⟨p,cs,c,j,rfl,rfl,hq,hj,hf,q⟩:=h;cases rx;obtain⟨u,rfl,ru⟩:=vals1 rv;obtain⟨z,r,pl,hz⟩:=I.tuple hq;have hl:=r.length;rw[X9]at hl;have hjl:j<cs.length:=(Yj.mp hj).1;have fs:(cs.map V.int).all lI=true:=by rw[List.all_map];exact List.all_eq_true.mpr λ_ _=>rfl
 have he:∀k (O:k<z.toArray.size),yo (.int c) z.toArray[k]=decide (cs[k]? = some c):=λk O=>by
  have hk':k<cs.length:=by rw[hl];simpa using O
  obtain⟨w,e,qo⟩:=r.get (i:=k) (x:=.int cs[k]) (by rw[Yu,Yd hk'];rfl);have:z.toArray[k]=w:=by
   have:z[k]? = some z.toArray[k]:=by rw[Yd (by simpa using O)];simp
   rw[this]at e;exact Yr e
  rw[this,yA qo rfl,Yd hk'];show(cs[k]==c)=_;rw[Bool.eq_iff_iff];simp
 obtain⟨⟨cls,dd,data,sl⟩,ho,hc,n,hd⟩:=id pl;simp only at hc hd;subst hc hd;have U:j<z.toArray.size:=by simpa using (hl▸hjl)
 refine call_meets F.slot_tuple_index ⟨_,ho,rfl⟩ F.entry_tuple_index (F.args_tuple_index_2 _ _) (s_ p z.toArray n dd sl u (yo (.int c)) j U (by rw[he j U];exact X8 hj) λk O hkj=>by rw[he k O];exact X7 (hf k hkj)) ⟨ho,λw hw=>jD ru rfl r fs w (by simpa using hw),?_⟩;exact⟨.int (j:Nat),H,I.tok _,⟨_,rfl⟩,q⟩
end
inductive J4(K:YY)(x:V)(y:V)(H:Hp)(Q:VK):Prop
 |mk a b xs ys (_:x=.ref a) (_:y=.ref b) (_:aX K H a xs) (_:aX K H b ys) (_:xs.length+ys.length<=sizeLine) (_:∀t H',aH H H'->aX K H' t (xs++ys)->Q (.ref t) H'):J4 K x y H Q
theorem AH{X:Cx}:kj X (binaryOp .Add) (J4 X.K):=by
 intro ac s σ H x y v u Q I rx U h;obtain⟨a,b,xs,ys,rfl,rfl,ha,O,hz,q⟩:=h;by_cases hx:xs=[]
 ·subst hx;exact xQ ac s σ H _ _ v u Q I rx U ⟨a,b,ys,rfl,rfl,ha,O,q b H (aH.refl _) O⟩
 ·exact BE ac s σ H _ _ v u Q I rx U ⟨a,b,xs,ys,rfl,rfl,ha,O,hx,hz,λz=>q a H (aH.refl _) (by rw[z,YO];exact ha),λ_ p hp=>q p _ (λb' u' e=>by rw[aI (aY e hp)];exact e) (aX.of ae)⟩
theorem aK.take{K:YY}{H:Hp}:∀{ds:List D}{vs:List V}(i:Nat),aK K H ds vs->aK K H (ds.take i) (vs.take i)
 |_,_,0,_=>by rw[List.take_zero,List.take_zero];exact aK.nil
 |[],vs,i+1,h=>by rw[aK]at h;rw[h,List.take_nil,List.take_nil];exact aK.nil
 |d::ds,vs,i+1,h=>by rw[aK]at h;obtain⟨v,r,rfl,h1,h2⟩:=h;rw[List.take_succ_cons,List.take_succ_cons];exact aK.cons h1 (aK.take i h2)
theorem rm{K:YY}{H:Hp}{a:Addr}{vs:List V}{ds:List D}(h:aX K H a vs)(g:aK K H ds vs):a_ K H (.tup ds) (.ref a):=by rw[a_];exact⟨a,vs,rfl,h,g⟩
theorem ja{K:YY}{H:Hp}{v:V}{ds:List D}(h:a_ K H (.tup ds) v):∃a vs,v=.ref a/\aX K H a vs/\aK K H ds vs:=by rw[a_]at h;exact h
theorem xI{K:YY}{H:Hp}{i:Int}{v:V}(h:a_ K H (.int i) v):v=.int i:=by rw[a_]at h;exact h
theorem Bj{K:YY}{H:Hp}{i:Bool}{v:V}(h:a_ K H (.bl i) v):v=.bl i:=by rw[a_]at h;exact h
theorem FF{K:YY}{H:Hp}{i:Str}{v:V}(h:a_ K H (.str i) v):v=.str i:=by rw[a_]at h;exact h
theorem FH{K:YY}{H:Hp}{v:V}(h:a_ K H .non v):v=.non:=by rw[a_]at h;exact h
theorem ez{K:YY}{H:Hp}{d:D}{ds:List D}{vs:List V}(h:aK K H (d::ds) vs):∃v r,vs=v::r/\a_ K H d v/\aK K H ds r:=by rw[aK]at h;exact h
theorem l4{K:YY}{H:Hp}{vs:List V}(h:aK K H [] vs):vs=[]:=by rw[aK]at h;exact h
def Oq(K:YY)(to:TE)(t:TA):TE:=λσ H Q=>to σ H λx H1=>(∃p xs,x=.ref p/\H1 p=some (.tup xs))/\t σ H1 λxs H2=>Dr K x xs H2 Q
theorem Io{X:Cx}{o e:Expr}{es:List Expr}{to:TE}{t:TA}{apos cpos:Pos}(ho:PE X o to)(ha:PA X (e::es) t)
  (U:attributeBase o "index" X.env (eval o X.env)=eval o X.env:=by rfl)
  (hfew:((backTo cpos (starEach (e::es) X.env)).all (λx=>!x.1)&&(backToKw cpos (keywordEach [] X.env)).all (λx=>x.1.isSome)
   && decide ((e::es).length+([]:List Keyword).length+(if([]:List Keyword).isEmpty then 0 else 1)<30))=true:=by rfl)
  (O:(apos.endLine==cpos.line)=true:=by rfl) (hs:starEach (e::es) X.env=(false,eval e X.env)::starEach es X.env:=by rfl) (z:(backTo cpos (starEach es X.env)).any (·.1)=false:=by rfl) :
  PE X (.Call (.Attribute o "index" apos) (e::es) [] cpos) (Oq X.K to t):=by
 intro ac s σ H Q I h;refine wpAny_Call_method_late U hfew O rfl (cu (ho ac s σ H _ I h) λv s1 zz=>?_);obtain⟨x,H1,I1,r1,ty,q1⟩:=zz;have hh:s1.TypeIs v "tuple"/\∀a,v=.ref a->∃ob,s1.heap.get? a=some ob/\ob.dict=none:=by obtain⟨p,xs,rfl,hp⟩:=ty;cases r1;obtain⟨_,its,_,o,e1,e2,_,e3⟩:=I1.hok p _ hp;refine⟨⟨o,e1,e2⟩,λa e=>?_⟩;cases e;exact⟨o,e1,e3⟩
 refine⟨"tuple","tuple.index",F.plainAttrs_tuple,F.slot_tuple_index,F.type_tuple_index,hh.1,hh.2,?_⟩;have hA:=ha cpos ac s1 σ H1 _ I1 q1;rw[hs]at hA⊢;refine Calls.callWith_builtin (by show(false||(backTo cpos (starEach es X.env)).any (·.1))=false;rw[z]<;>rfl) (Calls.evalArgs_plain ?_);exact cu hA λus s2 ⟨vs,H2,I2,r2,q2⟩=>BX ac s2 σ H2 x vs v us Q I2 r1 r2 q2
end L2
namespace My
open PySem L2
abbrev Od:=List (Int×Bool)
structure Kf where
 od:Od
 mo:Option Int
 un:Bool
def mV:Option Int->V
 |none=>.non
 |some i=>.int i
def dM:Option Int->D
 |none=>.non
 |some i=>.int i
def dE(e:Int×Bool):D:=.tup [.int e.1,.bl e.2]
def dO(o:Od):D:=.tup (o.map dE)
def dF(k:Kf):D:=.tup [dO k.od,dM k.mo,.bl k.un]
section
variable{K:YY}{H:Hp}
theorem NK{m:Option Int}:a_ K H (dM m) (mV m):=by cases m<;>first|exact wa|exact oK _
theorem KC{m:Option Int}{v:V}(h:a_ K H (dM m) v):v=mV m:=by cases m<;>first|exact FH h|exact xI h
theorem O4{e:Int×Bool}{v:V}(h:a_ K H (dE e) v):∃a,v=.ref a/\aX K H a [.int e.1,.bl e.2]:=by obtain⟨a,vs,rfl,hs,hd⟩:=ja h;obtain⟨v1,O,rfl,h1,hd⟩:=ez hd;obtain⟨z,U,rfl,h2,hd⟩:=ez hd;rw[l4 hd,xI h1,Bj h2]at hs;exact⟨a,rfl,hs⟩
theorem yn{a:Addr}{c:Int}{b:Bool}(h:aX K H a [.int c,.bl b]):a_ K H (dE (c,b)) (.ref a):=rm h (aK.cons (oK _) (aK.cons (vm _) aK.nil))
theorem lC{k:Kf}{v:V}(h:a_ K H (dF k) v):∃a t,v=.ref a/\aX K H a [t,mV k.mo,.bl k.un]/\a_ K H (dO k.od) t:=by obtain⟨a,vs,rfl,hs,hd⟩:=ja h;obtain⟨z,U,rfl,h1,hd⟩:=ez hd;obtain⟨O,r2,rfl,h2,hd⟩:=ez hd;obtain⟨v3,r3,rfl,h3,hd⟩:=ez hd;rw[l4 hd,KC h2,Bj h3]at hs;exact⟨a,z,rfl,hs,h1⟩
theorem FC{a:Addr}{t:V}{o:Od}{m:Option Int}{u:Bool}(h:aX K H a [t,mV m,.bl u])(z:a_ K H (dO o) t):a_ K H (dF ⟨o,m,u⟩) (.ref a) :=
 rm h (aK.cons z (aK.cons NK (aK.cons (vm _) aK.nil)))
theorem iU{o:Od}{vs:List V}{i:Nat}{v:V}(h:aK K H (o.map dE) vs)(hv:vs[i]? = some v):∃e a,o[i]? = some e/\v=.ref a/\aX K H a [.int e.1,.bl e.2]:=by
 obtain⟨d,z,O⟩:=h.get hv;rw[Yu]at z;cases q:o[i]? with
 |none=>rw[q]at z;cases z
 |some e =>rw[q]at z;cases z;obtain⟨a,rfl,hs⟩:=O4 O;exact⟨e,a,rfl,rfl,hs⟩
theorem i3{o:Od}{vs:List V}(h:aK K H (o.map dE) vs):vs.length=o.length:=by rw[←h.length,X9]
end
theorem Bm{α:Type}{p:α->Bool}:∀{l:List α}{i:Nat}{x:α},(∀e∈l.take i,p e=true)->l[i]? = some x->p x=false->l.takeWhile p=l.take i
 |[],i,x,_,h,_=>by cases h
 |a::l,0,x,_,h,hp=>by cases h;rw[List.takeWhile_cons,hp];rfl
 |a::l,i+1,x,ha,h,hp=>by rw[List.takeWhile_cons,ha a (by simp),List.take_succ_cons,YG rfl];exact congrArg (a :: ·) (Bm (λe z=>ha e (by rw[List.take_succ_cons];exact Yg _ z)) h hp)
theorem yT{α:Type}{p:α->Bool}{l:List α}(h:∀e∈l,p e=true):l.takeWhile p=l:=by
 induction l with
 |nil=>rfl
 |cons a l O=>rw[List.takeWhile_cons,h a (by simp),YG rfl,O λe z=>h e (Yg _ z)]
theorem take_all{α:Type}{l:List α}{i:Nat}{x:α}{p:α->Prop}(h:∀e∈l.take i,p e)(U:l[i]? = some x)(px:p x):∀e∈l.take (i+1),p e:=λe O=>by
 rw[List.take_add_one,U]at O;rcases Yo.mp O with z|z
 ·exact h e z
 ·have:e=x:=by simpa using z
  rw[this];exact px
def da(o:Od)(c:Int):Od:=o.takeWhile λe=>decide (e.1≠c)
inductive Lr(K:YY)(vs:List V)(H:Hp)(Q:VK)(E:XK):Prop
 |mk (v:V) (o:Od) (c:Int) (_:vs=[v,.int c]) (_:a_ K H (dO o) v) (_:o.length<=1000) (_:∀u H',aH H H'->a_ K H' (dO (da o c)) u->Q u H'):Lr K vs H Q E
abbrev jb:Stmt:=top 55
theorem iR:ax ["order","column","found","entry"] ["order","column"] (aq jb):=fs
variable{P:Program}{w:World}{K:YY}{mg:Z0}{base:Heap}
theorem CY(B:j_ mg)(F:FA K mg "order_ahead" jb) :
  bz bx P w K mg base 1 "order_ahead" ["order","column"] (Lr K):=by
 refine F.ok iR λf cdv A outer s H vs Q E hr h=>?_;have hu:=fJ hr;obtain⟨v,o,c,rfl,ho,hz,q⟩:=h;refine⟨_,(ao (aU (i:=2) iR.nd rfl (YI rfl) (bw ag))
   (ao (dR PassesOwn.never rfl (cP (pv 0)) (aQ (i:=3) iR.nd rfl (YI rfl))
    (bE (ba bH (aJ K (pv 3) aj) (pv 1)) (bA bu rfl B.tuple YM (aa (pv 2) ag))
     (bC (cN (gN PySem.F.plainAttrs_list PySem.F.slot_list_append PySem.F.type_list_append cb (pv 2) (aa (pv 3) ag))))))
   (ay (bA bu rfl B.tuple YM (aa (pv 2) ag))))),?_⟩
 obtain⟨a,ws,rfl,hS,hD⟩:=ja ho;have hl:=i3 hD;have fin:∀(i:Nat)(L u:Addr)(H':Hp),aH H H'->da o c=o.take i->H' u=none->a_ K (upd H' u (.tup (ws.take i))) (dO (da o c)) (.ref u):=λi L u H' s' e hu=>by rw[e];have:=(hD.take i).same (s'.trans (ai hu (.tup (ws.take i))));rw[←List.map_take]at this;exact cY ae this
 refine⟨Yq _,λL hL=>ak ?_⟩;dsimp only;refine⟨_,rfl,a,rfl,⟨_,(ai hL _).fA hS⟩,?_⟩;refine va (xs:=ws) (λi σ H'=>(∃o3,σ=[some (.ref a),some (.int c),some (.ref L),o3])/\H' L=some (.lst (ws.take i))/\aH H H'/\∀e∈o.take i,decide (e.1≠c)=true) ⟨⟨none,rfl⟩,ae,ai hL _,by simp⟩ ?_ ?_ ?_
 ·rintro i σ H' _ ⟨_,_,s',_⟩;exact s'.fA hS
 ·rintro i x σ H' hx ⟨⟨o3,rfl⟩,U,s',O⟩;obtain⟨e,b,he,rfl,hb⟩:=iU hD hx;refine ak ?_;dsimp only;refine⟨_,rfl,b,_,0,_,rfl,rfl,s'.fA hb,az (j:=0) rfl,_,rfl,rfl,_,rfl,?_⟩;refine fY (λk=>?_) λk=>bR ?_
  ·have k':e.1=c:=by simpa using YD k
   refine⟨_,rfl,L,_,rfl,.inl ⟨bb.of U,λu hu=>q _ _ (s'.trans (ai hu _)) (fin i L u H' s' ?_ hu)⟩⟩;exact Bm O he (X7 λz=>z k')
  ·have k':e.1≠c:=λz=>k (X8 (by rw[z]));refine⟨_,rfl,.inl ⟨rfl,_,bb.of U⟩,_,rfl,L,_,_,rfl,rfl,U,?_,⟨_,rfl⟩,?_,bg hL s',take_all O he (X8 k')⟩
   ·rw[Yv];exact Yb (X6 (Nat.min_le_right _ _) (by rw[hl];exact hz)) (by decide)
   ·rw[ae,take_one hx]
 ·rintro σ H' ⟨⟨o3,rfl⟩,U,s',O⟩;rw[hl,YJ]at O;refine⟨_,rfl,L,_,rfl,.inl ⟨bb.of U,λu hu=>q _ _ (s'.trans (ai hu _)) (fin ws.length L u H' s' ?_ hu)⟩⟩;rw[hl,YJ];exact yT O
def KS(K:YY)(H H':Hp):Prop:=∀a xs,aX K H a xs->aX K H' a xs
section
variable{K:YY}{H H1 H2:Hp}
theorem KS.of(s:aH H H1):KS K H H1:=λ_ _ q=>s.fA q
theorem KS.refl:KS K H H:=λ_ _ q=>q
theorem KS.trans(a:KS K H H1)(b:KS K H1 H2):KS K H H2:=λ_ _ q=>b _ _ (a _ _ q)
theorem KS.dP{L:Addr}{xs:List V}{o:HO}(h:H L=some (.lst xs)):KS K H (upd H L o):=λa ys q=>by
 rcases q with(q|⟨O,q⟩)|q
 ·exact .inl (.inl (by rw[aI λz=>by rw[z,h]at q;cases q];exact q))
 ·exact .inl (.inr ⟨O,by rw[aI λz=>by rw[z,h]at q;cases q];exact q⟩)
 ·exact .inr q
theorem Aa(o:Od):qt (o.map dE)=true:=kX.mpr λd hd=>by obtain⟨e,_,rfl⟩:=Yl.mp hd;rfl
theorem PQ(o:Od):Ia (dO o)=true:=Aa o
theorem oi(k:Kf):Ia (dF k)=true:=by
 show qt [dO k.od,dM k.mo,.bl k.un]=true;refine kX.mpr λd hd=>?_;simp only[Ym,YH,or_false]at hd;rcases hd with rfl|rfl|rfl
 ·exact PQ _
 ·cases k.mo<;>rfl
 ·rfl
end
theorem N3{c:Int}{cs:List Int}:inV (.int c) (cs.map V.int)=decide (c∈cs):=by
 induction cs with
 |nil=>rfl
 |cons a cs z =>have e:inV (.int c) ((a::cs).map V.int)=((a==c)||inV (.int c) (cs.map V.int)):=rfl;rw[e,z,Bool.eq_iff_iff,Bool.or_eq_true,beq_iff_eq,decide_eq_true_eq,decide_eq_true_eq,Ym];exact or_congr eq_comm Iff.rfl
theorem xx(cs:List Int):(cs.map V.int).all lI=true:=by rw[List.all_map];exact List.all_eq_true.mpr λ_ _=>rfl
theorem E7{c:Int}{cs:List Int}(h:c∈cs):cs[cs.idxOf c]? = some c/\∀k,k<cs.idxOf c->cs[k]?≠some c:=by have hl:cs.idxOf c<cs.length:=List.idxOf_lt_length_iff.mpr h;refine⟨by rw[Yd hl,List.getElem_idxOf],λk z e=>?_⟩;obtain⟨O,U⟩:=Yj.mp e;have:=List.not_of_lt_findIdx (p:=(· == c)) (xs:=cs) z;rw[U]at this;simp at this
def Q5(cs:List Int)(e:Int×Bool):Int×Bool:=((cs.idxOf e.1:Nat)+1,e.2)
def lS(o:Od)(cs:List Int):Od:=(o.takeWhile λe=>decide (e.1∈cs)).map (Q5 cs)
inductive IC(K:YY)(vs:List V)(H:Hp)(Q:VK)(E:XK):Prop
 |mk (v:V) (t:Addr) (o:Od) (cs:List Int) (_:vs=[v,.ref t]) (_:a_ K H (dO o) v) (_:H t=some (.tup (cs.map V.int))) (_:o.length<=1000) (_:∀u H',aH H H'->a_ K H' (dO (lS o cs)) u->Q u H'):IC K vs H Q E
abbrev nq:Stmt:=top 56
theorem i4:ax ["order","columns","found","column","greatest_first"] ["order","columns"] (aq nq):=fs
theorem MD(B:j_ mg)(F:FA K mg "order_in" nq) :
  bz bx P w K mg base 1 "order_in" ["order","columns"] (IC K):=by
 refine F.ok i4 λf cdv A outer s H vs Q E hr h=>?_;have U:=fJ hr;obtain⟨v,t,o,cs,rfl,ho,ht,hz,q⟩:=h;refine⟨_,(ao (aU (i:=2) i4.nd rfl (YI rfl) (bw ag))
   (ao (dR PassesOwn.never rfl (cP (pv 0)) (bU rfl (ar (aQ (i:=3) i4.nd rfl (YI rfl)) (ar (aQ (i:=4) i4.nd rfl (YI rfl)) bF)))
    (bE (eU ie (pv 3) (pv 1) rfl) (bA bu rfl B.tuple YM (aa (pv 2) ag))
     (bC (cN (gN PySem.F.plainAttrs_list PySem.F.slot_list_append PySem.F.type_list_append cb (pv 2) (aa (aW (aa (aL cw (Io (pv 1) (aa (pv 3) ag)) aj) (aa (pv 4) ag))) ag))))))
   (ay (bA bu rfl B.tuple YM (aa (pv 2) ag))))),?_⟩
 obtain⟨a,ws,rfl,hS,hD⟩:=ja ho;have hl:=i3 hD;refine⟨Yq _,λL hL=>ak ?_⟩;dsimp only;refine⟨_,rfl,a,rfl,⟨_,(ai hL _).fA hS⟩,?_⟩;refine va (xs:=ws) (λi σ H'=>(∃o3 o4,σ=[some (.ref a),some (.ref t),some (.ref L),o3,o4])/\(∃xs,H' L=some (.lst xs)/\aK K H' (((o.take i).map (Q5 cs)).map dE) xs)/\aH H H'/\∀e∈o.take i,decide (e.1∈cs)=true) ⟨⟨none,none,rfl⟩,⟨[],ae,aK.nil⟩,ai hL _,by simp⟩ ?_ ?_ ?_
 ·rintro i σ H' _ ⟨_,_,s',_⟩;exact s'.fA hS
 ·rintro i x σ H' hx ⟨⟨o3,o4,rfl⟩,⟨xs,O,hX⟩,s',z⟩;obtain⟨e,b,he,rfl,hb⟩:=iU hD hx;refine⟨b,_,rfl,s'.fA hb,rfl,_,_,rfl,ak ⟨_,_,rfl,ak ⟨rfl,?_⟩⟩⟩;dsimp only;refine⟨_,rfl,_,rfl,t,_,rfl,.inr (aX.of (s' _ _ ht)),rfl,xx cs,_,rfl,?_⟩;show if(!inV (.int e.1) (cs.map V.int))=true then _ else _
  rw[N3];by_cases k:e.1∈cs
  ·rw[X8 k];refine cK (bR ?_);obtain⟨k1,k2⟩:=E7 k;refine⟨_,rfl,.inl ⟨rfl,_,bb.of O⟩,_,rfl,⟨t,_,rfl,s' _ _ ht⟩,_,rfl,t,cs,e.1,_,rfl,rfl,aX.of (s' _ _ ht),k1,k2,_,_,rfl,rfl,_,rfl,cS,λu U=>?_⟩;have su:=ai U (.tup [.int ((cs.idxOf e.1:Nat)+1),.bl e.2]);have hLu:=su _ _ O;refine⟨L,_,_,rfl,rfl,hLu,?_,⟨_,_,rfl⟩,⟨_,ae,?_⟩,bg hL (s'.trans su),take_all z he (X8 k)⟩
   ·rw[←hX.length,X9,X9,Yv];exact Yb (X6 (Nat.min_le_right _ _) hz) (by decide)
   ·rw[take_one he,Ya,Ya];refine aK.b_ (KS.dP hLu) ?_ ((hX.same su).append (aK.cons (yn (aX.of ae)) aK.nil));rw[←Ya];exact Aa _
  ·rw[X7 k];refine cJ ⟨_,rfl,L,_,rfl,.inl ⟨bb.of O,λu U=>q _ _ (s'.trans (ai U _)) ?_⟩⟩;rw[lS,Bm z he (X7 k)];exact cY ae (hX.same (ai U _))
 ·rintro σ H' ⟨⟨o3,o4,rfl⟩,⟨xs,O,hX⟩,s',z⟩;rw[hl,YJ]at z hX;refine⟨_,rfl,L,_,rfl,.inl ⟨bb.of O,λu U=>q _ _ (s'.trans (ai U _)) ?_⟩⟩;rw[lS,yT z];exact cY ae (hX.same (ai U _))
def withOther(o l:Od):Od:=o++l.filter λe=>decide (e.1∉o.map λe=>e.1)
inductive Ma(K:YY)(vs:List V)(H:Hp)(Q:VK)(E:XK):Prop
 |mk (v w:V) (o l:Od) (_:vs=[v,w]) (_:a_ K H (dO o) v) (_:a_ K H (dO l) w) (_:o.length<=1000) (_:l.length<=1000) (_:∀u H',aH H H'->a_ K H' (dO (withOther o l)) u->Q u H'):Ma K vs H Q E
abbrev eP:Stmt:=top 57
theorem gj:ax ["order","later","columns"] ["order","later"] (aq eP):=fs
theorem Ce(B:j_ mg)(F:FA K mg "with_other_columns" eP) :
  bz bx P w K mg base 1 "with_other_columns" ["order","later"] (Ma K):=by
 refine F.ok gj λf cdv A outer s H vs Q E hr h=>?_;have hu:=fJ hr;obtain⟨v,w',o,l,rfl,ho,hl,hz1,hz2,q⟩:=h;refine⟨_,(ao (aU (i:=2) gj.nd rfl (Or.inr rfl) (bM (N':=["column","greatest_first"]) (src:=[none,none]) rfl (bq.jN (by kernel_rfl)) (cP (pv 0)) (g:=(n4 K 2 (cQ (b9 0) (cQ (b9 1) pC)))) (λcl C s H fp=>(bU rfl (ar (gg (i:=0)) (ar (gg (i:=1)) bF)))) (λcl C s H fp=>bD) (te:=(br 0)) (λcl C s H fp=>(gK 0))))
   (ay (aL AH (pv 0) (bA bu rfl B.tuple YM (aa (bM (N':=["entry","columns"]) (src:=[none,some 2]) rfl (bq.jN (by kernel_rfl)) (cP (pv 1)) (λcl C s H fp=>(gg (i:=0))) (tc:=(gD (eC (F8 K true) (eC (jt K) (br 0) (tC (.int 0))) (br 1)))) (λcl C s H fp=>dX (eU ie (aJ K (gK 0) aj) (oH 1) rfl)) (te:=(br 0)) (λcl C s H fp=>(gK 0))) ag))))),?_⟩
 obtain⟨a,ws,rfl,hS,hD⟩:=ja ho;obtain⟨b,zs,rfl,hS2,U⟩:=ja hl;have l1:=i3 hD;have l2:=i3 U;refine⟨_,rfl,a,rfl,⟨_,hS⟩,λC hC=>?_⟩;refine c_ (xs:=ws) (λi σ ys H'=>(∃o1 o2,σ=[o1,o2])/\ys=((o.take i).map λe=>e.1).map V.int/\ys.length=i/\H' C=some (.lst ys)/\aH H H') ⟨⟨none,none,rfl⟩,rfl,rfl,ae,ai hC _⟩ ?_ ?_ ?_ ?_ ?_
 ·rintro i σ ys H' _ ⟨_,_,hi,h,_⟩;exact⟨h,YR hi⟩
 ·rintro i σ ys H' _ ⟨_,_,_,_,sm⟩;exact sm.fA hS
 ·rw[l1];exact X6 hz1 (by decide)
 ·rintro i x σ ys H' hx ⟨⟨o1,o2,rfl⟩,rfl,hi,h,sm⟩;obtain⟨e,c,he,rfl,hc⟩:=iU hD hx;refine⟨c,_,rfl,sm.fA hc,rfl,_,_,rfl,ak ⟨_,_,rfl,ak ⟨rfl,?_⟩⟩⟩;refine⟨_,rfl,h,⟨_,_,rfl⟩,?_,?_,ae,bg hC sm⟩
  ·rw[List.take_add_one,he,Ya,Ya];rfl
  ·rw[X_,hi];rfl
 rintro σ ys H1 ⟨_,rfl,_,h,sm⟩;rw[l1,YJ]at h;refine ak ?_;dsimp only;refine⟨_,rfl,_,rfl,b,rfl,⟨_,sm.fA hS2⟩,λC2 Tv=>?_⟩;refine c_ (xs:=zs) (λi σ ys H'=>(∃o1,σ=[o1,some (.ref C)])/\aK K H1 (((l.take i).filter λe=>decide (e.1∉o.map λe=>e.1)).map dE) ys/\ys.length<=i/\H' C2=some (.lst ys)/\aH H1 H') ⟨⟨none,rfl⟩,aK.nil,X5 _,ae,ai Tv _⟩ ?_ ?_ ?_ ?_ ?_
 ·rintro i σ ys H' _ ⟨_,_,hi,h,_⟩;exact⟨h,hi⟩
 ·rintro i σ ys H' _ ⟨_,_,_,_,O⟩;exact(sm.trans O).fA hS2
 ·rw[l2];exact X6 hz2 (by decide)
 ·rintro i x σ ys H' hx ⟨⟨o1,rfl⟩,hY,hi,h2,O⟩;obtain⟨e,c,he,rfl,hc⟩:=iU U hx;refine ak ?_;refine⟨_,rfl,c,_,0,_,rfl,rfl,(sm.trans O).fA hc,az (j:=0) rfl,_,rfl,C,_,rfl,.inl (bb.of (O _ _ h)),rfl,xx _,_,rfl,?_⟩;show if(!inV (.int e.1) ((o.map λe=>e.1).map V.int))=true then _ else _
  rw[N3];by_cases k:e.1∈o.map λe=>e.1
  ·rw[X8 k];refine cK ⟨⟨_,rfl⟩,?_,Nat.le_succ_of_le hi,h2,O⟩;rw[take_one he,List.filter_append,List.filter_cons_of_neg (by rw[decide_eq_true_eq];exact λz=>z k)];simpa using hY
  ·rw[X7 k];refine cJ ⟨_,rfl,h2,⟨_,rfl⟩,?_,?_,ae,bg Tv O⟩
   ·rw[take_one he,List.filter_append,Ya,List.filter_cons_of_pos (by rw[decide_eq_true_eq];exact k)];exact hY.append (aK.cons (yn (sm.fA hc)) aK.nil)
   ·rw[X_];exact Nat.succ_le_succ hi
 rintro σ ys H2 ⟨_,hY,hi,h2,O⟩;rw[l2,YJ]at hY;refine⟨C2,_,rfl,.inl ⟨bb.of h2,λu hu=>?_⟩⟩;have su:=ai hu (.tup ys);have s2:=O.trans su;refine⟨a,u,_,_,rfl,rfl,(sm.trans s2).fA hS,aX.of ae,?_,λt H' st ht=>q _ _ ((sm.trans s2).trans st) ?_⟩
 ·rw[l1];exact X6 (show o.length+ys.length<=2000 by omega) (by decide)
 ·refine rm ht ?_;rw[withOther,Ya];exact(hD.same ((sm.trans s2).trans st)).append (hY.same (s2.trans st))
def l6(m:Option Int)(n:Int):Int:=match m with
 |none=>n
 |some k=>if n<k then n else k
inductive v5(vs:List V)(H:Hp)(Q:VK)(E:XK):Prop
 |mk (m:Option Int) (n:Int) (_:vs=[mV m,.int n]) (_:Q (.int (l6 m n)) H):v5 vs H Q E
abbrev uQ:Stmt:=top 58
theorem Dy:ax ["most","many"] ["most","many"] (aq uQ):=fs
theorem DI(z:nM mg)(F:FA K mg "least" uQ) :
  bz bx P w K mg base 1 "least" ["most","many"] v5:=by
 refine F.ok Dy λf cdv A outer s H vs Q E O h=>?_;obtain⟨m,n,rfl,q⟩:=h;refine⟨_,(ay (jx (ba m4 (pv 0) dk) (pv 1) (aP (pR rfl) rfl z.min PyProof.Rows.boot_min (aa (pv 0) (aa (pv 1) ag))))),?_⟩;refine⟨_,rfl,rfl,_,rfl,?_⟩;cases m with
 |none=>exact cJ ⟨_,rfl,q⟩
 |some k=>exact cK ⟨_,rfl,_,rfl,_,_,rfl,q⟩
def allIn(cs:List Int)(w:Nat):Bool:=(List.range w).all λi=>decide ((1:Int)+i∈cs)
def IV:W1->Kf->Nat->Kf
 | .keep ..,k,_=>⟨k.od,k.mo,false⟩
 | .same ..,k,_=>⟨k.od,k.mo,false⟩
 | .cut cs,k,w=>⟨lS k.od cs,k.mo,k.un&&allIn cs w⟩
 | .turn c _,k,_=>⟨da k.od c,k.mo,false⟩
 | .must c _,k,_=>⟨da k.od c,k.mo,false⟩
 | .walk ..,k,_=>k
 | .sort o,k,_=>⟨withOther o k.od,k.mo,false⟩
 | .apart,k,_=>⟨k.od,k.mo,true⟩
 | .count cs,k,_=>⟨lS k.od cs,k.mo,true⟩
 | .sum cs _,k,_=>⟨lS k.od cs,k.mo,true⟩
 | .number,k,w=>⟨k.od++[((w:Int)+1,false)],k.mo,true⟩
 | .first n,k,_=>⟨k.od,some (l6 k.mo n),k.un⟩
inductive jm(K:YY)(ok:W1->Prop)(vs:List V)(H:Hp)(Q:VK)(E:XK):Prop
 |mk (a:Addr) (x:W1) (v e:V) (k:Kf) (w:Nat) (_:vs=[.ref a,v,.int (w:Nat),e]) (_:h_ H a x) (_:ok x) (_:m9 x) (_:a_ K H (dF k) v) (_:k.od.length<=1000) (_:w<=1000) (_:∀u H',aH H H'->a_ K H' (dF (IV x k w)) u->Q u H'):jm K ok vs H Q E
theorem eL{K:YY}{k k':W1->Prop}(h:∀x,k' x->k x):∀vs H Q E,jm K k' vs H Q E->jm K k vs H Q E:=by rintro vs H Q E ⟨a,x,v,e,z,w,h1,h2,h3,h4,h5,h6,h7,h8⟩;exact⟨a,x,v,e,z,w,h1,h2,h x h3,h4,h5,h6,h7,h8⟩
section
variable{K:YY}{H:Hp}
theorem kR{u:Addr}{t:V}{o:Od}{m:Option Int}{b:Bool}(O:H u=none)(z:a_ K H (dO o) t):a_ K (upd H u (.tup [t,mV m,.bl b])) (dF ⟨o,m,b⟩) (.ref u):=FC (aX.of ae) (z.same (ai O _))
end
def Eg(x:W1):Prop:=(∃c t,x=.keep c t)\/∃c d,x=.same c d
abbrev jh:Stmt:=top 59
theorem fR:ax ZJ Z9 (aq jh):=fs
theorem DV(F:FA K mg "behind_test" jh) :
  bz bx P w K mg base 1 "behind_test" Z9 (jm K Eg):=by
 refine F.ok fR λf cdv A outer s H vs Q E U h=>?_;have z:=fJ U;obtain⟨a,x,v,e,k,w,rfl,ha,ho,hs,hk,hz,hw,q⟩:=h;refine⟨_,(ao (c8 (pv 1) (bU rfl (ar (aQ (i:=4) fR.nd rfl (YI rfl)) (ar (aQ (i:=5) fR.nd rfl (YI rfl)) (ar (aQ (i:=6) fR.nd rfl (YI rfl)) bF)))))
   (ay (aW (aa (pv 4) (aa (pv 5) (aa cR ag)))))),?_⟩
 obtain⟨b,t,rfl,hb,O⟩:=lC hk;refine⟨_,rfl,b,_,rfl,hb,rfl,_,_,rfl,ak ⟨_,_,rfl,ak ⟨_,_,rfl,ak ⟨rfl,?_⟩⟩⟩⟩;dsimp only;refine⟨_,rfl,_,rfl,cz,λu z=>q _ _ (ai z _) ?_⟩;rcases ho with⟨c,t',rfl⟩|⟨c,d,rfl⟩
 ·exact kR z O
 ·exact kR z O
def Kg(x:W1):Prop:=(∃c ps,x=.turn c ps)\/∃c ps,x=.must c ps
abbrev g_:Stmt:=top 61
theorem eV:ax ZJ Z9 (aq g_):=fs
theorem HG(F:FA K mg "behind_change" g_)
  (tL:bz bx P w K mg base 1 "order_ahead" ["order","column"] (Lr K)) :
  bz bx P w K mg base 2 "behind_change" Z9 (jm K Kg):=by
 refine F.ok eV λf cdv A outer s H vs Q E U h=>?_;have hu:=fJ U;obtain⟨a,x,v,e,k,w,rfl,ha,ho,hs,hk,hz,hw,q⟩:=h;refine⟨_,(ao (c8 (pv 1) (bU rfl (ar (aQ (i:=4) eV.nd rfl (YI rfl)) (ar (aQ (i:=5) eV.nd rfl (YI rfl)) (ar (aQ (i:=6) eV.nd rfl (YI rfl)) bF)))))
   (ay (aW (aa (aG tL U (aa (pv 4) (aa (aJ K (pv 0) aj) ag))) (aa (pv 5) (aa cR ag)))))),?_⟩
 obtain⟨b,t,rfl,hb,ht⟩:=lC hk;refine⟨_,rfl,b,_,rfl,hb,rfl,_,_,rfl,ak ⟨_,_,rfl,ak ⟨_,_,rfl,ak ⟨rfl,?_⟩⟩⟩⟩;dsimp only;rcases ho with⟨c,ps,rfl⟩|⟨c,ps,rfl⟩
 ·obtain⟨t',bs,h1,_⟩:=ha;exact⟨_,rfl,_,rfl,a,_,1,_,rfl,rfl,aX.of h1,rfl,t,k.od,c,rfl,ht,hz,λu H' s' z=>⟨_,rfl,cz,λp O=>q _ _ (s'.trans (ai O _)) (kR O z)⟩⟩
 ·obtain⟨t',bs,h1,_⟩:=ha;exact⟨_,rfl,_,rfl,a,_,1,_,rfl,rfl,aX.of h1,rfl,t,k.od,c,rfl,ht,hz,λu H' s' z=>⟨_,rfl,cz,λp O=>q _ _ (s'.trans (ai O _)) (kR O z)⟩⟩
theorem EA{K:YY}{H:Hp}{t:Addr}{bs:Z6}{cs:Od}(h:cn Jr H t bs cs):a_ K H (dO cs) (.ref t):=by refine cY h.tup (aK.of (by rw[X9,X9,h.len]) λi d v z U=>?_);obtain⟨a,e,rfl,O,e4⟩:=h.get U;rw[Yu,O]at z;cases z;exact yn (aX.of e4)
abbrev i8:Stmt:=top 62
theorem fL:ax ZJ Z9 (aq i8):=fs
theorem F4(F:FA K mg "behind_sort" i8)
  (kB:bz bx P w K mg base 1 "with_other_columns" ["order","later"] (Ma K)) :
  bz bx P w K mg base 2 "behind_sort" Z9 (jm K wb):=by
 refine F.ok fL λf cdv A outer s H vs Q E O h=>?_;have hu:=fJ O;obtain⟨a,x,v,e,k,w,rfl,ha,ho,hs,hk,hz,hw,q⟩:=h;refine⟨_,(ao (c8 (pv 1) (bU rfl (ar (aQ (i:=4) fL.nd rfl (YI rfl)) (ar (aQ (i:=5) fL.nd rfl (YI rfl)) (ar (aQ (i:=6) fL.nd rfl (YI rfl)) bF)))))
   (ay (aW (aa (aG kB O (aa (aJ K (pv 0) aj) (aa (pv 4) ag))) (aa (pv 5) (aa cR ag)))))),?_⟩
 obtain⟨b,t,rfl,hb,ht⟩:=lC hk;refine⟨_,rfl,b,_,rfl,hb,rfl,_,_,rfl,ak ⟨_,_,rfl,ak ⟨_,_,rfl,ak ⟨rfl,?_⟩⟩⟩⟩;dsimp only;obtain⟨cs,rfl⟩:=ho;obtain⟨t',bs,h1,hI⟩:=ha;exact⟨_,rfl,a,_,1,_,rfl,rfl,aX.of h1,rfl,_,rfl,.ref t',t,cs,k.od,rfl,EA hI,ht,hs,hz,λu H' s' z=>⟨_,rfl,cz,λp U=>q _ _ (s'.trans (ai U _)) (kR U z)⟩⟩
def AS(x:W1):Prop:=x=.apart
abbrev iF:Stmt:=top 63
theorem ft:ax ZJ Z9 (aq iF):=fs
theorem Cw(F:FA K mg "behind_apart" iF) :
  bz bx P w K mg base 1 "behind_apart" Z9 (jm K AS):=by
 refine F.ok ft λf cdv A outer s H vs Q E O h=>?_;have z:=fJ O;obtain⟨a,x,v,e,k,w,rfl,ha,ho,hs,U,hz,hw,q⟩:=h;refine⟨_,(ao (c8 (pv 1) (bU rfl (ar (aQ (i:=4) ft.nd rfl (YI rfl)) (ar (aQ (i:=5) ft.nd rfl (YI rfl)) (ar (aQ (i:=6) ft.nd rfl (YI rfl)) bF)))))
   (ay (aW (aa (pv 4) (aa (pv 5) (aa cR ag)))))),?_⟩
 obtain⟨b,t,rfl,hb,ht⟩:=lC U;refine⟨_,rfl,b,_,rfl,hb,rfl,_,_,rfl,ak ⟨_,_,rfl,ak ⟨_,_,rfl,ak ⟨rfl,?_⟩⟩⟩⟩;dsimp only;cases ho;exact⟨_,rfl,_,rfl,cz,λu z=>q _ _ (ai z _) (kR z ht)⟩
def Bo(x:W1):Prop:=(∃cs,x=.count cs)\/∃cs c,x=.sum cs c
abbrev iD:Stmt:=top 64
theorem fu:ax ZJ Z9 (aq iD):=fs
theorem BJ(F:FA K mg "behind_tally" iD)
  (m8:bz bx P w K mg base 1 "order_in" ["order","columns"] (IC K)) :
  bz bx P w K mg base 2 "behind_tally" Z9 (jm K Bo):=by
 refine F.ok fu λf cdv A outer s H vs Q E U h=>?_;have hu:=fJ U;obtain⟨a,x,v,e,k,w,rfl,ha,ho,hs,hk,hz,hw,q⟩:=h;refine⟨_,(ao (c8 (pv 1) (bU rfl (ar (aQ (i:=4) fu.nd rfl (YI rfl)) (ar (aQ (i:=5) fu.nd rfl (YI rfl)) (ar (aQ (i:=6) fu.nd rfl (YI rfl)) bF)))))
   (ay (aW (aa (aG m8 U (aa (pv 4) (aa (aJ K (pv 0) aj) ag))) (aa (pv 5) (aa cR ag)))))),?_⟩
 obtain⟨b,t,rfl,hb,ht⟩:=lC hk;refine⟨_,rfl,b,_,rfl,hb,rfl,_,_,rfl,ak ⟨_,_,rfl,ak ⟨_,_,rfl,ak ⟨rfl,?_⟩⟩⟩⟩;dsimp only;rcases ho with⟨cs,rfl⟩|⟨cs,c,rfl⟩
 ·obtain⟨t',h1,h2⟩:=ha;exact⟨_,rfl,_,rfl,a,_,1,_,rfl,rfl,aX.of h1,rfl,t,t',k.od,cs,rfl,ht,h2,hz,λu H' s' z=>⟨_,rfl,cz,λp O=>q _ _ (s'.trans (ai O _)) (kR O z)⟩⟩
 ·obtain⟨t',h1,h2⟩:=ha;exact⟨_,rfl,_,rfl,a,_,1,_,rfl,rfl,aX.of h1,rfl,t,t',k.od,cs,rfl,ht,h2,hz,λu H' s' z=>⟨_,rfl,cz,λp O=>q _ _ (s'.trans (ai O _)) (kR O z)⟩⟩
def yd(x:W1):Prop:=x=.number
abbrev gU:Stmt:=top 65
theorem eW:ax ZJ Z9 (aq gU):=fs
theorem Ay(F:FA K mg "behind_number" gU) :
  bz bx P w K mg base 1 "behind_number" Z9 (jm K yd):=by
 refine F.ok eW λf cdv A outer s H vs Q E hr h=>?_;obtain⟨a,x,v,e,k,w,rfl,ha,ho,hs,hk,hz,hw,q⟩:=h;refine⟨_,(ao (c8 (pv 1) (bU rfl (ar (aQ (i:=4) eW.nd rfl (YI rfl)) (ar (aQ (i:=5) eW.nd rfl (YI rfl)) (ar (aQ (i:=6) eW.nd rfl (YI rfl)) bF)))))
   (ay (aW (aa (aL AH (pv 4) (aW (aa (aW (aa (aL cw (pv 2) aj) (aa cR ag))) ag))) (aa (pv 5) (aa cR ag)))))),?_⟩
 obtain⟨b,t,rfl,hb,ht⟩:=lC hk;refine⟨_,rfl,b,_,rfl,hb,rfl,_,_,rfl,ak ⟨_,_,rfl,ak ⟨_,_,rfl,ak ⟨rfl,?_⟩⟩⟩⟩;dsimp only;cases ho;obtain⟨c,ws,rfl,hS,hD⟩:=ja ht;refine⟨_,rfl,_,rfl,_,_,rfl,rfl,cS,λp1 U=>⟨eG,λp2 O=>?_⟩⟩;have s1:=ai U (.tup [.int ((w:Int)+1),.bl false]);have s2:=ai O (.tup [.ref p1]);have z:=s1.trans s2;refine⟨c,p2,_,_,rfl,rfl,z.fA hS,aX.of ae,?_,λt2 H' s' De=>⟨_,rfl,cz,λp hp=>q _ _ ((z.trans s').trans (ai hp _)) (kR hp ?_)⟩⟩
 ·rw[i3 hD];exact X6 (Nat.succ_le_succ hz) (by decide)
 ·refine rm De ?_;rw[Ya];exact(hD.same (z.trans s')).append (aK.cons (yn ((s2.trans s').fA (aX.of ae))) aK.nil)
def AM(x:W1):Prop:=∃n,x=.first n
abbrev iw:Stmt:=top 66
theorem fz:ax ZJ Z9 (aq iw):=fs
theorem CH(F:FA K mg "behind_first" iw)
  (Hh:bz bx P w K mg base 1 "least" ["most","many"] v5) :
  bz bx P w K mg base 2 "behind_first" Z9 (jm K AM):=by
 refine F.ok fz λf cdv A outer s H vs Q E O h=>?_;obtain⟨a,x,v,e,k,w,rfl,ha,ho,hs,U,hz,hw,q⟩:=h;refine⟨_,(ao (c8 (pv 1) (bU rfl (ar (aQ (i:=4) fz.nd rfl (YI rfl)) (ar (aQ (i:=5) fz.nd rfl (YI rfl)) (ar (aQ (i:=6) fz.nd rfl (YI rfl)) bF)))))
   (ay (aW (aa (pv 4) (aa (aG Hh O (aa (pv 5) (aa (aJ K (pv 0) aj) ag))) (aa (pv 6) ag)))))),?_⟩
 obtain⟨b,t,rfl,hb,ht⟩:=lC U;refine⟨_,rfl,b,_,rfl,hb,rfl,_,_,rfl,ak ⟨_,_,rfl,ak ⟨_,_,rfl,ak ⟨rfl,?_⟩⟩⟩⟩;dsimp only;obtain⟨n,rfl⟩:=ho;exact⟨_,rfl,_,rfl,_,rfl,a,_,1,_,rfl,rfl,aX.of (show H a=_ from ha),rfl,k.mo,n,rfl,_,rfl,cz,λp z=>q _ _ (ai z _) (kR (m:=some (l6 k.mo n)) z ht)⟩
def J5(x:W1):Prop:=∃cs,x=.cut cs
abbrev jY:Stmt:=top 60
theorem fj:ax ["worker","known","wide","ends","order","most","unlike","all_there"] Z9 (aq jY):=fs
theorem Jx(B:j_ mg)(B2:nM mg)(F:FA K mg "behind_cut" jY)
  (m8:bz bx P w K mg base 1 "order_in" ["order","columns"] (IC K)) :
  bz bx P w K mg base 2 "behind_cut" Z9 (jm K J5):=by
 refine F.ok fj λf cdv A outer s H vs Q E hr h=>?_;have hu:=fJ hr;obtain⟨a,x,v,e,k,w,rfl,ha,ho,hs,hk,hz,hw,q⟩:=h;refine⟨_,(ao (c8 (pv 1) (bU rfl (ar (aQ (i:=4) fj.nd rfl (YI rfl)) (ar (aQ (i:=5) fj.nd rfl (YI rfl)) (ar (aQ (i:=6) fj.nd rfl (YI rfl)) bF)))))
   (ao (aU (i:=7) fj.nd rfl (YI rfl) (aP (ip rfl) rfl B2.all PyProof.Rows.boot_all (aa (bM (N':=["column","worker"]) (src:=[none,some 0]) rfl (bq.jN (by kernel_rfl)) (oY rfl B.range (aa aj (aa (aL cw (pv 2) aj) ag))) (λcl C s H fp=>(gg (i:=0))) (λcl C s H fp=>bD) (te:=(eC (F8 K false) (br 0) (eC (jt K) (br 1) (tC (.int 1))))) (λcl C s H fp=>(jO dz (gK 0) (aJ K (oH 1) aj) rfl))) ag)))
   (ay (aW (aa (aG m8 hr (aa (pv 4) (aa (aJ K (pv 0) aj) ag))) (aa (pv 5) (aa (kK (pv 6) (jq (pv 7))) ag))))))),?_⟩
 obtain⟨b,t,rfl,U,ht⟩:=lC hk;refine⟨_,rfl,b,_,rfl,U,rfl,_,_,rfl,ak ⟨_,_,rfl,ak ⟨_,_,rfl,ak ⟨rfl,?_⟩⟩⟩⟩;dsimp only;obtain⟨cs,rfl⟩:=ho;obtain⟨t',h1,h2⟩:=ha;have hn:((w:Int)+1-1).toNat=w:=by omega
 refine⟨_,rfl,_,_,rfl,rfl,1,(w:Int)+1,rfl,⟨by decide,by decide,?_,?_⟩,λD hD=>?_⟩
 ·have e:((2:Int) ^ 62)=4611686018427387904:=by decide
  rw[e];omega
 ·have e:((2:Int) ^ 62)=4611686018427387904:=by decide
  rw[e];omega
 rw[hn];refine eT (lo:=1) (n:=w) (λi σ ys H'=>(∃o,σ=[o,some (.ref a)])/\ys=((List.range i).map λ(i:Nat)=>decide ((1:Int)+i∈cs)).map V.bl/\ys.length=i/\H' D=some (.lst ys)/\aH H H') ⟨⟨none,rfl⟩,rfl,rfl,ae,ai hD _⟩ ?_ ?_ ?_ ?_
 ·rintro i σ ys H' _ ⟨_,_,hi,h,_⟩;exact⟨h,YR hi⟩
 ·exact X6 hw (by decide)
 ·rintro i σ ys H' _ ⟨⟨o,rfl⟩,rfl,hi,h,sm⟩;refine ak ?_;refine⟨_,rfl,_,rfl,a,_,1,_,rfl,rfl,aX.of (sm _ _ h1),rfl,t',_,rfl,.inr (aX.of (sm _ _ h2)),rfl,xx cs,h,⟨_,rfl⟩,?_,?_,ae,bg hD sm⟩
  ·rw[List.range_succ,Ya,Ya];show _++[V.bl (inV (.int (1+(i:Int))) (cs.map V.int))]=_;rw[N3];rfl
  ·rw[X_,hi];rfl
 rintro σ ys H1 ⟨_,rfl,_,h,sm⟩;refine⟨D,_,rfl,bb.of h,ak ?_⟩;dsimp only;have ea:(List.map (λ(i:Nat)=>decide ((1:Int)+i∈cs)) (List.range w)).all id=allIn cs w:=by rw[List.all_map];rfl
 rw[ea];refine⟨_,rfl,_,rfl,a,_,1,_,rfl,rfl,aX.of (sm _ _ h1),rfl,t,t',k.od,cs,rfl,ht.same sm,sm _ _ h2,hz,λu H' s' O=>⟨_,rfl,?_⟩⟩;have z:∀b,b=(k.un&&allIn cs w)->cz=cz->3<=sizeLine/\∀p,H' p=none->Q (.ref p) (upd H' p (.tup [u,mV k.mo,.bl b])):=λb U _=>by subst U;exact⟨cz,λp hp=>q _ _ ((sm.trans s').trans (ai hp _)) (kR hp O)⟩
 refine⟨_,rfl,_,rfl,?_⟩;refine fY (λc=>?_) λc=>?_
 ·rw[c,Bool.true_and]at z;exact⟨_,rfl,z _ rfl rfl⟩
 ·rw[Yn.mpr c,Bool.false_and]at z;exact z _ rfl rfl
def m3:Kf:=⟨[],none,false⟩
def LP(f:Int->Int->Int):Option Int->Option Int->Option Int
 |some a,some b=>some (f a b)
 |_,_=>none
def Ny(x:Wk)(k:Kf)(w:Nat)(es:List Kf):Kf:=match x with
 | .one x=>IV x k w
 | .both ..=>⟨[],LP (λa b=>a+b) (es.getD 0 m3).mo (es.getD 1 m3).mo,false⟩
 | .meet ..=>⟨(es.getD 0 m3).od,LP (λa b=>a*b) (es.getD 0 m3).mo (es.getD 1 m3).mo,false⟩
abbrev HK:=Hd×Kf
abbrev Ak:=List (List Int×HK)
def Qa(h:Hd):List Hd->List Hd
 |[]=>[h]
 |hs=>hs
def mr:Nat->HK->Wk->HK
 | 0,s,x=>(bc x [s.1],Ny x s.2 s.1.length [])
 |n+1,s,x=>(bc x (Qa s.1 ((cm x).map λp=>(p.foldl (mr n) s).1)),Ny x s.2 s.1.length ((cm x).map λp=>(p.foldl (mr n) s).2))
abbrev cT(n:Nat)(s:HK)(ws:List Wk):HK:=ws.foldl (mr n) s
def RS(n:Nat)(tr:HK->List Int->Wk->Ak)(pl:List Int):Nat->HK->List Wk->Ak
 |i,s,[]=>[(pl++[(i:Int)],s)]
 |i,s,x::ws=>(pl++[(i:Int)],s)::(tr s (pl++[(i:Int)]) x++RS n tr pl (i+1) (mr n s x) ws)
def oA(n:Nat)(tr:HK->List Int->Wk->Ak)(s:HK)(pl:List Int):Nat->List (List Wk)->Ak
 |_,[]=>[]
 |j,p::ps=>RS n tr (pl++[(j:Int)]) 0 s p++oA n tr s pl (j+1) ps
def gw:Nat->HK->List Int->Wk->Ak
 | 0,_,_,_=>[]
 |n+1,s,pl,x=>oA n (gw n) s pl 0 (cm x)
abbrev AL(n:Nat)(pl:List Int)(i:Nat)(s:HK)(ws:List Wk):Ak:=RS n (gw n) pl i s ws
theorem jS{n:Nat}{pl:List Int}{x:Wk}:∀{ws:List Wk}{i:Nat}{s:HK},AL n pl i s (ws++[x])=AL n pl i s ws++(gw n (cT n s ws) (pl++[((i+ws.length:Nat):Int)]) x++[(pl++[((i+(ws.length+1):Nat):Int)],cT n s (ws++[x]))])
 |[],i,s=>rfl
 |y::ws,i,s=>by show _::(gw n s _ y++AL n pl (i+1) (mr n s y) (ws++[x]))=_::(gw n s _ y++AL n pl (i+1) (mr n s y) ws)++_;rw[jS (ws:=ws),YB,show i+1+ws.length=i+(ws.length+1) by omega,show i+1+(ws.length+1)=i+(ws.length+1+1) by omega];simp
def AF(n:Nat)(pl:List Int)(s:HK)(ws:List Wk):Ak:=(AL n pl 0 s ws).dropLast
theorem uT{n:Nat}{pl:List Int}:∀{ws:List Wk}{i:Nat}{s:HK},AL n pl i s ws=(AL n pl i s ws).dropLast++[(pl++[((i+ws.length:Nat):Int)],cT n s ws)]
 |[],i,s=>rfl
 |y::ws,i,s=>by have z:=uT (n:=n) (pl:=pl) (ws:=ws) (i:=i+1) (s:=mr n s y);show(pl++[(i:Int)],s)::(gw n s _ y++AL n pl (i+1) (mr n s y) ws)=((pl++[(i:Int)],s)::(gw n s _ y++AL n pl (i+1) (mr n s y) ws)).dropLast++_;rw[z,←List.append_assoc,←List.cons_append,List.dropLast_concat,YB,show i+1+ws.length=i+(ws.length+1) by omega];rfl
theorem Jq{n:Nat}{pl:List Int}{x:Wk}{ws:List Wk}{s:HK}:AF n pl s (ws++[x])=AL n pl 0 s ws++gw n (cT n s ws) (pl++[((ws.length:Nat):Int)]) x:=by unfold AF;rw[jS,←List.append_assoc,List.dropLast_concat,Nat.zero_add]
theorem se{n:Nat}{pl:List Int}{ws:List Wk}{s:HK}:AL n pl 0 s ws=AF n pl s ws++[(pl++[((ws.length:Nat):Int)],cT n s ws)]:=by
 conv=>lhs;rw[uT,Nat.zero_add]
 rfl
theorem qY{n:Nat}{pl:List Int}{s:HK}{p:List Wk}:∀{ps:List (List Wk)}{j:Nat},oA n (gw n) s pl j (ps++[p])=oA n (gw n) s pl j ps++AL n (pl++[((j+ps.length:Nat):Int)]) 0 s p
 |[],j=>by show AL n _ 0 s p++[]=_;rw[YO];rfl
 |q::ps,j=>by show _++oA n (gw n) s pl (j+1) (ps++[p])=(_++oA n (gw n) s pl (j+1) ps)++_;rw[qY,List.append_assoc,YB,show j+1+ps.length=j+(ps.length+1) by omega]
abbrev GO(e:List Int×Hd×Bool):List Int×Hd:=(e.1,e.2.1)
abbrev Ff(e:List Int×HK):List Int×Hd:=(e.1,e.2.1)
theorem rk{n:Nat}{s:HK}{pl:List Int}{x:W1}:gw n s pl (.one x)=[]:=by cases n<;>rfl
theorem zu{n:Nat}{s:HK}{x:W1}:mr n s (.one x)=(bc (.one x) [s.1],IV x s.2 s.1.length):=by cases n<;>rfl
theorem zV{x:Wk}{h h':Hd}{f f':Fl}{pl:List Int}{es:List (Hd×Fl)}(e:m7 x h f pl es=.ok h' f'):h'=bc x (es.map λe=>e.1):=by
 unfold m7 at e;split at e
 ·cases e
 ·cases e;rfl
def MV(n:Nat):Prop:=∀(k:Kf)(h h':Hd)(f f':Fl)(pl:List Int)(x:Wk),bY n h f pl x=.ok h' f'->(Dh n h f pl x).map GO=(gw n (h,k) pl x).map Ff/\(mr n (h,k) x).1=h'
theorem Ec{n:Nat}(W:MV n){pl:List Int}:∀{ws:List Wk}{k:Kf}{i:Nat}{h h':Hd}{f f':Fl},putL (bY n) pl i h f ws=.ok h' f'->(TL n pl i h f ws).map GO=(AL n pl i (h,k) ws).map Ff/\(cT n (h,k) ws).1=h'
 |[],k,i,h,h',f,f',e=>by cases e;exact⟨rfl,rfl⟩
 |x::ws,k,i,h,h',f,f',e=>by
  have e:hZ (bY n h f (pl++[(i:Int)]) x) (λh' f'=>putL (bY n) pl (i+1) h' f' ws)=.ok h' f':=e;rw[AI];cases ep:bY n h f (pl++[(i:Int)]) x with
  |no a s=>rw[ep]at e;cases e
  |ok h2 f2 =>
   rw[ep]at e;obtain⟨w1,w2⟩:=W k _ _ _ _ _ _ ep;have es:mr n (h,k) x=(h2,(mr n (h,k) x).2):=Prod.ext w2 rfl;obtain⟨z,O⟩:=Ec W (k:=(mr n (h,k) x).2) (i:=i+1) e;refine⟨?_,?_⟩
   ·show(_::(_++TL n pl (i+1) h2 f2 ws)).map GO=(_::(_++AL n pl (i+1) (mr n (h,k) x) ws)).map Ff;rw[es,YT,YT,Ya,Ya,w1,z]
   ·show(cT n (mr n (h,k) x) ws).1=h';rw[es];exact O
theorem Ka{n:Nat}(W:MV n){x:Wk}{h h':Hd}{k:Kf}{f f':Fl}{pl:List Int}:∀{ps:List (List Wk)}{j:Nat}{es:List (Hd×Fl)},uJ (bY n) x h f pl ps j es=.ok h' f'->(Dg (bY n) (Dh n) h f pl ps j).map GO=(oA n (gw n) (h,k) pl j ps).map Ff/\h'=bc x (es.map (λe=>e.1)++ps.map λp=>(cT n (h,k) p).1)
 |[],j,es,e=>⟨rfl,by rw[List.map_nil,YO];exact zV e⟩
 |p::ps,j,es,e=>by
  have e:hZ (putL (bY n) (pl++[(j:Int)]) 0 h f p) (λh' f'=>uJ (bY n) x h f pl ps (j+1) (es++[(h',f')]))=.ok h' f':=e;rw[xg];cases ep:putL (bY n) (pl++[(j:Int)]) 0 h f p with
  |no a s=>rw[ep]at e;cases e
  |ok h2 f2 =>
   rw[ep]at e;obtain⟨O,U⟩:=Ec W (k:=k) ep;obtain⟨z,b2⟩:=Ka W e;refine⟨?_,?_⟩
   ·show(_++Dg (bY n) (Dh n) h f pl ps (j+1)).map GO=(_++oA n (gw n) (h,k) pl (j+1) ps).map Ff;rw[Ya,Ya,O,z]
   ·rw[b2,Ya,YT,List.map_nil,←U,List.append_assoc];rfl
theorem J8:∀n,MV n
 | 0,k,h,h',f,f',pl,x,e=>⟨rfl,(zV (es:=[(h,f)]) e).symm⟩
 |n+1,k,h,h',f,f',pl,x,e=>by
  have z:∀{p q:List Wk},cm x=[p,q]->bY (n+1) h f pl x=uJ (bY n) x h f pl (cm x) 0 []->(Dh (n+1) h f pl x).map GO=(gw (n+1) (h,k) pl x).map Ff/\(mr (n+1) (h,k) x).1=h':=λ{p q} eb ew=>by rw[ew]at e;obtain⟨O,U⟩:=Ka (J8 n) (k:=k) e;refine⟨O,?_⟩;rw[U,eb];show bc x (Qa h ((cm x).map _))=_;rw[eb];rfl
  cases x with
  |one x=>exact⟨rfl,(zV (es:=[(h,f)]) e).symm⟩
  |both p q=>exact z rfl rfl
  |meet c d p q=>exact z rfl rfl
theorem OW{n:Nat}{h h':Hd}{f':Fl}{ws:List Wk}(e:FI n h ws=.ok h' f')(k:Kf):(TL n [] 0 h f0 ws).map GO=(AL n [] 0 (h,k) ws).map Ff:=(Ec (J8 n) e).1
end My
namespace My
open PySem L2 PySem.Spec PyProof.Rows
open Builtin.Int (intBits)
abbrev AB:List Str:=["worker","known","wide","ends"]
def Nz(P:Program)(w:World)(K:YY)(mg:Z0)(base:Heap)(aF:Addr)(x:W1):Prop :=
 (∃(f:Addr)(fd:FuncData),cM K aF x.nm f/\f_ P w K mg base bx 2 f fd AB (jm K (λy=>y=x))/\PySem.W.keepIn K (.ref f)=true/\Binds K fd AB [])\/(jy K aF x.nm/\∀k w,IV x k w=k)
variable{P:Program}{w:World}{K:YY}{mg:Z0}{base:Heap}
theorem DD{aF:Addr}{f1 f2 O f4 f5 z f7 f8:Addr}
  (t1:cM K aF "keep" f1) (Xe:cM K aF "same" f1) (t2:cM K aF "cut" f2) (t3:cM K aF "turn" O) (Vm:cM K aF "must" O) (t4:cM K aF "sort" f4) (t5:cM K aF "apart" f5) (t6:cM K aF "count" z) (WX:cM K aF "sum" z) (t7:cM K aF "number" f7) (t8:cM K aF "first" f8) (u1:jy K aF "walk")
  (G1:FnAt P w K mg base 1 f1 AB (jm K Eg)) (G2:FnAt P w K mg base 2 f2 AB (jm K J5)) (G3:FnAt P w K mg base 2 O AB (jm K Kg)) (G4:FnAt P w K mg base 2 f4 AB (jm K wb))
  (G5:FnAt P w K mg base 1 f5 AB (jm K AS)) (U:FnAt P w K mg base 2 z AB (jm K Bo)) (G7:FnAt P w K mg base 1 f7 AB (jm K yd)) (G8:FnAt P w K mg base 2 f8 AB (jm K AM)):∀x,Nz P w K mg base aF x:=by
 obtain⟨d1,G1,b1,k1⟩:=G1;obtain⟨d2,G2,b2,k2⟩:=G2;obtain⟨d3,G3,b3,k3⟩:=G3;obtain⟨d4,G4,b4,k4⟩:=G4;obtain⟨d5,G5,b5,k5⟩:=G5;obtain⟨d6,U,b6,k6⟩:=U;obtain⟨d7,G7,b7,k7⟩:=G7;obtain⟨d8,G8,b8,k8⟩:=G8;intro x;cases x with
 |keep c t=>exact .inl ⟨f1,d1,t1,(G1.imp (eL λ_ e=>.inl ⟨c,t,e⟩)).mono (by omega),k1,b1⟩
 |same c d=>exact .inl ⟨f1,d1,Xe,(G1.imp (eL λ_ e=>.inr ⟨c,d,e⟩)).mono (by omega),k1,b1⟩
 |cut cs=>exact .inl ⟨f2,d2,t2,G2.imp (eL λ_ e=>⟨cs,e⟩),k2,b2⟩
 |turn c ps=>exact .inl ⟨O,d3,t3,G3.imp (eL λ_ e=>.inl ⟨c,ps,e⟩),k3,b3⟩
 |must c ps=>exact .inl ⟨O,d3,Vm,G3.imp (eL λ_ e=>.inr ⟨c,ps,e⟩),k3,b3⟩
 |walk c mv=>exact .inr ⟨u1,λ_ _=>rfl⟩
 |sort cs=>exact .inl ⟨f4,d4,t4,G4.imp (eL λ_ e=>⟨cs,e⟩),k4,b4⟩
 |apart=>exact .inl ⟨f5,d5,t5,(G5.imp (eL λ_ e=>e)).mono (by omega),k5,b5⟩
 |count cs=>exact .inl ⟨z,d6,t6,U.imp (eL λ_ e=>.inl ⟨cs,e⟩),k6,b6⟩
 |sum cs c=>exact .inl ⟨z,d6,WX,U.imp (eL λ_ e=>.inr ⟨cs,c,e⟩),k6,b6⟩
 |number=>exact .inl ⟨f7,d7,t7,(G7.imp (eL λ_ e=>e)).mono (by omega),k7,b7⟩
 |first n=>exact .inl ⟨f8,d8,t8,G8.imp (eL λ_ e=>⟨n,e⟩),k8,b8⟩
def Gj:W1->Prop
 | .sort o=>o.length<=12
 |_=>True
theorem pf(o:Od)(cs:List Int):(lS o cs).length<=o.length:=by rw[lS,X9];exact(List.takeWhile_prefix _).length_le
theorem Ii{x:W1}{k:Kf}{w:Nat}(h:Gj x):(IV x k w).od.length<=k.od.length+13:=by
 cases x with
 |cut cs=>exact Nat.le_add_right_of_le (pf _ _)
 |count cs=>exact Nat.le_add_right_of_le (pf _ _)
 |sum cs c=>exact Nat.le_add_right_of_le (pf _ _)
 |turn c ps=>exact Nat.le_add_right_of_le (List.takeWhile_prefix _).length_le
 |must c ps=>exact Nat.le_add_right_of_le (List.takeWhile_prefix _).length_le
 |sort o =>show(o++_).length<=_;rw[X_];have:=List.length_filter_le (λe=>decide (e.1∉o.map λe=>e.1)) k.od;have h:o.length<=12:=h;omega
 |number=>show(k.od++[_]).length<=_;rw[X_];exact Nat.add_le_add_left (show 1<=13 by decide) _
 |_=>exact Nat.le_add_right _ _
theorem gz.ks{K:YY}{fd:Addr}{H H':Hp}{kvs:List (List dn×V)}(g:gz fd H H')(h:H fd=some (.dT kvs)):KS K H H':=λa ys q=>by
 rcases q with(q|⟨O,q⟩)|q
 ·exact .inl (.inl (g _ _ (λz=>by rw[z,h]at q;cases q) q))
 ·exact .inl (.inr ⟨O,g _ _ (λz=>by rw[z,h]at q;cases q) q⟩)
 ·exact .inr q
abbrev wm:=List (List dn×V)
theorem q_{kvs:wm}{k:List dn}{v:V}:(putK kvs k v).length<=kvs.length+1:=by
 unfold putK;split
 ·rw[X9];omega
 ·rw[X_];simp
def kI(pi:List Int):List dn:=pi.map λi=>some (.inl i)
theorem Dq(pi:List Int):(kI pi).map oV=pi.map V.int:=by rw[kI,List.map_map];rfl
theorem Gh{p q:List Int}(h:kI p=kI q):p=q:=by unfold kI at h;exact(List.map_inj_right (λa b e=>by injection e with e;injection e)).mp h
def NF(b:Nat)(k:Kf):Prop:=∀m,k.mo=some m->intBits m<=b
theorem A_{X:Cx}:kj X (binaryOp .Mult) (rI (λi j=>intBits i<=1000000/\intBits j<=1000000) λi j=>.int (i*j)):=PN λ_ _ _ _ _ _ _ z q=>mul_int q (IntMulOk.of_le z.1 z.2 (by decide))
inductive qW(K:YY)(n:Nat)(ok:Wk->Prop)(vs:List V)(H:Hp)(Q:VK)(E:XK):Prop
 |mk (a L:Addr) (x:Wk) (v:V) (k:Kf) (w:Nat) (us:List V) (es:List Kf) (_:vs=[.ref a,v,.int (w:Nat),.ref L]) (_:dZ n H a x) (_:ok x) (_:nI x) (_:a_ K H (dF k) v) (_:k.od.length<=1000) (_:w<=1000) (_:H L=some (.lst us)) (_:aK K H (es.map dF) us) (_:es.length=(cm x).length) (_:∀e∈es,NF 1000000 e) (_:∀u H',aH H H'->a_ K H' (dF (Ny x k w es)) u->Q u H'):qW K n ok vs H Q E
theorem xk{K:YY}{n:Nat}{k k':Wk->Prop}(h:∀x,k' x->k x):∀vs H Q E,qW K n k' vs H Q E->qW K n k vs H Q E:=by rintro vs H Q E ⟨a,L,x,v,U,w,us,es,h1,h2,h3,h4,h5,h6,h7,h8,h9,h10,O,z⟩;exact⟨a,L,x,v,U,w,us,es,h1,h2,h x h3,h4,h5,h6,h7,h8,h9,h10,O,z⟩
theorem Gb{K:YY}{n:Nat}{y:W1}:∀vs H Q E,qW K n (λx=>x=.one y) vs H Q E->jm K (λx=>x=y) vs H Q E:=by rintro vs H Q E ⟨a,L,x,v,O,w,us,es,h1,h2,rfl,h4,h5,h6,h7,h8,h9,h10,U,z⟩;exact⟨a,y,v,_,O,w,h1,c7.mp h2,rfl,h4,h5,h6,h7,z⟩
def Ga(x:Wk):Prop:=∃p q,x=.both p q
def DP(x:Wk):Prop:=∃c d p q,x=.meet c d p q
theorem EW{K:YY}{H:Hp}{es:List Kf}{us:List V}(h:aK K H (es.map dF) us)(hl:es.length=2):∃k0 k1 a0 a1 t0 t1,es=[k0,k1]/\us=[.ref a0,.ref a1]/\aX K H a0 [t0,mV k0.mo,.bl k0.un]/\aX K H a1 [t1,mV k1.mo,.bl k1.un]/\a_ K H (dO k0.od) t0:=by obtain⟨k0,r,rfl,z⟩:=rf (n:=1) hl;obtain⟨k1,r,rfl,z1⟩:=rf (n:=0) z;cases List.length_eq_zero_iff.mp z1;obtain⟨v0,r,rfl,h0,h⟩:=ez h;obtain⟨v1,r,rfl,h1,h⟩:=ez h;cases l4 h;obtain⟨a0,t0,rfl,O,U⟩:=lC h0;obtain⟨a1,t1,rfl,q1,_⟩:=lC h1;exact⟨k0,k1,a0,a1,t0,t1,rfl,rfl,O,q1,U⟩
theorem ua{m:Option Int}:decide (mV m=.non)=m.isNone:=by cases m<;>rfl
abbrev jj:Stmt:=top 67
theorem l8:ax ["worker","known","wide","ends","one","other"] Z9 (aq jj):=fs
theorem FD{n:Nat}(F:FA K mg "behind_both" jj) :
  bz bx P w K mg base 1 "behind_both" Z9 (qW K n Ga):=by
 refine F.ok l8 λf cdv A outer s H vs Q E hr h=>?_;have hu:=fJ hr;obtain⟨a,L,x,v,k,w,us,es,rfl,ha,ho,hs,hk,hz,hw,hL,O,U,hmo,q⟩:=h;refine⟨_,(ao (vp (i:=4) (j:=5) rfl l8.nd rfl rfl (by decide) rfl rfl (aa (aJ K (bf K (pv 3) aj) aj) (aa (aJ K (bf K (pv 3) aj) aj) ag)) rfl)
   (ay (aW (aa (aW ag) (aa (jx (PW.pt (oE (ba m4 (pv 4) dk) (jG (ba m4 (pv 5) dk)))) dk (aL cw (pv 4) (pv 5))) (aa cR ag)))))),?_⟩
 obtain⟨p1,p2,rfl⟩:=ho;obtain⟨k0,k1,a0,a1,t0,t1,rfl,rfl,q0,q1,d0⟩:=EW O U;refine⟨_,rfl,L,_,_,_,rfl,rfl,bb.of hL,az (j:=0) rfl,a0,_,_,_,rfl,rfl,q0,rfl,_,rfl,L,_,_,_,rfl,rfl,bb.of hL,rfl,a1,_,_,_,rfl,rfl,q1,rfl,_,_,rfl,?_⟩;dsimp only;refine⟨sG,λu hu=>?_⟩;have z:=ai hu (.tup []);have q':∀m u2 H',aH (upd H u (.tup [])) H'->m=LP (λa b=>a+b) k0.mo k1.mo->H' u2=some (.tup [.ref u,mV m,.bl false])->Q (.ref u2) H':=λm u2 H' s' em e=>q _ _ (z.trans s') (by rw[em]at e;exact FC (o:=[]) (aX.of e) (cY (s' _ _ ae) .nil));refine oU ⟨_,rfl,rfl,_,rfl,?_⟩;rw[ua];cases e0:k0.mo with
 |none=>exact cJ (cJ ⟨cz,λu2 h2=>q' none u2 _ (ai h2 _) (by rw[e0];rfl) ae⟩)
 |some m0 =>
  refine cK ⟨_,rfl,rfl,_,rfl,?_⟩;rw[ua];cases e1:k1.mo with
  |none=>exact cJ ⟨cz,λu2 h2=>q' none u2 _ (ai h2 _) (by rw[e0,e1];rfl) ae⟩
  |some m1=>exact cK ⟨_,rfl,_,rfl,_,_,rfl,rfl,cz,λu2 h2=>q' (some (m0+m1)) u2 _ (ai h2 _) (by rw[e0,e1];rfl) ae⟩
abbrev jc:Stmt:=top 68
theorem lG:ax ["worker","known","wide","ends","one","other"] Z9 (aq jc):=fs
theorem Dt{n:Nat}(F:FA K mg "behind_meet" jc) :
  bz bx P w K mg base 1 "behind_meet" Z9 (qW K n DP):=by
 refine F.ok lG λf cdv A outer s H vs Q E hr h=>?_;obtain⟨a,L,x,v,k,w,us,es,rfl,ha,ho,hs,hk,hz,hw,hL,O,U,z,q⟩:=h;refine⟨_,(ao (vp (i:=4) (j:=5) rfl lG.nd rfl rfl (by decide) rfl rfl (aa (aJ K (bf K (pv 3) aj) aj) (aa (aJ K (bf K (pv 3) aj) aj) ag)) rfl)
   (ay (aW (aa (aJ K (bf K (pv 3) aj) aj) (aa (jx (PW.pt (oE (ba m4 (pv 4) dk) (jG (ba m4 (pv 5) dk)))) dk (aL A_ (pv 4) (pv 5))) (aa cR ag)))))),?_⟩
 obtain⟨c1,c2,p1,p2,rfl⟩:=ho;obtain⟨k0,k1,a0,a1,t0,t1,rfl,rfl,q0,q1,d0⟩:=EW O U;refine⟨_,rfl,L,_,_,_,rfl,rfl,bb.of hL,az (j:=0) rfl,a0,_,_,_,rfl,rfl,q0,rfl,_,rfl,L,_,_,_,rfl,rfl,bb.of hL,rfl,a1,_,_,_,rfl,rfl,q1,rfl,_,_,rfl,?_⟩;dsimp only;refine⟨_,rfl,L,_,_,_,rfl,rfl,bb.of hL,az (j:=0) rfl,a0,_,_,_,rfl,rfl,q0,az (j:=0) rfl,?_⟩;have q':∀m u2 H',aH H H'->m=LP (λa b=>a*b) k0.mo k1.mo->H' u2=some (.tup [t0,mV m,.bl false])->Q (.ref u2) H':=λm u2 H' s' em e=>q _ _ s' (by rw[em]at e;exact FC (aX.of e) (d0.same s'));refine oU ⟨_,rfl,rfl,_,rfl,?_⟩;rw[ua];cases e0:k0.mo with
 |none=>exact cJ (cJ ⟨cz,λu2 h2=>q' none u2 _ (ai h2 _) (by rw[e0];rfl) ae⟩)
 |some m0 =>
  refine cK ⟨_,rfl,rfl,_,rfl,?_⟩;rw[ua];cases e1:k1.mo with
  |none=>exact cJ ⟨cz,λu2 h2=>q' none u2 _ (ai h2 _) (by rw[e0,e1];rfl) ae⟩
  |some m1=>exact cK ⟨_,rfl,_,rfl,_,_,rfl,rfl,⟨z k0 (by simp) _ e0,z k1 (by simp) _ e1⟩,cz,λu2 h2=>q' (some (m0*m1)) u2 _ (ai h2 _) (by rw[e0,e1];rfl) ae⟩
def J9(P:Program)(w:World)(K:YY)(mg:Z0)(base:Heap)(aF:Addr)(n:Nat)(x:Wk):Prop :=
 (∃(f:Addr)(fd:FuncData),cM K aF x.nm f/\f_ P w K mg base bx 2 f fd AB (qW K n (λy=>y=x))/\PySem.W.keepIn K (.ref f)=true/\Binds K fd AB [])\/(jy K aF x.nm/\∀k w es,Ny x k w es=k)
theorem G_{P:Program}{w:World}{K:YY}{mg:Z0}{base:Heap}{aF:Addr}{n:Nat}{f1 f2:Addr}(G:∀x,Nz P w K mg base aF x)(t1:cM K aF "both" f1)(t2:cM K aF "meet" f2)(z:FnAt P w K mg base 1 f1 AB (qW K n Ga))(O:FnAt P w K mg base 1 f2 AB (qW K n DP)):∀x,J9 P w K mg base aF n x:=by
 obtain⟨d1,z,U,k1⟩:=z;obtain⟨d2,O,b2,k2⟩:=O;intro x;cases x with
 |one y =>
  rcases G y with⟨f,fd,h1,h2,h3⟩|⟨h1,h2⟩
  ·exact .inl ⟨f,fd,h1,h2.imp Gb,h3⟩
  ·exact .inr ⟨h1,λk w es=>h2 k w⟩
 |both p q=>exact .inl ⟨f1,d1,t1,(z.imp (xk λ_ e=>⟨p,q,e⟩)).mono (by omega),k1,U⟩
 |meet c d p q=>exact .inl ⟨f2,d2,t2,(O.imp (xk λ_ e=>⟨c,d,p,q,e⟩)).mono (by omega),k2,b2⟩
abbrev iI:Stmt:=top 70
theorem km:ax ["worker","known","wide","ends","behind"] Z9 (aq iI):=fs
theorem C4{aF:Addr}{n:Nat}(mF:mg "FACTS_BEHIND"=some (.ref aF))(GF:∀x:Wk,J9 P w K mg base aF n x)(F:FA K mg "facts_behind" iI) :
  bz bx P w K mg base 3 "facts_behind" Z9 (qW K n (λ_=>True)):=by
 refine F.ok km λf cdv A outer s H vs Q E hr h=>?_;obtain⟨a,L,x,v,k,w,us,es,rfl,ha,ho,hs,hk,hz,hw,hL,z,hel,O,q⟩:=h;refine⟨_,(bE (eU pE (aJ K (pv 0) aj) (cZ rfl mF (show RelV (.ref aF) (.ref aF) from rfl)) rfl) (pv 1)
   (ao (aU (i:=4) km.nd rfl (YI rfl) (jv (r:=Cc K) oB (cZ rfl mF (show RelV (.ref aF) (.ref aF) from rfl)) (aJ K (pv 0) aj) (λ_ _=>rfl)))
   (ay (oR (k:=2) (pv 4) hr tY (aa (pv 0) (aa (pv 1) (aa (pv 2) (aa (pv 3) ag)))))))),?_⟩
 obtain⟨xs,h1⟩:=ha.first;refine⟨_,rfl,a,_,0,_,rfl,rfl,aX.of h1,az (j:=0) rfl,aF,x.nm,rfl,rfl,?_⟩;rcases GF x with⟨g,gd,GU,FG,kG,bG⟩|⟨U,he⟩
 ·refine .inl ⟨⟨g,GU⟩,_,rfl,cK (bR ?_)⟩;refine⟨_,rfl,a,_,0,_,rfl,rfl,aX.of h1,az (j:=0) rfl,aF,x.nm,g,rfl,rfl,GU,ak ?_⟩;dsimp only;exact⟨_,rfl,g,gd,_,_,rfl,FG,kG,bG,_,rfl,_,rfl,_,rfl,_,rfl,⟨a,L,x,v,k,w,us,es,rfl,ha,rfl,hs,hk,hz,hw,hL,z,hel,O,q⟩⟩
 ·refine .inr ⟨U,_,rfl,cJ ⟨_,rfl,?_⟩⟩;have q:=q v H (aH.refl _);rw[he]at q;exact q hk
end My
namespace My
open PySem L2
theorem dl{α:Type}{x l:α}{A D:List α}:(x::(A++(D++[l]))).dropLast=x::(A++D):=by rw[←List.append_assoc,←List.cons_append,List.dropLast_concat]
theorem Ei{n:Nat}{pl:List Int}{b:List Wk}:∀{a:List Wk}{i:Nat}{s:HK},AL n pl i s (a++b)=(AL n pl i s a).dropLast++AL n pl (i+a.length) (cT n s a) b
 |[],i,s=>rfl
 |y::a,i,s=>by show(pl++[(i:Int)],s)::(gw n s _ y++AL n pl (i+1) (mr n s y) (a++b))=((pl++[(i:Int)],s)::(gw n s _ y++AL n pl (i+1) (mr n s y) a)).dropLast++_;obtain⟨D,l,e⟩ :∃D l,AL n pl (i+1) (mr n s y) a=D++[l]:=⟨_,_,uT⟩;rw[Ei (a:=a),e,dl,List.dropLast_concat,YB,show i+1+a.length=i+(a.length+1) by omega];simp
theorem gF{α:Type}{ws:List α}{i:Nat}{x:α}(h:ws[i]? = some x):(ws.take i).length=i:=by have:=(Yj.mp h).1;rw[Yv];omega
theorem Bs{n:Nat}{pl:List Int}{s:HK}{ws:List Wk}{i:Nat}{x:Wk}(h:ws[i]? = some x):∃r,AL n pl 0 s ws=(AL n pl 0 s (ws.take i)++gw n (cT n s (ws.take i)) (pl++[(i:Int)]) x)++r:=by
 have e:=Ei (n:=n) (pl:=pl) (a:=ws.take i) (b:=ws.drop i) (i:=0) (s:=s);rw[List.take_append_drop,Nat.zero_add,gF h,md h]at e;refine⟨AL n pl (i+1) (mr n (cT n s (ws.take i)) x) (ws.drop (i+1)),?_⟩;rw[e]
 conv=>rhs;rw[se,gF h]
 show _++(_::(_++_))=_;unfold AF;simp
theorem A4{m:Nat}{pl:List Int}{s:HK}{b:List (List Wk)}:∀{a:List (List Wk)}{j:Nat},oA m (gw m) s pl j (a++b)=oA m (gw m) s pl j a++oA m (gw m) s pl (j+a.length) b
 |[],j=>rfl
 |q::a,j=>by show _++oA m (gw m) s pl (j+1) (a++b)=(_++oA m (gw m) s pl (j+1) a)++_;rw[A4,List.append_assoc,YB,show j+1+a.length=j+(a.length+1) by omega]
theorem vB{m:Nat}{pl:List Int}{s:HK}{ps:List (List Wk)}{j:Nat}{p:List Wk}(h:ps[j]? = some p):∃r,oA m (gw m) s pl 0 ps=(oA m (gw m) s pl 0 (ps.take j)++AL m (pl++[(j:Int)]) 0 s p)++r:=by have e:=A4 (m:=m) (pl:=pl) (s:=s) (a:=ps.take j) (b:=ps.drop j) (j:=0);rw[List.take_append_drop,Nat.zero_add,gF h,md h]at e;exact⟨oA m (gw m) s pl (j+1) (ps.drop (j+1)),by rw[e,List.append_assoc];rfl⟩
def fK(K:YY)(H:Hp):wm->Ak->wm->Prop
 |kv,[],Nk=>Nk=kv
 |kv,e::t,Nk=>∃v,a_ K H (dF e.2.2) v/\fK K H (putK kv (kI e.1) v) t Nk
section
variable{K:YY}{H H':Hp}
theorem fK.app:∀{t t':Ak}{kv k1 k2:wm},fK K H kv t k1->fK K H k1 t' k2->fK K H kv (t++t') k2
 |[],t',kv,k1,k2,h1,h2=>by cases h1;exact h2
 |e::t,t',kv,k1,k2,h1,h2=>by obtain⟨v,d,h⟩:=h1;exact⟨v,d,fK.app h h2⟩
theorem fK.one{kv:wm}{e:List Int×HK}{v:V}(h:a_ K H (dF e.2.2) v):fK K H kv [e] (putK kv (kI e.1) v):=⟨v,h,rfl⟩
theorem fK.keep(k:KS K H H'):∀{t:Ak}{kv k1:wm},fK K H kv t k1->fK K H' kv t k1
 |[],kv,k1,h=>h
 |e::t,kv,k1,h=>by obtain⟨v,d,h⟩:=h;exact⟨v,d.b_ k (oi _),fK.keep k h⟩
theorem fK.len:∀{t:Ak}{kv k1:wm},fK K H kv t k1->k1.length<=kv.length+t.length
 |[],kv,k1,h=>by cases h;exact X5 _
 |e::t,kv,k1,h=>by obtain⟨v,d,h⟩:=h;have:=fK.len h;have:=q_ (kvs:=kv) (k:=kI e.1) (v:=v);rw[YB];omega
theorem fK.other{q:List Int}:∀{t:Ak}{kv k1:wm},fK K H kv t k1->(∀e∈t,e.1≠q)->gY k1 (kI q)=gY kv (kI q)
 |[],kv,k1,h,_=>by cases h;rfl
 |e::t,kv,k1,h,n=>by obtain⟨v,d,h⟩:=h;rw[fK.other h λe O=>n e (Yg _ O),oh,YF λz=>n e (by simp) (Gh z).symm]
theorem fK.get:∀{t:Ak}{kv k1:wm},fK K H kv t k1->(t.map (·.1)).Nodup->∀e∈t,∃v,gY k1 (kI e.1)=some v/\a_ K H (dF e.2.2) v
 |e::t,kv,k1,h,n,e',O=>by
  obtain⟨v,d,h⟩:=h;rw[YT,List.nodup_cons]at n;rcases Ym.mp O with rfl|O
  ·refine⟨v,?_,d⟩;rw[fK.other h λe O z=>n.1 (Yl.mpr ⟨e,O,z⟩),oh,YG rfl]
  ·exact fK.get h n.2 e' O
end
def GR(s:HK):Prop:=s.1.length<=1000/\s.2.od.length<=1000/\NF 1000000 s.2
structure RU(K:YY)(H:Hp)(n:Nat)(p:Addr)(b:V)(pl hd fd:Addr)(ws:List Wk)(s:HK)(pi:List Int)(kvs kv:wm):Prop where
 pp:jA n H p ws
 kn:a_ K H (dF s.2) b
 XJ:H pl=some (.tup (pi.map V.int))
 Tj:H hd=some (.dT kvs)
 hs:∀e∈AL n pi 0 s ws,(∃hh,gY kvs (kI e.1)=some (.ref hh)/\iH H hh e.2.1)/\GR e.2
 XB:H fd=some (.dT kv)
 ne:hd≠fd
 ok:yw n ws
 few:kv.length+(AL n pi 0 s ws).length<=100000
 dp:pi.length<=100-2*n
inductive Ks(K:YY)(n:Nat)(vs:List V)(H:Hp)(Q:VK)(E:XK):Prop
 |mk (p:Addr) (b:V) (pl hd fd:Addr) (ws:List Wk) (s:HK) (pi:List Int) (kvs kv:wm) (_:vs=[.ref p,b,.ref pl,.ref hd,.ref fd]) (_:RU K H n p b pl hd fd ws s pi kvs kv) (_:2*n<=100) (_:∀v H' Nk,gz fd H H'->a_ K H' (dF (cT n s ws).2) v->H' fd=some (.dT Nk)->fK K H' kv (AL n pi 0 s ws) Nk->Q v H'):Ks K n vs H Q E
def vx(K:YY):Nat->Sp
 | 0=>λ_ _ _ _=>False
 |n+1=>Ks K n
inductive VD(K:YY)(n:Nat)(p:Addr)(b:V)(pl hd fd:Addr)(H:Hp)(ws:List Wk)(s:HK)(pi:List Int)(kv:wm)(i:Nat)(σ:St)(H':Hp):Prop
 |mk (v:V) (tD:wm) (st:∃o6 o7 o8 o9 p9 x8,σ=[some (.ref p),some b,some (.ref pl),some (.ref hd),some (.ref fd),some v,o6,o7,o8,o9,p9,x8]) (h1:a_ K H' (dF (cT n s (ws.take i)).2) v) (h2:gz fd H H') (h3:H' fd=some (.dT tD)) (h4:fK K H' kv (AF n pi s (ws.take i)) tD)
inductive WD(K:YY)(m:Nat)(sD:List (Option V))(L fd:Addr)(H4 H5:Hp)(t0:Ak)(si:HK)(pl:List Int)(ps:List (List Wk))(kv:wm)(j:Nat)(σ:St)(H':Hp):Prop
 |mk (us:List V) (JK:wm) (st:∃p9 x8,σ=sD++[p9,x8]) (h1:H' L=some (.lst us)) (h2:aK K H' (((ps.take j).map λp=>(cT m si p).2).map dF) us) (h3:KS K H5 H') (h4:gz fd H4 H') (h5:H' fd=some (.dT JK)) (h6:fK K H' kv (t0++oA m (gw m) si pl 0 (ps.take j)) JK) (h7:us.length=j) (h8:aE H5 H')
theorem Ip{H:Hp}{a:Addr}{x:Wk}(h:dZ 0 H a x):cm x=[]:=by
 cases x with
 |one x=>rfl
 |both p q=>exact h.elim
 |meet c d p q=>exact h.elim
theorem PD{n:Nat}{H:Hp}{a:Addr}{x:Wk}(h:dZ n H a x){s:HK}{pl:List Int}:gw n s pl x=oA (n-1) (gw (n-1)) s pl 0 (cm x):=by
 cases n with
 |zero=>rw[Ip h];rfl
 |succ n=>rfl
theorem Pq{n:Nat}{H:Hp}{a:Addr}{x:Wk}(h:dZ n H a x){s:HK}:(mr n s x).2=Ny x s.2 s.1.length ((cm x).map λp=>(cT (n-1) s p).2):=by
 cases n with
 |zero=>rw[Ip h];rfl
 |succ n=>rfl
theorem iP{n:Nat}{s:HK}{ws:List Wk}{x:Wk}:cT n s (ws++[x])=mr n (cT n s ws) x:=by rw[cT,List.foldl_append];rfl
theorem x5{K:YY}{H H':Hp}(k:KS K H H'):∀{es:List Kf}{us:List V},aK K H (es.map dF) us->aK K H' (es.map dF) us
 |[],us,h=>by cases l4 h;exact .nil
 |e::es,us,h=>by obtain⟨v,r,rfl,h1,h2⟩:=ez h;exact .cons (h1.b_ k (oi _)) (x5 k h2)
theorem Hk(x:Wk):(cm x).length<=2:=by cases x<;>first|exact Yq _|exact X5 _
theorem A7{pi:List Int}{i:Nat}:pi.map V.int++[V.int (i:Nat)]=(pi++[(i:Int)]).map V.int:=by rw[Ya];rfl
abbrev nY:Stmt:=top 71
theorem d_:ax ["pipe","begun","prefix","heads","found","known","at","worker","place","ends","side","branch"] ["pipe","begun","prefix","heads","found"] (aq nY):=fs
variable{P:Program}{w:World}{K:YY}{mg:Z0}{base:Heap}
theorem pb{n L:Nat}(B:j_ mg)(mE:mg "enumerate"=none)(F:FA K mg "follow" nY)
  (fk:bz bx P w K mg base 1 "branches_of" Z8 (xZ n))
  (rH:bz bx P w K mg base (L+4) "follow" ["pipe","begun","prefix","heads","found"] (vx K n))
  (rS:bz bx P w K mg base 3 "facts_behind" Z9 (qW K n (λ_=>True))) :
  bz bx P w K mg base (L+5) "follow" ["pipe","begun","prefix","heads","found"] (vx K (n+1)):=by
 refine F.ok d_ λf cdv A outer s H vs Q E hr h=>?_;have hu:=fJ hr;have hu1:=jF hr;obtain⟨p,b,pl,hd,fd,ws,O,pi,kvs,kv,rfl,hI,hn2,q⟩:=h;refine⟨_,(ao (aU (i:=5) d_.nd rfl (YI rfl) (pv 1))
   (ao (dR PassesOwn.never rfl (kz rfl mE (aa (pv 0) ag)) (bU rfl (ar (aQ (i:=6) d_.nd rfl (YI rfl)) (ar (aQ (i:=7) d_.nd rfl (YI rfl)) bF)))
    (ao (aU (i:=8) d_.nd rfl (YI rfl) (aL cO (pv 2) (aW (aa (pv 6) ag))))
     (ao (AN hu1 (pv 4) (pv 8) (pv 5) rfl)
     (ao (aU (i:=9) d_.nd rfl (YI rfl) (bw ag))
     (ao (dR PassesOwn.never rfl (kz rfl mE (aa (aG fk hr (aa (pv 7) ag)) ag)) (bU rfl (ar (aQ (i:=10) d_.nd rfl (YI rfl)) (ar (aQ (i:=11) d_.nd rfl (YI rfl)) bF)))
      (bC (cN (gN PySem.F.plainAttrs_list PySem.F.slot_list_append PySem.F.type_list_append cb (pv 9) (aa (aG rH hr (aa (pv 11) (aa (pv 5) (aa (aL cO (pv 8) (aW (aa (pv 10) ag))) (aa (pv 3) (aa (pv 4) ag)))))) ag)))))
     (bC (aU (i:=5) d_.nd rfl (YI rfl) (aG rS hr (aa (pv 7) (aa (pv 5) (aa (aP aM rfl B.len YW (aa (Bx hu1 (pv 3) (pv 8) (λ_ _=>rfl)) ag)) (aa (pv 9) ag))))))))))))
   (ao (AN hu1 (pv 4) (aL cO (pv 2) (aW (aa (aP aM rfl B.len YW (aa (pv 0) ag)) ag))) (pv 5) rfl)
   (ay (pv 5))))),?_⟩
 obtain⟨⟨bs,hP⟩,hk,hpl,Uj,hs,hfd,hne,hok,hfew,hdp⟩:=hI;have hlb:(bs.map V.ref).length=ws.length:=by rw[X9,hP.len]
 have Wv:1000<=sizeLine:=by decide
 refine⟨_,rfl,ak ?_⟩;dsimp only;refine⟨_,rfl,p,rfl,⟨_,aX.of hP.tup⟩,?_⟩;refine jC (xs:=bs.map V.ref) (VD K n p b pl hd fd H ws O pi kv) ⟨b,kv,⟨_,_,_,_,_,_,rfl⟩,hk,gz.of (aH.refl _),hfd,rfl⟩ ?_ ?_ ?_
 ·rintro i σ H' _ ⟨v,tD,_,_,g,_⟩;exact(g.ks hfd) _ _ (aX.of hP.tup)
 ·rintro i y σ H' T hx ⟨v,tD,⟨o6,o7,o8,o9,p9,x8,rfl⟩,hv,g,tG,hA⟩ hT;obtain⟨a,x,rfl,ex,ha⟩:=hP.get hx;have kT:aE H H':=λa ys e=>g _ _ (λz=>by rw[z,hfd]at e;cases e) e;obtain⟨rest,qa⟩:=Bs (n:=n) (pl:=pi) (s:=O) ex;have rT:=se (n:=n) (pl:=pi) (s:=O) (ws:=ws.take i);rw[gF ex]at rT;have hin:(pi++[(i:Int)],cT n O (ws.take i))∈AL n pi 0 O ws:=by rw[qa,rT];simp
  have Qb:=hA.len;have hfe:tD.length+1+(gw n (cT n O (ws.take i)) (pi++[(i:Int)]) x).length<=100000:=by have:=hfew;rw[qa,rT]at this;simp only[X_,YB,List.length_nil]at this;omega
  have sT:=ai hT (.tup [.int (i:Nat),.ref a]);refine⟨T,_,rfl,aX.of ae,rfl,_,_,rfl,ak ⟨_,_,rfl,ak ⟨rfl,?_⟩⟩⟩;dsimp only;refine⟨_,rfl,_,rfl,eG,λu1 vk=>?_⟩;have sU:=ai vk (.tup [.int (i:Nat)]);refine⟨pl,u1,_,_,rfl,rfl,sU _ _ (sT _ _ (kT _ _ hpl)),ae,by rw[X9,List.length_singleton];omega,λu2 H2 KY U=>ak ?_⟩;have s2:=sT.trans (sU.trans KY);dsimp only;have U:H2 u2=some (.tup ((kI (pi++[(i:Int)])).map oV)):=by rw[Dq,←A7];exact U
  refine⟨_,rfl,_,rfl,_,rfl,fd,_,rfl,Cs.t (k:=kI (pi++[(i:Int)])) (s2 _ _ tG) U (Yb (show tD.length<=100000 by omega) (by decide)),?_⟩;have g4:gz fd H' (upd H2 fd (.dT (putK tD (kI (pi++[(i:Int)])) v))):=(gz.of s2).put;have QJ:fK K (upd H2 fd (.dT (putK tD (kI (pi++[(i:Int)])) v))) kv (AL n pi 0 O (ws.take i)) (putK tD (kI (pi++[(i:Int)])) v):=by rw[rT];exact(hA.keep (g4.ks tG)).app (fK.one (e:=(pi++[(i:Int)],cT n O (ws.take i))) (hv.b_ (g4.ks tG) (oi _)))
  have Qj:=hv.b_ (g4.ks tG) (oi _);have ku:upd H2 fd (.dT (putK tD (kI (pi++[(i:Int)])) v)) u2=some (.tup ((kI (pi++[(i:Int)])).map oV)):=by rw[aI λz=>by have:=s2 _ _ tG;rw[←z,U]at this;cases this];exact U
  have xy:upd H2 fd (.dT (putK tD (kI (pi++[(i:Int)])) v)) fd=some (.dT (putK tD (kI (pi++[(i:Int)])) v)):=ae;have k4:aE H (upd H2 fd (.dT (putK tD (kI (pi++[(i:Int)])) v))):=λb' ys e=>(g.trans g4) _ _ (λz=>by rw[z,hfd]at e;cases e) e;have qw:=g.trans g4;have hlk:(putK tD (kI (pi++[(i:Int)])) v).length<=tD.length+1:=q_;revert QJ Qj ku k4 qw xy hlk;generalize upd H2 fd (.dT (putK tD (kI (pi++[(i:Int)])) v))=H4;generalize putK tD (kI (pi++[(i:Int)])) v=Ta;intro QJ Qj ku xy k4 qw hlk;dsimp only;refine⟨Yq _,λL hL=>ak ?_⟩;have Nb:L≠fd:=λz=>by rw[z,xy]at hL;cases hL
  dsimp only;have sL:=ai hL (.lst []);refine⟨_,rfl,⟨a,x,rfl,(ha.keep k4).keep (aE.of sL),λt NU H5 s5 hJ=>⟨t,rfl,⟨_,aX.of hJ.tup⟩,?_⟩⟩⟩;have nR:(NU.map V.ref).length=(cm x).length:=by rw[X9,hJ.len]
  refine jC (xs:=NU.map V.ref) (WD K (n-1) [some (.ref p),some b,some (.ref pl),some (.ref hd),some (.ref fd),some v,some (.int (i:Nat)),some (.ref a),some (.ref u2),some (.ref L)] L fd H4 H5 (AL n pi 0 O (ws.take i)) (cT n O (ws.take i)) (pi++[(i:Int)]) (cm x) kv) ⟨[],Ta,⟨_,_,rfl⟩,s5 _ _ ae,.nil,KS.refl,gz.of (sL.trans s5),(sL.trans s5) _ _ xy,?_,rfl,aE.refl⟩ ?_ ?_ ?_
  ·show fK K H5 kv (_++[]) Ta;rw[YO];exact QJ.keep (KS.of (sL.trans s5))
  ·rintro j σ H6 _ ⟨us,JK,_,_,_,kS,_⟩;exact kS _ _ (aX.of hJ.tup)
  ·rintro j y σ H6 T2 hy ⟨us,JK,⟨JC,So,rfl⟩,qv,hus,Ul,g6,Ez,EJ,Ri,NG⟩ hT2;obtain⟨c',pp,rfl,ep,ds,Nd⟩:=hJ.get hy;obtain⟨m,rfl⟩ :∃m,n=m+1:=by
    cases n with
    |zero=>rw[Ip ha]at ep;cases ep
    |succ m=>exact⟨m,rfl⟩
   have sA:=ai hT2 (.tup [.int (j:Nat),.ref c']);refine⟨T2,_,rfl,aX.of ae,rfl,_,_,rfl,ak ⟨_,_,rfl,ak ⟨rfl,?_⟩⟩⟩;dsimp only[List.cons_append,List.nil_append];obtain⟨r2,eB⟩:=vB (m:=m) (pl:=pi++[(i:Int)]) (s:=cT (m+1) O (ws.take i)) ep;have Sm:=EJ.len;have hsub:∀e∈AL m ((pi++[(i:Int)])++[(j:Int)]) 0 (cT (m+1) O (ws.take i)) pp,e∈AL (m+1) pi 0 O ws:=λe he=>by rw[qa];refine Yo.mpr (.inl (Yo.mpr (.inr ?_)));show e∈oA m (gw m) _ _ 0 (cm x);rw[eB];exact Yo.mpr (.inl (Yo.mpr (.inr he)))
   have Rv:JK.length+(AL m ((pi++[(i:Int)])++[(j:Int)]) 0 (cT (m+1) O (ws.take i)) pp).length<=100000:=by have h1:=hfew;rw[qa]at h1;have h2:(gw (m+1) (cT (m+1) O (ws.take i)) (pi++[(i:Int)]) x).length=(oA m (gw m) (cT (m+1) O (ws.take i)) (pi++[(i:Int)]) 0 (cm x)).length:=rfl;rw[eB]at h2;simp only[X_]at h1 h2 Sm;have h3:(oA (m+1-1) (gw (m+1-1)) (cT (m+1) O (ws.take i)) (pi++[(i:Int)]) 0 ((cm x).take j)).length=(oA m (gw m) (cT (m+1) O (ws.take i)) (pi++[(i:Int)]) 0 ((cm x).take j)).length:=rfl;omega
   refine⟨_,rfl,.inl ⟨rfl,_,bb.of (sA _ _ qv)⟩,_,rfl,_,rfl,_,rfl,_,rfl,eG,λu7 CN=>?_⟩;have sB:=ai CN (.tup [.int (j:Nat)]);have JT:aE H4 H6:=λb' ys e=>g6 _ _ (λz=>by rw[z,xy]at e;cases e) e;have SD:H4 u2=some (.tup ((pi++[(i:Int)]).map V.int)):=by rw[←Dq];exact ku
   refine⟨u2,u7,_,_,rfl,rfl,sB _ _ (sA _ _ (JT _ _ SD)),ae,by rw[X9,X_,List.length_singleton,List.length_singleton];omega,λu8 H8 s8 fJ=>?_⟩;have fJ:H8 u8=some (.tup (((pi++[(i:Int)])++[(j:Int)]).map V.int)):=by rw[←A7];exact fJ
   have uS:=sA.trans (sB.trans s8);have WZ:KS K H6 H8:=KS.of uS;have g8:gz fd H H8:=qw.trans (g6.trans (gz.of uS));have Si:aE H H8:=λb' ys e=>g8 _ _ (λz=>by rw[z,hfd]at e;cases e) e;have MW:aE H5 H8:=NG.trans (aE.of uS);refine⟨_,rfl,_,rfl,⟨c',v,u8,hd,fd,pp,cT (m+1) O (ws.take i),(pi++[(i:Int)])++[(j:Int)],kvs,JK,rfl,⟨⟨ds,Nd.keep MW λ_ _ z=>z.keep MW⟩,(Qj.b_ (g6.ks xy) (oi _)).same uS,fJ,g8 _ _ hne Uj,λe he=>?_,uS _ _ Ez,hne,(hok.2 x (Yf ex)).2 pp (Yf ep),Rv,?_⟩,by omega,λv9 H9 Xp g9 WR Sq Pp=>?_⟩⟩
   ·obtain⟨⟨hh,z1,z2⟩,z3⟩:=hs e (hsub e he);exact⟨⟨hh,z1,Si _ _ z2⟩,z3⟩
   ·rw[X_,X_,List.length_singleton,List.length_singleton];omega
   have Pt:KS K H8 H9:=g9.ks (uS _ _ Ez);have hL9:H9 L=some (.lst us):=g9 _ _ Nb (uS _ _ qv);have kL:KS K H9 (upd H9 L (.lst (us++[v9]))):=KS.dP hL9;have OS:=(WZ.trans Pt).trans kL;refine⟨L,_,_,rfl,rfl,hL9,by rw[Ri];have:=(Yj.mp ep).1;exact Yc (Yc this (Hk x)) cS,us++[v9],Xp,⟨_,_,rfl⟩,ae,?_,Ul.trans OS,gz.new hL ((g6.trans (gz.of uS)).trans g9),by rw[aI (Ne.symm Nb)];exact Sq,?_,by rw[X_,Ri];rfl,?_⟩
   ·rw[take_one ep,Ya,Ya];exact aK.append (x5 OS hus) (.cons (WR.b_ kL (oi _)) .nil)
   ·rw[take_one ep,qY,←List.append_assoc,gF ep,Nat.zero_add];exact(EJ.keep OS).app (Pp.keep kL)
   ·exact(MW.trans (λb' ys e=>g9 _ _ (λz=>by have:=uS _ _ Ez;rw[←z,e]at this;cases this) e)).dP hL9
  rintro σ H6 ⟨us,JK,⟨JC,So,rfl⟩,qv,hus,Ul,g6,Ez,EJ,Ri,NG⟩;rw[nR,YJ]at hus EJ;dsimp only[List.cons_append,List.nil_append];have RX:=qw.trans g6;have Ut:aE H H6:=λb' ys e=>RX _ _ (λz=>by rw[z,hfd]at e;cases e) e;have e1:=Pq ha (s:=cT n O (ws.take i));have e2:=PD ha (s:=cT n O (ws.take i)) (pl:=pi++[(i:Int)]);obtain⟨⟨hh,z1,z2⟩,z3⟩:=hs _ hin;have DH:H6 u2=some (.tup ((kI (pi++[(i:Int)])).map oV)):=g6 _ _ (λz=>by rw[z,xy]at ku;cases ku) ku;refine⟨_,rfl,_,rfl,_,rfl,_,rfl,hd,_,rfl,?_,hh,_,rfl,.inr (aX.of (Ut _ _ z2)),_,rfl,⟨a,L,x,v,(cT n O (ws.take i)).2,(cT n O (ws.take i)).1.length,us,(cm x).map λp=>(cT (n-1) (cT n O (ws.take i)) p).2,?_,ha.keep Ut,trivial,(hok.ok (Yf ex)).sm,Qj.b_ (g6.ks xy) (oi _),z3.2.1,z3.1,qv,hus,by rw[X9],λe he=>?_,λu H7 s7 CN=>ak ⟨u,JK,⟨_,_,_,_,_,_,rfl⟩,?_,RX.trans (gz.of s7),s7 _ _ Ez,?_⟩⟩⟩
  ·rw[←z1];exact Am.t (RX _ _ hne Uj) DH
  ·rw[X9];rfl
  ·obtain⟨pp,hp,rfl⟩:=Yl.mp he;obtain⟨j,hj,rfl⟩:=List.getElem_of_mem hp;have ep:(cm x)[j]? = some (cm x)[j]:=Yd hj;obtain⟨r2,eB⟩:=vB (m:=n-1) (pl:=pi++[(i:Int)]) (s:=cT n O (ws.take i)) ep;have:((pi++[(i:Int)])++[(j:Int)]++[(((cm x)[j].length:Nat):Int)],cT (n-1) (cT n O (ws.take i)) (cm x)[j])∈AL n pi 0 O ws:=by rw[qa];refine Yo.mpr (.inl (Yo.mpr (.inr ?_)));rw[e2,eB];refine Yo.mpr (.inl (Yo.mpr (.inr ?_)));rw[se];simp
   exact(hs _ this).2.2.2
  ·rw[take_one ex,iP,e1];exact CN
  ·rw[take_one ex,Jq,gF ex,e2];exact EJ.keep (KS.of s7)
 ·rintro σ H' ⟨v,tD,⟨o6,o7,o8,o9,p9,x8,rfl⟩,hv,g,tG,hA⟩;rw[hlb,YJ]at hv hA;have kT:aE H H':=λa ys e=>g _ _ (λz=>by rw[z,hfd]at e;cases e) e;have Qb:=hA.len;have rT:=se (n:=n) (pl:=pi) (s:=O) (ws:=ws);have hfe:tD.length+1<=100000:=by have:=hfew;rw[rT,X_,List.length_singleton]at this;omega
  dsimp only;refine⟨_,rfl,_,rfl,_,rfl,_,rfl,p,_,rfl,.inr (aX.of (kT _ _ hP.tup)),eG,λu1 vk=>?_⟩;have sU:=ai vk (.tup [.int ((bs.map V.ref).length:Nat)]);refine⟨pl,u1,_,_,rfl,rfl,sU _ _ (kT _ _ hpl),ae,by rw[X9,List.length_singleton];omega,λu2 H2 KY U=>?_⟩;have s2:=sU.trans KY;have U:H2 u2=some (.tup ((kI (pi++[((ws.length:Nat):Int)])).map oV)):=by rw[Dq,←A7,←hlb];exact U
  have g4:gz fd H' (upd H2 fd (.dT (putK tD (kI (pi++[((ws.length:Nat):Int)])) v))):=(gz.of s2).put;refine⟨fd,_,rfl,Cs.t (k:=kI (pi++[((ws.length:Nat):Int)])) (s2 _ _ tG) U (Yb (show tD.length<=100000 by omega) (by decide)),_,rfl,q _ _ _ (g.trans g4) (hv.b_ (g4.ks tG) (oi _)) ae ?_⟩;rw[rT];exact(hA.keep (g4.ks tG)).app (fK.one (e:=(pi++[((ws.length:Nat):Int)],cT n O ws)) (hv.b_ (g4.ks tG) (oi _)))
theorem z6{K:YY}{a D:Addr}{xs:List V}{g:TG}{tc:TT}{tk tv:TE}{Q:VK}{sD:St}{H0:Hp}(Pv:Nat->St->wm->Hp->Prop)(h0:Pv 0 sD [] H0)(U:∀i σ ys H,i<=xs.length->Pv i σ ys H->H D=some (.dT ys)/\ys.length<=i)(hl:∀i σ ys H,i<=xs.length->Pv i σ ys H->bb K H a xs)(hz:xs.length<=sizeLine)
  (hs:∀i x σ ys H,xs[i]? = some x->Pv i σ ys H->g x σ H λO H2=>tc O H2 λb H3=>if b=true then tk O H3 λy H4=>tv O H4 λv H5=>∃b k,y=.ref b/\H5 b=some (.tup (k.map oV))/\H5 D=some (.dT ys)/\Pv (i+1) O (putK ys k v) (upd H5 D (.dT (putK ys k v)))else Pv (i+1) O ys H3)
  (hd:∀σ ys H,Pv xs.length σ ys H->Q (.ref D) H):∃W:Nat->Nat->St->wm->Hp->Prop,(∃m,W 0 m sD [] H0)/\yS (GB K a) g tc tk tv D Q W:=by
 refine⟨λi m σ ys H=>m=xs.length-i/\i<=xs.length/\Pv i σ ys H,⟨xs.length,by simp,Yq _,h0⟩,?_⟩;rintro i m σ ys H ⟨rfl,hi,p⟩;have q:=hl i σ ys H hi p;refine⟨(U i σ ys H hi p).1,?_⟩;by_cases z:i<xs.length
 ·refine .inr ⟨⟨xs,xs[i],q,by simp[z]⟩,Yb (U i σ ys H hi p).2 (Yc z hz),Pv (i+1),λσ' ys' H' p'=>⟨xs.length-(i+1),by omega,rfl,z,p'⟩,λx H' y=>?_⟩;obtain⟨e,y⟩:=y;subst e;exact hs i x σ ys _ (y xs q) p
 ·have e:i=xs.length:=by omega
  subst e;exact .inl ⟨⟨xs,q,X5 _⟩,hd σ ys H p⟩
def IK(K:YY)(aA a1:Addr):Prop:=(∀H,aX K H aA [.ref a1,.non,.bl false])/\∀H,aX K H a1 []
theorem IK.at{K:YY}{aA a1:Addr}{H:Hp}(h:IK K aA a1):a_ K H (dF m3) (.ref aA):=FC (m:=none) (h.1 H) (rm (h.2 H) aK.nil)
theorem Ls{α:Type}{l:List α}(h:l.Nodup){i j:Nat}(hi:i<l.length)(O:j<l.length)(e:l[i]=l[j]):i=j:=by
 rcases Nat.lt_trichotomy i j with z|z|z
 ·exact YE e (List.pairwise_iff_getElem.mp h i j hi O z)
 ·exact z
 ·exact YE e.symm (List.pairwise_iff_getElem.mp h j i O hi z)
inductive MC(K:YY)(n:Nat)(vs:List V)(H:Hp)(Q:VK)(E:XK):Prop
 |mk (p l:Addr) (ws:List Wk) (as:Z6) (t:Tr) (ss:Hd) (_:vs=[.ref p,.ref l]) (_:jA n H p ws) (_:yw n ws) (_:H l=some (.lst (as.map V.ref))) (_:jB H as t) (_:t.map GO=(AL n [] 0 (ss,m3) ws).map Ff) (_:(t.map (·.1)).Nodup) (_:∀e∈AL n [] 0 (ss,m3) ws,GR e.2) (_:as.length<=90000) (_:2*n<=100) (_:∀(fd:Addr)(kv:wm) H',aH H H'->H' fd=some (.dT kv)->fK K H' [] (AL n [] 0 (ss,m3) ws) kv->Q (.ref fd) H'):MC K n vs H Q E
abbrev lU:Stmt:=top 72
theorem oy:ax ["pipe","seen","found"] ["pipe","seen"] (aq lU):=fs
theorem GX{aA a1:Addr}{n L:Nat}(mA:mg "AT_FIRST"=some (.ref aA))(cA:IK K aA a1)(F:FA K mg "all_facts" lU)
  (rH:bz bx P w K mg base L "follow" ["pipe","begun","prefix","heads","found"] (vx K (n+1))) :
  bz bx P w K mg base (L+1) "all_facts" ["pipe","seen"] (MC K n):=by
 refine F.ok oy λf cdv A outer s H vs Q E hr h=>?_;have hu:=fJ hr;have hu1:=jF hr;obtain⟨p,l,ws,as,t,ss,rfl,hP,hok,hl,hT,hmap,hnd,hE,hfew,hn2,q⟩:=h;refine⟨_,(ao (aU (i:=2) oy.nd rfl (YI rfl) FN)
   (ao (cN (aG rH hr (aa (pv 0) (aa (cZ rfl mA (show RelV (.ref aA) (.ref aA) from rfl)) (aa (aW ag) (aa (DR (N':=["place","head","loose"]) (src:=[none,none,none]) rfl (bq.jN (by kernel_rfl)) (dg (pv 1)) (g:=(n4 K 3 (cQ (b9 0) (cQ (b9 1) (cQ (b9 2) pC))))) (λcl C s H fp=>(bU rfl (ar (gg (i:=0)) (ar (gg (i:=1)) (ar (gg (i:=2)) bF))))) (λcl C s H fp=>bD) (tk:=(br 0)) (λcl C s H fp=>(gK 0)) (tv:=(br 1)) (λcl C s H fp=>(gK 1)) (Yb (Nat.le_add_right _ 8) hu)) (aa (pv 2) ag)))))))
   (ay (pv 2)))),?_⟩
 have hla:(as.map V.ref).length=t.length:=by rw[X9,hT.len]
 refine λF hF=>ak ?_;dsimp only;have s0:=ai hF (.dT []);have J3:upd H F (.dT []) F=some (.dT []):=ae;revert s0 J3;generalize upd H F (.dT [])=H0;intro s0 J3;refine⟨_,rfl,sG,λu hu'=>?_⟩;have s1:=ai hu' (.tup []);have hu1:upd H0 u (.tup []) u=some (.tup []):=ae;revert s1 hu1;generalize upd H0 u (.tup [])=H1;intro s1 hu1;have N9:=s0.trans s1;refine⟨_,rfl,l,rfl,⟨_,bb.of (N9 _ _ hl)⟩,λD hD=>?_⟩;refine z6 (xs:=as.map V.ref) (λi σ ys H'=>(∃o1 o2 o3,σ=[o1,o2,o3])/\H' D=some (.dT ys)/\ys.length<=i/\aH H1 H'/\∀j,j<i->∀e,t[j]? = some e->∃hh,gY ys (kI e.1)=some (.ref hh)/\iH H1 hh e.2.1) ⟨⟨none,none,none,rfl⟩,ae,X5 _,ai hD _,λj hj=>YE hj (Nat.not_lt_zero _)⟩ ?_ ?_ ?_ ?_ ?_
 ·rintro i σ ys H' _ ⟨_,h,hz,_⟩;exact⟨h,hz⟩
 ·rintro i σ ys H' _ ⟨_,_,_,sm,_⟩;exact bb.of (sm _ _ (N9 _ _ hl))
 ·rw[X9];exact X6 hfew (by decide)
 ·rintro i v σ ys H' hv ⟨⟨o1,o2,o3,rfl⟩,hd,hz,sm,hj⟩;have hi:i<t.length:=by rw[←hla];exact(Yj.mp hv).1
  rw[Yu]at hv;cases ea:as[i]? with
  |none=>rw[ea]at hv;cases hv
  |some a =>
   rw[ea]at hv;cases hv;have et:t[i]? = some t[i]:=Yd hi;obtain⟨c,hh,z1,z2,z3⟩:=hT.at_ i a _ ea et;have s2:=N9.trans sm;refine⟨a,_,rfl,aX.of (s2 _ _ z1),rfl,_,_,rfl,ak ⟨_,_,rfl,ak ⟨_,_,rfl,ak ⟨rfl,?_⟩⟩⟩⟩;refine⟨_,rfl,_,rfl,c,kI t[i].1,rfl,by rw[Dq];exact s2 _ _ z2,hd,⟨_,_,_,rfl⟩,ae,X6 q_ (Nat.succ_le_succ hz),bg hD sm,λj hj' e e5=>?_⟩;by_cases ej:j=i
   ·subst ej;rw[et]at e5;cases e5;exact⟨hh,by rw[oh,YG rfl],N9 _ _ z3⟩
   ·obtain⟨hh',y1,y2⟩:=hj j (by omega) e e5;refine⟨hh',?_,y2⟩;rw[oh,YF λz=>ej ?_]
    ·exact y1
    ·have e6:=Gh z;obtain⟨O,e7⟩:=Yj.mp e5;exact Ls hnd (i:=j) (j:=i) (by rw[X9];exact O) (by rw[X9];exact hi) (by rw[List.getElem_map,List.getElem_map,e7];exact e6)
 rintro σ ys H2 ⟨_,hd,hz,U,hj⟩;have Ug:=N9.trans U;rw[hla]at hj;have VA:H2 F=some (.dT []):=(s1.trans U) _ _ J3;have Xj:D≠F:=λz=>by have:=s1 _ _ J3;rw[←z,hD]at this;cases this
 refine⟨_,rfl,⟨p,_,u,D,F,ws,(ss,m3),[],ys,[],rfl,⟨hP.keep (aE.of Ug),cA.at,U _ _ hu1,hd,λe he=>⟨?_,hE e he⟩,VA,Xj,hok,?_,Yq _⟩,hn2,λv H3 kv g3 _ hk hA=>⟨_,rfl,q F kv H3 (nj hF Ug g3) hk hA⟩⟩⟩
 ·have:Ff e∈t.map GO:=by rw[hmap];exact List.mem_map_of_mem he
  obtain⟨e',he',ee⟩:=Yl.mp this;obtain⟨j,O,rfl⟩:=List.getElem_of_mem he';obtain⟨hh,y1,y2⟩:=hj j O _ (Yd O);injection ee with e1 e2;rw[e1]at y1;rw[e2]at y2;exact⟨hh,y1,U _ _ y2⟩
 ·have:=congrArg List.length hmap;rw[X9,X9]at this;have:=hT.len;show 0+_<=_;omega
structure sI(K:YY)(H:Hp)(l:Addr)(us:List V)(ss:Hd):Prop where
 lst:H l=some (.lst us)
 len:us.length=ss.length
 at_:∀(i:Nat) v s,us[i]? = some v->ss[i]? = some s->∃a r,v=.ref a/\aX K H a (.str s::r)
theorem sI.same{K:YY}{H H':Hp}{l:Addr}{us:List V}{ss:Hd}(s:aH H H')(h:sI K H l us ss):sI K H' l us ss:=⟨s _ _ h.lst,h.len,λi a x z O=>let ⟨a,r,z1,z2⟩:=h.at_ i a x z O;⟨a,r,z1,s.fA z2⟩⟩
theorem sI.get{K:YY}{H:Hp}{l:Addr}{us:List V}{ss:Hd}(h:sI K H l us ss){i:Nat}{v:V}(hv:us[i]? = some v):∃a s r,v=.ref a/\ss[i]? = some s/\aX K H a (.str s::r):=by
 have hi:i<ss.length:=by rw[←h.len];exact(Yj.mp hv).1
 have es:ss[i]? = some ss[i]:=Yd hi;obtain⟨a,r,z,O⟩:=h.at_ i v _ hv es;exact⟨a,_,r,z,es,O⟩
def Ou(K:YY):Sp:=λvs H Q _=>∃(l:Addr)(us:List V)(ss:Hd),vs=[.ref l]/\sI K H l us ss/\ss.length<=1000/\∀(u:Addr) H',aH H H'->iH H' u ss->Q (.ref u) H'
abbrev pX:Stmt:=top 52
theorem Ac:ax ["kind"] ["kind"] (aq pX):=fs
theorem BM(B:j_ mg)(F:FA K mg "head_of" pX) :
  bz bx P w K mg base 1 "head_of" ["kind"] (Ou K):=by
 refine F.ok Ac λf cdv A outer s H vs Q E hr h=>?_;have U:=fJ hr;obtain⟨l,us,ss,rfl,z,hz,q⟩:=h;refine⟨_,(ay (bA bu rfl B.tuple YM (aa (bM (N':=["told"]) (src:=[none]) rfl (bq.jN (by kernel_rfl)) (dg (pv 0)) (λcl C s H fp=>(gg (i:=0))) (λcl C s H fp=>bD) (te:=(eC (jt K) (br 0) (tC (.int 0)))) (λcl C s H fp=>(aJ K (gK 0) aj))) ag))),?_⟩;have hl:us.length=ss.length:=z.len;refine⟨_,rfl,l,rfl,⟨_,bb.of z.lst⟩,λD O=>?_⟩;refine el (xs:=us) (λi σ ys H'=>(∃o1,σ=[o1])/\ys=(ss.take i).map V.str/\ys.length=i/\H' D=some (.lst ys)/\aH H H') ⟨⟨none,rfl⟩,rfl,rfl,ae,ai O _⟩ ?_ ?_ ?_ ?_ ?_
 ·rintro i σ ys H' _ ⟨_,_,hi,h,_⟩;exact⟨h,YR hi⟩
 ·rintro i σ ys H' _ ⟨_,_,_,_,sm⟩;exact bb.of (sm _ _ z.lst)
 ·rw[hl];exact X6 hz (by decide)
 ·rintro i x σ ys H' hx ⟨⟨o1,rfl⟩,rfl,hi,h,sm⟩;obtain⟨b,s',r,rfl,es,hb⟩:=z.get hx;refine ak ?_;refine⟨_,rfl,b,_,0,_,rfl,rfl,sm.fA hb,az (j:=0) rfl,h,⟨_,rfl⟩,?_,?_,ae,bg O sm⟩
  ·rw[take_one es,Ya];rfl
  ·rw[X_,hi];rfl
 rintro σ ys H' ⟨_,rfl,_,h,sm⟩;rw[hl,YJ]at h;exact⟨D,_,rfl,.inl ⟨bb.of h,λu U=>q u _ (sm.trans (ai U _)) ae⟩⟩
theorem Il{t:Tr}{p:List Int}{e:List Int×Hd×Bool}(h:e∈t)(ep:e.1=p):∃b,seek t p=some b:=by
 unfold seek;cases q:t.find? λe=>decide (e.1=p)with
 |some b=>exact⟨_,rfl⟩
 |none=>exact YE (X8 ep) (List.find?_eq_none.mp q e h)
inductive LK(K:YY)(n:Nat)(vs:List V)(H:Hp)(Q:VK)(E:XK):Prop
 |mk (l p pa:Addr) (us:List V) (ss h:Hd) (ws:List Wk) (pi:List Int) (f:Fl) (s:HK) (_:vs=[.ref l,.ref p,.ref pa]) (_:sI K H l us ss) (_:ss.length<=6) (_:jA n H p ws) (_:yw n ws) (_:H pa=some (.tup (pi.map V.int))) (_:2*n<=100) (_:bnd n<=90000) (_:FI n ss ws=.ok h f) (_:∀e∈AL n [] 0 (ss,m3) ws,GR e.2) (_:(pi,s)∈AL n [] 0 (ss,m3) ws) (_:∀u H',aH H H'->a_ K H' (dF s.2) u->Q u H'):LK K n vs H Q E
abbrev nJ:Stmt:=top 73
theorem p3:ax ["kind","pipe","place","seen"] ["kind","pipe","place"] (aq nJ):=fs
theorem Ar{C CP:Addr}{n L:Nat}(F:FA K mg "facts_at" nJ)
  (BW:bz bx P w K mg base 1 "head_of" ["kind"] (Ou K))
  (Ft:bz (yy P w) P w K mg base (L+7) "survey" ["head","pipe"] (Ai C n))
  (Cj:bz (yy P w) P w K mg base 1 "look_up" ["seen","place"] (zx CP))
  (yb:bz bx P w K mg base (L+7) "all_facts" ["pipe","seen"] (MC K n)) :
  bz (yy P w) P w K mg base (L+8) "facts_at" ["kind","pipe","place"] (LK K n):=by
 refine F.Ll p3 λf cdv A outer s H vs Q E O h=>?_;have hu:=fJ O;have hu1:=jF O;obtain⟨l,p,pa,us,ss,h,ws,pi,f',s0,rfl,hK,h6,hP,hok,hpa,hn2,hbn,he,hE,hin,q⟩:=h;refine⟨_,(ao (aU (i:=3) p3.nd rfl (YI rfl) (t_ Ft O rfl AQ (aa (aG BW O (aa (pv 0) ag)) (aa (pv 1) ag))))
   (ao (cN (t_ Cj O rfl AQ (aa (pv 3) (aa (pv 2) ag))))
   (ay (Bx hu1 (aG yb O (aa (pv 1) (aa (pv 3) ag))) (pv 2) (λ_ _=>rfl))))),?_⟩
 have z:=OW he m3;refine⟨_,rfl,⟨l,us,ss,rfl,hK,X6 h6 (by decide),λu H1 s1 hu=>?_⟩⟩;refine⟨_,rfl,⟨u,p,ss,ws,rfl,⟨hu,h6,hP.keep (aE.of s1),hok⟩,hn2,by omega,λx s e'=>(by rw[he]at e';cases e'),λh f e' l2 H2 bs s2 U wo hT=>ak ?_⟩⟩;dsimp only;have s12:=s1.trans s2;obtain⟨b,eb⟩ :∃b,seek (TL n [] 0 ss f0 ws) pi=some b:=by
  have:Ff (pi,s0)∈(TL n [] 0 ss f0 ws).map GO:=by rw[z];exact List.mem_map_of_mem hin
  obtain⟨e',he',ee⟩:=Yl.mp this;injection ee with e1 e2;exact Il he' e1
 refine⟨_,rfl,_,rfl,⟨l2,pa,bs,_,pi,rfl,U,hT,s12 _ _ hpa,λhs=>(by rw[eb]at hs;cases hs),λb hs u' hh H3 s3 hu' _=>?_⟩⟩;have zL:=s12.trans s3;refine⟨_,rfl,_,rfl,⟨p,l2,ws,bs,_,ss,rfl,hP.keep (aE.of zL),hok,s3 _ _ U,hT.keep (aE.of s3),z,J_,hE,X6 wo hbn,hn2,λfd kv H4 s4 hF hA=>?_⟩⟩;obtain⟨v,e1,e2⟩:=hA.get (by rw[show(AL n [] 0 (ss,m3) ws).map (λe=>e.1)=((AL n [] 0 (ss,m3) ws).map Ff).map λe=>e.1 by rw[List.map_map];rfl,←z,List.map_map];exact J_) _ hin;refine⟨_,rfl,fd,v,rfl,?_,q v H4 (zL.trans s4) e2⟩;rw[←e1];exact Am.t hF (by rw[Dq];exact(zL.trans s4) _ _ hpa)
end My
namespace L2
open PySem PySem.Spec PyProof.Rows
def lx(lo hi:Int):List V:=(List.range (hi-lo).toNat).map λi=>V.int (lo+(i:Nat))
section
variable{X:Cx}
theorem ET:gJ X (.type "range") (λxs H Q=>∃i j,xs=[.int i,.int j]/\∀r,H r=none->Q (.ref r) (upd H r (.BI i j))):=by intro ac s σ H xs us Q I r h;obtain⟨i,j,rfl,q⟩:=h;obtain⟨O,u2,rfl,⟨t,rfl⟩,⟨t',rfl⟩⟩:=vals2 r;refine call_range_2 ?_;refine⟨.ref s.heap.objs.size,_,I.laid (t':=_) (o:=.BI i j) (λb z q=>X2 _ q) (X5 _) ⟨_,_,_,X4 _ rfl⟩,rfl,q _ (I.hok.fresh (X5 _))⟩
theorem tJ(hc:X.calm=true):gJ X (.type "list") (λxs H Q=>∃p lo hi,xs=[.ref p]/\H p=some (.BI lo hi)/\0<=lo/\lo<=hi/\hi<=1000/\∀l,H l=none->Q (.ref l) (upd H l (.lst (lx lo hi)))):=by
 intro ac s σ H xs us Q I r h;obtain⟨p,lo,hi,rfl,hp,h0,h1,h2,q⟩:=h;obtain⟨u,rfl,rx⟩:=vals1 r;cases rx;obtain⟨t,u,v,e⟩:=I.hok p _ hp;have AR:Builtin.Range.rangeSize lo hi 1=((hi-lo).toNat:Int):=by unfold Builtin.Range.rangeSize;rw[YG (by decide),Int.ediv_one];split<;>omega
 refine call_list_range (I.ok.hd hc) e ?_ AR (by omega) λh' tk O c' hk hl hi'=>?_
 ·unfold Builtin.Range.small;rw[AR];have f:∀z:Int,0<=z->z<=1001->Builtin.Range.rangeFitsLong z=true:=λz a b=>by unfold Builtin.Range.rangeFitsLong;simp;omega
  rw[f lo (by omega) (by omega),f hi (by omega) (by omega),f 1 (by omega) (by omega),f _ (by omega) (by omega),YG (by decide),f (hi+(1-1)) (by omega) (by omega)];simp
 ·have hV:Vals (lx lo hi) O.toList:=by
   have U:O.toList.length=(hi-lo).toNat:=by rw[YU];exact hi'.1
   have gen:∀(us:Z4)(k:Nat),(∀j v,us[j]? = some v->∃t,v=Value.int (lo+((k+j:Nat):Int)) t)->Vals ((List.range' k us.length).map λi=>V.int (lo+(i:Nat))) us:=by
    intro us;induction us with
    |nil=>intro k _;exact .nil
    |cons w us ih =>
     intro k hw;rw[YB,List.range'_succ,YT];exact .cons (by obtain⟨t,z⟩:=hw 0 w rfl;exact⟨t,z⟩) (ih (k+1) λj v hj=>by obtain⟨t,z⟩:=hw (j+1) v (by simpa using hj);exact⟨t,by rw[z];congr 1;omega⟩)
   have:=gen O.toList 0 λj v hj=>by obtain⟨t,z⟩:=hi'.2 j v (by simpa using hj);exact⟨t,by rw[z,Nat.zero_add,Int.mul_one]⟩
   unfold lx;rw[U,←List.range_eq_range']at this;exact this
  refine⟨.ref s.heap.objs.size,_,I.laid (t':=tk) (o:=.lst (lx lo hi)) hk (X5 _) ⟨?_,O.toList,c',hV,by simpa using hl⟩,rfl,q _ (I.hok.fresh (X5 _))⟩;unfold lx;rw[X9,List.length_range];exact X6 (show(hi-lo).toNat<=1000 by omega) (by decide)
end
end L2
namespace L2
open PySem
section
variable{X:Cx}{e c:Expr}{te:TE}{tc:TT}{t u:TS}{st:Stmt}{rest body:List Stmt}{pos pos2:Pos}
theorem fW(h1:PS X st t)(h2:SO X rest u):SO X (st::rest) (vI t u):=⟨ao h1 h2.h⟩
theorem e8(z:EO X e te):SO X [.Return (some e) pos] (Jh te):=⟨ay z.h⟩
theorem gX(O:PT X c tc)(U:SO X body t)(z:SO X rest u):SO X (.If c body [] pos::rest) (vI (Cd tc t uk) u):=⟨ao (fi O U.h dc) z.h⟩
theorem bp(h:PE X e te):EO X e te:=⟨h⟩
end
end L2
namespace My
open PySem L2
def cellsV(s:Str):List V:=if s="w" then [.str "a",.str "b",.str "cc",.str "zzzzzzzz"]else [.int 0,.int 1,.int 2,.int 7,.int (-(10 ^ 59))]
inductive qC(vs:List V)(H:Hp)(Q:VK)(E:XK):Prop
 |mk (s:Str) (_:vs=[.str s]) (_:∀l H',H l=none->aH H H'->H' l=some (.lst (cellsV s))->Q (.ref l) H'):qC vs H Q E
theorem pD(s:Str):4<=(cellsV s).length/\(cellsV s).length<=5:=by unfold cellsV;split<;>decide
theorem nU{s:Str}{v:V}(h:v∈cellsV s):nK v/\(s="n"\/s="w"->sW v=s):=by
 unfold cellsV at h;split at h
 ·rename_i e;simp only[Ym,YH,or_false]at h;rcases h with rfl|rfl|rfl|rfl<;>exact⟨.inr ⟨_,rfl⟩,λ_=>by rw[e];rfl⟩
 ·rename_i e;simp only[Ym,YH,or_false]at h;have k:s="n"\/s="w"->("n" : Str)=s:=λz=>by
   rcases z with z|z
   ·exact z.symm
   ·exact YE z e
  rcases h with rfl|rfl|rfl|rfl|rfl<;>exact⟨.inl ⟨_,rfl⟩,k⟩
abbrev jZ:Stmt:=top 79
theorem sZ:ax ["_law_sort"] ["_law_sort"] (aq jZ):=fs
variable{P:Program}{w:World}{K:YY}{mg:Z0}{base:Heap}
theorem Ck(F:FA K mg "_law_cells" jZ) :
  bz bx P w K mg base 1 "_law_cells" ["_law_sort"] qC:=by
 refine F.ok sZ λf cdv A outer s H vs Q E O h=>?_;obtain⟨s,rfl,q⟩:=h;refine⟨_,(bE (ba bH (pv 0) aD) (bw (aa aD (aa aD (aa aD (aa aD ag)))))
   (ay (bw (aa aj (aa aj (aa aj (aa aj (aa (Gs zX (aL Dn aj aj)) ag)))))))),?_⟩
 refine⟨_,rfl,rfl,_,rfl,?_⟩;rw[eQ];by_cases e:s="w"
 ·rw[X8 e];refine cJ ⟨zw,λl z=>q l _ z (ai z _) ?_⟩;rw[ae,cellsV,YG e]
 ·rw[X7 e];refine cK (bR ⟨_,_,rfl,rfl,⟨by decide,by decide,by decide⟩,_,rfl,KJ,λl z=>q l _ z (ai z _) ?_⟩);rw[ae,cellsV,YF e];rfl
def Ao(s:Str):Str:=if s="w" then "w" else "n"
inductive vH(vs:List V)(H:Hp)(Q:VK)(E:XK):Prop
 |mk (p:Addr) (s:Str) (_:vs=[.ref p,.str s]) (_:c5 H p) (_:∀(a:Addr) xs H',bt p H H'->H' a=some (.tup (.str (Ao s)::xs))->Q (.ref a) H'):vH vs H Q E
abbrev nk:Stmt:=top 80
theorem xM:ax ["_law_pot_here","_law_sort"] ["_law_pot_here","_law_sort"] (aq nk):=fs
theorem Hu(F:FA K mg "_law_set" nk)
  (av:bz bx P w K mg base 1 "_law_draw" ZC eA) :
  bz bx P w K mg base 2 "_law_set" ["_law_pot_here","_law_sort"] vH:=by
 refine F.ok xM λf cdv A outer s H vs Q E hr h=>?_;have hu:=fJ hr;obtain⟨p,s,rfl,hP,q⟩:=h;refine Bc (gX (ba bH (pv 1) aD) (e8 (bJ (au (bp aD) (au (bp (gH bH (aG av hr (aa (pv 0) (aa aj ag))) aj)) (au (uf (r:=jt K) zH (bJ (au (bJ (au (bp aD) bB)) (au (bJ (au (bp aD) (au (bp aD) bB))) (au (bJ (au (bp aD) (au (bp aD) bB))) (au (bJ bB) bB))))) (bp (aG av hr (aa (pv 0) (aa aj ag)))) (λ_ _=>rfl)) bB)))))
  (e8 (bJ (au (bp aD) (au (uf (r:=jt K) zH (bJ (au (bJ (au (bJ (au (bp aj) (au (bp aj) bB))) bB)) (au (bJ (au (bJ (au (bp dk) (au (bp aj) bB))) (au (bJ (au (bp aj) (au (bp aj) bB))) bB))) (au (bJ (au (bJ (au (bp aj) (au (bp dk) bB))) bB)) (au (bJ bB) bB))))) (bp (aG av hr (aa (pv 0) (aa aj ag)))) (λ_ _=>rfl)) bB))))) ?_
 refine⟨_,rfl,rfl,_,rfl,?_⟩;rw[eQ];by_cases e:s="w"
 ·rw[X8 e];have q:∀(a:Addr) xs H',bt p H H'->H' a=some (.tup (.str "w"::xs))->Q (.ref a) H':=by rw[Ao,YG e]at q;exact q
  refine cJ ⟨_,rfl,p,_,rfl,hP,by decide,by decide,λd H1 g1 a1 b1=>⟨rfl,eG,λO h1=>⟨cS,λu2 h2=>⟨cS,λz h3=>⟨sG,λU h4=>⟨zw,λu5 h5=>?_⟩⟩⟩⟩⟩⟩;have g5:=bt.new (o:=.tup [.ref O,.ref u2,.ref z,.ref U]) ((((g1.new h1).new h2).new h3).new h4) h5;have hu:upd (upd (upd (upd (upd H1 O (.tup [.str "a"])) u2 (.tup [.str "a",.str "cc"])) z (.tup [.str "b",.str "d"])) U (.tup [])) u5 (.tup [.ref O,.ref u2,.ref z,.ref U]) u5=some (.tup [.ref O,.ref u2,.ref z,.ref U]):=ae;refine⟨_,rfl,p,_,rfl,g5.bV,by decide,by decide,λd2 H2 g2 a2 b2=>?_⟩;obtain⟨v,hv,_⟩:=iL (xs:=[V.ref O,.ref u2,.ref z,.ref U]) a2 b2;exact⟨u5,_,_,v,rfl,rfl,aX.of (kN g5.bV g2 hu),hv,cz,λu6 h6=>q u6 _ _ ((g5.trans g2).new h6) ae⟩
 ·rw[X7 e];have q:∀(a:Addr) xs H',bt p H H'->H' a=some (.tup (.str "n"::xs))->Q (.ref a) H':=by rw[Ao,YF e]at q;exact q
  have g0:=bt.refl hP;refine cK (bR ⟨cS,λO h1=>⟨eG,λu2 h2=>⟨cS,λz h3=>⟨cS,λU h4=>⟨cS,λu5 h5=>⟨cS,λu6 h6=>⟨eG,λu7 h7=>⟨sG,λu8 h8=>⟨zw,λu9 h9=>?_⟩⟩⟩⟩⟩⟩⟩⟩⟩);have g9:=bt.new (o:=.tup [.ref u2,.ref u5,.ref u7,.ref u8]) ((((((((g0.new h1).new h2).new h3).new h4).new h5).new h6).new h7).new h8) h9;refine⟨_,rfl,p,_,rfl,g9.bV,by decide,by decide,λd2 H2 g2 a2 b2=>?_⟩;obtain⟨v,hv,_⟩:=iL (xs:=[V.ref u2,.ref u5,.ref u7,.ref u8]) a2 b2;exact⟨u9,_,_,v,rfl,rfl,aX.of (kN g9.bV g2 ae),hv,cS,λu6 h6=>q u6 _ _ ((g9.trans g2).new h6) ae⟩
inductive mh(vs:List V)(H:Hp)(Q:VK)(E:XK):Prop
 |mk (p:Addr) (w lo hi:Nat) (_:vs=[.ref p,.int (w:Nat),.int (lo:Nat),.int (hi:Nat)]) (_:c5 H p) (_:1<=w) (_:w<=100) (_:lo<=hi) (_:hi<=100) (_:∀(t:Addr)(cs:List Int) H',bt p H H'->H' t=some (.tup (cs.map V.int))->lo<=cs.length->cs.length<=hi->(∀c∈cs,1<=c/\c<=w)->Q (.ref t) H'):mh vs H Q E
abbrev iC:Stmt:=top 82
theorem qk:ax ZP ZP (aq iC):=fs
theorem FQ(B:j_ mg)(F:FA K mg "_law_columns" iC)
  (av:bz bx P w K mg base 1 "_law_draw" ZC eA) :
  bz bx P w K mg base 2 "_law_columns" ZP mh:=by
 refine F.ok qk λf cdv A outer s H vs Q E hr h=>?_;obtain⟨p,w,lo,hi,rfl,hP,w1,w2,l1,l2,q⟩:=h;refine⟨_,(ay (bA bu rfl B.tuple YM (aa (bM (N':=["_law_k","_law_pot_here","_law_wide"]) (src:=[none,some 0,some 1]) rfl (bq.jN (by kernel_rfl)) (c9 rfl B.range (aa (aL cw (pv 2) (aG av hr (aa (pv 0) (aa (aL cw (aL bN (pv 3) (pv 2)) aj) ag)))) ag)) (λcl C s H fp=>(gg (i:=0))) (λcl C s H fp=>bD) (te:=(eC (sy λi j=>V.int (i+j)) (tC (.int 1)) (lj eA [] E0 (c6 (br 1) (c6 (br 2) ll))))) (λcl C s H fp=>(aL cw aj (aG (hg:=GJ) av hr (aa (oH 1) (aa (oH 2) ag)))))) ag))),?_⟩;refine⟨_,rfl,_,rfl,_,rfl,_,rfl,_,_,rfl,rfl,_,_,rfl,rfl,p,_,rfl,hP,by omega,cy (by omega) (by omega),λd H1 U a1 b1=>⟨_,_,rfl,rfl,_,rfl,(ig (by omega) (by omega)).1,(ig (by omega) (by omega)).2,λD O=>?_⟩⟩;have nD:=U.ne O;have QH:H1 D=none:=O;refine eT (n:=((lo:Int)+d).toNat) (λi σ ys H'=>(∃o,σ=[o,some (.ref p),some (.int (w:Nat))])/\(∃ns:List Int,ys=ns.map V.int/\ns.length=i/\∀n∈ns,1<=n/\n<=w)/\H' D=some (.lst ys)/\bt p H1 H')
  ⟨⟨none,rfl⟩,⟨[],rfl,rfl,by simp⟩,ae,(bt.refl U.bV).new O⟩ ?_ ?_ ?_ ?_
 ·rintro i σ ys H' _ ⟨_,⟨ns,rfl,rfl,_⟩,h,_⟩;exact⟨h,by rw[X9];exact X5 _⟩
 ·exact X6 (show((lo:Int)+d).toNat<=300 by omega) (by decide)
 ·rintro i σ ys H' hi ⟨⟨o,rfl⟩,⟨ns,rfl,rfl,hp⟩,h,g⟩;refine ak ?_;refine⟨_,rfl,_,rfl,p,_,rfl,g.bV,by omega,cy (by omega) (by omega),λn H2 g2 n1 n2=>⟨_,_,rfl,rfl,g2.keep D _ nD h,⟨_,rfl⟩,⟨ns++[1+n],by rw[Ya];rfl,by rw[X_];rfl,λk hk=>?_⟩,ae,(bt.refl U.bV).put O nD (g.trans g2)⟩⟩;rcases Yo.mp hk with z|z
  ·exact hp k z
  ·rw[Yk.mp z];omega
 ·rintro σ ys H' ⟨_,⟨ns,rfl,hn,hp⟩,h,g⟩;exact⟨D,_,rfl,.inl ⟨bb.of h,λt ht=>q t ns _ ((U.trans g).new ht) ae (by omega) (by omega) hp⟩⟩
inductive oM(vs:List V)(H:Hp)(Q:VK)(E:XK):Prop
 |mk (p:Addr) (s g:Str) (_:vs=[.ref p,.str s,.str g]) (_:c5 H p) (_:∀(t:Addr)(bs:Z6)(ps:List (V×V)) H',bt p H H'->cn vF H' t bs ps->1<=ps.length->ps.length<=3->(∀q∈ps,q.1∈cellsV s/\q.2∈cellsV g)->Q (.ref t) H'):oM vs H Q E
theorem jP{α:Type}{At:Hp->Addr->α->Prop}{H H':Hp}{bs:Z6}{xs:List α}{a:Addr}{x:α}(hl:bs.length=xs.length)(h:∀(i:Nat) a x,bs[i]? = some a->xs[i]? = some x->At H a x)(k:∀a x,At H a x->At H' a x)(hx:At H' a x):(bs++[a]).length=(xs++[x]).length/\∀(i:Nat) b y,(bs++[a])[i]? = some b->(xs++[x])[i]? = some y->At H' b y:=by
 refine⟨by rw[X_,X_,hl];rfl,λi b y z U=>?_⟩;by_cases hi:i<bs.length
 ·rw[Yt hi]at z;rw[Yt (by omega)]at U;exact k _ _ (h i b y z U)
 ·have O:i=bs.length:=by have:=(Yj.mp z).1;rw[X_]at this;simp at this;omega
  rw[O,Ys (X5 _),Nat.sub_self]at z;rw[O,hl,Ys (X5 _),Nat.sub_self]at U;cases z;cases U;exact hx
abbrev j8:Stmt:=top 81
theorem fm:ax ["_law_pot_here","_law_sort","_law_goal","_law_cells_here","_law_goals","_law_begin","_law_found","_law_k"] ["_law_pot_here","_law_sort","_law_goal"] (aq j8):=fs
theorem CK(B:j_ mg)(F:FA K mg "_law_pairs" j8)
  (av:bz bx P w K mg base 1 "_law_draw" ZC eA)
  (ik:bz bx P w K mg base 1 "_law_cells" ["_law_sort"] qC) :
  bz bx P w K mg base 2 "_law_pairs" ["_law_pot_here","_law_sort","_law_goal"] oM:=by
 refine F.ok fm λf cdv A outer s H vs Q E hr h=>?_;obtain⟨p,s,g,rfl,hP,q⟩:=h;refine⟨_,(ao (vp (i:=3) (j:=4) rfl fm.nd rfl rfl (by decide) rfl rfl (aa (aG ik hr (aa (pv 1) ag)) (aa (aG ik hr (aa (pv 2) ag)) ag)) rfl)
   (ao (aU (i:=5) fm.nd rfl (YI rfl) (aG av hr (aa (pv 0) (aa (aP aM rfl B.len YW (aa (pv 3) ag)) ag))))
   (ao (aU (i:=6) fm.nd rfl (YI rfl) (bw ag))
   (ao (dR PassesOwn.never rfl (c9 rfl B.range (aa (aL cw aj (aG av hr (aa (pv 0) (aa aj ag)))) ag)) (aQ (i:=7) fm.nd rfl (YI rfl))
    (bC (cN (gN PySem.F.plainAttrs_list PySem.F.slot_list_append PySem.F.type_list_append cb (pv 6) (aa (aW (aa (bf K (pv 3) (aL rC (aL cw (pv 5) (pv 7)) (aP aM rfl B.len YW (aa (pv 3) ag)))) (aa (bf K (pv 4) (aG av hr (aa (pv 0) (aa (aP aM rfl B.len YW (aa (pv 4) ag)) ag)))) ag))) ag)))))
   (ay (bA bu rfl B.tuple YM (aa (pv 6) ag))))))),?_⟩
 obtain⟨c1,c2⟩:=pD s;obtain⟨c3,c4⟩:=pD g;have gP:=bt.refl hP;refine⟨_,rfl,s,rfl,λU H1 n1 s1 hl1=>⟨_,rfl,g,rfl,λl2 H2 n2 s2 hl2=>⟨_,_,rfl,?_⟩⟩⟩;dsimp only;have s12:=s1.trans s2;have g2:bt p H H2:=bt.same hP s12;have m1:U≠p:=gP.ne n1;have m2:l2≠p:=(bt.same hP s1).ne n2;refine⟨_,rfl,_,rfl,U,_,rfl,.inl (bb.of (s2 _ _ hl1)),p,_,rfl,g2.bV,by omega,cy (by omega) (by omega),λd1 H3 g3 a1 b1=>ak ?_⟩;dsimp only;refine⟨Yq _,λL hL=>ak ?_⟩;dsimp only;have gL:=(bt.refl g3.bV).new (o:=.lst []) hL;have mL:L≠p:=g3.ne hL;have e1:upd H3 L (.lst []) U=some (.lst (cellsV s)):=ai hL _ _ _ (g3.keep _ _ m1 (s2 _ _ hl1));have e2:upd H3 L (.lst []) l2=some (.lst (cellsV g)):=ai hL _ _ _ (g3.keep _ _ m2 hl2);have k1:U≠L:=λz=>by rw[z,ae]at e1;have:=congrArg (λo=>match o with|some (HO.lst x)=>x.length|_=>0) e1;simp at this;omega
 have k2:l2≠L:=λz=>by rw[z,ae]at e2;have:=congrArg (λo=>match o with|some (HO.lst x)=>x.length|_=>0) e2;simp at this;omega
 have Sz:H2 L=none:=by
  cases z:H2 L with
  |none=>rfl
  |some o=>exact YE hL (by rw[g3.keep _ _ mL z];simp)
 have KQ:upd H3 L (.lst []) L=some (.lst []):=ae;have g0:bt p H2 (upd H3 L (.lst [])):=g3.trans gL;revert gL e1 e2 KQ g0;generalize upd H3 L (.lst [])=H4;intro gL e1 e2 KQ g0;refine⟨_,rfl,p,_,rfl,g0.bV,by decide,by decide,λd2 H5 g5 a2 b2=>⟨_,_,rfl,rfl,_,rfl,(ig (by omega) (by omega)).1,(ig (by omega) (by omega)).2,?_⟩⟩;refine gq (n:=(1+d2).toNat) (λi σ H'=>∃(o:Option V)(bs:Z6)(ps:List (V×V)),σ=[some (.ref p),some (.str s),some (.str g),some (.ref U),some (.ref l2),some (.int d1),some (.ref L),o]/\H' L=some (.lst (bs.map V.ref))/\(bs.length=ps.length/\∀(i:Nat) a x,bs[i]? = some a->ps[i]? = some x->vF H' a x)/\ps.length=i/\(∀q∈ps,q.1∈cellsV s/\q.2∈cellsV g)/\bt p H2 H'/\H' U=some (.lst (cellsV s))/\H' l2=some (.lst (cellsV g)))
  ⟨none,[],[],rfl,g5.keep _ _ mL KQ,⟨rfl,λi a x e=>by cases e⟩,rfl,(λ_ z=>nomatch z),g0.trans g5,g5.keep _ _ m1 e1,g5.keep _ _ m2 e2⟩ ?_ ?_
 ·rintro i σ H' hi ⟨o,bs,ps,rfl,O,⟨wo,hbt⟩,hpl,hpm,g',f1,f2⟩;refine ak ?_;dsimp only;have z0:=Int.emod_nonneg (d1+(0+(i:Int))) (show((cellsV s).length:Int)≠0 by omega);have z1:=Int.emod_lt_of_pos (d1+(0+(i:Int))) (show(0:Int)<(cellsV s).length by omega);obtain⟨v1,hv1,hm1⟩:=iL z0 z1;refine⟨_,rfl,.inl ⟨rfl,_,bb.of O⟩,_,rfl,_,rfl,_,rfl,_,_,rfl,rfl,_,rfl,U,_,rfl,.inl (bb.of f1),_,_,rfl,rfl,(by omega),U,_,_,v1,rfl,rfl,bb.of f1,hv1,_,rfl,_,rfl,_,rfl,l2,_,rfl,.inl (bb.of f2),p,_,rfl,g'.bV,by omega,cy (by omega) (by omega),λd3 H6 g6 a3 b3=>?_⟩;obtain⟨v2,hv2,hm2⟩:=iL a3 b3;have HD:=g6.keep _ _ m2 f2;refine⟨l2,_,_,v2,rfl,rfl,bb.of HD,hv2,cS,λT hT=>?_⟩;have sT:=ai hT (.tup [v1,v2]);have qv:=sT _ _ (g6.keep _ _ mL O);refine⟨L,_,_,rfl,rfl,qv,?_,_,bs++[T],ps++[(v1,v2)],rfl,by rw[ae,Ya];rfl,jP wo hbt (λa x z=>?_) ?_,by rw[X_,hpl];rfl,λq hq=>?_,(bt.refl g2.bV).put Sz mL ((g'.trans g6).new hT),?_,?_⟩
  ·rw[X9,wo,hpl];exact Yc (show i<10 by omega) (by decide)
  ·exact(aE.of sT).dP qv _ _ (kN g'.bV g6 z)
  ·exact aE.refl.dP qv _ _ ae
  ·rcases Yo.mp hq with z|z
   ·exact hpm q z
   ·rw[Yk.mp z];exact⟨Yf hm1,Yf hm2⟩
  ·rw[aI k1];exact sT _ _ (g6.keep _ _ m1 f1)
  ·rw[aI k2];exact sT _ _ HD
 ·rintro σ H' ⟨o,bs,ps,rfl,O,⟨wo,hbt⟩,hpl,hpm,g',f1,f2⟩;dsimp only;refine⟨_,rfl,L,_,rfl,.inl ⟨bb.of O,λt ht=>q t bs ps _ ((g2.trans g').new ht) ⟨ae,wo,λi a x e1 e2=>ai ht _ _ _ (hbt i a x e1 e2)⟩ (by omega) (by omega) hpm⟩⟩
abbrev bX(H:Hp)(l:Addr)(ss:Hd):Prop:=H l=some (.lst (ss.map V.str))
def cv(ss:Hd):List Int:=((List.range ss.length).filter λk=>!decide (ss.getD k ""="t")).map λ(k:Nat)=>(k:Int)+1
inductive mi(vs:List V)(H:Hp)(Q:VK)(E:XK):Prop
 |mk (l:Addr) (ss:Hd) (_:vs=[.ref l]) (_:bX H l ss) (_:ss.length<=1000) (_:∀u H',H u=none->aH H H'->H' u=some (.lst ((cv ss).map V.int))->Q (.ref u) H'):mi vs H Q E
theorem Bw{ss:Hd}{i:Nat}(h:i<ss.length):xf (ss.map V.str) (i:Int)=some (.str (ss.getD i "")):=az (j:=i) (by rw[Yu,Yd h,List.getD_eq_getElem?_getD,Yd h];rfl)
theorem Kj{x y:Str}:(!decide (V.str x=V.str y)) = !decide (x=y):=by rw[eQ]
abbrev jJ:Stmt:=top 84
theorem sS:ax ZK ZK (aq jJ):=fs
theorem BL(B:j_ mg)(F:FA K mg "_law_plain" jJ) :
  bz bx P w K mg base 1 "_law_plain" ZK mi:=by
 refine F.ok sS λf cdv A outer s H vs Q E hr h=>?_;obtain⟨l,ss,rfl,hl,hz,q⟩:=h;refine⟨_,(ay (bM (N':=["_law_k","_law_sorts"]) (src:=[none,some 0]) rfl (bq.jN (by kernel_rfl)) (c9 rfl B.range (aa (aP aM rfl B.len YW (aa (pv 0) ag)) ag)) (λcl C s H fp=>(gg (i:=0))) (tc:=(gD (eC SH (eC (iE K) (br 1) (br 0)) (tC (.str "t"))))) (λcl C s H fp=>dX (ba xV (bf K (oH 1) (gK 0)) aD)) (te:=(eC (sy λi j=>V.int (i+j)) (br 0) (tC (.int 1)))) (λcl C s H fp=>(aL cw (gK 0) aj)))),?_⟩;have hn:(ss.map V.str).length=ss.length:=X9 ..;refine⟨_,rfl,l,_,rfl,.inl (bb.of hl),_,rfl,(ig (by omega) (by rw[hn];omega)).1,(ig (by omega) (by rw[hn];omega)).2,λD O=>?_⟩;refine eT (n:=(((ss.map V.str).length:Nat):Int).toNat) (λi σ ys H'=>(∃o,σ=[o,some (.ref l)])/\ys=(((List.range i).filter λk=>!decide (ss.getD k ""="t")).map λ(k:Nat)=>(k:Int)+1).map V.int/\ys.length<=i/\H' D=some (.lst ys)/\aH H H') ⟨⟨none,rfl⟩,rfl,X5 _,ae,ai O _⟩ ?_ ?_ ?_ ?_
 ·rintro i σ ys H' _ ⟨_,_,hi,h,_⟩;exact⟨h,hi⟩
 ·rw[hn];exact X6 (show((ss.length:Nat):Int).toNat<=1000 by omega) (by decide)
 ·rintro i σ ys H' hi ⟨⟨o,rfl⟩,rfl,z,h,sm⟩;have U:i<ss.length:=by rw[hn]at hi;omega
  refine ak ?_;refine⟨_,rfl,_,rfl,l,_,_,_,rfl,rfl,bb.of (sm _ _ hl),by rw[show(0:Int)+(i:Int)=(i:Int) by omega];exact Bw U,rfl,_,rfl,?_⟩;rw[Kj];by_cases e:ss.getD i ""="t"
  ·rw[X8 e];refine cK ⟨⟨_,rfl⟩,?_,Nat.le_succ_of_le z,h,sm⟩;rw[List.range_succ,List.filter_append,List.filter_cons_of_neg (by rw[X8 e];exact Yh)];simp
  ·rw[X7 e];refine cJ ⟨_,rfl,_,_,rfl,rfl,h,⟨_,rfl⟩,?_,?_,ae,bg O sm⟩
   ·rw[List.range_succ,List.filter_append,List.filter_cons_of_pos (by rw[X7 e];rfl),Ya,Ya];simp
   ·rw[X_];exact Nat.succ_le_succ z
 ·rintro σ ys H' ⟨_,rfl,_,h,sm⟩;refine q D _ O sm ?_;rw[h,hn];rfl
def SI:D:=.tup [.str "n",.tup [.tup [.non,.non]]]
def Sd:D:=.tup [.str "n",.tup [.tup [.int 0,.int 9]]]
def QP:D:=.tup [.str "w",.bl false,.tup []]
def RY:D:=.tup [.str "w",.bl true,.tup [.str "a",.str "b",.str "cc"]]
def Pu:List D:=[SI,Sd,QP,RY]
def xi:D->Str
 | .tup (.str s::_)=>s
 |_=>""
theorem jX{d:D}(h:d∈Pu):Ia d=true/\(xi d="n"\/xi d="w")/\d.depth<=3/\∃s r,d=.tup (.str s::r):=by
 simp only[Pu,Ym,YH,or_false]at h;rcases h with rfl|rfl|rfl|rfl
 ·exact⟨rfl,.inl rfl,by simp[SI,D.depth,cG],_,_,rfl⟩
 ·exact⟨rfl,.inl rfl,by simp[Sd,D.depth,cG],_,_,rfl⟩
 ·exact⟨rfl,.inr rfl,by simp[QP,D.depth,cG],_,_,rfl⟩
 ·exact⟨rfl,.inr rfl,by simp[RY,D.depth,cG],_,_,rfl⟩
structure IX(K:YY)(H:Hp)(l:Addr)(us:List V)(ds:List D):Prop where
 lst:H l=some (.lst us)
 dat:aK K H ds us
 mem:∀d∈ds,d∈Pu
 pos:1<=ds.length
 few:ds.length<=4
theorem IX.kd{K:YY}{H:Hp}{l:Addr}{us:List V}{ds:List D}(h:IX K H l us ds):sI K H l us (ds.map xi):=by refine⟨h.lst,by rw[X9,h.dat.length],λi v s U O=>?_⟩;obtain⟨d,z,e4⟩:=h.dat.get U;rw[Yu,z]at O;cases O;obtain⟨_,_,_,s,r,rfl⟩:=jX (h.mem d (Yf z));obtain⟨a,vs,rfl,h1,h2⟩:=ja e4;obtain⟨v1,r1,rfl,h3,h4⟩:=ez h2;rw[FF h3]at h1;exact⟨a,r1,rfl,h1⟩
inductive vY(K:YY)(vs:List V)(H:Hp)(Q:VK)(E:XK):Prop
 |mk (p:Addr) (_:vs=[.ref p]) (_:c5 H p) (_:∀(l:Addr) us ds H',bt p H H'->IX K H' l us ds->Q (.ref l) H'):vY K vs H Q E
abbrev lQ:Stmt:=top 78
theorem ow:ax ["_law_pot_here","_law_some"] ["_law_pot_here"] (aq lQ):=fs
theorem Gu(B:j_ mg)(F:FA K mg "_law_kind" lQ)
  (av:bz bx P w K mg base 1 "_law_draw" ZC eA) :
  bz bx P w K mg base 2 "_law_kind" ["_law_pot_here"] (vY K):=by
 refine F.ok ow λf cdv A outer s H vs Q E hr h=>?_;obtain⟨p,rfl,hP,q⟩:=h;refine Bc (MN (i:=1) ow.nd rfl (Or.inr rfl) (An (au (bJ (au (bp aD) (au (bJ (au (bJ (au (bp dk) (au (bp dk) bB))) bB)) bB))) (au (bJ (au (bp aD) (au (bJ (au (bJ (au (bp aj) (au (bp aj) bB))) bB)) bB))) (au (bJ (au (bp aD) (au (bp cR) (au (bJ bB) bB)))) (au (bJ (au (bp aD) (au (bp cR) (au (bJ (au (bp aD) (au (bp aD) (au (bp aD) bB)))) bB)))) bB)))))
  (e8 (bp (bM (N':=["_law_k","_law_pot_here","_law_some"]) (src:=[none,some 0,some 1]) rfl (bq.jN (by kernel_rfl)) (c9 rfl B.range (aa (aL cw aj (aG av hr (aa (pv 0) (aa aj ag)))) ag)) (λcl C s H fp=>(gg (i:=0))) (λcl C s H fp=>bD) (te:=(eC (iE K) (br 2) (lj eA [] E0 (c6 (br 1) (c6 (tC (.int 4)) ll))))) (λcl C s H fp=>(bf K (oH 2) (aG (hg:=GJ) av hr (aa (oH 1) (aa aj ag))))))))) ?_
 have g0:=bt.refl hP;refine⟨cS,λu1 h1=>⟨eG,λu2 h2=>⟨cS,λU h3=>⟨cS,λu4 h4=>⟨eG,λu5 h5=>⟨cS,λu6 h6=>⟨sG,λu7 h7=>⟨cz,λO h8=>⟨cz,λu9 h9=>⟨cz,λGz h10=>?_⟩⟩⟩⟩⟩⟩⟩⟩⟩⟩;have s1:=ai h1 (.tup [.non,.non]);have s2:=ai h2 (.tup [.ref u1]);have s3:=ai h3 (.tup [.str "n",.ref u2]);have s4:=ai h4 (.tup [.int 0,.int 9]);have s5:=ai h5 (.tup [.ref u4]);have s6:=ai h6 (.tup [.str "n",.ref u5]);have s7:=ai h7 (.tup []);have s8:=ai h8 (.tup [.str "w",.bl false,.ref u7]);have s9:=ai h9 (.tup [.str "a",.str "b",.str "cc"]);have qN:=ai h10 (.tup [.str "w",.bl true,.ref u9]);have dA:a_ K _ SI (.ref U):=a_.same (s4.trans (s5.trans (s6.trans (s7.trans (s8.trans (s9.trans qN)))))) (cY ae (aK.cons (iY _) (aK.cons (a_.same s3 (cY ae (aK.cons (a_.same s2 (cY ae (aK.cons wa (aK.cons wa aK.nil)))) aK.nil))) aK.nil)));have dB:a_ K _ Sd (.ref u6):=a_.same (s7.trans (s8.trans (s9.trans qN))) (cY ae (aK.cons (iY _) (aK.cons (a_.same s6 (cY ae (aK.cons (a_.same s5 (cY ae (aK.cons (oK _) (aK.cons (oK _) aK.nil)))) aK.nil))) aK.nil)));have dC:a_ K _ QP (.ref O):=a_.same (s9.trans qN) (cY ae (aK.cons (iY _) (aK.cons (vm _) (aK.cons (a_.same s8 (cY ae aK.nil)) aK.nil))));have dD:a_ K _ RY (.ref Gz):=cY ae (aK.cons (iY _) (aK.cons (vm _) (aK.cons (a_.same qN (cY ae (aK.cons (iY _) (aK.cons (iY _) (aK.cons (iY _) aK.nil))))) aK.nil)));have dd:=aK.cons dA (aK.cons dB (aK.cons dC (aK.cons dD aK.nil)));have sA:=s1.trans (s2.trans (s3.trans (s4.trans (s5.trans (s6.trans (s7.trans (s8.trans (s9.trans qN))))))));revert sA dd;generalize upd (upd (upd (upd (upd (upd (upd (upd (upd (upd H u1 (.tup [.non,.non])) u2 (.tup [.ref u1])) U (.tup [.str "n",.ref u2])) u4 (.tup [.int 0,.int 9])) u5 (.tup [.ref u4])) u6 (.tup [.str "n",.ref u5])) u7 (.tup [])) O (.tup [.str "w",.bl false,.ref u7])) u9 (.tup [.str "a",.str "b",.str "cc"])) Gz (.tup [.str "w",.bl true,.ref u9])=H0;intro dd sA;clear dA dB dC dD s1 s2 s3 s4 s5 s6 s7 s8 s9 qN h1 h2 h3 h4 h5 h6 h7 h8 h9 h10;refine⟨zw,λL hL=>ak ?_⟩;dsimp only;have sL:=ai hL (.lst [.ref U,.ref u6,.ref O,.ref Gz]);have KQ:upd H0 L (.lst [.ref U,.ref u6,.ref O,.ref Gz]) L=some (.lst [.ref U,.ref u6,.ref O,.ref Gz]):=ae;have dd:=dd.same sL;have sB:=sA.trans sL;revert sB dd KQ;generalize upd H0 L (.lst [.ref U,.ref u6,.ref O,.ref Gz])=H1;intro KQ dd sB;have g1:bt p H H1:=bt.same hP sB;have mL:L≠p:=λz=>by obtain⟨x,y,e,_⟩:=hP;have:=sA _ _ e;rw[←z,hL]at this;cases this
 refine⟨_,rfl,p,_,rfl,g1.bV,by decide,by decide,λd H2 g2 a1 b1=>⟨_,_,rfl,rfl,_,rfl,(ig (by omega) (by omega)).1,(ig (by omega) (by omega)).2,λD hD=>?_⟩⟩;have nD:=g2.ne hD;have QH:H1 D=none:=by
  cases z:H1 D with
  |none=>rfl
  |some o=>exact YE hD (by rw[g2.keep _ _ nD z];simp)
 have nl:qt Pu=true:=kX.mpr λd hd=>(jX hd).1;refine eT (n:=(1+d).toNat) (λi σ ys H'=>(∃o,σ=[o,some (.ref p),some (.ref L)])/\(∃ds,aK K H' ds ys/\ds.length=i/\∀d∈ds,d∈Pu)/\H' D=some (.lst ys)/\bt p H1 H')
  ⟨⟨none,rfl⟩,⟨[],aK.nil,rfl,by simp⟩,ae,g2.new hD⟩ ?_ ?_ ?_ ?_
 ·rintro i σ ys H' _ ⟨_,⟨ds,h1,rfl,_⟩,h,_⟩;exact⟨h,by rw[h1.length];exact X5 _⟩
 ·exact X6 (show(1+d).toNat<=300 by omega) (by decide)
 ·rintro i σ ys H' hi ⟨⟨o,rfl⟩,⟨ds,h1,h2,h3⟩,h,g⟩;refine ak ?_;refine⟨_,rfl,_,rfl,p,_,rfl,g.bV,by decide,by decide,λn H3 g3 n1 n2=>?_⟩;obtain⟨v,hv,hm⟩:=iL (xs:=[V.ref U,.ref u6,.ref O,.ref Gz]) n1 n2;obtain⟨dv,e1,e2⟩:=dd.get hm;have hd:=Yf e1;have LL:=g.trans g3;have A9:=g3.keep D _ nD h;refine⟨L,_,_,v,rfl,rfl,bb.of (LL.keep _ _ mL KQ),hv,A9,⟨_,rfl⟩,⟨ds++[dv],?_,by rw[X_,h2];rfl,λx hx=>?_⟩,ae,(bt.refl g1.bV).put QH nD LL⟩
  ·have Wo:qt (ds++[dv])=true:=kX.mpr λx hx=>by
    rcases Yo.mp hx with z|z
    ·exact(jX (h3 x z)).1
    ·rw[Yk.mp z];exact(jX hd).1
   refine aK.b_ (KS.dP A9) Wo ?_;refine(aK.grow g.bV g3 (kX.mpr λx hx=>(jX (h3 x hx)).1) h1).append (aK.cons (a_.grow g1.bV LL (jX hd).1 e2) aK.nil)
  ·rcases Yo.mp hx with z|z
   ·exact h3 x z
   ·rw[Yk.mp z];exact hd
 ·rintro σ ys H' ⟨_,⟨ds,h1,h2,h3⟩,h,g⟩;exact q D ys ds H' (g1.trans g) ⟨h,h1,h3,by omega,by omega⟩
theorem um{α z:Type}(g:α->z):∀(l:List α)(k:Nat),(l.map g).eraseIdx k=(l.eraseIdx k).map g
 |[],_=>rfl
 |_::_,0=>rfl
 |x::l,k+1=>congrArg (g x :: ·) (um g l k)
inductive BB(vs:List V)(H:Hp)(Q:VK)(E:XK):Prop
 |mk (p:Addr) (wd:Nat) (_:vs=[.ref p,.int (wd:Nat)]) (_:c5 H p) (_:1<=wd) (_:wd<=100) (_:∀(t:Addr)(bs:Z6)(od:Od)(H':Hp),bt p H H'->cn Jr H' t bs od->od.length<=wd->(∀q∈od,1<=q.1/\q.1<=wd)->Q (.ref t) H'):BB vs H Q E
abbrev jr:Stmt:=top 83
theorem gf:ax ["_law_pot_here","_law_wide","_law_left","_law_found","_law_k"] ["_law_pot_here","_law_wide"] (aq jr):=fs
theorem Ic(B:j_ mg)(F:FA K mg "_law_unlike" jr)
  (av:bz bx P w K mg base 1 "_law_draw" ZC eA) :
  bz bx P w K mg base 2 "_law_unlike" ["_law_pot_here","_law_wide"] BB:=by
 refine F.ok gf λf cdv A outer s H vs Q E hr h=>?_;obtain⟨p,wd,rfl,hP,w1,w2,q⟩:=h;refine⟨_,(ao (aU (i:=2) gf.nd rfl (YI rfl) (bA (tJ rfl) rfl B.list PyProof.Rows.boot_list (aa (bA ET rfl B.range PyProof.Rows.boot_range (aa aj (aa (aL cw (pv 1) aj) ag))) ag)))
   (ao (aU (i:=3) gf.nd rfl (YI rfl) (bw ag))
   (ao (dR PassesOwn.never rfl (c9 rfl B.range (aa (aL cw aj (aG av hr (aa (pv 0) (aa (pv 1) ag)))) ag)) (aQ (i:=4) gf.nd rfl (YI rfl))
    (bC (cN (gN PySem.F.plainAttrs_list PySem.F.slot_list_append PySem.F.type_list_append cb (pv 3) (aa (aW (aa (gN PySem.F.plainAttrs_list PySem.F.slot_list_pop PySem.F.type_list_pop Fd (pv 2) (aa (aG av hr (aa (pv 0) (aa (aP aM rfl B.len YW (aa (pv 2) ag)) ag))) ag)) (aa (gH bH (aG av hr (aa (pv 0) (aa aj ag))) aj) ag))) ag)))))
   (ay (bA bu rfl B.tuple YM (aa (pv 3) ag)))))),?_⟩
 refine⟨_,rfl,_,_,rfl,rfl,_,_,rfl,λr hr1=>⟨r,_,_,rfl,ae,by omega,by omega,by omega,λL hL=>ak ?_⟩⟩;dsimp only;refine⟨Yq _,λD hD=>ak ?_⟩;dsimp only;have g1:bt p H (upd H r (.BI 1 ((wd:Nat)+1))):=(bt.refl hP).new hr1;have g2:bt p H (upd (upd H r (.BI 1 ((wd:Nat)+1))) L (.lst (lx 1 ((wd:Nat)+1)))):=g1.trans ((bt.refl g1.bV).new hL);have g3:bt p H (upd (upd (upd H r (.BI 1 ((wd:Nat)+1))) L (.lst (lx 1 ((wd:Nat)+1)))) D (.lst [])):=g2.trans ((bt.refl g2.bV).new hD);have nL:L≠p:=(bt.refl g1.bV).ne hL;have nD:D≠p:=(bt.refl g2.bV).ne hD;have QG:L≠D:=λz=>by rw[←z,ae]at hD;cases hD
 have hL0:(upd (upd (upd H r (.BI 1 ((wd:Nat)+1))) L (.lst (lx 1 ((wd:Nat)+1)))) D (.lst [])) L=some (.lst (((List.range wd).map λi=>(1:Int)+(i:Nat)).map V.int)):=by rw[aI QG,ae,List.map_map];unfold lx;rw[show(((wd:Nat):Int)+1-1).toNat=wd by omega];rfl
 have R0:(upd (upd (upd H r (.BI 1 ((wd:Nat)+1))) L (.lst (lx 1 ((wd:Nat)+1)))) D (.lst [])) D=some (.lst []):=ae;have Sz:H L=none:=by
  cases z:H L with
  |none=>rfl
  |some o=>rw[aI (aY z hr1),z]at hL;cases hL
 have QH:H D=none:=by
  cases z:H D with
  |none=>rfl
  |some o =>
   by_cases e:D=L
   ·exact YE e.symm QG
   ·rw[aI e,aI (aY z hr1),z]at hD;cases hD
 revert g3 hL0 R0;generalize (upd (upd (upd H r (.BI 1 ((wd:Nat)+1))) L (.lst (lx 1 ((wd:Nat)+1)))) D (.lst []))=H0;intro g3 hL0 R0;have ng:∀{H':Hp}{o:HO}{a:Addr},H a=none->a≠p->bt p H H'->bt p H (upd H' a o):=λ{H' o a} ha na g'=>(bt.refl hP).put ha na g';refine⟨_,rfl,_,rfl,p,_,rfl,g3.bV,by omega,cy (by omega) (by omega),λd H1 gd a1 b1=>⟨_,_,rfl,rfl,_,rfl,(ig (j:=1+d) (by omega) (by omega)).1,(ig (j:=1+d) (by omega) (by omega)).2,?_⟩⟩;refine gq (n:=(1+d).toNat) (λi σ H'=>∃(o:Option V)(O:List Int)(bs:Z6)(od:Od),σ=[some (.ref p),some (.int (wd:Nat)),some (.ref L),some (.ref D),o]/\H' L=some (.lst (O.map V.int))/\O.length+i=wd/\(∀m∈O,1<=m/\m<=wd)/\
   H' D=some (.lst (bs.map V.ref))/\(bs.length=od.length/\∀(i:Nat) b q,bs[i]? = some b->od[i]? = some q->Jr H' b q)/\od.length=i/\(∀q∈od,1<=q.1/\q.1<=wd)/\bt p H H')
  ⟨none,_,[],[],rfl,gd.keep _ _ nL hL0,by simp,λm hm=>?_,gd.keep _ _ nD R0,⟨rfl,λi b q e=>by cases e⟩,rfl,(λ_ z=>nomatch z),g3.trans gd⟩ ?_ ?_
 ·obtain⟨i,hi,rfl⟩:=Yl.mp hm;have:i<wd:=by simpa using hi
  omega
 ·rintro i σ H' hi ⟨o,O,bs,od,rfl,hL',QS,hmb,hD',⟨wo,hbt⟩,hol,hob,g'⟩;have hms:1<=O.length:=by omega
  have II:(O.map V.int).length=O.length:=X9 ..;refine ak ?_;dsimp only;refine⟨_,rfl,.inl ⟨rfl,_,bb.of hD'⟩,_,rfl,.inl ⟨rfl,_,bb.of hL'⟩,_,rfl,_,rfl,L,_,rfl,.inl (bb.of hL'),p,_,rfl,g'.bV,by rw[II];omega,cy (by rw[II];omega) (by rw[II];omega),λU H2 Nj a2 b2=>?_⟩;rw[II]at b2;have hL2:=Nj.keep _ _ nL hL';have hk:U.toNat<O.length:=by omega
  refine⟨L,_,U,U.toNat,V.int O[U.toNat],rfl,rfl,hL2,?_,?_,?_,by simp[hk],?_⟩
  ·have e:((2:Int) ^ 63)=9223372036854775808:=by decide
   rw[e];omega
  ·have e:((2:Int) ^ 63)=9223372036854775808:=by decide
   rw[e];omega
  ·rw[II];exact PySem.seqIndex_of a2 b2
  ·have gA:bt p H (upd H2 L (.lst ((O.map V.int).eraseIdx U.toNat))):=ng Sz nL (g'.trans Nj);refine⟨_,rfl,p,_,rfl,gA.bV,by omega,cy (by omega) (by omega),λd2 H4 g4 a4 b4=>⟨rfl,cS,λT hT=>?_⟩⟩;have I_:H4 L=some (.lst ((O.eraseIdx U.toNat).map V.int)):=by have:=g4.keep _ _ nL ae;rw[this,um]
   have A9:(upd H2 L (.lst ((O.map V.int).eraseIdx U.toNat))) D=some (.lst (bs.map V.ref)):=by rw[aI QG.symm];exact Nj.keep _ _ nD hD'
   have Nw:=g4.keep _ _ nD A9;have sT:=ai hT (.tup [.int O[U.toNat],.bl (decide (V.int d2=V.int 1))]);have tp:aE H' H4:=((aE.grow g'.bV Nj).dP hL2).trans (aE.grow gA.bV g4);have hDT:=sT _ _ Nw;refine⟨D,_,.ref T,rfl,rfl,hDT,?_,?_⟩
   ·rw[X9,wo];exact Yb (show od.length<=1000 by omega) (by decide)
   ·refine⟨_,O.eraseIdx U.toNat,bs++[T],od++[(O[U.toNat],decide (V.int d2=V.int 1))],rfl,?_,?_,λm hm=>hmb m (List.mem_of_mem_eraseIdx hm),by rw[ae,Ya];rfl,jP wo hbt (λa x z=>(tp.trans (aE.of sT)).dP hDT _ _ z) (aE.refl.dP hDT _ _ ae),by rw[X_,hol];rfl,λq' hq'=>?_,ng QH nD ((gA.trans g4).trans ((bt.refl (gA.trans g4).bV).new hT))⟩
    ·rw[aI QG];exact sT _ _ I_
    ·rw[List.length_eraseIdx_of_lt hk];omega
    ·rcases Yo.mp hq' with z|z
     ·exact hob q' z
     ·rw[Yk.mp z];exact hmb _ (List.getElem_mem hk)
 ·rintro σ H' ⟨o,O,bs,od,rfl,hL',QS,hmb,hD',⟨wo,hbt⟩,hol,hob,g'⟩;dsimp only;exact⟨_,rfl,D,_,rfl,.inl ⟨bb.of hD',λt ht=>q t bs od _ (g'.new ht) ⟨ae,wo,λi a x e1 e2=>ai ht _ _ _ (hbt i a x e1 e2)⟩ (by omega) hob⟩⟩
end My
namespace L2
open PySem
inductive MK(neg:Bool)(x:V)(y:V)(H:Hp)(Q:VK):Prop
 |mk a b xs (_:x=.ref a) (_:y=.ref b) (_:H a=some (.lst xs)) (_:H b=some (.lst [])) (_:Q (.bl (if neg then !xs.isEmpty else xs.isEmpty)) H):MK neg x y H Q
theorem wX{X:Cx}(hu:X.A.units+8<cLine):kj X (compareOp .NotEq) (MK true):=by
 intro ac s σ H x y v u Q I O U h;obtain⟨a,b,xs,rfl,rfl,ha,hb,q⟩:=h;cases xs with
 |nil =>
  refine F0 ac s σ H _ _ v u Q I O U ⟨.lst [],.lst [],qF ha aK.nil,qF hb aK.nil,?_,?_⟩
  ·have:(D.lst []).depth<=8:=by simp[D.depth,cG]
   omega
  ·have e:dj (.lst []) (.lst [])=true:=nW _;rw[e];exact q
 |cons z zs=>exact Dl (by omega) ac s σ H _ _ v u Q I O U ⟨a,b,_,_,rfl,rfl,bb.of ha,bb.of hb,by simp,q⟩
theorem kY{X:Cx}(hu:X.A.units+8<cLine):kj X (compareOp .Eq) (MK false):=by
 intro ac s σ H x y v u Q I O U h;obtain⟨a,b,xs,rfl,rfl,ha,hb,q⟩:=h;cases xs with
 |nil =>
  refine zg ac s σ H _ _ v u Q I O U ⟨.lst [],.lst [],qF ha aK.nil,qF hb aK.nil,?_,?_⟩
  ·have:(D.lst []).depth<=8:=by simp[D.depth,cG]
   omega
  ·have e:dj (.lst []) (.lst [])=true:=nW _;rw[e];exact q
 |cons z zs=>exact Ep (by omega) ac s σ H _ _ v u Q I O U ⟨a,b,_,_,rfl,rfl,bb.of ha,bb.of hb,by simp,q⟩
end L2
namespace My
open PySem L2
theorem bL{tc:TT}{a t2:TS}{D:Ends}{σ:St}{H:Hp}(z:Bool->Hp->Prop)(O:∀T:Bool->Hp->Prop,(∀c H',z c H'->T c H')->tc σ H T)(ha:∀H',z true H'->a {D with nx:=t2 D} σ H')(U:∀H',z false H'->t2 D σ H'):vI (Cd tc a uk) t2 D σ H :=
 O _ λc H' h=>by
  cases c with
  |true=>exact cJ (ha H' h)
  |false=>exact cK (U H' h)
structure cL(ss:Hd):Prop where
 pos:1<=ss.length
 six:ss.length<=6
 GP:∀s∈ss,s="n"\/s="w"\/s="t"
structure lF(ss:Hd)(x:W1):Prop where
 col:∀c∈fU x,1<=c/\c<=ss.length
 GP:bW (.one x) [ss]=true
 hd:cL (bc (.one x) [ss])
 ok:sY (.one x)
 le:Gj x
theorem sr{ss:Hd}{c:Int}(h:1<=c/\c<=ss.length):bK ss c∈ss:=by
 have hi:(c-1).toNat<ss.length:=by omega
 unfold bK;rw[List.getD_eq_getElem?_getD,Yd hi];exact List.getElem_mem hi
theorem cL.map{ss:Hd}(h:cL ss){cs:List Int}(O:∀c∈cs,1<=c/\c<=ss.length):∀s∈cs.map (bK ss),s="n"\/s="w"\/s="t":=λs hs=>by obtain⟨c,z,rfl⟩:=Yl.mp hs;exact h.GP _ (sr (O c z))
theorem lY{x:W1}(h1:m9 x)(h2:JV x)(h3:Qh (.one x)):sY (.one x):=⟨h1,h2,h3,λp z=>(by cases z)⟩
theorem fG{ss:Hd}{c:Int}(h:c∈cv ss):(1<=c/\c<=ss.length)/\bK ss c≠"t":=by obtain⟨k,O,rfl⟩:=Yl.mp h;obtain⟨h1,h2⟩:=List.mem_filter.mp O;have h1:k<ss.length:=List.mem_range.mp h1;refine⟨by omega,λz=>?_⟩;unfold bK at z;rw[show((k:Int)+1-1).toNat=k by omega]at z;rw[z]at h2;exact YE h2 (by decide)
theorem JU{ss:Hd}(h:cL ss){c:Int}(U:1<=c/\c<=ss.length)(O:bK ss c≠"t"):bK ss c="n"\/bK ss c="w":=by
 rcases h.GP _ (sr U)with z|z|z
 ·exact .inl z
 ·exact .inr z
 ·exact YE z O
theorem wN{ss:Hd}{c:Int}(h:cL ss)(O:1<=c/\c<=ss.length):lF ss (.keep c (Ao (bK ss c))):=by refine⟨λd hd=>by rw[Yk.mp hd];exact O,?_,h,lY trivial trivial trivial,trivial⟩;show decide (Ao (bK ss c)=b_ (bK ss c))=true;rcases h.GP _ (sr O)with z|z|z<;>rw[z]<;>decide +kernel
theorem Ba{ss:Hd}{cs:List Int}(h:cL ss)(z:∀c∈cs,1<=c/\c<=ss.length)(O:1<=cs.length)(U:cs.length<=6):lF ss (.cut cs) :=
 ⟨z,rfl,⟨by show 1<=(cs.map _).length;rw[X9];exact O,by show(cs.map _).length<=6;rw[X9];exact U,h.map z⟩,lY (show cs.length<=1000 by omega) trivial trivial,trivial⟩
theorem wu{ss:Hd}{c d:Int}(h:cL ss)(U:1<=c/\c<=ss.length)(hd:1<=d/\d<=ss.length)(O:bK ss c≠"t")(e:bK ss d=bK ss c):lF ss (.same c d):=by
 refine⟨λb z=>?_,?_,h,lY trivial trivial trivial,trivial⟩
 ·simp only[fU,Ym,YH,or_false]at z;rcases z with rfl|rfl
  ·exact U
  ·exact hd
 ·show(decide (bK ss c=bK ss d) && !decide (bK ss c="t"))=true;rw[e,X8 rfl,X7 O];rfl
theorem uq{s:Str}{vs:List V}(hs:s="n"\/s="w")(h:∀v∈vs,v∈cellsV s):iZ vs s=true:=by unfold iZ;rw[X7 (by rcases hs with z|z<;>rw[z]<;>decide +kernel)];refine(YC _ _).mpr ⟨rfl,List.all_eq_true.mpr λv hv=>X8 ((nU (h v hv)).2 hs)⟩
theorem xX{ss:Hd}{c:Int}{ps:List (V×V)}(h:cL ss)(U:1<=c/\c<=ss.length)(ht:bK ss c≠"t")(l2:ps.length<=3)(O:∀q∈ps,q.1∈cellsV (bK ss c)/\q.2∈cellsV (bK ss c)):lF ss (.turn c ps):=by
 refine⟨λd hd=>by rw[Yk.mp hd];exact U,?_,h,lY (show ps.length<=1000 by omega) (λq z=>⟨(nU (O q z).1).1,(nU (O q z).2).1⟩) trivial,trivial⟩;refine uq (JU h U ht) λv hv=>?_;obtain⟨q,z,hv⟩:=List.mem_flatMap.mp hv;simp only[Ym,YH,or_false]at hv;rcases hv with rfl|rfl
 ·exact(O q z).1
 ·exact(O q z).2
inductive la(vs:List V)(H:Hp)(Q:VK)(E:XK):Prop
 |mk (p l:Addr) (ss:Hd) (_:vs=[.ref p,.ref l,.bl true]) (_:c5 H p) (_:bX H l ss) (_:cL ss) (_:∀(a:Addr)(x:W1) H',bt p H H'->h_ H' a x->lF ss x->cH x.nm=true->(eE (.one x)=true->true=false)->Q (.ref a) H'):la vs H Q E
theorem uD{H:Hp}{p l:Addr}{ss:Hd}(U:c5 H p)(O:bX H l ss)(h1:1<=ss.length):l≠p:=λz=>by
 obtain⟨a,b,e,_⟩:=U;have O:H l=some (.lst (ss.map V.str)):=O;rw[z,e]at O;cases ss with
 |nil=>cases h1
 |cons s r=>injection O with O;injection O with O;injection O with O;cases O
theorem iW{ss:Hd}{c:Int}(h:1<=c/\c<=ss.length):xf (ss.map V.str) (c-1)=some (.str (bK ss c)):=gW h
theorem lN{a b:Int}:decide (V.int a=V.int b)=decide (a=b):=by
 by_cases e:a=b
 ·rw[e];simp
 ·rw[X7 e,X7 (λz=>e (V.int.inj z))]
theorem Hg:cH "keep"=true:=by decide +kernel
theorem MT:cH "cut"=true:=by decide +kernel
theorem HZ:cH "same"=true:=by decide +kernel
theorem Hw:cH "turn"=true:=by decide +kernel
theorem pI{cs:List Int}{i:Int}{v:V}(h0:0<=i)(h1:i<((cs.map V.int).length:Nat)):∃c,xf (cs.map V.int) i=some (.int c)/\c∈cs:=by
 obtain⟨v,hv,hm⟩:=iL h0 h1;rw[Yu]at hm;cases e:cs[i.toNat]? with
 |none=>rw[e]at hm;cases hm
 |some c =>rw[e]at hm;have hm:V.int c=v:=Yr hm;subst hm;exact⟨c,hv,Yf e⟩
theorem rb{K:YY}{H:Hp}{l u D:Addr}{ss:Hd}{c:Int}{R:VK}(U:bX H l ss)(O:H u=some (.lst ((cv ss).map V.int)))(hz:((cv ss).map V.int).length<=6)(z:H D=none)(k:∀H',aH H H'->H' D=some (.lst (((cv ss).filter λe=>decide (bK ss e=bK ss c)).map V.int))->R (.ref D) H'):∃W:Nat->Nat->St->List V->Hp->Prop,(∃m,W 0 m [none,some (.ref l),some (.str (bK ss c))] [] (upd H D (.lst [])))/\qd (GB K u) (b9 0) (gD (eC Js (eC (iE K) (br 1) (eC (sy λi j=>V.int (i-j)) (br 0) (tC (.int 1)))) (br 2))) (br 0) D R W:=by
 refine el (xs:=(cv ss).map V.int) (λi σ ys H'=>(∃o1,σ=[o1,some (.ref l),some (.str (bK ss c))])/\ys=(((cv ss).take i).filter λe=>decide (bK ss e=bK ss c)).map V.int/\ys.length<=i/\H' D=some (.lst ys)/\aH H H') ⟨⟨none,rfl⟩,rfl,X5 _,ae,ai z _⟩ ?_ ?_ ?_ ?_ ?_
 ·rintro i σ ys H' _ ⟨_,_,hi,h,_⟩;exact⟨h,hi⟩
 ·rintro i σ ys H' _ ⟨_,_,_,_,sm⟩;exact bb.of (sm _ _ O)
 ·exact X6 hz (by decide)
 ·rintro i v σ ys H' hv ⟨⟨o1,rfl⟩,rfl,hi,h,sm⟩;rw[Yu]at hv;cases ee:(cv ss)[i]? with
  |none=>rw[ee]at hv;cases hv
  |some e =>
   rw[ee]at hv;cases hv;obtain⟨he,_⟩:=fG (Yf ee);refine ak ?_;refine⟨_,rfl,_,rfl,_,_,rfl,rfl,l,_,_,_,rfl,rfl,bb.of (sm _ _ U),iW he,_,rfl,rfl,_,rfl,?_⟩;rw[eQ];by_cases k:bK ss e=bK ss c
   ·rw[X8 k];refine cJ ⟨_,rfl,h,⟨_,rfl⟩,?_,?_,ae,bg z sm⟩
    ·rw[take_one ee,List.filter_append,List.filter_cons_of_pos (by rw[X8 k]),Ya];rfl
    ·rw[X_];exact Nat.succ_le_succ hi
   ·rw[X7 k];refine cK ⟨⟨_,rfl⟩,?_,Nat.le_succ_of_le hi,h,sm⟩;rw[take_one ee,List.filter_append,List.filter_cons_of_neg (by rw[X7 k];exact Yh)];simp
 rintro σ ys H' ⟨_,rfl,_,h,sm⟩;rw[X9,YJ]at h;exact k H' sm h
abbrev iy:Stmt:=top 85
theorem cF:ax ["_law_pot_here","_law_sorts","_law_loose","_law_way","_law_some","_law_column","_law_sort","_law_alike"] ["_law_pot_here","_law_sorts","_law_loose"] (aq iy):=fs
variable{P:Program}{w:World}{K:YY}{mg:Z0}{base:Heap}
theorem CO(B:j_ mg)(F:FA K mg "_law_one_row" iy)
  (av:bz bx P w K mg base 1 "_law_draw" ZC eA)
  (de:bz bx P w K mg base 1 "_law_plain" ZK mi)
  (nG:bz bx P w K mg base 2 "_law_set" ["_law_pot_here","_law_sort"] vH)
  (cU:bz bx P w K mg base 2 "_law_columns" ZP mh)
  (ij:bz bx P w K mg base 2 "_law_pairs" ["_law_pot_here","_law_sort","_law_goal"] oM) :
  bz bx P w K mg base 3 "_law_one_row" ["_law_pot_here","_law_sorts","_law_loose"] la:=by
 refine F.ok cF λf cdv A outer s H vs Q E U h=>?_;have hu:=fJ U;obtain⟨p,l,ss,rfl,hP,hl,hs,q⟩:=h;refine⟨_,(ao (aU (i:=3) cF.nd rfl (YI rfl) (aG av U (aa (pv 0) (aa aj ag))))
   (ao (aU (i:=4) cF.nd rfl (YI rfl) (aG de U (aa (pv 1) ag)))
   (ao (fi (ba bH (pv 3) aj)
    (ao (aU (i:=5) cF.nd rfl (YI rfl) (aL cw aj (aG av U (aa (pv 0) (aa (aP aM rfl B.len YW (aa (pv 1) ag)) ag)))))
     (ay (aW (aa aD (aa (pv 5) (aa (aG nG U (aa (pv 0) (aa (bf K (pv 1) (aL bN (pv 5) aj)) ag))) ag))))))
    dc)
   (bE (PW.pt (oE (ba bH (pv 3) aj) (jG (ba (kY hu) (pv 4) (bw ag))))) (aW (aa aD (aa (aG cU U (aa (pv 0) (aa (aP aM rfl B.len YW (aa (pv 1) ag)) (aa aj (aa aj ag))))) ag)))
   (ao (aU (i:=5) cF.nd rfl (YI rfl) (bf K (pv 4) (aG av U (aa (pv 0) (aa (aP aM rfl B.len YW (aa (pv 4) ag)) ag)))))
   (ao (aU (i:=6) cF.nd rfl (Or.inr rfl) (bf K (pv 1) (aL bN (pv 5) aj)))
   (ao (fE (i:=7) (N':=["_law_other_here","_law_sorts","_law_sort"]) (src:=[none,some 1,some 6]) cF.nd rfl (YI rfl) rfl rfl (bq.jN (by kernel_rfl)) (dg (pv 4)) (λcl C s H fp=>(gg (i:=0))) (tc:=(gD (eC Js (eC (iE K) (br 1) (eC (sy λi j=>V.int (i-j)) (br 0) (tC (.int 1)))) (br 2)))) (λcl C s H fp=>dX (ba bH (bf K (oH 1) (aL bN (gK 0) aj)) (oH 2))) (te:=(br 0)) (λcl C s H fp=>(gK 0)))
   (bE (ba bH (pv 3) aj) (aW (aa aD (aa (pv 5) (aa (bf K (pv 7) (aG av U (aa (pv 0) (aa (aP aM rfl B.len YW (aa (pv 7) ag)) ag)))) ag))))
   (bE (PW.pt (oE (ba bH (pv 3) aj) (jG (je (pv 2))))) (aW (aa aD (aa (pv 5) (aa (aG ij U (aa (pv 0) (aa (pv 6) (aa (pv 6) ag)))) ag))))
   (ay (aW (aa aD (aa (pv 5) (aa (aG ij U (aa (pv 0) (aa (pv 6) (aa (bf K (bw (aa aD (aa aD ag))) (aG av U (aa (pv 0) (aa aj ag)))) ag)))) ag)))))))))))))),?_⟩
 have s1:=hs.pos;have s6:=hs.six;have hn:(ss.map V.str).length=ss.length:=X9 ..;have nl:l≠p:=uD hP hl hs.pos;refine⟨_,rfl,p,_,rfl,hP,by decide,by decide,λd H1 g1 a1 b1=>ak ?_⟩;dsimp only;have hl1:bX H1 l ss:=g1.keep _ _ nl hl;refine⟨_,rfl,l,ss,rfl,hl1,X6 s6 (by decide),λu H2 Oj s2 hu'=>ak ?_⟩;dsimp only;have g2:bt p H H2:=g1.trans (bt.same g1.bV s2);have hl2:bX H2 l ss:=s2 _ _ hl1;have nu:u≠p:=g1.ne Oj;refine bL (λb H'=>b=decide (d=0)/\H2=H') (λT O=>⟨_,rfl,rfl,_,rfl,O _ _ ⟨lN,rfl⟩⟩) ?_ ?_
 ·rintro H' ⟨e,rfl⟩;refine⟨_,rfl,_,rfl,l,_,rfl,.inl (bb.of hl2),p,_,rfl,g2.bV,by omega,cy (by omega) (by omega),λd1 H3 g3 a3 b3=>⟨_,_,rfl,rfl,ak ?_⟩⟩;dsimp only;have hc:1<=1+d1/\1+d1<=ss.length:=by omega
  have M7:=g2.trans g3;refine⟨_,rfl,_,rfl,_,rfl,_,rfl,_,_,rfl,rfl,l,_,_,_,rfl,rfl,bb.of (g3.keep _ _ nl hl2),iW hc,p,bK ss (1+d1),rfl,g3.bV,λa xs H4 g4 ha=>⟨cz,λT O=>?_⟩⟩;exact q T (.keep (1+d1) (Ao (bK ss (1+d1)))) _ ((M7.trans g4).new O) ⟨a,xs,ae,ai O _ _ _ ha⟩ (wN hs hc) Hg (λz=>by cases z)
 rintro H' ⟨_,rfl⟩;refine bL (λb H'=>(b=false->cv ss≠[])/\aH H2 H') (λT O=>?_) ?_ ?_
 ·refine oU ⟨_,rfl,rfl,_,rfl,?_⟩;refine fY (λ_=>O _ _ ⟨λz=>(by cases z),aH.refl _⟩) λ_=>?_;refine⟨_,rfl,Yq _,λL hL=>⟨u,L,_,rfl,rfl,ai hL _ _ _ hu',ae,_,rfl,O _ _ ⟨λz e=>?_,ai hL _⟩⟩⟩;rw[e]at z;cases z
 ·rintro H3 ⟨_,s3⟩;have g3:bt p H H3:=g2.trans (bt.same g2.bV s3);refine⟨_,rfl,_,rfl,l,_,rfl,.inl (bb.of (s3 _ _ hl2)),p,ss.length,1,6,by rw[hn];rfl,g3.bV,s1,by omega,by omega,by omega,λt cs H4 g4 ht c1 c2 hc=>⟨cS,λT O=>?_⟩⟩;exact q T (.cut cs) _ ((g3.trans g4).new O) ⟨t,ae,ai O _ _ _ ht⟩ (Ba hs hc c1 c2) MT (λz=>by cases z)
 rintro H3 ⟨hne,s3⟩;have hne:=hne rfl;have g3:bt p H H3:=g2.trans (bt.same g2.bV s3);have mU:=s3 _ _ hu';have II:1<=((cv ss).map V.int).length:=by rw[X9];exact List.length_pos_iff.mpr hne
 have GA:((cv ss).map V.int).length<=6:=by rw[X9,cv,X9];exact X6 (List.length_filter_le _ _) (by rw[List.length_range];exact s6)
 refine⟨_,rfl,_,rfl,_,rfl,u,_,rfl,.inl (bb.of mU),p,_,rfl,g3.bV,by omega,cy (by omega) (by omega),λd1 H4 g4 a4 b4=>?_⟩;obtain⟨c,hca,hcm⟩:=pI (v:=.non) a4 b4;obtain⟨hc,ht⟩:=fG hcm;have ku:=g4.keep _ _ nu mU;have C_:bX H4 l ss:=g4.keep _ _ nl (s3 _ _ hl2);have qw:=g3.trans g4;refine⟨u,_,_,_,rfl,rfl,bb.of ku,hca,ak ?_⟩;dsimp only;refine⟨_,rfl,_,rfl,_,_,rfl,rfl,l,_,_,_,rfl,rfl,bb.of C_,iW hc,ak ?_⟩;dsimp only;refine⟨_,rfl,u,rfl,⟨_,bb.of ku⟩,λD hD=>rb C_ ku GA hD λH5 sm GN=>?_⟩;have g5:bt p H H5:=qw.trans (bt.same qw.bV sm);have nD:D≠p:=qw.ne hD;refine ak ?_;dsimp only;refine bL (λb H'=>b=decide (d=2)/\H5=H') (λT O=>⟨_,rfl,rfl,_,rfl,O _ _ ⟨lN,rfl⟩⟩) ?_ ?_
 ·rintro H' ⟨_,rfl⟩;have hal:1<=((((cv ss).filter λe=>decide (bK ss e=bK ss c))).map V.int).length:=by rw[X9];exact List.length_pos_of_mem (List.mem_filter.mpr ⟨hcm,X8 rfl⟩)
  have QL:((((cv ss).filter λe=>decide (bK ss e=bK ss c))).map V.int).length<=6:=by rw[X9]at GA⊢;exact X6 (List.length_filter_le _ _) GA
  refine⟨_,rfl,_,rfl,_,rfl,_,rfl,D,_,rfl,.inl (bb.of GN),p,_,rfl,g5.bV,by omega,cy (by omega) (by omega),λd2 H6 g6 a6 b6=>?_⟩;obtain⟨e,OQ,Nf⟩:=pI (v:=.non) a6 b6;obtain⟨R3,Sx⟩:=List.mem_filter.mp Nf;refine⟨D,_,_,_,rfl,rfl,bb.of (g6.keep _ _ nD GN),OQ,cz,λT O=>?_⟩;exact q T (.same c e) _ ((g5.trans g6).new O) ae (wu hs hc (fG R3).1 ht (YD Sx)) HZ (λz=>by cases z)
 rintro H' ⟨_,rfl⟩;refine bL (λb H'=>b=true/\H5=H') (λT O=>?_) ?_ (λH' z=>YE z.1 (by decide))
 ·refine oU ⟨_,rfl,rfl,_,rfl,?_⟩;refine fY (λ_=>O _ _ ⟨rfl,rfl⟩) λ_=>?_;exact⟨_,rfl,true,rfl,O _ _ ⟨rfl,rfl⟩⟩
 ·rintro H' ⟨_,rfl⟩;refine⟨_,rfl,_,rfl,_,rfl,_,rfl,p,_,_,rfl,g5.bV,λt bs ps H6 g6 hI p1 p2 hp=>⟨cz,λT O=>?_⟩⟩;exact q T (.turn c ps) _ ((g5.trans g6).new O) ⟨t,bs,ae,hI.keep (aE.of (ai O _)) λ_ _ z=>ai O _ _ _ z⟩ (xX hs hc ht p2 hp) Hw (λz=>by cases z)
theorem iJ{t u:TT}{σ:St}{H:Hp}{Q:Bool->Hp->Prop}(h:t σ H λc H1=>if c=true then u σ H1 Q else Q false H1):Mz t u σ H Q:=h
def eD:W1->Bool
 | .walk ..=>true
 |_=>false
theorem cL.snoc{hs:Hd}{s:Str}(h1:hs.length<=5)(h2:∀s∈hs,s="n"\/s="w"\/s="t")(h3:s="n"\/s="w"\/s="t"):cL (hs++[s]):=by
 refine⟨by rw[X_];exact Nat.le_add_left _ _,by rw[X_];exact Nat.succ_le_succ h1,λx O=>?_⟩;rcases Yo.mp O with z|z
 ·exact h2 x z
 ·rw[Yk.mp z];exact h3
theorem wG{ss:Hd}{od:Od}(h:cL ss)(hl:od.length<=ss.length)(O:∀e∈od,1<=e.1/\e.1<=ss.length):lF ss (.sort od):=by have:=h.six;refine⟨λc z=>?_,rfl,h,lY (show od.length<=1000 by omega) trivial trivial,show od.length<=12 by omega⟩;obtain⟨e,U,rfl⟩:=Yl.mp z;exact O e U
theorem uC{ss:Hd}{cs:List Int}(h:cL ss)(z:∀c∈cs,1<=c/\c<=ss.length)(O:cs.length<=5):lF ss (.count cs) :=
 ⟨z,rfl,cL.snoc (by rw[X9];exact O) (h.map z) (.inr (.inr rfl)),lY (show cs.length<=1000 by omega) trivial trivial,trivial⟩
theorem Hl{ss:Hd}{cs:List Int}{c:Int}(h:cL ss)(U:∀c∈cs,1<=c/\c<=ss.length)(l2:cs.length<=5)(hd:1<=c/\c<=ss.length)(hw:bK ss c≠"w"):lF ss (.sum cs c):=by
 refine⟨λd O=>?_,?_,cL.snoc (by rw[X9];exact l2) (h.map U) (.inr (.inr rfl)),lY (show cs.length<=1000 by omega) trivial trivial,trivial⟩
 ·rcases Yo.mp O with z|z
  ·exact U d z
  ·rw[Yk.mp z];exact hd
 ·show(!decide (bK ss c="w"))=true;rw[X7 hw];rfl
theorem yW{ss:Hd}(h:cL ss)(z:ss.length<6):lF ss .number:=⟨λd hd=>(by cases hd),rfl,cL.snoc (Nat.le_of_lt_succ z) h.GP (.inr (.inr rfl)),lY trivial trivial trivial,trivial⟩
theorem ug{ss:Hd}{n:Int}(h:cL ss):lF ss (.first n):=⟨λd hd=>(by cases hd),rfl,h,lY trivial trivial trivial,trivial⟩
theorem tV{ss:Hd}(h:cL ss):lF ss .apart:=⟨λd hd=>(by cases hd),rfl,h,lY trivial trivial trivial,trivial⟩
theorem D0{ss:Hd}{c:Int}{v:V}(h:cL ss)(hw:ss.length<6)(U:1<=c/\c<=ss.length)(ht:bK ss c≠"t")(hv:v∈cellsV (bK ss c)):lF ss (.walk c [v,.non,.non]):=by
 have O:=nU hv;refine⟨λd hd=>by rw[Yk.mp hd];exact U,?_,cL.snoc (Nat.le_of_lt_succ hw) h.GP (.inr (.inl rfl)),lY (show 3<=1000 by decide) (λu z=>?_) trivial,trivial⟩
 ·refine uq (JU h U ht) λu z=>?_;obtain⟨h1,h2⟩:=List.mem_filter.mp z;simp only[Ym,YH,or_false]at h1;rcases h1 with rfl|rfl|rfl
  ·exact hv
  ·cases h2
  ·cases h2
 ·simp only[Ym,YH,or_false]at z;rcases z with rfl|rfl|rfl
  ·exact .inr O.1
  ·exact .inl rfl
  ·exact .inl rfl
def D7(ss:Hd):List Int:=((List.range ss.length).filter λk=>!decide (ss.getD k ""="w")).map λ(k:Nat)=>(k:Int)+1
theorem AE{ss:Hd}{c:Int}(h:c∈D7 ss):(1<=c/\c<=ss.length)/\bK ss c≠"w":=by obtain⟨k,O,rfl⟩:=Yl.mp h;obtain⟨h1,h2⟩:=List.mem_filter.mp O;have h1:k<ss.length:=List.mem_range.mp h1;refine⟨by omega,λz=>?_⟩;unfold bK at z;rw[show((k:Int)+1-1).toNat=k by omega]at z;rw[z]at h2;exact YE h2 (by decide)
theorem AK{n:Nat}{p:Nat->Bool}{g:Nat->Int}:(((List.range n).filter p).map g).length<=n:=by rw[X9];exact X6 (List.length_filter_le _ _) (by rw[List.length_range];exact X5 _)
inductive vg(vs:List V)(H:Hp)(Q:VK)(E:XK):Prop
 |mk (p l:Addr) (ss:Hd) (fr:Bool) (_:vs=[.ref p,.ref l,.bl fr]) (_:c5 H p) (_:bX H l ss) (_:cL ss) (_:∀(a:Addr)(x:W1) H',bt p H H'->h_ H' a x->lF ss x->eE (.one x)=false->(eD x=true->fr=true)->(∀n,x=.first n->0<=n/\n<=100)->Q (.ref a) H'):vg vs H Q E
abbrev jM:Stmt:=top 86
theorem dm:ax ["_law_pot_here","_law_sorts","_law_free","_law_way","_law_wide","_law_numbers","_law_some","_law_column","_law_cell"] ["_law_pot_here","_law_sorts","_law_free"] (aq jM):=fs
theorem Fz(B:j_ mg)(F:FA K mg "_law_other" jM)
  (av:bz bx P w K mg base 1 "_law_draw" ZC eA)
  (de:bz bx P w K mg base 1 "_law_plain" ZK mi)
  (ik:bz bx P w K mg base 1 "_law_cells" ["_law_sort"] qC)
  (cU:bz bx P w K mg base 2 "_law_columns" ZP mh)
  (jl:bz bx P w K mg base 2 "_law_unlike" ["_law_pot_here","_law_wide"] BB) :
  bz bx P w K mg base 3 "_law_other" ["_law_pot_here","_law_sorts","_law_free"] vg:=by
 refine F.ok dm λf cdv A outer s H vs Q E hr h=>?_;have hu:=fJ hr;obtain⟨p,l,ss,fr,rfl,hP,hl,hs,q⟩:=h;refine Bc (fW (aU (i:=3) dm.nd rfl (YI rfl) (aG av hr (aa (pv 0) (aa aj ag))))
  (fW (aU (i:=4) dm.nd rfl (YI rfl) (aP aM rfl B.len YW (aa (pv 1) ag)))
  (fW (fE (i:=5) (N':=["_law_k","_law_sorts"]) (src:=[none,some 1]) dm.nd rfl (YI rfl) rfl rfl (bq.jN (by kernel_rfl)) (c9 rfl B.range (aa (pv 4) ag)) (λcl C s H fp=>(gg (i:=0))) (tc:=(gD (eC SH (eC (iE K) (br 1) (br 0)) (tC (.str "w"))))) (λcl C s H fp=>dX (ba xV (bf K (oH 1) (gK 0)) aD)) (te:=(eC (sy λi j=>V.int (i+j)) (br 0) (tC (.int 1)))) (λcl C s H fp=>(aL cw (gK 0) aj)))
  (fW (aU (i:=6) dm.nd rfl (YI rfl) (aG de hr (aa (pv 1) ag)))
  (gX (ba bH (pv 3) aj) (e8 (bJ (au (bp aD) (au (bp (aG jl hr (aa (pv 0) (aa (pv 4) ag)))) bB))))
  (gX (ba bH (pv 3) aj) (e8 (bJ (au (bp aD) (au (bp (aG cU hr (aa (pv 0) (aa (pv 4) (aa aj (aa aj ag)))))) bB))))
  (gX (PW.pt (fM (ba bH (pv 3) aj) (gx (ba (wX hu) (pv 5) (bw ag))))) (e8 (bJ (au (bp aD) (au (bp (aG cU hr (aa (pv 0) (aa (pv 4) (aa aj (aa aj ag)))))) (au (uf (r:=iE K) fZ (bp (pv 5)) (bp (aG av hr (aa (pv 0) (aa (aP aM rfl B.len YW (aa (pv 5) ag)) ag)))) (λ_ _=>rfl)) bB)))))
  (gX (PW.pt (fM (ba bH (pv 3) aj) (gx (ba DA (pv 4) aj)))) (e8 (bJ (au (bp aD) bB)))
  (gX (ba bH (pv 3) aj) (e8 (bJ (au (bp aD) (au (uf (r:=iE K) fZ (An (au (bp (aG av hr (aa (pv 0) (aa aj ag)))) (au (bp (aG av hr (aa (pv 0) (aa aj ag)))) bB))) (bp (aG av hr (aa (pv 0) (aa aj ag)))) (λ_ _=>rfl)) bB))))
  (gX (PW.pt (fM (ba bH (pv 3) aj) (fM (je (pv 2)) (fM (ba DA (pv 4) aj) (gx (ba (wX hu) (pv 6) (bw ag))))))) (fW (aU (i:=7) dm.nd rfl (YI rfl) (bf K (pv 6) (aG av hr (aa (pv 0) (aa (aP aM rfl B.len YW (aa (pv 6) ag)) ag)))))
  (fW (aU (i:=8) dm.nd rfl (YI rfl) (bf K (aG ik hr (aa (bf K (pv 1) (aL bN (pv 7) aj)) ag)) (aG av hr (aa (pv 0) (aa aj ag)))))
  (e8 (bJ (au (bp aD) (au (bp (pv 7)) (au (bp aD) (au (bJ (au (bJ (au (bp aD) (au (bp (pv 8)) (au (bp aD) bB)))) (au (bJ (au (bp aD) (au (bp dk) (au (bp aD) bB)))) (au (bJ (au (bp aD) (au (bp dk) (au (bp aD) bB)))) bB)))) bB))))))))
  (e8 (bJ (au (bp aD) bB))))))))))))) ?_
 have s1:=hs.pos;have s6:=hs.six;have hn:(ss.map V.str).length=ss.length:=X9 ..;have nl:l≠p:=uD hP hl hs.pos;refine⟨_,rfl,p,_,rfl,hP,by decide,by decide,λd H1 g1 a1 b1=>ak ?_⟩;dsimp only;have hl1:bX H1 l ss:=g1.keep _ _ nl hl;refine⟨_,rfl,l,_,rfl,.inl (bb.of hl1),ak ?_⟩;dsimp only;rw[hn];refine⟨_,rfl,_,rfl,(ig (by omega) (by omega)).1,(ig (by omega) (by omega)).2,λD hD=>?_⟩;refine eT (n:=((ss.length:Nat):Int).toNat) (λi σ ys H'=>(∃o,σ=[o,some (.ref l)])/\ys=(((List.range i).filter λk=>!decide (ss.getD k ""="w")).map λ(k:Nat)=>(k:Int)+1).map V.int/\ys.length<=i/\H' D=some (.lst ys)/\aH H1 H') ⟨⟨none,rfl⟩,rfl,X5 _,ae,ai hD _⟩ ?_ ?_ ?_ ?_
 ·rintro i σ ys H' _ ⟨_,_,hi,h,_⟩;exact⟨h,hi⟩
 ·exact X6 (show((ss.length:Nat):Int).toNat<=1000 by omega) (by decide)
 ·rintro i σ ys H' hi ⟨⟨o,rfl⟩,rfl,hz',h,sm⟩;have hi':i<ss.length:=by omega
  refine ak ?_;refine⟨_,rfl,_,rfl,l,_,_,_,rfl,rfl,bb.of (sm _ _ hl1),by rw[show(0:Int)+(i:Int)=(i:Int) by omega];exact Bw hi',rfl,_,rfl,?_⟩;rw[Kj];by_cases e:ss.getD i ""="w"
  ·rw[X8 e];refine cK ⟨⟨_,rfl⟩,?_,Nat.le_succ_of_le hz',h,sm⟩;rw[List.range_succ,List.filter_append,List.filter_cons_of_neg (by rw[X8 e];exact Yh)];simp
  ·rw[X7 e];refine cJ ⟨_,rfl,_,_,rfl,rfl,h,⟨_,rfl⟩,?_,?_,ae,bg hD sm⟩
   ·rw[List.range_succ,List.filter_append,List.filter_cons_of_pos (by rw[X7 e];rfl),Ya,Ya];simp
   ·rw[X_];exact Nat.succ_le_succ hz'
 rintro σ ys H2 ⟨_,rfl,_,hD2,sm⟩;have hD2:H2 D=some (.lst ((D7 ss).map V.int)):=hD2;have XF:((D7 ss).map V.int).length<=6:=by rw[X9];exact X6 AK s6
 have nD:D≠p:=g1.ne hD;refine ak ?_;dsimp only;refine⟨_,rfl,l,ss,rfl,sm _ _ hl1,X6 s6 (by decide),λu H3 Oj s3 hu'=>ak ?_⟩;dsimp only;have g2:bt p H H2:=g1.trans (bt.same g1.bV sm);have nu:u≠p:=g2.ne Oj;have g3:bt p H H3:=g2.trans (bt.same g2.bV s3);have hl3:bX H3 l ss:=s3 _ _ (sm _ _ hl1);have A9:=s3 _ _ hD2;refine bL (λb H'=>b=decide (d=0)/\H3=H') (λT O=>⟨_,rfl,rfl,_,rfl,O _ _ ⟨lN,rfl⟩⟩) ?_ ?_
 ·rintro H' ⟨_,rfl⟩;refine⟨_,rfl,_,rfl,p,ss.length,rfl,g3.bV,s1,by omega,λt bs od H4 U hI o1 o2=>⟨cS,λT O=>?_⟩⟩;exact q T (.sort od) _ ((g3.trans U).new O) ⟨t,bs,ae,hI.keep (aE.of (ai O _)) λ_ _ z=>ai O _ _ _ z⟩ (wG hs o1 o2) rfl (λz=>by cases z) (λn z=>by cases z)
 rintro H' ⟨_,rfl⟩;refine bL (λb H'=>b=decide (d=1)/\H3=H') (λT O=>⟨_,rfl,rfl,_,rfl,O _ _ ⟨lN,rfl⟩⟩) ?_ ?_
 ·rintro H' ⟨_,rfl⟩;refine⟨_,rfl,_,rfl,p,ss.length,0,5,rfl,g3.bV,s1,by omega,by omega,by omega,λt cs H4 U ht c1 c2 hc=>⟨cS,λT O=>?_⟩⟩;exact q T (.count cs) _ ((g3.trans U).new O) ⟨t,ae,ai O _ _ _ ht⟩ (uC hs hc c2) rfl (λz=>by cases z) (λn z=>by cases z)
 rintro H' ⟨_,rfl⟩;refine bL (λb H'=>(b=true->D7 ss≠[])/\aH H3 H') (λT O=>?_) ?_ ?_
 ·refine iJ ⟨_,rfl,rfl,_,rfl,fY (λ_=>?_) λ_=>O _ _ ⟨λz=>(by cases z),aH.refl _⟩⟩;refine⟨_,rfl,Yq _,λL hL=>⟨D,L,_,rfl,rfl,ai hL _ _ _ A9,ae,_,rfl,O _ _ ⟨λz e=>?_,ai hL _⟩⟩⟩;rw[e]at z;cases z
 ·rintro H4 ⟨hne,s4⟩;have hne:=hne rfl;have II:1<=((D7 ss).map V.int).length:=by rw[X9];exact List.length_pos_iff.mpr hne
  have U:bt p H H4:=g3.trans (bt.same g3.bV s4);refine⟨_,rfl,_,rfl,p,ss.length,0,5,rfl,U.bV,s1,by omega,by omega,by omega,λt cs H5 g5 ht c1 c2 hc=>?_⟩;have GN:=g5.keep _ _ nD (s4 _ _ A9);refine⟨_,rfl,_,rfl,_,rfl,D,_,rfl,.inl (bb.of GN),p,_,rfl,g5.bV,by omega,cy (by omega) (by omega),λd2 H6 g6 a6 b6=>?_⟩;obtain⟨e,OQ,Nf⟩:=pI (v:=.non) a6 b6;refine⟨D,_,_,_,rfl,rfl,bb.of (g6.keep _ _ nD GN),OQ,cz,λT O=>?_⟩;exact q T (.sum cs e) _ (((U.trans g5).trans g6).new O) ⟨t,ae,ai O _ _ _ (kN g5.bV g6 ht)⟩ (Hl hs hc c2 (AE Nf).1 (AE Nf).2) rfl (λz=>by cases z) (λn z=>by cases z)
 rintro H4 ⟨_,s4⟩;have U:bt p H H4:=g3.trans (bt.same g3.bV s4);have C_:bX H4 l ss:=s4 _ _ hl3;have ku:=s4 _ _ hu';clear A9 hD2;refine bL (λb H'=>(b=true->ss.length<6)/\H4=H') (λT O=>?_) ?_ ?_
 ·refine iJ ⟨_,rfl,rfl,_,rfl,fY (λ_=>?_) λ_=>O _ _ ⟨λz=>(by cases z),rfl⟩⟩;exact⟨_,rfl,_,_,rfl,rfl,_,rfl,O _ _ ⟨λz=>by have:=YD z;omega,rfl⟩⟩
 ·rintro H' ⟨hw,rfl⟩;exact⟨eG,λT O=>q T .number _ (U.new O) ae (yW hs (hw rfl)) rfl (λz=>by cases z) (λn z=>by cases z)⟩
 rintro H' ⟨_,rfl⟩;refine bL (λb H'=>b=decide (d=4)/\H4=H') (λT O=>⟨_,rfl,rfl,_,rfl,O _ _ ⟨lN,rfl⟩⟩) ?_ ?_
 ·rintro H' ⟨_,rfl⟩;refine⟨_,rfl,p,_,rfl,U.bV,by decide,by decide,λe1 H5 g5 a5 b5=>⟨_,rfl,p,_,rfl,g5.bV,by decide,by decide,λe2 H6 g6 a6 b6=>⟨cS,λL hL=>⟨_,rfl,p,_,rfl,(g6.new hL).bV,by decide,by decide,λe3 H7 g7 a7 b7=>?_⟩⟩⟩⟩;have nL:L≠p:=g6.ne hL;obtain⟨v,hv,hm⟩:=iL (xs:=[V.int e1,.int e2]) a7 b7;obtain⟨n,hn0,en⟩ :∃n:Int,(0<=n/\n<=100)/\v=.int n:=by
   have:=Yf hm;simp only[Ym,YH,or_false]at this;rcases this with rfl|rfl
   ·exact⟨_,⟨a5,by omega⟩,rfl⟩
   ·exact⟨_,⟨a6,by omega⟩,rfl⟩
  subst en;refine⟨L,_,_,_,rfl,rfl,bb.of (g7.keep _ _ nL ae),hv,cS,λT O=>?_⟩;exact q T (.first n) _ (((((U.trans g5).trans g6).new hL).trans g7).new O) ae (ug hs) rfl (λz=>by cases z) (λm z=>by cases z;exact hn0)
 rintro H' ⟨_,rfl⟩;refine bL (λb H'=>(b=true->fr=true/\ss.length<6/\cv ss≠[])/\aH H4 H') (λT O=>?_) ?_ ?_
 ·have no:∀H',aH H4 H'->T false H':=λH' s'=>O _ _ ⟨λz=>(by cases z),s'⟩;refine iJ ⟨_,rfl,rfl,_,rfl,fY (λ_=>?_) λ_=>no _ (aH.refl _)⟩;refine iJ ⟨_,rfl,fr,rfl,fY (λhfr=>?_) λ_=>no _ (aH.refl _)⟩;refine iJ ⟨_,rfl,_,_,rfl,rfl,_,rfl,fY (λhw=>?_) λ_=>no _ (aH.refl _)⟩;refine⟨_,rfl,Yq _,λL hL=>⟨u,L,_,rfl,rfl,ai hL _ _ _ ku,ae,_,rfl,O _ _ ⟨λz=>⟨hfr,by have:=YD hw;omega,λe=>?_⟩,ai hL _⟩⟩⟩;rw[e]at z;cases z
 ·rintro H5 ⟨hh,s5⟩;obtain⟨hfr,hw,hne⟩:=hh rfl;have g5:bt p H H5:=U.trans (bt.same U.bV s5);have Jl:=s5 _ _ ku;have II:1<=((cv ss).map V.int).length:=by rw[X9];exact List.length_pos_iff.mpr hne
  have GA:((cv ss).map V.int).length<=6:=by rw[X9];exact X6 AK s6
  refine⟨_,rfl,_,rfl,_,rfl,u,_,rfl,.inl (bb.of Jl),p,_,rfl,g5.bV,by omega,cy (by omega) (by omega),λd1 H6 g6 a6 b6=>?_⟩;obtain⟨c,hca,hcm⟩:=pI (v:=.non) a6 b6;obtain⟨hc,ht⟩:=fG hcm;refine⟨u,_,_,_,rfl,rfl,bb.of (g6.keep _ _ nu Jl),hca,ak ?_⟩;dsimp only;have Sw:bX H6 l ss:=g6.keep _ _ nl (s5 _ _ C_);refine⟨_,rfl,_,rfl,_,_,rfl,rfl,l,_,_,_,rfl,rfl,bb.of Sw,iW hc,_,rfl,λlc H7 WK s7 nR=>?_⟩;have g7:=bt.same g6.bV s7;have Ve:lc≠p:=g6.ne WK;obtain⟨c1,c2⟩:=pD (bK ss c);refine⟨_,rfl,p,_,rfl,g7.bV,by decide,by decide,λd2 H8 g8 a8 b8=>?_⟩;obtain⟨v,hv,hm⟩:=iL (xs:=cellsV (bK ss c)) a8 (by omega);refine⟨lc,_,_,v,rfl,rfl,bb.of (g8.keep _ _ Ve nR),hv,ak ?_⟩;dsimp only;have Vq:=((g5.trans g6).trans g7).trans g8;refine⟨_,rfl,_,rfl,cz,λu1 h1=>⟨cz,λu2 h2=>⟨cz,λu3 h3=>⟨cz,λu4 h4=>⟨zw,λT O=>?_⟩⟩⟩⟩⟩;have z1:=ai h1 (.tup [.str "s",v,.str "t"]);have z2:=ai h2 (.tup [.str "s",.non,.str "s"]);have z3:=ai h3 (.tup [.str "t",.non,.str "s"]);have z4:=ai h4 (.tup [.ref u1,.ref u2,.ref u3]);have z5:=ai O (.tup [.str "walk",.int c,.str "s",.ref u4]);refine q T (.walk c [v,.non,.non]) _ (((((Vq.new h1).new h2).new h3).new h4).new O) ⟨"s",u4,[u1,u2,u3],ae,z5 _ _ ae,rfl,λi a x e1 e2=>?_⟩ (D0 hs hw hc ht (Yf hm)) rfl (λ_=>hfr) (λm z=>by cases z);match i with
  | 0=>cases e1;cases e2;exact⟨_,_,(z2.trans (z3.trans (z4.trans z5))) _ _ ae⟩
  | 1=>cases e1;cases e2;exact⟨_,_,(z3.trans (z4.trans z5)) _ _ ae⟩
  | 2=>cases e1;cases e2;exact⟨_,_,(z4.trans z5) _ _ ae⟩
  |i+3=>cases e1
 rintro H5 ⟨_,s5⟩;exact⟨eG,λT O=>q T .apart _ ((U.trans (bt.same U.bV s5)).new O) ae (tV hs) rfl (λz=>by cases z) (λn z=>by cases z)⟩
section
variable{x:W1}
theorem Dw(h:x.nm="cut"):∃cs,x=.cut cs:=by cases x<;>first|exact⟨_,rfl⟩ | (simp only[W1.nm]at h;exact YE h (by decide +kernel))
theorem Le(h:x.nm="must"):∃c ps,x=.must c ps:=by cases x<;>first|exact⟨_,_,rfl⟩ | (simp only[W1.nm]at h;exact YE h (by decide +kernel))
theorem El(h:x.nm="count"\/x.nm="sum"):(∃cs,x=.count cs)\/∃cs c,x=.sum cs c:=by cases x<;>first|exact .inl ⟨_,rfl⟩|exact .inr ⟨_,_,rfl⟩ | (simp only[W1.nm]at h;exact YE h (by decide +kernel))
theorem Ph(h:x.nm="walk"\/x.nm="number"):(∃c mv,x=.walk c mv)\/x=.number:=by cases x<;>first|exact .inl ⟨_,_,rfl⟩|exact .inr rfl | (simp only[W1.nm]at h;exact YE h (by decide +kernel))
end
theorem Xm{s a b:Str}:inV (.str s) [.str a,.str b]=true↔s=a\/s=b:=by show((a==s)||((b==s)||false))=true↔_;rw[Bool.or_false,Bool.or_eq_true,beq_iff_eq,beq_iff_eq];exact or_congr eq_comm eq_comm
theorem HH{s a b:Str}:inV (.str s) [.str a,.str b]=decide (s=a\/s=b):=by rw[Bool.eq_iff_iff,Xm,decide_eq_true_eq]
inductive Hz(vs:List V)(H:Hp)(Q:VK)(E:XK):Prop
 |mk (l a:Addr) (ss:Hd) (x:W1) (_:vs=[.ref l,.ref a]) (_:bX H l ss) (_:h_ H a x) (_:lF ss x) (_:eE (.one x)=false) (_:cL ss) (_:∀u H',aH H H'->bX H' u (bc (.one x) [ss])->Q (.ref u) H'):Hz vs H Q E
theorem HQ{xs:List V}{i:Int}(h0:0<=i)(h:i<=xs.length):gI xs none (some i)=xs.take i.toNat:=by have:=rq (xs:=xs) (n:=i.toNat) (by omega);rw[show((i.toNat:Nat):Int)=i by omega]at this;exact this
theorem BK{xs:List V}{i:Int}(h0:0<=i)(h:i<=xs.length):gI xs (some i) none=xs.drop i.toNat:=by have:=xw (xs:=xs) (n:=i.toNat) (by omega);rw[show((i.toNat:Nat):Int)=i by omega]at this;exact this
abbrev eZ:Stmt:=top 87
theorem gM:ax ["_law_sorts","_law_worker","_law_word"] ["_law_sorts","_law_worker"] (aq eZ):=fs
theorem y0(B:j_ mg)(B2:nM mg)(B3:Fw mg)(Ki:PySem.W.kitOne K (.type "int") (.type "str")=some false)(F:FA K mg "_law_sorts_behind" eZ) :
  bz bx P w K mg base 1 "_law_sorts_behind" ["_law_sorts","_law_worker"] Hz:=by
 refine F.ok gM λf cdv A outer s H vs Q E hr h=>?_;have hu:=fJ hr;have hu1:=jF hr;obtain⟨l,a,ss,x,rfl,hl,ha,hf,Rz,hs,q⟩:=h;refine⟨_,(ao (aU (i:=2) gM.nd rfl (YI rfl) (aJ K (pv 1) aj))
   (bE (ba bH (pv 2) aD) (bM (N':=["_law_column","_law_sorts"]) (src:=[none,some 0]) rfl (bq.jN (by kernel_rfl)) (cP (aJ K (pv 1) aj)) (λcl C s H fp=>(gg (i:=0))) (λcl C s H fp=>bD) (te:=(eC (iE K) (br 1) (eC (sy λi j=>V.int (i-j)) (br 0) (tC (.int 1))))) (λcl C s H fp=>(bf K (oH 1) (aL bN (gK 0) aj))))
   (bE (ba bH (pv 2) aD) (aL gn (aL gn (dG (r:=yM K) oC (pv 0) fX (dQ (aL bN (aJ K (pv 1) aj) aj))) (bw (aa (bf K (bw (aa aD (aa aD ag))) (bA il rfl B2.int YN (aa (aP (oj (n:="str")) rfl B.isinstance PyProof.Rows.boot_isinstance (aa (aJ K (aJ K (aJ K (pv 1) aj) aj) aj) (aa (rJ (n:="str") rfl B3.str (by decide +kernel)) ag))) ag))) ag))) (dG (r:=yM K) oC (pv 0) (dQ (aJ K (pv 1) aj)) fX))
   (bE (eU dz (pv 2) (bw (aa aD (aa aD ag))) rfl) (aL gn (bM (N':=["_law_column","_law_sorts"]) (src:=[none,some 0]) rfl (bq.jN (by kernel_rfl)) (cP (aJ K (pv 1) aj)) (λcl C s H fp=>(gg (i:=0))) (λcl C s H fp=>bD) (te:=(eC (iE K) (br 1) (eC (sy λi j=>V.int (i-j)) (br 0) (tC (.int 1))))) (λcl C s H fp=>(bf K (oH 1) (aL bN (gK 0) aj)))) (bw (aa aD ag)))
   (bE (eU dz (pv 2) (bw (aa aD (aa aD ag))) rfl) (aL gn (pv 0) (bw (aa (bf K (bw (aa aD (aa aD ag))) (bA il rfl B2.int YN (aa (gH bH (pv 2) aD) ag))) ag)))
   (ay (pv 0))))))),?_⟩
 have s1:=hs.pos;have s6:=hs.six;have hn:(ss.map V.str).length=ss.length:=X9 ..;have cp:∀{t D:Addr}{cs:List Int}{H0:Hp}{R:VK},H t=some (.tup (cs.map V.int))->cs.length<=6->(∀c∈cs,1<=c/\c<=ss.length)->H0 D=none->aH H H0->(∀H',aH H0 H'->H' D=some (.lst ((cs.map (bK ss)).map V.str))->R (.ref D) H')->∃W:Nat->Nat->St->List V->Hp->Prop,(∃m,W 0 m [none,some (.ref l)] [] (upd H0 D (.lst [])))/\qd (Gx K t) (b9 0) Ef (eC (iE K) (br 1) (eC (sy λi j=>V.int (i-j)) (br 0) (tC (.int 1)))) D R W:=λ{t D cs H0 R} ht hz hc z s0 hr'=>by
  refine c_ (xs:=cs.map V.int) (λi σ ys H'=>(∃o,σ=[o,some (.ref l)])/\ys=((cs.take i).map (bK ss)).map V.str/\ys.length=i/\H' D=some (.lst ys)/\aH H0 H') ⟨⟨none,rfl⟩,rfl,rfl,ae,ai z _⟩ ?_ ?_ ?_ ?_ ?_
  ·rintro i σ ys H' _ ⟨_,_,hi,h,_⟩;exact⟨h,YR hi⟩
  ·rintro i σ ys H' _ ⟨_,_,_,_,sm⟩;exact aX.of (sm _ _ (s0 _ _ ht))
  ·rw[X9];exact X6 hz (by decide)
  ·rintro i v σ ys H' hv ⟨⟨o,rfl⟩,rfl,hi,h,sm⟩;rw[Yu]at hv;cases ee:cs[i]? with
   |none=>rw[ee]at hv;cases hv
   |some e =>
    rw[ee]at hv;have hv:V.int e=v:=Yr hv;subst hv;refine ak ?_;refine⟨_,rfl,_,rfl,_,_,rfl,rfl,l,_,_,_,rfl,rfl,bb.of (sm _ _ (s0 _ _ hl)),iW (hc e (Yf ee)),h,⟨_,rfl⟩,?_,?_,ae,bg z sm⟩
    ·rw[take_one ee,Ya,Ya];rfl
    ·rw[X_,hi];rfl
  ·rintro σ ys H' ⟨_,rfl,_,h,sm⟩;rw[X9,YJ]at h;exact hr' H' sm h
 obtain⟨xs,hx1⟩:=ha.first;refine⟨_,rfl,a,_,0,_,rfl,rfl,aX.of hx1,az (j:=0) rfl,ak ?_⟩;dsimp only;refine bL (λb H'=>b=decide (x.nm="cut")/\H=H') (λT hT=>⟨_,rfl,rfl,_,rfl,hT _ _ ⟨eQ _ _,rfl⟩⟩) ?_ ?_
 ·rintro H' ⟨e,rfl⟩;obtain⟨cs,rfl⟩:=Dw (YD e.symm);obtain⟨t,h1,h2⟩:=ha;have hz:cs.length<=6:=by have:=hf.hd.six;rw[show bc (.one (.cut cs)) [ss]=cs.map (bK ss) from rfl,X9]at this;exact this
  refine⟨_,rfl,a,_,1,_,rfl,rfl,aX.of h1,rfl,t,rfl,⟨_,aX.of h2⟩,λD z=>cp h2 hz hf.col z (aH.refl _) λH' s' h'=>q D H' s' h'⟩
 rintro H' ⟨e1,rfl⟩;have e1:x.nm≠"cut":=of_decide_eq_false e1.symm;refine bL (λb H'=>b=decide (x.nm="must")/\H=H') (λT hT=>⟨_,rfl,rfl,_,rfl,hT _ _ ⟨eQ _ _,rfl⟩⟩) ?_ ?_
 ·rintro H' ⟨e,_⟩;obtain⟨c,ps,rfl⟩:=Le (YD e.symm);cases Rz
 rintro H' ⟨e2,rfl⟩;have e2:x.nm≠"must":=of_decide_eq_false e2.symm;refine bL (λb H'=>b=decide (x.nm="count"\/x.nm="sum")/\aH H H') (λT hT=>⟨_,rfl,cS,λL hL=>⟨L,_,rfl,.inl (bb.of ae),rfl,rfl,_,rfl,hT _ _ ⟨HH,ai hL _⟩⟩⟩) ?_ ?_
 ·rintro H1 ⟨e,O⟩;have U:∀{D:Addr}{cs:List Int}{H':Hp},cs.length<=6->aH H H'->H' D=some (.lst ((cs.map (bK ss)).map V.str))->bc (.one x) [ss]=cs.map (bK ss)++(["t"]:Hd)->eC LM (tC (.ref D)) (LJ (c6 (tC (.str "t")) ll)) [] H' Q:=λ{D cs H'} hz s' z e=>by
   refine⟨eG,λu hu=>⟨D,u,_,_,rfl,rfl,ai hu _ _ _ z,ae,?_,λw hw=>q w _ (s'.trans ((ai hu _).trans (ai hw _))) ?_⟩⟩
   ·rw[X9,X9];exact X6 (Nat.succ_le_succ hz) (by decide)
   ·rw[e,bX,ae,Ya];rfl
  rcases El (YD e.symm)with⟨cs,rfl⟩|⟨cs,c,rfl⟩
  ·obtain⟨t,h1,h2⟩:=ha;have e0:bc (.one (.count cs)) [ss]=cs.map (bK ss)++(["t"]:Hd):=rfl;have hz:cs.length<=6:=by have:=hf.hd.six;rw[e0,X_,X9]at this;exact Nat.le_of_succ_le this
   exact⟨_,rfl,a,_,1,_,rfl,rfl,aX.of (O _ _ h1),rfl,t,rfl,⟨_,aX.of (O _ _ h2)⟩,λD z=>cp h2 hz hf.col z O λH' s' h'=>U hz (O.trans s') h' e0⟩
  ·obtain⟨t,h1,h2⟩:=ha;have e0:bc (.one (.sum cs c)) [ss]=cs.map (bK ss)++(["t"]:Hd):=rfl;have hz:cs.length<=6:=by have:=hf.hd.six;rw[e0,X_,X9]at this;exact Nat.le_of_succ_le this
   exact⟨_,rfl,a,_,1,_,rfl,rfl,aX.of (O _ _ h1),rfl,t,rfl,⟨_,aX.of (O _ _ h2)⟩,λD z=>cp h2 hz (λc' hc'=>hf.col c' (Yo.mpr (.inl hc'))) z O λH' s' h'=>U hz (O.trans s') h' e0⟩
 rintro H1 ⟨e3,O⟩;have e3:¬(x.nm="count"\/x.nm="sum"):=of_decide_eq_false e3.symm;refine bL (λb H'=>b=decide (x.nm="walk"\/x.nm="number")/\aH H H') (λT hT=>⟨_,rfl,cS,λL hL=>⟨L,_,rfl,.inl (bb.of ae),rfl,rfl,_,rfl,hT _ _ ⟨HH,O.trans (ai hL _)⟩⟩⟩) ?_ ?_
 ·rintro H2 ⟨e,z2⟩;have hk:∃g:Str,xf [V.str "t",.str "w"] (if decide (V.str x.nm=V.str "walk")=true then 1 else 0)=some (.str g)/\bc (.one x) [ss]=ss++[g]:=by
   rw[eQ];rcases Ph (YD e.symm)with⟨c,mv,rfl⟩|rfl
   ·exact⟨"w",by rw[show decide ((W1.walk c mv).nm="walk")=true from X8 rfl];rfl,rfl⟩
   ·exact⟨"t",by rw[show decide ((W1.number).nm="walk")=false from X7 (by show("number" : Str)≠"walk";decide +kernel)];rfl,rfl⟩
  obtain⟨g,k1,k2⟩:=hk;refine⟨_,rfl,cS,λu2 hu2=>⟨_,rfl,rfl,.inr ⟨_,rfl,u2,_,_,_,rfl,rfl,bb.of ae,k1,eG,λu3 mU=>?_⟩⟩⟩;refine⟨l,u3,_,_,rfl,rfl,ai mU _ _ _ (ai hu2 _ _ _ (z2 _ _ hl)),ae,?_,λw hw=>q w _ (z2.trans ((ai hu2 _).trans ((ai mU _).trans (ai hw _)))) ?_⟩
  ·rw[hn];exact X6 (Nat.succ_le_succ s6) (by decide)
  ·rw[k2,bX,ae,Ya];rfl
 rintro H2 ⟨e4,z2⟩;have e4:¬(x.nm="walk"\/x.nm="number"):=of_decide_eq_false e4.symm;refine⟨_,rfl,q l H2 z2 ?_⟩;have:bc (.one x) [ss]=ss:=by cases x<;>first|rfl|exact YE rfl e1|exact YE rfl e2|exact YE (.inl rfl) e3|exact YE (.inr rfl) e3|exact YE (.inl rfl) e4|exact YE (.inr rfl) e4
 rw[this];exact z2 _ _ hl
open Builtin.Int (intBits)
theorem Bn{te:TE}{i:Nat}{t2:TS}{D:Ends}{σ:St}{H:Hp}(v:V)(h:∀R:VK,(∀H',aH H H'->R v H')->te σ H R)(k:∀H',aH H H'->t2 D (σ.set i (some v)) H'):vI (yl te (b9 i)) t2 D σ H:=h _ k
theorem qP{ta tb:TE}{σ:St}{H:Hp}{Q:VK}(h:ta σ H λx H1=>∃c,x=.bl c/\if c=true then tb σ H1 Q else Q (.bl false) H1):Bk ta tb σ H Q:=h
theorem AW{n:Nat}{h:Hd}{f:Fl}{pl:List Int}{x:W1}:bY n h f pl (.one x)=m7 (.one x) h f pl [(h,f)]:=by cases n<;>rfl
theorem rL{n:Nat}{pl:List Int}{x:Wk}:∀{ws:List Wk}{i:Nat}{h:Hd}{f:Fl},putL (bY n) pl i h f (ws++[x])=hZ (putL (bY n) pl i h f ws) λh' f'=>bY n h' f' (pl++[((i+ws.length:Nat):Int)]) x
 |[],i,h,f=>by show hZ (bY n h f (pl++[(i:Int)]) x) (λh' f'=>.ok h' f')=bY n h f (pl++[((i+0:Nat):Int)]) x;rw[Nat.add_zero];cases bY n h f (pl++[(i:Int)]) x<;>rfl
 |y::ws,i,h,f=>by
  show hZ (bY n h f (pl++[(i:Int)]) y) (λh' f'=>putL (bY n) pl (i+1) h' f' (ws++[x]))=hZ (hZ (bY n h f (pl++[(i:Int)]) y) λh' f'=>putL (bY n) pl (i+1) h' f' ws) _;cases bY n h f (pl++[(i:Int)]) y with
  |no a s=>rfl
  |ok h' f' =>show putL (bY n) pl (i+1) h' f' (ws++[x])=hZ (putL (bY n) pl (i+1) h' f' ws) _;rw[rL (ws:=ws)];rw[show i+1+ws.length=i+(y::ws).length by rw[YB];omega]
theorem Dm{ss:Hd}{x:W1}{f:Fl}(h:lF ss x)(hm:eE (.one x)=true->f.l=false)(hw:eD x=true->f.o=false):mI (.one x) f [ss]=none:=by
 unfold mI;have c1:eX (.one x) [ss]=true:=by refine List.all_eq_true.mpr λc U=>?_;show(decide (1<=c)&&decide (c<=(ss.length:Nat)))=true;have:=h.col c U;rw[X8 this.1,X8 this.2];rfl
 have O:xT (.one x) f=true:=by cases x<;>first|rfl | (show(!f.o)=true;rw[hw rfl];rfl)
 rw[YG c1,YG h.GP,YG h.hd.six,YG O];refine YF λz=>?_;rw[YC]at z;rw[hm z.1]at z;exact YE z.2 Yh
theorem Ig:∀(n:Nat)(h:Hd)(k k':Kf)(x:Wk),(mr n (h,k) x).1=(mr n (h,k') x).1
 | 0,h,k,k',x=>rfl
 |n+1,h,k,k',x=>by
  have L:∀(ws:List Wk)(s s':HK),s.1=s'.1->(cT n s ws).1=(cT n s' ws).1:=λws=>by
   induction ws with
   |nil=>exact λs s' e=>e
   |cons x ws z =>rintro⟨h1,k1⟩ ⟨h2,k2⟩ e;cases e;exact z _ _ (Ig n h1 k1 k2 x)
  show bc x (Qa h ((cm x).map λp=>(cT n (h,k) p).1))=bc x (Qa h ((cm x).map λp=>(cT n (h,k') p).1));rw[show(λp=>(cT n (h,k) p).1) = λp=>(cT n (h,k') p).1 from funext λp=>L p (h,k) (h,k') rfl]
theorem hk1{n:Nat}:∀{ws:List Wk}{s s':HK},s.1=s'.1->(cT n s ws).1=(cT n s' ws).1
 |[],s,s',e=>e
 |x::ws,(h1,k1),(h2,k2),e=>by cases e;exact hk1 (ws:=ws) (Ig n h1 k1 k2 x)
def hdL(n:Nat)(h:Hd)(ws:List Wk):Hd:=(cT n (h,m3) ws).1
def EE(n:Nat)(h:Hd)(x:Wk):Hd:=(mr n (h,m3) x).1
theorem fh{n:Nat}{h:Hd}{ws:List Wk}{x:Wk}:hdL n h (ws++[x])=EE n (hdL n h ws) x:=by unfold hdL EE;rw[iP];exact Ig n _ _ _ x
theorem l_{n:Nat}{h:Hd}{x:W1}:EE n h (.one x)=bc (.one x) [h]:=by unfold EE;rw[zu]
theorem EI{n:Nat}{h:Hd}{p q:List Wk}:EE (n+1) h (.both p q)=hdL n h p:=rfl
theorem xp{n:Nat}{h:Hd}{c d:Int}{p q:List Wk}:EE (n+1) h (.meet c d p q)=hdL n h p++(hdL n h q).take (d-1).toNat++(hdL n h q).drop d.toNat:=rfl
structure tH(tp:Bool)(h:Hd)(x:W1):Prop where
 fit:lF h x
 nm:eE (.one x)=false
 nw:tp=false->eD x=false
 few:∀n,x=.first n->0<=n/\n<=100
structure iQ(F:Hd->Wk->Prop)(n:Nat)(h:Hd)(ws:List Wk):Prop where
 few:ws.length<=5
 at_:∀(i:Nat) x,ws[i]? = some x->F (hdL n h (ws.take i)) x
structure Meets(n:Nat)(h:Hd)(c d:Int)(p q:List Wk):Prop where
 one:∀x∈p++q,cH x.nm=true
 cc:1<=c/\c<=(hdL n h p).length
 dd:1<=d/\d<=(hdL n h q).length
 alike:alike (bK (hdL n h p) c) (bK (hdL n h q) d)=true
 wide:(hdL n h p).length+(hdL n h q).length<=7
def jQ:Bool->Nat->Hd->Wk->Prop
 |tp,_,h,.one x=>tH tp h x
 |_,0,_,_=>False
 |_,n+1,h,.both p q=>iQ (jQ false n) n h p/\iQ (jQ false n) n h q/\hdL n h p=hdL n h q
 |tp,n+1,h,.meet c d p q=>tp=true/\iQ (jQ false n) n h p/\iQ (jQ false n) n h q/\Meets n h c d p q
abbrev gO(tp:Bool)(n:Nat)(h:Hd)(ws:List Wk):Prop:=iQ (jQ tp n) n h ws
theorem dq{tp:Bool}{n:Nat}{h:Hd}{x:W1}:jQ tp n h (.one x)↔tH tp h x:=by cases n<;>exact Iff.rfl
theorem iQ.snoc{F:Hd->Wk->Prop}{n:Nat}{h:Hd}{ws:List Wk}{x:Wk}(f:iQ F n h ws)(U:ws.length<5)(O:F (hdL n h ws) x):iQ F n h (ws++[x]):=by
 refine⟨by rw[X_];exact U,λi y e=>?_⟩;by_cases hi:i<ws.length
 ·rw[Yt hi]at e;rw[List.take_append_of_le_length (Nat.le_of_lt hi)];exact f.at_ i y e
 ·have z:i=ws.length:=by have:=(Yj.mp e).1;rw[X_,List.length_singleton]at this;omega
  subst z;rw[Ys (X5 _),Nat.sub_self]at e;cases e;rw[List.take_left];exact O
theorem iQ.pre{F:Hd->Wk->Prop}{n:Nat}{h:Hd}{ws:List Wk}(f:iQ F n h ws)(i:Nat):iQ F n h (ws.take i):=by
 refine⟨X6 (List.length_take_le' _ _) f.few,λj x e=>?_⟩;have z:j<i:=by have:=(Yj.mp e).1;rw[Yv]at this;omega
 rw[List.getElem?_take_of_lt z]at e;rw[List.take_take,Nat.min_eq_left (Nat.le_of_lt z)];exact f.at_ j x e
theorem iQ.ind{F:Hd->Wk->Prop}{n:Nat}{h:Hd}(P:List Wk->Prop)(h0:P [])(hs:∀ws x,iQ F n h ws->ws.length<5->P ws->F (hdL n h ws) x->P (ws++[x])){ws:List Wk}(f:iQ F n h ws):P ws:=by
 have:∀i,i<=ws.length->P (ws.take i):=λi=>by
  induction i with
  |zero=>exact λ_=>h0
  |succ i z =>intro hi;have ex:ws[i]? = some ws[i]:=Yd hi;rw[take_one ex];exact hs _ _ (f.pre i) (by rw[Yv];have:=f.few;omega) (z (Nat.le_of_lt hi)) (f.at_ i _ ex)
 have:=this ws.length (X5 _);rwa[YJ]at this
theorem pY:∀(n:Nat){tp:Bool}{h:Hd}{x:Wk},cL h->jQ tp n h x->cL (EE n h x)
 |n,tp,h,.one x,hs,f=>by rw[l_];exact(dq.mp f).fit.hd
 |n+1,tp,h,.both p q,hs,f=>f.1.ind (λws=>cL (hdL n h ws)) hs λws x _ _ U O=>by rw[fh];exact pY n U O
 |n+1,tp,h,.meet c d p q,hs,f=>by
  obtain⟨_,fp,fq,m⟩:=f;have L:∀{ws:List Wk},gO false n h ws->cL (hdL n h ws):=λf=>f.ind (λws=>cL (hdL n h ws)) hs λws x _ _ U O=>by rw[fh];exact pY n U O
  have sp:=L fp;have sq:=L fq;have:=m.wide;have:=m.dd;have h1:=sp.pos;rw[xp];refine⟨by rw[X_,X_];omega,by rw[X_,X_,Yv,List.length_drop];omega,λs hs=>?_⟩;rcases Yo.mp hs with z|z
  ·rcases Yo.mp z with z|z
   ·exact sp.GP s z
   ·exact sq.GP s (List.mem_of_mem_take z)
  ·exact sq.GP s (List.mem_of_mem_drop z)
theorem iQ.ss{tp:Bool}{n:Nat}{h:Hd}{ws:List Wk}(f:gO tp n h ws)(hs:cL h):cL (hdL n h ws):=f.ind (λws=>cL (hdL n h ws)) hs λws x _ _ O z=>by rw[fh];exact pY n O z
theorem D_{h:Hd}{p q:List Wk}{f:Fl}(hs:cL h):mI (.both p q) f [h,h]=none:=by unfold mI;have c1:eX (.both p q) [h,h]=true:=rfl;have z:bW (.both p q) [h,h]=true:=X8 rfl;have U:(bc (.both p q) [h,h]).length<=6:=hs.six;have O:xT (.both p q) f=true:=rfl;rw[YG c1,YG z,YG U,YG O];exact YF Yh
theorem DN{n:Nat}{h:Hd}{c d:Int}{p q:List Wk}{f:Fl}(m:Meets n h c d p q)(hs:cL (EE (n+1) h (.meet c d p q))):mI (.meet c d p q) f [hdL n h p,hdL n h q]=none:=by
 unfold mI;have th:∀{c:Int}{h:Hd},1<=c/\c<=h.length->there c h=true:=λ{c h} z=>by unfold there;rw[X8 z.1,X8 z.2];rfl
 have c1:eX (.meet c d p q) [hdL n h p,hdL n h q]=true:=by show(there c (hdL n h p)&&there d (hdL n h q))=true;rw[th m.cc,th m.dd];rfl
 have c2:bW (.meet c d p q) [hdL n h p,hdL n h q]=true:=m.alike;have U:(bc (.meet c d p q) [hdL n h p,hdL n h q]).length<=6:=hs.six;have c4:xT (.meet c d p q) f=true:=List.all_eq_true.mpr λx O=>m.one x O;rw[YG c1,YG c2,YG U,YG c4];exact YF Yh
theorem yq{x:Wk}{h:Hd}{f:Fl}{pl:List Int}{es:List (Hd×Fl)}(e:mI x f (es.map λe=>e.1)=none):m7 x h f pl es=.ok (bc x (es.map λe=>e.1)) (Oc x h f (es.map λe=>e.2)):=by unfold m7;rw[e]
def La(n:Nat):Prop:=∀{tp:Bool}{h:Hd}{x:Wk}{f:Fl}{pl:List Int},cL h->jQ tp n h x->(∀y,x=.one y->eD y=true->f.o=false)->∃f',bY n h f pl x=.ok (EE n h x) f'
theorem JL{n:Nat}(W:La n){h:Hd}{ws:List Wk}{f:Fl}{pl:List Int}(hs:cL h)(fl:gO false n h ws):∃f',putL (bY n) pl 0 h f ws=.ok (hdL n h ws) f':=fl.ind (λws=>∃f',putL (bY n) pl 0 h f ws=.ok (hdL n h ws) f') ⟨f,rfl⟩ λws x fl _ ih O=>by obtain⟨g,e⟩:=ih;rw[rL,e,fh];exact W (fl.ss hs) O λy U=>by subst U;intro z;rw[(dq.mp O).nw rfl]at z;cases z
theorem JY{n:Nat}(W:La n){h:Hd}{x:Wk}{p q:List Wk}{f:Fl}{pl:List Int}(hs:cL h)(fp:gO false n h p)(fq:gO false n h q)(U:mI x f [hdL n h p,hdL n h q]=none):∃f',uJ (bY n) x h f pl [p,q] 0 []=.ok (bc x [hdL n h p,hdL n h q]) f':=by obtain⟨f1,z⟩:=JL W (f:=f) (pl:=pl++[((0:Nat):Int)]) hs fp;obtain⟨f2,O⟩:=JL W (f:=f) (pl:=pl++[((0+1:Nat):Int)]) hs fq;show∃f',hZ (putL (bY n) (pl++[((0:Nat):Int)]) 0 h f p) (λh1 f1=>hZ (putL (bY n) (pl++[((0+1:Nat):Int)]) 0 h f q) λh2 f2=>m7 x h f pl ([]++[(h1,f1)]++[(h2,f2)]))=_;rw[z,O];exact⟨_,yq (es:=[(hdL n h p,f1),(hdL n h q,f2)]) U⟩
theorem vi:∀n,La n
 |n,tp,h,.one x,f,pl,hs,fx,hw=>by have o:=dq.mp fx;rw[AW,l_];exact⟨_,yq (es:=[(h,f)]) (Dm o.fit (λz=>by rw[o.nm]at z;cases z) (hw x rfl))⟩
 |n+1,tp,h,.both p q,f,pl,hs,fx,hw=>JY (vi n) hs fx.1 fx.2.1 (by rw[←fx.2.2];exact D_ (fx.1.ss hs))
 |n+1,tp,h,.meet c d p q,f,pl,hs,fx,hw=>JY (vi n) hs fx.2.1 fx.2.2.1 (DN fx.2.2.2 (pY (n+1) hs fx))
structure Bd(a b:Nat)(s:HK):Prop where
 ss:cL s.1
 od:s.2.od.length<=a
 mo:NF b s.2
theorem Bd.le{a b O z:Nat}{s:HK}(h:Bd a b s)(h1:a<=O)(h2:b<=z):Bd O z s:=⟨h.ss,X6 h.od h1,λm e=>X6 (h.mo m e) h2⟩
theorem Bd.ek{a b:Nat}{s:HK}(h:Bd a b s)(h1:a<=1000)(h2:b<=1000000):GR s:=⟨X6 h.ss.six (by decide),X6 h.od h1,λm e=>X6 (h.mo m e) h2⟩
def cB:Nat->Nat
 | 0=>0
 |n+1=>5*cB n+1
theorem Lo{n:Nat}{s:HK}{x:Wk}:(mr n s x).1=EE n s.1 x:=Ig n s.1 s.2 m3 x
theorem H_{n:Nat}{s:HK}{ws:List Wk}:(cT n s ws).1=hdL n s.1 ws:=hk1 rfl
theorem Fp{tp:Bool}{n:Nat}{x:W1}{s:HK}{a b:Nat}(O:10<=b)(o:tH tp s.1 x)(B:Bd a b s):Bd (a+13) b (mr n s (.one x)):=by
 rw[zu];refine⟨o.fit.hd,X6 (Ii o.fit.le) (Nat.add_le_add_right B.od _),?_⟩;cases x with
 |first n =>
  intro m e;have e:some (l6 s.2.mo n)=some m:=e;injection e with e;have hn:=o.few n rfl;have z:intBits n<=b:=X6 (intBits_le_iff.mpr (show n.natAbs<2 ^ 10 by omega)) O;rw[←e];cases em:s.2.mo with
  |none=>exact z
  |some j =>
   show intBits (if n<j then n else j)<=b;split
   ·exact z
   ·exact B.mo j em
 |_=>exact B.mo
def P9(n:Nat):Prop:=∀{x:Wk}{s:HK}{a b:Nat}{pl:List Int},10<=b->jQ false n s.1 x->Bd a b s->Bd (a+13) (b+cB n) (mr n s x)/\∀e∈gw n s pl x,Bd (a+65*n) (b+cB n) e.2
theorem Na{n:Nat}(W:P9 n){s:HK}{ws:List Wk}{a b:Nat}{pl:List Int}(hb:10<=b)(B:Bd a b s)(fl:gO false n s.1 ws):Bd (a+65) (b+5*cB n) (cT n s ws)/\∀e∈AL n pl 0 s ws,Bd (a+65*(n+1)) (b+5*cB n) e.2:=by
 have r:=fl.ind (λws=>Bd (a+13*ws.length) (b+ws.length*cB n) (cT n s ws)/\∀e∈AL n pl 0 s ws,Bd (a+65*(n+1)) (b+5*cB n) e.2) ⟨by simpa using B,λe O=>by rw[Yk.mp O];exact B.le (by omega) (by omega)⟩ λws x fl hl ih fx=>by
  obtain⟨i1,i2⟩:=ih;rw[←H_]at fx;obtain⟨w1,w2⟩:=W (pl:=pl++[((0+ws.length:Nat):Int)]) (X6 hb (Nat.le_add_right _ _)) fx i1;have m5:(ws.length+1)*cB n<=5*cB n:=Nat.mul_le_mul_right _ hl;have ms:(ws.length+1)*cB n=ws.length*cB n+cB n:=Nat.succ_mul _ _;have U:Bd (a+13*(ws.length+1)) (b+(ws.length+1)*cB n) (cT n s (ws++[x])):=by rw[iP];exact w1.le (by omega) (by omega)
  refine⟨by rw[X_];exact U,λe O=>?_⟩;rw[jS]at O;rcases Yo.mp O with z|z
  ·exact i2 e z
  ·rcases Yo.mp z with z|z
   ·exact(w2 e z).le (by omega) (by omega)
   ·rw[Yk.mp z];exact U.le (by omega) (by omega)
 have l5:=fl.few;have:=Nat.mul_le_mul_right (cB n) l5;exact⟨r.1.le (by omega) (by omega),r.2⟩
theorem Tf{n:Nat}(W:P9 n){s:HK}{p q:List Wk}{a b:Nat}{pl:List Int}(U:10<=b)(B:Bd a b s)(fp:gO false n s.1 p)(fq:gO false n s.1 q):∀e∈oA n (gw n) s pl 0 [p,q],Bd (a+65*(n+1)) (b+5*cB n) e.2:=λe O=>by
 have O:e∈AL n (pl++[((0:Nat):Int)]) 0 s p++(AL n (pl++[((0+1:Nat):Int)]) 0 s q++[]):=O;rw[YO]at O;rcases Yo.mp O with z|z
 ·exact(Na W U B fp).2 e z
 ·exact(Na W U B fq).2 e z
theorem Kk{g:Int->Int->Int}{b c:Nat}{k1 k2:Kf}(h1:NF b k1)(h2:NF b k2)(hg:∀i j,intBits i<=b->intBits j<=b->intBits (g i j)<=c):∀m,LP g k1.mo k2.mo=some m->intBits m<=c:=λm e=>by
 cases e1:k1.mo with
 |none=>rw[e1]at e;cases e
 |some m1 =>
  cases e2:k2.mo with
  |none=>rw[e1,e2]at e;cases e
  |some m2=>rw[e1,e2]at e;cases e;exact hg _ _ (h1 m1 e1) (h2 m2 e2)
theorem BC{n:Nat}(W:P9 n){tp:Bool}{s:HK}{p q:List Wk}{a b:Nat}{pl:List Int}(O:10<=b)(z:jQ tp (n+1) s.1 (.both p q))(B:Bd a b s):Bd (a+13) (b+cB (n+1)) (mr (n+1) s (.both p q))/\∀e∈gw (n+1) s pl (.both p q),Bd (a+65*(n+1)) (b+cB (n+1)) e.2 :=
 ⟨⟨by rw[Lo];exact pY (n+1) B.ss z,Yq _,Kk (Na W (pl:=pl) O B z.1).1.mo (Na W (pl:=pl) O B z.2.1).1.mo λi j hi hj=>by have:=intBits_add_le hi hj;have ec:cB (n+1)=5*cB n+1:=rfl;omega⟩,
  λe U=>(Tf W O B z.1 z.2.1 e U).le (X5 _) (by have ec:cB (n+1)=5*cB n+1:=rfl;omega)⟩
theorem OD:∀n,P9 n
 |n,.one x,s,a,b,pl,hb,fx,B=>⟨(Fp hb (dq.mp fx) B).le (X5 _) (Nat.le_add_right _ _),λe z=>by rw[rk]at z;cases z⟩
 |n+1,.both p q,s,a,b,pl,hb,fx,B=>BC (OD n) hb fx B
 |n+1,.meet c d p q,s,a,b,pl,hb,fx,B=>by cases fx.1
theorem Ms{x:Wk}{s:HK}{a b:Nat}{pl:List Int}(U:10<=b)(z:jQ true 2 s.1 x)(B:Bd a b s):Bd (a+65) (2*b+100) (mr 2 s x)/\∀e∈gw 2 s pl x,Bd (a+130) (b+100) e.2:=by
 cases x with
 |one x=>exact⟨(Fp U (dq.mp z) B).le (by omega) (by omega),λe O=>by rw[rk]at O;cases O⟩
 |both p q =>obtain⟨h1,h2⟩:=BC (OD 1) (pl:=pl) U z B;have c2:cB (1+1)=6:=rfl;exact⟨h1.le (by omega) (by omega),λe O=>(h2 e O).le (by omega) (by omega)⟩
 |meet c d p q =>have c1:cB 1=1:=rfl;have p1:=(Na (OD 1) (pl:=pl) U B z.2.1).1;have q1:=(Na (OD 1) (pl:=pl) U B z.2.2.1).1;exact⟨⟨by rw[Lo];exact pY 2 B.ss z,p1.od,Kk p1.mo q1.mo λi j hi hj=>by have:=intBits_mul_le hi hj;omega⟩,λe O=>(Tf (OD 1) U B z.2.1 z.2.2.1 e O).le (by omega) (by omega)⟩
theorem BD:∀(n:Nat){tp:Bool}{h:Hd}{x:Wk},jQ tp n h x->sY x/\∀p∈cm x,yw (n-1) p
 |n,tp,h,.one x,fx=>⟨(dq.mp fx).fit.ok,λp hp=>by cases hp⟩
 |n+1,tp,h,x,fx=>by
  have L:∀{ws:List Wk},gO false n h ws->yw n ws:=λ{ws} f=>by
   have a:∀x∈ws,sY x/\∀p∈cm x,yw (n-1) p:=λx U=>by obtain⟨i,hi,rfl⟩:=List.getElem_of_mem U;exact BD n (f.at_ i _ (Yd hi))
   cases n with
   |zero=>exact⟨X6 f.few (by decide),λx U=>(a x U).1⟩
   |succ n=>exact⟨X6 f.few (by decide),a⟩
  have O:∀{p q:List Wk},cm x=[p,q]->gO false n h p->gO false n h q->(nI x/\goodW x/\Qh x)->sY x/\∀p∈cm x,yw n p:=λ{p q} eb fp fq hz=>by
   have:∀r∈cm x,yw n r:=λr z=>by
    rw[eb]at z;simp only[Ym,YH,or_false]at z;rcases z with rfl|rfl
    ·exact L fp
    ·exact L fq
   exact⟨⟨hz.1,hz.2.1,hz.2.2,λr z=>X6 (this r z).len (by decide)⟩,this⟩
  cases x with
  |one x=>exact⟨(dq.mp fx).fit.ok,λp hp=>by cases hp⟩
  |both p q=>exact O rfl fx.1 fx.2.1 ⟨trivial,trivial,trivial⟩
  |meet c d p q=>exact O rfl fx.2.1 fx.2.2.1 ⟨trivial,trivial,trivial⟩
def bT:Nat->Nat
 | 0=>10
 |n+1=>2*bT n+100
theorem JS{n:Nat}(h:n<=5):10<=bT n/\bT n<=10000:=by
 match n,h with
 | 0,_ | 1,_ | 2,_ | 3,_ | 4,_ | 5,_=>decide
structure Top(ss:Hd)(ws:List Wk)(fr:Bool):Prop where
 Rc:cL ss
 fit:gO true 2 ss ws
 put:∃f,FI 2 ss ws=.ok (hdL 2 ss ws) f/\(fr=true->f.o=false)
 bd:Bd (65*ws.length) (bT ws.length) (cT 2 (ss,m3) ws)
 ek:∀e∈AL 2 [] 0 (ss,m3) ws,GR e.2
theorem Top.nil{ss:Hd}(h:cL ss):Top ss [] true:=⟨h,⟨Yq _,λi x e=>by cases e⟩,⟨f0,rfl,λ_=>rfl⟩,⟨h,X5 _,λm e=>by cases e⟩,λe z=>by rw[Yk.mp z];exact Bd.ek (a:=0) (b:=0) ⟨h,X5 _,λm e=>by cases e⟩ (by decide) (by decide)⟩
def Fx(s:Str):Bool:=inV (.str s) [.str "keep",.str "same",.str "cut",.str "turn"]
theorem Top.snoc{ss:Hd}{ws:List Wk}{fr:Bool}{x:Wk}(h:Top ss ws fr)(hl:ws.length<5)(U:jQ true 2 (hdL 2 ss ws) x)(hw:∀y,x=.one y->eD y=true->fr=true):Top ss (ws++[x]) (fr&&Fx x.nm):=by
 obtain⟨f,e,ef⟩:=h.put;obtain⟨f',O⟩:=vi 2 (f:=f) (pl:=[]++[((0+ws.length:Nat):Int)]) (h.fit.ss h.Rc) U λy ey ew=>ef (hw y ey ew);have b5:=JS (Nat.le_of_lt hl);have es:(cT 2 (ss,m3) ws).1=hdL 2 ss ws:=rfl;obtain⟨t1,t2⟩:=Ms (pl:=[]++[((0+ws.length:Nat):Int)]) b5.1 (by rw[es];exact U) h.bd;have r1:Bd (65*(ws.length+1)) (bT (ws.length+1)) (cT 2 (ss,m3) (ws++[x])):=by rw[iP];exact t1
 refine⟨h.Rc,h.fit.snoc hl U,⟨f',?_,λz=>?_⟩,by rw[X_];exact r1,λy hy=>?_⟩
 ·rw[fh,←O];show putL (bY 2) [] 0 ss f0 (ws++[x])=_;rw[rL];have e:putL (bY 2) [] 0 ss f0 ws=_:=e;rw[e];rfl
 ·rw[YC]at z;have fo:=ef z.1;cases x with
  |one y =>
   rw[AW]at O;unfold m7 at O;split at O
   ·cases O
   ·injection O with _ O;rw[←O];show((f.o||false)||pO (bh (.one y)))=false;rw[fo];cases y<;>first|rfl|exact YE z.2 (by simp only[Wk.nm,W1.nm];decide +kernel)
  |both p q=>exact YE z.2 (by simp only[Wk.nm];decide +kernel)
  |meet c d p q=>exact YE z.2 (by simp only[Wk.nm];decide +kernel)
 ·rw[jS]at hy;have b6:=JS (n:=ws.length+1) hl;rcases Yo.mp hy with z|z
  ·exact h.ek y z
  ·rcases Yo.mp z with z|z
   ·exact(t2 y z).ek (by omega) (by omega)
   ·rw[Yk.mp z];exact r1.ek (by omega) (by omega)
theorem Top.Wi{ss:Hd}{ws:List Wk}{fr:Bool}(h:Top ss ws fr):yw 2 ws:=⟨X6 h.fit.few (by decide),λx z=>by obtain⟨i,hi,rfl⟩:=List.getElem_of_mem z;exact BD 2 (h.fit.at_ i _ (Yd hi))⟩
inductive uY(vs:List V)(H:Hp)(Q:VK)(E:XK):Prop
 |mk (p l:Addr) (ss:Hd) (_:vs=[.ref p,.ref l]) (_:c5 H p) (_:bX H l ss) (_:cL ss) (_:∀(a:Addr)(x:W1) H',bt p H H'->h_ H' a x->tH false ss x->bc (.one x) [ss]=ss->Q (.ref a) H'):uY vs H Q E
theorem o1{ss:Hd}{x:W1}(h:lF ss x)(h1:eE (.one x)=false:=by rfl)(h2:eD x=false:=by rfl)(h3:∀n,x=.first n->0<=n/\n<=100:=by intro n z;cases z):tH false ss x:=⟨h,h1,λ_=>h2,h3⟩
abbrev j7:Stmt:=top 88
theorem d9:ax ["_law_pot_here","_law_sorts","_law_way","_law_some","_law_column","_law_sort","_law_alike"] ["_law_pot_here","_law_sorts"] (aq j7):=fs
variable{P:Program}{w:World}{K:YY}{mg:Z0}{base:Heap}
theorem DF(B:j_ mg)(F:FA K mg "_law_still" j7)
  (av:bz bx P w K mg base 1 "_law_draw" ZC eA)
  (de:bz bx P w K mg base 1 "_law_plain" ZK mi)
  (jl:bz bx P w K mg base 2 "_law_unlike" ["_law_pot_here","_law_wide"] BB)
  (nG:bz bx P w K mg base 2 "_law_set" ["_law_pot_here","_law_sort"] vH)
  (ij:bz bx P w K mg base 2 "_law_pairs" ["_law_pot_here","_law_sort","_law_goal"] oM) :
  bz bx P w K mg base 3 "_law_still" ["_law_pot_here","_law_sorts"] uY:=by
 refine F.ok d9 λf cdv A outer s H vs Q E U h=>?_;have hu:=fJ U;obtain⟨p,l,ss,rfl,hP,hl,hs,q⟩:=h;refine Bc (fW (aU (i:=2) d9.nd rfl (YI rfl) (aG av U (aa (pv 0) (aa aj ag))))
  (fW (aU (i:=3) d9.nd rfl (YI rfl) (aG de U (aa (pv 1) ag)))
  (gX (ba bH (pv 2) aj) (e8 (bJ (au (bp aD) (au (bp (aG jl U (aa (pv 0) (aa (aP aM rfl B.len YW (aa (pv 1) ag)) ag)))) bB))))
  (gX (ba bH (pv 2) aj) (e8 (bJ (au (bp aD) (au (uf (r:=iE K) fZ (An (au (bp (aG av U (aa (pv 0) (aa aj ag)))) (au (bp (aL cw aj (aG av U (aa (pv 0) (aa aj ag))))) bB))) (bp (aG av U (aa (pv 0) (aa aj ag)))) (λ_ _=>rfl)) bB))))
  (gX (PW.pt (oE (ba bH (pv 2) aj) (jG (ba (kY hu) (pv 3) (bw ag))))) (e8 (bJ (au (bp aD) bB)))
  (fW (aU (i:=4) d9.nd rfl (YI rfl) (bf K (pv 3) (aG av U (aa (pv 0) (aa (aP aM rfl B.len YW (aa (pv 3) ag)) ag)))))
  (fW (aU (i:=5) d9.nd rfl (Or.inr rfl) (bf K (pv 1) (aL bN (pv 4) aj)))
  (gX (ba bH (pv 2) aj) (e8 (bJ (au (bp aD) (au (bp (pv 4)) (au (bp (aG nG U (aa (pv 0) (aa (pv 5) ag)))) bB)))))
  (gX (ba bH (pv 2) aj) (e8 (bJ (au (bp aD) (au (bp (pv 4)) (au (bp (aG ij U (aa (pv 0) (aa (pv 5) (aa (pv 5) ag))))) bB)))))
  (fW (fE (i:=6) (N':=["_law_other_here","_law_sorts","_law_sort"]) (src:=[none,some 1,some 5]) d9.nd rfl (YI rfl) rfl rfl (bq.jN (by kernel_rfl)) (dg (pv 3)) (λcl C s H fp=>(gg (i:=0))) (tc:=(gD (eC Js (eC (iE K) (br 1) (eC (sy λi j=>V.int (i-j)) (br 0) (tC (.int 1)))) (br 2)))) (λcl C s H fp=>dX (ba bH (bf K (oH 1) (aL bN (gK 0) aj)) (oH 2))) (te:=(br 0)) (λcl C s H fp=>(gK 0)))
  (e8 (bJ (au (bp aD) (au (bp (pv 4)) (au (uf (r:=iE K) fZ (bp (pv 6)) (bp (aG av U (aa (pv 0) (aa (aP aM rfl B.len YW (aa (pv 6) ag)) ag)))) (λ_ _=>rfl)) bB))))))))))))))) ?_
 have s1:=hs.pos;have s6:=hs.six;have hn:(ss.map V.str).length=ss.length:=X9 ..;have nl:l≠p:=uD hP hl hs.pos;refine⟨_,rfl,p,_,rfl,hP,by decide,by decide,λd H1 g1 a1 b1=>ak ?_⟩;dsimp only;have hl1:bX H1 l ss:=g1.keep _ _ nl hl;refine⟨_,rfl,l,ss,rfl,hl1,X6 s6 (by decide),λu H2 Oj s2 hu'=>ak ?_⟩;dsimp only;have g2:bt p H H2:=g1.trans (bt.same g1.bV s2);have hl2:bX H2 l ss:=s2 _ _ hl1;have nu:u≠p:=g1.ne Oj;refine bL (λb H'=>b=decide (d=0)/\H2=H') (λT O=>⟨_,rfl,rfl,_,rfl,O _ _ ⟨lN,rfl⟩⟩) ?_ ?_
 ·rintro H' ⟨_,rfl⟩;refine⟨_,rfl,_,rfl,l,_,rfl,.inl (bb.of hl2),p,ss.length,by rw[hn];rfl,g2.bV,s1,by omega,λt bs od H4 g4 hI o1' o2=>⟨cS,λT O=>?_⟩⟩;exact q T (.sort od) _ ((g2.trans g4).new O) ⟨t,bs,ae,hI.keep (aE.of (ai O _)) λ_ _ z=>ai O _ _ _ z⟩ (o1 (wG hs o1' o2)) rfl
 rintro H' ⟨_,rfl⟩;refine bL (λb H'=>b=decide (d=1)/\H2=H') (λT O=>⟨_,rfl,rfl,_,rfl,O _ _ ⟨lN,rfl⟩⟩) ?_ ?_
 ·rintro H' ⟨_,rfl⟩;refine⟨_,rfl,p,_,rfl,g2.bV,by decide,by decide,λe1 H5 g5 a5 b5=>⟨_,rfl,p,_,rfl,g5.bV,by decide,by decide,λe2 H6 g6 a6 b6=>⟨_,_,rfl,rfl,cS,λL hL=>⟨_,rfl,p,_,rfl,(g6.new hL).bV,by decide,by decide,λe3 H7 g7 a7 b7=>?_⟩⟩⟩⟩;have nL:L≠p:=g6.ne hL;obtain⟨v,hv,hm⟩:=iL (xs:=[V.int e1,.int (7+e2)]) a7 b7;obtain⟨n,hn0,en⟩ :∃n:Int,(0<=n/\n<=100)/\v=.int n:=by
   have:=Yf hm;simp only[Ym,YH,or_false]at this;rcases this with rfl|rfl
   ·exact⟨_,⟨a5,by omega⟩,rfl⟩
   ·exact⟨_,⟨by omega,by omega⟩,rfl⟩
  subst en;refine⟨L,_,_,_,rfl,rfl,bb.of (g7.keep _ _ nL ae),hv,cS,λT O=>?_⟩;exact q T (.first n) _ (((((g2.trans g5).trans g6).new hL).trans g7).new O) ae (o1 (ug hs) rfl rfl λm z=>by cases z;exact hn0) rfl
 rintro H' ⟨_,rfl⟩;refine bL (λb H'=>(b=false->cv ss≠[])/\aH H2 H') (λT O=>?_) ?_ ?_
 ·refine oU ⟨_,rfl,rfl,_,rfl,?_⟩;refine fY (λ_=>O _ _ ⟨λz=>(by cases z),aH.refl _⟩) λ_=>?_;refine⟨_,rfl,Yq _,λL hL=>⟨u,L,_,rfl,rfl,ai hL _ _ _ hu',ae,_,rfl,O _ _ ⟨λz e=>?_,ai hL _⟩⟩⟩;rw[e]at z;cases z
 ·rintro H3 ⟨_,s3⟩;exact⟨eG,λT O=>q T .apart _ ((g2.trans (bt.same g2.bV s3)).new O) ae (o1 (tV hs)) rfl⟩
 rintro H3 ⟨hne,s3⟩;have hne:=hne rfl;have g3:bt p H H3:=g2.trans (bt.same g2.bV s3);have mU:=s3 _ _ hu';have II:1<=((cv ss).map V.int).length:=by rw[X9];exact List.length_pos_iff.mpr hne
 have GA:((cv ss).map V.int).length<=6:=by rw[X9,cv,X9];exact X6 (List.length_filter_le _ _) (by rw[List.length_range];exact s6)
 refine⟨_,rfl,_,rfl,_,rfl,u,_,rfl,.inl (bb.of mU),p,_,rfl,g3.bV,by omega,cy (by omega) (by omega),λd1 H4 g4 a4 b4=>?_⟩;obtain⟨c,hca,hcm⟩:=pI (v:=.non) a4 b4;obtain⟨hc,ht⟩:=fG hcm;have ku:=g4.keep _ _ nu mU;have C_:bX H4 l ss:=g4.keep _ _ nl (s3 _ _ hl2);have qw:=g3.trans g4;refine⟨u,_,_,_,rfl,rfl,bb.of ku,hca,ak ?_⟩;dsimp only;refine⟨_,rfl,_,rfl,_,_,rfl,rfl,l,_,_,_,rfl,rfl,bb.of C_,iW hc,ak ?_⟩;dsimp only;refine bL (λb H'=>b=decide (d=3)/\H4=H') (λT O=>⟨_,rfl,rfl,_,rfl,O _ _ ⟨lN,rfl⟩⟩) ?_ ?_
 ·rintro H' ⟨_,rfl⟩;refine⟨_,rfl,_,rfl,_,rfl,p,_,rfl,qw.bV,λa xs H5 g5 ha=>⟨cz,λT O=>?_⟩⟩;exact q T (.keep c (Ao (bK ss c))) _ ((qw.trans g5).new O) ⟨a,xs,ae,ai O _ _ _ ha⟩ (o1 (wN hs hc)) rfl
 rintro H' ⟨_,rfl⟩;refine bL (λb H'=>b=decide (d=4)/\H4=H') (λT O=>⟨_,rfl,rfl,_,rfl,O _ _ ⟨lN,rfl⟩⟩) ?_ ?_
 ·rintro H' ⟨_,rfl⟩;refine⟨_,rfl,_,rfl,_,rfl,_,rfl,p,_,_,rfl,qw.bV,λt bs ps H6 g6 hI p1 p2 hp=>⟨cz,λT O=>?_⟩⟩;exact q T (.turn c ps) _ ((qw.trans g6).new O) ⟨t,bs,ae,hI.keep (aE.of (ai O _)) λ_ _ z=>ai O _ _ _ z⟩ (o1 (xX hs hc ht p2 hp)) rfl
 rintro H' ⟨_,rfl⟩;refine⟨_,rfl,u,rfl,⟨_,bb.of ku⟩,λD hD=>rb C_ ku GA hD λH5 sm GN=>ak ?_⟩;dsimp only;have g5:bt p H H5:=qw.trans (bt.same qw.bV sm);have nD:D≠p:=qw.ne hD;have hal:1<=((((cv ss).filter λe=>decide (bK ss e=bK ss c))).map V.int).length:=by rw[X9];exact List.length_pos_of_mem (List.mem_filter.mpr ⟨hcm,X8 rfl⟩)
 have QL:((((cv ss).filter λe=>decide (bK ss e=bK ss c))).map V.int).length<=6:=by rw[X9]at GA⊢;exact X6 (List.length_filter_le _ _) GA
 refine⟨_,rfl,_,rfl,_,rfl,_,rfl,D,_,rfl,.inl (bb.of GN),p,_,rfl,g5.bV,by omega,cy (by omega) (by omega),λd2 H6 g6 a6 b6=>?_⟩;obtain⟨e,OQ,Nf⟩:=pI (v:=.non) a6 b6;obtain⟨R3,Sx⟩:=List.mem_filter.mp Nf;refine⟨D,_,_,_,rfl,rfl,bb.of (g6.keep _ _ nD GN),OQ,cz,λT O=>?_⟩;exact q T (.same c e) _ ((g5.trans g6).new O) ae (o1 (wu hs hc (fG R3).1 ht (YD Sx))) rfl
def qS(H:Hp)(r:Addr):Prop:=∃a b c:Int,H r=some (.lst [.int a,.int b,.int c])/\0<=a/\a<=20
structure fb(p r:Addr)(H H':Hp):Prop where
 keep:∀b o,b≠p->b≠r->H b=some o->H' b=some o
 bV:c5 H' p
 rs:qS H' r
section
variable{p r:Addr}{H H' H1 H2:Hp}
theorem uH(hP:c5 H p)(U:qS H r):r≠p:=λz=>by obtain⟨a,b,e,_⟩:=hP;obtain⟨x,y,w,O,_⟩:=U;rw[z,e]at O;cases O
theorem fb.refl(O:c5 H p)(z:qS H r):fb p r H H:=⟨λ_ _ _ _ e=>e,O,z⟩
theorem fb.trans(a:fb p r H H1)(b:fb p r H1 H2):fb p r H H2:=⟨λc o n m e=>b.keep c o n m (a.keep c o n m e),b.bV,b.rs⟩
theorem fb.gr(a:fb p r H H1)(g:bt p H1 H2):fb p r H H2:=⟨λc o n m e=>g.keep c o n (a.keep c o n m e),g.bV,let ⟨x,y,w,e,z⟩:=a.rs;⟨x,y,w,g.keep _ _ (uH a.bV a.rs) e,z⟩⟩
theorem fb.sm(a:fb p r H H1)(s:aH H1 H2):fb p r H H2:=a.gr (bt.same a.bV s)
theorem fb.new{q:Addr}{o:HO}(a:fb p r H H1)(h:H1 q=none):fb p r H (upd H1 q o):=a.sm (ai h o)
theorem fb.ne{D:Addr}(g:fb p r H H')(O:H' D=none):D≠p/\D≠r :=
 ⟨λz=>(by obtain⟨a,b,e,_⟩:=g.bV;rw[z,e]at O;cases O),λz=>(by obtain⟨x,y,w,e,_⟩:=g.rs;rw[z,e]at O;cases O)⟩
theorem fb.put{D:Addr}{o:HO}(U:H D=none)(g:fb p r H H')(n:D≠p/\D≠r):fb p r H (upd H' D o) :=
 ⟨λb u O n2 e=>by rw[aI (aY e U)];exact g.keep b u O n2 e,let ⟨a,b,e,z⟩:=g.bV;⟨a,b,by rw[aI (Ne.symm n.1)];exact e,z⟩,let ⟨x,y,w,e,z⟩:=g.rs;⟨x,y,w,by rw[aI (Ne.symm n.2)];exact e,z⟩⟩
theorem fb.b_(hP:c5 H p)(U:qS H r)(g:fb p r H H'):aE H H':=λa xs e=>g.keep a _ (λz=>by obtain⟨x,y,O,_⟩:=hP;rw[z,O]at e;cases e) (λz=>by obtain⟨x,y,w,O,_⟩:=U;rw[z,O]at e;cases e) e
theorem fb.ls{l:Addr}{ss:Hd}(hP:c5 H p)(O:qS H r)(g:fb p r H H')(h1:1<=ss.length)(h:bX H l ss):bX H' l ss:=g.keep _ _ (uD hP h h1) (λz=>by
 obtain⟨x,y,w,U,_⟩:=O;have h:H l=some (.lst (ss.map V.str)):=h;rw[z,U]at h;cases ss with
 |nil=>cases h1
 |cons s t=>injection h with h;injection h with h;cases h) h
theorem fb.yQ{a b c:Int}(g:fb p r H H')(ha:0<=a/\a<=20):fb p r H (upd H' r (.lst [.int a,.int b,.int c])) :=
 ⟨λd o n m e=>by rw[aI m];exact g.keep d o n m e,let ⟨x,y,e,z⟩:=g.bV;⟨x,y,by rw[aI (Ne.symm (uH g.bV g.rs))];exact e,z⟩,⟨a,b,c,ae,ha.1,ha.2⟩⟩
end
theorem mj{tc:TT}{a b:TS}{D:Ends}{σ:St}{H:Hp}(z:Bool->Hp->Prop)(O:∀T:Bool->Hp->Prop,(∀c H',z c H'->T c H')->tc σ H T)(ha:∀H',z true H'->a D σ H')(U:∀H',z false H'->b D σ H'):Cd tc a b D σ H :=
 O _ λc H' h=>by
  cases c with
  |true=>exact cJ (ha H' h)
  |false=>exact cK (U H' h)
structure pq(n:Nat)(H:Hp)(L:Addr)(bs:Z6)(ws:List Wk):Prop where
 lst:H L=some (.lst (bs.map V.ref))
 len:bs.length=ws.length
 at_:∀(i:Nat) a x,bs[i]? = some a->ws[i]? = some x->dZ n H a x
theorem pq.keep{n:Nat}{H H':Hp}{L:Addr}{bs:Z6}{ws:List Wk}(h:pq n H L bs ws)(e:H' L=H L)(k:aE H H'):pq n H' L bs ws:=⟨by rw[e];exact h.lst,h.len,λi a x z O=>(h.at_ i a x z O).keep k⟩
theorem pq.snoc{n:Nat}{H:Hp}{L a:Addr}{bs:Z6}{ws:List Wk}{x:Wk}(h:pq n H L bs ws)(ha:dZ n H a x):pq n (upd H L (.lst (bs.map V.ref++[.ref a]))) L (bs++[a]) (ws++[x]):=by have:=jP (At:=dZ n) (H':=upd H L (.lst (bs.map V.ref++[.ref a]))) h.len h.at_ (λ_ _ z=>z.keep (aE.refl.dP h.lst)) (ha.keep (aE.refl.dP h.lst));exact⟨by rw[ae,Ya];rfl,this.1,this.2⟩
inductive Ko(n:Nat)(vs:List V)(H:Hp)(Q:VK)(E:XK):Prop
 |mk (p l r:Addr) (ss:Hd) (_:vs=[.ref p,.ref l,.int (n:Nat),.ref r]) (_:c5 H p) (_:qS H r) (_:bX H l ss) (_:cL ss) (_:∀(t:Addr)(ws:List Wk) H',fb p r H H'->jA n H' t ws->gO false n ss ws->hdL n ss ws=ss->ws.length<=3->Q (.ref t) H'):Ko n vs H Q E
def AY:Nat->Sp
 | 0=>λ_ _ _ _=>False
 |n+1=>Ko n
inductive T5(n:Nat)(p l r L:Addr)(H:Hp)(ss:Hd)(i:Nat)(σ:St)(H':Hp):Prop
 |mk (bs:Z6) (ws:List Wk) (st:∃o5 o6,σ=[some (.ref p),some (.ref l),some (.int (n:Nat)),some (.ref r),some (.ref L),o5,o6]) (h1:fb p r H H') (h2:pq n H' L bs ws) (h3:gO false n ss ws) (h4:hdL n ss ws=ss) (h5:ws.length<=i)
abbrev gy:Stmt:=top 89
theorem eK:ax ["_law_pot_here","_law_sorts","_law_deep","_law_rest","_law_found","_law_k","_law_one"] ["_law_pot_here","_law_sorts","_law_deep","_law_rest"] (aq gy):=fs
theorem tU{n L:Nat}(B:j_ mg)(B2:nM mg)(F:FA K mg "_law_stills" gy)
  (av:bz bx P w K mg base 1 "_law_draw" ZC eA)
  (vL:bz bx P w K mg base 3 "_law_still" ["_law_pot_here","_law_sorts"] uY)
  (fg:bz bx P w K mg base (L+3) "_law_stills" ["_law_pot_here","_law_sorts","_law_deep","_law_rest"] (AY n)) :
  bz bx P w K mg base (L+4) "_law_stills" ["_law_pot_here","_law_sorts","_law_deep","_law_rest"] (AY (n+1)):=by
 refine F.ok eK λf cdv A outer s H vs Q E hr h=>?_;obtain⟨p,l,r,ss,rfl,hP,hR,hl,hs,q⟩:=h;refine⟨_,(ao (aU (i:=4) eK.nd rfl (YI rfl) (bw ag))
   (ao (dR PassesOwn.never rfl (c9 rfl B.range (aa (aG av hr (aa (pv 0) (aa (aL cw aj (bA il rfl B2.int YN (aa (gH iO (pv 2) aj) ag))) ag))) ag)) (aQ (i:=5) eK.nd rfl (YI rfl))
    (bC (fi (ba iO (bf K (pv 3) aj) aj)
      (ao (c8 (aL bN (bf K (pv 3) aj) aj) (jL (pv 3) aj set_list))
       (bC (fi (PW.pt (fM (ba iO (pv 2) aj) (fM (ba iO (bf K (pv 3) aj) aj) (gx (ba bH (aG av hr (aa (pv 0) (aa aj ag))) aj)))))
        (ao (c8 (aL bN (bf K (pv 3) aj) aj) (jL (pv 3) aj set_list))
         (ao (aU (i:=6) eK.nd rfl (YI rfl) (aG fg hr (aa (pv 0) (aa (pv 1) (aa (aL bN (pv 2) aj) (aa (pv 3) ag))))))
         (bC (cN (gN PySem.F.plainAttrs_list PySem.F.slot_list_append PySem.F.type_list_append cb (pv 4) (aa (aW (aa aD (aa (pv 6) (aa (aG fg hr (aa (pv 0) (aa (pv 1) (aa (aL bN (pv 2) aj) (aa (pv 3) ag))))) ag)))) ag))))))
        (bC (cN (gN PySem.F.plainAttrs_list PySem.F.slot_list_append PySem.F.type_list_append cb (pv 4) (aa (aG vL hr (aa (pv 0) (aa (pv 1) ag))) ag)))))))
      dc)))
   (ay (bA bu rfl B.tuple YM (aa (pv 4) ag))))),?_⟩
 have hr0:=hR;refine⟨Yq _,λL hL=>ak ?_⟩;dsimp only;have g0:=(fb.refl hP hR).new (o:=.lst []) hL;have nL:=(fb.refl hP hR).ne hL;have xU:pq n (upd H L (.lst [])) L [] []:=⟨ae,rfl,λi a x e=>by cases e⟩;revert g0 xU;generalize upd H L (.lst [])=H0;intro g0 xU;refine⟨_,rfl,_,rfl,_,_,rfl,rfl,.inr ⟨_,rfl,_,_,rfl,rfl,p,_,rfl,g0.bV,?_,?_,λd H1 g1 a1 b1=>⟨_,rfl,(ig (by omega) ?_).1,(ig (by omega) ?_).2,?_⟩⟩⟩
 ·split<;>omega
 ·split<;>decide
 ·split at b1<;>omega
 ·split at b1<;>omega
 have Q_:d<4:=by split at b1<;>omega
 have QB:=g0.gr g1;refine gq (n:=d.toNat) (T5 n p l r L H ss) ⟨[],[],⟨none,none,rfl⟩,QB,xU.keep (by rw[xU.lst];exact g1.keep _ _ nL.1 xU.lst) (aE.grow g0.bV g1),⟨Yq _,λi x e=>by cases e⟩,rfl,X5 _⟩ ?_ ?_
 ·rintro i σ H' hi ⟨bs,ws,⟨o5,o6,rfl⟩,g',U,hf,hh,hwl⟩;have WT:i<3:=by omega
  obtain⟨a,b,c,hr,ha0,CV⟩:=g'.rs;refine ak ?_;dsimp only;refine mj (λk H2=>(k=true->0<a)/\H'=H2) (λT hT=>⟨_,rfl,r,_,0,_,rfl,rfl,bb.of hr,az (j:=0) rfl,_,_,rfl,rfl,_,rfl,hT _ _ ⟨λz=>YD z,rfl⟩⟩) ?_ (λH2 z=>by obtain⟨_,rfl⟩:=z;exact bR ⟨bs,ws,⟨_,_,rfl⟩,g',U,hf,hh,Nat.le_succ_of_le hwl⟩);rintro H2 ⟨ha,rfl⟩;have ha:=ha rfl;refine gB (λσ' H2=>σ'=[some (.ref p),some (.ref l),some (.int (n:Nat)),some (.ref r),some (.ref L),some (.int (0+(i:Int))),o6]/\fb p r H' H2) (λR hR=>⟨_,rfl,r,_,0,_,rfl,rfl,bb.of hr,az (j:=0) rfl,_,_,rfl,rfl,_,rfl,r,_,_,0,rfl,rfl,hr,rfl,hR _ _ ⟨rfl,(fb.refl g'.bV g'.rs).yQ (a:=a-1) (b:=b) (c:=c) (by omega)⟩⟩) ?_;rintro σ H2 ⟨rfl,g2⟩;have app:∀{H4:Hp}{x:Wk}{T:Addr}{o5 o6:Option V},fb p r H' H4->dZ n H4 T x->jQ false n ss x->EE n ss x=ss->H4 L=some (.lst (bs.map V.ref))/\(bs.map V.ref).length<sizeLine/\T5 n p l r L H ss (i+1) [some (.ref p),some (.ref l),some (.int (n:Nat)),some (.ref r),some (.ref L),o5,o6] (upd H4 L (.lst (bs.map V.ref++[.ref T]))):=λ{H4 x T o5 o6} O hx fx Xd=>by have I_:=O.keep _ _ nL.1 nL.2 U.lst;refine⟨I_,by rw[X9,U.len];exact Yb (X6 hwl (Nat.le_of_lt WT)) (by decide),bs++[T],ws++[x],⟨_,_,rfl⟩,fb.put hL (g'.trans O) nL,(U.keep (by rw[I_,U.lst]) (O.b_ g'.bV g'.rs)).snoc hx,hf.snoc (by omega) (by rw[hh];exact fx),by rw[fh,hh];exact Xd,by rw[X_];exact Nat.succ_le_succ hwl⟩
  refine mj (λk H3=>(k=true->0<n)/\fb p r H' H3) (λT hT=>?_) ?_ ?_
  ·refine iJ ⟨_,rfl,_,_,rfl,rfl,_,rfl,fY (λk=>?_) λ_=>hT _ _ ⟨λz=>(by cases z),g2⟩⟩;have hn:0<n:=by have:=YD k;omega
   obtain⟨a2,b2,c2,hr2,_⟩:=g2.rs;refine iJ ⟨_,rfl,r,_,1,_,rfl,rfl,bb.of hr2,rfl,_,_,rfl,rfl,_,rfl,fY (λ_=>?_) λ_=>hT _ _ ⟨λz=>(by cases z),g2⟩⟩;exact⟨_,rfl,p,_,rfl,g2.bV,by decide,by decide,λd4 H3 g3 _ _=>⟨rfl,_,rfl,hT _ _ ⟨λ_=>hn,g2.gr g3⟩⟩⟩
  ·rintro H3 ⟨hn,g3⟩;obtain⟨m,rfl⟩ :∃m,n=m+1:=⟨n-1,by have:=hn rfl;omega⟩;obtain⟨a2,b2,c2,SQ,ha3,Sk⟩:=g3.rs;refine gB (λσ' H4=>σ'=[some (.ref p),some (.ref l),some (.int ((m+1:Nat):Int)),some (.ref r),some (.ref L),some (.int (0+(i:Int))),o6]/\fb p r H' H4) (λR hR=>⟨_,rfl,r,_,1,_,rfl,rfl,bb.of SQ,rfl,_,_,rfl,rfl,_,rfl,r,_,_,1,rfl,rfl,SQ,rfl,hR _ _ ⟨rfl,g3.yQ (a:=a2) (b:=b2-1) (c:=c2) ⟨ha3,Sk⟩⟩⟩) ?_;rintro σ H4 ⟨rfl,O⟩;have C_:bX H4 l ss:=(g'.trans O).ls hP hr0 hs.pos hl;have em:[V.ref p,.ref l,.int (((m+1:Nat):Int)-1),.ref r]=[.ref p,.ref l,.int (m:Nat),.ref r]:=by rw[show((m+1:Nat):Int)-1=(m:Nat) by omega]
   refine⟨_,rfl,_,rfl,_,rfl,_,_,rfl,rfl,_,rfl,⟨p,l,r,ss,em,O.bV,O.rs,C_,hs,λt1 w1 H5 g5 hp1 f1 e1 _=>ak ?_⟩⟩;dsimp only;have QF:=O.trans g5;have O6:=QF.keep _ _ nL.1 nL.2 U.lst;have GA:bX H5 l ss:=g5.ls O.bV O.rs hs.pos C_;refine⟨_,rfl,.inl ⟨rfl,_,bb.of O6⟩,_,rfl,_,rfl,_,rfl,_,rfl,_,_,rfl,rfl,_,rfl,⟨p,l,r,ss,em,g5.bV,g5.rs,GA,hs,λt2 w2 H6 g6 hp2 f2 e2 _=>⟨cz,λT hT=>?_⟩⟩⟩;have Q6:=(QF.trans g6).new (o:=.tup [.str "both",.ref t1,.ref t2]) hT;have z:=ai hT (.tup [.str "both",.ref t1,.ref t2]);obtain⟨b1,hp1⟩:=hp1.keep ((g6.b_ g5.bV g5.rs).trans (aE.of z));obtain⟨Wg,hp2⟩:=hp2.keep (aE.of z);obtain⟨y1,y2,y3⟩:=app (x:=.both w1 w2) (T:=T) (o5:=some (.int (0+(i:Int)))) (o6:=some (.ref t1)) Q6 ⟨t1,t2,b1,Wg,ae,hp1,hp2⟩ ⟨f1,f2,by rw[e1,e2]⟩ (by rw[EI,e1]);exact⟨L,_,_,rfl,rfl,y1,y2,y3⟩
  ·rintro H3 ⟨_,g3⟩;have hl3:bX H3 l ss:=(g'.trans g3).ls hP hr0 hs.pos hl;have UY:=g3.keep _ _ nL.1 nL.2 U.lst;refine⟨_,rfl,.inl ⟨rfl,_,bb.of UY⟩,_,rfl,_,rfl,⟨p,l,ss,rfl,g3.bV,hl3,hs,λT x H4 O hx o1' e1=>?_⟩⟩;obtain⟨y1,y2,y3⟩:=app (x:=.one x) (T:=T) (o5:=some (.int (0+(i:Int)))) (o6:=o6) (g3.gr O) (c7.mpr hx) (dq.mpr o1') (by rw[l_];exact e1);exact⟨L,_,_,rfl,rfl,y1,y2,y3⟩
 ·rintro σ H' ⟨bs,ws,⟨o5,o6,rfl⟩,g',U,hf,hh,hwl⟩;dsimp only;refine⟨_,rfl,L,_,rfl,.inl ⟨bb.of U.lst,λt ht=>?_⟩⟩;have z:=ai ht (.tup (bs.map V.ref));exact q t ws _ (g'.new ht) ⟨bs,ae,U.len,λi a x e1 e2=>(U.at_ i a x e1 e2).keep (aE.of z)⟩ hf hh (by omega)
inductive vf(vs:List V)(H:Hp)(Q:VK)(E:XK):Prop
 |mk (p l r:Addr) (ss:Hd) (_:vs=[.ref p,.ref l,.ref r]) (_:c5 H p) (_:qS H r) (_:bX H l ss) (_:cL ss) (_:∀(t:Addr)(w1 w2:List Wk) H',fb p r H H'->dZ 2 H' t (.both w1 w2)->jQ true 2 ss (.both w1 w2)->Q (.ref t) H'):vf vs H Q E
inductive Qd(p l r t1 t2:Addr)(d:Int)(H:Hp)(ss:Hd)(σ:St)(H':Hp):Prop
 |mk (tl:Addr) (bs:Z6) (xs:List W1) (a b c:Int) (st:σ=[some (.ref p),some (.ref l),some (.ref r),some (.ref t1),some (.ref t2),some (.int d),some (.ref tl)]) (h1:fb p r H H') (h2:cn h_ H' tl bs xs) (h3:∀x∈xs,tH false ss x) (h4:xs.length<=1) (h5:H' r=some (.lst [.int a,.int b,.int c])) (h6:2*xs.length<=a) (h7:a<=20)
theorem A6{n:Nat}{H:Hp}{t tl t':Addr}{ss:Hd}{bs as:Z6}{ws:List Wk}{xs:List W1}(O:cn (dZ n) H t bs ws)(U:cn h_ H tl as xs)(ht:H t'=some (.tup (bs.map V.ref++as.map V.ref)))(ho:∀x∈xs,tH false ss x)(hl:xs.length<=1)(hf:gO false n ss ws)(hh:hdL n ss ws=ss)(h3:ws.length<=3):cn (dZ n) H t' (bs++as) (ws++xs.map .one)/\gO false n ss (ws++xs.map .one)/\hdL n ss (ws++xs.map .one)=(match xs with|[]=>ss|x::_=>bc (.one x) [ss]):=by
 cases xs with
 |nil =>cases List.eq_nil_of_length_eq_zero U.len;rw[YO,List.map_nil,YO];exact⟨⟨by simpa using ht,O.len,O.at_⟩,hf,hh⟩
 |cons x ys =>
  cases ys with
  |cons y zs=>exact YE hl (by simp)
  |nil =>obtain⟨a,m,rfl,z⟩:=rf (n:=0) U.len;cases List.length_eq_zero_iff.mp z;have:=jP (At:=dZ n) O.len O.at_ (λ_ _ z=>z) (c7.mpr (U.at_ 0 a x rfl rfl));refine⟨⟨by rw[Ya];exact ht,this.1,this.2⟩,hf.snoc (by omega) (by rw[hh];exact dq.mpr (ho x (by simp))),?_⟩;show hdL n ss (ws++[.one x])=_;rw[fh,hh,l_]
abbrev kO:Stmt:=top 90
theorem dW:ax ["_law_pot_here","_law_sorts","_law_rest","_law_one","_law_other_here","_law_way","_law_tail"] ZD (aq kO):=fs
theorem EG{L:Nat}(B:j_ mg)(F:FA K mg "_law_both" kO)
  (av:bz bx P w K mg base 1 "_law_draw" ZC eA)
  (fg:bz bx P w K mg base (L+2) "_law_stills" ["_law_pot_here","_law_sorts","_law_deep","_law_rest"] (AY 2))
  (cU:bz bx P w K mg base 2 "_law_columns" ZP mh) :
  bz bx P w K mg base (L+3) "_law_both" ZD vf:=by
 refine F.ok dW λf cdv A outer s H vs Q E hr h=>?_;have hu:=fJ hr;have hu1:=jF hr;obtain⟨p,l,r,ss,rfl,hP,hR,hl,hs,q⟩:=h;refine⟨_,(ao (c8 (aL bN (bf K (pv 2) aj) aj) (jL (pv 2) aj set_list))
   (ao (aU (i:=3) dW.nd rfl (YI rfl) (aG fg hr (aa (pv 0) (aa (pv 1) (aa aj (aa (pv 2) ag))))))
   (ao (aU (i:=4) dW.nd rfl (YI rfl) (aG fg hr (aa (pv 0) (aa (pv 1) (aa aj (aa (pv 2) ag))))))
   (ao (aU (i:=5) dW.nd rfl (YI rfl) (aG av hr (aa (pv 0) (aa aj ag))))
   (ao (aU (i:=6) dW.nd rfl (YI rfl) (aW ag))
   (ao (fi (PW.pt (fM (ba bH (pv 5) aj) (gx (ba iO (bf K (pv 2) aj) aj))))
    (bC (aU (i:=6) dW.nd rfl (YI rfl) (aW (aa (aW (aa aD (aa (aG cU hr (aa (pv 0) (aa (aP aM rfl B.len YW (aa (pv 1) ag)) (aa aj (aa aj ag))))) ag))) ag))))
    dc)
   (ao (fi (PW.pt (fM (ba bH (pv 5) aj) (gx (ba iO (bf K (pv 2) aj) aj))))
    (bC (aU (i:=6) dW.nd rfl (YI rfl) (aW (aa (aW (aa aD (aa (aG cU hr (aa (pv 0) (aa (aP aM rfl B.len YW (aa (pv 1) ag)) (aa aj (aa aj ag))))) ag))) ag))))
    dc)
   (ao (c8 (aL bN (bf K (pv 2) aj) (aL vc aj (aP aM rfl B.len YW (aa (pv 6) ag)))) (jL (pv 2) aj set_list))
   (ay (aW (aa aD (aa (aL cO (pv 3) (pv 6)) (aa (aL cO (pv 4) (pv 6)) ag))))))))))))),?_⟩
 have s1:=hs.pos;have s6:=hs.six;have hn:(ss.map V.str).length=ss.length:=X9 ..;obtain⟨a0,b0,c0,hr,ha0,CV⟩:=id hR;refine gB (λσ' H2=>σ'=[some (.ref p),some (.ref l),some (.ref r),none,none,none,none]/\fb p r H H2) (λR hR'=>⟨_,rfl,r,_,1,_,rfl,rfl,bb.of hr,rfl,_,_,rfl,rfl,_,rfl,r,_,_,1,rfl,rfl,hr,rfl,hR' _ _ ⟨rfl,(fb.refl hP hR).yQ (a:=a0) (b:=b0-1) (c:=c0) ⟨ha0,CV⟩⟩⟩) ?_;rintro σ H1 ⟨rfl,g1⟩;have hl1:bX H1 l ss:=g1.ls hP hR hs.pos hl;refine⟨_,rfl,_,rfl,_,rfl,⟨p,l,r,ss,rfl,g1.bV,g1.rs,hl1,hs,λt1 w1 H2 g2 O f1 e1 n1=>ak ?_⟩⟩;dsimp only;have hl2:bX H2 l ss:=g2.ls g1.bV g1.rs hs.pos hl1;refine⟨_,rfl,_,rfl,_,rfl,⟨p,l,r,ss,rfl,g2.bV,g2.rs,hl2,hs,λt2 w2 H3 g3 hp2 f2 e2 n2=>ak ?_⟩⟩;dsimp only;have PZ:=(g1.trans g2).trans g3;have hl3:bX H3 l ss:=g3.ls g2.bV g2.rs hs.pos hl2;have O:=O.keep (g3.b_ g2.bV g2.rs);refine⟨_,rfl,p,_,rfl,PZ.bV,by decide,by decide,λd H4 g4 a4 b4=>ak ?_⟩;dsimp only;have qw:=PZ.gr g4;have S_:aE H3 H4:=aE.grow PZ.bV g4;have C_:bX H4 l ss:=g4.keep _ _ (uD PZ.bV hl3 hs.pos) hl3;have O:=O.keep S_;have hp2:=hp2.keep S_;refine⟨sG,λtl htl=>ak ?_⟩;dsimp only;have zt:=ai htl (.tup []);have t0:Qd p l r t1 t2 d H4 ss [some (.ref p),some (.ref l),some (.ref r),some (.ref t1),some (.ref t2),some (.int d),some (.ref tl)] (upd H4 tl (.tup [])):=by obtain⟨a,b,c,h1,h2,h3⟩:=qw.rs;exact⟨tl,[],[],a,b,c,rfl,(fb.refl qw.bV qw.rs).new htl,⟨ae,rfl,λi a x e=>by cases e⟩,λx hx=>(by cases hx),by decide,zt _ _ h1,h2,h3⟩
 revert t0;generalize upd H4 tl (.tup [])=H5;intro t0;have step:∀{j:Int}{σ:St}{H5:Hp}{RA:TS}{D:Ends}{te:TE},Qd p l r t1 t2 d H4 ss σ H5->(∀{H6:Hp}{R:VK},fb p r H4 H6->(∀(u:Addr)(bs:Z6)(x:W1) H7,fb p r H6 H7->cn h_ H7 u bs [x]->tH false ss x->(∀o,H6 r=some o->H7 r=some o)->R (.ref u) H7)->te σ H6 R)->(∀σ' H',Qd p l r t1 t2 d H4 ss σ' H'->RA D σ' H')->vI (Cd (Mz (gD (eC Js (br 5) (tC (.int j)))) (gD (eC (sy λi j=>.bl (decide (j<i))) (eC (iE K) (br 2) (tC (.int 0))) (tC (.int 1))))) (yl te (b9 6)) uk) RA D σ H5:=λ{j σ H5 RA D te} ht U5 k=>by obtain⟨tl,bs,xs,a,b,c,rfl,g5,hx,ho,h1,Rk,ha,hb⟩:=ht;have ht:Qd p l r t1 t2 d H4 ss [some (.ref p),some (.ref l),some (.ref r),some (.ref t1),some (.ref t2),some (.int d),some (.ref tl)] H5:=⟨tl,bs,xs,a,b,c,rfl,g5,hx,ho,h1,Rk,ha,hb⟩;refine bL (λk H'=>(k=true->1<a)/\H5=H') (λT hT=>iJ ⟨_,rfl,rfl,_,rfl,fY (λ_=>⟨_,rfl,r,_,0,_,rfl,rfl,bb.of Rk,az (j:=0) rfl,_,_,rfl,rfl,_,rfl,hT _ _ ⟨λz=>YD z,rfl⟩⟩) λ_=>hT _ _ ⟨λz=>(by cases z),rfl⟩⟩) ?_ (λH' z=>by obtain⟨_,rfl⟩:=z;exact k _ _ ht);rintro H' ⟨Tc,rfl⟩;have Tc:=Tc rfl;exact U5 g5 λu bs' x H7 g7 UO o7 kr=>ak (k _ _ ⟨u,bs',[x],a,b,c,rfl,g5.trans g7,UO,λy hy=>by rw[Yk.mp hy];exact o7,X5 _,kr _ Rk,by show 2*((1:Nat):Int)<=a;omega,hb⟩)
 have tail:∀{nm:Str}(lo hi:Nat){σ:St}{H6:Hp}{R:VK}{mk:List Int->W1},σ[0]? = some (some (.ref p))->σ[1]? = some (some (.ref l))->fb p r H4 H6->lo<=hi->hi<=6->(∀H t cs,H t=some (.tup (cs.map V.int))->∀T,H T=some (.tup [.str nm,.ref t])->h_ H T (mk cs))->(∀cs:List Int,lo<=cs.length->cs.length<=hi->(∀c∈cs,1<=c/\c<=ss.length)->tH false ss (mk cs))->(∀(u:Addr)(bs:Z6)(x:W1) H7,fb p r H6 H7->cn h_ H7 u bs [x]->tH false ss x->(∀o,H6 r=some o->H7 r=some o)->R (.ref u) H7)->B5 (c6 (B5 (c6 (tC (.str nm)) (c6 (lj mh [] E0 (c6 (br 0) (c6 (P4 (RL K) (c6 (br 1) ll)) (c6 (tC (.int (lo:Nat))) (c6 (tC (.int (hi:Nat))) ll))))) ll))) ll) σ H6 R:=λ{nm} lo hi {σ H6 R mk} e0 e1 g6 h2 h3 hA hO hR=>by
  have Sw:bX H6 l ss:=g6.ls qw.bV qw.rs hs.pos C_;refine⟨_,e0,_,e1,l,_,rfl,.inl (bb.of Sw),⟨p,ss.length,lo,hi,by rw[hn];rfl,g6.bV,s1,by omega,by omega,by omega,λt cs H7 g7 ht c1 c2 hc=>⟨cS,λT hT=>⟨eG,λU hU=>?_⟩⟩⟩⟩;have z1:=ai hT (.tup [.str nm,.ref t]);have z2:=ai hU (.tup [.ref T]);refine hR U [T] (mk cs) _ ((((fb.refl g6.bV g6.rs).gr g7).new hT).new hU) ⟨ae,rfl,λi a x e1 e2=>?_⟩ (hO cs c1 c2 hc) λo ho=>z2 _ _ (z1 _ _ (g7.keep _ _ (uH g6.bV g6.rs) ho));cases i with
  |zero=>cases e1;cases e2;exact hA _ t cs (z2 _ _ (z1 _ _ ht)) T (z2 _ _ ae)
  |succ i=>cases e1
 refine step t0 (λg6 hR=>?_) λσ H6 t6=>step t6 (λg7 hR=>?_) λσ' H7 t7=>?_
 ·exact tail 1 6 (mk:=.cut) rfl rfl g6 (by decide) (by decide) (λH t cs ht T hT=>⟨t,hT,ht⟩) (λcs c1 c2 hc=>o1 (Ba hs hc c1 c2)) hR
 ·obtain⟨tl,bs,xs,a,b,c,rfl,_⟩:=t6;exact tail 0 5 (mk:=.count) rfl rfl g7 (by decide) (by decide) (λH t cs ht T hT=>⟨t,hT,ht⟩) (λcs c1 c2 hc=>o1 (uC hs hc c2)) hR
 obtain⟨tl,bs,xs,a,b,c,rfl,g7,hx,ho,h1,Te,ha,hb⟩:=t7;have wo:(bs.map V.ref).length=xs.length:=by rw[X9];exact hx.len
 refine gB (λσ' H2=>σ'=[some (.ref p),some (.ref l),some (.ref r),some (.ref t1),some (.ref t2),some (.int d),some (.ref tl)]/\fb p r H7 H2) (λR hR'=>⟨_,rfl,r,_,0,_,rfl,rfl,bb.of Te,az (j:=0) rfl,_,rfl,tl,_,rfl,.inr (aX.of hx.tup),_,_,rfl,rfl,.inl ⟨by decide,by decide⟩,_,_,rfl,rfl,_,rfl,r,_,_,0,rfl,rfl,Te,rfl,hR' _ _ ⟨rfl,(fb.refl g7.bV g7.rs).yQ (b:=b) (c:=c) (by rw[wo];omega)⟩⟩) ?_;rintro σ H8 ⟨rfl,g8⟩;have Qu:=g7.trans g8;have Tq:=Qu.b_ qw.bV qw.rs;have TJ:=g8.b_ g7.bV g7.rs;have P2:=hx.keep TJ λ_ _ z=>z.keep TJ;obtain⟨TU,O⟩:=O.keep Tq;obtain⟨NU,hp2⟩:=hp2.keep Tq;have lz:∀{k:Nat}{bs':Z6}{ws:List Wk},bs'.length=ws.length->ws.length<=3->(bs'.map V.ref).length+(bs.map V.ref).length<=sizeLine:=λe1 e2=>by rw[wo,X9,e1];exact X6 (show _<=4 by omega) zw
 refine⟨_,rfl,_,rfl,t1,tl,_,_,rfl,rfl,O.tup,P2.tup,lz (k:=0) O.len n1,λu1 H9 s9 hu1=>⟨_,rfl,_,rfl,t2,tl,_,_,rfl,rfl,s9 _ _ hp2.tup,s9 _ _ P2.tup,lz (k:=0) hp2.len n2,λu2 Df qN hu2=>⟨cz,λT hT=>?_⟩⟩⟩;have z:=ai hT (.tup [.str "both",.ref u1,.ref u2]);have k2:=qN.trans z;have k1:=s9.trans k2;obtain⟨q1,q2,q3⟩:=A6 (O.keep (aE.of k1) λ_ _ z=>z.keep (aE.of k1)) (P2.keep (aE.of k1) λ_ _ z=>z.keep (aE.of k1)) (k2 _ _ hu1) ho h1 f1 e1 n1;obtain⟨r1,r2,r3⟩:=A6 (hp2.keep (aE.of k1) λ_ _ z=>z.keep (aE.of k1)) (P2.keep (aE.of k1) λ_ _ z=>z.keep (aE.of k1)) (z _ _ hu2) ho h1 f2 e2 n2;exact q T _ _ _ ((qw.trans Qu).sm k1) ⟨u1,u2,_,_,ae,q1,r1⟩ ⟨q2,r2,by rw[q3,r3]⟩
inductive Mi(vs:List V)(H:Hp)(Q:VK)(E:XK):Prop
 |mk (p l r:Addr) (ss:Hd) (_:vs=[.ref p,.ref l,.ref r]) (_:c5 H p) (_:qS H r) (_:bX H l ss) (_:cL ss) (_:∀(T t so:Addr)(ws:List Wk) H',fb p r H H'->H' T=some (.tup [.ref t,.ref so])->jA 1 H' t ws->gO false 1 ss ws->bX H' so (hdL 1 ss ws)->(∀x∈ws,cH x.nm=true)->Q (.ref T) H'):Mi vs H Q E
inductive WW(p r L:Addr)(H:Hp)(ss:Hd)(a0:Int)(i:Nat)(σ:St)(H':Hp):Prop
 |mk (lc:Addr) (bs:Z6) (ws:List Wk) (b c:Int) (st:∃o4 o5,σ=[some (.ref p),some (.ref lc),some (.ref r),some (.ref L),o4,o5]) (h1:fb p r H H') (h2:pq 1 H' L bs ws) (h3:gO false 1 ss ws) (h4:bX H' lc (hdL 1 ss ws)) (h5:∀x∈ws,cH x.nm=true) (h6:ws.length=i) (h7:H' r=some (.lst [.int (a0-i),.int b,.int c]))
theorem rR{x:W1}(h:cH x.nm=true):eD x=false:=by cases x<;>first|rfl|exact YE h (by show¬cH "walk"=true;decide +kernel)
theorem pL{x:W1}(h:cH x.nm=true):∀n,x=.first n->0<=n/\n<=100:=λn e=>by subst e;exact YE h (by show¬cH "first"=true;decide +kernel)
theorem rB{x:W1}(h:eE (.one x)=true->true=false):eE (.one x)=false:=by
 cases e:eE (.one x)with
 |false=>rfl
 |true=>exact YE (h e) (by decide)
abbrev gZ:Stmt:=top 91
theorem dy:ax ["_law_pot_here","_law_sorts","_law_rest","_law_found","_law_k","_law_worker"] ZD (aq gZ):=fs
theorem Fq(B:j_ mg)(B2:nM mg)(F:FA K mg "_law_one_rows" gZ)
  (av:bz bx P w K mg base 1 "_law_draw" ZC eA)
  (eR:bz bx P w K mg base 3 "_law_one_row" ["_law_pot_here","_law_sorts","_law_loose"] la)
  (e_:bz bx P w K mg base 1 "_law_sorts_behind" ["_law_sorts","_law_worker"] Hz) :
  bz bx P w K mg base 4 "_law_one_rows" ZD Mi:=by
 refine F.ok dy λf cdv A outer s H vs Q E hr h=>?_;obtain⟨p,l,r,ss,rfl,hP,hR,hl,hs,q⟩:=h;refine⟨_,(ao (aU (i:=3) dy.nd rfl (YI rfl) (bw ag))
   (ao (dR PassesOwn.never rfl (c9 rfl B.range (aa (aP (pR rfl) rfl B2.min PyProof.Rows.boot_min (aa (aG av hr (aa (pv 0) (aa aj ag))) (aa (bf K (pv 2) aj) ag))) ag)) (aQ (i:=4) dy.nd rfl (YI rfl))
    (ao (c8 (aL bN (bf K (pv 2) aj) aj) (jL (pv 2) aj set_list))
     (ao (aU (i:=5) dy.nd rfl (YI rfl) (aG eR hr (aa (pv 0) (aa (pv 1) (aa cR ag)))))
     (ao (aU (i:=1) dy.nd rfl (YI rfl) (aG e_ hr (aa (pv 1) (aa (pv 5) ag))))
     (bC (cN (gN PySem.F.plainAttrs_list PySem.F.slot_list_append PySem.F.type_list_append cb (pv 3) (aa (pv 5) ag))))))))
   (ay (aW (aa (bA bu rfl B.tuple YM (aa (pv 3) ag)) (aa (pv 1) ag)))))),?_⟩
 obtain⟨a0,b0,c0,hr,ha0,CV⟩:=id hR;refine⟨Yq _,λL hL=>ak ?_⟩;dsimp only;have g0:=(fb.refl hP hR).new (o:=.lst []) hL;have nL:=(fb.refl hP hR).ne hL;have xU:pq 1 (upd H L (.lst [])) L [] []:=⟨ae,rfl,λi a x e=>by cases e⟩;have hr0:=ai hL (.lst []) _ _ hr;revert g0 xU hr0;generalize upd H L (.lst [])=H0;intro g0 xU hr0;refine⟨_,rfl,p,_,rfl,g0.bV,by decide,by decide,λd H1 g1 a1 b1=>⟨_,rfl,r,_,0,_,rfl,rfl,bb.of (g1.keep _ _ (uH g0.bV g0.rs) hr0),az (j:=0) rfl,_,_,rfl,_,rfl,(ig ?_ ?_).1,(ig ?_ ?_).2,?_⟩⟩
 ·split<;>omega
 ·split<;>omega
 ·split<;>omega
 ·split<;>omega
 have QB:=g0.gr g1;refine gq (WW p r L H ss a0) ⟨l,[],[],b0,c0,⟨none,none,rfl⟩,QB,xU.keep (by rw[xU.lst];exact g1.keep _ _ nL.1 xU.lst) (aE.grow g0.bV g1),⟨Yq _,λi x e=>by cases e⟩,QB.ls hP hR hs.pos hl,λx hx=>(by cases hx),rfl,?_⟩ ?_ ?_
 ·show _=some (HO.lst [.int (a0-0),.int b0,.int c0]);rw[show a0-0=a0 by omega];exact g1.keep _ _ (uH g0.bV g0.rs) hr0
 ·rintro i σ H' hi ⟨lc,bs,ws,b,c,⟨o4,o5,rfl⟩,g',hw,hf,nR,U,hwl,hr'⟩;have hia:(i:Int)<d/\(i:Int)<a0:=by revert hi;split<;>omega
  have hss:=hf.ss hs;refine ak ?_;dsimp only;refine gB (λσ' H2=>σ'=[some (.ref p),some (.ref lc),some (.ref r),some (.ref L),some (.int (0+(i:Int))),o5]/\fb p r H' H2/\H2 r=some (.lst [.int (a0-i-1),.int b,.int c])) (λR hR'=>⟨_,rfl,r,_,0,_,rfl,rfl,bb.of hr',az (j:=0) rfl,_,_,rfl,rfl,_,rfl,r,_,_,0,rfl,rfl,hr',rfl,hR' _ _ ⟨rfl,(fb.refl g'.bV g'.rs).yQ (b:=b) (c:=c) (by omega),ae⟩⟩) ?_;rintro σ H2 ⟨rfl,g2,hr2⟩;have Cq:bX H2 lc _:=g2.ls g'.bV g'.rs hss.pos nR;refine⟨_,rfl,_,rfl,⟨p,lc,_,rfl,g2.bV,Cq,hss,λa x H3 g3 hx fx ox mx=>ak ?_⟩⟩;dsimp only;have LC:bX H3 lc _:=g3.keep _ _ (uD g2.bV Cq hss.pos) Cq;refine⟨_,rfl,_,rfl,⟨lc,a,_,x,rfl,LC,hx,fx,rB mx,hss,λu H4 s4 ku=>ak ?_⟩⟩;dsimp only;have JW:=(g2.gr g3).sm s4;have I_:H4 L=some (.lst (bs.map V.ref)):=JW.keep _ _ nL.1 nL.2 hw.lst;have Vr:=(hw.keep (by rw[I_,hw.lst]) (JW.b_ g'.bV g'.rs)).snoc (c7.mpr (hx.keep (aE.of s4)));have W9:u≠L:=λz=>by
   have ku:H4 u=some (.lst ((bc (.one x) [hdL 1 ss ws]).map V.str)):=ku;rw[z,I_]at ku;injection ku with O;injection O with O;have:=fx.hd.pos;revert O this;cases bc (.one x) [hdL 1 ss ws]with
   |nil=>intro O h;cases h
   |cons s t =>
    intro O _;cases bs with
    |nil=>cases O
    |cons b bs=>injection O with O;cases O
  refine⟨_,rfl,.inl ⟨rfl,_,bb.of I_⟩,_,rfl,L,_,_,rfl,rfl,I_,?_,u,bs++[a],ws++[.one x],b,c,⟨_,_,rfl⟩,fb.put hL (g'.trans JW) nL,Vr,hf.snoc (by omega) (dq.mpr ⟨fx,?_,λ_=>rR ox,pL ox⟩),?_,?_,?_,?_⟩
  ·rw[X9,hw.len,hwl];exact Yc (show i<3 by omega) cz
  ·cases em:eE (.one x)with
   |false=>rfl
   |true=>exact YE (mx em) (by decide)
  ·rw[fh,l_,bX,aI W9];exact ku
  ·intro y hy;rcases Yo.mp hy with z|z
   ·exact U y z
   ·rw[Yk.mp z];exact ox
  ·rw[X_,hwl];rfl
  ·rw[aI (Ne.symm nL.2),s4 _ _ (g3.keep _ _ (uH g2.bV g2.rs) hr2),show a0-((i+1:Nat):Int)=a0-i-1 by omega]
 ·rintro σ H' ⟨lc,bs,ws,b,c,⟨o4,o5,rfl⟩,g',hw,hf,nR,U,hwl,hr'⟩;dsimp only;refine⟨_,rfl,L,_,rfl,.inl ⟨bb.of hw.lst,λt ht=>⟨_,rfl,cS,λT hT=>?_⟩⟩⟩;have z1:=ai ht (.tup (bs.map V.ref));have z2:=ai hT (.tup [.ref t,.ref lc]);have z:=z1.trans z2;exact q T t lc ws _ ((g'.new ht).new hT) ae ⟨bs,z2 _ _ ae,hw.len,λi a x O e2=>(hw.at_ i a x O e2).keep (aE.of z)⟩ hf (z _ _ nR) U
inductive Pe(n:Nat)(vs:List V)(H:Hp)(Q:VK)(E:XK):Prop
 |mk (l t:Addr) (tp:Bool) (h:Hd) (ws:List Wk) (_:vs=[.ref l,.ref t]) (_:bX H l h) (_:cL h) (_:jA n H t ws) (_:gO tp n h ws) (_:∀u H',aH H H'->bX H' u (hdL n h ws)->Q (.ref u) H'):Pe n vs H Q E
def yu:Nat->Sp
 | 0=>λ_ _ _ _=>False
 |n+1=>Pe n
abbrev dN:Stmt:=top 93
theorem bZ:ax ["_law_sorts","_law_pipe_here","_law_worker","_law_other_here"] ZQ (aq dN):=fs
theorem ES{n L:Nat}(F:FA K mg "_law_head_behind" dN)
  (cq:bz bx P w K mg base (L+1) "_law_head_behind" ZQ (yu n))
  (e_:bz bx P w K mg base 1 "_law_sorts_behind" ["_law_sorts","_law_worker"] Hz) :
  bz bx P w K mg base (L+2) "_law_head_behind" ZQ (yu (n+1)):=by
 refine F.ok bZ λf cdv A outer s H vs Q E hr h=>?_;obtain⟨l,t,tp,h,ws,rfl,hl,hs,hP,hf,q⟩:=h;refine⟨_,(ao (dR PassesOwn.never rfl (cP (pv 1)) (aQ (i:=2) bZ.nd rfl (YI rfl))
    (bC (fi (ba bH (aJ K (pv 2) aj) aD)
      (bC (aU (i:=0) bZ.nd rfl (YI rfl) (aG cq hr (aa (pv 0) (aa (aJ K (pv 2) aj) ag)))))
      (bC (fi (ba bH (aJ K (pv 2) aj) aD)
        (ao (aU (i:=3) bZ.nd rfl (YI rfl) (aG cq hr (aa (pv 0) (aa (aJ K (pv 2) aj) ag))))
         (bC (aU (i:=0) bZ.nd rfl (YI rfl) (aL gn (aL gn (aG cq hr (aa (pv 0) (aa (aJ K (pv 2) aj) ag))) (dG (r:=yM K) oC (pv 3) fX (dQ (aL bN (aJ K (pv 2) aj) aj)))) (dG (r:=yM K) oC (pv 3) (dQ (aJ K (pv 2) aj)) fX)))))
        (bC (aU (i:=0) bZ.nd rfl (YI rfl) (aG e_ hr (aa (pv 0) (aa (pv 2) ag))))))))))
   (ay (pv 0))),?_⟩
 obtain⟨bs,hI⟩:=hP;have hlb:(bs.map V.ref).length=ws.length:=by rw[X9,hI.len]
 refine⟨_,rfl,t,rfl,⟨_,aX.of hI.tup⟩,?_⟩;refine va (xs:=bs.map V.ref) (λi σ H'=>∃(lc:Addr)(o2 o3:Option V),σ=[some (.ref lc),some (.ref t),o2,o3]/\bX H' lc (hdL n h (ws.take i))/\aH H H') ⟨l,none,none,rfl,hl,aH.refl _⟩ ?_ ?_ ?_
 ·rintro i σ H' _ ⟨lc,o2,o3,_,_,s'⟩;exact aX.of (s' _ _ hI.tup)
 ·rintro i v σ H' hv ⟨lc,o2,o3,rfl,nR,s'⟩;obtain⟨a,x,rfl,ex,ha⟩:=hI.get hv;have ha':=ha.keep (aE.of s');have fx:=hf.at_ i x ex;have O:=(hf.pre i).ss hs;obtain⟨xs,h1⟩:=ha'.first;rw[take_one ex,fh];refine ak ?_;dsimp only;refine mj (λb H2=>b=decide (x.nm="both")/\H'=H2) (λT hT=>⟨_,rfl,a,_,0,_,rfl,rfl,aX.of h1,az (j:=0) rfl,rfl,_,rfl,hT _ _ ⟨eQ _ _,rfl⟩⟩) ?_ ?_
  ·rintro H2 ⟨e,rfl⟩;have e:=YD e.symm;cases x with
   |one y=>exact YE e (by cases y<;>(simp only[Wk.nm,W1.nm];decide +kernel))
   |meet c d p q=>exact YE e (by simp only[Wk.nm];decide +kernel)
   |both p q =>
    cases n with
    |zero=>exact ha.elim
    |succ m =>obtain⟨b1,b2,c1,c2,z1,z2,z3⟩:=ha';refine⟨_,rfl,_,rfl,a,_,1,_,rfl,rfl,aX.of z1,rfl,⟨lc,b1,false,_,p,rfl,nR,O,⟨c1,z2⟩,fx.1,λu H3 s3 U=>ak ⟨u,_,_,rfl,U,s'.trans s3⟩⟩⟩
  ·rintro H2 ⟨e,rfl⟩;have e:x.nm≠"both":=of_decide_eq_false e.symm;refine mj (λb H2=>b=decide (x.nm="meet")/\H'=H2) (λT hT=>⟨_,rfl,a,_,0,_,rfl,rfl,aX.of h1,az (j:=0) rfl,rfl,_,rfl,hT _ _ ⟨eQ _ _,rfl⟩⟩) ?_ ?_
   ·rintro H2 ⟨e2,rfl⟩;have e2:=YD e2.symm;cases x with
    |one y=>exact YE e2 (by cases y<;>(simp only[Wk.nm,W1.nm];decide +kernel))
    |both p q=>exact YE rfl e
    |meet c d pp qq =>
     cases n with
     |zero=>exact ha.elim
     |succ m =>
      obtain⟨b1,b2,c1,c2,z1,z2,z3⟩:=ha';obtain⟨_,fp,fq,mm⟩:=fx;have lp:=(fp.ss O).six;have lq:=(fq.ss O).six;have m1:=mm.dd;rw[xp];refine⟨_,rfl,_,rfl,a,_,4,_,rfl,rfl,aX.of z1,rfl,⟨lc,b2,false,_,qq,rfl,nR,O,⟨c2,z3⟩,fq,λu3 H3 s3 U=>ak ?_⟩⟩;dsimp only;refine⟨_,rfl,_,rfl,a,_,3,_,rfl,rfl,aX.of (s3 _ _ z1),rfl,⟨lc,b1,false,_,pp,rfl,s3 _ _ nR,O,⟨c1,z2.keep (aE.of s3) λ_ _ z=>z.keep (aE.of s3)⟩,fp,λu4 H4 s4 ku=>?_⟩⟩;have w1:=s3.trans s4;have U:=s4 _ _ U;revert U ku lp lq m1;generalize hdL m (hdL (m+1) h (ws.take i)) pp=h1;generalize hdL m (hdL (m+1) h (ws.take i)) qq=h2;intro lp lq m1 ku U;have hn:(h2.map V.str).length=h2.length:=X9 ..;have k1:gI (h2.map V.str) none (some (d-1))=(h2.take (d-1).toNat).map V.str:=by rw[HQ (by omega) (by rw[hn];omega),List.map_take]
      have k2:gI (h2.map V.str) (some d) none=(h2.drop d.toNat).map V.str:=by rw[BK (by omega) (by rw[hn];omega),List.map_drop]
      have ku:H4 u4=some (.lst (h1.map V.str)):=ku;refine⟨_,rfl,_,rfl,a,_,2,_,rfl,rfl,aX.of (w1 _ _ z1),rfl,_,_,rfl,rfl,_,rfl,u3,_,rfl,bb.of U,λu5 Jl=>?_⟩;have y5:=ai Jl (.lst (gI (h2.map V.str) none (some (d-1))));refine⟨u4,u5,_,_,rfl,rfl,y5 _ _ ku,ae,?_,λu6 DH=>?_⟩
      ·rw[k1,X9,X9,Yv];exact X6 (show _<=1000 by omega) (by decide)
      have y6:=ai DH (.lst (h1.map V.str++gI (h2.map V.str) none (some (d-1))));have QT:=y5.trans y6;refine⟨_,rfl,_,rfl,a,_,2,_,rfl,rfl,aX.of (QT _ _ (w1 _ _ z1)),rfl,_,rfl,u3,_,rfl,bb.of (QT _ _ U),λu7 CN=>?_⟩;have y7:=ai CN (.lst (gI (h2.map V.str) (some d) none));refine⟨u6,u7,_,_,rfl,rfl,y7 _ _ ae,ae,?_,λu8 fJ=>ak ⟨u8,_,_,rfl,?_,s'.trans (w1.trans (QT.trans (y7.trans (ai fJ _))))⟩⟩
      ·rw[k1,k2,X_,X9,X9,X9,Yv,List.length_drop];exact X6 (show _<=1000 by omega) (by decide)
      ·rw[bX,ae,k1,k2,Ya,Ya]
   ·rintro H2 ⟨e2,rfl⟩;have e2:x.nm≠"meet":=of_decide_eq_false e2.symm;cases x with
    |both p q=>exact YE rfl e
    |meet c d p q=>exact YE rfl e2
    |one y =>refine⟨_,rfl,_,rfl,⟨lc,a,_,y,rfl,nR,c7.mp ha',(dq.mp fx).fit,(dq.mp fx).nm,O,λu H3 s3 U=>ak ⟨u,_,_,rfl,?_,s'.trans s3⟩⟩⟩;rw[l_];exact U
 ·rintro σ H' ⟨lc,o2,o3,rfl,nR,s'⟩;rw[hlb,YJ]at nR;exact⟨_,rfl,q lc H' s' nR⟩
structure Of(h1 h2:Hd)(c d:Int):Prop where
 cc:1<=c/\c<=h1.length
 dd:1<=d/\d<=h2.length
 al:alike (bK h1 c) (bK h2 d)=true
def vW(H:Hp)(as:Z6)(h1 h2:Hd):Prop:=∀a∈as,∃c d,H a=some (.tup [.int c,.int d])/\Of h1 h2 c d
theorem vW.keep{H H':Hp}{as:Z6}{h1 h2:Hd}(k:aE H H')(h:vW H as h1 h2):vW H' as h1 h2:=λa ha=>let ⟨c,d,e,o⟩:=h a ha;⟨c,d,k _ _ e,o⟩
theorem vW.app{H:Hp}{as bs:Z6}{h1 h2:Hd}(h:vW H as h1 h2)(h':vW H bs h1 h2):vW H (as++bs) h1 h2:=λa ha=>by
 rcases Yo.mp ha with z|z
 ·exact h a z
 ·exact h' a z
inductive vT(vs:List V)(H:Hp)(Q:VK)(E:XK):Prop
 |mk (p l r:Addr) (ss:Hd) (_:vs=[.ref p,.ref l,.ref r]) (_:c5 H p) (_:qS H r) (_:bX H l ss) (_:cL ss) (_:∀(t:Addr)(x:Wk) H',fb p r H H'->dZ 2 H' t x->jQ true 2 ss x->(∀y,x=.one y->eD y=false)->Q (.ref t) H'):vT vs H Q E
theorem plain_len{ss:Hd}(h:ss.length<=6):((cv ss).map V.int).length<=6:=by rw[X9,cv,X9];exact X6 (List.length_filter_le _ _) (by rw[List.length_range];exact h)
abbrev lJ:Stmt:=top 92
theorem cC:ax ["_law_pot_here","_law_sorts","_law_rest","_law_one","_law_left","_law_other_here","_law_right","_law_pairs_here","_law_c","_law_d"] ZD (aq lJ):=fs
theorem Eu(B:j_ mg)(F:FA K mg "_law_meet" lJ)
  (av:bz bx P w K mg base 1 "_law_draw" ZC eA)
  (eR:bz bx P w K mg base 3 "_law_one_row" ["_law_pot_here","_law_sorts","_law_loose"] la)
  (kl:bz bx P w K mg base 4 "_law_one_rows" ZD Mi)
  (de:bz bx P w K mg base 1 "_law_plain" ZK mi) :
  bz bx P w K mg base 5 "_law_meet" ZD vT:=by
 refine F.ok cC λf cdv A outer s H vs Q E hr h=>?_;have hu:=fJ hr;obtain⟨p,l,r,ss,rfl,hP,hR,hl,hs,q⟩:=h;refine⟨_,(ao (c8 (aG kl hr (aa (pv 0) (aa (pv 1) (aa (pv 2) ag)))) (bU rfl (ar (aQ (i:=3) cC.nd rfl (YI rfl)) (ar (aQ (i:=4) cC.nd rfl (Or.inr rfl)) bF))))
   (ao (c8 (aG kl hr (aa (pv 0) (aa (pv 1) (aa (pv 2) ag)))) (bU rfl (ar (aQ (i:=5) cC.nd rfl (YI rfl)) (ar (aQ (i:=6) cC.nd rfl (Or.inr rfl)) bF))))
   (ao (aU (i:=7) cC.nd rfl (YI rfl) (bw ag))
   (ao (dR PassesOwn.never rfl (dg (aG de hr (aa (pv 4) ag))) (aQ (i:=8) cC.nd rfl (Or.inr rfl))
    (bC (aU (i:=7) cC.nd rfl (YI rfl) (aL gn (pv 7) (bM (N':=["_law_d","_law_left","_law_right","_law_c"]) (src:=[none,some 4,some 6,some 8]) rfl (bq.jN (by kernel_rfl)) (dg (aG de hr (aa (pv 6) ag))) (λcl C s H fp=>(gg (i:=0))) (tc:=(gD (eC Js (eC (iE K) (br 2) (eC (sy λi j=>V.int (i-j)) (br 0) (tC (.int 1)))) (eC (iE K) (br 1) (eC (sy λi j=>V.int (i-j)) (br 3) (tC (.int 1))))))) (λcl C s H fp=>dX (ba bH (bf K (oH 2) (aL bN (gK 0) aj)) (bf K (oH 1) (aL bN (oH 3) aj)))) (te:=(B5 (c6 (br 3) (c6 (br 0) ll)))) (λcl C s H fp=>(aW (aa (oH 3) (aa (gK 0) ag)))))))))
   (bE (PW.pt (oE (ba (kY hu) (pv 7) (bw ag)) (jG (ba iO (aL cw (aP aM rfl B.len YW (aa (pv 4) ag)) (aP aM rfl B.len YW (aa (pv 6) ag))) aj)))) (aG eR hr (aa (pv 0) (aa (pv 1) (aa cR ag))))
   (ao (c8 (bf K (pv 7) (aG av hr (aa (pv 0) (aa (aP aM rfl B.len YW (aa (pv 7) ag)) ag)))) (bU rfl (ar (aQ (i:=8) cC.nd rfl (Or.inr rfl)) (ar (aQ (i:=9) cC.nd rfl (YI rfl)) bF))))
   (ay (aW (aa aD (aa (pv 8) (aa (pv 9) (aa (pv 3) (aa (pv 5) ag))))))))))))),?_⟩
 refine⟨_,rfl,_,rfl,_,rfl,⟨p,l,r,ss,rfl,hP,hR,hl,hs,λT1 t1 MX w1 H1 g1 hT1 hp1 f1 O Vz=>⟨T1,_,rfl,aX.of hT1,rfl,_,_,rfl,ak ⟨_,_,rfl,ak ⟨rfl,?_⟩⟩⟩⟩⟩;dsimp only;have Qb:bX H1 l ss:=g1.ls hP hR hs.pos hl;have s1:=f1.ss hs;refine⟨_,rfl,_,rfl,_,rfl,⟨p,l,r,ss,rfl,g1.bV,g1.rs,Qb,hs,λT2 t2 Ni w2 H2 g2 hT2 hp2 f2 U UC=>⟨T2,_,rfl,aX.of hT2,rfl,_,_,rfl,ak ⟨_,_,rfl,ak ⟨rfl,?_⟩⟩⟩⟩⟩;dsimp only;have s2:=f2.ss hs;have P1:=g1.trans g2;have Xn:bX H2 l ss:=g2.ls g1.bV g1.rs hs.pos Qb;have O:bX H2 MX _:=g2.ls g1.bV g1.rs s1.pos O;have hp1:=hp1.keep (g2.b_ g1.bV g1.rs);have mk:∀{c d:Int},Of (hdL 1 ss w1) (hdL 1 ss w2) c d->(hdL 1 ss w1).length+(hdL 1 ss w2).length<=7->jQ true 2 ss (.meet c d w1 w2):=λo hw=>⟨rfl,f1,f2,λx hx=>by
  rcases Yo.mp hx with z|z
  ·exact Vz x z
  ·exact UC x z,o.cc,o.dd,o.al,hw⟩
 revert O U s1 s2 mk;generalize hdL 1 ss w1=h1;generalize hdL 1 ss w2=h2;intro s1 U s2 O mk;have n1:(h1.map V.str).length=h1.length:=X9 ..;have n2:(h2.map V.str).length=h2.length:=X9 ..;refine⟨Yq _,λP0 Xr=>ak ?_⟩;dsimp only;have z0:=ai Xr (.lst []);refine⟨_,rfl,⟨MX,h1,rfl,z0 _ _ O,X6 s1.six (by decide),λu H3 _ s3 mU=>⟨u,rfl,⟨_,bb.of mU⟩,?_⟩⟩⟩;have z3:=z0.trans s3;have q0:H3 P0=some (.lst []):=s3 _ _ ae;have O:bX H3 MX h1:=z3 _ _ O;have U:bX H3 Ni h2:=z3 _ _ U;have XH:=plain_len s1.six;have Rn:=plain_len s2.six;refine nZ (xs:=(cv h1).map V.int) (λi σ H'=>∃(P:Addr)(as:Z6)(o8 o9:Option V),σ=[some (.ref p),some (.ref l),some (.ref r),some (.ref t1),some (.ref MX),some (.ref t2),some (.ref Ni),some (.ref P),o8,o9]/\aH H3 H'/\H' P=some (.lst (as.map V.ref))/\vW H' as h1 h2/\as.length<=6*i) ⟨P0,[],none,none,rfl,aH.refl _,q0,λa ha=>(by cases ha),X5 _⟩ ?_ ?_ ?_
 ·rintro i σ H' _ ⟨P,as,o8,o9,_,s',_⟩;exact bb.of (s' _ _ mU)
 ·rintro i v σ H' hv ⟨P,as,o8,o9,rfl,s',hPl,hA,hal⟩;have XM:i<6:=by have:=(Yj.mp hv).1;omega
  rw[Yu]at hv;cases ec:(cv h1)[i]? with
  |none=>rw[ec]at hv;cases hv
  |some c =>
  rw[ec]at hv;cases hv;obtain⟨hc,hct⟩:=fG (Yf ec);refine ak ?_;dsimp only;refine⟨_,rfl,_,rfl,⟨Ni,h2,rfl,s' _ _ U,X6 s2.six (by decide),λu2 H5 _ s5 Jl=>⟨u2,rfl,⟨_,bb.of Jl⟩,λD hD=>?_⟩⟩⟩;have Tu:=s'.trans s5;refine el (xs:=(cv h2).map V.int) (λj σ ys H6=>(∃o,σ=[o,some (.ref MX),some (.ref Ni),some (.int c)])/\(∃bs:Z6,ys=bs.map V.ref/\vW H6 bs h1 h2)/\ys.length<=j/\H6 D=some (.lst ys)/\aH H5 H6) ⟨⟨none,rfl⟩,⟨[],rfl,λa ha=>(by cases ha)⟩,X5 _,ae,ai hD _⟩ ?_ ?_ ?_ ?_ ?_
  ·rintro j σ ys H6 _ ⟨_,_,hj,h,_⟩;exact⟨h,hj⟩
  ·rintro j σ ys H6 _ ⟨_,_,_,_,sm⟩;exact bb.of (sm _ _ Jl)
  ·exact X6 Rn (by decide)
  ·rintro j v σ ys H6 hv ⟨⟨o,rfl⟩,⟨bs,rfl,hB⟩,hj,h,sm⟩;rw[Yu]at hv;cases ed:(cv h2)[j]? with
   |none=>rw[ed]at hv;cases hv
   |some d =>
   rw[ed]at hv;cases hv;obtain⟨hd,hdt⟩:=fG (Yf ed);refine ak ?_;refine⟨_,rfl,_,rfl,_,_,rfl,rfl,Ni,_,_,_,rfl,rfl,bb.of ((Tu.trans sm) _ _ U),iW hd,_,rfl,_,rfl,_,_,rfl,rfl,MX,_,_,_,rfl,rfl,bb.of ((Tu.trans sm) _ _ O),iW hc,rfl,_,rfl,?_⟩;rw[eQ];by_cases k:bK h2 d=bK h1 c
   ·rw[X8 k];refine cJ ⟨_,rfl,_,rfl,cS,λT hT=>?_⟩;have z:=ai hT (.tup [.int c,.int d]);refine⟨z _ _ h,⟨_,rfl⟩,⟨bs++[T],by rw[Ya];rfl,(hB.keep ((aE.of z).dP (z _ _ h))).app λa ha=>?_⟩,?_,ae,bg hD (sm.trans z)⟩
    ·rw[Yk.mp ha];refine⟨c,d,aE.refl.dP (z _ _ h) _ _ ae,hc,hd,?_⟩;unfold alike;rw[k,X8 rfl,X7 hct];rfl
    ·rw[X_];exact Nat.succ_le_succ hj
   ·rw[X7 k];exact cK ⟨⟨_,rfl⟩,⟨bs,rfl,hB⟩,Nat.le_succ_of_le hj,h,sm⟩
  rintro σ ys H6 ⟨_,⟨bs,rfl,hB⟩,hj,h,sm⟩;have QZ:=s5.trans sm;refine⟨P,D,_,_,rfl,rfl,QZ _ _ hPl,h,?_,λu7 CN=>ak ?_⟩
  ·rw[X9,X9]at *;exact X6 (show _<=1000 by omega) (by decide)
  have z7:=ai CN (.lst (as.map V.ref++bs.map V.ref));refine⟨u7,as++bs,_,_,rfl,s'.trans (QZ.trans z7),by rw[ae,Ya],(hA.keep (aE.of (QZ.trans z7))).app (hB.keep (aE.of z7)),?_⟩;rw[X_];rw[X9]at hj;have:(cv h2).length<=6:=by rw[X9]at Rn;exact Rn
  rw[X9]at hj;omega
 rintro σ H4 ⟨P,as,o8,o9,rfl,s4,hPl,hA,hal⟩;have hal:as.length<=36:=by omega
 have JW:=P1.sm (z3.trans s4);have TF:=z3.trans s4;dsimp only;refine bL (λb H'=>(b=false->as≠[]/\h1.length+h2.length<=7)/\aH H4 H') (λT hT=>?_) ?_ ?_
 ·refine oU ⟨_,rfl,Yq _,λN hN=>⟨P,N,_,rfl,rfl,ai hN _ _ _ hPl,ae,_,rfl,?_⟩⟩;have zN:=ai hN (.lst []);cases as with
  |nil=>exact cJ (hT _ _ ⟨λz=>(by cases z),zN⟩)
  |cons a as =>refine cK ⟨_,rfl,MX,_,rfl,.inl (bb.of (zN _ _ (s4 _ _ O))),_,rfl,Ni,_,rfl,.inl (bb.of (zN _ _ (s4 _ _ U))),_,_,rfl,rfl,_,_,rfl,rfl,_,rfl,hT _ _ ⟨λz=>⟨λe=>(by cases e),?_⟩,zN⟩⟩;have:=of_decide_eq_false z;rw[n1,n2]at this;omega
 ·rintro H5 ⟨_,s5⟩;have g5:=JW.sm s5;refine⟨_,rfl,_,rfl,⟨p,l,ss,rfl,g5.bV,s5 _ _ (TF _ _ Xn),hs,λa x H6 g6 hx fx ox mx=>q a (.one x) H6 (g5.gr g6) (c7.mpr hx) (dq.mpr ⟨fx,rB mx,λz=>(by cases z),pL ox⟩) λy e=>by cases e;exact rR ox⟩⟩
 rintro H5 ⟨hne,s5⟩;obtain⟨hne,NP⟩:=hne rfl;have g5:=JW.sm s5;have Qq:=s5 _ _ hPl;have nP:P≠p:=λz=>by
  obtain⟨x,y,e,_⟩:=g5.bV;rw[z,e]at Qq;cases as with
  |nil=>exact hne rfl
  |cons a as=>cases Qq
 have hla:(as.map V.ref).length=as.length:=X9 ..;have hpos:1<=as.length:=List.length_pos_iff.mpr hne;refine⟨_,rfl,_,rfl,_,rfl,P,_,rfl,.inl (bb.of Qq),p,_,rfl,g5.bV,by omega,cy (by omega) (by omega),λd1 H6 g6 a6 b6=>?_⟩;obtain⟨v,hv,hm⟩:=iL (xs:=as.map V.ref) a6 b6;rw[Yu]at hm;cases ea:as[d1.toNat]? with
 |none=>rw[ea]at hm;cases hm
 |some a =>
 rw[ea]at hm;cases hm;have k6:aE H5 H6:=aE.grow g5.bV g6;obtain⟨c,d,ha,hok⟩:=(hA.keep ((aE.of s5).trans k6)) a (Yf ea);refine⟨P,_,_,_,rfl,rfl,bb.of (g6.keep _ _ nP Qq),hv,a,_,rfl,aX.of ha,rfl,_,_,rfl,ak ⟨_,_,rfl,ak ⟨rfl,?_⟩⟩⟩;dsimp only;refine⟨_,rfl,_,rfl,_,rfl,_,rfl,KJ,λT hT=>?_⟩;have zT:=ai hT (.tup [.str "meet",.int c,.int d,.ref t1,.ref t2]);have kk:aE H2 _:=((aE.of (TF.trans s5)).trans k6).trans (aE.of zT);obtain⟨TU,hp1⟩:=hp1.keep kk;obtain⟨NU,hp2⟩:=hp2.keep kk;exact q T (.meet c d w1 w2) _ ((g5.gr g6).new hT) ⟨t1,t2,TU,NU,ae,hp1,hp2⟩ (mk hok NP) λy e=>by cases e
inductive yF(vs:List V)(H:Hp)(Q:VK)(E:XK):Prop
 |mk (p l r:Addr) (fr:Bool) (ss:Hd) (_:vs=[.ref p,.ref l,.bl fr,.ref r]) (_:c5 H p) (_:qS H r) (_:bX H l ss) (_:cL ss) (_:∀(t:Addr)(x:Wk) H',fb p r H H'->dZ 2 H' t x->jQ true 2 ss x->(∀y,x=.one y->eD y=true->fr=true)->Q (.ref t) H'):yF vs H Q E
abbrev lu:Stmt:=top 94
theorem og:ax ["_law_pot_here","_law_sorts","_law_free","_law_rest","_law_way"] ["_law_pot_here","_law_sorts","_law_free","_law_rest"] (aq lu):=fs
theorem Je{L:Nat}(F:FA K mg "_law_next" lu)
  (av:bz bx P w K mg base 1 "_law_draw" ZC eA)
  (vJ:bz bx P w K mg base 3 "_law_other" ["_law_pot_here","_law_sorts","_law_free"] vg)
  (yj:bz bx P w K mg base 5 "_law_meet" ZD vT)
  (ya:bz bx P w K mg base (L+5) "_law_both" ZD vf)
  (eR:bz bx P w K mg base 3 "_law_one_row" ["_law_pot_here","_law_sorts","_law_loose"] la) :
  bz bx P w K mg base (L+6) "_law_next" ["_law_pot_here","_law_sorts","_law_free","_law_rest"] yF:=by
 refine F.ok og λf cdv A outer s H vs Q E U h=>?_;obtain⟨p,l,r,fr,ss,rfl,hP,hR,hl,hs,q⟩:=h;refine⟨_,(ao (aU (i:=4) og.nd rfl (YI rfl) (aG av U (aa (pv 0) (aa aj ag))))
   (bE (ba bH (pv 4) aj) (aG vJ U (aa (pv 0) (aa (pv 1) (aa (pv 2) ag))))
   (ao (fi (PW.pt (fM (ba bH (pv 4) aj) (fM (ba iO (bf K (pv 3) aj) aj) (gx (ba iO (bf K (pv 3) aj) aj)))))
    (ao (c8 aj (jL (pv 3) aj set_list))
     (ay (aG yj U (aa (pv 0) (aa (pv 1) (aa (pv 3) ag))))))
    dc)
   (bE (PW.pt (fM (ba iO (pv 4) aj) (gx (ba iO (bf K (pv 3) aj) aj)))) (aG ya U (aa (pv 0) (aa (pv 1) (aa (pv 3) ag))))
   (ay (aG eR U (aa (pv 0) (aa (pv 1) (aa cR ag))))))))),?_⟩
 refine⟨_,rfl,p,_,rfl,hP,by decide,by decide,λd H1 g1 a1 b1=>ak ?_⟩;dsimp only;have O:=(fb.refl hP hR).gr g1;have hl1:bX H1 l ss:=O.ls hP hR hs.pos hl;obtain⟨a,b,c,U,ha0,CV⟩:=O.rs;refine bL (λ_ H'=>H1=H') (λT hT=>⟨_,rfl,rfl,_,rfl,hT _ _ rfl⟩) ?_ ?_
 ·rintro H' rfl;exact⟨_,rfl,_,rfl,_,rfl,⟨p,l,ss,fr,rfl,O.bV,hl1,hs,λt x H2 g2 hx fx mx wx nx=>q t (.one x) H2 (O.gr g2) (c7.mpr hx) (dq.mpr ⟨fx,mx,λz=>(by cases z),nx⟩) λy e hy=>by cases e;exact wx hy⟩⟩
 rintro H' rfl;refine bL (λ_ H'=>H1=H') (λT hT=>?_) ?_ ?_
 ·refine iJ ⟨_,rfl,rfl,_,rfl,fY (λ_=>?_) λ_=>hT _ _ rfl⟩;refine iJ ⟨_,rfl,r,_,2,_,rfl,rfl,bb.of U,rfl,_,_,rfl,rfl,_,rfl,fY (λ_=>?_) λ_=>hT _ _ rfl⟩;exact⟨_,rfl,r,_,1,_,rfl,rfl,bb.of U,rfl,_,_,rfl,rfl,_,rfl,hT _ _ rfl⟩
 ·rintro H' rfl;refine gB (λσ' H2=>σ'=[some (.ref p),some (.ref l),some (.bl fr),some (.ref r),some (.int d)]/\fb p r H1 H2) (λR hR'=>⟨_,rfl,r,_,_,2,rfl,rfl,U,rfl,hR' _ _ ⟨rfl,(fb.refl O.bV O.rs).yQ (a:=a) (b:=b) (c:=0) ⟨ha0,CV⟩⟩⟩) ?_;rintro σ H2 ⟨rfl,g2⟩;exact⟨_,rfl,_,rfl,_,rfl,⟨p,l,r,ss,rfl,g2.bV,g2.rs,g2.ls O.bV O.rs hs.pos hl1,hs,λt x H3 g3 hx fx wx=>q t x H3 ((O.trans g2).trans g3) hx fx λy e hy=>by rw[wx y e]at hy;cases hy⟩⟩
 rintro H' rfl;refine bL (λ_ H'=>H1=H') (λT hT=>?_) ?_ ?_
 ·refine iJ ⟨_,rfl,_,_,rfl,rfl,_,rfl,fY (λ_=>?_) λ_=>hT _ _ rfl⟩;exact⟨_,rfl,r,_,1,_,rfl,rfl,bb.of U,rfl,_,_,rfl,rfl,_,rfl,hT _ _ rfl⟩
 ·rintro H' rfl;exact⟨_,rfl,_,rfl,_,rfl,⟨p,l,r,ss,rfl,O.bV,O.rs,hl1,hs,λt w1 w2 H2 g2 hx fx=>q t _ H2 (O.trans g2) hx fx λy e=>by cases e⟩⟩
 rintro H' rfl;exact⟨_,rfl,_,rfl,⟨p,l,ss,rfl,O.bV,hl1,hs,λt x H2 g2 hx fx ox mx=>q t (.one x) H2 (O.gr g2) (c7.mpr hx) (dq.mpr ⟨fx,rB mx,λz=>(by cases z),pL ox⟩) λy e hy=>by cases e;rw[rR ox]at hy;cases hy⟩⟩
inductive vX(vs:List V)(H:Hp)(Q:VK)(E:XK):Prop
 |mk (p l:Addr) (ss:Hd) (_:vs=[.ref p,.ref l,.int 5]) (_:c5 H p) (_:bX H l ss) (_:cL ss) (_:∀(t:Addr)(ws:List Wk)(fr:Bool) H',bt p H H'->jA 2 H' t ws->Top ss ws fr->Q (.ref t) H'):vX vs H Q E
inductive Vy(p r L:Addr)(H:Hp)(ss:Hd)(i:Nat)(σ:St)(H':Hp):Prop
 |mk (lc:Addr) (fr:Bool) (bs:Z6) (ws:List Wk) (st:∃o6 o7,σ=[some (.ref p),some (.ref lc),some (.int 5),some (.bl fr),some (.ref r),some (.ref L),o6,o7]) (h1:fb p r H H') (h2:pq 2 H' L bs ws) (h3:Top ss ws fr) (h4:bX H' lc (hdL 2 ss ws)) (h5:ws.length<=i)
theorem LR{n:Nat}{H:Hp}{u L:Addr}{ss:Hd}{bs:Z6}{ws:List Wk}(h:bX H u ss)(h1:1<=ss.length)(O:pq n H L bs ws):u≠L:=λz=>by
 have h:H u=some (.lst (ss.map V.str)):=h;rw[z,O.lst]at h;injection h with e1;injection e1 with e1;cases ss with
 |nil=>cases h1
 |cons s t =>
  cases bs with
  |nil=>cases e1
  |cons b bs=>injection e1 with e1;cases e1
abbrev lb:Stmt:=top 95
theorem dh:ax ["_law_pot_here","_law_sorts","_law_most","_law_free","_law_rest","_law_found","_law_k","_law_worker"] ["_law_pot_here","_law_sorts","_law_most"] (aq lb):=fs
theorem FZ{L:Nat}(B:j_ mg)(F:FA K mg "_law_pipe" lb)
  (av:bz bx P w K mg base 1 "_law_draw" ZC eA)
  (xb:bz bx P w K mg base (L+6) "_law_next" ["_law_pot_here","_law_sorts","_law_free","_law_rest"] yF)
  (cq:bz bx P w K mg base (L+6) "_law_head_behind" ZQ (yu 3)) :
  bz bx P w K mg base (L+7) "_law_pipe" ["_law_pot_here","_law_sorts","_law_most"] vX:=by
 refine F.ok dh λf cdv A outer s H vs Q E O h=>?_;have hu:=fJ O;have hu1:=jF O;obtain⟨p,l,ss,rfl,hP,hl,hs,q⟩:=h;refine⟨_,(ao (aU (i:=3) dh.nd rfl (YI rfl) cR)
   (ao (aU (i:=4) dh.nd rfl (YI rfl) (bw (aa aj (aa aj (aa aj ag)))))
   (ao (aU (i:=5) dh.nd rfl (YI rfl) (bw ag))
   (ao (dR PassesOwn.never rfl (c9 rfl B.range (aa (aG av O (aa (pv 0) (aa (aL cw (pv 2) aj) ag))) ag)) (aQ (i:=6) dh.nd rfl (YI rfl))
    (bC (fi (ba iO (bf K (pv 4) aj) aj)
      (ao (c8 (aL bN (bf K (pv 4) aj) aj) (jL (pv 4) aj set_list))
       (ao (aU (i:=7) dh.nd rfl (YI rfl) (aG xb O (aa (pv 0) (aa (pv 1) (aa (pv 3) (aa (pv 4) ag))))))
       (ao (aU (i:=3) dh.nd rfl (YI rfl) (kK (pv 3) (jq (jO dz (aJ K (pv 7) aj) (bw (aa aD (aa aD (aa aD (aa aD ag))))) rfl))))
       (ao (aU (i:=1) dh.nd rfl (YI rfl) (aG cq O (aa (pv 1) (aa (aW (aa (pv 7) ag)) ag))))
       (bC (cN (gN PySem.F.plainAttrs_list PySem.F.slot_list_append PySem.F.type_list_append cb (pv 5) (aa (pv 7) ag))))))))
      dc)))
   (ay (bA bu rfl B.tuple YM (aa (pv 5) ag))))))),?_⟩
 refine ak ?_;dsimp only;refine⟨cz,λr O=>ak ?_⟩;dsimp only;have zr:=ai O (.lst [.int 20,.int 20,.int 1]);have gP:=(bt.refl hP).new (o:=.lst [.int 20,.int 20,.int 1]) O;have NL:qS (upd H r (.lst [.int 20,.int 20,.int 1])) r:=⟨20,20,1,ae,by decide,by decide⟩;have hl0:bX (upd H r (.lst [.int 20,.int 20,.int 1])) l ss:=zr _ _ hl;revert gP NL hl0 zr;generalize upd H r (.lst [.int 20,.int 20,.int 1])=H0;intro zr gP NL hl0;refine⟨Yq _,λL hL=>ak ?_⟩;dsimp only;have g0:=(fb.refl gP.bV NL).new (o:=.lst []) hL;have nL:=(fb.refl gP.bV NL).ne hL;have xU:pq 2 (upd H0 L (.lst [])) L [] []:=⟨ae,rfl,λi a x e=>by cases e⟩;revert g0 xU;generalize upd H0 L (.lst [])=H1;intro g0 xU;refine⟨_,rfl,_,rfl,_,_,rfl,rfl,p,_,rfl,g0.bV,by decide,by decide,λd H2 g2 a2 b2=>⟨_,rfl,(ig (by omega) (by omega)).1,(ig (by omega) (by omega)).2,?_⟩⟩;have Tg:=g0.gr g2;refine gq (n:=d.toNat) (Vy p r L H0 ss) ⟨l,true,[],[],⟨none,none,rfl⟩,Tg,xU.keep (by rw[xU.lst];exact g2.keep _ _ nL.1 xU.lst) (aE.grow g0.bV g2),Top.nil hs,Tg.ls gP.bV NL hs.pos hl0,X5 _⟩ ?_ ?_
 ·rintro i σ H' hi ⟨lc,fr,bs,ws,⟨o6,o7,rfl⟩,g',hw,ht,nR,U⟩;have W3:i<5:=by omega
  obtain⟨a,b,c,hr',ha0,CV⟩:=g'.rs;have hss:=ht.fit.ss hs;refine ak ?_;dsimp only;refine mj (λk H2=>(k=true->0<a)/\H'=H2) (λT hT=>⟨_,rfl,r,_,0,_,rfl,rfl,bb.of hr',az (j:=0) rfl,_,_,rfl,rfl,_,rfl,hT _ _ ⟨λz=>YD z,rfl⟩⟩) ?_ (λH2 z=>by obtain⟨_,rfl⟩:=z;exact bR ⟨lc,fr,bs,ws,⟨_,_,rfl⟩,g',hw,ht,nR,Nat.le_succ_of_le U⟩);rintro H2 ⟨ha,rfl⟩;have ha:=ha rfl;refine gB (λσ' H2=>σ'=[some (.ref p),some (.ref lc),some (.int 5),some (.bl fr),some (.ref r),some (.ref L),some (.int (0+(i:Int))),o7]/\fb p r H' H2) (λR hR=>⟨_,rfl,r,_,0,_,rfl,rfl,bb.of hr',az (j:=0) rfl,_,_,rfl,rfl,_,rfl,r,_,_,0,rfl,rfl,hr',rfl,hR _ _ ⟨rfl,(fb.refl g'.bV g'.rs).yQ (a:=a-1) (b:=b) (c:=c) (by omega)⟩⟩) ?_;rintro σ H2 ⟨rfl,g2⟩;have Cq:bX H2 lc _:=g2.ls g'.bV g'.rs hss.pos nR;refine⟨_,rfl,_,rfl,_,rfl,_,rfl,⟨p,lc,r,fr,_,rfl,g2.bV,g2.rs,Cq,hss,λt x H3 g3 hx fx wx=>ak ?_⟩⟩;dsimp only;have M7:=g2.trans g3;have LC:bX H3 lc _:=g3.ls g2.bV g2.rs hss.pos Cq;obtain⟨xs,hx1⟩:=hx.first;refine Bn (.bl (fr&&Fx x.nm)) (λR hR=>?_) λH4 s4=>?_
  ·refine qP ⟨_,rfl,fr,rfl,?_⟩;cases fr with
   |false=>exact cK (hR _ (aH.refl _))
   |true=>exact cJ ⟨_,rfl,t,_,0,_,rfl,rfl,aX.of hx1,az (j:=0) rfl,zw,λQ1 Wu=>⟨Q1,_,rfl,.inl (bb.of ae),rfl,rfl,hR _ (ai Wu _)⟩⟩
  refine⟨_,rfl,_,rfl,eG,λu1 hu1=>?_⟩;have z5:=ai hu1 (.tup [.ref t]);have Qw:=s4.trans z5;have e1:hdL 2 (hdL 2 ss ws) [x]=hdL 2 ss (ws++[x]):=by rw[fh];rfl
  refine⟨lc,u1,true,_,[x],rfl,Qw _ _ LC,hss,⟨[t],ae,rfl,λj a' x' e1 e2=>?_⟩,⟨(by show 1<=5;decide),λj x' e=>?_⟩,λu6 H6 s6 DH=>ak ?_⟩
  ·cases j with
   |zero=>cases e1;cases e2;exact hx.keep (aE.of Qw)
   |succ j=>cases e1
  ·cases j with
   |zero=>cases e;exact fx
   |succ j=>cases e
  dsimp only;rw[e1]at DH;have Oy:=M7.sm (Qw.trans s6);have qv:H6 L=some (.lst (bs.map V.ref)):=Oy.keep _ _ nL.1 nL.2 hw.lst;have TK:=hw.keep (by rw[qv,hw.lst]) (Oy.b_ g'.bV g'.rs);have De:=ht.snoc (by omega) fx wx;refine⟨_,rfl,.inl ⟨rfl,_,bb.of qv⟩,_,rfl,L,_,_,rfl,rfl,qv,?_,u6,_,bs++[t],ws++[x],⟨_,_,rfl⟩,fb.put hL (g'.trans Oy) nL,TK.snoc (hx.keep (aE.of (Qw.trans s6))),De,?_,?_⟩
  ·rw[X9,hw.len];exact Yb U (Yc W3 KJ)
  ·rw[bX,aI (LR DH (De.fit.ss hs).pos TK)];exact DH
  ·rw[X_];exact Nat.succ_le_succ U
 ·rintro σ H' ⟨lc,fr,bs,ws,⟨o6,o7,rfl⟩,g',hw,ht,nR,U⟩;dsimp only;refine⟨_,rfl,L,_,rfl,.inl ⟨bb.of hw.lst,λt ht'=>?_⟩⟩;have z:=ai ht' (.tup (bs.map V.ref));have g9:bt p H H':=⟨λb o n e=>g'.keep b o n (aY e O) (zr _ _ e),g'.bV⟩;exact q t ws fr _ (g9.new ht') ⟨bs,ae,hw.len,λi a x e1 e2=>(hw.at_ i a x e1 e2).keep (aE.of z)⟩ ht
def rj(cs:List Int)(c:Int):List Int:=((List.range cs.length).filter λk=>decide (cs[k]? = some c)).map λ(k:Nat)=>(k:Int)+1
theorem DM{cs:List Int}{c:Int}(h:c∉cs):rj cs c=[]:=by
 unfold rj;rw[List.filter_eq_nil_iff.mpr λk _=>?_]
 ·rfl
 ·rw[decide_eq_true_eq];exact λz=>h (Yf z)
theorem DO{cs:List Int}{c:Int}(h:c∈cs):∃r,rj cs c=(((cs.idxOf c:Nat):Int)+1)::r:=by
 obtain⟨h1,h2⟩:=E7 h;have O:cs.idxOf c<cs.length:=List.idxOf_lt_length_iff.mpr h;obtain⟨m,hm⟩ :∃m,cs.length=cs.idxOf c+(m+1):=⟨cs.length-cs.idxOf c-1,by omega⟩;unfold rj;rw[hm,List.range_add,List.filter_append,List.filter_eq_nil_iff.mpr λk z=>?_,List.nil_append,List.range_succ_eq_map,YT,List.filter_cons_of_pos (by rw[decide_eq_true_eq];exact h1)]
 ·exact⟨_,rfl⟩
 ·rw[decide_eq_true_eq];exact h2 k (List.mem_range.mp z)
def DQ(K:YY)(H:Hp)(l:Addr)(od:Od):Prop:=∃ws,H l=some (.lst ws)/\aK K H (od.map dE) ws
theorem DQ.same{K:YY}{H H':Hp}{l:Addr}{od:Od}(s:aH H H')(h:DQ K H l od):DQ K H' l od:=by obtain⟨ws,h1,h2⟩:=h;exact⟨ws,s _ _ h1,h2.same s⟩
inductive uM(K:YY)(vs:List V)(H:Hp)(Q:VK)(E:XK):Prop
 |mk (l t:Addr) (od:Od) (cs:List Int) (_:vs=[.ref l,.ref t]) (_:DQ K H l od) (_:H t=some (.tup (cs.map V.int))) (_:od.length<=1000) (_:cs.length<=1000) (_:∀u H',H u=none->aH H H'->DQ K H' u (lS od cs)->Q (.ref u) H'):uM K vs H Q E
theorem HR{cs:List Int}{i:Nat}(h:i<cs.length):xf (cs.map V.int) (i:Int)=some (.int cs[i]):=az (j:=i) (by rw[Yu,Yd h];rfl)
abbrev jV:Stmt:=top 96
theorem fe:ax ["_law_order","_law_columns_here","_law_found","_law_column","_law_down","_law_spots"] ["_law_order","_law_columns_here"] (aq jV):=fs
theorem F1(B:j_ mg)(F:FA K mg "_law_shown" jV) :
  bz bx P w K mg base 1 "_law_shown" ["_law_order","_law_columns_here"] (uM K):=by
 refine F.ok fe λf cdv A outer s H vs Q E hr h=>?_;have hu:=fJ hr;obtain⟨l,t,od,cs,rfl,ho,ht,hz1,hz2,q⟩:=h;refine⟨_,(ao (aU (i:=2) fe.nd rfl (YI rfl) (bw ag))
   (ao (dR PassesOwn.never rfl (dg (pv 0)) (bU rfl (ar (aQ (i:=3) fe.nd rfl (Or.inr rfl)) (ar (aQ (i:=4) fe.nd rfl (YI rfl)) bF)))
    (ao (fE (i:=5) (N':=["_law_k","_law_columns_here","_law_column"]) (src:=[none,some 1,some 3]) fe.nd rfl (YI rfl) rfl rfl (bq.jN (by kernel_rfl)) (c9 rfl B.range (aa (aP aM rfl B.len YW (aa (pv 1) ag)) ag)) (λcl C s H fp=>(gg (i:=0))) (tc:=(gD (eC Js (eC (jt K) (br 1) (br 0)) (br 2)))) (λcl C s H fp=>dX (ba bH (aJ K (oH 1) (gK 0)) (oH 2))) (te:=(eC (sy λi j=>V.int (i+j)) (br 0) (tC (.int 1)))) (λcl C s H fp=>(aL cw (gK 0) aj)))
     (bE (ba (kY hu) (pv 5) (bw ag)) (pv 2)
     (bC (cN (gN PySem.F.plainAttrs_list PySem.F.slot_list_append PySem.F.type_list_append cb (pv 2) (aa (aW (aa (bf K (pv 5) aj) (aa (pv 4) ag))) ag)))))))
   (ay (pv 2)))),?_⟩
 obtain⟨ws,hl,hD⟩:=ho;have hwl:=i3 hD;have hcl:(cs.map V.int).length=cs.length:=X9 ..;refine⟨Yq _,λL hL=>ak ?_⟩;dsimp only;refine⟨_,rfl,l,rfl,⟨_,bb.of (ai hL _ _ _ hl)⟩,?_⟩;refine nZ (xs:=ws) (λi σ H'=>(∃o3 o4 o5,σ=[some (.ref l),some (.ref t),some (.ref L),o3,o4,o5])/\(∃xs,H' L=some (.lst xs)/\aK K H' (((od.take i).map (Q5 cs)).map dE) xs)/\aH H H'/\∀e∈od.take i,decide (e.1∈cs)=true) ⟨⟨none,none,none,rfl⟩,⟨[],ae,aK.nil⟩,ai hL _,by simp⟩ ?_ ?_ ?_
 ·rintro i σ H' _ ⟨_,_,s',_⟩;exact bb.of (s' _ _ hl)
 ·rintro i x σ H' hx ⟨⟨o3,o4,o5,rfl⟩,⟨xs,hL',hX⟩,s',O⟩;obtain⟨e,b,he,rfl,hb⟩:=iU hD hx;refine⟨b,_,rfl,s'.fA hb,rfl,_,_,rfl,ak ⟨_,_,rfl,ak ⟨rfl,?_⟩⟩⟩;dsimp only;refine⟨_,rfl,t,_,rfl,.inr (aX.of (s' _ _ ht)),_,rfl,(ig (by omega) (by omega)).1,(ig (by omega) (by omega)).2,λD hD'=>?_⟩;refine eT (n:=(((cs.map V.int).length:Nat):Int).toNat) (λi σ ys H2=>(∃o,σ=[o,some (.ref t),some (.int e.1)])/\ys=(((List.range i).filter λk=>decide (cs[k]? = some e.1)).map λ(k:Nat)=>(k:Int)+1).map V.int/\ys.length<=i/\H2 D=some (.lst ys)/\aH H' H2) ⟨⟨none,rfl⟩,rfl,X5 _,ae,ai hD' _⟩ ?_ ?_ ?_ ?_
  ·rintro i σ ys H2 _ ⟨_,_,hi,h,_⟩;exact⟨h,hi⟩
  ·exact X6 (show(((cs.map V.int).length:Nat):Int).toNat<=1000 by omega) (by decide)
  ·rintro j σ ys H2 hj ⟨⟨o,rfl⟩,rfl,hz',h,sm⟩;have hj':j<cs.length:=by omega
   refine ak ?_;refine⟨_,rfl,_,rfl,t,_,_,_,rfl,rfl,aX.of (sm _ _ (s' _ _ ht)),by rw[show(0:Int)+(j:Int)=(j:Int) by omega];exact HR hj',_,rfl,rfl,_,rfl,?_⟩;rw[lN];have ek:decide (cs[j]? = some e.1)=decide (cs[j]=e.1):=by rw[Yd hj',decide_eq_decide];exact⟨λz=>Yr z,λz=>by rw[z]⟩
   by_cases k:cs[j]=e.1
   ·rw[X8 k];refine cJ ⟨_,rfl,_,_,rfl,rfl,h,⟨_,rfl⟩,?_,?_,ae,bg hD' sm⟩
    ·rw[List.range_succ,List.filter_append,List.filter_cons_of_pos (by rw[ek,X8 k]),Ya,Ya];simp
    ·rw[X_];exact Nat.succ_le_succ hz'
   ·rw[X7 k];refine cK ⟨⟨_,rfl⟩,?_,Nat.le_succ_of_le hz',h,sm⟩;rw[List.range_succ,List.filter_append,List.filter_cons_of_neg (by rw[ek,X7 k];exact Yh)];simp
  rintro σ ys H2 ⟨_,rfl,_,U,sm⟩;have U:H2 D=some (.lst ((rj cs e.1).map V.int)):=by rw[U,hcl];rfl
  refine ak ?_;dsimp only;have hL2:=sm _ _ hL';refine⟨_,rfl,Yq _,λN hN=>⟨D,N,_,rfl,rfl,ai hN _ _ _ U,ae,_,rfl,?_⟩⟩;have sN:=ai hN (.lst []);have s2:=s'.trans (sm.trans sN);by_cases k:e.1∈cs
  ·obtain⟨r,er⟩:=DO k;rw[er]at U⊢;refine cK (bR ?_);refine⟨_,rfl,.inl ⟨rfl,_,bb.of (sN _ _ hL2)⟩,_,rfl,D,_,0,_,rfl,rfl,bb.of (sN _ _ U),az (j:=0) rfl,_,rfl,cS,λu hu=>?_⟩;have su:=ai hu (.tup [.int (((cs.idxOf e.1:Nat):Int)+1),.bl e.2]);have hLu:=su _ _ (sN _ _ hL2);refine⟨L,_,_,rfl,rfl,hLu,?_,⟨_,_,_,rfl⟩,⟨_,ae,?_⟩,bg hL (s2.trans su),take_all O he (X8 k)⟩
   ·rw[←hX.length,X9,X9,Yv];exact Yb (X6 (Nat.min_le_right _ _) hz1) (by decide)
   ·rw[take_one he,Ya,Ya];refine aK.b_ (KS.dP hLu) ?_ ((hX.same (sm.trans (sN.trans su))).append (aK.cons (yn (aX.of ae)) aK.nil));rw[←Ya];exact Aa _
  ·rw[DM k];refine cJ ⟨_,rfl,q L _ hL s2 ⟨_,sN _ _ hL2,?_⟩⟩;rw[lS,Bm O he (X7 k)];exact hX.same (sm.trans sN)
 ·rintro σ H' ⟨⟨o3,o4,o5,rfl⟩,⟨xs,hL',hX⟩,s',O⟩;rw[hwl,YJ]at O hX;refine⟨_,rfl,q L _ hL s' ⟨_,hL',?_⟩⟩;rw[lS,yT O];exact hX
def WL(K:YY)(H:Hp)(a:Addr)(k:Kf):Prop:=∃l,H a=some (.tup [.ref l,mV k.mo,.bl k.un])/\DQ K H l k.od
def sC(K:YY)(H:Hp)(X:Addr->Prop)(a:Addr)(k:Kf):Prop:=∃l,H a=some (.tup [.ref l,mV k.mo,.bl k.un])/\DQ K H l k.od/\X l
theorem ke{H H':Hp}{u:Addr}(s:aH H H')(h:H' u=none):H u=none:=by
 cases e:H u with
 |none=>rfl
 |some o=>rw[s _ _ e]at h;cases h
section
variable{x:W1}
theorem O5(h:x.nm="sort"):∃o,x=.sort o:=by cases x<;>first|exact⟨_,rfl⟩ | (simp only[W1.nm]at h;exact YE h (by decide +kernel))
theorem N8(h:x.nm="number"):x=.number:=by cases x<;>first|rfl | (simp only[W1.nm]at h;exact YE h (by decide +kernel))
theorem OZ(h:x.nm="turn"):∃c ps,x=.turn c ps:=by cases x<;>first|exact⟨_,_,rfl⟩ | (simp only[W1.nm]at h;exact YE h (by decide +kernel))
end
theorem GZ{cs:List Int}{w:Nat}{g:Nat->V}:(((List.range w).filter λ(i:Nat)=>!decide ((1:Int)+i∈cs)).map g).isEmpty=allIn cs w:=by
 rw[List.isEmpty_map];unfold allIn;rw[Bool.eq_iff_iff,List.isEmpty_iff,List.filter_eq_nil_iff,List.all_eq_true];constructor
 ·intro h i hi;have:=h i hi;simpa using this
 ·intro h i hi;have:=h i hi;simpa using this
theorem yJ{od:Od}{c:Int}:∃r,(((List.range od.length).filter λi=>decide ((od.getD i (0,false)).1=c)).map λ(k:Nat)=>(k:Int))++[(od.length:Int)]=(((da od c).length:Nat):Int)::r/\da od c=od.take (da od c).length:=by
 unfold da;induction od with
 |nil=>exact⟨[],rfl,rfl⟩
 |cons e od ih =>
  obtain⟨r,O,U⟩:=ih;rw[List.takeWhile_cons];by_cases k:e.1=c
  ·rw[X7 (λz=>z k)];rw[YB,List.range_succ_eq_map,List.filter_cons_of_pos (by rw[decide_eq_true_eq];exact k)];exact⟨_,rfl,rfl⟩
  ·rw[X8 k,YG rfl];have er:(((List.range (e::od).length).filter λi=>decide (((e::od).getD i (0,false)).1=c)).map λ(k:Nat)=>(k:Int))++[((e::od).length:Int)]=((((List.range od.length).filter λi=>decide ((od.getD i (0,false)).1=c)).map λ(k:Nat)=>(k:Int))++[(od.length:Int)]).map λk=>k+1:=by rw[YB,List.range_succ_eq_map,List.filter_cons_of_neg (by rw[decide_eq_true_eq];exact k),List.filter_map,Ya,List.map_map,List.map_map];congr 1
   refine⟨r.map λk=>k+1,?_,?_⟩
   ·rw[er,O];rfl
   ·rw[YB,List.take_succ_cons];exact congrArg (e :: ·) U
theorem E4{ta tb:TE}{σ:St}{H:Hp}{Q:VK}(v:V)(h:∀R:VK,R v H->Bk ta tb σ H R)(k:Q v H):Bk ta tb σ H Q:=h Q k
inductive EM(K:YY)(vs:List V)(H:Hp)(Q:VK)(E:XK):Prop
 |mk (a b l:Addr) (k:Kf) (x:W1) (w:Nat) (_:vs=[.ref a,.ref b,.int (w:Nat)]) (_:H a=some (.tup [.ref l,mV k.mo,.bl k.un])) (_:DQ K H l k.od) (_:h_ H b x) (_:m9 x) (_:eE (.one x)=false) (_:k.od.length<=1000) (_:w<=1000) (_:∀u H',aH H H'->sC K H' (λy=>H y=none\/y=l) u (IV x k w)->Q (.ref u) H'):EM K vs H Q E
theorem PR{x:W1}(h:x.nm="first"):∃n,x=.first n:=by cases x<;>first|exact⟨_,rfl⟩ | (simp only[W1.nm]at h;exact YE h (by decide +kernel))
theorem KA{x:W1}:decide (x.nm="walk")=eD x:=by cases x<;>first|rfl | (simp only[W1.nm,eD];decide +kernel)
theorem p7{K:YY}{H:Hp}{u l:Addr}{o:Od}{m:Option Int}{b:Bool}(U:H u=none)(O:DQ K H l o){X:Addr->Prop}(z:X l):sC K (upd H u (.tup [.ref l,mV m,.bl b])) X u ⟨o,m,b⟩:=⟨l,ae,O.same (ai U _),z⟩
theorem DJ{m:Option Int}{n M:Int}(h1:M∈n::(match m with|none=>[]|some k=>[k]))(h2:∀a∈n::(match m with|none=>[]|some k=>[k]),M<=a):M=l6 m n:=by
 cases m with
 |none=>simpa[l6] using h1
 |some k =>have z:=h2 n (by simp);have O:=h2 k (by simp);simp only[Ym,YH,or_false]at h1;unfold l6;dsimp only;split<;>omega
abbrev i9:Stmt:=top 97
theorem cE:ax ["_law_known","_law_worker","_law_wide","_law_order","_law_most","_law_unlike_here","_law_word","_law_named","_law_stays","_law_ends"] ["_law_known","_law_worker","_law_wide"] (aq i9):=fs
theorem Ag(B:j_ mg)(B2:nM mg)(F:FA K mg "_law_behind" i9)
  (oJ:bz bx P w K mg base 1 "_law_shown" ["_law_order","_law_columns_here"] (uM K)) :
  bz bx P w K mg base 2 "_law_behind" ["_law_known","_law_worker","_law_wide"] (EM K):=by
 refine F.ok cE λf cdv A outer s H vs Q E hr h=>?_;have hu:=fJ hr;obtain⟨a,b,l,k,x,w,rfl,ha,ho,hx,hsm,Rz,hz,hw,q⟩:=h;refine⟨_,(ao (c8 (pv 0) (bU rfl (ar (aQ (i:=3) cE.nd rfl (Or.inr rfl)) (ar (aQ (i:=4) cE.nd rfl (YI rfl)) (ar (aQ (i:=5) cE.nd rfl (YI rfl)) bF)))))
   (ao (aU (i:=6) cE.nd rfl (YI rfl) (aJ K (pv 1) aj))
   (ao (fi (ba bH (pv 6) aD)
    (ao (aU (i:=7) cE.nd rfl (Or.inr rfl) (bM (N':=["_law_part"]) (src:=[none]) rfl (bq.jN (by kernel_rfl)) (cP (aJ K (pv 1) aj)) (λcl C s H fp=>(gg (i:=0))) (λcl C s H fp=>bD) (te:=(eC (jt K) (br 0) (tC (.int 0)))) (λcl C s H fp=>(aJ K (gK 0) aj))))
     (ay (aW (aa (aL gn (bA v7 rfl B.list PyProof.Rows.boot_list (aa (aJ K (pv 1) aj) ag)) (bM (N':=["_law_part","_law_named"]) (src:=[none,some 7]) rfl (bq.jN (by kernel_rfl)) (dg (pv 3)) (λcl C s H fp=>(gg (i:=0))) (tc:=(gD (eC (F8 K true) (eC (jt K) (br 0) (tC (.int 0))) (br 1)))) (λcl C s H fp=>dX (eU ie (aJ K (gK 0) aj) (oH 1) rfl)) (te:=(br 0)) (λcl C s H fp=>(gK 0)))) (aa (pv 4) (aa cR ag))))))
    dc)
   (ao (fi (ba bH (pv 6) aD)
    (ao (aU (i:=8) cE.nd rfl (YI rfl) (kK (pv 5) (jq (gH (kY hu) (bM (N':=["_law_column","_law_worker"]) (src:=[none,some 1]) rfl (bq.jN (by kernel_rfl)) (oY rfl B.range (aa aj (aa (aL cw (pv 2) aj) ag))) (λcl C s H fp=>(gg (i:=0))) (tc:=(gD (eC (F8 K true) (br 0) (eC (jt K) (br 1) (tC (.int 1)))))) (λcl C s H fp=>dX (eU ie (gK 0) (aJ K (oH 1) aj) rfl)) (te:=(br 0)) (λcl C s H fp=>(gK 0))) (bw ag)))))
     (ay (aW (aa (aG oJ hr (aa (pv 3) (aa (aJ K (pv 1) aj) ag))) (aa (pv 4) (aa (pv 8) ag))))))
    dc)
   (bE (eU dz (pv 6) (bw (aa aD (aa aD ag))) rfl) (aW (aa (aG oJ hr (aa (pv 3) (aa (aJ K (pv 1) aj) ag))) (aa (pv 4) (aa cR ag))))
   (bE (ba bH (pv 6) aD) (aW (aa (aL gn (pv 3) (bw (aa (aW (aa (aL cw (pv 2) aj) (aa cR ag))) ag))) (aa (pv 4) (aa cR ag))))
   (bE (ba bH (pv 6) aD) (aW (aa (pv 3) (aa (aP (BU rfl) rfl B2.min PyProof.Rows.boot_min (aa (aL gn (bw (aa (aJ K (pv 1) aj) ag)) (bM (N':=["_law_one"]) (src:=[none]) rfl (bq.jN (by kernel_rfl)) (dg (bw (aa (pv 4) ag))) (λcl C s H fp=>(gg (i:=0))) (tc:=(gD (eC (λx y H Q=>y=.non/\Q (.bl (!decide (x=.non))) H) (br 0) (tC .non)))) (λcl C s H fp=>dX (ba vE (gK 0) dk)) (te:=(br 0)) (λcl C s H fp=>(gK 0)))) ag)) (aa (pv 5) ag))))
   (ao (fi (ba bH (pv 6) aD)
    (ao (aU (i:=9) cE.nd rfl (YI rfl) (aL gn (bM (N':=["_law_k","_law_worker","_law_order"]) (src:=[none,some 1,some 3]) rfl (bq.jN (by kernel_rfl)) (c9 rfl B.range (aa (aP aM rfl B.len YW (aa (pv 3) ag)) ag)) (λcl C s H fp=>(gg (i:=0))) (tc:=(gD (eC Js (eC (jt K) (eC (iE K) (br 2) (br 0)) (tC (.int 0))) (eC (jt K) (br 1) (tC (.int 1)))))) (λcl C s H fp=>dX (ba bH (aJ K (bf K (oH 2) (gK 0)) aj) (aJ K (oH 1) aj))) (te:=(br 0)) (λcl C s H fp=>(gK 0))) (bw (aa (aP aM rfl B.len YW (aa (pv 3) ag)) ag))))
     (ay (aW (aa (dG (r:=yM K) oC (pv 3) fX (dQ (bf K (pv 9) aj))) (aa (pv 4) (aa cR ag))))))
    dc)
   (ay (aW (aa (pv 3) (aa (pv 4) (aa (bf K (bw (aa (kK (pv 5) (jq (gH bH (pv 6) aD))) (aa cR ag))) (bA il rfl B2.int YN (aa (gH bH (pv 6) aD) ag))) ag))))))))))))),?_⟩
 obtain⟨ws,hl,hD⟩:=id ho;have hwl:=i3 hD;obtain⟨r,hx1⟩:=hx.first;refine⟨_,rfl,a,_,rfl,aX.of ha,rfl,_,_,rfl,ak ⟨_,_,rfl,ak ⟨_,_,rfl,ak ⟨rfl,?_⟩⟩⟩⟩;dsimp only;refine⟨_,rfl,b,_,0,_,rfl,rfl,aX.of hx1,az (j:=0) rfl,ak ?_⟩;dsimp only;refine bL (λc H'=>c=decide (x.nm="sort")/\H=H') (λT hT=>⟨_,rfl,rfl,_,rfl,hT _ _ ⟨eQ _ _,rfl⟩⟩) ?_ ?_
 ·rintro H' ⟨e,rfl⟩;obtain⟨o,rfl⟩:=O5 (YD e.symm);obtain⟨t,bs,h1,hI⟩:=hx;have hsm:o.length<=1000:=hsm;obtain⟨_,_,et,hS,hD2⟩:=ja (EA (K:=K) hI);cases et;have wo:(bs.map V.ref).length=o.length:=by rw[X9,hI.len]
  refine⟨_,rfl,b,_,1,_,rfl,rfl,aX.of h1,rfl,t,rfl,⟨_,aX.of hI.tup⟩,λN hN=>?_⟩;refine c_ (xs:=bs.map V.ref) (λi σ ys H'=>(∃o1,σ=[o1])/\ys=((o.take i).map λe=>e.1).map V.int/\ys.length=i/\H' N=some (.lst ys)/\aH H H') ⟨⟨none,rfl⟩,rfl,rfl,ae,ai hN _⟩ ?_ ?_ ?_ ?_ ?_
  ·rintro i σ ys H' _ ⟨_,_,hi,h,_⟩;exact⟨h,YR hi⟩
  ·rintro i σ ys H' _ ⟨_,_,_,_,sm⟩;exact aX.of (sm _ _ hI.tup)
  ·rw[wo];exact X6 hsm (by decide)
  ·rintro i v σ ys H' hv ⟨⟨o1,rfl⟩,rfl,hi,h,sm⟩;obtain⟨c,e',rfl,he,hc⟩:=hI.get hv;refine ak ?_;refine⟨_,rfl,c,_,0,_,rfl,rfl,aX.of (sm _ _ hc),az (j:=0) rfl,h,⟨_,rfl⟩,?_,?_,ae,bg hN sm⟩
   ·rw[take_one he,Ya,Ya];rfl
   ·rw[X_,hi];rfl
  rintro σ ys H1 ⟨_,rfl,_,S5,s1⟩;rw[wo,YJ]at S5;refine ak ?_;dsimp only;refine⟨_,rfl,b,_,1,_,rfl,rfl,aX.of (s1 _ _ h1),rfl,t,_,rfl,.inr (aX.of (s1 _ _ hI.tup)),λL1 hL1=>?_⟩;have sL:=ai hL1 (.lst (bs.map V.ref));have P6:=s1.trans sL;refine⟨_,rfl,l,rfl,⟨_,bb.of (P6 _ _ hl)⟩,λD U=>?_⟩;refine el (xs:=ws) (λi σ ys H'=>(∃o1,σ=[o1,some (.ref N)])/\aK K H (((k.od.take i).filter λe=>decide (e.1∉o.map λe=>e.1)).map dE) ys/\ys.length<=i/\H' D=some (.lst ys)/\aH (upd H1 L1 (.lst (bs.map V.ref))) H') ⟨⟨none,rfl⟩,aK.nil,X5 _,ae,ai U _⟩ ?_ ?_ ?_ ?_ ?_
  ·rintro i σ ys H' _ ⟨_,_,hi,h,_⟩;exact⟨h,hi⟩
  ·rintro i σ ys H' _ ⟨_,_,_,_,sm⟩;exact bb.of (sm _ _ (P6 _ _ hl))
  ·rw[hwl];exact X6 hz (by decide)
  ·rintro i v σ ys H' hv ⟨⟨o1,rfl⟩,hY,hi,h,sm⟩;obtain⟨e',c,he,rfl,hc⟩:=iU hD hv;refine ak ?_;refine⟨_,rfl,c,_,0,_,rfl,rfl,(P6.trans sm).fA hc,az (j:=0) rfl,_,rfl,N,_,rfl,.inl (bb.of (sm _ _ (sL _ _ S5))),rfl,xx _,_,rfl,?_⟩;show if(!inV (.int e'.1) ((o.map λe=>e.1).map V.int))=true then _ else _
   rw[N3];by_cases kk:e'.1∈o.map λe=>e.1
   ·rw[X8 kk];refine cK ⟨⟨_,rfl⟩,?_,Nat.le_succ_of_le hi,h,sm⟩;rw[take_one he,List.filter_append,List.filter_cons_of_neg (by rw[decide_eq_true_eq];exact λz=>z kk)];simpa using hY
   ·rw[X7 kk];refine cJ ⟨_,rfl,h,⟨_,rfl⟩,?_,?_,ae,bg U sm⟩
    ·rw[take_one he,List.filter_append,Ya,List.filter_cons_of_pos (by rw[decide_eq_true_eq];exact kk)];exact hY.append (aK.cons (yn hc) aK.nil)
    ·rw[X_];exact Nat.succ_le_succ hi
  rintro σ ys H2 ⟨_,hY,hi,h2,sm⟩;rw[hwl,YJ]at hY;have s2:=P6.trans sm;refine⟨L1,D,_,_,rfl,rfl,sm _ _ ae,h2,?_,λu O=>⟨_,rfl,cz,λp hp=>q _ _ (s2.trans ((ai O _).trans (ai hp _))) (p7 hp ⟨_,ae,?_⟩ (.inl (ke s2 O)))⟩⟩
  ·rw[wo];exact X6 (show o.length+ys.length<=2000 by omega) (by decide)
  ·rw[withOther,Ya];have s3:=s2.trans (ai O (.lst (bs.map V.ref++ys)));refine aK.append (aK.same s3 ?_) (hY.same s3);refine aK.of (by rw[X9,X9,hI.len]) λi d v e1 e2=>?_;obtain⟨a',e',rfl,e3,e4⟩:=hI.get e2;rw[Yu,e3]at e1;cases e1;exact yn (aX.of e4)
 rintro H' ⟨e1,rfl⟩;have e1:x.nm≠"sort":=of_decide_eq_false e1.symm;refine bL (λc H'=>c=decide (x.nm="cut")/\H=H') (λT hT=>⟨_,rfl,rfl,_,rfl,hT _ _ ⟨eQ _ _,rfl⟩⟩) ?_ ?_
 ·rintro H' ⟨e,rfl⟩;obtain⟨cs,rfl⟩:=Dw (YD e.symm);obtain⟨t,h1,h2⟩:=hx;have hsm:cs.length<=1000:=hsm;refine Bn (.bl (k.un&&allIn cs w)) (λR hR=>?_) λH1 s1=>?_
  ·refine qP ⟨_,rfl,k.un,rfl,?_⟩;cases eu:k.un with
   |false=>rw[eu]at hR;exact cK (hR _ (aH.refl _))
   |true =>
    rw[eu,Bool.true_and]at hR;have hn:((w:Int)+1-1).toNat=w:=by omega
    refine cJ ⟨_,rfl,_,_,rfl,rfl,1,(w:Int)+1,rfl,⟨by decide,by decide,?_,?_⟩,λD U=>?_⟩
    ·have e:((2:Int) ^ 62)=4611686018427387904:=by decide
     rw[e];omega
    ·have e:((2:Int) ^ 62)=4611686018427387904:=by decide
     rw[e];omega
    rw[hn];refine eT (lo:=1) (n:=w) (λi σ ys H'=>(∃o,σ=[o,some (.ref b)])/\ys=((List.range i).filter λ(i:Nat)=>!decide ((1:Int)+i∈cs)).map (λ(i:Nat)=>V.int ((1:Int)+i))/\ys.length<=i/\H' D=some (.lst ys)/\aH H H') ⟨⟨none,rfl⟩,rfl,X5 _,ae,ai U _⟩ ?_ ?_ ?_ ?_
    ·rintro i σ ys H' _ ⟨_,_,hi,h,_⟩;exact⟨h,hi⟩
    ·exact X6 hw (by decide)
    ·rintro i σ ys H' _ ⟨⟨o,rfl⟩,rfl,hi,h,sm⟩;refine ak ?_;refine⟨_,rfl,_,rfl,b,_,1,_,rfl,rfl,aX.of (sm _ _ h1),rfl,t,_,rfl,.inr (aX.of (sm _ _ h2)),rfl,xx cs,_,rfl,?_⟩;show if(!inV (.int (1+(i:Int))) (cs.map V.int))=true then _ else _
     rw[N3];by_cases kk:(1:Int)+i∈cs
     ·rw[X8 kk];refine cK ⟨⟨_,rfl⟩,?_,Nat.le_succ_of_le hi,h,sm⟩;rw[List.range_succ,List.filter_append,List.filter_cons_of_neg (by rw[X8 kk];exact Yh)];simp
     ·rw[X7 kk];refine cJ ⟨_,rfl,h,⟨_,rfl⟩,?_,?_,ae,bg U sm⟩
      ·rw[List.range_succ,List.filter_append,List.filter_cons_of_pos (by rw[X7 kk];rfl),Ya];rfl
      ·rw[X_];exact Nat.succ_le_succ hi
    rintro σ ys H1 ⟨_,rfl,_,h,sm⟩;refine⟨Yq _,λN hN=>⟨D,N,_,rfl,rfl,ai hN _ _ _ h,ae,?_⟩⟩;have hR:=hR _ (sm.trans (ai hN (.lst [])));rw[←GZ (g:=λ(i:Nat)=>V.int ((1:Int)+i))]at hR;exact hR
  exact⟨_,rfl,_,rfl,b,_,1,_,rfl,rfl,aX.of (s1 _ _ h1),rfl,l,t,k.od,cs,rfl,ho.same s1,s1 _ _ h2,hz,hsm,λu H' nu s' O=>⟨_,rfl,_,rfl,cz,λp hp=>q _ _ (s1.trans (s'.trans (ai hp _))) (p7 hp O (.inl (ke s1 nu)))⟩⟩
 rintro H' ⟨e2,rfl⟩;have e2:x.nm≠"cut":=of_decide_eq_false e2.symm;refine bL (λc H'=>c=decide (x.nm="count"\/x.nm="sum")/\aH H H') (λT hT=>⟨_,rfl,cS,λL hL=>⟨L,_,rfl,.inl (bb.of ae),rfl,rfl,_,rfl,hT _ _ ⟨HH,ai hL _⟩⟩⟩) ?_ ?_
 ·rintro H1 ⟨e,z1⟩;have hm1:1=1:=rfl;rcases El (YD e.symm)with⟨cs,rfl⟩|⟨cs,c,rfl⟩
  ·obtain⟨t,h1,h2⟩:=hx;exact⟨_,rfl,_,rfl,b,_,1,_,rfl,rfl,aX.of (z1 _ _ h1),rfl,l,t,k.od,cs,rfl,ho.same z1,z1 _ _ h2,hz,hsm,λu H' nu s' O=>⟨_,rfl,cz,λp hp=>q _ _ (z1.trans (s'.trans (ai hp _))) (p7 hp O (.inl (ke z1 nu)))⟩⟩
  ·obtain⟨t,h1,h2⟩:=hx;exact⟨_,rfl,_,rfl,b,_,1,_,rfl,rfl,aX.of (z1 _ _ h1),rfl,l,t,k.od,cs,rfl,ho.same z1,z1 _ _ h2,hz,hsm,λu H' nu s' O=>⟨_,rfl,cz,λp hp=>q _ _ (z1.trans (s'.trans (ai hp _))) (p7 hp O (.inl (ke z1 nu)))⟩⟩
 rintro H1 ⟨e3,z1⟩;have e3:¬(x.nm="count"\/x.nm="sum"):=of_decide_eq_false e3.symm;refine bL (λc H'=>c=decide (x.nm="number")/\H1=H') (λT hT=>⟨_,rfl,rfl,_,rfl,hT _ _ ⟨eQ _ _,rfl⟩⟩) ?_ ?_
 ·rintro H' ⟨e,rfl⟩;cases N8 (YD e.symm);refine⟨_,rfl,_,rfl,_,_,rfl,rfl,cS,λp1 hp1=>⟨eG,λp2 hp2=>?_⟩⟩;have s1:=ai hp1 (.tup [.int ((w:Int)+1),.bl false]);have s2:=ai hp2 (.lst [.ref p1]);have s12:=z1.trans (s1.trans s2);refine⟨l,p2,_,_,rfl,rfl,s12 _ _ hl,ae,?_,λu O=>⟨_,rfl,cz,λp hp=>q _ _ (s12.trans ((ai O _).trans (ai hp _))) (p7 hp ⟨_,ae,?_⟩ (.inl (ke s12 O)))⟩⟩
  ·rw[hwl];exact X6 (Nat.succ_le_succ hz) (by decide)
  ·rw[Ya];exact(hD.same (s12.trans (ai O _))).append (aK.cons (yn (aX.of (ai O _ _ _ (s2 _ _ ae)))) aK.nil)
 rintro H' ⟨e4,rfl⟩;have e4:x.nm≠"number":=of_decide_eq_false e4.symm;refine bL (λc H'=>c=decide (x.nm="first")/\H1=H') (λT hT=>⟨_,rfl,rfl,_,rfl,hT _ _ ⟨eQ _ _,rfl⟩⟩) ?_ ?_
 ·rintro H' ⟨e,rfl⟩;obtain⟨n,rfl⟩:=PR (YD e.symm);have h1:H b=some (.tup [.str "first",.int n]):=hx;refine⟨_,rfl,_,rfl,b,_,1,_,rfl,rfl,aX.of (z1 _ _ h1),rfl,eG,λL1 hL1=>?_⟩;have s1:=ai hL1 (.lst [.int n]);refine⟨_,rfl,eG,λL2 hL2=>⟨L2,rfl,⟨_,bb.of ae⟩,λD U=>?_⟩⟩;have s2:=ai hL2 (.lst [mV k.mo]);have LD:upd (upd H1 L1 (.lst [.int n])) L2 (.lst [mV k.mo]) L2=some (.lst [mV k.mo]):=ae;have MP:upd (upd H1 L1 (.lst [.int n])) L2 (.lst [mV k.mo]) L1=some (.lst [.int n]):=s2 _ _ ae;have s12:=z1.trans (s1.trans s2);revert LD MP s12 U;generalize upd (upd H1 L1 (.lst [.int n])) L2 (.lst [mV k.mo])=H3;intro U LD MP s12;let ms:List Int:=match k.mo with|none=>[]|some m=>[m]
  have SE:ms=match k.mo with|none=>[]|some m=>[m]:=rfl
  refine el (xs:=[mV k.mo]) (λi σ ys H'=>(∃o1,σ=[o1])/\ys=(if i=0 then []else ms.map V.int)/\ys.length<=i/\H' D=some (.lst ys)/\aH H3 H') ⟨⟨none,rfl⟩,rfl,X5 _,ae,ai U _⟩ ?_ ?_ ?_ ?_ ?_
  ·rintro i σ ys H' _ ⟨_,_,hi,h,_⟩;exact⟨h,hi⟩
  ·rintro i σ ys H' _ ⟨_,_,_,_,sm⟩;exact bb.of (sm _ _ LD)
  ·exact eG
  ·rintro i v σ ys H' hv ⟨⟨o1,rfl⟩,ey,hi,h,sm⟩;have hi0:i=0:=by have:=(Yj.mp hv).1;simpa using this
   subst hi0;have ev:mV k.mo=v:=Yr hv;subst ev;have ey:ys=[]:=ey;subst ey;refine ak ?_;refine⟨_,rfl,rfl,_,rfl,?_⟩;cases em:k.mo with
   |none =>refine cK ⟨⟨_,rfl⟩,?_,Yq _,h,sm⟩;rw[SE,em];rfl
   |some m =>refine cJ ⟨_,rfl,h,⟨_,rfl⟩,?_,X5 _,ae,bg U sm⟩;rw[SE,em];rfl
  rintro σ ys H4 ⟨_,ey,_,Nw,sm⟩;have ey:ys=ms.map V.int:=ey;subst ey;refine⟨L1,D,_,_,rfl,rfl,sm _ _ MP,Nw,?_,λu O=>?_⟩
  ·rw[X9,SE];cases k.mo with
   |none=>exact eG
   |some m=>exact cS
  refine⟨u,n::ms,rfl,bb.of ae,(by simp),λM m1 m2=>?_⟩;have eM:=DJ m1 m2;subst eM;have s5:=s12.trans (sm.trans (ai O (.lst ([.int n]++ms.map V.int))));exact⟨_,rfl,cz,λp hp=>q _ _ (s5.trans (ai hp _)) (p7 (m:=some (l6 k.mo n)) hp (ho.same s5) (.inr rfl))⟩
 rintro H' ⟨e5,rfl⟩;have e5:x.nm≠"first":=of_decide_eq_false e5.symm;refine bL (λc H'=>c=decide (x.nm="turn")/\aH H H') (λT hT=>⟨_,rfl,rfl,_,rfl,hT _ _ ⟨eQ _ _,z1⟩⟩) ?_ ?_
 ·rintro H2 ⟨e,z2⟩;have hc:∃c,(∃r,H b=some (.tup (.str x.nm :: .int c::r)))/\IV x k w=⟨da k.od c,k.mo,false⟩:=by obtain⟨c,ps,rfl⟩:=OZ (YD e.symm);obtain⟨t,bs,h1,_⟩:=hx;exact⟨c,⟨_,h1⟩,rfl⟩
  obtain⟨c,⟨r',h1⟩,Ng⟩:=hc;rw[Ng]at q;refine⟨_,rfl,l,_,rfl,.inl (bb.of (z2 _ _ hl)),_,rfl,(ig (by omega) (by omega)).1,(ig (by omega) (by omega)).2,λD U=>?_⟩;refine eT (n:=(((ws.length:Nat):Int)).toNat) (λi σ ys H'=>(∃o,σ=[o,some (.ref b),some (.ref l)])/\ys=(((List.range i).filter λi=>decide ((k.od.getD i (0,false)).1=c)).map λ(k:Nat)=>(k:Int)).map V.int/\ys.length<=i/\H' D=some (.lst ys)/\aH H2 H') ⟨⟨none,rfl⟩,rfl,X5 _,ae,ai U _⟩ ?_ ?_ ?_ ?_
  ·rintro i σ ys H' _ ⟨_,_,hi,h,_⟩;exact⟨h,hi⟩
  ·exact X6 (show(((ws.length:Nat):Int)).toNat<=1000 by omega) (by decide)
  ·rintro i σ ys H' hi ⟨⟨o,rfl⟩,rfl,hz',h,sm⟩;have hi':i<ws.length:=by omega
   have ev:ws[i]? = some ws[i]:=Yd hi';obtain⟨e',c',he,ec,hc'⟩:=iU hD ev;have ed:k.od.getD i (0,false)=e':=by rw[List.getD_eq_getElem?_getD,he];rfl
   refine ak ?_;refine⟨_,rfl,_,rfl,l,_,_,_,rfl,rfl,bb.of (sm _ _ (z2 _ _ hl)),by rw[show(0:Int)+(i:Int)=(i:Int) by omega];exact az (j:=i) ev,c',_,0,_,ec,rfl,(z2.trans sm).fA hc',az (j:=0) rfl,_,rfl,b,_,1,_,rfl,rfl,aX.of (sm _ _ (z2 _ _ h1)),az (j:=1) rfl,rfl,_,rfl,?_⟩;rw[lN];by_cases kk:e'.1=c
   ·rw[X8 kk];refine cJ ⟨_,rfl,h,⟨_,rfl⟩,?_,?_,ae,bg U sm⟩
    ·rw[List.range_succ,List.filter_append,List.filter_cons_of_pos (by rw[ed,X8 kk]),Ya,Ya];simp
    ·rw[X_];exact Nat.succ_le_succ hz'
   ·rw[X7 kk];refine cK ⟨⟨_,rfl⟩,?_,Nat.le_succ_of_le hz',h,sm⟩;rw[List.range_succ,List.filter_append,List.filter_cons_of_neg (by rw[ed,X7 kk];exact Yh)];simp
  rintro σ ys H3 ⟨_,rfl,hyl,A9,sm⟩;have VF:(((ws.length:Nat):Int)).toNat=k.od.length:=by omega
  rw[VF]at A9 hyl;have z3:=z2.trans sm;refine⟨_,rfl,l,_,rfl,.inl (bb.of (z3 _ _ hl)),eG,λN hN=>?_⟩;have sN:=ai hN (.lst [.int ((ws.length:Nat):Int)]);refine⟨D,N,_,_,rfl,rfl,sN _ _ A9,ae,X6 (Nat.succ_le_succ (X6 hyl hz)) (by decide),λE hE=>ak ?_⟩;dsimp only;obtain⟨r2,er,et⟩:=yJ (od:=k.od) (c:=c);have U8:upd (upd H3 N (.lst [.int ((ws.length:Nat):Int)])) E (.lst ((((List.range k.od.length).filter λi=>decide ((k.od.getD i (0,false)).1=c)).map λ(k:Nat)=>(k:Int)).map V.int++[.int ((ws.length:Nat):Int)])) E=some (.lst (.int (((da k.od c).length:Nat):Int)::r2.map V.int)):=by rw[ae,hwl,show [V.int ((k.od.length:Nat):Int)]=([((k.od.length:Nat):Int)]).map V.int from rfl,←Ya,er];rfl
  have z4:=z3.trans (sN.trans (ai hE (.lst ((((List.range k.od.length).filter λi=>decide ((k.od.getD i (0,false)).1=c)).map λ(k:Nat)=>(k:Int)).map V.int++[.int ((ws.length:Nat):Int)]))));refine⟨_,rfl,_,rfl,E,_,0,_,rfl,rfl,bb.of U8,az (j:=0) rfl,_,rfl,l,_,rfl,bb.of (z4 _ _ hl),λu O=>⟨_,rfl,cz,λp hp=>q _ _ (z4.trans ((ai O _).trans (ai hp _))) (p7 hp ⟨_,ae,?_⟩ (.inl (ke z4 O)))⟩⟩;have hle:(da k.od c).length<=ws.length:=by rw[hwl];exact(List.takeWhile_prefix _).length_le
  rw[rq hle];have:=(hD.take (da k.od c).length).same (z4.trans (ai O (.lst (ws.take (da k.od c).length))));rw[←List.map_take,←et]at this;rw[rq hle]at hp;exact this
 rintro H2 ⟨e6,z2⟩;have e6:x.nm≠"turn":=of_decide_eq_false e6.symm;have Ng:IV x k w=⟨k.od,k.mo,if eD x then k.un else decide (x.nm="apart")⟩/\(x.nm="apart"->eD x=false):=by cases x<;>first|exact YE rfl e1|exact YE rfl e2|exact YE (.inl rfl) e3|exact YE (.inr rfl) e3|exact YE rfl e4|exact YE rfl e5|exact YE rfl e6 | (cases Rz;done)|exact⟨rfl,λz=>YE z (by show("walk" : Str)≠"apart";decide +kernel)⟩|exact⟨rfl,λ_=>rfl⟩
 refine⟨_,rfl,_,rfl,?_⟩;refine E4 (.bl (k.un&&eD x)) (λR hR=>?_) ?_
 ·refine qP ⟨_,rfl,k.un,rfl,?_⟩;cases eu:k.un with
  |false=>rw[eu]at hR;exact cK hR
  |true =>rw[eu,Bool.true_and]at hR;refine cJ ⟨_,rfl,rfl,?_⟩;rw[eQ,KA];exact hR
 refine⟨cS,λL hL=>⟨_,rfl,rfl,.inr ⟨_,rfl,?_⟩⟩⟩;rw[eQ];have sL:=ai hL (.lst [.bl (k.un&&eD x),.bl true]);have fin:∀c:Bool,c=(IV x k w).un->3<=sizeLine/\∀p,upd H2 L (.lst [.bl (k.un&&eD x),.bl true]) p=none->Q (.ref p) (upd (upd H2 L (.lst [.bl (k.un&&eD x),.bl true])) p (.tup [.ref l,mV k.mo,.bl c])):=λc hc=>by refine⟨cz,λp hp=>q _ _ ((z2.trans sL).trans (ai hp _)) ?_⟩;rw[hc,Ng.1];exact p7 hp (ho.same (z2.trans sL)) (.inr rfl)
 by_cases ea:x.nm="apart"
 ·rw[X8 ea];refine⟨L,_,1,_,rfl,rfl,bb.of ae,rfl,fin _ ?_⟩;rw[Ng.1,Ng.2 ea,ea];rfl
 ·rw[X7 ea];refine⟨L,_,0,_,rfl,rfl,bb.of ae,az (j:=0) rfl,fin _ ?_⟩;rw[Ng.1,X7 ea];cases k.un<;>cases eD x<;>rfl
open Builtin.Int (intBits)
def Lu(s:Str):Option Int->Option Int->Option Int:=if s="meet" then LP (λa b=>a*b)else LP (λa b=>a+b)
inductive qD(vs:List V)(H:Hp)(Q:VK)(E:XK):Prop
 |mk (a:Addr) (s:Str) (xs:List V) (m1 m2:Option Int) (_:vs=[.ref a,mV m1,mV m2]) (_:H a=some (.tup (.str s::xs))) (_:∀m,m1=some m->intBits m<=1000000) (_:∀m,m2=some m->intBits m<=1000000) (_:∀H',aH H H'->Q (mV (Lu s m1 m2)) H'):qD vs H Q E
abbrev jI:Stmt:=top 98
theorem sH:ax ["_law_worker","_law_one","_law_other_here"] ["_law_worker","_law_one","_law_other_here"] (aq jI):=fs
theorem EB(B2:nM mg)(F:FA K mg "_law_mosts" jI) :
  bz bx P w K mg base 1 "_law_mosts" ["_law_worker","_law_one","_law_other_here"] qD:=by
 refine F.ok sH λf cdv A outer s H vs Q E hr h=>?_;obtain⟨a,s,xs,m1,m2,rfl,ha,b1,b2,q⟩:=h;refine⟨_,(bE (PW.pt (oE (ba m4 (pv 1) dk) (jG (ba m4 (pv 2) dk)))) dk
   (ay (bf K (bw (aa (aL cw (pv 1) (pv 2)) (aa (aL A_ (pv 1) (pv 2)) ag))) (bA il rfl B2.int YN (aa (gH bH (aJ K (pv 0) aj) aD) ag))))),?_⟩
 have U:∀{m1 m2:Option Int},(m1=none\/m2=none)->Lu s m1 m2=none:=λ{m1 m2} h=>by unfold Lu;split<;>rcases h with rfl|rfl<;>first|rfl | (cases m1<;>rfl)
 refine bL (λb H'=>b=(m1.isNone||m2.isNone)/\H=H') (λT O=>oU ⟨_,rfl,rfl,_,rfl,?_⟩) ?_ ?_
 ·rw[ua];cases m1 with
  |none=>exact cJ (O _ _ ⟨rfl,rfl⟩)
  |some i=>exact cK ⟨_,rfl,rfl,_,rfl,O _ _ ⟨by rw[ua];rfl,rfl⟩⟩
 ·rintro H' ⟨e,rfl⟩;have:=q H (aH.refl _);rw[U (by cases m1<;>cases m2<;>first|exact .inl rfl|exact .inr rfl|cases e)]at this;exact this
 rintro H' ⟨e,rfl⟩;cases m1 with
 |none=>cases e
 |some i =>
  cases m2 with
  |none=>cases e
  |some j =>
   refine⟨_,rfl,_,rfl,_,_,rfl,rfl,_,rfl,_,rfl,_,_,rfl,rfl,⟨b1 i rfl,b2 j rfl⟩,cS,λL hL=>?_⟩;have z:=ai hL (.lst [.int (i+j),.int (i*j)]);refine⟨_,rfl,a,_,0,_,rfl,rfl,aX.of (z _ _ ha),az (j:=0) rfl,rfl,.inr ⟨_,rfl,?_⟩⟩;rw[eQ];have q:=q _ z;unfold Lu at q;by_cases k:s="meet"
   ·rw[YG k]at q;rw[X8 k];exact⟨L,_,1,_,rfl,rfl,bb.of ae,rfl,q⟩
   ·rw[YF k]at q;rw[X7 k];exact⟨L,_,0,_,rfl,rfl,bb.of ae,az (j:=0) rfl,q⟩
theorem x3{K:YY}{H H':Hp}(k:KS K H H'):∀{od:Od}{us:List V},aK K H (od.map dE) us->aK K H' (od.map dE) us
 |[],us,h=>by cases l4 h;exact .nil
 |e::es,us,h=>by obtain⟨v,r,rfl,h1,h2⟩:=ez h;exact .cons (h1.b_ k rfl) (x3 k h2)
def RG(K:YY)(H:Hp)(X:Addr->Prop)(a:Addr)(e:List Int×HK):Prop:=∃pa ka,H a=some (.tup [.ref pa,.ref ka])/\H pa=some (.tup (e.1.map V.int))/\sC K H X ka e.2.2
structure qE(K:YY)(H:Hp)(X:Addr->Prop)(as:Z6)(t:Ak):Prop where
 len:as.length=t.length
 at_:∀(i:Nat) a e,as[i]? = some a->t[i]? = some e->RG K H X a e
section
variable{K:YY}{H H':Hp}{X Y:Addr->Prop}
theorem sC.same{a:Addr}{k:Kf}(s:aH H H')(h:sC K H X a k):sC K H' X a k:=by obtain⟨l,h1,h2,h3⟩:=h;exact⟨l,s _ _ h1,h2.same s,h3⟩
theorem sC.imp{a:Addr}{k:Kf}(i:∀l ws,H l=some (.lst ws)->X l->Y l)(h:sC K H X a k):sC K H Y a k:=by obtain⟨l,h1,⟨ws,h2,h3⟩,h4⟩:=h;exact⟨l,h1,⟨ws,h2,h3⟩,i l ws h2 h4⟩
theorem sC.dP{a L:Addr}{k:Kf}{xs:List V}{o:HO}(z:H L=some (.lst xs))(n:∀l,X l->l≠L)(h:sC K H X a k):sC K (upd H L o) X a k:=by obtain⟨l,h1,⟨ws,h2,h3⟩,h4⟩:=h;exact⟨l,aE.refl.dP z _ _ h1,⟨ws,by rw[aI (n l h4)];exact h2,x3 (KS.dP z) h3⟩,h4⟩
theorem qE.same{as:Z6}{t:Ak}(s:aH H H')(h:qE K H X as t):qE K H' X as t:=⟨h.len,λi a e z O=>let ⟨pa,ka,z1,z2,z3⟩:=h.at_ i a e z O;⟨pa,ka,s _ _ z1,s _ _ z2,z3.same s⟩⟩
theorem qE.imp{as:Z6}{t:Ak}(i:∀l ws,H l=some (.lst ws)->X l->Y l)(h:qE K H X as t):qE K H Y as t:=⟨h.len,λj a e z O=>let ⟨pa,ka,z1,z2,z3⟩:=h.at_ j a e z O;⟨pa,ka,z1,z2,z3.imp i⟩⟩
theorem qE.dP{as:Z6}{t:Ak}{L:Addr}{xs:List V}{o:HO}(z:H L=some (.lst xs))(n:∀l,X l->l≠L)(h:qE K H X as t):qE K (upd H L o) X as t:=⟨h.len,λi a e O U=>let ⟨pa,ka,z1,z2,z3⟩:=h.at_ i a e O U;⟨pa,ka,aE.refl.dP z _ _ z1,aE.refl.dP z _ _ z2,z3.dP z n⟩⟩
theorem qE.app{as bs:Z6}{t t':Ak}(h:qE K H X as t)(h':qE K H X bs t'):qE K H X (as++bs) (t++t'):=by
 refine⟨by rw[X_,X_,h.len,h'.len],λi a e z O=>?_⟩;by_cases hi:i<as.length
 ·rw[Yt hi]at z;rw[Yt (by rw[←h.len];exact hi)]at O;exact h.at_ i a e z O
 ·have:=h.len;rw[Ys (by omega)]at z;rw[Ys (by omega),←h.len]at O;exact h'.at_ _ a e z O
theorem qE.one{a:Addr}{e:List Int×HK}(h:RG K H X a e):qE K H X [a] [e]:=⟨rfl,λi b U z O=>by
 cases i with
 |zero=>cases z;cases O;exact h
 |succ i=>cases z⟩
end
open Builtin.Int (intBits)
def XR(H:Hp)(l0 L E:Addr)(y:Addr):Prop:=(H y=none\/y=l0)/\y≠L/\y≠E
inductive Kq(K:YY)(n:Nat)(vs:List V)(H:Hp)(Q:VK)(E:XK):Prop
 |mk (t l kn ah l0:Addr) (tp:Bool) (ws:List Wk) (s:HK) (pi:List Int) (_:vs=[.ref t,.ref l,.ref kn,.ref ah]) (_:jA n H t ws) (_:bX H l s.1) (_:cL s.1) (_:H kn=some (.tup [.ref l0,mV s.2.mo,.bl s.2.un])) (_:DQ K H l0 s.2.od) (_:H ah=some (.tup (pi.map V.int))) (_:gO tp n s.1 ws) (_:∀e∈AL n pi 0 s ws,GR e.2) (_:(AL n pi 0 s ws).length<=90000) (_:pi.length<=100-2*n) (_:2*n<=100) (_:∀L as H',aH H H'->H' L=some (.lst (as.map V.ref))->qE K H' (λy=>H y=none\/y=l0) as (AL n pi 0 s ws)->Q (.ref L) H'):Kq K n vs H Q E
def vG(K:YY):Nat->Sp
 | 0=>λ_ _ _ _=>False
 |n+1=>Kq K n
inductive SR(K:YY)(n:Nat)(t ah l0:Addr)(H:Hp)(ws:List Wk)(s:HK)(pi:List Int)(i:Nat)(σ:St)(H':Hp):Prop
 |mk (lc kn L:Addr) (as:Z6) (st:∃o5 o6 o7 o8 o9 p9,σ=[some (.ref t),some (.ref lc),some (.ref kn),some (.ref ah),some (.ref L),o5,o6,o7,o8,o9,p9]) (h1:aH H H') (h2:bX H' lc (cT n s (ws.take i)).1) (h3:sC K H' (XR H l0 L L) kn (cT n s (ws.take i)).2) (h4:H' L=some (.lst (as.map V.ref))) (h5:qE K H' (XR H l0 L L) as (AL n pi 0 s (ws.take i))) (h6:H L=none)
inductive V5(K:YY)(t lc ah l0 a:Addr)(i:Nat)(H:Hp)(h:Hd)(k:Kf)(tr:Ak)(σ:St)(H':Hp):Prop
 |mk (kn L:Addr) (as:Z6) (st:∃o7 o8 o9 p9,σ=[some (.ref t),some (.ref lc),some (.ref kn),some (.ref ah),some (.ref L),some (.int (i:Nat)),some (.ref a),o7,o8,o9,p9]) (h1:aH H H') (h2:bX H' lc h) (h3:sC K H' (XR H l0 L L) kn k) (h4:H' L=some (.lst (as.map V.ref))) (h5:qE K H' (XR H l0 L L) as tr) (h6:H L=none)
inductive S4(K:YY)(t lc kn ah l0 a E:Addr)(i m:Nat)(H H5:Hp)(k:Kf)(tr:Ak)(si:HK)(pl:List Int)(ps:List (List Wk))(j:Nat)(σ:St)(H':Hp):Prop
 |mk (L:Addr) (as us:Z6) (st:∃o8 o9 p9,σ=[some (.ref t),some (.ref lc),some (.ref kn),some (.ref ah),some (.ref L),some (.int (i:Nat)),some (.ref a),some (.ref E),o8,o9,p9]) (h1:gz E H5 H') (h2:H' L=some (.lst (as.map V.ref))) (h3:qE K H' (XR H l0 L E) as (tr++oA m (gw m) si pl 0 (ps.take j))) (h4:H' E=some (.lst (us.map V.ref))) (h5:us.length=j) (h6:∀(j':Nat) u p,us[j']? = some u->ps[j']? = some p->sC K H' (XR H l0 L E) u (cT m si p).2) (h7:H L=none) (h8:sC K H' (XR H l0 L E) kn k)
theorem M1{n:Nat}{pl:List Int}{s:HK}{ws:List Wk}{K:YY}{H:Hp}{X:Addr->Prop}{as:Z6}(h:qE K H X as (AL n pl 0 s ws)):∃bs a,as=bs++[a]/\RG K H X a (pl++[((ws.length:Nat):Int)],cT n s ws):=by
 have e:=se (n:=n) (pl:=pl) (s:=s) (ws:=ws);have O:=h.len;rw[e,X_,List.length_singleton]at O;rcases List.eq_nil_or_concat as with z|⟨bs,a,z⟩
 ·rw[z]at O;cases O
 ·have hz:as=bs++[a]:=by rw[z,List.concat_eq_append]
  refine⟨bs,a,hz,h.at_ bs.length a _ (by rw[hz,Ys (X5 _),Nat.sub_self];rfl) ?_⟩;rw[hz,X_,List.length_singleton]at O;have U:bs.length=(AF n pl s ws).length:=Nat.succ.inj O;rw[e,U,Ys (X5 _),Nat.sub_self];rfl
theorem F_{H:Hp}{u L:Addr}{ss:Hd}{as:Z6}(h:bX H u ss)(h1:1<=ss.length)(O:H L=some (.lst (as.map V.ref))):u≠L:=λz=>by
 have h:H u=some (.lst (ss.map V.str)):=h;rw[z,O]at h;injection h with e1;injection e1 with e1;cases ss with
 |nil=>cases h1
 |cons s t =>
  cases as with
  |nil=>cases e1
  |cons b bs=>injection e1 with e1;cases e1
theorem O7{m:Nat}{H:Hp}{a:Addr}{x:Wk}{j:Nat}{p:List Wk}(h:dZ (m+1) H a x)(e:(cm x)[j]? = some p):∃(xs:List V)(b:Addr),H a=some (.tup xs)/\xf xs (((xs.length:Nat):Int)-2+(0+(j:Int)))=some (.ref b)/\jA m H b p:=by
 cases x with
 |one y=>cases e
 |both p1 q1 =>
  obtain⟨b,c,bs,cs,z,U,O⟩:=h;match j,e with
  | 0,e=>cases e;exact⟨_,b,z,rfl,⟨bs,U⟩⟩
  | 1,e=>cases e;exact⟨_,c,z,rfl,⟨cs,O⟩⟩
 |meet c d p1 q1 =>
  obtain⟨b,c',bs,cs,z,U,O⟩:=h;match j,e with
  | 0,e=>cases e;exact⟨_,b,z,rfl,⟨bs,U⟩⟩
  | 1,e=>cases e;exact⟨_,c',z,rfl,⟨cs,O⟩⟩
abbrev ia:Stmt:=top 99
theorem bO:ax ["_law_pipe_here","_law_sorts","_law_known","_law_ahead","_law_found","_law_k","_law_worker","_law_ends","_law_branch","_law_some","_law_order"] ["_law_pipe_here","_law_sorts","_law_known","_law_ahead"] (aq ia):=fs
theorem rQ{n L:Nat}(B:j_ mg)(B2:nM mg)(mE:mg "enumerate"=none)(F:FA K mg "_law_along" ia)
  (j4:bz bx P w K mg base (L+4) "_law_along" ["_law_pipe_here","_law_sorts","_law_known","_law_ahead"] (vG K n))
  (vj:bz bx P w K mg base 1 "_law_mosts" ["_law_worker","_law_one","_law_other_here"] qD)
  (tN:bz bx P w K mg base 2 "_law_behind" ["_law_known","_law_worker","_law_wide"] (EM K))
  (cq:bz bx P w K mg base (L+4) "_law_head_behind" ZQ (yu (n+1))) :
  bz bx P w K mg base (L+5) "_law_along" ["_law_pipe_here","_law_sorts","_law_known","_law_ahead"] (vG K (n+1)):=by
 refine F.ok bO λf cdv A outer s H vs Q E hr h=>?_;obtain⟨t,l,kn,ah,l0,tp,ws,O,pi,rfl,hP,hl,hs,hkn,hod,SA,hf,hE,hfew,hdp,hn2,q⟩:=h;refine⟨_,(ao (aU (i:=4) bO.nd rfl (YI rfl) (bw (aa (aW (aa (aL cO (pv 3) (aW (aa aj ag))) (aa (pv 2) ag))) ag)))
   (ao (dR PassesOwn.never rfl (kz rfl mE (aa (pv 0) ag)) (bU rfl (ar (aQ (i:=5) bO.nd rfl (YI rfl)) (ar (aQ (i:=6) bO.nd rfl (YI rfl)) bF)))
    (ao (fi (eU dz (aJ K (pv 6) aj) (bw (aa aD (aa aD ag))) rfl)
      (ao (aU (i:=7) bO.nd rfl (YI rfl) (bw ag))
       (ao (dR PassesOwn.never rfl (c9 rfl B.range (aa aj ag)) (aQ (i:=8) bO.nd rfl (YI rfl))
        (ao (aU (i:=9) bO.nd rfl (YI rfl) (aG j4 hr (aa (aJ K (pv 6) (aL cw (aL bN (aP aM rfl B.len YW (aa (pv 6) ag)) aj) (pv 8))) (aa (pv 1) (aa (pv 2) (aa (aL cO (pv 3) (aW (aa (pv 5) (aa (pv 8) ag)))) ag))))))
         (ao (aU (i:=4) bO.nd rfl (YI rfl) (aL gn (pv 4) (pv 9)))
         (bC (cN (gN PySem.F.plainAttrs_list PySem.F.slot_list_append PySem.F.type_list_append cb (pv 7) (aa (aJ K (bf K (pv 9) (Gs zX aj)) aj) ag)))))))
       (ao (aU (i:=10) bO.nd rfl (YI rfl) (bf K (bw (aa (bw ag) (aa (aJ K (bf K (pv 7) aj) aj) ag))) (bA il rfl B2.int YN (aa (gH bH (aJ K (pv 6) aj) aD) ag))))
       (bC (aU (i:=2) bO.nd rfl (YI rfl) (aW (aa (pv 10) (aa (aG vj hr (aa (pv 6) (aa (aJ K (bf K (pv 7) aj) aj) (aa (aJ K (bf K (pv 7) aj) aj) ag)))) (aa cR ag)))))))))
      (bC (aU (i:=2) bO.nd rfl (YI rfl) (aG tN hr (aa (pv 2) (aa (pv 6) (aa (aP aM rfl B.len YW (aa (pv 1) ag)) ag)))))))
     (ao (aU (i:=1) bO.nd rfl (YI rfl) (aG cq hr (aa (pv 1) (aa (aW (aa (pv 6) ag)) ag))))
     (bC (cN (gN PySem.F.plainAttrs_list PySem.F.slot_list_append PySem.F.type_list_append cb (pv 4) (aa (aW (aa (aL cO (pv 3) (aW (aa (aL cw (pv 5) aj) ag))) (aa (pv 2) ag))) ag)))))))
   (ay (pv 4)))),?_⟩
 obtain⟨bs,hI⟩:=hP;have hlb:(bs.map V.ref).length=ws.length:=by rw[X9,hI.len]
 refine⟨_,rfl,eG,λu1 h1=>?_⟩;have y1:=ai h1 (.tup [.int 0]);refine⟨ah,u1,_,_,rfl,rfl,y1 _ _ SA,ae,by rw[X9,List.length_singleton];exact X6 (show _<=1000 by omega) (by decide),λu2 H2 y2 hu2=>⟨_,rfl,cS,λa0 ha0=>⟨eG,λL hL=>ak ?_⟩⟩⟩;dsimp only;have y3:=ai ha0 (.tup [.ref u2,.ref kn]);have y4:=ai hL (.lst [.ref a0]);have SX:=y2.trans (y3.trans y4);have y:=y1.trans SX;have hLH:H L=none:=ke (y1.trans (y2.trans y3)) hL;have QX:l0≠L:=λz=>by obtain⟨ws',z1,_⟩:=hod;rw[z,hLH]at z1;cases z1
 have i0:SR K n t ah l0 H ws O pi 0 [some (.ref t),some (.ref l),some (.ref kn),some (.ref ah),some (.ref L),none,none,none,none,none,none] (upd (upd H2 a0 (.tup [.ref u2,.ref kn])) L (.lst [.ref a0])):=by have kf:sC K (upd (upd H2 a0 (.tup [.ref u2,.ref kn])) L (.lst [.ref a0])) (XR H l0 L L) kn O.2:=⟨l0,y _ _ hkn,hod.same y,.inr rfl,QX,QX⟩;exact⟨l,kn,L,[a0],⟨_,_,_,_,_,_,rfl⟩,y,y _ _ hl,kf,ae,qE.one ⟨u2,kn,y4 _ _ ae,(y3.trans y4) _ _ (by rw[hu2];exact congrArg (λz=>some (HO.tup z)) (A7 (i:=0))),kf⟩,hLH⟩
 clear y SX y4 y3 hu2 ha0 y2 h1 y1 QX hLH hL;revert i0;generalize upd (upd H2 a0 (.tup [.ref u2,.ref kn])) L (.lst [.ref a0])=H3;intro i0;have VQ:cn (dZ n) H3 t bs ws:=by obtain⟨_,_,_,_,_,s3,_⟩:=i0;exact hI.keep (aE.of s3) λ_ _ z=>z.keep (aE.of s3)
 refine⟨_,rfl,t,rfl,⟨_,aX.of VQ.tup⟩,?_⟩;refine jC (xs:=bs.map V.ref) (SR K n t ah l0 H ws O pi) i0 ?_ ?_ ?_
 ·rintro i σ H' _ ⟨_,_,_,_,_,s',_⟩;exact aX.of (s' _ _ hI.tup)
 ·rintro i v σ H' T hx ⟨lc,kn,L,as,⟨o5,o6,o7,o8,o9,p9,rfl⟩,s',nR,hkf,hL,hA,hLH⟩ hT;obtain⟨a,x,rfl,ex,ha⟩:=hI.get hx;obtain⟨rest,qa⟩:=Bs (n:=n) (pl:=pi) (s:=O) ex;have fx:=hf.at_ i x ex;have HX:=(hf.pre i).ss hs;rw[←H_]at fx HX;have zT:=ai hT (.tup [.int (i:Nat),.ref a]);refine⟨T,_,rfl,aX.of ae,rfl,_,_,rfl,ak ⟨_,_,rfl,ak ⟨rfl,?_⟩⟩⟩;dsimp only;have sT:=s'.trans zT;have nR:=zT _ _ nR;have hkf:=hkf.same zT;have hL:=zT _ _ hL;have hA:=hA.same zT;revert sT nR hkf hL hA;generalize upd H' T (.tup [.int (i:Nat),.ref a])=H4;intro sT nR hkf hL hA;have hin:∀e∈AL n pi 0 O (ws.take i)++gw n (cT n O (ws.take i)) (pi++[(i:Int)]) x,GR e.2:=λe he=>hE e (by rw[qa];exact Yo.mpr (.inl he));have hlen:(AL n pi 0 O (ws.take i)).length+(gw n (cT n O (ws.take i)) (pi++[(i:Int)]) x).length<=90000:=by have:=hfew;rw[qa,X_,X_]at this;omega
  have ek:GR (cT n O (ws.take i)):=by have:=se (n:=n) (pl:=pi) (s:=O) (ws:=ws.take i);exact hin (pi++[(((ws.take i).length:Nat):Int)],cT n O (ws.take i)) (by rw[this];simp)
  have Ui:=jS (n:=n) (pl:=pi) (x:=x) (ws:=ws.take i) (i:=0) (s:=O);rw[gF ex,Nat.zero_add]at Ui;have PX:=take_one ex;have NW:∀{H':Hp},aH H H'->dZ n H' a x:=λs=>ha.keep (aE.of s);refine gB (V5 K t lc ah l0 a i H (cT n O (ws.take i)).1 (mr n (cT n O (ws.take i)) x).2 (AL n pi 0 O (ws.take i)++gw n (cT n O (ws.take i)) (pi++[(i:Int)]) x)) (λR hR=>?_) ?_
  ·obtain⟨XX,hx1⟩:=(NW sT).first;refine mj (λb H5=>b=decide (x.nm="both"\/x.nm="meet")/\aH H4 H5) (λT hT=>⟨_,rfl,a,_,0,_,rfl,rfl,aX.of hx1,az (j:=0) rfl,cS,λL0 hL0=>⟨L0,_,rfl,.inl (bb.of ae),rfl,rfl,_,rfl,hT _ _ ⟨HH,ai hL0 _⟩⟩⟩) ?_ ?_
   ·rintro H5 ⟨e,U⟩;have e:=YD e.symm;have hbr:∃p1 p2,cm x=[p1,p2]/\∀m,n=m+1->gO false m (cT n O (ws.take i)).1 p1/\gO false m (cT n O (ws.take i)).1 p2:=by
     cases x with
     |one y=>exact YE e (by cases y<;>(simp only[Wk.nm,W1.nm];decide +kernel))
     |both p1 p2=>exact⟨p1,p2,rfl,λm em=>by subst em;exact⟨fx.1,fx.2.1⟩⟩
     |meet c d p1 p2=>exact⟨p1,p2,rfl,λm em=>by subst em;exact⟨fx.2.1,fx.2.2.1⟩⟩
    obtain⟨p1,p2,EH,Qz⟩:=hbr;obtain⟨m,rfl⟩ :∃m,n=m+1:=by
     cases n with
     |zero=>rw[Ip ha]at EH;cases EH
     |succ m=>exact⟨m,rfl⟩
    have Qz:=Qz m rfl;have s5:=sT.trans U;refine⟨Yq _,λE hE'=>ak ?_⟩;dsimp only;have zE:=ai hE' (.lst []);have s6:=s5.trans zE;have TQ:H E=none:=ke s5 hE';have XO:L≠E:=λz=>by have:=U _ _ hL;rw[z,hE']at this;cases this
    have Up:∀l w',H5 l=some (.lst w')->XR H l0 L L l->XR H l0 L E l:=λl w' h z=>⟨z.1,z.2.1,λe=>by rw[e,hE']at h;cases h⟩;have j0:S4 K t lc kn ah l0 a E i m H (upd H5 E (.lst [])) (cT (m+1) O (ws.take i)).2 (AL (m+1) pi 0 O (ws.take i)) (cT (m+1) O (ws.take i)) (pi++[(i:Int)]) (cm x) 0 [some (.ref t),some (.ref lc),some (.ref kn),some (.ref ah),some (.ref L),some (.int (i:Nat)),some (.ref a),some (.ref E),o8,o9,p9] (upd H5 E (.lst [])):=by refine⟨L,as,[],⟨_,_,_,rfl⟩,gz.of (aH.refl _),zE _ _ (U _ _ hL),?_,ae,rfl,λj' u p e=>(by cases e),hLH,((hkf.same U).imp Up).same zE⟩;show qE K _ _ as (_++[]);rw[YO];exact((hA.same U).imp Up).same zE
    have yN:bX (upd H5 E (.lst [])) lc _:=zE _ _ (U _ _ nR);have RP:upd H5 E (.lst []) E=some (.lst []):=ae;revert s6 j0 yN RP;generalize upd H5 E (.lst [])=H6;intro s6 j0 yN RP;have T4:lc≠E:=F_ (as:=[]) yN HX.pos RP;refine⟨_,rfl,(ig (by decide) (by decide)).1,(ig (by decide) (by decide)).2,?_⟩;refine gq (n:=2) (S4 K t lc kn ah l0 a E i m H H6 (cT (m+1) O (ws.take i)).2 (AL (m+1) pi 0 O (ws.take i)) (cT (m+1) O (ws.take i)) (pi++[(i:Int)]) (cm x)) j0 ?_ ?_
    ·rintro j σ H7 hj ⟨L7,Ob,us,⟨o8',RH,JC,rfl⟩,g7,K6,Nv,Lz,Nq,hus,Pn,Uq⟩;obtain⟨pj,ep,fp⟩ :∃pj,(cm x)[j]? = some pj/\gO false m (cT (m+1) O (ws.take i)).1 pj:=by
      rw[EH];match j,hj with
      | 0,_=>exact⟨p1,rfl,Qz.1⟩
      | 1,_=>exact⟨p2,rfl,Qz.2⟩
     have s7:aH H H7:=λb o eb=>g7 b o (aY eb TQ) (s6 _ _ eb);obtain⟨r2,eB⟩:=vB (m:=m) (pl:=pi++[(i:Int)]) (s:=cT (m+1) O (ws.take i)) ep;have hsub:∀e∈AL m ((pi++[(i:Int)])++[(j:Int)]) 0 (cT (m+1) O (ws.take i)) pj,GR e.2:=λe he=>hin e (Yo.mpr (.inr (by show e∈oA m (gw m) _ _ 0 (cm x);rw[eB];exact Yo.mpr (.inl (Yo.mpr (.inr he))))));have hsl:(AL m ((pi++[(i:Int)])++[(j:Int)]) 0 (cT (m+1) O (ws.take i)) pj).length<=90000:=by have h2:(gw (m+1) (cT (m+1) O (ws.take i)) (pi++[(i:Int)]) x).length=(oA m (gw m) (cT (m+1) O (ws.take i)) (pi++[(i:Int)]) 0 (cm x)).length:=rfl;rw[eB,X_,X_]at h2;omega
     have Vs:Ob.length<=90000:=by have h2:(gw (m+1) (cT (m+1) O (ws.take i)) (pi++[(i:Int)]) x).length=(oA m (gw m) (cT (m+1) O (ws.take i)) (pi++[(i:Int)]) 0 (cm x)).length:=rfl;rw[eB,X_,X_]at h2;rw[Nv.len,X_];omega
     obtain⟨xs,bj,M_,hat,hpj⟩:=O7 (NW s7) ep;obtain⟨lk,hk1,hk2,hk3⟩:=Uq;refine ak ?_;dsimp only;refine⟨_,rfl,_,rfl,a,_,rfl,.inr (aX.of M_),_,_,rfl,rfl,_,rfl,_,_,rfl,rfl,a,_,_,_,rfl,rfl,aX.of M_,hat,_,rfl,_,rfl,_,rfl,_,rfl,_,rfl,cS,λu7 CN=>?_⟩;have z7:=ai CN (.tup [.int (i:Nat),.int (0+(j:Int))]);refine⟨ah,u7,_,_,rfl,rfl,z7 _ _ (s7 _ _ SA),ae,by rw[X9];exact X6 (show _+2<=1000 by omega) (by decide),λu8 H8 y8 fJ=>?_⟩;have Lj:=z7.trans y8;have fJ:H8 u8=some (.tup (((pi++[(i:Int)])++[(j:Int)]).map V.int)):=by rw[fJ,show(0:Int)+(j:Int)=(j:Int) by omega,List.append_assoc,Ya];rfl
     refine⟨bj,lc,kn,u8,lk,false,pj,cT (m+1) O (ws.take i),(pi++[(i:Int)])++[(j:Int)],rfl,hpj.keep (aE.of Lj),Lj _ _ (g7 _ _ T4 yN),HX,Lj _ _ hk1,hk2.same Lj,fJ,fp,hsub,hsl,by rw[X_,X_,List.length_singleton,List.length_singleton];omega,by omega,λL9 SU H9 y9 hL9 Pp=>ak ?_⟩;dsimp only;have Ke:=Lj.trans y9;refine⟨_,rfl,_,rfl,L7,L9,_,_,rfl,rfl,Ke _ _ K6,hL9,?_,λLA NS=>ak ?_⟩
     ·rw[X9,X9,Pp.len];exact X6 (show _<=180000 by omega) (by decide)
     dsimp only;have zA:=ai NS (.lst (Ob.map V.ref++SU.map V.ref));have Tz:=Ke.trans zA;have Rr:H LA=none:=ke (s7.trans Ke) NS;have SK:∀l w',H9 l=some (.lst w')->XR H l0 L7 E l->XR H l0 LA E l:=λl w' h z=>⟨z.1,λe=>(by rw[e,NS]at h;cases h),z.2.2⟩;have S6:∀l w',H9 l=some (.lst w')->(H8 l=none\/l=lk)->XR H l0 LA E l:=λl w' h z=>by
      have nA:l≠LA:=λe=>by rw[e,NS]at h;cases h
      rcases z with z|z
      ·exact⟨.inl (ke (s7.trans Lj) z),nA,λe=>by have:=Lj _ _ Lz;rw[←e,z]at this;cases this⟩
      ·rw[z]at nA⊢;exact⟨hk3.1,nA,hk3.2.2⟩
     have hAA:=((Nv.same Ke).imp SK).app (Pp.imp S6);have hAA:=hAA.same zA;obtain⟨Ub,a9,e9,XU,Va,w1,w2,w3⟩:=M1 (Pp.imp S6);have Oz:=Tz _ _ Lz;have Vb:LA≠E:=λe=>by have:=Ke _ _ Lz;rw[←e,NS]at this;cases this
     refine⟨_,rfl,.inl ⟨rfl,_,bb.of Oz⟩,_,rfl,_,rfl,L9,_,_,_,rfl,rfl,bb.of (zA _ _ hL9),by rw[e9,Ya];exact DG _ _,a9,_,1,_,rfl,rfl,aX.of (zA _ _ w1),rfl,E,_,_,rfl,rfl,Oz,by rw[X9,Nq];exact Yc hj cS,LA,Ob++SU,us++[Va],⟨_,_,_,rfl⟩,?_,?_,?_,by rw[ae,Ya];rfl,by rw[X_,Nq];rfl,?_,Rr,?_⟩
     ·exact(g7.trans (gz.of Tz)).put
     ·rw[aI Vb,Ya];exact ae
     ·rw[take_one ep,qY,←List.append_assoc,gF ep,Nat.zero_add];exact hAA.dP Oz λl z=>z.2.2
     ·intro j' u p e1 e2;refine sC.dP Oz (λl z=>z.2.2) ?_;by_cases hj':j'<us.length
      ·rw[Yt hj']at e1;exact(((hus j' u p e1 e2).same Ke).imp SK).same zA
      ·have ej:j'=us.length:=by have:=(Yj.mp e1).1;rw[X_,List.length_singleton]at this;omega
       subst ej;rw[Ys (X5 _),Nat.sub_self]at e1;cases e1;rw[Nq,ep]at e2;cases e2;exact w3.same zA
     ·exact sC.dP Oz (λl z=>z.2.2) (sC.same zA (sC.imp SK ⟨lk,Ke _ _ hk1,hk2.same Ke,hk3⟩))
    ·rintro σ H7 ⟨L7,Ob,us,⟨o8',RH,JC,rfl⟩,g7,K6,Nv,Lz,Nq,hus,Pn,Uq⟩;obtain⟨k0,r,rfl,w0⟩:=rf (n:=1) Nq;obtain⟨k1,r,rfl,w1⟩:=rf (n:=0) w0;cases List.length_eq_zero_iff.mp w1;obtain⟨q0,d0,UL,x0⟩:=hus 0 k0 p1 rfl (by rw[EH];rfl);obtain⟨q1,d1,Th,x1⟩:=hus 1 k1 p2 rfl (by rw[EH];rfl);have s7:aH H H7:=λb o eb=>g7 b o (aY eb TQ) (s6 _ _ eb);have eo:∀{j:Nat}{pj:List Wk},(cm x)[j]? = some pj->GR (cT m (cT (m+1) O (ws.take i)) pj):=λ{j pj} ep=>by obtain⟨r2,eB⟩:=vB (m:=m) (pl:=pi++[(i:Int)]) (s:=cT (m+1) O (ws.take i)) ep;refine hin (((pi++[(i:Int)])++[(j:Int)])++[((pj.length:Nat):Int)],_) (Yo.mpr (.inr ?_));show _∈oA m (gw m) _ _ 0 (cm x);rw[eB];refine Yo.mpr (.inl (Yo.mpr (.inr ?_)));rw[se];simp
     have Wa:=eo (j:=0) (pj:=p1) (by rw[EH];rfl);have We:=eo (j:=1) (pj:=p2) (by rw[EH];rfl);rw[show(cm x).take 2=cm x by rw[EH];rfl]at Nv;obtain⟨XQ,Ts⟩:=(NW s7).first;dsimp only;have fin:∀{lo:Addr}{od:Od}{HM:Hp},aH H7 HM->DQ K HM lo od->XR H l0 L7 L7 lo->(mr (m+1) (cT (m+1) O (ws.take i)) x).2=⟨od,Lu x.nm (cT m (cT (m+1) O (ws.take i)) p1).2.mo (cT m (cT (m+1) O (ws.take i)) p2).2.mo,false⟩->yl (B5 (c6 (br 10) (c6 (lj qD [] E0 (c6 (br 6) (c6 (eC (jt K) (eC (iE K) (br 7) (tC (.int 0))) (tC (.int 1))) (c6 (eC (jt K) (eC (iE K) (br 7) (tC (.int 1))) (tC (.int 1))) ll)))) (c6 (tC (.bl false)) ll)))) (b9 2) {nx:=R,rt:=Q} [some (.ref t),some (.ref lc),some (.ref kn),some (.ref ah),some (.ref L7),some (.int (i:Nat)),some (.ref a),some (.ref E),o8',RH,some (.ref lo)] HM:=λ{lo od HM} sM ho hX UX=>by
      refine⟨_,rfl,_,rfl,_,rfl,E,_,0,_,rfl,rfl,bb.of (sM _ _ Lz),az (j:=0) rfl,k0,_,1,_,rfl,rfl,aX.of (sM _ _ d0),rfl,_,rfl,E,_,1,_,rfl,rfl,bb.of (sM _ _ Lz),rfl,k1,_,1,_,rfl,rfl,aX.of (sM _ _ d1),rfl,⟨a,x.nm,_,_,_,rfl,sM _ _ Ts,Wa.2.2,We.2.2,λH9 s9=>⟨cz,λNR Fo=>ak (hR _ _ ⟨NR,L7,Ob,⟨_,_,_,_,rfl⟩,?_,?_,?_,?_,?_,Pn⟩)⟩⟩⟩
      ·exact s7.trans (sM.trans (s9.trans (ai Fo _)))
      ·exact(sM.trans (s9.trans (ai Fo _))) _ _ (g7 _ _ T4 yN)
      ·rw[UX];exact⟨lo,ae,ho.same (s9.trans (ai Fo _)),hX⟩
      ·exact(sM.trans (s9.trans (ai Fo _))) _ _ K6
      ·exact(Nv.imp λ_ _ _ z=>⟨z.1,z.2.1,z.2.1⟩).same (sM.trans (s9.trans (ai Fo _)))
     refine⟨Yq _,λN hN=>?_⟩;have zN:=ai hN (.lst []);refine⟨_,rfl,E,_,0,_,rfl,rfl,bb.of (zN _ _ Lz),az (j:=0) rfl,k0,_,0,_,rfl,rfl,aX.of (zN _ _ d0),az (j:=0) rfl,cS,λM hM=>?_⟩;have zM:=ai hM (.lst [.ref N,.ref q0]);have Qe:=zN.trans zM;refine⟨_,rfl,a,_,0,_,rfl,rfl,aX.of (Qe _ _ Ts),az (j:=0) rfl,rfl,.inr ⟨_,rfl,?_⟩⟩;rw[eQ];cases x with
     |one y=>cases EH
     |both p q =>
      cases EH;rw[show decide ((Wk.both p1 p2).nm="meet")=false from X7 (by show("both" : Str)≠"meet";decide +kernel)];refine⟨M,_,0,_,rfl,rfl,bb.of ae,az (j:=0) rfl,ak (fin (od:=[]) Qe ⟨[],zM _ _ ae,.nil⟩ ?_ ?_)⟩
      ·have nN:N≠L7:=λe=>by rw[←e,hN]at K6;cases K6
       exact⟨.inl (ke s7 hN),nN,nN⟩
      ·unfold Lu;rw[YF (by show(("both" : Str)≠"meet");decide +kernel)];rfl
     |meet c d p q =>cases EH;rw[show decide ((Wk.meet c d p1 p2).nm="meet")=true from X8 rfl];refine⟨M,_,1,_,rfl,rfl,bb.of ae,rfl,ak (fin Qe (UL.same Qe) ⟨x0.1,x0.2.1,x0.2.1⟩ ?_)⟩;unfold Lu;rw[YG (show(Wk.meet c d p1 p2).nm="meet" from rfl)];rfl
   ·rintro H5 ⟨e,U⟩;have e:=of_decide_eq_false e.symm;cases x with
    |both p1 p2=>exact YE (.inl rfl) e
    |meet c d p1 p2=>exact YE (.inr rfl) e
    |one y =>
     obtain⟨lk,hk1,hk2,hk3⟩:=hkf;have s5:=sT.trans U;have o:=dq.mp fx;refine⟨_,rfl,_,rfl,_,rfl,lc,_,rfl,.inl (bb.of (U _ _ nR)),⟨kn,a,lk,(cT n O (ws.take i)).2,y,(cT n O (ws.take i)).1.length,by rw[X9];rfl,U _ _ hk1,hk2.same U,c7.mp (NW s5),o.fit.ok.sm,o.nm,ek.2.1,ek.1,λu H6 s6 DH=>ak (hR _ _ ⟨u,L,as,⟨_,_,_,_,rfl⟩,s5.trans s6,(U.trans s6) _ _ nR,?_,(U.trans s6) _ _ hL,?_,hLH⟩)⟩⟩
     ·rw[zu];refine DH.imp λl w' h z=>?_;rcases z with z|z
      ·exact⟨.inl (ke s5 z),λe=>(by have:=U _ _ hL;rw[←e,z]at this;cases this),λe=>(by have:=U _ _ hL;rw[←e,z]at this;cases this)⟩
      ·rw[z];exact hk3
     ·rw[rk,YO];exact hA.same (U.trans s6)
  rintro σ H6 ⟨NR,L',as',⟨o7',o8',RH,JC,rfl⟩,s6,yN,Wq,qv,EJ,Ol⟩;refine⟨_,rfl,_,rfl,eG,λu7 CN=>?_⟩;have z7:=ai CN (.tup [.ref a]);refine⟨lc,u7,tp,_,[x],rfl,z7 _ _ yN,HX,⟨[a],ae,rfl,λj a' x' e1 e2=>?_⟩,⟨(by show 1<=5;decide),λj x' e=>?_⟩,λu8 H8 s8 fJ=>ak ?_⟩
  ·cases j with
   |zero=>cases e1;cases e2;exact NW (s6.trans z7)
   |succ j=>cases e1
  ·cases j with
   |zero=>cases e;exact fx
   |succ j=>cases e
  dsimp only;have z8:=z7.trans s8;have fJ:bX H8 u8 (cT n O (ws.take i++[x])).1:=by rw[iP,Lo];exact fJ
  refine⟨_,rfl,.inl ⟨rfl,_,bb.of (z8 _ _ qv)⟩,_,rfl,_,rfl,_,_,rfl,rfl,eG,λu9 QD=>?_⟩;have z9:=ai QD (.tup [.int ((i:Nat)+1)]);refine⟨ah,u9,_,_,rfl,rfl,z9 _ _ (z8 _ _ (s6 _ _ SA)),ae,by rw[X9,List.length_singleton];exact X6 (show _<=1000 by omega) (by decide),λGz Df qN Rh=>⟨_,rfl,cS,λa11 Se=>?_⟩⟩;have RN:=ai Se (.tup [.ref Gz,.ref NR]);have Qt:=z8.trans (z9.trans (qN.trans RN));have C7:=Qt _ _ qv;have O8:=(hf.pre (i+1)).ss hs;rw[PX,←H_]at O8;have kf:=sC.dP (o:=.lst (as'.map V.ref++[.ref a11])) C7 (λl z=>z.2.1) (Wq.same Qt);refine⟨L',_,_,rfl,rfl,C7,?_,u8,NR,L',as'++[a11],⟨_,_,_,_,_,_,rfl⟩,bg Ol (s6.trans Qt),?_,?_,by rw[ae,Ya];rfl,?_,Ol⟩
  ·rw[X9,EJ.len,X_];exact Yb hlen (by decide)
  ·have h11:bX _ u8 _:=(z9.trans (qN.trans RN)) _ _ fJ;rw[PX,bX,aI (F_ h11 O8.pos C7)];exact h11
  ·rw[PX,iP];exact kf
  ·rw[PX,Ui,←List.append_assoc,iP];refine(qE.dP C7 (λl z=>z.2.1) (EJ.same Qt)).app (qE.one (e:=(pi++[((0+(i+1):Nat):Int)],mr n (cT n O (ws.take i)) x)) ⟨Gz,NR,aE.refl.dP C7 _ _ ae,aE.refl.dP C7 _ _ (RN _ _ ?_),kf⟩);rw[Rh,Ya,show((0+(i+1):Nat):Int)=(i:Nat)+1 by omega];rfl
 ·rintro σ H' ⟨lc,kn,L,as,⟨o5,o6,o7,o8,o9,p9,rfl⟩,s',nR,hkf,hL,hA,hLH⟩;rw[hlb,YJ]at hA;exact⟨_,rfl,q L as H' s' hL (hA.imp λ_ _ _ z=>z.1)⟩
end My
namespace L2
open PySem PySem.Spec PyProof.Rows
theorem D6{X:Cx}:gJ X (.builtin "isinstance") (λxs H Q=>∃a ys,xs=[.ref a,.ty "tuple"]/\aX X.K H a ys/\Q (.bl true) H):=by intro ac s σ H xs us Q I r h;obtain⟨a,ys,rfl,O,q⟩:=h;obtain⟨u,U,rfl,r1,r2⟩:=vals2 r;cases(show U=Value.type "tuple" from r2);cases r1;obtain⟨its,_,pl,_⟩:=I.tuple O;obtain⟨o,h1,h2,_⟩:=pl;exact PySem.W.kia_one PySem.W.kitx_tuple I.mY ⟨o,h1,h2⟩ (show PySem.W.kitOne X.K (.type "tuple") (.type "tuple")=some true from by unfold PySem.W.kitOne;exact YG (by decide)) (λz=>nomatch z) λtk=>⟨.bl true,H,I.tok _,rfl,q⟩
end L2
namespace My
open PySem L2
theorem Ds(o:Od):cG (o.map dE)<=1:=by
 induction o with
 |nil=>exact Yq _
 |cons e o z =>rw[YT,cG];exact Nat.max_le.mpr ⟨by simp[dE,D.depth,cG],z⟩
theorem Ju(k:Kf):(dF k).depth<=3:=by
 have h1:(dO k.od).depth<=2:=by show(D.tup (k.od.map dE)).depth<=2;rw[D.depth];have:=Ds k.od;omega
 have h2:(dM k.mo).depth=0:=by cases k.mo<;>rfl
 show(D.tup [dO k.od,dM k.mo,.bl k.un]).depth<=3;rw[D.depth,cG,cG,cG,cG,h2];have h3:(D.bl k.un).depth=0:=by rw[D.depth];all_goals simp
 rw[h3];omega
theorem UD{d:D}:(!dj d d)=false:=by rw[nW];rfl
def aN:Nat->Nat
 | 0=>0
 |n+1=>2*(5*(aN n+1)+1)
theorem Em:∀(n:Nat){tp:Bool}{s:HK}{x:Wk}{pl:List Int},jQ tp n s.1 x->(gw n s pl x).length<=aN n
 |n,tp,s,.one x,pl,z=>by rw[rk];exact Yq _
 |n+1,tp,s,x,pl,z=>by
  have L:∀{ws:List Wk}{pl:List Int},gO false n s.1 ws->(AL n pl 0 s ws).length<=5*(aN n+1)+1:=λ{ws pl} f=>by
   have:=f.ind (λws=>(AL n pl 0 s ws).length<=ws.length*(aN n+1)+1) (by show 1<=0*(aN n+1)+1;rw[Nat.zero_mul];exact X5 _) λws x _ _ U z=>by rw[←H_]at z;have:=Em n (pl:=pl++[((0+ws.length:Nat):Int)]) z;rw[jS,X_,X_,X_,List.length_singleton,List.length_singleton,Nat.succ_mul];omega
   have h5:=Nat.mul_le_mul_right (aN n+1) f.few;omega
  have O:∀{p q:List Wk},cm x=[p,q]->gO false n s.1 p->gO false n s.1 q->(gw (n+1) s pl x).length<=aN (n+1):=λ{p q} eb fp fq=>by show(oA n (gw n) s pl 0 (cm x)).length<=_;rw[eb];show(AL n _ 0 s p++(AL n _ 0 s q++[])).length<=2*(5*(aN n+1)+1);rw[YO,X_];have:=L (pl:=pl++[((0:Nat):Int)]) fp;have:=L (pl:=pl++[((0+1:Nat):Int)]) fq;omega
  cases x with
  |one x=>rw[rk];exact Yq _
  |both p q=>exact O rfl z.1 z.2.1
  |meet c d p q=>exact O rfl z.2.1 z.2.2.1
theorem Top.len{ss:Hd}{ws:List Wk}{fr:Bool}(h:Top ss ws fr):(AL 2 [] 0 (ss,m3) ws).length<=90000:=by
 have:=h.fit.ind (λws=>(AL 2 [] 0 (ss,m3) ws).length<=ws.length*(aN 2+1)+1) (X5 _) λws x _ _ O z=>by have:=Em 2 (s:=cT 2 (ss,m3) ws) (pl:=[]++[((0+ws.length:Nat):Int)]) z;rw[jS,X_,X_,X_,List.length_singleton,List.length_singleton,Nat.succ_mul];omega
 have h5:=Nat.mul_le_mul_right (aN 2+1) h.fit.few;have e:aN 2=132:=rfl;rw[e]at this h5;omega
inductive vb(K:YY)(vs:List V)(H:Hp)(Q:VK)(E:XK):Prop
 |mk (l p pa ka:Addr) (us:List V) (ss:Hd) (ws:List Wk) (fr:Bool) (pi:List Int) (s:HK) (_:vs=[.ref l,.ref p,.ref pa,.ref ka]) (_:sI K H l us ss) (_:jA 2 H p ws) (_:Top ss ws fr) (_:H pa=some (.tup (pi.map V.int))) (_:(pi,s)∈AL 2 [] 0 (ss,m3) ws) (_:WL K H ka s.2) (_:s.2.od.length<=1000) (_:∀H',aH H H'->Q (.bl true) H'):vb K vs H Q E
abbrev f9:Stmt:=top 100
theorem kq:ax ["_law_kind_here","_law_pipe_here","_law_place","_law_known","_law_found"] ["_law_kind_here","_law_pipe_here","_law_place","_law_known"] (aq f9):=fs
variable{P:Program}{w:World}{K:YY}{mg:Z0}{base:Heap}
theorem JA{L:Nat}(B:j_ mg)(B2:nM mg)(mb:mg "bool"=none)(F:FA K mg "_law_is_told" f9)
  (yX:bz (yy P w) P w K mg base (L+8) "facts_at" ["kind","pipe","place"] (LK K 2)) :
  bz bx P w K mg base (L+9) "_law_is_told" ["_law_kind_here","_law_pipe_here","_law_place","_law_known"] (vb K):=by
 refine F.ok kq λf cdv A outer s H vs Q E hr h=>?_;have hu:=fJ hr;have O:=jF hr;obtain⟨l,p,pa,ka,us,ss,Wj,fr,pi,s0,rfl,hK,hP,hT0,hpa,hin,hk,hkz,q⟩:=h;refine⟨_,(ao (aU (i:=4) kq.nd rfl (YI rfl) (t_ yX hr rfl OG (aa (pv 0) (aa (pv 1) (aa (pv 2) ag)))))
   (bE (PW.pt (oE (pQ (je (aP D6 rfl B.isinstance PyProof.Rows.boot_isinstance (aa (pv 4) (aa (rJ (n:="tuple") rfl B.tuple YM) ag))))) (jG (ba F0 (pv 4) (aW (aa (bA bu rfl B.tuple YM (aa (aJ K (pv 3) aj) ag)) (aa (aJ K (pv 3) aj) (aa (aJ K (pv 3) aj) ag)))))))) cR
   (ay (kK (aP (oj (n:="bool")) rfl B.isinstance PyProof.Rows.boot_isinstance (aa (aJ K (pv 4) aj) (aa (rJ (n:="bool") rfl mb (by decide +kernel)) ag))) (jq (aP (ip rfl) rfl B2.all PyProof.Rows.boot_all (aa (bM (N':=["_law_column","_law_down"]) (src:=[none,none]) rfl (bq.jN (by kernel_rfl)) (cP (aJ K (pv 4) aj)) (g:=(n4 K 2 (cQ (b9 0) (cQ (b9 1) pC)))) (λcl C s H fp=>(bU rfl (ar (gg (i:=0)) (ar (gg (i:=1)) bF)))) (λcl C s H fp=>bD) (te:=(P4 (NX K "bool") (c6 (br 1) (c6 (tC (.ty "bool")) ll)))) (λcl C s H fp=>(aP (oj (n:="bool")) GJ B.isinstance PyProof.Rows.boot_isinstance (aa (gK 1) (aa (rJ (n:="bool") GJ mb (by decide +kernel)) ag))))) ag))))))),?_⟩
 obtain⟨f',Q3,_⟩:=hT0.put;obtain⟨lo,hka,hod⟩:=hk;obtain⟨ws,hlo,RC⟩:=hod;refine⟨_,rfl,_,rfl,_,rfl,⟨l,p,pa,us,ss,_,Wj,pi,f',s0,rfl,hK,hT0.Rc.six,hP,hT0.Wi,hpa,by decide,by decide,Q3,hT0.ek,hin,λu H1 s1 O=>ak ?_⟩⟩;dsimp only;revert hka RC O hkz;generalize s0.2=k;intro hkz hka RC O;obtain⟨a,t,rfl,ha,ht⟩:=lC O;obtain⟨ta,zs,rfl,hS,S9⟩:=ja ht;have LS:=i3 S9;refine bL (λb H'=>b=false/\aH H1 H') (λT hT=>?_) (λH' z=>YE z.1 (by decide)) (λH2 U=>?_)
 ·refine oU ⟨_,rfl,a,_,rfl,ha,_,rfl,cK ?_⟩;have Mv:=s1 _ _ hka;refine⟨_,rfl,_,rfl,ka,_,0,_,rfl,rfl,aX.of Mv,az (j:=0) rfl,lo,ws,rfl,.inl ⟨bb.of (s1 _ _ hlo),λT1 hT1=>?_⟩⟩;have z1:=ai hT1 (.tup ws);refine⟨_,rfl,ka,_,1,_,rfl,rfl,aX.of (z1 _ _ Mv),rfl,_,rfl,ka,_,2,_,rfl,rfl,aX.of (z1 _ _ Mv),rfl,cz,λT2 hT2=>?_⟩;have U:=ai hT2 (.tup [.ref T1,mV k.mo,.bl k.un]);have hd:(A.deeper (PyProof.Rows.envOfC "_law_is_told" (aq f9) s.heap.objs.size f cdv)).units+(dF k).depth<cLine:=by have:=Ju k;have:=hu;omega
  refine⟨dF k,dF k,O.same (z1.trans U),FC (aX.of ae) (cY (U _ _ ae) (RC.same (s1.trans (z1.trans U)))),hd,_,rfl,?_⟩;exact hT _ _ ⟨UD,z1.trans U⟩
 have ha2:=U.2.fA ha;refine qP ⟨_,rfl,a,_,2,_,rfl,rfl,ha2,rfl,_,_,true,rfl,.bl _,sx (by decide),_,rfl,cJ ?_⟩;refine⟨_,rfl,a,_,0,_,rfl,rfl,ha2,az (j:=0) rfl,ta,rfl,⟨_,U.2.fA hS⟩,λD hD=>?_⟩;refine c_ (xs:=zs) (λi σ ys H'=>(∃o1 o2,σ=[o1,o2])/\ys=(List.replicate i true).map V.bl/\ys.length=i/\H' D=some (.lst ys)/\aH H2 H') ⟨⟨none,none,rfl⟩,rfl,rfl,ae,ai hD _⟩ ?_ ?_ ?_ ?_ ?_
 ·rintro i σ ys H' _ ⟨_,_,hi,h,_⟩;exact⟨h,YR hi⟩
 ·rintro i σ ys H' _ ⟨_,_,_,_,sm⟩;exact(U.2.trans sm).fA hS
 ·rw[LS];exact X6 hkz (by decide)
 ·rintro i v σ ys H' hv ⟨⟨o1,o2,rfl⟩,rfl,hi,h,sm⟩;obtain⟨e,c,he,rfl,hc⟩:=iU S9 hv;refine⟨c,_,rfl,(U.2.trans sm).fA hc,rfl,_,_,rfl,ak ⟨_,_,rfl,ak ⟨rfl,?_⟩⟩⟩;refine⟨_,rfl,_,_,true,rfl,.bl _,sx (by decide),h,⟨_,_,rfl⟩,?_,?_,ae,bg hD sm⟩
  ·rw[List.replicate_succ',Ya];rfl
  ·rw[X_,hi];rfl
 rintro σ ys H3 ⟨_,rfl,_,h3,sm⟩;refine⟨D,_,rfl,bb.of h3,?_⟩;rw[show(List.replicate zs.length true).all id=true by simp];exact q _ (s1.trans (U.2.trans sm))
theorem qT{p:Addr}{H H1 H2:Hp}(z:H p=none)(s:aH H H1)(g:bt p H1 H2):aH H H2:=λb o e=>g.keep b o (aY e z) (s _ _ e)
theorem zY{K:YY}{H:Hp}{l D:Addr}{us:List V}{ss:Hd}{R:VK}(z:sI K H l us ss)(hz:ss.length<=6)(O:H D=none)(k:∀H',aH H H'->bX H' D ss->R (.ref D) H'):∃W:Nat->Nat->St->List V->Hp->Prop,(∃m,W 0 m [none] [] (upd H D (.lst [])))/\qd (GB K l) (b9 0) Ef (eC (jt K) (br 0) (tC (.int 0))) D R W:=by
 have U:=z.len;refine el (xs:=us) (λi σ ys H'=>(∃o1,σ=[o1])/\ys=(ss.take i).map V.str/\ys.length=i/\H' D=some (.lst ys)/\aH H H') ⟨⟨none,rfl⟩,rfl,rfl,ae,ai O _⟩ ?_ ?_ ?_ ?_ ?_
 ·rintro i σ ys H' _ ⟨_,_,hi,h,_⟩;exact⟨h,YR hi⟩
 ·rintro i σ ys H' _ ⟨_,_,_,_,sm⟩;exact bb.of (sm _ _ z.lst)
 ·rw[U];exact X6 hz (by decide)
 ·rintro i x σ ys H' hx ⟨⟨o1,rfl⟩,rfl,hi,h,sm⟩;obtain⟨b,s',r,rfl,es,hb⟩:=z.get hx;refine ak ?_;refine⟨_,rfl,b,_,0,_,rfl,rfl,sm.fA hb,az (j:=0) rfl,h,⟨_,rfl⟩,?_,?_,ae,bg O sm⟩
  ·rw[take_one es,Ya];rfl
  ·rw[X_,hi];rfl
 rintro σ ys H' ⟨_,rfl,_,h,sm⟩;rw[U,YJ]at h;exact k H' sm h
def Br(K:YY):Sp:=λvs H Q _=>∃(a:Addr)(ns:List Int),vs=[.ref a]/\bb K H a (ns.map V.int)/\ns.length<=63/\∀H',Q (.bl true) H'
theorem Km{K:YY}{H H':Hp}{a:Addr}{xs:List V}(s:aH H H')(h:bb K H a xs):bb K H' a xs:=by
 rcases h with(h|⟨o,h⟩)|h
 ·exact .inl (.inl (s _ _ h))
 ·exact .inl (.inr ⟨o,s _ _ h⟩)
 ·exact .inr h
theorem Oa{K:YY}{H:Hp}{l:Addr}{us:List V}{ds:List D}(h:IX K H l us ds):cL (ds.map xi):=by
 refine⟨by rw[X9];exact h.pos,by rw[X9];exact X6 h.few (by decide),λs hs=>?_⟩;obtain⟨d,hd,rfl⟩:=Yl.mp hs;rcases(jX (h.mem d hd)).2.1 with z|z
 ·exact .inl z
 ·exact .inr (.inl z)
abbrev oq:Stmt:=top 101
theorem nC:ax ["_law_script","_law_kind_here","_law_sorts","_law_k","_law_pipe_here","_law_place","_law_known"] ["_law_script"] (aq oq):=fs
section
variable{P:Program}{w:World}{K:YY}{mg:Z0}{base:Heap}
theorem L6{f:Addr}{fd:FuncData}{L:Nat}(B:j_ mg)(B2:nM mg)(F:Dd K "law" "law" oq f fd)
  (sd:bz bx P w K mg base L "_law_pot" ZF (Fy K))
  (wU:bz bx P w K mg base L "_law_kind" ["_law_pot_here"] (vY K))
  (yk:bz bx P w K mg base L "_law_pipe" ["_law_pot_here","_law_sorts","_law_most"] vX)
  (j4:bz bx P w K mg base L "_law_along" ["_law_pipe_here","_law_sorts","_law_known","_law_ahead"] (vG K 3))
  (lg:bz bx P w K mg base L "_law_is_told" ["_law_kind_here","_law_pipe_here","_law_place","_law_known"] (vb K)) :
  f_ P w K mg base bx (L+1) f fd ["_law_script"] (Br K):=by
 refine F.ok nC (λvs H Q E h=>?_) (λcdv A outer s H vs Q E U h=>?_)
 ·obtain⟨a,ns,rfl,_⟩:=h;rfl
 obtain⟨a,ns,rfl,hS,h63,q⟩:=h;refine⟨_,(ao (aU (i:=1) nC.nd rfl (YI rfl) (aG wU U (aa (aG sd U (aa (pv 0) (aa aj ag))) ag)))
   (ao (fE (i:=2) (N':=["_law_here"]) (src:=[none]) nC.nd rfl (YI rfl) rfl rfl (bq.jN (by kernel_rfl)) (dg (pv 1)) (λcl C s H fp=>(gg (i:=0))) (λcl C s H fp=>bD) (te:=(eC (jt K) (br 0) (tC (.int 0)))) (λcl C s H fp=>(aJ K (gK 0) aj)))
   (ao (dR PassesOwn.never rfl (oY rfl B.range (aa aj (aa (aL cw aj (aP (pR rfl) rfl B2.min PyProof.Rows.boot_min (aa aj (aa (aP (uy rfl) rfl B.max PyProof.Rows.boot_max (aa aj (aa (aL bN (aP aM rfl B.len YW (aa (pv 0) ag)) aj) ag))) ag)))) ag))) (aQ (i:=3) nC.nd rfl (YI rfl))
    (ao (aU (i:=4) nC.nd rfl (YI rfl) (aG yk U (aa (aG sd U (aa (pv 0) (aa (pv 3) ag))) (aa (pv 2) (aa aj ag)))))
     (bC (dR PassesOwn.never rfl (dg (aG j4 U (aa (pv 4) (aa (pv 2) (aa (aW (aa (bw ag) (aa dk (aa cR ag)))) (aa (aW ag) ag)))))) (bU rfl (ar (aQ (i:=5) nC.nd rfl (YI rfl)) (ar (aQ (i:=6) nC.nd rfl (YI rfl)) bF)))
      (bC (fi (PW.pt (oE (pQ (je (aG lg U (aa (pv 1) (aa (pv 4) (aa (pv 5) (aa (pv 6) ag))))))) (jG (pQ (je (aG lg U (aa (pv 1) (aa (pv 4) (aa (pv 5) (aa (pv 6) ag))))))))))
        (ay cR)
        dc))))))
   (ay cR)))),?_⟩
 have hl:(ns.map V.int).length=ns.length:=X9 _;refine⟨_,rfl,⟨a,ns,0,rfl,hS,by decide,by decide,λp H1 hp s1 hP=>?_⟩⟩;refine⟨p,rfl,hP,λl us ds H2 g2 Ql=>ak ?_⟩;dsimp only;have s2:=qT hp s1 g2;have z:=Oa Ql;refine⟨_,rfl,l,rfl,⟨_,bb.of Ql.lst⟩,λD hD=>zY Ql.kd z.six hD λH3 z3 h3=>ak ?_⟩;dsimp only;have s3:=s2.trans z3;have Rp:=Ql.kd.same z3;revert Rp h3 z;generalize ds.map xi=ss;intro z h3 Rp;refine⟨_,rfl,a,_,rfl,.inl (Km s3 hS),_,_,rfl,rfl,_,_,rfl,_,_,rfl,_,_,rfl,rfl,2,_,rfl,?_,?_⟩
 ·have e:((2:Int) ^ 62)=4611686018427387904:=by decide
  rw[e];refine⟨by decide,by decide,?_,?_⟩
  ·split<;>split<;>omega
  ·split<;>split<;>omega
 refine gq (λi σ H'=>(∃o3 o4 o5 o6,σ=[some (.ref a),some (.ref l),some (.ref D),o3,o4,o5,o6])/\aH H3 H') ⟨⟨none,none,none,none,rfl⟩,aH.refl _⟩ ?_ ?_
 ·rintro i σ Hi hi ⟨⟨o3,o4,o5,o6,rfl⟩,si⟩;have T9:(i:Int)<=20:=by revert hi;split<;>split<;>omega
  refine ak ?_;dsimp only;refine⟨_,rfl,_,rfl,⟨a,ns,_,rfl,Km (s3.trans si) hS,by omega,by omega,λp4 H4 Xx s4 Xf=>?_⟩⟩;have Nw:bX H4 D ss:=s4 _ _ (si _ _ h3);refine⟨_,rfl,⟨p4,D,ss,rfl,Xf,Nw,z,λt ws fr H5 g5 Nd hT=>ak ?_⟩⟩;dsimp only;have s5:=si.trans (qT Xx s4 g5);have GN:bX H5 D ss:=(s5) _ _ h3;refine⟨_,rfl,_,rfl,Yq _,λu1 h1=>⟨cz,λu2 h2=>⟨sG,λu3 h3'=>?_⟩⟩⟩;have y1:=ai h1 (.lst []);have y2:=ai h2 (.tup [.ref u1,.non,.bl false]);have y3:=ai h3' (.tup []);have y:=y1.trans (y2.trans y3);refine⟨t,D,u2,u3,u1,true,ws,(ss,m3),[],rfl,Nd.keep (aE.of y),y _ _ GN,z,y3 _ _ ae,⟨[],(y2.trans y3) _ _ ae,.nil⟩,ae,hT.fit,hT.ek,hT.len,by decide,by decide,λL as H6 s6 qv EJ=>⟨L,rfl,⟨_,bb.of qv⟩,?_⟩⟩;have SM:=s5.trans (y.trans s6);have Q0:=Nd.keep (aE.of (y.trans s6));refine nZ (xs:=as.map V.ref) (λj σ H'=>(∃o5 o6,σ=[some (.ref a),some (.ref l),some (.ref D),some (.int (2+(i:Int))),some (.ref t),o5,o6])/\aH H6 H') ⟨⟨_,_,rfl⟩,aH.refl _⟩ ?_ ?_ ?_
  ·rintro j σ H' _ ⟨_,s'⟩;exact bb.of (s' _ _ qv)
  ·rintro j v σ H' hv ⟨⟨o5,o6,rfl⟩,s'⟩;rw[Yu]at hv;cases ea:as[j]? with
   |none=>rw[ea]at hv;cases hv
   |some b =>
   rw[ea]at hv;cases hv;have hj:j<(AL 2 [] 0 (ss,m3) ws).length:=by rw[←EJ.len];exact(Yj.mp ea).1
   obtain⟨pa,ka,w1,w2,lk,w3,w4,_⟩:=EJ.at_ j b _ ea (Yd hj);have hin:((AL 2 [] 0 (ss,m3) ws)[j].1,(AL 2 [] 0 (ss,m3) ws)[j].2)∈AL 2 [] 0 (ss,m3) ws:=List.getElem_mem hj;have ek:=hT.ek _ hin;have O:∀{Ha:Hp}{R:VK},aH H6 Ha->(∀Hb,aH Ha Hb->R (.bl true) Hb)->vb K [.ref l,.ref t,.ref pa,.ref ka] Ha R E0:=λ{Ha R} sa hR=>⟨l,t,pa,ka,us,ss,ws,fr,_,_,rfl,Rp.same (SM.trans sa),Q0.keep (aE.of sa),hT,sa _ _ w2,hin,⟨lk,sa _ _ w3,w4.same sa⟩,ek.2.1,hR⟩;refine⟨b,_,rfl,aX.of (s' _ _ w1),rfl,_,_,rfl,ak ⟨_,_,rfl,ak ⟨rfl,?_⟩⟩⟩;dsimp only;refine oU ⟨_,rfl,_,rfl,_,rfl,_,rfl,O s' λHb sb=>⟨_,rfl,cK ?_⟩⟩;exact⟨_,rfl,_,rfl,_,rfl,_,rfl,O (s'.trans sb) λHc sc=>⟨_,rfl,cK (bR ⟨⟨_,_,rfl⟩,s'.trans (sb.trans sc)⟩)⟩⟩
  ·rintro σ H' ⟨⟨o5,o6,rfl⟩,s'⟩;exact⟨⟨_,_,_,_,rfl⟩,SM.trans s'⟩
 ·rintro σ H' ⟨⟨o3,o4,o5,o6,rfl⟩,_⟩;exact q _
end
def Bg(K:YY)(C PE:Addr):Bool:=(match PySem.W.clsIn K C with|some cd=>cd.mro == .ref C :: .ref PE::u0&&cd.hasDict|none=>false)&&PySem.W.mroIn K C (.type "object")==some true &&
 PySem.W.findIn K (.ref C) "__setattr__"==some (some (.builtin "object.__setattr__"))&&PySem.W.findIn K (.ref C) "__getattribute__"==some (some (.builtin "BaseException.__getattribute__"))&&PySem.W.findIn K (.ref C) "__getattr__"==some none&&PySem.W.mroIn K C (.type "BaseException")==some true&&PySem.W.findIn K (.ref C) "__class__"==some (some (.builtin "object.__class__"))
theorem Bh{K:YY}{C PE:Addr}(h:Bg K C PE=true)(cg:PySem.W.specialIn K (.builtin "object.__class__") "__get__"=some (some (.builtin "getset_descriptor.__get__")))(ct:PySem.W.takesIn K (.builtin "object.__class__")=some true):xC K C:=by
 unfold Bg at h;simp only[YC,beq_iff_eq]at h;obtain⟨⟨⟨⟨⟨⟨h1,h2⟩,h3⟩,h4⟩,h6⟩,h7⟩,h5⟩:=h;split at h1
 ·rename_i cd e;simp only[YC,beq_iff_eq]at h1;exact⟨⟨cd,PE,e,h1.1,h1.2⟩,h2,h3,h4,h6,h7,h5,cg,ct⟩
 ·cases h1
def jd(K:YY)(d:Addr)(key:Str)(f:Addr):Bool:=match K.lookup d with
 |some o=>o.cls == .type "dict"&&o.dict==none&&o.slots.isEmpty&&(match o.data with
  | .dict es _=>es.all (λe=>isExactStrKey e.key)&&(match es.findIdx? (λe=>e.key.isStr key)with
   |some i=>(match es[i]? with
    |some e=>(match e.key,e.val with
     | .str k _,.ref g=>k==key&&g==f
     |_,_=>false)
    |none=>false)
   |none=>false)
  |_=>false)
 |none=>false
theorem ck{K:YY}{d:Addr}{key:Str}{f:Addr}(h:jd K d key f=true):cM K d key f:=by
 unfold jd at h;split at h
 ·rename_i o e;obtain⟨c,di,dt,sl⟩:=o;simp only[YC,beq_iff_eq]at h;obtain⟨⟨⟨h1,h2⟩,h3⟩,h4⟩:=h;subst h1 h2;have z:sl = #[]:=by simpa using h3
  subst z;split at h4
  ·rename_i es ep;simp only[YC]at h4;obtain⟨h5,h6⟩:=h4;split at h6
   ·rename_i i ei;split at h6
    ·rename_i en Xi;obtain⟨x,k,v⟩:=en;split at h6
     ·rename_i k' t g e1 e2;have O:k=.str k' t:=e1;have U:v=.ref g:=e2;subst O U;simp only[YC,beq_iff_eq]at h6;obtain⟨h7,h8⟩:=h6;subst h7 h8;exact⟨es,ep,i,x,t,e,h5,ei,Xi⟩
     ·cases h6
    ·cases h6
   ·cases h6
  ·cases h4
 ·cases h
def yx(K:YY)(d:Addr)(key:Str):Bool:=!(d==sysModules)&&match K.lookup d with
 |some o=>o.cls == .type "dict"&&o.dict==none&&o.slots.isEmpty&&(match o.data with
  | .dict es _=>es.all (λe=>isExactStrKey e.key)&&(es.findIdx? (λe=>e.key.isStr key)).isNone
  |_=>false)
 |none=>false
theorem i5{K:YY}{d:Addr}{key:Str}(h:yx K d key=true):jy K d key:=by
 unfold yx at h;simp only[YC,Bool.not_eq_true']at h;obtain⟨h0,h⟩:=h;refine⟨h0,?_⟩;split at h
 ·rename_i o e;obtain⟨c,O,U,sl⟩:=o;simp only[YC,beq_iff_eq]at h;obtain⟨⟨⟨h1,h2⟩,h3⟩,h4⟩:=h;subst h1 h2;have z:sl = #[]:=by simpa using h3
  subst z;split at h4
  ·rename_i es ep;simp only[YC]at h4;exact⟨es,ep,e,h4.1,Option.isNone_iff_eq_none.mp h4.2⟩
  ·cases h4
 ·cases h
theorem Ld{C:Addr}{L:Nat}(F:FA K mg "go_through" ib):bz (yy P w) P w K mg base (L+1) "go_through" ["pipe","begun","prefix","found"] (AG C 0) :=
 F.Ll cj λ_ _ _ _ _ _ _ _ _ _ h=>YK h
theorem HU(F:FA K mg "follow" nY):bz bx P w K mg base 1 "follow" ["pipe","begun","prefix","heads","found"] (vx K 0) :=
 F.ok d_ λ_ _ _ _ _ _ _ _ _ _ h=>YK h
theorem Mm(F:FA K mg "_law_stills" gy):bz bx P w K mg base 1 "_law_stills" ["_law_pot_here","_law_sorts","_law_deep","_law_rest"] (AY 0) :=
 F.ok eK λ_ _ _ _ _ _ _ _ _ _ h=>YK h
theorem Ml(F:FA K mg "_law_head_behind" dN):bz bx P w K mg base 1 "_law_head_behind" ZQ (yu 0) :=
 F.ok bZ λ_ _ _ _ _ _ _ _ _ _ h=>YK h
theorem LQ(F:FA K mg "_law_along" ia):bz bx P w K mg base 1 "_law_along" ["_law_pipe_here","_law_sorts","_law_known","_law_ahead"] (vG K 0) :=
 F.ok bO λ_ _ _ _ _ _ _ _ _ _ h=>YK h
theorem dH{K:YY}{x:Str}{st:Stmt}{f:Addr}{oc:Value}{od an:Option Addr}{osl:Array (Z5)}{kV doc pm cdv ct:Value}(a:PySem.W.nsIn K mainGlobals x=some (some (.ref f)):=by k_is)
  (l:K.lookup f=some ⟨oc,od,.func (PySem.W.fnOf x x (fw st) (du st) (aq st) .none kV doc pm an cdv ct),osl⟩:=by k_is) (c:PySem.W.codeIn K cdv x=true:=by k_is) (k:PySem.W.keepIn K (.ref f)=true:=by k_is):FK K x st f:=Oi a l c k
theorem all_mk{l:PySem.W.OpenLaw}{w:World}{K:YY}{h:Heap}{mg:Z0}{fa:Addr}(X:K.In h)(G:h.Ns mainGlobals mg)(hfa:mg "law"=some (.ref fa))
  {O CP PE U aS aT aB aO aF aA aZ:Addr} {Xo VO UM Th:Option Addr} {tT tW S3 tb2 TV to2 to3 TY S2:Tok} {nB nO nA n1:Nat} {UQ Vw Wf WC:Array (Z5)}
  {Ci:Addr} {NI Np:Option Addr} {OV:Array (Z5)} {OI Pw Og PF JI OJ:Value}
  {rG yG ym Cy fP fQ mM gu lL mJ zJ sF qz w_ p5 p0 qQ qb pZ p_ qg qc xu EV lM jE mK gb lE kJ wW tF tR zy tj C1 rF ve F3 BQ sX zR lP Jy jk gQ mX kE iq kh lT nV mO mZ rO Ej yp Cm zo wc Af r8 vC vM xJ tQ rA v_ my vd tM wK qm nt xl xn xK vQ tO vS wg rP:Addr}
  (a0:FK K "_law_cell_at" Du rG:=by exact My.dH)
  (a1:FK K "_law_pot" MF yG:=by exact My.dH)
  (a2:FK K "_law_draw" EK ym:=by exact My.dH)
  (a3:FK K "sort_of" pG Cy:=by exact My.dH)
  (a4:FK K "no_columns" jW fP:=by exact My.dH)
  (a5:FK K "one_column" j3 fQ:=by exact My.dH)
  (a6:FK K "two_columns" i7 mM:=by exact My.dH)
  (a7:FK K "listed_columns" gk gu:=by exact My.dH)
  (a8:FK K "sort_columns" ir lL:=by exact My.dH)
  (a9:FK K "sum_columns" i6 mJ:=by exact My.dH)
  (a10:FK K "is_there" nE zJ:=by exact My.dH)
  (a11:FK K "columns_fit" jo sF:=by exact My.dH)
  (a12:FK K "are_same_sort" gV qz:=by exact My.dH)
  (a13:FK K "cells_fit" kH w_:=by exact My.dH)
  (a14:FK K "keep_fits" lh p5:=by exact My.dH)
  (a15:FK K "same_fits" lV p0:=by exact My.dH)
  (a16:FK K "sum_fits" nh qQ:=by exact My.dH)
  (a17:FK K "meet_fits" l7 qb:=by exact My.dH)
  (a18:FK K "both_fits" k_ pZ:=by exact My.dH)
  (a19:FK K "turn_fits" kM p_:=by exact My.dH)
  (a20:FK K "walk_fits" lr qg:=by exact My.dH)
  (a21:FK K "must_fits" kF qc:=by exact My.dH)
  (a22:FK K "sorts_fit" lW xu:=by exact My.dH)
  (a23:FK K "picked" rn EV:=by exact My.dH)
  (a24:FK K "head_of_walk" iK lM:=by exact My.dH)
  (a25:FK K "head_of_number" gm jE:=by exact My.dH)
  (a26:FK K "head_of_cut" js mK:=by exact My.dH)
  (a27:FK K "head_of_tallied" fO gb:=by exact My.dH)
  (a28:FK K "head_of_meet" iu lE:=by exact My.dH)
  (a29:FK K "head_of_must" iA kJ:=by exact My.dH)
  (a30:FK K "head_told" ly wW:=by exact My.dH)
  (a31:FK K "branches_of" jg tF:=by exact My.dH)
  (a32:FK K "name_passed" ji tR:=by exact My.dH)
  (a33:FK K "rows_fit" ny zy:=by exact My.dH)
  (a34:FK K "makes_loose" jn tj:=by exact My.dH)
  (a35:FK K "why_not" pB C1:=by exact My.dH)
  (a36:FK K "known_behind" iz rF:=by exact My.dH)
  (a37:FK K "go_through" ib ve:=by exact My.dH)
  (a38:FK K "survey" ra F3:=by exact My.dH)
  (a39:FK K "look_up" ma BQ:=by exact My.dH)
  (a40:FK K "order_ahead" jb sX:=by exact My.dH)
  (a41:FK K "order_in" nq zR:=by exact My.dH)
  (a42:FK K "with_other_columns" eP lP:=by exact My.dH)
  (a43:FK K "least" uQ Jy:=by exact My.dH)
  (a44:FK K "behind_test" jh jk:=by exact My.dH)
  (a45:FK K "behind_change" g_ gQ:=by exact My.dH)
  (a46:FK K "behind_sort" i8 mX:=by exact My.dH)
  (a47:FK K "behind_apart" iF kE:=by exact My.dH)
  (a48:FK K "behind_tally" iD iq:=by exact My.dH)
  (a49:FK K "behind_number" gU kh:=by exact My.dH)
  (a50:FK K "behind_first" iw lT:=by exact My.dH)
  (a51:FK K "behind_cut" jY nV:=by exact My.dH)
  (a52:FK K "behind_both" jj mO:=by exact My.dH)
  (a53:FK K "behind_meet" jc mZ:=by exact My.dH)
  (a54:FK K "facts_behind" iI rO:=by exact My.dH)
  (a55:FK K "follow" nY Ej:=by exact My.dH)
  (a56:FK K "all_facts" lU yp:=by exact My.dH)
  (a57:FK K "head_of" pX Cm:=by exact My.dH)
  (a58:FK K "facts_at" nJ zo:=by exact My.dH)
  (a59:FK K "_law_cells" jZ wc:=by exact My.dH)
  (a60:FK K "_law_set" nk Af:=by exact My.dH)
  (a61:FK K "_law_columns" iC r8:=by exact My.dH)
  (a62:FK K "_law_pairs" j8 vC:=by exact My.dH)
  (a63:FK K "_law_plain" jJ vM:=by exact My.dH)
  (a64:FK K "_law_kind" lQ xJ:=by exact My.dH)
  (VB:FK K "_law_unlike" jr tQ:=by exact My.dH)
  (Wh:FK K "_law_one_row" iy rA:=by exact My.dH)
  (Vh:FK K "_law_other" jM v_:=by exact My.dH)
  (Xq:FK K "_law_sorts_behind" eZ my:=by exact My.dH)
  (Vv:FK K "_law_still" j7 vd:=by exact My.dH)
  (Rj:FK K "_law_stills" gy tM:=by exact My.dH)
  (Wn:FK K "_law_both" kO wK:=by exact My.dH)
  (Wl:FK K "_law_one_rows" gZ qm:=by exact My.dH)
  (Qx:FK K "_law_head_behind" dN nt:=by exact My.dH)
  (VV:FK K "_law_meet" lJ xl:=by exact My.dH)
  (VY:FK K "_law_next" lu xn:=by exact My.dH)
  (WU:FK K "_law_pipe" lb xK:=by exact My.dH)
  (VU:FK K "_law_shown" jV vQ:=by exact My.dH)
  (Xb:FK K "_law_behind" i9 tO:=by exact My.dH)
  (VJ:FK K "_law_mosts" jI vS:=by exact My.dH)
  (Qc:FK K "_law_along" ia wg:=by exact My.dH)
  (WG:FK K "_law_is_told" f9 rP:=by exact My.dH)
  (Ow:PySem.W.nsIn K mainGlobals "len"=some none:=by k_is)
  (OP:PySem.W.nsIn K mainGlobals "max"=some none:=by k_is)
  (PK:PySem.W.nsIn K mainGlobals "abs"=some none:=by k_is)
  (Eb:PySem.W.nsIn K mainGlobals "divmod"=some none:=by k_is)
  (IF:PySem.W.nsIn K mainGlobals "range"=some none:=by k_is)
  (Jo:PySem.W.nsIn K mainGlobals "tuple"=some none:=by k_is)
  (L_:PySem.W.nsIn K mainGlobals "list"=some none:=by k_is)
  (uP:PySem.W.nsIn K mainGlobals "isinstance"=some none:=by k_is)
  (NQ:PySem.W.nsIn K mainGlobals "int"=some none:=by k_is)
  (N0:PySem.W.nsIn K mainGlobals "min"=some none:=by k_is)
  (PH:PySem.W.nsIn K mainGlobals "all"=some none:=by k_is)
  (ER:PySem.W.nsIn K mainGlobals "sorted"=some none:=by k_is)
  (Pj:PySem.W.nsIn K mainGlobals "set"=some none:=by k_is)
  (OE:PySem.W.nsIn K mainGlobals "str"=some none:=by k_is)
  (OL:PySem.W.nsIn K mainGlobals "any"=some none:=by k_is)
  (Pr:PySem.W.nsIn K mainGlobals "zip"=some none:=by k_is)
  (qf:PySem.W.nsIn K mainGlobals "enumerate"=some none:=by k_is)
  (LH:PySem.W.nsIn K mainGlobals "bool"=some none:=by k_is)
  {Gv:Addr} {K7 Ew:Option Addr} {Md:Array (Z5)} {MI Fe FV Gr z_ D1:Value}
  (NO:PySem.W.nsIn K mainGlobals "law"=some (some (.ref Gv)):=by k_is) (PV:K.lookup Gv=some ⟨MI,K7,.func (PySem.W.fnOf "law" "law" (fw oq) (du oq) (aq oq) .none Fe FV Gr Ew z_ D1),Md⟩:=by k_is) (Pl:PySem.W.codeIn K z_ "law"=true:=by k_is) (NC:PySem.W.keepIn K (.ref Gv)=true:=by k_is)
  (Xs:PySem.W.nsIn K mainGlobals "NoPipe"=some (some (.ref O)):=by k_is)
  (VH:PySem.W.nsIn K mainGlobals "NoPlace"=some (some (.ref CP)):=by k_is)
  (XI:PySem.W.nsIn K mainGlobals "PipeError"=some (some (.ref PE)):=by k_is)
  (zC:PySem.W.nsIn K mainGlobals "COLUMNS_OF"=some (some (.ref U)):=by k_is)
  (zS:PySem.W.nsIn K mainGlobals "SORTS_FIT"=some (some (.ref aS)):=by k_is)
  (zT:PySem.W.nsIn K mainGlobals "HEADS_TOLD"=some (some (.ref aT)):=by k_is)
  (zF:PySem.W.nsIn K mainGlobals "FACTS_BEHIND"=some (some (.ref aF)):=by k_is)
  (zA:PySem.W.nsIn K mainGlobals "AT_FIRST"=some (some (.ref aA)):=by k_is)
  (lA:K.lookup aA=some ⟨.type "tuple",UM,.seq #[.ref aZ,.none,.bool false] nA,Wf⟩:=by k_is)
  (lZ:K.lookup aZ=some ⟨.type "tuple",Th,.seq #[] n1,WC⟩:=by k_is)
  (zB:PySem.W.nsIn K mainGlobals "BRANCHED"=some (some (.ref aB)):=by k_is)
  (zO:PySem.W.nsIn K mainGlobals "ONE_ROW"=some (some (.ref aO)):=by k_is)
  (V6:PySem.W.nsIn K mainGlobals "TALLY"=some (some (.str "t" tT)):=by k_is)
  (zW:PySem.W.nsIn K mainGlobals "WIDEST_ROW"=some (some (.int 6 tW)):=by k_is)
  (lB:K.lookup aB=some ⟨.type "tuple",Xo,.seq #[.str "both" S3,.str "meet" tb2] nB,UQ⟩:=by k_is)
  (lO:K.lookup aO=some ⟨.type "tuple",VO,.seq #[.str "keep" TV,.str "same" to2,.str "cut" to3,.str "turn" TY,.str "must" S2] nO,Vw⟩:=by k_is)
  (UK:PySem.W.findIn K (.ref O) "__init__"=some (some (.ref Ci)):=by k_is)
  (RM:K.lookup Ci=some ⟨OI,NI,.func (PySem.W.fnOf "__init__" "NoPipe.__init__" (fw pk) (du pk) (aq pk) .none Pw Og PF Np JI OJ),OV⟩:=by k_is)
  (R6:PySem.W.codeIn K JI "NoPipe.__init__"=true:=by k_is)
  (QV:PySem.W.keepIn K (.ref Ci)=true:=by k_is)
  (Xh:PySem.W.keepIn K (.ref O)=true:=by k_is)
  (Vg:PySem.W.isFn K (.ref Ci)=true:=by k_is)
  (VI:PySem.W.findIn K (.ref O) "place"=some none:=by k_is)
  (U6:PySem.W.findIn K (.ref O) "why"=some none:=by k_is)
  (cg:PySem.W.specialIn K (.builtin "object.__class__") "__get__"=some (some (.builtin "getset_descriptor.__get__")):=by k_is)
  (ct:PySem.W.takesIn K (.builtin "object.__class__")=some true:=by k_is)
  (x0:Bg K O PE=true:=by kernel_rfl)
  (e0:jH K O u0 "ValueError.__new__" (some (.ref Ci))=true:=by kernel_rfl)
  (x1:Bg K CP PE=true:=by kernel_rfl)
  (e1:jH K CP u0 "ValueError.__new__" none=true:=by kernel_rfl)
  (SV:PySem.W.kitOne K (.type "int") (.type "str")=some false:=by kernel_rfl)
  (MG:jd K U "keep" fQ=true:=by kernel_rfl)
  (KN:jd K U "same" mM=true:=by kernel_rfl)
  (Oe:jd K U "cut" gu=true:=by kernel_rfl)
  (MJ:jd K U "turn" fQ=true:=by kernel_rfl)
  (L4:jd K U "must" fQ=true:=by kernel_rfl)
  (KZ:jd K U "walk" fQ=true:=by kernel_rfl)
  (LV:jd K U "sort" lL=true:=by kernel_rfl)
  (IH:jd K U "apart" fP=true:=by kernel_rfl)
  (Ik:jd K U "count" gu=true:=by kernel_rfl)
  (N7:jd K U "sum" mJ=true:=by kernel_rfl)
  (Er:jd K U "number" fP=true:=by kernel_rfl)
  (HA:jd K U "first" fP=true:=by kernel_rfl)
  (MO:jd K U "both" fP=true:=by kernel_rfl)
  (KP:jd K aS "keep" p5=true:=by kernel_rfl)
  (s_same:jd K aS "same" p0=true:=by kernel_rfl)
  (LG:jd K aS "turn" p_=true:=by kernel_rfl)
  (M4:jd K aS "must" qc=true:=by kernel_rfl)
  (Lh:jd K aS "walk" qg=true:=by kernel_rfl)
  (NM:jd K aS "sum" qQ=true:=by kernel_rfl)
  (K5:jd K aS "both" pZ=true:=by kernel_rfl)
  (Ly:jd K aS "meet" qb=true:=by kernel_rfl)
  (MS:yx K aS "cut"=true:=by kernel_rfl)
  (HJ:yx K aS "sort"=true:=by kernel_rfl)
  (Gq:yx K aS "apart"=true:=by kernel_rfl)
  (Fv:yx K aS "count"=true:=by kernel_rfl)
  (BZ:yx K aS "number"=true:=by kernel_rfl)
  (EL:yx K aS "first"=true:=by kernel_rfl)
  (K8:jd K aT "cut" mK=true:=by kernel_rfl)
  (IL:jd K aT "must" kJ=true:=by kernel_rfl)
  (Ij:jd K aT "walk" lM=true:=by kernel_rfl)
  (DW:jd K aT "count" gb=true:=by kernel_rfl)
  (Mj:jd K aT "sum" gb=true:=by kernel_rfl)
  (CM:jd K aT "number" jE=true:=by kernel_rfl)
  (HL:jd K aT "meet" lE=true:=by kernel_rfl)
  (IQ:yx K aT "keep"=true:=by kernel_rfl)
  (Hx:yx K aT "same"=true:=by kernel_rfl)
  (Jm:yx K aT "turn"=true:=by kernel_rfl)
  (He:yx K aT "sort"=true:=by kernel_rfl)
  (D9:yx K aT "apart"=true:=by kernel_rfl)
  (FR:yx K aT "first"=true:=by kernel_rfl)
  (HE:yx K aT "both"=true:=by kernel_rfl)
  (KG:jd K aF "keep" jk=true:=by kernel_rfl)
  (M6:jd K aF "same" jk=true:=by kernel_rfl)
  (N6:jd K aF "cut" nV=true:=by kernel_rfl)
  (Kw:jd K aF "turn" gQ=true:=by kernel_rfl)
  (Mn:jd K aF "must" gQ=true:=by kernel_rfl)
  (Lf:jd K aF "sort" mX=true:=by kernel_rfl)
  (Hq:jd K aF "apart" kE=true:=by kernel_rfl)
  (IM:jd K aF "count" iq=true:=by kernel_rfl)
  (N_:jd K aF "sum" iq=true:=by kernel_rfl)
  (Dp:jd K aF "number" kh=true:=by kernel_rfl)
  (Jd:jd K aF "first" lT=true:=by kernel_rfl)
  (L8:jd K aF "both" mO=true:=by kernel_rfl)
  (MZ:jd K aF "meet" mZ=true:=by kernel_rfl)
  (ID:yx K aF "walk"=true:=by kernel_rfl) :
  ∃fd:FuncData,(∀(s:Shared)(v:Value),BindsTo s fd ⟨[v],[]⟩ [("_law_script",v)])/\∀base:Heap,K.In base->base.Ns mainGlobals mg->f_ l.prog w K mg base bx 12 fa fd ["_law_script"] (Br K):=by
 have F:=λ{x:Str} {st:Stmt} {f:Addr} (a:FK K x st f)=>a.fa X G;have h:=λ{x:Str} {st:Stmt} {f:Addr} (a:FK K x st f)=>a.h X G;cases hfa.symm.trans (YX X G NO);have Fl:=zi (st:=oq) PV Pl NC;have B:j_ mg:=⟨YL X G Ow,YL X G OP,YL X G PK,YL X G Eb,YL X G IF,YL X G Jo,YL X G L_,YL X G uP⟩;have z:nM mg:=⟨YL X G NQ,YL X G N0,YL X G PH,YL X G ER,YL X G Pj⟩;have B3:Fw mg:=⟨YL X G OE,YL X G OL,YL X G Pr,YL X G qf⟩;have mE:=YL X G qf;have mT:=YX X G V6;have mW:=YX X G zW;have mC:=YX X G zC;have W_:=YX X G zS;have mH:=YX X G zT;have Cb:Iq K mg "BRANCHED" aB Nu:=⟨YX X G zB,λH=>.inr ⟨_,_,_,lB,rfl,rfl,(by show 2<=sizeLine;decide),.cons ⟨S3,rfl⟩ (.cons ⟨tb2,rfl⟩ .nil)⟩⟩;have Co:Iq K mg "ONE_ROW" aO E9:=⟨YX X G zO,λH=>.inr ⟨_,_,_,lO,rfl,rfl,(by show 5<=sizeLine;decide),.cons ⟨TV,rfl⟩ (.cons ⟨to2,rfl⟩ (.cons ⟨to3,rfl⟩ (.cons ⟨TY,rfl⟩ (.cons ⟨S2,rfl⟩ .nil))))⟩⟩;have Cf:Pd K mg O Ci:=⟨Bh x0 cg ct,VI,U6,e0,Xh,Vg,YX X G Xs⟩;have Cp:O1 K mg CP:=⟨Bh x1 cg ct,e1,YX X G VH⟩;have mF:=YX X G zF;have mA:=YX X G zA;have mb:=YL X G LH;have cA:IK K aA aZ:=⟨λH=>.inr ⟨_,_,_,lA,rfl,rfl,(by show 3<=sizeLine;decide),.cons rfl (.cons rfl (.cons rfl .nil))⟩,λH=>.inr ⟨_,_,_,lZ,rfl,rfl,(by show 0<=sizeLine;decide),.nil⟩⟩;have Oo:=zi (st:=pk) RM R6 QV;have Lw:=Oo.binds (ps:=["self","place","why"]) (by intro _ _ _ _ _ _;refine L2.Hn ?_;intro _ _ _;rfl);refine⟨PySem.W.fnOf "law" "law" (fw oq) (du oq) (aq oq) .none Fe FV Gr Ew z_ D1,λs v=>.of_eq rfl,λbase _ _=>?_⟩;have g0:=JD (P:=l.prog) (w:=w) (base:=base) B (F a0);have g1:=LZ B (F a1) g0.m;have g2:=Jb (P:=l.prog) (w:=w) (base:=base) B (F a2);have g3:=BH (P:=l.prog) (w:=w) (base:=base) B B3 SV (F a3);have g4:=CZ (P:=l.prog) (w:=w) (base:=base) (F a4);have g5:=BY (P:=l.prog) (w:=w) (base:=base) (F a5);have g6:=yB (P:=l.prog) (w:=w) (base:=base) (F a6);have g7:=wO (P:=l.prog) (w:=w) (base:=base) (F a7);have g8:=wH (P:=l.prog) (w:=w) (base:=base) B (F a8);have g9:=zq (P:=l.prog) (w:=w) (base:=base) (F a9);have UR:=FJ (P:=l.prog) (w:=w) (base:=base) B (F a10);have VL:=B6 (aR:=U) (ck MG) (ck KN) (ck Oe) (ck MJ) (ck L4) (ck KZ) (ck LV) (ck IH) (ck Ik) (ck N7) (ck Er) (ck HA) (g4.at (h a4)) (g5.at (h a5)) (g6.at (h a6)) (g7.at (h a7)) (g8.at (h a8)) (g9.at (h a9));have U4:=λ(n:Nat)=>LB (n:=n) VL (ck MO) (g4.at (h a4));have UZ:=λ(n:Nat)=>BN (n:=n) B z mC (U4 n) (F a11) UR.m;have P1:=Ee (P:=l.prog) (w:=w) (base:=base) mT (F a12);have LL:=xB z mT (F a13) g3.m;have UW:=λ(n:Nat)=>wZ (n:=n) (P:=l.prog) (w:=w) (base:=base) mT (F a14);have VC:=λ(n:Nat)=>xA (n:=n) (F a15) P1.m;have V9:=λ(n:Nat)=>yz (n:=n) (P:=l.prog) (w:=w) (base:=base) (F a16);have W6:=λ(n:Nat)=>yi (n:=n) (F a17) P1.m;have VS:=λ(n:Nat)=>xS (n:=n) (P:=l.prog) (w:=w) (base:=base) (F a18);have UH:=λ(n:Nat)=>xj (n:=n) (F a19) LL.m;have WN:=λ(n:Nat)=>xE (n:=n) (F a20) LL.m;have Wz:=λ(n:Nat)=>w8 (n:=n) B (F a21) g3.m LL.m;have VN:=λ(n:Nat)=>B4 (n:=n) (aS:=aS) (ck KP) (ck s_same) (ck LG) (ck M4) (ck Lh) (ck NM) (ck K5) (ck Ly) (i5 MS) (i5 HJ) (i5 Gq) (i5 Fv) (i5 BZ) (i5 EL) ((UW n).at (h a14)) ((VC n).at (h a15)) ((UH n).at (h a19)) ((Wz n).at (h a21)) ((WN n).at (h a20)) ((V9 n).at (h a16)) ((VS n).at (h a18)) ((W6 n).at (h a17));have Xl:=λ(n:Nat)=>xW (n:=n) W_ (VN n) (F a22);have M7:=CU (P:=l.prog) (w:=w) (base:=base) B (F a23);have JW:=λ(n:Nat)=>ED (n:=n) (P:=l.prog) (w:=w) (base:=base) (F a24);have WA:=λ(n:Nat)=>Aw (n:=n) (P:=l.prog) (w:=w) (base:=base) mT (F a25);have Oy:=λ(n:Nat)=>Jn (n:=n) (F a26) M7.m;have W5:=λ(n:Nat)=>F6 (n:=n) mT (F a27) M7.m;have Vc:=λ(n:Nat)=>Fi (n:=n) (P:=l.prog) (w:=w) (base:=base) (F a28);have V2:=λ(n:Nat)=>E1 (n:=n) B (F a29) g3.m;have U7:=λ(n:Nat)=>zj (n:=n) (aT:=aT) (ck K8) (ck IL) (ck Ij) (ck DW) (ck Mj) (ck CM) (ck HL) (i5 IQ) (i5 Hx) (i5 Jm) (i5 He) (i5 D9) (i5 FR) (i5 HE) ((Oy n).at (h a26)) ((V2 n).at (h a29)) ((JW n).at (h a24)) ((W5 n).at (h a27)) ((WA n).at (h a25)) ((Vc n).at (h a28));have TC:=λ(n:Nat)=>xq (n:=n) mH (U7 n) (F a30);have Lx:=λ(n:Nat)=>Ln (n:=n) (P:=l.prog) (w:=w) (base:=base) Cb (F a31);have Uw:=λ(n:Nat)=>Jj (n:=n) (P:=l.prog) (w:=w) (base:=base) (F a32);have U0:=λ(n:Nat)=>zD (n:=n) z Co (F a33) (Lx n).m;have Vf:=λ(n:Nat)=>EX (n:=n) B3 mT (F a34) (Uw n).m;have Su:=λ(n:Nat)=>B9 (n:=n) B mW (F a35) (UZ n).m (Xl n).m (TC n).m (U0 n).m;have Rb:=λ(n:Nat)=>CD (n:=n) B z B3 (F a36) (TC n).m (Uw n).m (Vf n).m;have Vp:=Jw (P:=l.prog) (w:=w) (base:=base) Cp (F a39);have Xg:=CY (P:=l.prog) (w:=w) (base:=base) B (F a40);have Uk:=MD (P:=l.prog) (w:=w) (base:=base) B (F a41);have Xc:=Ce (P:=l.prog) (w:=w) (base:=base) B (F a42);have Xw:=DI (P:=l.prog) (w:=w) (base:=base) z (F a43);have VZ:=DV (P:=l.prog) (w:=w) (base:=base) (F a44);have QF:=HG (F a45) Xg.m;have Q6:=F4 (F a46) Xc.m;have W8:=Cw (P:=l.prog) (w:=w) (base:=base) (F a47);have Qu:=BJ (F a48) Uk.m;have Vd:=Ay (P:=l.prog) (w:=w) (base:=base) (F a49);have Ws:=CH (F a50) Xw.m;have VW:=Jx B z (F a51) Uk.m;have WE:=λ(n:Nat)=>FD (n:=n) (P:=l.prog) (w:=w) (base:=base) (F a52);have Vj:=λ(n:Nat)=>Dt (n:=n) (P:=l.prog) (w:=w) (base:=base) (F a53);have UJ:=DD (aF:=aF) (ck KG) (ck M6) (ck N6) (ck Kw) (ck Mn) (ck Lf) (ck Hq) (ck IM) (ck N_) (ck Dp) (ck Jd) (i5 ID) (VZ.at (h a44)) (VW.at (h a51)) (QF.at (h a45)) (Q6.at (h a46)) (W8.at (h a47)) (Qu.at (h a48)) (Vd.at (h a49)) (Ws.at (h a50));have U_:=λ(n:Nat)=>G_ (n:=n) UJ (ck L8) (ck MZ) ((WE n).at (h a52)) ((Vj n).at (h a53));have R9:=λ(n:Nat)=>C4 (n:=n) mF (U_ n) (F a54);have WI:=BM (P:=l.prog) (w:=w) (base:=base) B (F a57);have Ti:=Ck (P:=l.prog) (w:=w) (base:=base) (F a59);have S1:=Hu (F a60) g2.m;have R1:=FQ B (F a61) g2.m;have Us:=CK B (F a62) g2.m Ti.m;have Qp:=BL (P:=l.prog) (w:=w) (base:=base) B (F a63);have W7:=Gu B (F a64) g2.m;have Tw:=Ic B (F VB) g2.m;have Sb:=CO B (F Wh) g2.m Qp.m S1.m R1.m Us.m;have Vi:=Fz B (F Vh) g2.m Qp.m Ti.m R1.m Tw.m;have P8:=y0 (P:=l.prog) (w:=w) (base:=base) B z B3 SV (F Xq);have T_:=DF B (F Vv) g2.m Qp.m Tw.m S1.m Us.m;have WJ:=Fq B z (F Wl) g2.m Sb.m P8.m;have UI:=Eu B (F VV) g2.m Sb.m WJ.m Qp.m;have UE:=F1 (P:=l.prog) (w:=w) (base:=base) B (F VU);have SG:=Ag B z (F Xb) UE.m;have Sl:=EB (P:=l.prog) (w:=w) (base:=base) z (F VJ);have MR:=DE (P:=l.prog) (w:=w) (base:=base) (mg:=mg) (C:=O) Oo;have W0:=Ld (P:=l.prog) (w:=w) (base:=base) (C:=O) (L:=4) (F a37);have Vt:=Ae (C:=O) (n:=0) (L:=0) B mE Cf (F a37) MR Lw (Lx 0).m W0.m (Su 0).m (Rb 0).m;have go2:=Ae (C:=O) (n:=1) (L:=1) B mE Cf (F a37) MR Lw (Lx 1).m Vt.m (Su 1).m (Rb 1).m;have Wx:=Ae (C:=O) (n:=2) (L:=2) B mE Cf (F a37) MR Lw (Lx 2).m go2.m (Su 2).m (Rb 2).m;have sv:=C6 (C:=O) (n:=2) (L:=2) (F a38) Wx.m;have Wm:=HU (P:=l.prog) (w:=w) (base:=base) (F a55);have V4:=pb (n:=0) (L:=0) B mE (F a55) (Lx 0).m Wm.m (R9 0).m;have V8:=pb (n:=1) (L:=1) B mE (F a55) (Lx 1).m V4.m (R9 1).m;have VM:=pb (n:=2) (L:=2) B mE (F a55) (Lx 2).m V8.m (R9 2).m;have af:=GX (aA:=aA) (a1:=aZ) (n:=2) (L:=7) mA cA (F a56) VM.m;have fa:=Ar (C:=O) (CP:=CP) (n:=2) (L:=2) (F a58) WI.m sv.m Vp.m af.m;have told:=JA (L:=2) B z mb (F WG) fa.m;have st0:=Mm (P:=l.prog) (w:=w) (base:=base) (F Rj);have st1:=tU (n:=0) (L:=0) B z (F Rj) g2.m T_.m st0.m;have st2:=tU (n:=1) (L:=1) B z (F Rj) g2.m T_.m st1.m;have bo:=EG (L:=3) B (F Wn) g2.m st2.m R1.m;have hb0:=Ml (P:=l.prog) (w:=w) (base:=base) (F Qx);have hb1:=ES (n:=0) (L:=0) (F Qx) hb0.m P8.m;have hb2:=ES (n:=1) (L:=1) (F Qx) hb1.m P8.m;have hb3:=ES (n:=2) (L:=2) (F Qx) hb2.m P8.m;have nx:=Je (L:=1) (F VY) g2.m Vi.m UI.m bo.m Sb.m;have pp:=FZ (L:=1) B (F WU) g2.m nx.m hb3.m;have Wt:=LQ (P:=l.prog) (w:=w) (base:=base) (F Qc);have WO:=rQ (n:=0) (L:=0) B z mE (F Qc) Wt.m Sl.m SG.m hb1.m;have VP:=rQ (n:=1) (L:=1) B z mE (F Qc) WO.m Sl.m SG.m hb2.m;have WV:=rQ (n:=2) (L:=2) B z mE (F Qc) VP.m Sl.m SG.m hb3.m;exact L6 (L:=11) B z Fl g1.m W7.m pp.m WV.m told.m
theorem walk{l:PySem.W.OpenLaw}{q:Program}{O:List Str}{XP:(Z0)->Heap->Prop}{YP:World->Heap->Prop}{d:DefRec}{K:Params->YY}(hn:l.most=some 63)(U:d.params.defaults=[])
  (hY:∀(w:World)(h:Heap),YP w h->(K w.params).In h)
  (F:∀(w:World)(mg:Z0)(fa:Addr)(h:Heap),(K w.params).In h->h.Ns mainGlobals mg->mg d.name=some (.ref fa)->
   ∃fd:FuncData,(∀(s:Shared)(u:Value),BindsTo s fd ⟨[u],[]⟩ [("_law_script",u)])/\∀base:Heap,(K w.params).In base->base.Ns mainGlobals mg->f_ l.prog w (K w.params) mg base bx 12 fa fd ["_law_script"] (Br (K w.params))) :
  PySem.W.WalkO q O XP YP l.row.toRowW d [] (λf vs=>PySem.call f vs) :=
 L2.JF (n:=63) (k:=12) (x:="_law_script") (CX:=λ_=>bx) (sp:=λw=>Br (K w.params)) hn (by decide) U ⟨rfl,by decide,by decide⟩ hY F (λ_ _ a ns hl _ hS=>⟨a,ns,rfl,hS,hl,λ_=>rfl⟩) λ_ _ _ _ _ z=>z
end My
namespace PySem.W.Fast
def tw2571849277477959241:=0
def tw15030566056875875283:=0
def tw17702865663235313759:=0
def tw11553423545500042695:=0
def tw7117379621024901415:=0
def tw11260901688989212462:=0
def tw15939177469612884538:=0
def tw13784000787293162865:=0
def tw13893695942922287344:=0
def tw4448091927651549938:=0
def tw10527258508246292505:=0
def tw13714654689872206522:=0
def tw2749158268905087312:=0
def tw7897905877870078806:=0
def tw18236949011756955013:=0
def tw17571106669503501091:=0
def tw6698804362641334:=0
def tw5383385891649033725:=0
def tw8216435921390050402:=0
def tw9959245453595727443:=0
def tw17857455647950802084:=0
def tw16984167750482325990:=0
def tw12659760931409024916:=0
def tw8342690211530862289:=0
def tw5599744373062173923:=0
def tw12368968083035289695:=0
def tw17147981458058750910:=0
def tw7359366363767799397:=0
def tw14101693459033660730:=0
def tw15515222882930541:=0
def tw13583124440607148722:=0
def tw15314930562548829243:=0
def tw11351393943871128357:=0
def tw9313748050683753363:=0
def tw10657733848400130204:=0
def tw10934890059064038009:=0
def tw15170202530969634724:=0
def tw4016652285454982522:=0
def tw2715487819126779427:=0
def tw9266909026595843725:=0
def tw3112201706394669281:=0
def tw17956719042173546562:=0
def tw8227247333206949226:=0
def tw15656989614994484954:=0
def tw10200559605803136766:=0
def tw3715114472710923517:=0
def tw2836703107562506246:=0
def tw7620676044643367263:=0
def tw7464150476185001492:=0
def tw9740238037203649722:=0
def tw12140381167605288859:=0
def tw7430336333633976234:=0
def tw17350933276597753030:=0
def tw9757770799319852572:=0
def tw13883747260099689122:=0
def tw3704727341142089417:=0
def tw1636519170045974748:=0
def tw17871687551211676413:=0
def tw11094301503320130715:=0
def tw5929913517943025878:=0
def tw9685897409384043788:=0
def tw13191742120680031499:=0
def tw8076412112762279215:=0
def tw2612760895123944268:=0
def tw16082335306948897130:=0
def tw1757608450673395140:=0
def tw131602860194224798:=0
def tw15578023875884605154:=0
def tw4275696075422452193:=0
def tw18376120673890936559:=0
def tw3286876493537320278:=0
def tw11834474970897818543:=0
def tw9694497756180340660:=0
def tw17886555185629766399:=0
def tw14234023046294836742:=0
def tw2371395253280470921:=0
def tw154205486771155400:=0
def tw4691152504333383755:=0
def tw12988530360382437690:=0
def tw6915658001219353209:=0
def tw3090807475170491360:=0
def tw4681691184129839518:=0
def tw5674906343246033593:=0
def tw17943436884060347023:=0
def tw12827596768537403700:=0
def tw6004727837898671936:=0
def tw3866526198256386624:=0
def tw12288989868066090225:=0
def tw11790161394603495085:=0
def tw2833649148454249055:=0
def tw8041156648346563801:=0
def tw13584210491125084300:=0
def tw1301453680560523715:=0
def tw10729528335212300915:=0
def tw8836193213302013248:=0
def tw16502531277309331260:=0
def tw14183743619668461704:=0
def tw7391100446473725304:=0
def tw9041246465841626703:=0
def tw17919806795586824940:=0
def tw10056988437984293538:=0
def tw17354763398328077032:=0
def tw16866907530085308137:=0
def tw4282362624628835586:=0
def tw15862517557791639033:=0
def tw5155133543324312490:=0
def tw16366140428550637884:=0
def tw10673917564773530136:=0
def tw339211658593891484:=0
def tw16377647691543309344:=0
def tw16346979525036949527:=0
def tw13969672890111836599:=0
def tw12013615088684916094:=0
def tw10600524180272196431:=0
def tw16985939438364824673:=0
def tw16660180571873855570:=0
def tw317309619604568188:=0
def tw3946252609841771766:=0
def tw10903258160734904381:=0
def tw3501850475888929989:=0
def tw2839411472573996936:=0
def tw9817592294456561865:=0
def tw4668026062839444184:=0
def tw6661630157943265517:=0
def tw4744779091153905437:=0
def tw7673346287084996670:=0
def tw13234865536472123983:=0
def tw10532447315112814769:=0
def tw13009465108540883900:=0
def tw16828435728964744522:=0
def tw6949350247944284037:=0
def tw10696403110227828359:=0
def tw5229738577101673376:=0
def tw11530500630510260402:=0
def tw14103338423743154710:=0
def tw11285184405082382413:=0
def tw7402620171385912275:=0
def tw13980528937681705013:=0
def tw3579683960188222919:=0
def tw13245215472335811208:=0
def tw10601821591987472950:=0
def tw15817995173536989998:=0
def tw15915839759947714766:=0
def tw8812526462610097164:=0
def tw8132797363842993011:=0
def tw15612017301284916491:=0
def tw7805246349635173422:=0
def tw14254491971124096493:=0
def tw17163957700069639473:=0
def tw1454178431995685221:=0
def tw16730820538008912571:=0
def tw16673241882386266207:=0
def tw1754209848127591553:=0
def tw6381933823728010654:=0
def tw9629891522645990456:=0
def tw16584385778994157663:=0
def tw5186985401040552085:=0
def tw11798959817416072890:=0
def tw7669167397725029:=0
def tw4630750530233592193:=0
def tw1140953089371777347:=0
def tw12355112136753416989:=0
def tw18138039793089071850:=0
def tw4385801924373395316:=0
def tw15822299578825717543:=0
def tw10713130603733944333:=0
def tw10044535133534165176:=0
def tw14087259295891751735:=0
def tw7499612139138331519:=0
def tw17604089925703966467:=0
def tw8303805862980259868:=0
def tw8250852084837874742:=0
def tw3058100418580763493:=0
def tw15305453907827766503:=0
def tw10959808947350832061:=0
def tw14765355059876601697:=0
def tw13647874914728438586:=0
def tw15454089728797767381:=0
def tw12277222556041700974:=0
def tw10530167184691496001:=0
def tw6784390166644582393:=0
def tw13206860701158997723:=0
def tw11010322583285317677:=0
def tw3748045662092666694:=0
def tw6810638123326770212:=0
def tw6951675873535645377:=0
def tw3053257417411370801:=0
def tw10030315380380478395:=0
def tw16448099813992300417:=0
def tw14737794477461336132:=0
def tw13844309374172192514:=0
def tw9003480744508496437:=0
def tw15745848818722628481:=0
def tw1299193248400262200:=0
def tw4631669985702956019:=0
def tw9473131058223761106:=0
def tw9527093312535164780:=0
def tw1760196547570716979:=0
def tw2124006107246712257:=0
def tw16673745617448091036:=0
def tw9556233224205113516:=0
def tw9716302648732240853:=0
def tw11741934383668805046:=0
def tw4361950882007146162:=0
def tw15888643503682550289:=0
def tw5174882540381139774:=0
def tw16216605601639389552:=0
def tw8719460116730727193:=0
def tw16967218743865397974:=0
def tw7563176258754185341:=0
def tw8160804681755664803:=0
def tw16241515428416766858:=0
def tw7182151796684911939:=0
def tw3472123234753572037:=0
def tw2156502909986816144:=0
def tw18137208213756073655:=0
def tw12904823934886352656:=0
def tw2020843176214108243:=0
def tw16702324989218677162:=0
def tw4071769378592589113:=0
def tw12916149117054942641:=0
def tw18159513103768090757:=0
def tw5839331110533518099:=0
def tw12264482123025322847:=0
def tw628960393601461548:=0
def tw9980523613147961494:=0
def tw15029738293872486092:=0
def tw1717736238447477648:=0
def tw7051107881038291845:=0
def tw12987545772840340294:=0
def tw13370896868050007487:=0
def tw12203003274976776428:=0
def tw14473624017672055225:=0
def tw16662091410507698636:=0
def tw6806816067841378254:=0
def tw14010209527018691211:=0
def tw13807252630883796517:=0
def tw5029055614851836190:=0
def tw4029502134727339592:=0
def tw6421626344929600177:=0
def tw5941616432146124571:=0
def tw14868725467514401984:=0
def tw975210197965625381:=0
def tw18210500247972085536:=0
def tw11280234968632601159:=0
def tw11934302804107755820:=0
def tw16634821738491100121:=0
def tw6153703486222457265:=0
def tw7483299536473728482:=0
def tw12016738598281799210:=0
end PySem.W.Fast
open PySem PySem.W PyProof.Rows
set_option maxRecDepth 100000 in
set_option maxHeartbeats 0 in
theorem PySem.Challenge.cw_rowpipes_k72_whole_facts_in_branches_holds : PySem.Challenge.rw_rowpipes_k72_whole_facts_in_branches.Holds := by
 w_on;o_law;k_head;(case hw=>w_witness2)
 k_fill
 refine My.walk (l:=PySem.Challenge.rw_rowpipes_k72_whole_facts_in_branches) rfl rfl (λw h Y=>PySem.W.kIn_of Y) ?F
 case F =>intro w mg fa h KX G hmg;exact My.all_mk KX G hmg
