import PyProof.Rows.All
import Wide.All
import OpenK.AllK
import Wide.FinOn
import Lean
import PyProof.EqAt
import PyProof.EqKinds
import PyProof.TupleCall
import PyProof.NeKinds
import PyProof.SumAny
import PyProof.SetRoads
import PyProof.ListRange
import PySem.Challenge.RW_rowpipes_k71_facts_along_workers
set_option Elab.async false
set_option linter.all false
set_option maxRecDepth 100000
set_option maxHeartbeats 0
abbrev RX:=@PySem.wpAny_bind
abbrev RY:=@PySem.wpAny_pure
abbrev RZ:=@PySem.Heap.get?_push_of_some
abbrev R0:=@PySem.Heap.lt_size
abbrev R1:=@PySem.Heap.get?_push_size
abbrev R3:=@Nat.le_refl
abbrev R4:=@Nat.le_trans
abbrev R5:=@decide_eq_false
abbrev R6:=@decide_eq_true
abbrev R7:=@List.length_map
abbrev R8:=@List.length_append
abbrev R9:=@List.map_append
abbrev R_:=@Nat.lt_of_le_of_lt
abbrev Sb:=@Nat.lt_of_lt_of_le
abbrev Sd:=@List.getElem?_eq_getElem
abbrev Se:=@List.mem_append_right
abbrev Sf:=@List.mem_of_getElem?
abbrev Sg:=@List.mem_cons_of_mem
abbrev Sh:=@Bool.false_ne_true
abbrev Si:=@List.size_toArray
abbrev Sj:=@List.getElem?_eq_some_iff
abbrev Sk:=@List.mem_singleton
abbrev Sl:=@List.mem_map
abbrev Sm:=@List.mem_cons
abbrev Sn:=@Bool.eq_false_iff
abbrev So:=@List.mem_append
abbrev Sq:=@Nat.ne_of_lt
abbrev Sr:=@Nat.zero_le
abbrev Ss:=@Option.some.inj
abbrev Su:=@List.getElem?_append_right
abbrev Sv:=@List.getElem?_append_left
abbrev Sw:=@List.getElem?_map
abbrev Sx:=@List.length_take
abbrev Sy:=@Array.getElem?_eq_getElem
abbrev Sz:=@PySem.wpAny_mono
abbrev SA:=@PySem.wpAny_holding
abbrev SD:=@PySem.wpAny_newObj_type
abbrev SE:=@List.mem_cons_self
abbrev SG:=@List.length_cons
abbrev SH:=@Bool.and_eq_true
abbrev SI:=@of_decide_eq_true
abbrev SJ:=@absurd
abbrev SK:=@if_neg
abbrev SM:=@if_pos
abbrev SN:=@List.not_mem_nil
abbrev SQ:=@Or.inl
abbrev SR:=@List.take_length
abbrev SS:=@False.elim
abbrev SU:=@PySem.W.mg_none_of
abbrev SV:=@PyProof.Rows.boot_tuple
abbrev SW:=@PyProof.Rows.boot_int
abbrev SX:=@List.append_nil
abbrev SY:=@PySem.wpAny_call_entry
abbrev S0:=@Nat.le_of_eq
abbrev S1:=@List.lookup_cons
abbrev S2:=@List.map_cons
abbrev S3:=@Array.length_toList
abbrev S4:=@List.any_cons
abbrev S5:=@PySem.boot_len
abbrev S6:=@PySem.W.mg_of
abbrev S7:=PySem.W.Frag
namespace L2
open PySem PySem.Spec PyProof.Rows
abbrev Key:=Sum Int Str
def gi:Key->Value->Bool
 | .inl k,v=>Value.isInt k v
 | .inr x,v=>Value.isStrOf x v
def JG(w:World):Key->Int
 | .inl k=>hashInt k
 | .inr x=>hashStr w x
theorem bC:∀{k:Key}{v:Value},gi k v=true->(∃i t,k=Sum.inl i/\v=Value.int i t)\/(∃x t,k=Sum.inr x/\v=Value.str x t)
 | .inl i,v,h=>by obtain⟨t,e⟩:=Value.isInt_shape (k:=i) (v:=v) h;exact .inl ⟨i,t,rfl,e⟩
 | .inr x,v,h=>by obtain⟨t,e⟩:=Value.isStrOf_shape (x:=x) (v:=v) h;exact .inr ⟨x,t,rfl,e⟩
theorem mI(i:Int)(t:Tok):gi (.inl i) (.int i t)=true:=by simp[gi,Value.isInt]
theorem m3(x:Str)(t:Tok):gi (.inr x) (.str x t)=true:=by simp[gi,Value.isStrOf]
theorem IU(a b:Int):decide ((Sum.inl a:Key)=Sum.inl b)=(a==b):=by
 by_cases e:a=b
 ·subst e;simp
 ·have h:¬(Sum.inl a:Key)=Sum.inl b:=λq=>e (Sum.inl.inj q);rw[R5 h];exact(beq_eq_false_iff_ne.mpr e).symm
theorem HI(a b:Str):decide ((Sum.inr a:Key)=Sum.inr b)=decide (a=b):=by
 by_cases e:a=b
 ·subst e;simp
 ·have h:¬(Sum.inr a:Key)=Sum.inr b:=λq=>e (Sum.inr.inj q);rw[R5 h,R5 e]
theorem GZ(a:Int)(b:Str):decide ((Sum.inl a:Key)=Sum.inr b)=false:=R5 (λq=>nomatch q)
theorem Hy(a:Str)(b:Int):decide ((Sum.inr a:Key)=Sum.inl b)=false:=R5 (λq=>nomatch q)
def bH(prog:Program)(w:World):PySem.KeyKind prog w Key where
 is:=gi
 hash:=JG w
 inj:=λv a b ha hb=>by
  rcases bC ha with⟨i,t,rfl,rfl⟩|⟨x,t,rfl,rfl⟩
  ·rcases bC hb with⟨j,u,rfl,e⟩|⟨y,u,rfl,e⟩
   ·injection e with e1 _;rw[e1]
   ·exact nomatch e
  ·rcases bC hb with⟨j,u,rfl,e⟩|⟨y,u,rfl,e⟩
   ·exact nomatch e
   ·injection e with e1 _;rw[e1]
 byValue:=λk v h=>by rcases bC h with⟨i,t,rfl,rfl⟩|⟨x,t,rfl,rfl⟩<;>rfl
 pyHash:=λhv h=>by
  rcases bC hv with⟨i,t,rfl,rfl⟩|⟨x,t,rfl,rfl⟩
  ·exact wpAny_pyHash_int h
  ·exact wpAny_pyHash_str h
 eqBool:=λhu hv h=>by
  rcases bC hu with⟨i,t,rfl,rfl⟩|⟨x,t,rfl,rfl⟩
  ·rcases bC hv with⟨j,u,rfl,rfl⟩|⟨y,u,rfl,rfl⟩
   ·rw[IU]at h;exact wpAny_eqBool_int h
   ·rw[GZ]at h;exact SeqAt.EqAt.int_str i t y u _ _ _ _ h
  ·rcases bC hv with⟨j,u,rfl,rfl⟩|⟨y,u,rfl,rfl⟩
   ·rw[Hy]at h;exact SeqAt.EqAt.str_int x t j u _ _ _ _ h
   ·rw[HI]at h;exact wpAny_eqBool_str h
 «strs»:=λk x t v h=>by
  rcases bC h with⟨i,u,rfl,e⟩|⟨y,u,rfl,e⟩
  ·exact nomatch e
  ·injection e with e1 _;subst e1;cases v<;>rfl
abbrev cN:=Option Key
def F7:cN->Value->Bool
 |none,.none=>true
 |none,_=>false
 |some k,v=>gi k v
theorem tq{prog:Program}{w:World}{A:Around}{E:Value->Shared->Prop}{s:Shared}{Q:Int->Shared->Prop}(h:Q 0xFCA86420 {s with toks:=s.toks+1}):wpAny (model prog w) A (pyHash .none) Q E s:=by
 unfold pyHash;have hv:[Value.none].any Value.onHeap=false:=rfl;refine RX ?_;rw[cRoomFor,SK (by rw[hv];exact Sh)];refine RY ?_;refine RX (wpAny_specialOf (typeIs_none s) F.slot_NoneType_hash.lookup ?_);show wpAny _ _ (if(some (Value.builtin "NoneType.__hash__")==some Value.none)=true then _ else _) Q E s;rw[SK (by rw[beq_builtin_none];exact Sh)];refine RX (wpAny_specialOf (typeIs_none s) F.slot_NoneType_hash.lookup ?_);refine RX (wpAny_callSpecialIfBoundUnlessNone?_slot (typeIs_none s) F.slot_NoneType_hash
  (SY F.slot_NoneType_hash (typeIs_none s) F.entry_NoneType_hash
   (show wpAny _ _ (do ret (←mkInt 0xFCA86420)) _ _ s from wpAny_ret_mkInt ?_) (F.args_NoneType_hash_1 _)))
 show wpAny _ _ (if(decide (-(2:Int) ^ 63<=0xFCA86420)&&decide ((0xFCA86420:Int)<2 ^ 63))=true then _ else _) Q E _;rw[SM (by decide)];exact RY h
theorem cH:∀{k:cN}{v:Value},F7 k v=true->(k=none/\v=.none)\/∃k',k=some k'/\gi k' v=true
 |none,.none,_=>.inl ⟨rfl,rfl⟩
 |some k,v,h=>.inr ⟨k,rfl,h⟩
theorem Ax(a b:Key):decide ((some a:cN)=some b)=decide (a=b):=by
 by_cases e:a=b
 ·subst e;simp
 ·rw[R5 e,R5 (λq=>e (Ss q))]
theorem Ja(a:Key):decide ((some a:cN)=none)=false:=R5 (λq=>nomatch q)
theorem HW(a:Key):decide ((none:cN)=some a)=false:=R5 (λq=>nomatch q)
def optKind(prog:Program)(w:World):PySem.KeyKind prog w cN where
 is:=F7
 hash:=λk=>match k with|none=>0xFCA86420|some k=>JG w k
 inj:=λv a b ha hb=>by
  rcases cH ha with⟨rfl,rfl⟩|⟨a',rfl,ha'⟩
  ·rcases cH hb with⟨rfl,_⟩|⟨b',rfl,hb'⟩
   ·rfl
   ·rcases bC hb' with⟨j,u,_,e⟩|⟨y,u,_,e⟩<;>exact nomatch e
  ·rcases cH hb with⟨rfl,rfl⟩|⟨b',rfl,hb'⟩
   ·rcases bC ha' with⟨j,u,_,e⟩|⟨y,u,_,e⟩<;>exact nomatch e
   ·rw[(bH prog w).inj v a' b' ha' hb']
 byValue:=λk v h=>by
  rcases cH h with⟨rfl,rfl⟩|⟨k',rfl,h'⟩
  ·rfl
  ·exact(bH prog w).byValue k' v h'
 pyHash:=λhv h=>by
  rcases cH hv with⟨rfl,rfl⟩|⟨k',rfl,h'⟩
  ·exact tq h
  ·exact(bH prog w).pyHash h' h
 eqBool:=λ{A E s a b u v Q} hu hv h=>by
  rcases cH hu with⟨rfl,rfl⟩|⟨k,rfl,hk⟩
  ·rcases cH hv with⟨rfl,rfl⟩|⟨l,rfl,hl⟩
   ·unfold eqBool;refine SA ?_;rw[R6 rfl]at h;exact wpAny_ite_split (λ_=>RX (wpAny_rule (RY h))) (λhn=>SJ rfl hn)
   ·rw[HW]at h;rcases bC hl with⟨j,u,rfl,rfl⟩|⟨y,u,rfl,rfl⟩
    ·exact SeqAt.EqAt.none_int j u _ _ _ _ h
    ·exact SeqAt.EqAt.none_str y u _ _ _ _ h
  ·rcases cH hv with⟨rfl,rfl⟩|⟨l,rfl,hl⟩
   ·rw[Ja]at h;rcases bC hk with⟨j,u,rfl,rfl⟩|⟨y,u,rfl,rfl⟩
    ·exact SeqAt.EqAt.int_none j u _ _ _ _ h
    ·exact SeqAt.EqAt.str_none y u _ _ _ _ h
   ·rw[Ax]at h;exact(bH prog w).eqBool hk hl h
 «strs»:=λk x t v h=>by
  rcases cH h with⟨_,e⟩|⟨k',rfl,h'⟩
  ·exact nomatch e
  ·exact(bH prog w).strs k' x t v h'
theorem um(prog:Program)(w:World)(i:Int)(t:Tok):(bH prog w).is (.inl i) (.int i t)=true:=mI i t
theorem tH(prog:Program)(w:World)(x:Str)(t:Tok):(bH prog w).is (.inr x) (.str x t)=true:=m3 x t
inductive V where
 |non|bl (b:Bool)|int (i:Int)|str (x:Str)|zy (b:Array UInt8)|flt (b:UInt64)|ref (a:Addr)|ty (n:String)
 deriving DecidableEq
def RelV:V->Value->Prop
 | .non,u=>u=Value.none
 | .bl b,u=>u=Value.bool b
 | .int i,u=>∃t,u=Value.int i t
 | .str x,u=>∃t,u=Value.str x t
 | .zy b,u=>∃t,u=Value.bytes b t
 | .flt b,u=>∃t,u=Value.float b t
 | .ref a,u=>u=Value.ref a
 | .ty n,u=>u=Value.type n
abbrev Vals:List V->List Value->Prop:=Paired RelV
theorem Vals.length{xs:List V}{us:List Value}(r:Vals xs us):xs.length=us.length:=Paired.length r
theorem Vals.get:∀{xs:List V}{us:List Value}{i:Nat}{x:V},Vals xs us->xs[i]? = some x->∃u,us[i]? = some u/\RelV x u
 |_,_,_,_,.nil,e=>by simp at e
 |_,_,0,_,.cons r _,e=>by simp at e;subst e;exact⟨_,rfl,r⟩
 |_,_,i+1,x,.cons _ t,e=>by obtain⟨u,h1,h2⟩:=Vals.get (i:=i) (x:=x) t (by simpa using e);exact⟨u,by simpa using h1,h2⟩
theorem Vals.set{x:V}{u:Value}(r:RelV x u):∀{xs:List V}{us:List Value}(i:Nat),Vals xs us->Vals (xs.set i x) (us.set i u)
 |_,_,_,.nil=>.nil
 |_,_,0,.cons _ t=>.cons r t
 |_,_,i+1,.cons q t=>.cons q (Vals.set r i t)
theorem Vals.append{xs ys:List V}{us ws:List Value}(h:Vals xs us)(g:Vals ys ws):Vals (xs++ys) (us++ws):=by
 induction h with
 |nil=>exact g
 |cons r t ih=>exact .cons r ih
theorem Vals.take:∀{xs:List V}{us:List Value}(n:Nat),Vals xs us->Vals (xs.take n) (us.take n)
 |_,_,0,_=>.nil
 |_,_,_+1,.nil=>.nil
 |_,_,n+1,.cons r t=>.cons r (Vals.take n t)
theorem Vals.drop:∀{xs:List V}{us:List Value}(n:Nat),Vals xs us->Vals (xs.drop n) (us.drop n)
 |_,_,0,r=>r
 |_,_,_+1,.nil=>.nil
 |_,_,n+1,.cons _ t=>Vals.drop n t
def i9:Option V->Option Value->Prop
 |some v,some u=>RelV v u
 |none,none=>True
 |_,_=>False
def KV{κ:Type}:List (κ×V)->List (κ×Value)->Prop:=Paired λ(p:κ×V) (q:κ×Value)=>p.1=q.1/\RelV p.2 q.2
def kV:Key->V
 | .inl i=>.int i
 | .inr x=>.str x
def oV:cN->V
 |none=>.non
 |some k=>kV k
inductive HO where
 |lst (xs:List V)
 |tup (xs:List V)
 |dK (kvs:List (Key×V))|dT (kvs:List (List cN×V))
 |set (S:Int->Bool) (n:Nat)
 |ins (C dx:Addr) (fs:List (Str×V))
 |own (x:Addr)
 |xd (fs:List (Str×V))
 |met (f x:Addr)
 |y9 (lo hi:Int)
 |vV (o:Obj) (u:HO)
 |FX (ps:Array Value)
 |ext (φ:Heap->Prop)
abbrev Hp:=Addr->Option HO
def upd(H:Hp)(a:Addr)(o:HO):Hp:=λb=>if b=a then some o else H b
theorem ae{H:Hp}{a:Addr}{o:HO}:upd H a o a=some o:=by unfold upd;rw[SM rfl]
theorem aH{H:Hp}{a b:Addr}{o:HO}(h:b≠a):upd H a o b=H b:=by unfold upd;rw[SK h]
theorem FU{H:Hp}{a b:Addr}{o u:HO}(h:H a=some o)(h':H b=some u)(d:o≠u):a≠b:=by intro e;subst e;rw[h]at h';exact d (Ss h')
theorem aW{H:Hp}{a b:Addr}{o:HO}(h:H a=some o)(h':H b=none):a≠b:=by intro e;subst e;rw[h]at h';cases h'
def jF(h:Heap)(a:Addr)(items:Array Value):Prop:=∃o,h.get? a=some o/\o.cls=.type "tuple"/\(∃n,o.data=.seq items n)/\o.dict=none
theorem jF.tup{h:Heap}{a:Addr}{items:Array Value}(x:jF h a items):IsTup h a items:=let ⟨o,ho,hc,hd,_⟩:=x;⟨o,ho,hc,hd⟩
theorem jF.new(h:Heap)(items:Array Value):jF (h.push {cls:=.type "tuple",data:=.seq items}) h.objs.size items:=⟨_,R1 _ rfl,rfl,⟨_,rfl⟩,rfl⟩
section
variable(P:Program)(w:World)
def cf(H:Hp)(h:Heap)(a:Addr):HO->Prop
 | .lst xs=>xs.length<=sizeLine/\∃(its:List Value)(n:Nat),Vals xs its/\h.get? a=some {cls:=.type "list",data:=.seq its.toArray n}
 | .tup xs=>xs.length<=sizeLine/\∃its:List Value,Vals xs its/\jF h a its.toArray
 | .dK kvs=>kvs.length<=sizeLine/\(a==sysModules)=false/\∃vs,KV kvs vs/\h.DictOf (bH P w) a vs
 | .dT kvs=>kvs.length<=sizeLine/\(a==sysModules)=false/\∃xs:List (List cN×Addr×Value),
   Paired (λ(p:List cN×V) (q:List cN×Addr×Value)=>p.1=q.1/\H q.2.1=some (.tup (p.1.map oV))/\RelV p.2 q.2.2) kvs xs/\
   ∃o es ep,h.get? a=some o/\o.ExactDict/\o.data=.dict es ep/\es.toList=xs.map (entryOfKey (tupleKind (optKind P w)))/\(xs.map (·.1)).Nodup
 | .set S n=>h.SetOf (intKind P w) a S n
 | .ins C dx fs=>H dx=some (.own a)/\fs.length<=1000/\dx≠a/\h.get? a=some (PySem.W.instObj C dx)/\
   ∃mA,h.Ns1 dx mA/\(∀f,i9 (fs.lookup f) (mA f))/\PySem.Within mA (fs.map (·.1))
 | .own _=>∃o,h.get? a=some o
 | .xd fs=>∃mA,h.Ns1 a mA/\∀f,i9 (fs.lookup f) (mA f)
 | .y9 lo hi=>∃t u v,h.get? a=some {cls:=.type "range",data:=.fields #[.int lo t,.int hi u,.int 1 v]}
 | .vV o u=>h.get? a=some o/\cf H h a u
 | .FX ps=>h.get? a=some {cls:=.none,data:=.fields ps}
 | .met f x=>h.get? a=some (PySem.W.methodObj (.ref f) (.ref x))
 | .ext φ=>φ h/\(∃o,h.get? a=some o)/\∀h1 h2:Heap,φ h1->(∀o,h1.get? a=some o->h2.get? a=some o)->φ h2
def jl(H:Hp)(h:Heap):Prop:=∀a o,H a=some o->cf P w H h a o
end
section
variable{P:Program}{w:World}{H H':Hp}{h h':Heap}{a:Addr}{o:HO}
theorem cf.lt(x:cf P w H h a o):a<h.objs.size:=by
 cases o with
 |lst xs=>obtain⟨_,_,_,_,e⟩:=x;exact R0 e
 |tup xs=>obtain⟨_,_,_,p⟩:=x;exact p.tup.lt
 |dK kvs=>obtain⟨_,_,_,_,o,_,_,e,_⟩:=x;exact R0 e
 |dT kvs=>obtain⟨_,_,_,_,o,_,_,e,_⟩:=x;exact R0 e
 |set S n=>obtain⟨o,_,_,_,e,_⟩:=x;exact R0 e
 |ins C dx fs=>obtain⟨_,_,_,e,_⟩:=x;exact R0 e
 |own y=>obtain⟨_,e⟩:=x;exact R0 e
 |xd fs=>obtain⟨_,⟨_,_,_,e,_⟩,_⟩:=x;exact R0 e
 |y9 lo hi=>obtain⟨_,_,_,e⟩:=x;exact R0 e
 |vV ob u=>obtain⟨e,_⟩:=x;exact R0 e
 |FX ps=>exact R0 (show h.get? a=some _ from x)
 |met f y=>exact R0 (show h.get? a=some _ from x)
 |ext φ=>obtain⟨_,⟨_,e⟩,_⟩:=x;exact R0 e
theorem Paired.JZ{α β:Type}{F G:α->β->Prop}{l₁:List α}{l₂:List β}(h:Paired F l₁ l₂)(f:∀a b,F a b->G a b):Paired G l₁ l₂:=by
 induction h with
 |nil=>exact .nil
 |cons r t ih=>exact .cons (f _ _ r) ih
theorem cf.stay(x:cf P w H h a o)(k:∀b u,(b=a\/H b=some (.own a))->h.get? b=some u->h'.get? b=some u)
  (ho:∀b,H b=some (.own a)->H' b=some (.own a)) (ht:∀b xs,H b=some (.tup xs)->H' b=some (.tup xs)):cf P w H' h' a o:=by
 induction o with
 |lst xs=>obtain⟨z,its,n,r,e⟩:=x;exact⟨z,its,n,r,k _ _ (.inl rfl) e⟩
 |tup xs=>obtain⟨z,its,r,ob,e,c⟩:=x;exact⟨z,its,r,ob,k _ _ (.inl rfl) e,c⟩
 |dK kvs=>obtain⟨z,y,vs,r,ob,es,ep,e,c⟩:=x;exact⟨z,y,vs,r,ob,es,ep,k _ _ (.inl rfl) e,c⟩
 |dT kvs =>obtain⟨z,y,xs,r,ob,es,ep,e,c⟩:=x;exact⟨z,y,xs,Paired.JZ r λp q z=>⟨z.1,ht _ _ z.2.1,z.2.2⟩,ob,es,ep,k _ _ (.inl rfl) e,c⟩
 |set S n=>obtain⟨ob,es,ep,t,e,c⟩:=x;exact⟨ob,es,ep,t,k _ _ (.inl rfl) e,c⟩
 |ins C dx fs =>obtain⟨d,z,ne,e,mA,⟨od,es,ep,e2,c⟩,r⟩:=x;exact⟨ho _ d,z,ne,k _ _ (.inl rfl) e,mA,⟨od,es,ep,k _ _ (.inr d) e2,c⟩,r⟩
 |own y=>obtain⟨ob,e⟩:=x;exact⟨ob,k _ _ (.inl rfl) e⟩
 |xd fs=>obtain⟨mA,⟨od,es,ep,e,c⟩,r⟩:=x;exact⟨mA,⟨od,es,ep,k _ _ (.inl rfl) e,c⟩,r⟩
 |y9 lo hi=>obtain⟨t,u,v,e⟩:=x;exact⟨t,u,v,k _ _ (.inl rfl) e⟩
 |vV ob u ih=>obtain⟨e,q⟩:=x;exact⟨k _ _ (.inl rfl) e,ih q⟩
 |FX ps =>have e:h.get? a=some {cls:=.none,data:=.fields ps}:=x;show h'.get? a=some {cls:=.none,data:=.fields ps};exact k a _ (.inl rfl) e
 |met f y =>have e:h.get? a=some (PySem.W.methodObj (.ref f) (.ref y)):=x;show h'.get? a=some (PySem.W.methodObj (.ref f) (.ref y));exact k a _ (.inl rfl) e
 |ext φ=>obtain⟨p,⟨o,e⟩,st⟩:=x;exact⟨st _ _ p λo q=>k _ _ (.inl rfl) q,⟨o,k _ _ (.inl rfl) e⟩,st⟩
theorem jl.lt(x:jl P w H h)(e:H a=some o):a<h.objs.size:=(x a o e).lt
theorem jl.fresh(x:jl P w H h)(e:h.objs.size<=a):H a=none:=by
 cases q:H a with
 |none=>rfl
 |some u=>exact SJ (Sb (x.lt q) e) (Nat.lt_irrefl _)
theorem jl.kept(x:jl P w H h)(k:∀b u,h.get? b=some u->h'.get? b=some u):jl P w H h':=λa o e =>
 (x a o e).stay (λb u _ q=>k b u q) (λ_ q=>q) λ_ _ q=>q
theorem jl.laid(x:jl P w H h)(k:∀b u,h.get? b=some u->h'.get? b=some u)(hp:h.objs.size<=a)(new:cf P w (upd H a o) h' a o):jl P w (upd H a o) h':=λb u e=>by
 have hn:=x.fresh hp;by_cases hb:b=a
 ·subst hb;rw[ae]at e;cases e;exact new
 ·rw[aH hb]at e;exact(x b u e).stay (λc v _ q=>k c v q) (λc q=>by rw[aH (aW q hn)];exact q) λc xs q=>by rw[aH (aW q hn)];exact q
end
def Rd(H:Hp)(a:Addr)(u:HO):Prop:=H a=some u\/∃o,H a=some (.vV o u)
theorem Rd.ok{P:Program}{w:World}{H:Hp}{h:Heap}{a:Addr}{u:HO}(r:Rd H a u)(x:jl P w H h):cf P w H h a u:=by
 rcases r with r|⟨o,r⟩
 ·exact x a u r
 ·obtain⟨_,q⟩:=x a _ r;exact q
def KW:Option HO->Prop
 |some (.lst _)=>True
 |some (.dK _)=>True
 |some (.dT _)=>True
 |some (.set _ _)=>True
 |some (.ins _ _ _)=>True
 |some (.ext _)=>True
 |_=>False
section
variable{P:Program}{w:World}{H:Hp}{h h':Heap}{x e:Addr}{o':HO}
theorem jl.write(ok:jl P w H h)(mu:KW (H x))(he:e=x\/H e=some (.own x))(k:∀b u,b≠e->h.get? b=some u->h'.get? b=some u)(heo:∃u,h'.get? e=some u)
  (new:cf P w (upd H x o') h' x o'):jl P w (upd H x o') h':=λb u q=>by
 have KC:∀c y,H c=some (.own y)->c≠x:=λc y r z=>by subst z;rw[r]at mu;exact mu
 have MI:∀c xs,H c=some (.tup xs)->c≠x:=λc xs r z=>by subst z;rw[r]at mu;exact mu
 by_cases hb:b=x
 ·subst hb;rw[ae]at q;cases q;exact new
 ·rw[aH hb]at q;by_cases hbe:b=e
  ·have q':H b=some (.own x):=by
    rcases he with z|z
    ·exact SJ (hbe.trans z) hb
    ·rw[hbe];exact z
   rw[q]at q';cases q';obtain⟨v,hv⟩:=heo;exact⟨v,by rw[hbe];exact hv⟩
  ·refine(ok b u q).stay (λc v hc r=>k c v ?_ r) (λc r=>by rw[aH (KC c b r)];exact r) λc xs r=>by rw[aH (MI c xs r)];exact r
   rcases hc with rfl|hc
   ·exact hbe
   ·rintro rfl;rcases he with z|z
    ·exact KC c b hc z
    ·rw[hc]at z;cases z;exact hb rfl
end
structure Un(fs ex:List Addr)(H H':Hp)(h h':Heap):Prop where
 keep:∀b o,h.get? b=some o->H b=none->b∉fs->b∉ex->h'.get? b=some o
 slot:∀b o,h.get? b=some o->H b=none->b∈fs->b∉ex->∃sl,h'.get? b=some {o with slots:=sl}
 free:∀b o,h.get? b=some o->H b=none->b∉ex->H' b=none
 there:∀b o,h.get? b=some o->b∉ex->∃o',h'.get? b=some o'
 tups:∀b xs,H b=some (.tup xs)->H' b=some (.tup xs)
 p_:∀b o u,H b=some (.vV o u)->H' b=some (.vV o u)
 rz:∀b ps,H b=some (.FX ps)->∃more,H' b=some (.FX (ps++more))
section
variable{fs fs' ex ex':List Addr}{H H1 H2:Hp}{h h1 h2 h':Heap}{a x e:Addr}{o:HO}
theorem Un.any(u:Un fs ex H H1 h h1){b:Addr}{ob:Obj}(q:h.get? b=some ob)(n:H b=none)(hx:b∉ex):∃sl,h1.get? b=some {ob with slots:=sl}:=by
 by_cases hb:b∈fs
 ·exact u.slot b ob q n hb hx
 ·exact⟨ob.slots,u.keep b ob q n hb hx⟩
theorem Un.kept(k:∀b u,h.get? b=some u->h'.get? b=some u):Un fs ex H H h h' :=
 ⟨λb ob q _ _ _=>k b ob q,λb ob q _ _ _=>⟨ob.slots,k b ob q⟩,λ_ _ _ n _=>n,λb ob q _=>⟨ob,k b ob q⟩,λ_ _ q=>q,λ_ _ _ q=>q,λ_ ps q=>⟨#[],by rw[q];simp⟩⟩
theorem Un.refl:Un fs ex H H h h:=Un.kept λ_ _ q=>q
theorem Un.laid(k:∀b u,h.get? b=some u->h'.get? b=some u)(hp:h.objs.size<=a)(hn:H a=none):Un fs ex H (upd H a o) h h' where
 keep:=λb u q _ _ _=>k b u q
 slot:=λb u q _ _ _=>⟨u.slots,k b u q⟩
 free:=λb u q n _=>by rw[aH (Sq (Sb (R0 q) hp))];exact n
 there:=λb u q _=>⟨u,k b u q⟩
 tups:=λb xs q=>by rw[aH (aW q hn)];exact q
 p_:=λb u xs q=>by rw[aH (aW q hn)];exact q
 rz:=λb ps q=>⟨#[],by rw[aH (aW q hn),q];simp⟩
theorem Un.write(mu:KW (H x))(he:e=x\/H e=some (.own x))(k:∀b u,b≠e->h.get? b=some u->h'.get? b=some u)(heo:∃u,h'.get? e=some u):Un fs ex H (upd H x o) h h':=by
 have hx:∀b,H b=none->b≠x:=λb n z=>by subst z;rw[n]at mu;exact mu
 have hb:∀b,H b=none->b≠e:=λb n z=>by
  subst z;rcases he with r|r
  ·exact hx b n r
  ·rw[n]at r;cases r
 have hm:∀b u,H b=some u->¬KW (some u)->b≠x:=λb u q nm z=>by subst z;rw[q]at mu;exact nm mu
 refine⟨λb u q n _ _=>k b u (hb b n) q,λb u q n _ _=>⟨u.slots,k b u (hb b n) q⟩,λb u q n _=>by rw[aH (hx b n)];exact n,λb u q _=>?_,
  λb xs q=>by rw[aH (hm b _ q λz=>z)];exact q,λb u xs q=>by rw[aH (hm b _ q λz=>z)];exact q,λb ps q=>⟨#[],by rw[aH (hm b _ q λz=>z),q];simp⟩⟩
 by_cases hbe:b=e
 ·subst hbe;exact heo
 ·exact⟨u,k b u hbe q⟩
end
def LF(h:Heap)(H:Hp):List Addr:=(List.range h.objs.size).filter λa=>(H a).isSome
def rH(h:Heap)(H:Hp):Heap:=PySem.W.hideAll h (LF h H)
theorem zM(h:Heap)(H:Hp):(rH h H).objs.size=h.objs.size:=PySem.W.hideAll_size _ _
theorem CV{h:Heap}{H:Hp}{b:Addr}{o:Obj}(e:h.get? b=some o)(n:H b=none):(rH h H).get? b=some o :=
 PySem.W.hideAll_get _ e λhm=>by have q:(H b).isSome=true:=(List.mem_filter.mp hm).2;rw[n]at q;simp at q
theorem E_{h:Heap}{H:Hp}{b:Addr}{o:Obj}(e:(rH h H).get? b=some o):h.get? b=some o/\H b=none:=by
 have e':h.get? b=some o:=PySem.W.of_hideAll (LF h H) e;refine⟨e',?_⟩;cases q:H b with
 |none=>rfl
 |some x =>have hm:b∈LF h H:=List.mem_filter.mpr ⟨List.mem_range.mpr (R0 e'),by simp[q]⟩;have z:(rH h H).get? b=none:=PySem.W.hideAll_none (LF h H) hm;rw[z]at e;cases e
structure Mod(K:S7)(mg:Str->Option Value)(base:Heap):Prop where
 Ho:K.In base
 glob:base.Ns mainGlobals mg
 blt:∃mb,base.Ns builtinsNs mb/\∀x:Str,x≠"__name__"->mb x=bootBuiltins x
 nolimit:base.NoLimit
structure Cx where
 prog:Program
 w:World
 K:S7
 mg:Str->Option Value
 base:Heap
 A:Around
 N:List Str
 s₀:Shared
 H₀:Hp
 env:Env
 outer:List Env
 stack:List Env
 ex:List Addr
 fn:Str->Bool
 calm:Bool
 pn:List (Addr×Obj)
 xe:Value->Shared->Prop
def frs(l:List Env):List Addr:=l.filterMap (·.frame)
abbrev Cx.fs(X:Cx):List Addr:=frs X.outer
def Me(sc:Scope)(x:Str):Prop:=sc.names.lookup x=some .local\/sc.names.lookup x=some .cell\/sc.names.lookup x=some .free
def Loc(sc:Scope)(x:Str):Prop:=sc.names.lookup x=some .local\/sc.names.lookup x=some .cell
def Look(env:Env)(h:Heap)(m:Str->Option Value)(x:Str)(u:Value):Prop :=
 (env.kindOf x=some .local/\m x=some u)\/((env.kindOf x=some .cell\/env.kindOf x=some .free)/\∃c,env.cells.lookup x=some c/\h.IsCell c (some u))
structure Cx.Ok(X:Cx):Prop where
 mod:Mod X.K X.mg X.base
 kind:X.env.scope.kind=.function
 glob:X.env.globals=mainGlobals
 blt:X.env.builtins=builtinsNs
 above:X.s₀.heap.objs.size<=X.env.locals
 inj:∀x y c,X.env.cells.lookup x=some c->X.env.cells.lookup y=some c->x=y
 has:∀x,(X.env.kindOf x=some .cell\/X.env.kindOf x=some .free)->∃c,X.env.cells.lookup x=some c
 cab:∀x c,X.fn x=true->X.env.cells.lookup x=some c->X.s₀.heap.objs.size<=c
 hd:X.calm=true->X.A.handled=none
 frames:X.A.frames=some X.stack
 LJ:X.stack=X.outer\/(X.stack=X.env::X.outer/\X.env.frame=some X.env.locals)
 Ac:∀b∈X.ex,b≠X.env.locals/\∀x c,X.env.cells.lookup x=some c->c≠b
 bs:∀b o,X.base.get? b=some o->X.s₀.heap.get? b=some o/\X.H₀ b=none
 DC:X.base.objs.size<=X.s₀.heap.objs.size
 Be:∀b o,X.base.get? b=some o->b∉X.ex
 rO:∀b∈X.ex,b∉X.fs
 nU:X.s₀.heap.FunFrames X.base X.outer
 ID:∀b∈X.fs,X.H₀ b=none
structure Inv(X:Cx)(ac:List (Addr×Obj))(σ:List (Option V))(H:Hp)(s:Shared):Prop where
 ok:X.Ok
 os:s.os=X.s₀.os
 bare:AllBare s.gens
 base:Un X.fs X.ex X.H₀ H X.s₀.heap s.heap
 loc:∃m,s.heap.Ns X.env.locals m/\∀(i:Nat)(x:Str)(v:V),X.N[i]? = some x->σ[i]? = some (some v)->Me X.env.scope x->∃u,RelV v u/\Look X.env s.heap m x u
 cell:∀x c,X.env.cells.lookup x=some c->∃v,s.heap.IsCell c v
 free:H X.env.locals=none
 kD:∀x c,X.env.cells.lookup x=some c->H c=none
 pin:∀p∈X.pn++ac,s.heap.get? p.1=some p.2/\H p.1=none/\p.1≠X.env.locals/\p.1∉X.fs/\∀v,p.2.data≠ .cell v
 hok:jl X.prog X.w H s.heap
 len:σ.length=X.N.length
section
variable{X:Cx}{ac:List (Addr×Obj)}{σ:List (Option V)}{H H':Hp}{s:Shared}{h':Heap}
theorem Cx.Ok.Nv(ok:X.Ok){b:Addr}{o:Obj}(e:X.base.get? b=some o):b∉X.fs:=λhb=>by have:=(ok.nU.mem hb).1;rw[e]at this;cases this
theorem Inv.bs(I:Inv X ac σ H s):∀b o,X.base.get? b=some o->s.heap.get? b=some o/\H b=none:=λb o e =>
 ⟨I.base.keep b o (I.ok.bs b o e).1 (I.ok.bs b o e).2 (I.ok.Nv e) (I.ok.Be b o e),I.base.free b o (I.ok.bs b o e).1 (I.ok.bs b o e).2 (I.ok.Be b o e)⟩
theorem Inv.bk(I:Inv X ac σ H s):∀b o,X.base.get? b=some o->s.heap.get? b=some o:=λb o e=>(I.bs b o e).1
theorem Inv.mod(I:Inv X ac σ H s):Mod X.K X.mg X.base:=I.ok.mod
theorem Inv.kH(I:Inv X ac σ H s):X.K.In s.heap:=I.ok.mod.Ho.keeps I.bk
theorem Inv.lt(I:Inv X ac σ H s):X.env.locals<s.heap.objs.size:=let ⟨_,hn,_⟩:=I.loc;hn.lt
theorem Inv.sz(I:Inv X ac σ H s):X.s₀.heap.objs.size<=s.heap.objs.size:=R4 I.ok.above (Nat.le_of_lt I.lt)
theorem Inv.Mf(I:Inv X ac σ H s){a:Addr}(h:s.heap.objs.size<=a):a∉X.fs:=λhb=>by obtain⟨_,o,ho,_⟩:=I.ok.nU.mem hb;exact SJ (Sb (R0 ho) (R4 I.sz h)) (Nat.lt_irrefl _)
theorem Inv.Hl(I:Inv X ac σ H s):∀x c,X.env.cells.lookup x=some c->c≠X.env.locals:=λx c e z=>by obtain⟨v,o,ho,hd⟩:=I.cell x c e;obtain⟨m,⟨o',es,ep,ho',hd',_⟩,_⟩:=I.loc;rw[z,ho']at ho;cases ho;rw[hd']at hd;cases hd
theorem Inv.nU(I:Inv X ac σ H s):s.heap.FunFrames X.base X.outer:=by
 have all:∀(l:List Env),(∀b∈frs l,b∈X.fs)->X.s₀.heap.FunFrames X.base l->s.heap.FunFrames X.base l:=by
  intro l;induction l with
  |nil=>intro _ _;trivial
  |cons env r ih =>intro hs hl;obtain⟨hk,⟨L,o,hf,hn,ho,hd⟩,hr⟩:=hl;have hL:L∈X.fs:=hs L (by unfold frs;rw[List.filterMap_cons,hf];exact SE);obtain⟨sl,e⟩:=I.base.slot L o ho (I.ok.ID L hL) hL λz=>I.ok.rO L z hL;exact⟨hk,⟨L,_,hf,hn,e,hd⟩,ih (λb hb=>hs b (by unfold frs;rw[List.filterMap_cons,hf];exact Sg _ hb)) hr⟩
 exact all X.outer (λ_ hb=>hb) I.ok.nU
theorem Inv.stack(I:Inv X ac σ H s):s.heap.FunFrames X.base X.stack:=by
 rcases I.ok.LJ with e|⟨e,hf⟩
 ·rw[e];exact I.nU
 ·rw[e];obtain⟨m,hn,_⟩:=I.loc;refine .cons (by rw[I.ok.kind];decide) hf hn ?_ I.nU;exact Heap.get?_none_of_le (R4 I.ok.DC I.ok.above)
theorem Inv.wq(I:Inv X ac σ H s):∀b∈frs X.stack,b∈X.env.locals::X.fs:=λb hb=>by
 rcases I.ok.LJ with e|⟨e,hf⟩
 ·rw[e]at hb;exact Sg _ hb
 ·rw[e]at hb;unfold frs at hb;rw[List.filterMap_cons,hf]at hb;exact hb
theorem Inv.n8(I:Inv X ac σ H s):∀b∈frs X.stack,H b=none:=λb hb=>by
 rcases Sm.mp (I.wq b hb)with e|hb
 ·rw[e];exact I.free
 ·obtain⟨_,o,ho,_⟩:=I.ok.nU.mem hb;exact I.base.free b o ho (I.ok.ID b hb) λz=>I.ok.rO b z hb
theorem Inv.step{g':Array GenState}{t':Nat}{d':Drawn}{ch:List Addr}(I:Inv X ac σ H s)
  (hch:∀b∈ch,(b∈X.ex\/X.s₀.heap.objs.size<=b)/\b≠X.env.locals/\(∀x c,X.env.cells.lookup x=some c->c≠b)/\∀p∈X.pn++ac,p.1≠b)
  (keep:∀b o,b≠X.env.locals->b∉X.fs->b∉ch->s.heap.get? b=some o->H b=none->h'.get? b=some o)
  (slot:∀b o,b≠X.env.locals->b∈X.fs->b∉ch->s.heap.get? b=some o->H b=none->∃sl,h'.get? b=some {o with slots:=sl}) (free:∀b o,b∉ch->s.heap.get? b=some o->H b=none->H' b=none)
  (there:∀b o,b∉ch->s.heap.get? b=some o->∃o',h'.get? b=some o')
  (tups:∀b xs,H b=some (.tup xs)->H' b=some (.tup xs)) (p_:∀b o u,H b=some (.vV o u)->H' b=some (.vV o u)) (rz:∀b ps,H b=some (.FX ps)->∃more,H' b=some (.FX (ps++more)))
  (ns:∀m,s.heap.Ns X.env.locals m->h'.Ns X.env.locals m) (hok:jl X.prog X.w H' h') (hg:AllBare g') :
  Inv X ac σ H' {s with heap:=h',gens:=g',drawn:=d',toks:=t'}:=by
 have OH:∀b o,X.s₀.heap.get? b=some o->b≠X.env.locals:=λb o e=>Sq (Sb (R0 e) I.ok.above);have Jj:∀b o,X.s₀.heap.get? b=some o->b∉X.ex->b∉ch:=λb o e hx hb=>by
  rcases(hch b hb).1 with z|z
  ·exact hx z
  ·exact SJ (Sb (R0 e) z) (Nat.lt_irrefl _)
 have cellK:∀x c,X.env.cells.lookup x=some c->∀v,s.heap.IsCell c v->h'.IsCell c v:=λx c e v ⟨o,ho,hd⟩=>by
  have Js:c∉ch:=λz=>(hch c z).2.2.1 x c e rfl;by_cases hc:c∈X.fs
  ·obtain⟨sl,q⟩:=slot c o (I.Hl x c e) hc Js ho (I.kD x c e);exact⟨_,q,hd⟩
  ·exact⟨o,keep c o (I.Hl x c e) hc Js ho (I.kD x c e),hd⟩
 refine⟨I.ok,I.os,hg,⟨λb o e n hb hx=>?_,λb o e n hb hx=>?_,λb o e n hx=>?_,λb o e hx=>?_,λb xs e=>tups b xs (I.base.tups b xs e),λb o xs e=>p_ b o xs (I.base.p_ b o xs e),λb ps e=>?_⟩,?_,λx c e=>?_,?_,λx c e=>?_,λp hp=>?_,hok,I.len⟩
 ·exact keep b o (OH b o e) hb (Jj b o e hx) (I.base.keep b o e n hb hx) (I.base.free b o e n hx)
 ·obtain⟨sl,e1⟩:=I.base.slot b o e n hb hx;obtain⟨sl',e2⟩:=slot b _ (OH b o e) hb (Jj b o e hx) e1 (I.base.free b o e n hx);exact⟨sl',e2⟩
 ·obtain⟨o',e1⟩:=I.base.there b o e hx;exact free b o' (Jj b o e hx) e1 (I.base.free b o e n hx)
 ·obtain⟨o',e1⟩:=I.base.there b o e hx;exact there b o' (Jj b o e hx) e1
 ·obtain⟨m1,e1⟩:=I.base.rz b ps e;obtain⟨m2,e2⟩:=rz b _ e1;exact⟨m1++m2,by rw[e2,Array.append_assoc]⟩
 ·obtain⟨m,hn,hl⟩:=I.loc;refine⟨m,ns m hn,λi x v e1 e2 e3=>?_⟩;obtain⟨u,r,l⟩:=hl i x v e1 e2 e3;refine⟨u,r,?_⟩;rcases l with l|⟨k,c,e,z⟩
  ·exact .inl l
  ·exact .inr ⟨k,c,e,cellK x c e _ z⟩
 ·obtain⟨v,z⟩:=I.cell x c e;exact⟨v,cellK x c e v z⟩
 ·obtain⟨m,⟨o,_,_,ho,_⟩,_⟩:=I.loc;exact free _ o (λz=>(hch _ z).2.1 rfl) ho I.free
 ·obtain⟨v,o,ho,hd⟩:=I.cell x c e;exact free c o (λz=>(hch c z).2.2.1 x c e rfl) ho (I.kD x c e)
 ·obtain⟨e,n,ne,nf,d⟩:=I.pin p hp;have Js:p.1∉ch:=λz=>(hch p.1 z).2.2.2 p hp rfl;exact⟨keep p.1 p.2 ne nf Js e n,free p.1 p.2 Js e n,ne,nf,d⟩
theorem Inv.un{t':Nat}(I:Inv X ac σ H s)(u:Un X.fs [] H H' s.heap h')(hok:jl X.prog X.w H' h'):Inv X ac σ H' {s with heap:=h',toks:=t'}:=by
 obtain⟨m,⟨o,es,ep,ho,r⟩,_⟩:=id I.loc;obtain⟨sl,hL⟩:=u.any ho I.free (by simp);exact I.step (g':=s.gens) (d':=s.drawn) (ch:=[]) (λ_ z=>nomatch z) (λb o _ hb _ e n=>u.keep b o e n hb (by simp)) (λb o _ hb _ e n=>u.slot b o e n hb (by simp)) (λb o _ e n=>u.free b o e n (by simp)) (λb o _ e=>u.there b o e (by simp)) u.tups u.p_ u.rz (λm' hm=>by obtain⟨o',es',ep',ho',r'⟩:=hm;rw[ho]at ho';cases ho';exact⟨_,es',ep',hL,r'⟩) hok I.bare
theorem Inv.call{g':Array GenState}{t':Nat}{d':Drawn}{ch:List Addr}(I:Inv X ac σ H s)(u:Un (frs X.stack) ch H H' s.heap h')(hok:jl X.prog X.w H' h')(hg:AllBare g')
  (hch:∀b∈ch,(b∈X.ex\/X.s₀.heap.objs.size<=b)/\b≠X.env.locals/\(∀x c,X.env.cells.lookup x=some c->c≠b)/\∀p∈X.pn++ac,p.1≠b) :
  Inv X ac σ H' {s with heap:=h',gens:=g',drawn:=d',toks:=t'}:=by
 obtain⟨m,⟨o,es,ep,ho,r⟩,_⟩:=id I.loc;obtain⟨sl,hL⟩:=u.any ho I.free λz=>(hch _ z).2.1 rfl;exact I.step (ch:=ch) hch (λb o hL hb hc e n=>u.keep b o e n (λz=>(Sm.mp (I.wq b z)).elim hL hb) hc) (λb o _ _ hc e n=>u.any e n hc) (λb o hc e n=>u.free b o e n hc) (λb o hc e=>u.there b o e hc) u.tups u.p_ u.rz (λm' hm=>by obtain⟨o',es',ep',ho',r'⟩:=hm;rw[ho]at ho';cases ho';exact⟨_,es',ep',hL,r'⟩) hok hg
theorem Inv.turned{t':Nat}{it:Addr}(I:Inv X ac σ H s)(k:∀b o,b≠it->s.heap.get? b=some o->h'.get? b=some o)(hn:H it=none)(hL:it≠X.env.locals)
  (h1:it∈X.ex\/X.s₀.heap.objs.size<=it) (h2:∀x c,X.env.cells.lookup x=some c->c≠it) (h3:∀p∈X.pn++ac,p.1≠it):Inv X ac σ H {s with heap:=h',toks:=t'}:=by
 have F9:∀b u,H b=some u->b≠it:=λb u e z=>by rw[z,hn]at e;cases e
 refine I.step (g':=s.gens) (d':=s.drawn) (ch:=[it]) (λb hb=>?_) (λb o _ _ hc e _=>k b o (λz=>hc (by simp[z])) e) (λb o _ _ hc e _=>⟨o.slots,k b o (λz=>hc (by simp[z])) e⟩) (λ_ _ _ _ n=>n)
  (λb o hc e=>⟨o,k b o (λz=>hc (by simp[z])) e⟩) (λ_ _ e=>e) (λ_ _ _ e=>e) (λb ps e=>⟨#[],by rw[e];simp⟩) (λm hm=>?_) (λb u e=>?_) I.bare
 ·have e:b=it:=by simpa using hb
  subst e;exact⟨h1,hL,h2,h3⟩
 ·obtain⟨o,es,ep,ho,r⟩:=hm;exact⟨o,es,ep,k _ o (Ne.symm hL) ho,r⟩
 ·refine(I.hok b u e).stay (λc v hc q=>k c v ?_ q) (λ_ q=>q) λ_ _ q=>q;rcases hc with z|z
  ·rw[z];exact F9 b u e
  ·exact F9 c _ z
theorem Inv.tok(I:Inv X ac σ H s)(t:Nat):Inv X ac σ H {s with toks:=t}:=I.un (h':=s.heap) (t':=t) Un.refl I.hok
theorem Inv.kept{t':Nat}(I:Inv X ac σ H s)(k:∀b u,s.heap.get? b=some u->h'.get? b=some u):Inv X ac σ H {s with heap:=h',toks:=t'}:=I.un (Un.kept k) (I.hok.kept k)
theorem Inv.laid{a:Addr}{o:HO}{t':Nat}(I:Inv X ac σ H s)(k:∀b u,s.heap.get? b=some u->h'.get? b=some u)(hp:s.heap.objs.size<=a)(new:cf X.prog X.w (upd H a o) h' a o) :
  Inv X ac σ (upd H a o) {s with heap:=h',toks:=t'}:=I.un (Un.laid k hp (I.hok.fresh hp)) (I.hok.laid k hp new)
theorem Inv.write{x e:Addr}{o:HO}{t':Nat}(I:Inv X ac σ H s)(mu:KW (H x))(he:e=x\/H e=some (.own x))(k:∀b u,b≠e->s.heap.get? b=some u->h'.get? b=some u)(heo:∃u,h'.get? e=some u)
  (new:cf X.prog X.w (upd H x o) h' x o):Inv X ac σ (upd H x o) {s with heap:=h',toks:=t'}:=I.un (Un.write mu he k heo) (I.hok.write mu he k heo new)
theorem Inv.gQ{pins':List (Addr×Obj)}(I:Inv X ac σ H s)(h:∀p∈pins',s.heap.get? p.1=some p.2/\H p.1=none/\p.1≠X.env.locals/\p.1∉X.fs/\∀v,p.2.data≠ .cell v):Inv X pins' σ H s :=
 ⟨I.ok,I.os,I.bare,I.base,I.loc,I.cell,I.free,I.kD,λp hp=>(So.mp hp).elim (λz=>I.pin p (List.mem_append_left _ z)) (h p),I.hok,I.len⟩
theorem ua{N:List Str}(hN:N.Nodup){i j:Nat}{x:Str}(a:N[i]? = some x)(b:N[j]? = some x):i=j:=by obtain⟨h1,e1⟩:=Sj.mp a;obtain⟨h2,e2⟩:=Sj.mp b;exact(List.getElem_inj hN).mp (e1.trans e2.symm)
theorem mQ{M:Model}{A:Around}{E:Value->Shared->Prop}{i:Nat}{x:Str}{v:V}{u:Value}{Q:Unit->Shared->Prop}(I:Inv X ac σ H s)(hN:X.N.Nodup)(hi:X.N[i]? = some x)(hx:Loc X.env.scope x)(r:RelV v u)
  (h:∀s',Inv X ac (σ.set i (some v)) H s'->(∃a,Heap.SameBut a s.heap s'.heap/\(a=X.env.locals\/X.env.cells.lookup x=some a))->Q () s') (hf:X.fn x=true\/X.env.scope.names.lookup x=some .local:=by first|exact .inl rfl|exact .inr rfl|assumption):wpAny M A (storeName X.env x u) Q E s:=by
 obtain⟨m,hn,hl⟩:=id I.loc;have hcls:(X.env.scope.kind == .class||(X.env.scope.kind == .module&&X.env.locals != X.env.globals))=false:=by rw[I.ok.kind];rfl
 have KA:i<σ.length:=by rw[I.len];exact(Sj.mp hi).1
 have Hl:=I.Hl;have tracked:∀{a:Addr}{h':Heap},(∃o,s.heap.get? a=some o/\H a=none)->Heap.SameBut a s.heap h'->jl X.prog X.w H h':=λ{a h'} ha hs b ob e=>by
  obtain⟨_,_,hfree⟩:=ha;refine(I.hok b ob e).stay (λc w' hc q=>(hs.2 c ?_).trans q) (λ_ q=>q) λ_ _ q=>q;rintro rfl;rcases hc with rfl|hc
  ·rw[hfree]at e;cases e
  ·rw[hfree]at hc;cases hc
 rcases hx with hk|hk
 ·refine wpAny_storeName_local hk hn (λh' hn' hs=>?_) hcls;obtain⟨oL,_,_,hoL,_⟩:=id hn;refine h _ ⟨I.ok,I.os,I.bare,⟨λb o e n hb hx=>?_,λb o e n hb hx=>?_,I.base.free,λb o e hx=>?_,I.base.tups,I.base.p_,I.base.rz⟩,⟨_,hn',λj y v' e1 e2 e3=>?_⟩,λy c e=>?_,I.free,I.kD,λp hp=>?_,tracked ⟨oL,hoL,I.free⟩ hs,by simpa using I.len⟩ ⟨_,hs,.inl rfl⟩
  ·exact(hs.2 b (Sq (Sb (R0 e) I.ok.above))).trans (I.base.keep b o e n hb hx)
  ·obtain⟨sl,e1⟩:=I.base.slot b o e n hb hx;exact⟨sl,(hs.2 b (Sq (Sb (R0 e) I.ok.above))).trans e1⟩
  ·obtain⟨o',e1⟩:=I.base.there b o e hx;exact⟨o',(hs.2 b (Sq (Sb (R0 e) I.ok.above))).trans e1⟩
  ·by_cases hj:j=i
   ·subst hj;rw[hi]at e1;cases e1;rw[List.getElem?_set_self KA]at e2;cases e2;exact⟨u,r,.inl ⟨hk,by simp⟩⟩
   ·rw[List.getElem?_set_ne (Ne.symm hj)]at e2;obtain⟨u',r',q⟩:=hl j y v' e1 e2 e3;refine⟨u',r',?_⟩;rcases q with⟨k,e⟩|⟨k,c,e,z⟩
    ·refine .inl ⟨k,?_⟩;have:y≠x:=λe=>hj (ua hN e1 (e▸hi));simp[this,e]
    ·exact .inr ⟨k,c,e,z.sameBut hs (Hl y c e)⟩
  ·obtain⟨w',z⟩:=I.cell y c e;exact⟨w',z.sameBut hs (Hl y c e)⟩
  ·obtain⟨e,n,ne,nf,d⟩:=I.pin p hp;exact⟨(hs.2 p.1 ne).trans e,n,ne,nf,d⟩
 ·have hfn:X.fn x=true:=by
   rcases hf with z|z
   ·exact z
   ·rw[z]at hk;cases hk
  obtain⟨c,hc⟩:=I.ok.has x (.inl hk);obtain⟨w',z⟩:=I.cell x c hc;refine wpAny_storeName_cell I.ok.kind hk hc z (λh' hc' hs=>?_);obtain⟨oc,hoc,MZ⟩:=id z;refine h {s with heap:=h'} ⟨I.ok,I.os,I.bare,⟨λb o e n hb hx=>?_,λb o e n hb hx=>?_,I.base.free,λb o e hx=>?_,I.base.tups,I.base.p_,I.base.rz⟩,⟨m,hn.sameBut hs (Ne.symm (Hl x c hc)),λj y v' e1 e2 e3=>?_⟩,λy c' e=>?_,I.free,I.kD,λp hp=>?_,tracked ⟨oc,hoc,I.kD x c hc⟩ hs,by simpa using I.len⟩ ⟨c,hs,.inr hc⟩
  ·exact(hs.2 b (Sq (Sb (R0 e) (I.ok.cab x c hfn hc)))).trans (I.base.keep b o e n hb hx)
  ·obtain⟨sl,e1⟩:=I.base.slot b o e n hb hx;exact⟨sl,(hs.2 b (Sq (Sb (R0 e) (I.ok.cab x c hfn hc)))).trans e1⟩
  ·obtain⟨o',e1⟩:=I.base.there b o e hx;exact⟨o',(hs.2 b (Sq (Sb (R0 e) (I.ok.cab x c hfn hc)))).trans e1⟩
  ·by_cases hj:j=i
   ·subst hj;rw[hi]at e1;cases e1;rw[List.getElem?_set_self KA]at e2;cases e2;exact⟨u,r,.inr ⟨.inl hk,c,hc,hc'⟩⟩
   ·rw[List.getElem?_set_ne (Ne.symm hj)]at e2;obtain⟨u',r',q⟩:=hl j y v' e1 e2 e3;refine⟨u',r',?_⟩;rcases q with q|⟨k,c',e,z'⟩
    ·exact .inl q
    ·refine .inr ⟨k,c',e,z'.sameBut hs ?_⟩;rintro rfl;exact hj (ua hN e1 (I.ok.inj _ _ _ e hc▸hi))
  ·by_cases hcc:c'=c
   ·subst hcc;exact⟨_,hc'⟩
   ·obtain⟨w2,z2⟩:=I.cell y c' e;exact⟨w2,z2.sameBut hs hcc⟩
  ·obtain⟨e,n,ne,nf,d⟩:=I.pin p hp;refine⟨(hs.2 p.1 ?_).trans e,n,ne,nf,d⟩;intro q;rw[q,hoc]at e;have q':oc=p.2:=Ss e;exact d w' (by rw[←q'];exact MZ)
theorem ly{M:Model}{A:Around}{E:Value->Shared->Prop}{i:Nat}{x:Str}{v:V}{u:Value}{Q:Unit->Shared->Prop}(I:Inv X ac σ H s)(hN:X.N.Nodup)(hi:X.N[i]? = some x)(hx:Loc X.env.scope x)(r:RelV v u)
  (h:∀s',Inv X ac (σ.set i (some v)) H s'->Q () s') (hf:X.fn x=true\/X.env.scope.names.lookup x=some .local:=by first|exact .inl rfl|exact .inr rfl|assumption):wpAny M A (storeName X.env x u) Q E s :=
 mQ I hN hi hx r (λs' I' _=>h s' I') hf
theorem Inv.call'{s':Shared}{ch:List Addr}(I:Inv X ac σ H s)(ho:s'.os=s.os)(u:Un (frs X.stack) ch H H' s.heap s'.heap)(hok:jl X.prog X.w H' s'.heap)(hg:AllBare s'.gens)
  (hch:∀b∈ch,(b∈X.ex\/X.s₀.heap.objs.size<=b)/\b≠X.env.locals/\(∀x c,X.env.cells.lookup x=some c->c≠b)/\∀p∈X.pn++ac,p.1≠b):Inv X ac σ H' s':=by
 obtain⟨h',g',d',t',o'⟩:=s';have e:o'=s.os:=ho;subst e;exact I.call (g':=g') (t':=t') (d':=d') u hok hg hch
end
abbrev XK:=Value->Option Addr->Hp->Prop
abbrev St:=List (Option V)
abbrev VK:=V->Hp->Prop
abbrev TE:=St->Hp->VK->Prop
abbrev TT:=St->Hp->(Bool->Hp->Prop)->Prop
abbrev TA:=St->Hp->(List V->Hp->Prop)->Prop
structure Ends where
 nx:St->Hp->Prop
 rt:VK
 bk:St->Hp->Prop:=λ_ _=>False
 ct:St->Hp->Prop:=λ_ _=>False
abbrev TS:=Ends->St->Hp->Prop
def EP(X:Cx)(ac:List (Addr×Obj))(σ:St)(Q:VK)(u:Value)(s':Shared):Prop:=∃v H',Inv X ac σ H' s'/\RelV v u/\Q v H'
def TP(X:Cx)(ac:List (Addr×Obj))(σ:St)(Q:Bool->Hp->Prop)(b:Bool)(s':Shared):Prop:=∃H',Inv X ac σ H' s'/\Q b H'
def AP(X:Cx)(ac:List (Addr×Obj))(σ:St)(Q:List V->Hp->Prop)(us:List Value)(s':Shared):Prop:=∃vs H',Inv X ac σ H' s'/\Vals vs us/\Q vs H'
def SP(X:Cx)(ac:List (Addr×Obj))(D:Ends)(f:Flow)(s':Shared):Prop :=
 match f with
 | .next=>∃σ' H',Inv X ac σ' H' s'/\D.nx σ' H'
 | .brk=>∃σ' H',Inv X ac σ' H' s'/\D.bk σ' H'
 | .cont=>∃σ' H',Inv X ac σ' H' s'/\D.ct σ' H'
 | .ret u=>∃v σ' H',Inv X ac σ' H' s'/\RelV v u/\D.rt v H'
def PE(X:Cx)(e:Expr)(t:TE):Prop :=
 ∀(ac:List (Addr×Obj))(s:Shared)(σ:St)(H:Hp)(Q:VK),Inv X ac σ H s->t σ H Q->wpAny (model X.prog X.w) X.A (eval e X.env) (EP X ac σ Q) X.xe s
def PT(X:Cx)(e:Expr)(t:TT):Prop :=
 ∀(ac:List (Addr×Obj))(s:Shared)(σ:St)(H:Hp)(Q:Bool->Hp->Prop),Inv X ac σ H s->t σ H Q->wpAny (model X.prog X.w) X.A (isTrue e X.env (eval e X.env)) (TP X ac σ Q) X.xe s
def PW(X:Cx)(e:Expr)(t:TT):Prop :=
 ∀(whole:Sem Value)(ac:List (Addr×Obj))(s:Shared)(σ:St)(H:Hp)(Q:Bool->Hp->Prop),Inv X ac σ H s->t σ H Q->wpAny (model X.prog X.w) X.A (isTrue e X.env whole) (TP X ac σ Q) X.xe s
theorem PW.pt{X:Cx}{e:Expr}{t:TT}(h:PW X e t):PT X e t:=h _
def PA(X:Cx)(es:List Expr)(t:TA):Prop :=
 ∀(pos:Pos)(ac:List (Addr×Obj))(s:Shared)(σ:St)(H:Hp)(Q:List V->Hp->Prop),Inv X ac σ H s->t σ H Q->wpAny (model X.prog X.w) X.A (spliced (backTo pos (starEach es X.env))) (AP X ac σ Q) X.xe s
def PS(X:Cx)(st:Stmt)(t:TS):Prop :=
 ∀(ac:List (Addr×Obj))(s:Shared)(σ:St)(H:Hp)(D:Ends),Inv X ac σ H s->t D σ H->wpAny (model X.prog X.w) X.A (exec st X.env) (SP X ac D) X.xe s
def qU(X:Cx)(st:List Stmt)(t:TS):Prop :=
 ∀(ac:List (Addr×Obj))(s:Shared)(σ:St)(H:Hp)(D:Ends),Inv X ac σ H s->t D σ H->wpAny (model X.prog X.w) X.A (execs st X.env) (SP X ac D) X.xe s
theorem bO{α:Type}{t:Sem α}{Q Q':α->Shared->Prop}{M:Model}{A:Around}{E:Value->Shared->Prop}{s:Shared}(h:wpAny M A t Q E s)(hQ:∀a s,Q a s->Q' a s):wpAny M A t Q' E s:=Sz h hQ λ_ _ x=>x
section
variable{X:Cx}
def bp(i:Nat):TE:=λσ H Q=>∃v,σ[i]? = some (some v)/\Q v H
def tC(v:V):TE:=λ_ H Q=>Q v H
theorem vF{i:Nat}{x:Str}{pos:Pos}(hN:X.N[i]? = some x)(hv:Me X.env.scope x)(hd:(x==("__debug__" : Str))=false:=by decide)(hcd:(x==("__classdict__" : Str))=false:=by decide):PE X (.Name x pos) (bp i):=by
 intro ac s σ H Q I h;obtain⟨v,e,h⟩:=h;obtain⟨m,hn,hl⟩:=I.loc;obtain⟨u,r,l⟩:=hl i x v hN e hv;have fin:EP X ac σ Q u s:=⟨v,H,I,r,h⟩;rcases l with⟨hk,hm⟩|⟨hk,c,hc,hcell⟩
 ·exact wpAny_Name (wpAny_loadName_local I.ok.kind hk hn hm fin) hd
 ·rcases hk with hk|hk
  ·exact wpAny_Name (wpAny_loadName_cell I.ok.kind hk hc hcell fin) hd
  ·exact wpAny_Name (wpAny_loadName_free I.ok.kind hk hc hcell fin hcd) hd
theorem ai{i j pos}:PE X (.Constant (.int i) j pos) (tC (.int i)):=λ_ _ _ H _ I h=>wpAny_Constant_int ⟨.int i,H,I.tok _,⟨_,rfl⟩,h⟩
theorem cC{b j pos}:PE X (.Constant (.bool b) j pos) (tC (.bl b)):=λ_ _ _ H _ I h=>Constant_bool ⟨.bl b,H,I,rfl,h⟩
theorem fh{j pos}:PE X (.Constant .none j pos) (tC .non):=λ_ _ _ H _ I h=>Constant_none ⟨.non,H,I,rfl,h⟩
theorem av{x j pos}:PE X (.Constant (.str x) j pos) (tC (.str x)):=λ_ _ _ H _ I h=>Calls.Constant_str ⟨.str x,H,I.tok _,⟨_,rfl⟩,h⟩
def Gl(X:Cx)(x:Str):Prop:=X.env.kindOf x=some .globalImplicit
theorem n9{E:Value->Shared->Prop}{ac:List (Addr×Obj)}{s:Shared}{σ:St}{H:Hp}{x:Str}{u:Value}{pos:Pos}{Q:Value->Shared->Prop}(I:Inv X ac σ H s)(hg:Gl X x)(hm:X.mg x=some u)(h:Q u s)
  (hd:(x==("__debug__" : Str))=false:=by decide):wpAny (model X.prog X.w) X.A (eval (.Name x pos) X.env) Q E s :=
 Calls.Name_function_global I.ok.kind hg (Calls.loadGlobal_global (by rw[I.ok.glob];exact I.mod.glob.keeps I.bk) hm h) hd
theorem i0{E:Value->Shared->Prop}{ac:List (Addr×Obj)}{s:Shared}{σ:St}{H:Hp}{x:Str}{u:Value}{pos:Pos}{Q:Value->Shared->Prop}(I:Inv X ac σ H s)(hg:Gl X x)(hm:X.mg x=none)(hv:bootBuiltins x=some u)(h:Q u s)
  (hn:x≠"__name__":=by decide) (hd:(x==("__debug__" : Str))=false:=by decide):wpAny (model X.prog X.w) X.A (eval (.Name x pos) X.env) Q E s:=by
 obtain⟨mb,h1,h2⟩:=I.mod.blt;exact Calls.Name_function_global I.ok.kind hg (Calls.loadGlobal_builtin (by rw[I.ok.glob];exact I.mod.glob.keeps I.bk) hm (by rw[I.ok.blt];exact h1.keeps I.bk) ((h2 x hn).trans hv) h) hd
theorem cz{x:Str}{v:V}{u:Value}{pos:Pos}(hg:Gl X x)(hm:X.mg x=some u)(r:RelV v u)(hd:(x==("__debug__" : Str))=false:=by decide):PE X (.Name x pos) (tC v) :=
 λ_ _ _ H _ I h=>n9 I hg hm ⟨v,H,I,r,h⟩ hd
theorem DX{x:Str}{v:V}{u:Value}{pos:Pos}(hg:Gl X x)(hm:X.mg x=none)(hv:bootBuiltins x=some u)(r:RelV v u)(hn:x≠"__name__":=by decide)(hd:(x==("__debug__" : Str))=false:=by decide):PE X (.Name x pos) (tC v) :=
 λ_ _ _ H _ I h=>i0 I hg hm hv ⟨v,H,I,r,h⟩ hn hd
variable{a b:Expr}{ta tb:TE}{pos:Pos}
def tB(t:TE):TT:=λσ H Q=>t σ H λx H1=>∃c,x=.bl c/\Q c H1
theorem fA{e:Expr}{t:TE}(h:PE X e t)(he:∀whole,isTrue e X.env whole=(do let v←whole;standAt e.pos;holding [v] (truthy v)):=by intro _;rfl):PT X e (tB t):=by intro ac s σ H Q I hw;refine isTrue_plain (bO (h ac s σ H _ I hw) λv s1 zz=>?_) (he _);obtain⟨x,H1,I1,r1,q1⟩:=zz;obtain⟨d,rfl,q⟩:=q1;cases r1;exact wpAny_truthy_bool ⟨H1,I1,q⟩
variable{tA L8:TT}{rest:List Expr}
def JE(t u:TT):TT:=λσ H Q=>t σ H λc H1=>if c=true then u σ H1 Q else Q false H1
def Ol(t u:TT):TT:=λσ H Q=>t σ H λc H1=>if c=true then Q true H1 else u σ H1 Q
def MR(t:TT):TT:=λσ H Q=>t σ H λc H1=>Q (!c) H1
theorem j9(ha:PT X a tA):PW X (.BoolOp .And [a] pos) tA:=by
 intro wh ac s σ H Q I h;refine isTrue_and (bO (ha ac s σ H Q I h) λc s1 e=>?_);cases c with
 |true=>exact isTrue_and_nil e
 |false=>exact e
theorem oN(ha:PT X a tA):PW X (.BoolOp .Or [a] pos) tA:=by
 intro wh ac s σ H Q I h;refine isTrue_or (bO (ha ac s σ H Q I h) λc s1 e=>?_);cases c with
 |false=>exact isTrue_or_nil e
 |true=>exact e
theorem jX(ha:PT X a tA)(hb:PW X (.BoolOp .And (b::rest) pos) L8):PW X (.BoolOp .And (a::b::rest) pos) (JE tA L8):=by
 intro wh ac s σ H Q I h;refine isTrue_and (bO (ha ac s σ H _ I h) λc s1 zz=>?_);obtain⟨H1,I1,q1⟩:=zz;cases c with
 |true=>exact hb wh ac s1 σ H1 Q I1 q1
 |false=>exact⟨H1,I1,q1⟩
theorem tE(ha:PT X a tA)(hb:PW X (.BoolOp .Or (b::rest) pos) L8):PW X (.BoolOp .Or (a::b::rest) pos) (Ol tA L8):=by
 intro wh ac s σ H Q I h;refine isTrue_or (bO (ha ac s σ H _ I h) λc s1 zz=>?_);obtain⟨H1,I1,q1⟩:=zz;cases c with
 |true=>exact⟨H1,I1,q1⟩
 |false=>exact hb wh ac s1 σ H1 Q I1 q1
theorem kR(ha:PT X a tA):PT X (.UnaryOp .Not a pos) (MR tA):=by intro ac s σ H Q I h;exact isTrue_not (ha ac s σ H (λc H1=>Q (!c) H1) I h)
def xp(ta tb:TE):TE:=λσ H Q=>ta σ H λx H1=>∃c,x=.bl c/\if c=true then tb σ H1 Q else Q (.bl false) H1
def KU(ta tb:TE):TE:=λσ H Q=>ta σ H λx H1=>∃c,x=.bl c/\if c=true then Q (.bl true) H1 else tb σ H1 Q
theorem d_{op}{t:TE}(h:PE X a t):PE X (.BoolOp op [a] pos) t:=λac s σ H Q I hw=>BoolOp_one (h ac s σ H Q I hw)
theorem gr(ha:PE X a ta)(hb:PE X (.BoolOp .And (b::rest) pos) tb):PE X (.BoolOp .And (a::b::rest) pos) (xp ta tb):=by
 intro ac s σ H Q I h;refine BoolOp_and (bO (ha ac s σ H _ I h) λv s1 zz=>?_);obtain⟨x,H1,I1,r1,q1⟩:=zz;obtain⟨c,rfl,q1⟩:=q1;cases r1;refine wpAny_truthy_bool ?_;cases c with
 |true=>exact hb ac s1 σ H1 Q I1 q1
 |false=>exact⟨.bl false,H1,I1,rfl,q1⟩
theorem x8(ha:PE X a ta)(hb:PE X (.BoolOp .Or (b::rest) pos) tb):PE X (.BoolOp .Or (a::b::rest) pos) (KU ta tb):=by
 intro ac s σ H Q I h;refine BoolOp_or (bO (ha ac s σ H _ I h) λv s1 zz=>?_);obtain⟨x,H1,I1,r1,q1⟩:=zz;obtain⟨c,rfl,q1⟩:=q1;cases r1;refine wpAny_truthy_bool ?_;cases c with
 |false=>exact hb ac s1 σ H1 Q I1 q1
 |true=>exact⟨.bl true,H1,I1,rfl,q1⟩
def Pn(t:TT)(ta tb:TE):TE:=λσ H Q=>t σ H λc H1=>if c=true then ta σ H1 Q else tb σ H1 Q
theorem lJ{c:Expr}(hc:PT X c tA)(ha:PE X a ta)(hb:PE X b tb):PE X (.IfExp c a b pos) (Pn tA ta tb):=by
 intro ac s σ H Q I h;refine wpAny_IfExp (bO (hc ac s σ H _ I h) λd s1 zz=>?_);obtain⟨H1,I1,q1⟩:=zz;cases d with
 |true=>exact ha ac s1 σ H1 Q I1 q1
 |false=>exact hb ac s1 σ H1 Q I1 q1
end
def bc(K:S7)(H:Hp)(a:Addr)(xs:List V):Prop :=
 Rd H a (.lst xs)\/
  ∃(o:Obj)(its:Array Value)(n:Nat),K.lookup a=some o/\o.cls=.type "list"/\o.dict=none/\o.data=.seq its n/\its.size<=sizeLine/\Vals xs its.toList
def aP(K:S7)(H:Hp)(a:Addr)(xs:List V):Prop :=
 Rd H a (.tup xs)\/
  ∃(o:Obj)(its:Array Value)(n:Nat),K.lookup a=some o/\o.cls=.type "tuple"/\o.data=.seq its n/\its.size<=sizeLine/\Vals xs its.toList
def Mu:Value->Option V
 | .none=>some .non
 | .bool b=>some (.bl b)
 | .int i _=>some (.int i)
 | .str x _=>some (.str x)
 | .bytes b _=>some (.zy b)
 | .float b _=>some (.flt b)
 | .ref a=>some (.ref a)
 | .type n=>some (.ty n)
 |_=>none
theorem RelV.abs{x:V}{u:Value}(r:RelV x u):Mu u=some x:=by
 cases x with
 |non=>cases r;rfl
 |bl _=>cases r;rfl
 |int _=>obtain⟨t,rfl⟩:=r;rfl
 |str _=>obtain⟨t,rfl⟩:=r;rfl
 |zy _=>obtain⟨t,rfl⟩:=r;rfl
 |flt _=>obtain⟨t,rfl⟩:=r;rfl
 |ref _=>cases r;rfl
 |ty _=>cases r;rfl
theorem RelV.inj{x y:V}{u:Value}(r:RelV x u)(q:RelV y u):x=y:=Ss (r.abs.symm.trans q.abs)
theorem Vals.inj{xs ys:List V}{us:List Value}(h:Vals xs us)(g:Vals ys us):xs=ys:=by
 induction h generalizing ys with
 |nil=>cases g;rfl
 |cons r t ih=>cases g with
  |cons r' t'=>rw[r.inj r',ih t']
section
variable{X:Cx}{ac:List (Addr×Obj)}{σ:St}{H:Hp}{s:Shared}{a:Addr}{xs ys:List V}
theorem bc.of{K:S7}(h:H a=some (.lst xs)):bc K H a xs:=.inl (.inl h)
theorem aP.of{K:S7}(h:H a=some (.tup xs)):aP K H a xs:=.inl (.inl h)
theorem Inv.list(I:Inv X ac σ H s)(h:bc X.K H a xs):∃its:List Value,Vals xs its/\PlainL s.heap a its.toArray/\xs.length<=sizeLine:=by
 rcases h with h|⟨o,its,n,hk,hc,hd,hs,hz,r⟩
 ·obtain⟨z,its,n,r,e⟩:=h.ok I.hok;exact⟨its,r,⟨_,n,e,rfl,rfl,rfl⟩,z⟩
 ·refine⟨its.toList,r,⟨o,n,I.kH a o hk,hc,hd,by simpa using hs⟩,?_⟩;have e:=r.length;simp only[S3]at e;omega
theorem Inv.tuple(I:Inv X ac σ H s)(h:aP X.K H a xs):∃its:List Value,Vals xs its/\IsTup s.heap a its.toArray/\xs.length<=sizeLine:=by
 rcases h with h|⟨o,its,n,hk,hc,hs,hz,r⟩
 ·obtain⟨z,its,r,p⟩:=h.ok I.hok;exact⟨its,r,p.tup,z⟩
 ·refine⟨its.toList,r,⟨o,I.kH a o hk,hc,n,by simpa using hs⟩,?_⟩;have e:=r.length;simp only[S3]at e;omega
theorem Inv.Am(I:Inv X ac σ H s)(h:bc X.K H a xs)(h':bc X.K H a ys):xs=ys:=by
 obtain⟨its,r,⟨o,n,e,_,_,d⟩,_⟩:=I.list h;obtain⟨its',r',⟨o',n',e',_,_,d'⟩,_⟩:=I.list h';rw[e]at e';cases e';rw[d]at d';injection d' with d1 _;have:its=its':=by simpa using congrArg Array.toList d1
 subst this;exact r.inj r'
theorem Inv.mi(I:Inv X ac σ H s)(h:aP X.K H a xs)(h':aP X.K H a ys):xs=ys:=by
 obtain⟨its,r,⟨o,e,_,n,d⟩,_⟩:=I.tuple h;obtain⟨its',r',⟨o',e',_,n',d'⟩,_⟩:=I.tuple h';rw[e]at e';cases e';rw[d]at d';injection d' with d1 _;have:its=its':=by simpa using congrArg Array.toList d1
 subst this;exact r.inj r'
end
abbrev Cx.wish(X:Cx)(E:Value->Shared->Prop):Cx:={X with xe:=E}
abbrev Cx.yi(X:Cx):Cx:=X.wish λ_ _=>False
theorem Cx.Ok.wish{X:Cx}(ok:X.Ok)(E:Value->Shared->Prop):(X.wish E).Ok :=
 ⟨ok.mod,ok.kind,ok.glob,ok.blt,ok.above,ok.inj,ok.has,ok.cab,ok.hd,ok.frames,ok.LJ,ok.Ac,ok.bs,ok.DC,ok.Be,ok.rO,ok.nU,ok.ID⟩
theorem Cx.Ok.dq{X:Cx}{E:Value->Shared->Prop}(ok:(X.wish E).Ok):X.Ok :=
 ⟨ok.mod,ok.kind,ok.glob,ok.blt,ok.above,ok.inj,ok.has,ok.cab,ok.hd,ok.frames,ok.LJ,ok.Ac,ok.bs,ok.DC,ok.Be,ok.rO,ok.nU,ok.ID⟩
section
variable{X:Cx}{ac:List (Addr×Obj)}{σ:St}{H:Hp}{s:Shared}{E:Value->Shared->Prop}
theorem Inv.wish(I:Inv X ac σ H s)(E:Value->Shared->Prop):Inv (X.wish E) ac σ H s:=⟨I.ok.wish E,I.os,I.bare,I.base,I.loc,I.cell,I.free,I.kD,I.pin,I.hok,I.len⟩
theorem Inv.dq(I:Inv (X.wish E) ac σ H s):Inv X ac σ H s:=⟨I.ok.dq,I.os,I.bare,I.base,I.loc,I.cell,I.free,I.kD,I.pin,I.hok,I.len⟩
theorem SP.dq{D:Ends}{f:Flow}{s':Shared}(h:SP (X.wish E) ac D f s'):SP X ac D f s':=by
 cases f with
 |next=>obtain⟨σ',H',I,q⟩:=h;exact⟨σ',H',I.dq,q⟩
 |brk=>obtain⟨σ',H',I,q⟩:=h;exact⟨σ',H',I.dq,q⟩
 |cont=>obtain⟨σ',H',I,q⟩:=h;exact⟨σ',H',I.dq,q⟩
 |ret u=>obtain⟨v,σ',H',I,r,q⟩:=h;exact⟨v,σ',H',I.dq,r,q⟩
theorem PE.yi{e:Expr}{t:TE}(h:PE X.yi e t):PE X e t:=λac s σ H Q I hw =>
 Sz (h ac s σ H Q (I.wish _) hw) (λ_ _ ⟨v,H',I',r,q⟩=>⟨v,H',I'.dq,r,q⟩) λ_ _ z=>SS z
theorem qU.yi{st:List Stmt}{t:TS}(h:qU X.yi st t):qU X st t:=λac s σ H D I hw =>
 Sz (h ac s σ H D (I.wish _) hw) (λ_ _ q=>q.dq) λ_ _ z=>SS z
end
section
variable{X:Cx}{st:Stmt}{rest:List Stmt}{t u:TS}{e:Expr}{te:TE}{pos:Pos}
def sZ:TS:=λD σ H=>D.nx σ H
def uA(t u:TS):TS:=λD σ H=>t {D with nx:=u D} σ H
theorem dk:qU X [] sZ:=λ_ _ σ H _ I h=>wpAny_execs_nil ⟨σ,H,I,h⟩
theorem ak(h1:PS X st t)(h2:qU X rest u):qU X (st::rest) (uA t u):=by
 intro ac s σ H D I h;refine wpAny_execs_cons (bO (h1 ac s σ H {D with nx:=u D} I h) λf s1 q=>?_);cases f with
 |next =>obtain⟨σ',H',I',q⟩:=q;exact h2 ac s1 σ' H' D I' q
 |ret v=>exact q
 |brk=>exact q
 |cont=>exact q
theorem cb(h1:PS X st t):qU X [st] t:=by
 intro ac s σ H D I h;refine wpAny_execs_cons (bO (h1 ac s σ H D I h) λf s1 q=>?_);cases f with
 |next=>exact wpAny_execs_nil q
 |ret v=>exact q
 |brk=>exact q
 |cont=>exact q
theorem Inv.quiet{ac:List (Addr×Obj)}{σ:St}{H:Hp}{s:Shared}(I:Inv X ac σ H s):interactive X.env=false:=by simp[interactive,I.ok.kind]
def Kk(te:TE):TS:=λD σ H=>te σ H λ_ H1=>D.nx σ H1
theorem cY(he:PE X e te)(hs:swapsWith e none pos.line X.env=pure false:=by rfl):PS X (.Expr e pos) (Kk te):=by intro ac s σ H D I h;exact wpAny_Expr_any (bO (he ac s σ H _ I h) λv s1 ⟨x,H1,I1,r1,q1⟩=>⟨σ,H1,I1,q1⟩) I.quiet hs
def EI(te:TE):TS:=λD σ H=>te σ H D.rt
theorem H_(he:PE X e te):PS X (.Return (some e) pos) (EI te):=by intro ac s σ H D I h;exact wpAny_Return_some (bO (he ac s σ H _ I h) λv s1 ⟨x,H1,I1,r1,q1⟩=>⟨x,σ,H1,I1,r1,q1⟩)
def Eh(c:TT)(t u:TS):TS:=λD σ H=>c σ H λb H1=>if b=true then t D σ H1 else u D σ H1
theorem gN{c:Expr}{a b:List Stmt}{tc:TT}(hc:PT X c tc)(ha:qU X a t)(hb:qU X b u):PS X (.If c a b pos) (Eh tc t u):=by
 intro ac s σ H D I h;refine wpAny_If (bO (hc ac s σ H _ I h) λd s1 zz=>?_);obtain⟨H1,I1,q1⟩:=zz;cases d with
 |true=>exact ha ac s1 σ H1 D I1 q1
 |false=>exact hb ac s1 σ H1 D I1 q1
end
abbrev TG:=V->St->Hp->(St->Hp->Prop)->Prop
abbrev IQ:=List V->St->Hp->(St->Hp->Prop)->Prop
def PG(X:Cx)(target:Expr)(t:TG):Prop :=
 ∀(ac:List (Addr×Obj))(s:Shared)(σ:St)(H:Hp)(v:V)(u:Value)(Q:St->Hp->Prop),Inv X ac σ H s->RelV v u->t v σ H Q->
  wpAny (model X.prog X.w) X.A (assign target X.env u) (λ_ s'=>∃σ' H',Inv X ac σ' H' s'/\Q σ' H') X.xe s
def LS(X:Cx)(ts:List Expr)(t:IQ):Prop :=
 ∀(ac:List (Addr×Obj))(s:Shared)(σ:St)(H:Hp)(vs:List V)(us:List Value)(Q:St->Hp->Prop),Inv X ac σ H s->Vals vs us->t vs σ H Q->
  wpAny (model X.prog X.w) X.A (assignInOrder ((assignEach ts X.env).map (·.2)) us) (λ_ s'=>∃σ' H',Inv X ac σ' H' s'/\Q σ' H') X.xe s
abbrev GK:=V->V->V->Hp->(Hp->Prop)->Prop
def Lv(X:Cx)(t:GK):Prop :=
 ∀(ac:List (Addr×Obj))(s:Shared)(σ:St)(H:Hp)(o i v:V)(ov iv u:Value)(Q:Hp->Prop),Inv X ac σ H s->RelV o ov->RelV i iv->RelV v u->t o i v H Q->
  wpAny (model X.prog X.w) X.A (setItem ov iv u) (λ_ s'=>∃H',Inv X ac σ H' s'/\Q H') X.xe s
section
variable{X:Cx}{pos:Pos}
def bT(i:Nat):TG:=λv σ H Q=>Q (σ.set i (some v)) H
theorem aL{i:Nat}{x:Str}(hN:X.N.Nodup)(hi:X.N[i]? = some x)(hx:Loc X.env.scope x)(hf:X.fn x=true\/X.env.scope.names.lookup x=some .local:=by first|exact .inl rfl|exact .inr rfl|assumption):PG X (.Name x pos) (bT i):=by intro ac s σ H v u Q I r h;exact wpAny_assign_Name (ly I hN hi hx r (λs' I'=>⟨_,H,I',h⟩) hf)
def mK:IQ:=λvs σ H Q=>vs=[]/\Q σ H
def cx(t:TG)(u:IQ):IQ:=λvs σ H Q=>∃v r,vs=v::r/\t v σ H λσ' H'=>u r σ' H' Q
theorem bz:LS X [] mK:=by intro ac s σ H vs us Q I r h;obtain⟨e,h⟩:=h;subst e;cases r;exact assignInOrder_nil ⟨σ,H,I,h⟩
theorem aq{e:Expr}{es:List Expr}{t:TG}{u:IQ}(h1:PG X e t)(h2:LS X es u)
  (hs:(assignEach (e::es) X.env).map (·.2)=assign e X.env::(assignEach es X.env).map (·.2):=by rfl):LS X (e::es) (cx t u):=by
 intro ac s σ H vs us Q I r h;obtain⟨v,vr,e1,h⟩:=h;subst e1;cases r with
 |cons r rr =>rw[hs];refine assignInOrder_cons (bO (h1 ac s σ H _ _ _ I r h) λ_ s1 zz=>?_);obtain⟨P4,H1,I1,q1⟩:=zz;exact h2 ac s1 P4 H1 _ _ Q I1 rr q1
def mM(K:S7)(n:Nat)(t:IQ):TG:=λv σ H Q=>∃a xs,v=.ref a/\aP K H a xs/\xs.length=n/\t xs σ H Q
theorem bS{es:List Expr}{k:Nat}{t:IQ}{n:Nat}(hc:X.calm=true)(h:LS X es t)
  (hn:(assignEach es X.env).length=n:=by rfl) (hst:(assignEach es X.env).findIdx? (·.1)=none:=by rfl):PG X (.Tuple es k pos) (mM X.K n t):=by
 intro ac s σ H v u Q I r hw;obtain⟨a,xs,e1,hq,hl,hw⟩:=hw;subst e1;cases r;obtain⟨its,rv,ht,hz⟩:=I.tuple hq;refine assign_Tuple_tuple (I.ok.hd hc) ht (by simp[hn,←hl,rv.length]) hst λh' hx=>?_;have I1:Inv X ac σ H {s with heap:=h'}:=I.kept (t':=s.toks) λb o e=>hx b o (Sq (R0 e)) e;exact h ac _ σ H xs _ Q I1 (by simpa using rv) hw
def Nd(to ti:TE)(t:GK):TG:=λv σ H Q=>to σ H λo H1=>ti σ H1 λi H2=>t o i v H2 λH3=>Q σ H3
theorem Ap{o i:Expr}{to ti:TE}{t:GK}(ho:PE X o to)(hi:PE X i ti)(hs:Lv X t)
  (ha:∀v,assign (.Subscript o i pos) X.env v=(do
   let ov←holding [v] (eval o X.env)
   let iv←holding [v,ov] (eval i X.env)
   standAt pos
   holding [v,ov,iv] (setItem ov iv v)
   release [v,ov,iv] []):=by intro _;rfl):PG X (.Subscript o i pos) (Nd to ti t):=by
 intro ac s σ H v u Q I r h;rw[ha];refine RX (SA (bO (ho ac s σ H _ I h) λov s1 zz=>?_));obtain⟨x,H1,I1,r1,q1⟩:=zz;refine RX (SA (bO (hi ac s1 σ H1 _ I1 q1) λiv s2 zz=>?_));obtain⟨y,H2,I2,r2,q2⟩:=zz;refine RX (wpAny_standAt (RX (SA (bO (hs ac s2 σ H2 x y v ov iv u _ I2 r1 r2 r q2) λ_ s3 zz=>?_))));obtain⟨H3,I3,q3⟩:=zz;exact wpAny_release ⟨σ,H3,I3,q3⟩
def za(te:TE)(g:TG):TS:=λD σ H=>te σ H λx H1=>g x σ H1 D.nx
theorem fk{tg e:Expr}{te:TE}{g:TG}(he:PE X e te)(hg:PG X tg g)(hs:swapsWithSole [tg] e pos.line X.env=pure false:=by rfl)(hw:swappedStores [tg] e X.env=pure none:=by rfl)
  (h1:(assignEach [tg] X.env).map (·.2)=[assign tg X.env]:=by rfl):PS X (.Assign [tg] e pos) (za te g):=by
 intro ac s σ H D I h;refine wpAny_Assign_stores (bO (he ac s σ H _ I h) λv s1 zz=>?_) hs hw;obtain⟨x,H1,I1,r1,q1⟩:=zz;rw[h1];exact bO (hg ac s1 σ H1 x v _ I1 r1 q1) λ_ s2 q=>q
theorem aX{i:Nat}{x:Str}{e:Expr}{te:TE}{pos':Pos}(hN:X.N.Nodup)(hi:X.N[i]? = some x)(hx:Loc X.env.scope x)(he:PE X e te)(hs:swapsWith e (some (.Name x pos')) pos.line X.env=pure false:=by rfl)(hf:X.fn x=true\/X.env.scope.names.lookup x=some .local:=by first|exact .inl rfl|exact .inr rfl|assumption) :
  PS X (.Assign [.Name x pos'] e pos) (za te (bT i)):=by
 intro ac s σ H D I h;refine wpAny_Assign_Name (bO (he ac s σ H _ I h) λv s1 zz=>?_) hs;obtain⟨y,H1,I1,r1,q1⟩:=zz;exact ly I1 hN hi hx r1 (λs2 I2=>⟨_,H1,I2,q1⟩) hf
def Mp(i j:Nat)(ta:TA):TS:=λD σ H=>ta σ H λvs H1=>∃v w,vs=[v,w]/\D.nx ((σ.set i (some v)).set j (some w)) H1
theorem As{i j:Nat}{x y:Str}{a b:Expr}{ta:TA}{px py pt:Pos}{kt k2 Nk}(hc:X.calm=true)(hN:X.N.Nodup)(hi:X.N[i]? = some x)(hj:X.N[j]? = some y)(hij:i≠j)
  (hx:X.env.scope.names.lookup x=some .local) (hy:X.env.scope.names.lookup y=some .local) (ha:PA X [a,b] ta)
  (hw:swappedStores [.Tuple [.Name x px,.Name y py] kt pt] (.Tuple [a,b] k2 Nk) X.env=pure (some [x,y]))
  (hs:swapsWithSole [.Tuple [.Name x px,.Name y py] kt pt] (.Tuple [a,b] k2 Nk) pos.line X.env=pure false:=by rfl) :
  PS X (.Assign [.Tuple [.Name x px,.Name y py] kt pt] (.Tuple [a,b] k2 Nk) pos) (Mp i j ta):=by
 intro ac s σ H D I h;rw[exec_Assign_arm];refine RX (wpAny_standAt ?_);rw[hs];refine RX (RY ?_);rw[SK (by decide)];refine RX (Tuple_ (bO (ha _ ac s σ H _ I h) λus s1 zz=>?_));obtain⟨vs,H1,I1,r1,q1⟩:=zz;obtain⟨v,w,e1,q1⟩:=q1;subst e1;obtain⟨u1,u2,rfl,rv,nG⟩ :∃u1 u2,us=[u1,u2]/\RelV v u1/\RelV w u2:=by
  cases r1 with
  |cons p q =>
   cases q with
   |cons p' q' =>cases q';exact⟨_,_,rfl,p,p'⟩
 refine SD ?_ (by show 2<=sizeLine;decide);have I2:Inv X ac σ H1 {s1 with heap:=s1.heap.push {cls:=.type "tuple",data:=.seq [u1,u2].toArray}}:=I1.kept (t':=s1.toks) λb o e=>RZ _ e;rw[hw];refine RX (RY ?_);show wpAny (model X.prog X.w) X.A (do rule "assign.swapped-stores";let items←unpackItems (.ref s1.heap.objs.size) 2 none;assignInOrder [λv=>bindName X.env y v,λv=>bindName X.env x v] items.reverse;pure Flow.next) _ _ _;refine RX (wpAny_rule (RX (unpackItems_tuple (items:=#[u1,u2]) (I.ok.hd hc) (IsTup.new s1.heap _) λh' hx'=>?_)));have I3:=I2.kept (h':=h') (t':=s1.toks) λb o e=>hx' b o (Sq (R0 e)) e;show wpAny _ _ (assignInOrder [λv=>bindName X.env y v,λv=>bindName X.env x v] [u2,u1] >>= λ_=>pure Flow.next) _ _ _;refine RX (assignInOrder_cons (wpAny_bindName (ly I3 hN hj (.inl hy) nG (λs2 I4=>?_) (.inr hy))));refine assignInOrder_cons (wpAny_bindName (ly I4 hN hi (.inl hx) rv (λs3 I5=>assignInOrder_nil (RY ?_)) (.inr hx)));rw[List.set_comm _ _ (Ne.symm hij)]at I5;exact⟨_,H1,I5,q1⟩
end
structure It where
 go:Nat->Hp->Prop
 AQ:Nat->Hp->V->Hp->Prop
 stop:Nat->Hp->Prop
def cQ(X:Cx)(ac:List (Addr×Obj))(H:Hp)(b:Addr):Prop :=
 H b=none/\b≠X.env.locals/\b∉X.fs/\(b∈X.ex\/X.s₀.heap.objs.size<=b)/\(∀x c,X.env.cells.lookup x=some c->c≠b)/\∀p∈X.pn++ac,p.1≠b
theorem Inv.lF{X:Cx}{ac:List (Addr×Obj)}{σ:St}{H H':Hp}{s:Shared}{b:Addr}(I:Inv X ac σ H s)(hb:s.heap.objs.size<=b)(hn:H' b=none):cQ X ac H' b:=by
 refine⟨hn,Nat.ne_of_gt (Sb I.lt hb),I.Mf hb,.inr (R4 I.sz hb),λx c e z=>?_,λp hp z=>?_⟩
 ·obtain⟨v,q⟩:=I.cell x c e;exact SJ (Sb q.lt (by rw[z];exact hb)) (Nat.lt_irrefl _)
 ·exact SJ (Sb (R0 (I.pin p hp).1) (by rw[z];exact hb)) (Nat.lt_irrefl _)
structure Turn(P:Program)(w:World)(K:S7)(tg:Expr)(J:It)(fp:List Addr)(it:Addr)(tn:Nat->Heap->Prop):Prop where
 mem:it∈fp
 obj:∀i h,tn i h->∀b∈fp,∃o,h.get? b=some o/\∀v,o.data≠ .cell v
 keep:∀i h h',tn i h->(∀b∈fp,∀o,h.get? b=some o->h'.get? b=some o)->tn i h'
 item:∀(X:Cx),X.prog=P->X.w=w->X.K=K->X.calm=true->∀(i:Nat)(ac:List (Addr×Obj))(s:Shared)(σ:St)(H:Hp)(E:Value->Shared->Prop),Inv X ac σ H s->(∀b∈fp,cQ X ac H b)->tn i s.heap->J.go i H->
  wpAny (model P w) X.A (pyNext (.ref it)) (λr s1=>∃u,r=some u/\
   wpAny (model P w) X.A (letOwnedTupleGo tg (.ref it) u) (λ_ s2=>∃x H',Inv X ac σ H' s2/\RelV x u/\J.AQ i H x H'/\tn (i+1) s2.heap/\∀b∈fp,H' b=none) E s1) E s
 done:∀(X:Cx),X.prog=P->X.w=w->X.K=K->X.calm=true->∀(i:Nat)(ac:List (Addr×Obj))(s:Shared)(σ:St)(H:Hp)(E:Value->Shared->Prop),Inv X ac σ H s->(∀b∈fp,cQ X ac H b)->tn i s.heap->J.stop i H->
  wpAny (model P w) X.A (pyNext (.ref it)) (λr s1=>r=none/\Inv X ac σ H s1) E s
 self:∀(A:Around)(i:Nat)(s:Shared)(Q:Value->Shared->Prop)(E:Value->Shared->Prop),tn i s.heap->Q (.ref it) s->wpAny (model P w) A (pyIter (.ref it)) Q E s
abbrev TI:=St->Hp->(It->Hp->Prop)->Prop
def PIE(X:Cx)(ac:List (Addr×Obj))(σ:St)(tg:Expr)(R:It->Hp->Prop)(itv:Value)(s2:Shared):Prop :=
 ∃(it:Addr)(fp:List Addr)(tn:Nat->Heap->Prop)(J:It)(H':Hp),itv=.ref it/\Inv X ac σ H' s2/\Turn X.prog X.w X.K tg J fp it tn/\tn 0 s2.heap/\(∀b∈fp,cQ X ac H' b)/\R J H'
def PI(X:Cx)(tg iter:Expr)(wi:TI):Prop :=
 ∀(ac:List (Addr×Obj))(s:Shared)(σ:St)(H:Hp)(R:It->Hp->Prop),Inv X ac σ H s->wi σ H R->
  wpAny (model X.prog X.w) X.A (eval iter X.env) (λv s1=>wpAny (model X.prog X.w) X.A (pyIter v) (PIE X ac σ tg R) X.xe s1) X.xe s
theorem B_{M:Model}{A:Around}{E:Value->Shared->Prop}{s:Shared}{tg:Expr}{it:Addr}{u:Value}{o:Obj}{n:String}{vs:Array Value}{Q:Unit->Shared->Prop}(ho:s.heap.get? it=some o)(hc:o.cls=.type n)(hd:o.data=.fields vs)
  (hn:["enumerate","zip","dict_itemiterator","dict_reverseitemiterator","odict_iterator","itertools.zip_longest","itertools.pairwise"].contains n=false) (hQ:Q () s):wpAny M A (letOwnedTupleGo tg (.ref it) u) Q E s:=by
 unfold letOwnedTupleGo;cases tg<;>first
  |exact RY hQ
  | (cases u<;>first
    |exact RY hQ
    | (refine RX (wpAny_load ho ?_)
       rw[hc,hd];show wpAny M A (if(["enumerate","zip","dict_itemiterator","dict_reverseitemiterator","odict_iterator","itertools.zip_longest","itertools.pairwise"].contains n&&vs[0]? == some (rawInt _))=true then _ else _) Q E s;rw[SK (by intro h;rw[hn,Bool.false_and]at h;cases h)];exact RY hQ))
def EF(K:S7)(a:Addr):It :=
 ⟨λi H=>∃xs x,bc K H a xs/\xs[i]? = some x,λi H x H'=>H'=H/\∀xs,bc K H a xs->xs[i]? = some x,λi H=>∃xs,bc K H a xs/\xs.length<=i⟩
def Df(K:S7)(a:Addr):It :=
 ⟨λi H=>∃xs x,aP K H a xs/\xs[i]? = some x,λi H x H'=>H'=H/\∀xs,aP K H a xs->xs[i]? = some x,λi H=>∃xs,aP K H a xs/\xs.length<=i⟩
def F2(lo:Int)(n:Nat):It:=⟨λi _=>i<n,λi H x H'=>H'=H/\x=.int (lo+i),λi _=>n<=i⟩
theorem yI{P:Program}{w:World}{K:S7}{tg:Expr}(a it:Addr):Turn P w K tg (EF K a) [it] it (λi h=>h.IsListIter it a i) where
 mem:=by simp
 obj:=λi h st b hb=>by
  have e:b=it:=by simpa using hb
  subst e;obtain⟨o,e,c,d⟩:=st;exact⟨o,e,λv z=>by rw[d]at z;cases z⟩
 keep:=λi h h' st k=>st.at λo e=>k it (by simp) o e
 item:=by intro X hP hw hK hc i ac s σ H E I hf st hg;subst hP hw hK;obtain⟨xs,x,hq,hx⟩:=hg;obtain⟨its,rv,p,hz⟩:=I.list hq;obtain⟨u,hu,ru⟩:=rv.get hx;obtain⟨f0,f1,f2,f3,f4,f5⟩:=hf it (by simp);refine wpAny_pyNext_list_item st p.isList (x:=u) (by simpa using hu) λh' st' sb=>?_;have I1:Inv X ac σ H {s with heap:=h'}:=I.turned (t':=s.toks) (λb o hb e=>(sb.2 b hb).trans e) f0 f1 f3 f4 f5;obtain⟨o,e,c,d⟩:=id st';exact⟨u,rfl,B_ (s:={s with heap:=h'}) e c d (by decide) ⟨x,H,I1,ru,⟨rfl,λys hy=>by rw[I.Am hy hq];exact hx⟩,st',λb hb=>(hf b hb).1⟩⟩
 done:=by intro X hP hw hK hc i ac s σ H E I hf st hg;subst hP hw hK;obtain⟨xs,hq,hx⟩:=hg;obtain⟨its,rv,p,hz⟩:=I.list hq;obtain⟨f0,f1,f2,f3,f4,f5⟩:=hf it (by simp);have hl:=rv.length;exact wpAny_pyNext_list_end (I.ok.hd hc) st p.isList (by simp;omega) λh' eb=>⟨rfl,I.turned (t':=s.toks) (λb o hb e=>eb b o hb e) f0 f1 f3 f4 f5⟩
 self:=λ_ _ _ _ _ st h=>wpAny_pyIter_listiter st h
theorem vW{P:Program}{w:World}{K:S7}{tg:Expr}(a it:Addr):Turn P w K tg (Df K a) [it] it (λi h=>h.IsTupleIter it a i) where
 mem:=by simp
 obj:=λi h st b hb=>by
  have e:b=it:=by simpa using hb
  subst e;obtain⟨o,e,c,d⟩:=st;exact⟨o,e,λv z=>by rw[d]at z;cases z⟩
 keep:=λi h h' st k=>st.at λo e=>k it (by simp) o e
 item:=by intro X hP hw hK hc i ac s σ H E I hf st hg;subst hP hw hK;obtain⟨xs,x,hq,hx⟩:=hg;obtain⟨its,rv,p,hz⟩:=I.tuple hq;obtain⟨u,hu,ru⟩:=rv.get hx;obtain⟨f0,f1,f2,f3,f4,f5⟩:=hf it (by simp);refine wpAny_pyNext_tuple_item st (show s.heap.IsTuple a its.toArray from p) (x:=u) (by simpa using hu) λh' st' sb=>?_;have I1:Inv X ac σ H {s with heap:=h'}:=I.turned (t':=s.toks) (λb o hb e=>(sb.2 b hb).trans e) f0 f1 f3 f4 f5;obtain⟨o,e,c,d⟩:=id st';exact⟨u,rfl,B_ (s:={s with heap:=h'}) e c d (by decide) ⟨x,H,I1,ru,⟨rfl,λys hy=>by rw[I.mi hy hq];exact hx⟩,st',λb hb=>(hf b hb).1⟩⟩
 done:=by intro X hP hw hK hc i ac s σ H E I hf st hg;subst hP hw hK;obtain⟨xs,hq,hx⟩:=hg;obtain⟨its,rv,p,hz⟩:=I.tuple hq;obtain⟨f0,f1,f2,f3,f4,f5⟩:=hf it (by simp);have hl:=rv.length;exact wpAny_pyNext_tuple_end (I.ok.hd hc) st (show s.heap.IsTuple a its.toArray from p) (by simp;omega) λh' eb=>⟨rfl,I.turned (t':=s.toks) (λb o hb e=>eb b o hb e) f0 f1 f3 f4 f5⟩
 self:=λ_ _ _ _ _ st h=>wpAny_pyIter_tupleiter st h
theorem wb{P:Program}{w:World}{K:S7}{tg:Expr}(it:Addr)(lo:Int)(n:Nat):Turn P w K tg (F2 lo n) [it] it (λi h=>IsRangeIter h it (lo+(i:Nat)*1) ((n:Int)-(i:Nat)) 1) where
 mem:=by simp
 obj:=λi h st b hb=>by
  have e:b=it:=by simpa using hb
  subst e;exact⟨_,st,λv z=>by have z':Data.fields _=Data.cell v:=z;cases z'⟩
 keep:=λi h h' st k=>k it (by simp) _ st
 item:=by intro X hP hw hK hc i ac s σ H E I hf st hg;subst hP hw hK;obtain⟨f0,f1,f2,f3,f4,f5⟩:=hf it (by simp);have W:=Walks.range (prog:=X.prog) (w:=X.w) (I.ok.hd hc) it lo 1 n;refine W.item i s _ _ hg st λv h' tk hv st' kk=>?_;obtain⟨t,rfl⟩:=hv;have I1:Inv X ac σ H {s with heap:=h',toks:=tk}:=I.turned (λb o hb e=>kk b o (by simpa using hb) e) f0 f1 f3 f4 f5;refine⟨_,rfl,B_ (s:={s with heap:=h',toks:=tk}) (n:="range_iterator") st' rfl rfl (by decide) ⟨.int (lo+i),H,I1,⟨t,?_⟩,⟨rfl,rfl⟩,st',λb hb=>(hf b hb).1⟩⟩;rw[Int.mul_one]
 done:=by intro X hP hw hK hc i ac s σ H E I hf st hg;subst hP hw hK;obtain⟨f0,f1,f2,f3,f4,f5⟩:=hf it (by simp);exact wpAny_pyNext_range_end (I.ok.hd hc) st (by have:n<=i:=hg;omega) λh' eb=>⟨rfl,I.turned (t':=s.toks) (λb o hb e=>eb b o hb e) f0 f1 f3 f4 f5⟩
 self:=λ_ _ _ _ _ st h=>wpAny_pyIter_rangeiter st h
section
variable{X:Cx}{tg:Expr}
def JJ(K:S7)(tl:TE):TI:=λσ H R=>tl σ H λx H1=>∃a,x=.ref a/\(∃xs,bc K H1 a xs)/\R (EF K a) H1
def DH(K:S7)(tl:TE):TI:=λσ H R=>tl σ H λx H1=>∃a,x=.ref a/\(∃xs,aP K H1 a xs)/\R (Df K a) H1
theorem c0{l:Expr}{tl:TE}(hl:PE X l tl):PI X tg l (JJ X.K tl):=by
 intro ac s σ H R I h;refine bO (hl ac s σ H _ I h) λv s1 zz=>?_;obtain⟨x,H1,I1,r1,q1⟩:=zz;obtain⟨a,e,⟨xs,hq⟩,q⟩:=q1;subst e;cases r1;obtain⟨its,rv,p,hz⟩:=I1.list hq;refine wpAny_pyIter_list p.isList ?_;refine⟨s1.heap.objs.size,[s1.heap.objs.size],_,_,H1,rfl,I1.kept (t':=s1.toks) λb o e=>RZ _ e,yI a _,⟨_,R1 _ rfl,rfl,rfl⟩,λb hb=>?_,q⟩;have e:b=s1.heap.objs.size:=by simpa using hb
 subst e;exact I1.lF (R3 _) (I1.hok.fresh (R3 _))
theorem cu{l:Expr}{tl:TE}(hl:PE X l tl):PI X tg l (DH X.K tl):=by
 intro ac s σ H R I h;refine bO (hl ac s σ H _ I h) λv s1 zz=>?_;obtain⟨x,H1,I1,r1,q1⟩:=zz;obtain⟨a,e,⟨xs,hq⟩,q⟩:=q1;subst e;cases r1;obtain⟨its,rv,p,hz⟩:=I1.tuple hq;refine wpAny_pyIter_tuple (show s1.heap.IsTuple a its.toArray from p) ?_;refine⟨s1.heap.objs.size,[s1.heap.objs.size],_,_,H1,rfl,I1.kept (t':=s1.toks) λb o e=>RZ _ e,vW a _,⟨_,R1 _ rfl,rfl,rfl⟩,λb hb=>?_,q⟩;have e:b=s1.heap.objs.size:=by simpa using hb
 subst e;exact I1.lF (R3 _) (I1.hok.fresh (R3 _))
theorem uf{ac:List (Addr×Obj)}{σ:St}{H:Hp}{s:Shared}{R:It->Hp->Prop}{E:Value->Shared->Prop}{lo hi:Int}{t u v:Tok}{tk:Nat}(I:Inv X ac σ H s)(h1:-(2 ^ 62)<=lo)(h2:lo<2 ^ 62)(h3:-(2 ^ 62)<=hi)(h4:hi<2 ^ 62)
  (q:R (F2 lo (hi-lo).toNat) H):wpAny (model X.prog X.w) X.A (pyIter (.ref s.heap.objs.size)) (PIE X ac σ tg R) E {s with heap:=s.heap.push {cls:=.type "range",data:=.fields #[.int lo t,.int hi u,.int 1 v]},toks:=tk}:=by
 refine wpAny_pyIter_range (IsRange.new ..) (small_one h1 h2 h3 h4) ?_;have I1:Inv X ac σ H {s with heap:=s.heap.push {cls:=.type "range",data:=.fields #[.int lo t,.int hi u,.int 1 v]},toks:=tk}:=I.kept λb o e=>RZ _ e;refine⟨(s.heap.push {cls:=.type "range",data:=.fields #[.int lo t,.int hi u,.int 1 v]}).objs.size,[(s.heap.push {cls:=.type "range",data:=.fields #[.int lo t,.int hi u,.int 1 v]}).objs.size],_,_,H,rfl,
  I1.kept (t':=tk) λb o e=>RZ _ e,wb _ lo (hi-lo).toNat,?_,λb hb=>?_,q⟩
 ·have e1:lo+((0:Nat):Int)*1=lo:=by simp
  have e2:(((hi-lo).toNat:Nat):Int)-((0:Nat):Int)=Builtin.Range.rangeSize lo hi 1:=by rw[rangeSize_one];split<;>omega
  show IsRangeIter _ _ (lo+((0:Nat):Int)*1) ((((hi-lo).toNat:Nat):Int)-((0:Nat):Int)) 1;rw[e1,e2];exact R1 _ rfl
 ·have e:b=(s.heap.push {cls:=.type "range",data:=.fields #[.int lo t,.int hi u,.int 1 v]}).objs.size:=by simpa using hb
  subst e;exact I1.lF (R3 _) (I1.hok.fresh (R3 _))
def Ks(ta:TA):TI:=λσ H R=>ta σ H λvs H1=>∃j:Int,vs=[.int j]/\-(2 ^ 62)<=j/\j<2 ^ 62/\R (F2 0 j.toNat) H1
def Lc(ta:TA):TI:=λσ H R=>ta σ H λvs H1=>∃i j:Int,vs=[.int i,.int j]/\(-(2 ^ 62)<=i/\i<2 ^ 62/\-(2 ^ 62)<=j/\j<2 ^ 62)/\R (F2 i (j-i).toNat) H1
theorem cV{a:Expr}{ta:TA}{p pos:Pos}(hg:Gl X "range")(hm:X.mg "range"=none)(ha:PA X [a] ta)(hs:starEach [a] X.env=[(false,eval a X.env)]:=by rfl):PI X tg (.Call (.Name "range" p) [a] [] pos) (Ks ta):=by
 intro ac s σ H R I h;refine Call_ (i0 I hg hm boot_range (PyProof.Rows.callWith_type1 (bO (ha pos ac s σ H _ I h) λus s1 zz=>?_) hs rfl));obtain⟨vs,H1,I1,r1,q1⟩:=zz;obtain⟨j,e,q1,q2,q⟩:=q1;subst e;cases r1 with
 |cons r rr =>cases rr;obtain⟨t,rfl⟩:=r;exact call_range_1 (uf I1 (by omega) (by omega) q1 q2 (by simpa using q))
theorem mR{a b:Expr}{ta:TA}{p pos:Pos}(hg:Gl X "range")(hm:X.mg "range"=none)(ha:PA X [a,b] ta)(hs:starEach [a,b] X.env=[(false,eval a X.env),(false,eval b X.env)]:=by rfl)(hs2:starEach [b] X.env=[(false,eval b X.env)]:=by rfl) :
  PI X tg (.Call (.Name "range" p) [a,b] [] pos) (Lc ta):=by
 intro ac s σ H R I h;refine Call_ (i0 I hg hm boot_range (PyProof.Rows.callWith_type1 (bO (ha pos ac s σ H _ I h) λus s1 zz=>?_) (by rw[hs,hs2]) (by rw[hs2];rfl)));obtain⟨vs,H1,I1,r1,q1⟩:=zz;obtain⟨i,j,e,⟨q1,q2,q3,q4⟩,q⟩:=q1;subst e;cases r1 with
 |cons r rr =>
  cases rr with
  |cons r' rr =>cases rr;obtain⟨t,rfl⟩:=r;obtain⟨t',rfl⟩:=r';exact call_range_2 (uf I1 q1 q2 q3 q4 q)
def NL(wi:TI)(g:TG)(tb:TS):TS:=λD σ H=>wi σ H λJ H1=>∃W:Nat->Nat->St->Hp->Prop,(∃m,W 0 m σ H1)/\∀i m σ H,W i m σ H->
 (J.stop i H/\D.nx σ H)\/(J.go i H/\∃N:St->Hp->Prop,(∀σ' H',N σ' H'->∃m',m'<m/\W (i+1) m' σ' H')/\∀x H',J.AQ i H x H'->g x σ H' λcR H2=>tb {D with nx:=N,ct:=N,bk:=D.nx} cR H2)
def iR(fp:List Addr)(h:Heap):List (Addr×Obj):=fp.filterMap λb=>(h.get? b).map λo=>(b,o)
theorem b9{fp:List Addr}{h:Heap}{b:Addr}{o:Obj}(hb:b∈fp)(e:h.get? b=some o):(b,o)∈iR fp h:=List.mem_filterMap.mpr ⟨b,hb,by rw[e];rfl⟩
theorem zG{fp:List Addr}{h:Heap}{p:Addr×Obj}(hp:p∈iR fp h):p.1∈fp/\h.get? p.1=some p.2:=by
 obtain⟨b,hb,e⟩:=List.mem_filterMap.mp hp;cases q:h.get? b with
 |none=>rw[q]at e;cases e
 |some o =>rw[q]at e;have e':(b,o)=p:=Ss e;subst e';exact⟨hb,q⟩
theorem Inv.pinned{ac:List (Addr×Obj)}{σ:St}{H:Hp}{s:Shared}{fp:List Addr}(I:Inv X ac σ H s)(hf:∀b∈fp,cQ X ac H b)(ho:∀b∈fp,∃o,s.heap.get? b=some o/\∀v,o.data≠ .cell v):Inv X (ac++iR fp s.heap) σ H s :=
 I.gQ λp hp=>(So.mp hp).elim (λz=>I.pin p (Se _ z)) λz=>by obtain⟨hb,e⟩:=zG z;obtain⟨f0,f1,f2,_⟩:=hf p.1 hb;obtain⟨o,e',d⟩:=ho p.1 hb;rw[e]at e';cases e';exact⟨e,f0,f1,f2,d⟩
theorem Inv.fv{ac pl:List (Addr×Obj)}{σ:St}{H:Hp}{s:Shared}(I:Inv X (ac++pl) σ H s):Inv X ac σ H s:=I.gQ λp hp=>I.pin p (Se _ (List.mem_append_left _ hp))
theorem fi{iter:Expr}{body:List Stmt}{wi:TI}{g:TG}{tb:TS}{pos:Pos}(hp:PassesOwn (model X.prog X.w) X.A X.env X.xe)(hc:X.calm=true)(hi:PI X tg iter wi)(hg:PG X tg g)(hb:qU X body tb)
  (hs:∀x,foldedSetIterable iter X.env x=pure x:=by intro _;rfl):PS X (.For tg iter body [] pos) (NL wi g tb):=by
 intro ac s σ H D I h;refine wpAny_For (bO (hi ac s σ H _ I h) λv s1 h1=>bO h1 λitv s2 h2=>?_) hs;obtain⟨it,fp,tn,J,H2,e,I2,T,st2,f2,W,⟨m0,w0⟩,turn⟩:=h2;subst e;have stat:∀{H':Hp},(∀b∈fp,H' b=none)->∀b∈fp,cQ X ac H' b:=λhn b hb=>⟨hn b hb,(f2 b hb).2⟩;refine codeAny_forLoop_any (λn s'=>∃i σ' H',Inv X ac σ' H' s'/\tn i s'.heap/\(∀b∈fp,H' b=none)/\W i n σ' H') ?_ m0 ⟨0,σ,H2,I2,st2,λb hb=>(f2 b hb).1,w0⟩;rintro n s3 ⟨i,JW,H3,I3,st3,OT,w3⟩;rcases turn i n JW H3 w3 with⟨stop,qn⟩|⟨go,N,hN,step⟩
 ·refine wpAny_passesOwn hp (bO (T.done X rfl rfl rfl hc i ac s3 JW H3 X.xe I3 (stat OT) st3 stop) λr s4 zz=>?_);obtain⟨hr,I4⟩:=zz;subst hr;exact wpAny_execs_nil ⟨JW,H3,I4,qn⟩
 ·refine wpAny_passesOwn hp (bO (T.item X rfl rfl rfl hc i ac s3 JW H3 X.xe I3 (stat OT) st3 go) λr s4 zz=>?_);obtain⟨u,hr,h4⟩:=zz;subst hr;refine wpAny_passesOwn hp (bO h4 λ_ s5 zz=>?_);obtain⟨x,H5,I5,r5,y5,qo,sH⟩:=zz;have Ph:=I5.pinned (stat sH) (T.obj _ _ qo);refine wpAny_passesOwn hp (bO (hg _ s5 JW H5 x u _ Ph r5 (step x H5 y5)) λ_ s6 zz=>?_);obtain⟨Pr,H6,I6,q6⟩:=zz;refine wpAny_passesOwn hp (bO (hb _ s6 Pr H6 _ I6 q6) λf s7 q7=>?_);have again:∀{BU:St}{H7:Hp},Inv X (ac++iR fp s5.heap) BU H7 s7->N BU H7->∃m,m<n/\∃i σ' H',Inv X ac σ' H' s7/\tn i s7.heap/\(∀b∈fp,H' b=none)/\W i m σ' H':=λ{BU H7} I7 n7=>by obtain⟨m',hm,w7⟩:=hN BU H7 n7;refine⟨m',hm,i+1,BU,H7,I7.fv,T.keep _ _ _ qo λb hb o e=>(I7.pin (b,o) (Se _ (Se _ (b9 hb e)))).1,λb hb=>?_,w7⟩;obtain⟨o,e,d⟩:=T.obj _ _ qo b hb;exact(I7.pin (b,o) (Se _ (Se _ (b9 hb e)))).2.1
  cases f with
  |next=>obtain⟨BU,H7,I7,n7⟩:=q7;exact again I7 n7
  |cont=>obtain⟨BU,H7,I7,n7⟩:=q7;exact again I7 n7
  |brk=>obtain⟨BU,H7,I7,q7⟩:=q7;exact⟨BU,H7,I7.fv,q7⟩
  |ret v=>obtain⟨x7,BU,H7,I7,r7,q7⟩:=q7;exact⟨x7,BU,H7,I7.fv,r7,q7⟩
end
theorem tL{K:S7}{a:Addr}{xs:List V}{g:TG}{tb:TS}{D:Ends}{σ:St}{H:Hp}(Pv:Nat->St->Hp->Prop)(h0:Pv 0 σ H)(hl:∀i σ H,i<=xs.length->Pv i σ H->bc K H a xs)
  (hs:∀i x σ H,xs[i]? = some x->Pv i σ H->g x σ H λcR H2=>tb {D with nx:=Pv (i+1),ct:=Pv (i+1),bk:=D.nx} cR H2) (hd:∀σ H,Pv xs.length σ H->D.nx σ H) :
  ∃W:Nat->Nat->St->Hp->Prop,(∃m,W 0 m σ H)/\∀i m σ H,W i m σ H->
   ((EF K a).stop i H/\D.nx σ H)\/((EF K a).go i H/\∃N:St->Hp->Prop,(∀σ' H',N σ' H'->∃m',m'<m/\W (i+1) m' σ' H')/\∀x H',(EF K a).AQ i H x H'->g x σ H' λcR H2=>tb {D with nx:=N,ct:=N,bk:=D.nx} cR H2):=by
 refine⟨λi m σ H=>m=xs.length-i/\i<=xs.length/\Pv i σ H,⟨xs.length,by simp,Sr _,h0⟩,?_⟩;rintro i m σ H ⟨rfl,hi,p⟩;have q:=hl i σ H hi p;by_cases hlt:i<xs.length
 ·refine .inr ⟨⟨xs,xs[i],q,by simp[hlt]⟩,Pv (i+1),λσ' H' p'=>⟨xs.length-(i+1),by omega,rfl,hlt,p'⟩,λx H' y=>?_⟩;obtain⟨e,y⟩:=y;subst e;exact hs i x σ _ (y xs q) p
 ·have e:i=xs.length:=by omega
  subst e;exact .inl ⟨⟨xs,q,R3 _⟩,hd σ H p⟩
theorem yn{K:S7}{a:Addr}{xs:List V}{g:TG}{tb:TS}{D:Ends}{σ:St}{H:Hp}(Pv:Nat->St->Hp->Prop)(h0:Pv 0 σ H)(hl:∀i σ H,i<=xs.length->Pv i σ H->aP K H a xs)
  (hs:∀i x σ H,xs[i]? = some x->Pv i σ H->g x σ H λcR H2=>tb {D with nx:=Pv (i+1),ct:=Pv (i+1),bk:=D.nx} cR H2) (hd:∀σ H,Pv xs.length σ H->D.nx σ H) :
  ∃W:Nat->Nat->St->Hp->Prop,(∃m,W 0 m σ H)/\∀i m σ H,W i m σ H->
   ((Df K a).stop i H/\D.nx σ H)\/((Df K a).go i H/\∃N:St->Hp->Prop,(∀σ' H',N σ' H'->∃m',m'<m/\W (i+1) m' σ' H')/\∀x H',(Df K a).AQ i H x H'->g x σ H' λcR H2=>tb {D with nx:=N,ct:=N,bk:=D.nx} cR H2):=by
 refine⟨λi m σ H=>m=xs.length-i/\i<=xs.length/\Pv i σ H,⟨xs.length,by simp,Sr _,h0⟩,?_⟩;rintro i m σ H ⟨rfl,hi,p⟩;have q:=hl i σ H hi p;by_cases hlt:i<xs.length
 ·refine .inr ⟨⟨xs,xs[i],q,by simp[hlt]⟩,Pv (i+1),λσ' H' p'=>⟨xs.length-(i+1),by omega,rfl,hlt,p'⟩,λx H' y=>?_⟩;obtain⟨e,y⟩:=y;subst e;exact hs i x σ _ (y xs q) p
 ·have e:i=xs.length:=by omega
  subst e;exact .inl ⟨⟨xs,q,R3 _⟩,hd σ H p⟩
theorem iF{lo:Int}{n:Nat}{g:TG}{tb:TS}{D:Ends}{σ:St}{H:Hp}(Pv:Nat->St->Hp->Prop)(h0:Pv 0 σ H)
  (hs:∀i σ H,i<n->Pv i σ H->g (.int (lo+i)) σ H λcR H2=>tb {D with nx:=Pv (i+1),ct:=Pv (i+1),bk:=D.nx} cR H2) (hd:∀σ H,Pv n σ H->D.nx σ H) :
  ∃W:Nat->Nat->St->Hp->Prop,(∃m,W 0 m σ H)/\∀i m σ H,W i m σ H->
   ((F2 lo n).stop i H/\D.nx σ H)\/((F2 lo n).go i H/\∃N:St->Hp->Prop,(∀σ' H',N σ' H'->∃m',m'<m/\W (i+1) m' σ' H')/\∀x H',(F2 lo n).AQ i H x H'->g x σ H' λcR H2=>tb {D with nx:=N,ct:=N,bk:=D.nx} cR H2):=by
 refine⟨λi m σ H=>m=n-i/\i<=n/\Pv i σ H,⟨n,by simp,Sr _,h0⟩,?_⟩;rintro i m σ H ⟨rfl,hi,p⟩;by_cases hlt:i<n
 ·refine .inr ⟨hlt,Pv (i+1),λσ' H' p'=>⟨n-(i+1),by omega,rfl,hlt,p'⟩,λx H' y=>?_⟩;obtain⟨e,y⟩:=y;subst e y;exact hs i σ _ hlt p
 ·have e:i=n:=by omega
  subst e;exact .inl ⟨R3 _,hd σ H p⟩
abbrev R2:=V->V->Hp->VK->Prop
def jk(X:Cx)(f:Value->Value->Sem Value)(r:R2):Prop :=
 ∀(ac:List (Addr×Obj))(s:Shared)(σ:St)(H:Hp)(x y:V)(v u:Value)(Q:VK),Inv X ac σ H s->RelV x v->RelV y u->r x y H Q->
  wpAny (model X.prog X.w) X.A (f v u) (EP X ac σ Q) X.xe s
def NI(X:Cx)(f:Value->Sem Value)(r:V->Hp->VK->Prop):Prop :=
 ∀(ac:List (Addr×Obj))(s:Shared)(σ:St)(H:Hp)(x:V)(v:Value)(Q:VK),Inv X ac σ H s->RelV x v->r x H Q->
  wpAny (model X.prog X.w) X.A (f v) (EP X ac σ Q) X.xe s
def ft(X:Cx)(f:Value)(r:List V->Hp->VK->Prop):Prop :=
 ∀(ac:List (Addr×Obj))(s:Shared)(σ:St)(H:Hp)(xs:List V)(us:List Value)(Q:VK),Inv X ac σ H s->Vals xs us->r xs H Q->
  wpAny (model X.prog X.w) X.A (call f us) (EP X ac σ Q) X.xe s
def NQ(X:Cx)(r:V->Hp->(Bool->Hp->Prop)->Prop):Prop :=
 ∀(ac:List (Addr×Obj))(s:Shared)(σ:St)(H:Hp)(x:V)(v:Value)(Q:Bool->Hp->Prop),Inv X ac σ H s->RelV x v->r x H Q->
  wpAny (model X.prog X.w) X.A (truthy v) (TP X ac σ Q) X.xe s
def eZ(r:R2)(ta tb:TE):TE:=λσ H Q=>ta σ H λx H1=>tb σ H1 λy H2=>r x y H2 Q
def QB(r:V->Hp->VK->Prop)(ta:TE):TE:=λσ H Q=>ta σ H λx H1=>r x H1 Q
def rI(C:Int->Int->Prop)(g:Int->Int->V):R2:=λx y H Q=>∃i j,x=.int i/\y=.int j/\C i j/\Q (g i j) H
def vj(g:Int->Int->V):R2:=λx y H Q=>∃i j,x=.int i/\y=.int j/\Q (g i j) H
def rU(g:Int->V):V->Hp->VK->Prop:=λx H Q=>∃i,x=.int i/\Q (g i) H
section
variable{X:Cx}{a b c:Expr}{ta tb tc:TE}{pos:Pos}
theorem IK(ha:PE X a ta)(hb:PE X b tb){ac:List (Addr×Obj)}{s:Shared}{σ:St}{H:Hp}{R:V->V->Hp->Prop}(I:Inv X ac σ H s)
  (h:ta σ H λx H1=>tb σ H1 λy H2=>R x y H2) {Q:Value->Shared->Prop} {f:Value->Value->Sem Value}
  (hf:∀v u s2 x y H2,Inv X ac σ H2 s2->RelV x v->RelV y u->R x y H2->wpAny (model X.prog X.w) X.A (f v u) Q X.xe s2) :
  wpAny (model X.prog X.w) X.A (eval a X.env) (λv s₁=>wpAny (model X.prog X.w) X.A (eval b X.env) (λu s₂=>wpAny (model X.prog X.w) X.A (f v u) Q X.xe s₂) X.xe s₁) X.xe s:=by
 refine bO (ha ac s σ H _ I h) λv s1 zz=>?_;obtain⟨x,H1,I1,r1,q1⟩:=zz;refine bO (hb ac s1 σ H1 _ I1 q1) λu s2 zz=>?_;obtain⟨y,H2,I2,r2,q2⟩:=zz;exact hf v u s2 x y H2 I2 r1 r2 q2
theorem aU{op:Operator}{r:R2}(ho:jk X (binaryOp op) r)(ha:PE X a ta)(hb:PE X b tb):PE X (.BinOp a op b pos) (eZ r ta tb):=by intro ac s σ H Q I h;exact wpAny_BinOp (IK ha hb I h λv u s2 x y H2 I2 rx ry q=>ho ac s2 σ H2 x y v u Q I2 rx ry q)
theorem F5{op:UnaryOp}{r:V->Hp->VK->Prop}(ho:NI X (unaryOp op) r)(ha:PE X a ta):PE X (.UnaryOp op a pos) (QB r ta):=by intro ac s σ H Q I h;exact UnaryOp_ (bO (ha ac s σ H _ I h) λv s1 ⟨x,H1,I1,r1,q1⟩=>ho ac s1 σ H1 x v Q I1 r1 q1)
theorem LV{f:Value->Value->Sem Value}{C:Int->Int->Prop}{g:Int->Int->Int}
  (rule:∀(i j:Int)(t u:Tok)(s:Shared)(Q:Value->Shared->Prop)(E:Value->Shared->Prop),C i j->Q (.int (g i j) s.toks) {s with toks:=s.toks+1}->wpAny (model X.prog X.w) X.A (f (.int i t) (.int j u)) Q E s) :
  jk X f (rI C λi j=>.int (g i j)):=by
 intro ac s σ H x y v u Q I rx ry h;obtain⟨i,j,rfl,rfl,hc,q⟩:=h;obtain⟨t,rfl⟩:=rx;obtain⟨t',rfl⟩:=ry;exact rule i j t t' s _ _ hc ⟨.int (g i j),H,I.tok _,⟨_,rfl⟩,q⟩
theorem Lf{f:Value->Value->Sem Value}{g:Int->Int->Int}
  (rule:∀(i j:Int)(t u:Tok)(s:Shared)(Q:Value->Shared->Prop)(E:Value->Shared->Prop),Q (.int (g i j) s.toks) {s with toks:=s.toks+1}->wpAny (model X.prog X.w) X.A (f (.int i t) (.int j u)) Q E s) :
  jk X f (vj λi j=>.int (g i j)):=by
 intro ac s σ H x y v u Q I rx ry h;obtain⟨i,j,rfl,rfl,q⟩:=h;obtain⟨t,rfl⟩:=rx;obtain⟨t',rfl⟩:=ry;exact rule i j t t' s _ _ ⟨.int (g i j),H,I.tok _,⟨_,rfl⟩,q⟩
theorem HY{f:Value->Value->Sem Value}{g:Int->Int->Bool}
  (rule:∀(i j:Int)(t u:Tok)(s:Shared)(Q:Value->Shared->Prop)(E:Value->Shared->Prop),Q (.bool (g i j)) s->wpAny (model X.prog X.w) X.A (f (.int i t) (.int j u)) Q E s) :
  jk X f (vj λi j=>.bl (g i j)):=by
 intro ac s σ H x y v u Q I rx ry h;obtain⟨i,j,rfl,rfl,q⟩:=h;obtain⟨t,rfl⟩:=rx;obtain⟨t',rfl⟩:=ry;exact rule i j t t' s _ _ ⟨.bl (g i j),H,I,rfl,q⟩
def MQ(i j:Int):Prop:=0<j/\j<1073741824
def Ng(i j:Int):Prop:=0<=j/\j<=1000000/\i.natAbs<2 ^ 64
def HJ(i j:Int):Prop:=(-(2 ^ 64)<i/\i<2 ^ 64)\/(-(2 ^ 64)<j/\j<2 ^ 64)
theorem HJ.ok{i j:Int}(h:HJ i j):IntMulOk i j:=by
 rcases h with⟨h1,h2⟩|⟨h1,h2⟩
 ·exact .of_left (intBits_le_64 h1 h2)
 ·exact .of_right (intBits_le_64 h1 h2)
theorem cv:jk X (binaryOp .Add) (vj λi j=>.int (i+j)):=Lf λ_ _ _ _ _ _ _ q=>add_int q
theorem ck:jk X (binaryOp .Sub) (vj λi j=>.int (i-j)):=Lf λ_ _ _ _ _ _ _ q=>sub_int q
theorem wm:jk X (binaryOp .Mult) (rI HJ λi j=>.int (i*j)):=LV λ_ _ _ _ _ _ _ hc q=>mul_int q hc.ok
theorem ES:jk X (binaryOp .FloorDiv) (rI MQ λi j=>.int (i / j)):=LV λi j _ _ _ _ _ hc q=>by have h1:(0:Int)<j:=hc.1;have h2:j<1073741824:=hc.2;exact floordiv_int (by omega) (by rw[Int.fdiv_eq_ediv_of_nonneg i (by omega)];exact q) (.inl (PyProof.noPylong_small (by omega)))
theorem ot:jk X (binaryOp .Mod) (rI (λ_ j=>0<j) λi j=>.int (i % j)):=LV λi j _ _ _ _ _ hc q=>by have h1:(0:Int)<j:=hc;exact mod_int' (by omega) (by rw[Int.fmod_eq_emod_of_nonneg i (by omega)];exact q)
theorem AN:jk X (binaryOp .Pow) (rI Ng λi j=>.int (i ^ j.toNat)):=LV λ_ _ _ _ _ _ _ hc q=>pow_int_small hc.1 hc.2.1 hc.2.2 q
theorem Pk{f:Value->Sem Value}{g:Int->Int}
  (rule:∀(i:Int)(t:Tok)(s:Shared)(Q:Value->Shared->Prop)(E:Value->Shared->Prop),Q (.int (g i) s.toks) {s with toks:=s.toks+1}->wpAny (model X.prog X.w) X.A (f (.int i t)) Q E s) :
  NI X f (rU λi=>.int (g i)):=by
 intro ac s σ H x v Q I rx h;obtain⟨i,rfl,q⟩:=h;obtain⟨t,rfl⟩:=rx;exact rule i t s _ _ ⟨.int (g i),H,I.tok _,⟨_,rfl⟩,q⟩
theorem CY:NI X (unaryOp .USub) (rU λi=>.int (-i)):=Pk λ_ _ _ _ _ q=>neg_int q
end
def Lr:V->V->Bool
 | .non,.non=>true | .non,.int _=>true | .int _,.non=>true | .non,.bl _=>true | .bl _,.non=>true | .non,.str _=>true | .str _,.non=>true
 | .int _,.int _=>true | .bl _,.bl _=>true | .str _,.str _=>true | .zy _,.zy _=>true
 | .int _,.str _=>true | .str _,.int _=>true | .bl _,.str _=>true | .str _,.bl _=>true
 |_,_=>false
def JM:R2:=λx y H Q=>Lr x y=true/\Q (.bl (decide (x=y))) H
def NN:R2:=λx y H Q=>Lr x y=true/\Q (.bl (!decide (x=y))) H
theorem yq{i j:Int}:decide (V.int i=V.int j)=(i==j):=by rw[Bool.eq_iff_iff];simp
theorem CM{i j:Bool}:decide (V.bl i=V.bl j)=(i==j):=by rw[Bool.eq_iff_iff];simp
theorem yu{i j:Str}:decide (V.str i=V.str j)=(i==j):=by rw[Bool.eq_iff_iff];simp
theorem xH{i j:Array UInt8}:decide (V.zy i=V.zy j)=(i.toList==j.toList):=by rw[Bool.eq_iff_iff];cases i;cases j;simp
section
variable{X:Cx}{a b c:Expr}{ta tb tc:TE}{pos:Pos}
theorem bP{ac:List (Addr×Obj)}{σ:St}{H:Hp}{s:Shared}{Q:VK}{k k':Bool}(I:Inv X ac σ H s)(q:Q (.bl k) H)(e:k=k'):EP X ac σ Q (.bool k') s:=by subst e;exact⟨.bl k,H,I,rfl,q⟩
theorem bM:jk X (compareOp .Eq) JM:=by
 intro ac s σ H x y v u Q I rx ry h;obtain⟨hs,q⟩:=h;cases x with
 |non =>
  cases rx;cases y with
  |non=>cases ry;exact PySem.EqNone.eq_none_none (bP I q (by simp))
  |bl j=>cases ry;exact PySem.EqNone.eq_none_bool (bP I q (by simp))
  |int j=>obtain⟨t',rfl⟩:=ry;exact PySem.EqNone.eq_none_int (bP I q (by simp))
  |str j=>obtain⟨t',rfl⟩:=ry;exact PySem.EqNone.eq_none_str (bP I q (by simp))
  |_=>exact SJ (show false=true from hs) Sh
 |bl i =>
  cases rx;cases y with
  |non=>cases ry;exact PySem.EqNone.eq_bool_none (bP I q (by simp))
  |bl j=>cases ry;exact eq_bool (bP I q CM)
  |str j=>obtain⟨t',rfl⟩:=ry;exact PySem.EqMixed.eq_bool_str (bP I q (by simp))
  |_=>exact SJ (show false=true from hs) Sh
 |int i =>
  obtain⟨t,rfl⟩:=rx;cases y with
  |non=>cases ry;exact PySem.EqNone.eq_int_none (bP I q (by simp))
  |int j=>obtain⟨t',rfl⟩:=ry;exact eq_int (bP I q yq)
  |str j=>obtain⟨t',rfl⟩:=ry;exact PySem.EqMixed.eq_int_str (bP I q (by simp))
  |_=>exact SJ (show false=true from hs) Sh
 |str i =>
  obtain⟨t,rfl⟩:=rx;cases y with
  |non=>cases ry;exact PySem.EqNone.eq_str_none (bP I q (by simp))
  |bl j=>cases ry;exact PySem.EqMixed.eq_str_bool (bP I q (by simp))
  |int j=>obtain⟨t',rfl⟩:=ry;exact PySem.EqMixed.eq_str_int (bP I q (by simp))
  |str j=>obtain⟨t',rfl⟩:=ry;exact eq_str (bP I q yu)
  |_=>exact SJ (show false=true from hs) Sh
 |zy i =>
  obtain⟨t,rfl⟩:=rx;cases y with
  |zy j=>obtain⟨t',rfl⟩:=ry;exact PySem.W.eq_bytes (bP I q xH)
  |_=>exact SJ (show false=true from hs) Sh
 |_=>cases y<;>exact SJ (show false=true from hs) Sh
theorem uQ:jk X (compareOp .NotEq) NN:=by
 intro ac s σ H x y v u Q I rx ry h;obtain⟨hs,q⟩:=h;cases x with
 |non =>
  cases rx;cases y with
  |non=>cases ry;exact PySem.EqNone.ne_none_none (bP I q (by simp))
  |bl j=>cases ry;exact PySem.EqNone.ne_none_bool (bP I q (by simp))
  |int j=>obtain⟨t',rfl⟩:=ry;exact PySem.EqNone.ne_none_int (bP I q (by simp))
  |str j=>obtain⟨t',rfl⟩:=ry;exact PySem.EqNone.ne_none_str (bP I q (by simp))
  |_=>exact SJ (show false=true from hs) Sh
 |bl i =>
  cases rx;cases y with
  |non=>cases ry;exact PySem.EqNone.ne_bool_none (bP I q (by simp))
  |bl j=>cases ry;exact ne_bool (bP I q (congrArg not CM))
  |str j=>obtain⟨t',rfl⟩:=ry;exact PySem.EqMixed.ne_bool_str (bP I q (by simp))
  |_=>exact SJ (show false=true from hs) Sh
 |int i =>
  obtain⟨t,rfl⟩:=rx;cases y with
  |non=>cases ry;exact PySem.EqNone.ne_int_none (bP I q (by simp))
  |int j=>obtain⟨t',rfl⟩:=ry;exact ne_int (bP I q (congrArg not yq))
  |str j=>obtain⟨t',rfl⟩:=ry;exact PySem.EqMixed.ne_int_str (bP I q (by simp))
  |_=>exact SJ (show false=true from hs) Sh
 |str i =>
  obtain⟨t,rfl⟩:=rx;cases y with
  |non=>cases ry;exact PySem.EqNone.ne_str_none (bP I q (by simp))
  |bl j=>cases ry;exact PySem.EqMixed.ne_str_bool (bP I q (by simp))
  |int j=>obtain⟨t',rfl⟩:=ry;exact PySem.EqMixed.ne_str_int (bP I q (by simp))
  |str j=>obtain⟨t',rfl⟩:=ry;exact ne_str (bP I q (congrArg not yu))
  |_=>exact SJ (show false=true from hs) Sh
 |zy i =>
  obtain⟨t,rfl⟩:=rx;cases y with
  |zy j=>obtain⟨t',rfl⟩:=ry;exact PySem.W.ne_bytes (bP I q (congrArg not xH))
  |_=>exact SJ (show false=true from hs) Sh
 |_=>cases y<;>exact SJ (show false=true from hs) Sh
theorem ya:jk X (compareOp .Lt) (vj λi j=>.bl (decide (i<j))):=HY λ_ _ _ _ _ _ _ q=>lt_int q
theorem A6:jk X (compareOp .LtE) (vj λi j=>.bl (decide (i<=j))):=HY λ_ _ _ _ _ _ _ q=>le_int q
theorem xy:jk X (compareOp .Gt) (vj λi j=>.bl (decide (j<i))):=HY λ_ _ _ _ _ _ _ q=>gt_int q
theorem G9:jk X (compareOp .Is) (λx y H Q=>y=.non/\Q (.bl (decide (x=.non))) H):=by
 intro ac s σ H x y v u Q I rx ry h;obtain⟨rfl,q⟩:=h;cases ry;refine is_none_gen (bP I q ?_);cases x<;>first
  | (cases rx;rfl)
  | (obtain⟨t,rfl⟩:=rx;rfl)
theorem n_:jk X (compareOp .IsNot) (λx y H Q=>y=.non/\Q (.bl (!decide (x=.non))) H):=by
 intro ac s σ H x y v u Q I rx ry h;obtain⟨rfl,q⟩:=h;cases ry;refine isnot_none_gen (bP I q ?_);cases x<;>first
  | (cases rx;rfl)
  | (obtain⟨t,rfl⟩:=rx;rfl)
theorem Aw(b:Expr){op:CmpOp}(h:op≠ .In:=by decide)(h2:op≠ .NotIn:=by decide):behindInMarks op b=false:=by
 have e1:(op==CmpOp.In)=false:=by cases op<;>first|rfl|exact SJ rfl h
 have e2:(op==CmpOp.NotIn)=false:=by cases op<;>first|rfl|exact SJ rfl h2
 cases b<;>simp[behindInMarks,e1,e2]
theorem iO{op:CmpOp}{r:R2}(ho:jk X (compareOp op) r)(ha:PE X a ta)(hb:PE X b tb)(hm:behindInMarks op b=false):PE X (.Compare a [op] [b] pos) (eZ r ta tb):=by intro ac s σ H Q I h;exact wpAny_Compare1 (IK ha hb I h λv u s2 x y H2 I2 rx ry q=>ho ac s2 σ H2 x y v u Q I2 rx ry q) hm
def jf(t:TE):TT:=λσ H Q=>t σ H λx H'=>∃k,x=.bl k/\Q k H'
theorem dm{op:CmpOp}{r:R2}(ho:jk X (compareOp op) r)(ha:PE X a ta)(hb:PE X b tb)(hm:behindInMarks op b=false):PT X (.Compare a [op] [b] pos) (jf (eZ r ta tb)):=by
 intro ac s σ H Q I h;refine wpAny_isTrue_Compare1 (bO (ha ac s σ H _ I h) λv s1 ⟨x,H1,I1,r1,q1⟩=>bO (hb ac s1 σ H1 _ I1 q1) λu s2 ⟨y,H2,I2,r2,q2⟩ =>
  bO (ho ac s2 σ H2 x y v u _ I2 r1 r2 q2) λc s3 ⟨z,H3,I3,r3,k,e,q3⟩=>?_) hm
 subst e;cases r3;exact wpAny_truthy_bool ⟨H3,I3,q3⟩
def Hq(r r':R2)(ta tb tc:TE):TE:=λσ H Q=>ta σ H λx H1=>tb σ H1 λy H2=>r x y H2 λz H3=>∃k,z=.bl k/\
 (if k=true then tc σ H3 λw' H4=>r' y w' H4 Q else Q (.bl false) H3)
theorem BD{op op':CmpOp}{r r':R2}(ho:jk X (compareOp op) r)(ho':jk X (compareOp op') r')(ha:PE X a ta)(hb:PE X b tb)(hc:PE X c tc)
  (hm:lastMarks [op,op'] [b,c]=false:=by with_unfolding_all rfl):PE X (.Compare a [op,op'] [b,c] pos) (Hq r r' ta tb tc):=by
 intro ac s σ H Q I h;refine Compare_chain (bO (ha ac s σ H _ I h) λv s1 ⟨x,H1,I1,r1,q1⟩=>chain_link (bO (hb ac s1 σ H1 _ I1 q1) λu s2 ⟨y,H2,I2,r2,q2⟩ =>
  bO (ho ac s2 σ H2 x y v u _ I2 r1 r2 q2) λd s3 ⟨z,H3,I3,r3,k,e,q3⟩=>?_)) hm
 subst e;cases r3;refine wpAny_truthy_bool ?_;cases k with
 |false=>exact ite_ff ⟨.bl false,H3,I3,rfl,q3⟩
 |true=>exact ite_tt (chain_last (bO (hc ac s3 σ H3 _ I3 q3) λw' s4 ⟨z',H4,I4,r4,q4⟩=>ho' ac s4 σ H4 y z' u w' Q I4 r2 r4 q4))
def JO(K:S7)(x:V)(H:Hp)(k:Bool):Prop :=
 match x with
 | .non=>k=false
 | .bl b=>k=b
 | .int i=>k=(i != 0)
 | .str y=>y.length<=sizeLine/\k=((y.length:Int) != 0)
 | .zy y=>y.size<=sizeLine/\k=((y.size:Int) != 0)
 | .ref p=>(∃xs,bc K H p xs/\k = !xs.isEmpty)\/(∃xs,aP K H p xs/\k = !xs.isEmpty)\/∃kvs,H p=some (.dK kvs)/\k = !kvs.isEmpty
 |_=>False
theorem xa{κ:Type}{kvs:List (κ×V)}{vs:List (κ×Value)}(r:KV kvs vs):(!vs.isEmpty) = !kvs.isEmpty:=by cases r<;>rfl
theorem oh{xs:List V}{its:List Value}(r:Vals xs its):(!its.toArray.isEmpty) = !xs.isEmpty:=by cases r<;>simp
theorem pb:(sizeLine:Nat)<2 ^ 63:=by rw[sizeLine_eq];decide
theorem Hg:NQ X (λx H Q=>∃k,JO X.K x H k/\Q k H):=by
 intro ac s σ H x v Q I rx h;obtain⟨k,e,q⟩:=h;have hl:=pb;have hs:sizeLine=16777216:=sizeLine_eq;cases x with
 |non =>cases rx;have e':k=false:=e;subst e';exact truthy_none ⟨H,I,q⟩
 |bl b =>cases rx;have e':k=b:=e;subst e';exact wpAny_truthy_bool ⟨H,I,q⟩
 |int i =>obtain⟨t,rfl⟩:=rx;have e':k=(i != 0):=e;subst e';exact PySem.P.truthy_int ⟨H,I,q⟩
 |str y =>obtain⟨t,rfl⟩:=rx;obtain⟨hy,e'⟩ : y.length<=sizeLine/\k=((y.length:Int) != 0):=e;subst e';exact PySem.P.truthy_str (by omega) ⟨H,I.tok _,q⟩
 |zy y =>obtain⟨t,rfl⟩:=rx;obtain⟨hy,e'⟩ : y.size<=sizeLine/\k=((y.size:Int) != 0):=e;subst e';exact PySem.W.truthy_bytes (by omega) ⟨H,I.tok _,q⟩
 |ref p =>
  cases rx;have e':(∃xs,bc X.K H p xs/\k = !xs.isEmpty)\/(∃xs,aP X.K H p xs/\k = !xs.isEmpty)\/∃kvs,H p=some (.dK kvs)/\k = !kvs.isEmpty:=e;rcases e' with⟨xs,hx,e'⟩|⟨xs,hx,e'⟩|⟨kvs,hx,e'⟩
  ·subst e';obtain⟨its,r,pl,hz⟩:=I.list hx;have hlen:=r.length;exact wpAny_truthy_list pl.isList (by simp only[Si];omega) ⟨H,I.tok _,by rw[oh r];exact q⟩
  ·subst e';obtain⟨its,r,pl,hz⟩:=I.tuple hx;have hlen:=r.length;exact truthy_tuple pl (by simp only[Si];omega) ⟨H,I.tok _,by rw[oh r];exact q⟩
  ·subst e';obtain⟨hz,hS,vs,r,m⟩ : kvs.length<=sizeLine/\(p==sysModules)=false/\∃vs,KV kvs vs/\s.heap.DictOf (bH X.prog X.w) p vs:=I.hok p _ hx;have hlen:kvs.length=vs.length:=Paired.length r;exact wpAny_truthy_dict hS m (by omega) ⟨H,I.tok _,by rw[xa r];exact q⟩
 |_=>exact(show False from e).elim
theorem vals1{x:V}{us:List Value}(r:Vals [x] us):∃u,us=[u]/\RelV x u:=by
 cases r with
 |cons r1 r2=>cases r2;exact⟨_,rfl,r1⟩
theorem vals2{x y:V}{us:List Value}(r:Vals [x,y] us):∃u w',us=[u,w']/\RelV x u/\RelV y w':=by
 cases r with
 |cons r1 r2 =>
  cases r2 with
  |cons r3 r4=>cases r4;exact⟨_,_,rfl,r1,r3⟩
theorem Ag:ft X (.builtin "abs") (λxs H Q=>∃i,xs=[.int i]/\Q (.int (if i<0 then -i else i)) H):=by intro ac s σ H xs us Q I r h;obtain⟨i,rfl,q⟩:=h;obtain⟨u,rfl,t,rfl⟩:=vals1 r;exact call_abs_int λu tk=>⟨.int (if i<0 then -i else i),H,I.tok _,⟨_,rfl⟩,q⟩
theorem qY(hc:X.calm=true):ft X (.builtin "max") (λxs H Q=>∃i j,xs=[.int i,.int j]/\Q (.int (if j > i then j else i)) H):=by
 intro ac s σ H xs us Q I r h;obtain⟨i,j,rfl,q⟩:=h;obtain⟨u,w',rfl,⟨t,rfl⟩,⟨t',rfl⟩⟩:=vals2 r;refine max_two_ints (I.ok.hd hc) λh' tk k=>⟨_,H,I.kept k,?_,q⟩;by_cases hj:j > i
 ·rw[SM hj,SM hj];exact⟨_,rfl⟩
 ·rw[SK hj,SK hj];exact⟨_,rfl⟩
theorem qQ(hc:X.calm=true):ft X (.builtin "min") (λxs H Q=>∃i j,xs=[.int i,.int j]/\Q (.int (if j<i then j else i)) H):=by
 intro ac s σ H xs us Q I r h;obtain⟨i,j,rfl,q⟩:=h;obtain⟨u,w',rfl,⟨t,rfl⟩,⟨t',rfl⟩⟩:=vals2 r;refine min_two_ints (I.ok.hd hc) λh' tk k=>⟨_,H,I.kept k,?_,q⟩;by_cases hj:j<i
 ·rw[SM hj,SM hj];exact⟨_,rfl⟩
 ·rw[SK hj,SK hj];exact⟨_,rfl⟩
theorem mx:ft X (.type "int") (λxs H Q=>(∃i,xs=[.int i]/\Q (.int i) H)\/∃k,xs=[.bl k]/\Q (.int (if k then 1 else 0)) H):=by
 intro ac s σ H xs us Q I r h;rcases h with⟨i,rfl,q⟩|⟨k,rfl,q⟩
 ·obtain⟨u,rfl,t,rfl⟩:=vals1 r;exact call_int_int ⟨.int i,H,I,⟨_,rfl⟩,q⟩
 ·obtain⟨u,rfl,r1⟩:=vals1 r;cases r1;exact call_int_bool ⟨.int (if k then 1 else 0),H,I.tok _,⟨_,rfl⟩,q⟩
end
structure IA(h:Heap)(x dx C:Addr)(mA:Str->Option Value):Prop where
 obj:h.get? x=some (PySem.W.instObj C dx)
 ns:h.Ns1 dx mA
 ne:dx≠x
theorem qW{h:Heap}{dx:Addr}{mA:Str->Option Value}(n:h.Ns1 dx mA):∃od,h.get? dx=some od/\∀name,PySem.W.lookIn name od=some (mA name):=by
 obtain⟨o,es,ep,ho,hd,hk,_,hm⟩:=n;refine⟨o,ho,λname=>?_⟩;have e:=hm name;unfold nsFind findBy at e;rw[←Array.find?_toList]at e;unfold PySem.W.lookIn;rw[hd];dsimp only;split
 ·rename_i y q;rw[q]at e;exact congrArg some e
 ·rename_i q;rw[q]at e;have a:es.toList.any (·.refKey)=false:=by rw[List.any_eq_false];intro y hy;obtain⟨z,t,hkey⟩:=hk y (Array.mem_toList_iff.mp hy);simp[DictEntry.refKey,hkey]
  have a':¬es.toList.any (·.refKey)=true:=by rw[a];exact Sh
  rw[SK a'];exact congrArg some e
theorem IA.look{h:Heap}{x dx C:Addr}{mA:Str->Option Value}(I:IA h x dx C mA):∃od,PySem.W.InstAt h x (PySem.W.instObj C dx) C (some od)/\∀name,PySem.W.lookIn name od=some (mA name) :=
 let ⟨od,ho,hl⟩:=qW I.ns
 ⟨od,⟨I.obj,rfl,rfl,ho⟩,hl⟩
def nM(f:Str)(v:V):List (Str×V)->List (Str×V)
 |[]=>[(f,v)]
 | (g,x)::r=>if g=f then(g,v)::r else(g,x)::nM f v r
theorem jm(f g:Str)(v:V):∀fs:List (Str×V),(nM f v fs).lookup g=if g=f then some v else fs.lookup g
 |[]=>by
  show List.lookup g [(f,v)]=_;by_cases h:g=f
  ·have hb:(g==f)=true:=beq_iff_eq.mpr h;simp only[List.lookup,hb,SM h]
  ·have hb:(g==f)=false:=beq_eq_false_iff_ne.mpr h;simp only[List.lookup,hb,SK h]
 | (k,x)::r=>by
  have ih:=jm f g v r;rw[show nM f v ((k,x)::r)=(if k=f then(k,v)::r else(k,x)::nM f v r) from rfl];by_cases hk:k=f
  ·rw[SM hk];by_cases h:g=k
   ·have hb:(g==k)=true:=beq_iff_eq.mpr h;simp only[List.lookup,hb,SM (h.trans hk)]
   ·have hb:(g==k)=false:=beq_eq_false_iff_ne.mpr h;simp only[List.lookup,hb,SK (λe:g=f=>h (e.trans hk.symm))]
  ·rw[SK hk];by_cases h:g=k
   ·have hb:(g==k)=true:=beq_iff_eq.mpr h;simp only[List.lookup,hb,SK (λe:g=f=>hk (h.symm.trans e))]
   ·have hb:(g==k)=false:=beq_eq_false_iff_ne.mpr h;simp only[List.lookup,hb];exact ih
theorem i9.some_of{v:V}{o:Option Value}(r:i9 (some v) o):∃u,o=some u/\RelV v u:=by
 cases o with
 |none=>exact(show False from r).elim
 |some u=>exact⟨u,rfl,r⟩
theorem i9.none_of{o:Option Value}(r:i9 none o):o=none:=by
 cases o with
 |none=>rfl
 |some u=>exact(show False from r).elim
section
variable{P:Program}{w:World}{H H':Hp}{h h':Heap}{a C dx:Addr}{fs fs':List (Str×V)}
theorem Dz(hok:jl P w H h)(e:H a=some (.ins C dx fs)):∃mA,IA h a dx C mA/\(∀f,i9 (fs.lookup f) (mA f))/\PySem.Within mA (fs.map (·.1))/\fs.length<=1000/\H dx=some (.own a):=by obtain⟨d,z,ne,ob,mA,n,r,q⟩:=(show cf P w H h a (.ins C dx fs) from hok a _ e);exact⟨mA,⟨ob,n,ne⟩,r,q,z,d⟩
end
structure Mk(K:S7)(C:Addr):Prop where
 pg:PySem.W.plainGet K C Str.empty=true
 hd:PySem.W.hasDictIn K C=true
 po:PySem.W.plainOver K C=true
 sa:PySem.W.findIn K (.ref C) "__setattr__"=some (some (.builtin "object.__setattr__"))
theorem Mk.get{K:S7}{C:Addr}(c:Mk K C)(f:Str):PySem.W.plainGet K C f=true:=c.pg
def kN(K:S7)(C:Addr)(f:Str):Prop:=PySem.W.findIn K (.ref C) f=some none
section
variable{X:Cx}{ac:List (Addr×Obj)}{σ:St}{H:Hp}{s:Shared}{A:Around}{E:Value->Shared->Prop}{Q:Value->Shared->Prop}{c:Value}{b:Bool}
inductive lN(K:S7)(H:Hp):V->Value->Prop where
 |non:lN K H .non (.type "NoneType")
 |bl (x:Bool):lN K H (.bl x) (.type "bool")
 |int (i:Int):lN K H (.int i) (.type "int")
 |str (x:Str):lN K H (.str x) (.type "str")
 |flt (x:UInt64):lN K H (.flt x) (.type "float")
 |lst {a:Addr} {xs:List V} (e:H a=some (.lst xs)):lN K H (.ref a) (.type "list")
 |vV {a:Addr} {o:Obj} {xs:List V} (e:H a=some (.vV o (.lst xs))):lN K H (.ref a) (.type "list")
 |tup {a:Addr} {xs:List V} (e:H a=some (.tup xs)):lN K H (.ref a) (.type "tuple")
 |dK {a:Addr} {kvs:List (Key×V)} (e:H a=some (.dK kvs)):lN K H (.ref a) (.type "dict")
 |dT {a:Addr} {kvs:List (List cN×V)} (e:H a=some (.dT kvs)):lN K H (.ref a) (.type "dict")
 |ins {a C dx:Addr} {fs:List (Str×V)} (e:H a=some (.ins C dx fs)) (cl:Mk K C) (ha:PySem.W.findIn K (.ref C) "__class__"=some (some (.builtin "object.__class__")))
   (hn:PySem.W.specialIn K (.builtin "object.__class__") "__get__"=some (some (.builtin "getset_descriptor.__get__"))) (htk:PySem.W.takesIn K (.builtin "object.__class__")=some true)
   (hm:PySem.W.mroIn K C (.type "object")=some true):lN K H (.ref a) (.ref C)
theorem zH{x:V}{u t:Value}(I:Inv X ac σ H s)(rx:RelV x u)(ty:lN X.K H x t)(e:PySem.W.kitOne X.K t c=some b)(h:∀tk,Q (.bool b) {s with toks:=tk}) :
  wpAny (model X.prog X.w) A (call (.builtin "isinstance") [u,c]) Q E s:=by
 cases ty with
 |non=>cases(show u=Value.none from rx);exact PySem.W.kia_one PySem.W.kitx_none I.kH True.intro e (λz=>nomatch z) h
 |bl y=>cases(show u=Value.bool y from rx);exact PySem.W.kia_one PySem.W.kitx_bool I.kH True.intro e (λz=>nomatch z) h
 |int i=>obtain⟨t,q⟩:=(show∃t,u=Value.int i t from rx);cases q;exact PySem.W.kia_one PySem.W.kitx_int I.kH True.intro e (λz=>nomatch z) h
 |str y=>obtain⟨t,q⟩:=(show∃t,u=Value.str y t from rx);cases q;exact PySem.W.kia_one PySem.W.kitx_str I.kH True.intro e (λz=>nomatch z) h
 |flt y=>obtain⟨t,q⟩:=(show∃t,u=Value.float y t from rx);cases q;exact PySem.W.kia_one PySem.W.kitx_float I.kH True.intro e (λz=>nomatch z) h
 | @lst a xs ea =>cases(show u=Value.ref a from rx);obtain⟨_,_,n,_,h1⟩:=(show cf X.prog X.w H s.heap a (.lst xs) from I.hok a _ ea);exact PySem.W.kia_one PySem.W.kitx_list I.kH ⟨_,h1,rfl⟩ e (λz=>nomatch z) h
 | @vV a ob xs ea =>cases(show u=Value.ref a from rx);obtain⟨_,_,_,n,_,h1⟩:=(show cf X.prog X.w H s.heap a (.vV ob (.lst xs)) from I.hok a _ ea);exact PySem.W.kia_one PySem.W.kitx_list I.kH ⟨_,h1,rfl⟩ e (λz=>nomatch z) h
 | @tup a xs ea =>cases(show u=Value.ref a from rx);obtain⟨_,_,_,p⟩:=(show cf X.prog X.w H s.heap a (.tup xs) from I.hok a _ ea);obtain⟨o,h1,h2,_⟩:=p;exact PySem.W.kia_one PySem.W.kitx_tuple I.kH ⟨o,h1,h2⟩ e (λz=>nomatch z) h
 | @dK a kvs ea =>cases(show u=Value.ref a from rx);obtain⟨_,_,vs,_,p⟩:=(show cf X.prog X.w H s.heap a (.dK kvs) from I.hok a _ ea);obtain⟨o,es,ep,h1,h2,_⟩:=p;exact PySem.W.kia_one PySem.W.kitx_dict I.kH ⟨o,h1,h2.1⟩ e (λz=>nomatch z) h
 | @dT a kvs ea =>cases(show u=Value.ref a from rx);obtain⟨_,_,xs,_,o,es,ep,h1,h2,_⟩:=(show cf X.prog X.w H s.heap a (.dT kvs) from I.hok a _ ea);exact PySem.W.kia_one PySem.W.kitx_dict I.kH ⟨o,h1,h2.1⟩ e (λz=>nomatch z) h
 | @ins a C dx fs ea cl ha hn htk hm =>cases(show u=Value.ref a from rx);obtain⟨mA,O,_⟩:=Dz I.hok ea;obtain⟨od,J,_⟩:=O.look;exact PySem.W.kia_one (PySem.W.kitx_own (cl.get _) cl.hd ha hn htk hm) I.kH J e (λz=>nomatch z) h
end
structure eW(k:Nat)(A:Around):Prop where
 hd:A.handled=none
 dp:A.depth+3*k+5<recursionLimit
 un:A.units+16*k+200<cLine
theorem eW.mono{j k:Nat}{A:Around}(r:eW k A)(h:j<=k):eW j A:=⟨r.hd,by have:=r.dp;omega,by have:=r.un;omega⟩
theorem eW.deeper{k:Nat}{A:Around}(r:eW (k+1) A)(env:Env):eW k (A.deeper env) :=
 ⟨r.hd,by have:=r.dp;show A.depth+1+3*k+5<_;omega,by have:=r.un;show A.units+3+16*k+200<_;omega⟩
theorem vT{A:Around}{C:Addr}{us:List Value}{kw:List (Str×Value)}:(A.under (.builtin "type.__call__" ⟨.ref C::us,kw⟩)).depth=A.depth+1:=by
 first|rfl|simp[Around.under,Code.weight,Code.isCreation,Code.isGuard,Code.isCaller,Code.frames,Code.isFrame,guardIds]
theorem wY{A:Around}{C:Addr}{us:List Value}{kw:List (Str×Value)}:(A.under (.builtin "type.__call__" ⟨.ref C::us,kw⟩)).units=A.units+1:=by
 first|rfl|simp[Around.under,Code.cUnits,Code.frames,Code.isFrame]
theorem eW.make{k:Nat}{A:Around}(r:eW (k+1) A)(C:Addr)(us:List Value)(kw:List (Str×Value)):eW k (A.under (.builtin "type.__call__" ⟨.ref C::us,kw⟩)) :=
 ⟨r.hd,by have:=r.dp;rw[vT];omega,by have:=r.un;rw[wY];omega⟩
theorem eW.depth{k:Nat}{A:Around}(r:eW k A):A.depth<recursionLimit:=by have:=r.dp;omega
theorem eW.units{k:Nat}{A:Around}(r:eW k A):A.units+64<cLine:=by have:=r.un;omega
def nI:TA:=λ_ H Q=>Q [] H
def eN(ta:TE)(tr:TA):TA:=λσ H Q=>ta σ H λx H1=>tr σ H1 λxs H2=>Q (x::xs) H2
section
variable{X:Cx}{e:Expr}{es:List Expr}{te:TE}{t:TA}{pos:Pos}
theorem ah:PA X [] nI:=λ_ _ _ _ H Q I h=>Calls.spliced_nil ⟨[],H,I,.nil,h⟩
theorem aa(ha:PE X e te)(hr:PA X es t)(hs:starEach (e::es) X.env=(false,eval e X.env)::starEach es X.env:=by rfl):PA X (e::es) (eN te t):=by intro pos ac s σ H Q I h;rw[hs];show wpAny _ _ (spliced ((false,eval e X.env)::backTo pos (starEach es X.env))) _ _ s;refine Calls.spliced_cons (bO (ha ac s σ H _ I h) λu s1 zz=>?_);obtain⟨x,H1,I1,r1,q1⟩:=zz;exact bO (hr pos ac s1 σ H1 _ I1 q1) λus s2 ⟨xs,H2,I2,r2,q2⟩=>⟨x::xs,H2,I2,.cons r1 r2,q2⟩
def Jc(t:TA):TE:=λσ H Q=>t σ H λxs H1=>xs.length<=sizeLine/\∀p,H1 p=none->Q (.ref p) (upd H1 p (.tup xs))
def GU(t:TA):TE:=λσ H Q=>t σ H λxs H1=>xs.length<=sizeLine/\∀p,H1 p=none->Q (.ref p) (upd H1 p (.lst xs))
theorem aY{x1}(h:PA X es t):PE X (.Tuple es x1 pos) (Jc t):=by intro ac s σ H Q I hq;refine wpAny_Tuple_spliced (bO (h pos ac s σ H _ I hq) λus s1 ⟨xs,H1,I1,r,z,q⟩=>⟨by rw[←r.length];exact z,?_⟩);have hf:H1 s1.heap.objs.size=none:=I1.hok.fresh (R3 _);refine⟨.ref s1.heap.objs.size,upd H1 s1.heap.objs.size (.tup xs),I1.laid (t':=s1.toks) (λb u e=>RZ _ e) (R3 _) ?_,rfl,q _ hf⟩;exact⟨z,us,r,⟨_,R1 _ rfl,rfl,⟨_,rfl⟩,rfl⟩⟩
theorem bJ(h:PA X es t):PE X (.List es pos) (GU t):=by intro ac s σ H Q I hq;refine wpAny_List_spliced (bO (h pos ac s σ H _ I hq) λus s1 ⟨xs,H1,I1,r,z,q⟩=>⟨by rw[←r.length];exact z,?_⟩);have hf:H1 s1.heap.objs.size=none:=I1.hok.fresh (R3 _);refine⟨.ref s1.heap.objs.size,upd H1 s1.heap.objs.size (.lst xs),I1.laid (t':=s1.toks) (λb u e=>RZ _ e) (R3 _) ?_,rfl,q _ hf⟩;exact⟨z,us,0,r,R1 _ rfl⟩
end
abbrev Sp:=List V->Hp->VK->XK->Prop
abbrev qm:=List Env->Hp->Shared->XK->Value->Shared->Prop
structure vN(P:Program)(w:World)(K:S7)(mg:Str->Option Value)(base:Heap)(A:Around)(outer:List Env)(s:Shared)(H:Hp):Prop where
 frames:A.frames=some outer
 mod:Mod K mg base
 bs:∀b o,base.get? b=some o->s.heap.get? b=some o/\H b=none
 DC:base.objs.size<=s.heap.objs.size
 nU:s.heap.FunFrames base outer
 ID:∀b∈frs outer,H b=none
 hok:jl P w H s.heap
 bare:AllBare s.gens
def CE(outer:List Env)(P:Program)(w:World)(H:Hp)(s:Shared)(Q:VK)(u:Value)(s':Shared):Prop :=
 ∃v H',s'.os=s.os/\AllBare s'.gens/\Un (frs outer) [] H H' s.heap s'.heap/\jl P w H' s'.heap/\RelV v u/\Q v H'
def CR(CX:qm)(outer:List Env)(P:Program)(w:World)(H:Hp)(s:Shared)(Q:VK)(E:XK)(r:Result)(s':Shared):Prop :=
 match r with
 | .ok (.ret u)=>CE outer P w H s Q u s'
 | .ok _=>False
 | .error e=>CX outer H s E e s'
structure e8(P:Program)(w:World)(K:S7)(mg:Str->Option Value)(base:Heap)(CX:qm)(k:Nat)(f:Addr)(fd:FuncData)(ps:List Str)(sp:Sp):Prop where
 len:∀vs H Q E,sp vs H Q E->vs.length=ps.length
 run:∀(A:Around)(outer:List Env)(s:Shared)(H:Hp)(args:Args)(us:List Value)(vs:List V)(Q:VK)(E:XK),eW k A->vN P w K mg base A outer s H->BindsTo s fd args (ps.zip us)->Vals vs us->sp vs H Q E->
  codeAny (model P w) A (.call (.ref f) args) (CR CX outer P w H s Q E) s
theorem e8.mono{P:Program}{w:World}{K:S7}{mg:Str->Option Value}{base:Heap}{CX:qm}{j k:Nat}{f:Addr}{fd:FuncData}{ps:List Str}{sp:Sp}(F:e8 P w K mg base CX j f fd ps sp)(h:j<=k) :
  e8 P w K mg base CX k f fd ps sp:=⟨F.len,λA outer s H args us vs Q E hr=>F.run A outer s H args us vs Q E (hr.mono h)⟩
theorem e8.imp{P:Program}{w:World}{K:S7}{mg:Str->Option Value}{base:Heap}{CX:qm}{k:Nat}{f:Addr}{fd:FuncData}{ps:List Str}{sp OB:Sp}(F:e8 P w K mg base CX k f fd ps sp)
  (h:∀vs H Q E,OB vs H Q E->sp vs H Q E):e8 P w K mg base CX k f fd ps OB :=
 ⟨λvs H Q E q=>F.len vs H Q E (h _ _ _ _ q),λA outer s H args us vs Q E hr he hb hv hs=>F.run A outer s H args us vs Q E hr he hb hv (h _ _ _ _ hs)⟩
theorem vN.make{P:Program}{w:World}{K:S7}{mg:Str->Option Value}{base:Heap}{A:Around}{outer:List Env}{s:Shared}{H:Hp}(e:vN P w K mg base A outer s H)(C:Addr)(us:List Value)(kw:List (Str×Value)) :
  vN P w K mg base (A.under (.builtin "type.__call__" ⟨.ref C::us,kw⟩)) outer s H:=⟨by first|exact e.frames | (simpa[Around.under,Code.envs,Code.isFrame,pushEnvs] using e.frames),e.mod,e.bs,e.DC,e.nU,e.ID,e.hok,e.bare⟩
section
variable{X:Cx}{ac:List (Addr×Obj)}{σ:St}{H:Hp}{s s':Shared}
theorem Inv.env0(I:Inv X ac σ H s):vN X.prog X.w X.K X.mg X.base X.A X.stack s H :=
 ⟨I.ok.frames,I.ok.mod,I.bs,R4 I.ok.DC I.sz,I.stack,I.n8,I.hok,I.bare⟩
theorem Inv.after{Q:VK}{u:Value}(I:Inv X ac σ H s)(h:CE X.stack X.prog X.w H s Q u s'):EP X ac σ Q u s':=by obtain⟨v,H',os,bare,un,hok,r,q⟩:=h;obtain⟨hh,g,d,t,os'⟩:=s';obtain rfl:os'=s.os:=os;exact⟨v,H',I.call (h':=hh) (g':=g) (d':=d) (t':=t) (ch:=[]) un hok bare (λb z=>SJ z (by simp)),r,q⟩
end
def kF(sp:Sp)(Gf:List V)(E:XK)(t:TA):TE:=λσ H Q=>t σ H λvs H1=>sp (vs++Gf) H1 Q E
def Binds(K:S7)(fd:FuncData)(ps:List Str)(ds:List Value):Prop :=
 ∀(s:Shared)(us:List Value),K.In s.heap->(us++ds).length=ps.length->BindsTo s fd ⟨us,[]⟩ (ps.zip (us++ds))
theorem Binds.all{K:S7}{fd:FuncData}{ps:List Str}(h:∀us:List Value,us.length=ps.length->bindArgs fd ⟨us,[]⟩=pure (ps.zip us)):Binds K fd ps []:=λs us _ hl=>by rw[SX]at hl⊢;exact .of_eq (h us hl)
def Passes(CX:qm)(X:Cx)(E:XK):Prop:=∀(ac:List (Addr×Obj))(σ:St)(H:Hp)(s:Shared)(e:Value)(s':Shared),Inv X ac σ H s->CX X.stack H s E e s'->X.xe e s'
section
variable{X:Cx}{CX:qm}{k:Nat}{f C:Addr}{fd:FuncData}{ps:List Str}{sp:Sp}{Gf:List V}{ds:List Value}{E:XK}{x m:Str}{p pos apos:Pos}{e o:Expr}{es:List Expr}{ta:TE}{t:TA}
theorem Cm{ac:List (Addr×Obj)}{σ:St}{H:Hp}{s:Shared}{Q:VK}{us:List Value}{vs:List V}(F:e8 X.prog X.w X.K X.mg X.base CX k f fd ps sp)(hr:eW k X.A)(hb:Binds X.K fd ps ds)(hd:Vals Gf ds)(hx:Passes CX X E)
  (I:Inv X ac σ H s) (r:Vals vs us) (h:sp (vs++Gf) H Q E):wpAny (model X.prog X.w) X.A (call (.ref f) us) (EP X ac σ Q) X.xe s:=by
 have r2:Vals (vs++Gf) (us++ds):=r.append hd;have hl:(us++ds).length=ps.length:=by rw[←r2.length];exact F.len _ _ _ _ h
 refine wpAny_call (codeAny_mono (F.run X.A X.stack s H ⟨us,[]⟩ (us++ds) (vs++Gf) Q E hr I.env0 (hb s us I.kH hl) r2 h) λr s' hq=>?_);cases r with
 |error e=>exact hx ac σ H s e s' I hq
 |ok fl =>
  cases fl with
  |ret u=>exact I.after hq
  |next=>exact SS hq
  |brk=>exact SS hq
  |cont=>exact SS hq
theorem Fd(F:e8 X.prog X.w X.K X.mg X.base CX k f fd ps sp)(hr:eW k X.A)(hg:Gl X x)(hm:X.mg x=some (.ref f))(hk:PySem.W.keepIn X.K (.ref f)=true)(hb:Binds X.K fd ps ds)(hd:Vals Gf ds)(hx:Passes CX X E)
  (ha:PA X (e::es) t) (hdb:(x==("__debug__" : Str))=false:=by decide) (he:starEach (e::es) X.env=(false,eval e X.env)::starEach es X.env:=by rfl) (hpl:(backTo pos (starEach es X.env)).any (·.1)=false:=by rfl) :
  PE X (.Call (.Name x p) (e::es) [] pos) (kF sp Gf E t):=by
 intro ac s σ H Q I h;refine wpAny_Call_Name_kw (n9 I hg hm ?_ hdb);refine PySem.W.callWith_K (h₀:=X.base) I.ok.mod.Ho hk (bO (ha pos ac s σ H _ I h) λus s1 ⟨vs,H1,I1,r,q⟩=>⟨I1.kH,?_⟩) he hpl;exact Cm F hr hb hd hx I1 r q
end
structure au(N P:List Str)(sc:Scope):Prop where
 kind:sc.kind=.function
 co:sc.isCoroutine=false
 gen:sc.isGenerator=false
 nd:N.Nodup
 pre:N.take P.length=P
 par:∀x∈P,sc.names.lookup x=some .local\/sc.names.lookup x=some .cell
 Gk:∀y∈sc.names,y.2≠ .free
theorem qI{kindOf:Str->Option NameKind}{x:Str}:∀{binds:List (Str×Value)}{m:Str->Option Value},(∀v,(x,v)∉binds)->bindL kindOf binds m x=m x
 |[],_,_=>rfl
 | (n,v)::r,m,h=>by
  unfold bindL;rw[qI λw hw=>h w (Sg _ hw)];split
  ·have:x≠n:=by rintro rfl;exact h v SE
   simp[this]
  ·rfl
theorem qH{kindOf:Str->Option NameKind}{x:Str}:∀{binds:List (Str×Value)}{m:Str->Option Value},(∀v,(x,v)∉binds)->bindC kindOf binds m x=m x
 |[],_,_=>rfl
 | (n,v)::r,m,h=>by
  unfold bindC;rw[qH λw hw=>h w (Sg _ hw)];split
  ·rfl
  ·have:x≠n:=by rintro rfl;exact h v SE
   simp[this]
theorem ra{kindOf:Str->Option NameKind}{x:Str}{v:Value}:∀{P:List Str}{vs:List Value}{i:Nat}{m:Str->Option Value},P.Nodup->P[i]? = some x->vs[i]? = some v->kindOf x=some .local->
  bindL kindOf (P.zip vs) m x=some v
 |[],_,_,_,_,h,_,_=>by simp at h
 |_::_,[],_,_,_,_,h,_=>by simp at h
 |p::P,w::vs,0,m,nd,h1,h2,hk=>by simp at h1 h2;subst h1;subst h2;show bindL kindOf ((p,w)::P.zip vs) m p=_;unfold bindL;rw[qI λv hv=>(List.nodup_cons.mp nd).1 (List.of_mem_zip hv).1,SM hk];simp
 |p::P,w::vs,i+1,m,nd,h1,h2,hk=>by show bindL kindOf ((p,w)::P.zip vs) m x=_;unfold bindL;exact ra (i:=i) (List.nodup_cons.mp nd).2 (by simpa using h1) (by simpa using h2) hk
theorem q_{kindOf:Str->Option NameKind}{x:Str}{v:Value}:∀{P:List Str}{vs:List Value}{i:Nat}{m:Str->Option Value},P.Nodup->P[i]? = some x->vs[i]? = some v->kindOf x≠some .local->
  bindC kindOf (P.zip vs) m x=some v
 |[],_,_,_,_,h,_,_=>by simp at h
 |_::_,[],_,_,_,_,h,_=>by simp at h
 |p::P,w::vs,0,m,nd,h1,h2,hk=>by simp at h1 h2;subst h1;subst h2;show bindC kindOf ((p,w)::P.zip vs) m p=_;unfold bindC;rw[qH λv hv=>(List.nodup_cons.mp nd).1 (List.of_mem_zip hv).1,SK hk];simp
 |p::P,w::vs,i+1,m,nd,h1,h2,hk=>by show bindC kindOf ((p,w)::P.zip vs) m x=_;unfold bindC;exact q_ (i:=i) (List.nodup_cons.mp nd).2 (by simpa using h1) (by simpa using h2) hk
def start(N:List Str)(vs:List V):St:=vs.map some++List.replicate (N.length-vs.length) none
def qj(CX:qm)(P:Program)(w:World)(K:S7)(mg:Str->Option Value)(base:Heap)(N:List Str)(qual:Str)(scope:Scope)(f:Addr)(cd:Value)(A:Around)(outer:List Env)(s:Shared)(H:Hp)(E:XK):Cx where
 prog:=P
 w:=w
 K:=K
 mg:=mg
 base:=base
 A:=A.deeper (envOfC qual scope s.heap.objs.size f cd)
 N:=N
 s₀:=s
 H₀:=H
 env:=envOfC qual scope s.heap.objs.size f cd
 outer:=outer
 stack:=envOfC qual scope s.heap.objs.size f cd::outer
 ex:=[]
 calm:=true
 fn:=λ_=>true
 pn:=[]
 xe:=λe s'=>wpAny (model P w) (A.deeper (envOfC qual scope s.heap.objs.size f cd)) (leaving (envOfC qual scope s.heap.objs.size f cd) e) (λ_ s''=>CX outer H s E e s'') (λe' s''=>CX outer H s E e' s'') s'
theorem uo{sc:Scope}{n:Nat}{x:Str}(h:sc.names.lookup x=some .cell):∃c,(cellsFrom n sc.names []).lookup x=some c:=by have q:=PySem.W.cellsFrom_some sc.names n [] (.inl h);exact Option.isSome_iff_exists.mp q
theorem zg{CX:qm}{P:Program}{w:World}{K:S7}{mg:Str->Option Value}{base:Heap}{N ps:List Str}{qual:Str}{scope:Scope}{f:Addr}{cd:Value}{A:Around}{outer:List Env}{s s1:Shared}{H:Hp}{E:XK}{us:List Value}{vs:List V}
  (S:au N ps scope) (hd:A.handled=none) (e0:vN P w K mg base A outer s H) (hl:vs.length=ps.length) (r:Vals vs us)
  (x:InCallC s s.heap.objs.size (bindL (envOfC qual scope s.heap.objs.size f cd).kindOf (ps.zip us) λ_=>none) (cellsFrom (s.heap.objs.size+1) scope.names []) (bindC (envOfC qual scope s.heap.objs.size f cd).kindOf (ps.zip us) λ_=>none) s1) :
  Inv (qj CX P w K mg base N qual scope f cd A outer s H E) [] (start N vs) H s1:=by
 have hpl:ps.length<=N.length:=by have:=congrArg List.length S.pre;rw[Sx]at this;omega
 obtain⟨h1,tk,rfl,hk⟩:=x.done;have Lx:∀b:Addr,b∉(qj CX P w K mg base N qual scope f cd A outer s H E).ex:=λb z=>SJ (show b∈([]:List Addr) from z) (by simp);refine⟨⟨e0.mod,S.kind,rfl,rfl,R3 _,λy z c h1 h2=>?_,λy hy=>?_,λy c _ h=>?_,λ_=>hd,Around.frames_deeper e0.frames,.inr ⟨rfl,rfl⟩,λb z=>SJ z (Lx b),e0.bs,e0.DC,λb _ _=>Lx b,λb z=>SJ z (Lx b),e0.nU,e0.ID⟩,
  rfl,e0.bare,Un.kept hk,⟨_,x.toInCall.ns,λi y v h1 h2 h3=>?_⟩,λy c h=>⟨_,x.cell y c h⟩,e0.hok.fresh (R3 _),λy c h=>?_,λp hp=>SJ (show p∈([]:List (Addr×Obj)) from hp) (by simp),e0.hok.kept hk,?_⟩
 ·exact name_of_addr x.apart (PySem.mem_of_lookup h1) (PySem.mem_of_lookup h2)
 ·have hy:scope.names.lookup y=some .cell\/scope.names.lookup y=some .free:=hy;rcases hy with hy|hy
  ·exact uo hy
  ·exact SJ rfl (S.Gk _ (PySem.mem_of_lookup hy))
 ·exact Nat.le_of_lt (x.above y c (PySem.mem_of_lookup h))
 ·have hi:i<vs.length:=by
   unfold start at h2;by_cases hi:i<vs.length
   ·exact hi
   ·rw[Su (by simpa using hi)]at h2;rw[List.getElem?_replicate]at h2;split at h2<;>cases h2
  have ha:vs[i]? = some v:=by
   unfold start at h2;rw[Sv (by simpa using hi),Sw]at h2;cases e:vs[i]? with
   |none=>rw[e]at h2;cases h2
   |some a=>rw[e]at h2;cases h2;rfl
  obtain⟨u,hu,rv⟩:=r.get ha;have hp:ps[i]? = some y:=by rw[←S.pre,List.getElem?_take_of_lt (by omega)];exact h1
  have OM:ps.Nodup:=by rw[←S.pre];exact S.nd.sublist (List.take_sublist _ _)
  refine⟨u,rv,?_⟩;rcases S.par y (Sf hp)with k|k
  ·exact .inl ⟨k,ra OM hp hu k⟩
  ·obtain⟨c,e⟩:=uo (n:=s.heap.objs.size+1) k;refine .inr ⟨.inl k,c,e,?_⟩;have q:=x.cell y c e;rw[q_ OM hp hu (by show scope.names.lookup y≠_;rw[k];decide)]at q;exact q
 ·exact e0.hok.fresh (Nat.le_of_lt (x.above y c (PySem.mem_of_lookup h)))
 ·unfold start;show _=N.length;rw[R8,R7,List.length_replicate];omega
theorem F_{CX:qm}{P:Program}{w:World}{K:S7}{mg:Str->Option Value}{base:Heap}{k:Nat}{f:Addr}{name qual:Str}{params:Arguments}{body:List Stmt}{scope:Scope}{dV kV doc pm cdv ct oc:Value}{an od:Option Addr}
  {osl:Array (Option Value)} {N ps:List Str} {sp:Sp} (lk:K.lookup f=some ⟨oc,od,.func (PySem.W.fnOf name qual params body scope dV kV doc pm an cdv ct),osl⟩) (hcd:PySem.W.codeIn K cdv qual=true) (S:au N ps scope)
  (len:∀vs H Q E,sp vs H Q E->vs.length=ps.length)
  (hbody:∀(A:Around)(outer:List Env)(s:Shared)(H:Hp)(vs:List V)(Q:VK)(E:XK),eW k (A.deeper (envOfC qual scope s.heap.objs.size f cdv))->sp vs H Q E->
   ∃t,qU (qj CX P w K mg base N qual scope f cdv A outer s H E) body t/\t {nx:=λ_ H'=>Q .non H',rt:=Q} (start N vs) H) :
  e8 P w K mg base CX (k+1) f (PySem.W.fnOf name qual params body scope dV kV doc pm an cdv ct) ps sp:=by
 refine⟨len,λA outer s H args us vs Q E hr e0 hb r hsp=>?_⟩;have hl:=len _ _ _ _ hsp;have KX:K.In s.heap:=e0.mod.Ho.keeps λb o e=>(e0.bs b o e).1;have lim:s.heap.NoLimit:=e0.mod.nolimit.keeps λb o e=>(e0.bs b o e).1;have hkind:∀y∈ps.zip us,scope.names.lookup y.1=some .local\/(scope.names.lookup y.1=some .cell/\((cellsFrom (s.heap.objs.size+1) scope.names []).lookup y.1).isSome=true):=λ⟨n,v⟩ hy=>by
  rcases S.par n (List.of_mem_zip hy).1 with q|q
  ·exact .inl q
  ·exact .inr ⟨q,PySem.W.cellsFrom_some _ _ _ (.inl q)⟩
 refine codeAny_call_function hr.depth (KX _ _ lk) rfl S.co S.gen rfl (PySem.W.codeRec_of KX hcd) (hb _ _ _ _ ?_);refine wpAny_newFunctionEnv_cells S.kind hkind λenv he s1 x=>?_;subst he;refine⟨lim.keeps x.toInCall.keep,codeAny_func ?_⟩;obtain⟨t,ht,hq⟩:=hbody A outer s H vs Q E (hr.deeper _) hsp;have I:Inv (qj CX P w K mg base N qual scope f cdv A outer s H E) [] (start N vs) H s1:=zg S hr.hd e0 hl r x;refine Sz (ht [] s1 (start N vs) H _ I hq) (λfl s' hs=>?_) λe s' hs=>hs;have fin:∀{σ':St}{H':Hp}{v:V}{u:Value},Inv (qj CX P w K mg base N qual scope f cdv A outer s H E) [] σ' H' s'->RelV v u->Q v H'->CE outer P w H s Q u s' :=
  λ{σ' H' v u} J rv q=>⟨v,H',J.os,J.bare,J.base,J.hok,rv,q⟩
 cases fl with
 |ret u =>obtain⟨v,σ',H',J,rv,q⟩:=hs;exact fin J rv q
 |next =>obtain⟨σ',H',J,q⟩:=hs;exact fin (v:=V.non) (u:=Value.none) J rfl q
 |brk =>obtain⟨_,_,_,q⟩:=hs;exact SS q
 |cont =>obtain⟨_,_,_,q⟩:=hs;exact SS q
section
variable{X:Cx}{x:Str}{p pos:Pos}{e:Expr}{es:List Expr}{t:TA}{id T:String}{r:List V->Hp->VK->Prop}
def Mj(r:List V->Hp->VK->Prop)(t:TA):TE:=λσ H Q=>t σ H λvs H1=>r vs H1 Q
theorem aK(hc:ft X (.builtin id) r)(hg:Gl X x)(hm:X.mg x=none)(hv:bootBuiltins x=some (.builtin id))(ha:PA X (e::es) t)(hn:x≠"__name__":=by decide)(hdb:(x==("__debug__" : Str))=false:=by decide)
  (he:starEach (e::es) X.env=(false,eval e X.env)::starEach es X.env:=by rfl) (hpl:(backTo pos (starEach es X.env)).any (·.1)=false:=by rfl):PE X (.Call (.Name x p) (e::es) [] pos) (Mj r t):=by
 intro ac s σ H Q I h;refine wpAny_Call_Name_kw (i0 I hg hm hv ?_ hn hdb);exact PyProof.Rows.callWith_builtin1 (bO (ha pos ac s σ H _ I h) λus s1 ⟨vs,H1,I1,r1,q1⟩=>hc ac s1 σ H1 vs us Q I1 r1 q1) he hpl
theorem bx(hc:ft X (.type T) r)(hg:Gl X x)(hm:X.mg x=none)(hv:bootBuiltins x=some (.type T))(ha:PA X (e::es) t)(hn:x≠"__name__":=by decide)(hdb:(x==("__debug__" : Str))=false:=by decide)
  (he:starEach (e::es) X.env=(false,eval e X.env)::starEach es X.env:=by rfl) (hpl:(backTo pos (starEach es X.env)).any (·.1)=false:=by rfl):PE X (.Call (.Name x p) (e::es) [] pos) (Mj r t):=by
 intro ac s σ H Q I h;refine wpAny_Call_Name_kw (i0 I hg hm hv ?_ hn hdb);exact PyProof.Rows.callWith_type1 (bO (ha pos ac s σ H _ I h) λus s1 ⟨vs,H1,I1,r1,q1⟩=>hc ac s1 σ H1 vs us Q I1 r1 q1) he hpl
end
end L2
namespace HT
open PySem PyProof.Rows
section
variable{prog:Program}{w:World}{A:Around}{E:Value->Shared->Prop}{s:Shared}
theorem E4{t b:Addr}{vs ws:List Value}{Q:Value->Shared->Prop}(ht:IsTup s.heap t vs.toArray)(hb:IsTup s.heap b ws.toArray)(hv:vs≠[])
  (h1:ws=[]->Q (.ref t) s) (h2:ws≠[]->Q (.ref s.heap.objs.size) {s with heap:=s.heap.push {cls:=.type "tuple",data:=.seq (vs++ws).toArray}})
  (hsz:vs.length+ws.length<=sizeLine):wpAny (model prog w) A (binaryOp .Add (.ref t) (.ref b)) Q E s:=by
 obtain⟨⟨cls,dd,data,sl⟩,ho,hc,n,hd⟩:=id ht;obtain⟨⟨cls2,dd2,data2,sl2⟩,ho2,hc2,n2,hd2⟩:=id hb;simp only at hc hd hc2 hd2;subst hc hd hc2 hd2;have e:vs.toArray++ws.toArray=(vs++ws).toArray:=by simp
 by_cases hw:ws=[]
 ·exact concat_meets ⟨_,ho,rfl⟩ ⟨_,ho2,rfl⟩ noFill_tuple_add seq_tuple_add PySem.F.slot_tuple_add PySem.F.entry_tuple_add (PySem.F.args_tuple_add_2 _ _)
   (tuple_addW1 t b vs.toArray ws.toArray n n2 dd dd2 sl sl2 (by simpa using hv) (by simp[hw])) ⟨ho,ho2,h1 hw⟩
 ·refine concat_meets ⟨_,ho,rfl⟩ ⟨_,ho2,rfl⟩ noFill_tuple_add seq_tuple_add PySem.F.slot_tuple_add PySem.F.entry_tuple_add (PySem.F.args_tuple_add_2 _ _)
   (tuple_addW2 t b vs.toArray ws.toArray n n2 dd dd2 sl sl2 (by simpa using hv) (by simpa using hw) (by rw[Si,Si];exact hsz)) ⟨ho,ho2,?_⟩
  rw[e];exact h2 hw
def dG(n d:Nat):Option Int->Nat
 |none=>d
 |some v=>if v<0 then(v+(n:Int)).toNat else min v.toNat n
theorem uJ(n d:Nat):dG n d none=d:=rfl
theorem x9(n d k:Nat):dG n d (some (k:Int))=min k n:=by show(if(k:Int)<0 then((k:Int)+(n:Int)).toNat else min (k:Int).toNat n)=min k n;rw[SK (by omega),Int.toNat_natCast]
theorem Gp(n d:Nat)(hd:d<=n)(o:Option Int):dG n d o<=n:=by
 cases o with
 |none=>exact hd
 |some v =>
  show(if v<0 then(v+(n:Int)).toNat else min v.toNat n)<=n;by_cases hv:v<0
  ·rw[SM hv];omega
  ·rw[SK hv];exact Nat.min_le_right _ _
theorem xE(v:Int)(n d:Nat):(if v<0 then max (v+(n:Int)) 0 else min v (n:Int))=((dG n d (some v):Nat):Int):=by
 show(if v<0 then max (v+(n:Int)) 0 else min v (n:Int))=(((if v<0 then(v+(n:Int)).toNat else min v.toNat n):Nat):Int);by_cases hv:v<0
 ·simp only[SM hv];omega
 ·simp only[SK hv];omega
theorem wF(lo hi:Option Int)(n:Nat):Builtin.Slice.sliceAdjust lo hi 1 (n:Int)=(((dG n 0 lo:Nat):Int),((dG n n hi:Nat):Int)):=by
 have h1:¬((1:Int)<0):=by omega
 unfold Builtin.Slice.sliceAdjust;simp only[h1,if_false];refine Prod.ext ?_ ?_
 ·cases lo with
  |none=>rfl
  |some v=>exact xE v n 0
 ·cases hi with
  |none=>rfl
  |some v=>exact xE v n n
theorem wA(i j:Nat):Builtin.Slice.slicePlaces (i:Int) (j:Int) 1=j-i:=by
 unfold Builtin.Slice.slicePlaces;have h1:(1:Int) > 0:=by omega
 simp only[h1,if_true,Int.ediv_one];split<;>omega
theorem pY{v:Value}{o:Option Int}{Q:Option Int->Shared->Prop}(p:IsPart v o)(h:Q o s):wpAny (model prog w) A (Builtin.Slice.slicePartIndex v) Q E s:=by
 cases p with
 |none=>exact slicePart_none h
 |int i t=>exact slicePart_int h
theorem iA{sl:Addr}{vl vu:Value}{lo hi:Option Int}{n:Nat}{Q:Int×Int×Nat->Shared->Prop}(hs:s.heap.IsSliceOf sl vl vu .none)(pl:IsPart vl lo)(pu:IsPart vu hi)
  (h:Q (((dG n 0 lo:Nat):Int),1,dG n n hi-dG n 0 lo) s):wpAny (model prog w) A (Builtin.Slice.sliceApplied (.ref sl) (pure (n:Int))) Q E s:=by
 obtain⟨os,hos,hcs,hds⟩:=id hs;unfold Builtin.Slice.sliceApplied Builtin.Slice.sliceFields;refine RX (RX (wpAny_field hos hds (x:=vl) rfl (RX (wpAny_field hos hds (x:=vu) rfl (RX (wpAny_field hos hds (x:=.none) rfl (RY ?_)))))));refine RX (slicePart_none ?_);show wpAny _ _ (if((1:Int)==0)=true then _ else _) _ _ s;rw[SK (by decide)];refine RX (pY pl (RX (pY pu (RX (RY ?_)))));show wpAny _ _ (match Builtin.Slice.sliceAdjust lo hi 1 (n:Int)with | (lo,hi)=>pure (lo,(1:Int),Builtin.Slice.slicePlaces lo hi 1)) _ _ s;rw[wF lo hi n];show wpAny _ _ (pure (((dG n 0 lo:Nat):Int),(1:Int),Builtin.Slice.slicePlaces ((dG n 0 lo:Nat):Int) ((dG n n hi:Nat):Int) 1)) _ _ s;rw[wA];exact RY h
theorem BO(xs:Array Value)(i k:Nat):((List.range k).filterMap λ(m:Nat)=>xs[((i:Int)+(m:Int)*1).toNat]?).toArray=((xs.toList.drop i).take k).toArray:=by
 have e:(λ(m:Nat)=>xs[((i:Int)+(m:Int)*1).toNat]?) = λm=>xs[i+m]?:=by
  funext m;have:((i:Int)+(m:Int)*1).toNat=i+m:=by omega
  rw[this]
 rw[e];have:=pick_run xs i k;rw[List.filterMap_map]at this;have e2:((λx=>xs[x]?)∘ λx=>i+x) = λm=>xs[i+m]?:=rfl;rw[e2]at this;rw[this]
theorem lM{t sl:Addr}{items:Array Value}{vl vu:Value}{lo hi:Option Int}{Q:Value->Shared->Prop}(ht:IsTup s.heap t items)(hs:s.heap.IsSliceOf sl vl vu .none)(pl:IsPart vl lo)(pu:IsPart vu hi)
  (hw:¬(dG items.size 0 lo=0/\dG items.size items.size hi=items.size))
  (h:Q (.ref s.heap.objs.size) {s with heap:=s.heap.push {cls:=.type "tuple",data:=.seq ((items.toList.drop (dG items.size 0 lo)).take (dG items.size items.size hi-dG items.size 0 lo)).toArray}})
  (hsz:items.size<=sizeLine):wpAny (model prog w) A (getItem (.ref t) (.ref sl)) Q E s:=by
 have xk:sizeOk (.seq ((items.toList.drop (dG items.size 0 lo)).take (dG items.size items.size hi-dG items.size 0 lo)).toArray):=by show((items.toList.drop (dG items.size 0 lo)).take (dG items.size items.size hi-dG items.size 0 lo)).toArray.size<=sizeLine;rw[Si,Sx,List.length_drop,S3];omega
 have hj:dG items.size items.size hi<=items.size:=Gp _ _ (R3 _) hi;obtain⟨os,hos,hcs,hds⟩:=id hs;have hTs:s.TypeIs (.ref sl) "slice":=⟨os,hos,hcs⟩;unfold getItem;try with_reducible refine SA ?_
 first|refine RX (RY ?_)|skip
 refine RX (wpAny_sequenceKey ht.typeIs (by decide) ?_);refine RX (wpAny_callSpecial?_slot (name:=Str.ofString "__getitem__") ht.typeIs PyProof.Rows.slot_tuple_getitem
  (SY PyProof.Rows.slot_tuple_getitem ht.typeIs entry_tuple_getitem ?_ (args_tuple_getitem _ _)))
 show wpAny _ _ (Builtin.Tuple.tupleItemsOf (.ref t) >>= _) _ _ s;refine RX (tupleItemsOf_ ht ?_);refine RX (wpAny_typeOf hTs ?_);rw[SM (by decide)];refine RX (iA hs pl pu ?_);have hno:¬((((dG items.size 0 lo:Nat):Int)==0&&(1:Int)==1&&(dG items.size items.size hi-dG items.size 0 lo)==items.size)=true):=by intro q;rw[SH,SH]at q;have q1:((dG items.size 0 lo:Nat):Int)=0:=eq_of_beq q.1.1;have q2:dG items.size items.size hi-dG items.size 0 lo=items.size:=eq_of_beq q.2;exact hw ⟨by omega,by omega⟩
 show wpAny _ _ (if(((dG items.size 0 lo:Nat):Int)==0&&(1:Int)==1&&(dG items.size items.size hi-dG items.size 0 lo)==items.size)=true then _ else _) _ _ s;rw[SK hno,BO];first
  |exact RX (m:=Builtin.Tuple.tupleExact _) (SD (RY ⟨_,rfl,RY h⟩) xk)
  |exact RX (m:=Builtin.Tuple.tupleExact _) (SD (RX (RY (RY ⟨_,rfl,RY h⟩))) xk)
  |exact RX (RX (m:=Builtin.Tuple.tupleExact _) (SD (RY (RY ⟨_,rfl,RY h⟩)) xk))
  |exact RX (RX (m:=Builtin.Tuple.tupleExact _) (SD (RY ⟨_,rfl,RY h⟩) xk))
end
end HT
namespace L2
open PySem PySem.Spec PyProof.Rows
abbrev TO:=St->Hp->(Option Int->Hp->Prop)->Prop
def PO(X:Cx)(e:Option Expr)(t:TO):Prop :=
 ∀(ac:List (Addr×Obj))(s:Shared)(σ:St)(H:Hp)(Q:Option Int->Hp->Prop),Inv X ac σ H s->t σ H Q->
  wpAny (model X.prog X.w) X.A (evalPart e X.env) (λu s'=>∃o H',Inv X ac σ H' s'/\IsPart u o/\Q o H') X.xe s
def ER:TO:=λ_ H Q=>Q none H
def Ke(t:TE):TO:=λσ H Q=>t σ H λx H1=>∃i,x=.int i/\Q (some i) H1
section
variable{X:Cx}{e:Expr}{te:TE}{lo hi:Option Expr}{tl th:TO}{pos p2:Pos}
theorem fX:PO X none ER:=by intro ac s σ H Q I h;rw[evalPart_none];exact RY ⟨none,H,I,.none,h⟩
theorem dg(h:PE X e te):PO X (some e) (Ke te):=by intro ac s σ H Q I hw;rw[evalPart_some];refine bO (h ac s σ H _ I hw) λu s1 zz=>?_;obtain⟨x,H1,I1,r1,q1⟩:=zz;obtain⟨i,rfl,q⟩:=q1;obtain⟨t,rfl⟩:=r1;exact⟨some i,H1,I1,.int i t,q⟩
def Fc(X:Cx)(r:V->Option Int->Option Int->Hp->VK->Prop):Prop :=
 ∀(ac:List (Addr×Obj))(s:Shared)(σ:St)(H:Hp)(x:V)(v vl vu:Value)(lo hi:Option Int)(sl:Addr)(Q:VK),Inv X ac σ H s->RelV x v->s.heap.IsSliceOf sl vl vu .none->IsPart vl lo->IsPart vu hi->r x lo hi H Q->
  ∃T id,typeLookup (.type T) "__getitem__"=pure (some (.builtin id))/\s.TypeIs v T/\wpAny (model X.prog X.w) X.A (getItem v (.ref sl)) (EP X ac σ Q) X.xe s
theorem Fc.or{r r':V->Option Int->Option Int->Hp->VK->Prop}(h:Fc X r)(h':Fc X r'):Fc X (λx lo hi H Q=>r x lo hi H Q\/r' x lo hi H Q):=by
 intro ac s σ H x v vl vu lo hi sl Q I rx hs pl pu q;rcases q with q|q
 ·exact h ac s σ H x v vl vu lo hi sl Q I rx hs pl pu q
 ·exact h' ac s σ H x v vl vu lo hi sl Q I rx hs pl pu q
def Po(r:V->Option Int->Option Int->Hp->VK->Prop)(te:TE)(tl th:TO):TE:=λσ H Q=>te σ H λx H1=>tl σ H1 λl H2=>th σ H2 λu H3=>r x l u H3 Q
theorem c_{r:V->Option Int->Option Int->Hp->VK->Prop}(hr:Fc X r)(he:PE X e te)(hl:PO X lo tl)(hu:PO X hi th):PE X (.Subscript e (.Slice lo hi none p2) pos) (Po r te tl th):=by intro ac s σ H Q I h;refine Subscript_ (bO (he ac s σ H _ I h) λv s1 zz=>?_);obtain⟨x,H1,I1,r1,q1⟩:=zz;refine wpAny_Slice (bO (hl ac s1 σ H1 _ I1 q1) λvl s2 ⟨l,H2,I2,pl,q2⟩=>bO (hu ac s2 σ H2 _ I2 q2) λvu s3 zz=>?_);obtain⟨u,H3,I3,pu,q3⟩:=zz;rw[evalPart_none];refine RY ?_;have I4:Inv X ac σ H3 {s3 with heap:=s3.heap.push {cls:=.type "slice",data:=.fields #[vl,vu,.none]}}:=I3.kept (t':=s3.toks) λb ob q=>RZ _ q;obtain⟨T,id,hT,ht,hg⟩:=hr ac {s3 with heap:=s3.heap.push {cls:=.type "slice",data:=.fields #[vl,vu,.none]}} σ H3 x v vl vu l u s3.heap.objs.size Q I4 r1 (Heap.IsSliceOf.new ..) pl pu q3;show wpAny (model X.prog X.w) X.A (subscriptTail e (.Slice lo hi none p2) v (.ref s3.heap.objs.size)) (EP X ac σ Q) X.xe {s3 with heap:=s3.heap.push {cls:=.type "slice",data:=.fields #[vl,vu,.none]}};exact tail_any (ops:=[.ref s3.heap.objs.size,v]) ht hT hg (by with_unfolding_all rfl)
def fq(xs:List V)(lo hi:Option Int):List V:=(xs.drop (HT.dG xs.length 0 lo)).take (HT.dG xs.length xs.length hi-HT.dG xs.length 0 lo)
theorem nk(xs:List V)(lo hi:Option Int):(fq xs lo hi).length<=xs.length:=by unfold fq;rw[Sx,List.length_drop];omega
def K9(K:S7):V->Option Int->Option Int->Hp->VK->Prop:=λx lo hi H Q=>∃a xs,x=.ref a/\aP K H a xs/\
 ¬(HT.dG xs.length 0 lo=0/\HT.dG xs.length xs.length hi=xs.length)/\∀p,H p=none->Q (.ref p) (upd H p (.tup (fq xs lo hi)))
theorem Hk:Fc X (K9 X.K):=by
 intro ac s σ H x v vl vu lo hi sl Q I rx hs pl pu h;obtain⟨a,xs,rfl,hx,hw,q⟩:=h;cases rx;obtain⟨its,r,ht,hz⟩:=I.tuple hx;have hlen:its.toArray.size=xs.length:=by rw[Si];exact r.length.symm
 refine⟨"tuple",_,PyProof.Rows.slot_tuple_getitem.lookup,ht.typeIs,?_⟩;refine HT.lM ht hs pl pu (by rw[hlen];exact hw) ?_ (by rw[hlen];exact hz);rw[hlen];refine⟨.ref s.heap.objs.size,_,I.laid (t':=s.toks) (o:=.tup (fq xs lo hi)) (λb ob q=>RZ _ q) (R3 _) ?_,rfl,q _ (I.hok.fresh (R3 _))⟩;exact⟨R4 (nk xs lo hi) hz,_,(r.drop (HT.dG xs.length 0 lo)).take (HT.dG xs.length xs.length hi-HT.dG xs.length 0 lo),jF.new _ _⟩
def Kt(K:S7):R2:=λx y H Q=>∃a b xs ys,x=.ref a/\y=.ref b/\aP K H a xs/\aP K H b ys/\xs≠[]/\xs.length+ys.length<=sizeLine/\
 (ys=[]->Q (.ref a) H)/\(ys≠[]->∀p,H p=none->Q (.ref p) (upd H p (.tup (xs++ys))))
theorem Vals.sd{xs:List V}{us:List Value}(r:Vals xs us):us=[]↔xs=[]:=by
 cases r with
 |nil=>simp
 |cons _ _=>simp
theorem xC:jk X (binaryOp .Add) (Kt X.K):=by intro ac s σ H x y v u Q I rx ry h;obtain⟨a,b,xs,ys,rfl,rfl,ha,hb,hx,hz,q1,q2⟩:=h;cases rx;cases ry;obtain⟨its,r1,p1,_⟩:=I.tuple ha;obtain⟨its2,r2,p2,_⟩:=I.tuple hb;refine HT.E4 p1 p2 (λz=>hx (r1.sd.mp z)) (λz=>⟨.ref a,H,I,rfl,q1 (r2.sd.mp z)⟩) (λz=>?_) (by rw[←r1.length,←r2.length];exact hz);refine⟨.ref s.heap.objs.size,_,I.laid (t':=s.toks) (o:=.tup (xs++ys)) (λb ob q=>RZ _ q) (R3 _) ?_,rfl,q2 (λw=>z (r2.sd.mpr w)) _ (I.hok.fresh (R3 _))⟩;exact⟨by rw[R8];exact hz,_,r1.append r2,jF.new _ _⟩
end
def Ey(n:Nat)(i:Int):Option Nat:=if 0<=i then(if i<n then some i.toNat else none)else if -(n:Int)<=i then some (i+n).toNat else none
def vi{α:Type}(xs:List α)(i:Int):Option α:=(Ey xs.length i).bind λj=>xs[j]?
theorem xY{n:Nat}{i:Int}{j:Nat}(h:Ey n i=some j):seqIndex? i n=some j/\j<n/\-(n:Int)<=i/\i<n:=by
 unfold Ey at h;by_cases h0:0<=i
 ·rw[SM h0]at h;by_cases h1:i<n
  ·rw[SM h1]at h;have e:i.toNat=j:=Ss h;exact⟨by rw[seqIndex_of h0 h1,e],by omega,by omega,h1⟩
  ·rw[SK h1]at h;cases h
 ·rw[SK h0]at h;by_cases h1:-(n:Int)<=i
  ·rw[SM h1]at h;have e:(i+n).toNat=j:=Ss h;exact⟨by rw[seqIndex_neg (by omega) h1,e],by omega,h1,by omega⟩
  ·rw[SK h1]at h;cases h
theorem yp{α:Type}{xs:List α}{i:Int}{v:α}(h:vi xs i=some v):∃j,seqIndex? i xs.length=some j/\xs[j]? = some v/\j<xs.length/\-(xs.length:Int)<=i/\i<xs.length:=by
 unfold vi at h;cases e:Ey xs.length i with
 |none=>rw[e]at h;cases h
 |some j =>rw[e]at h;obtain⟨h1,h2,h3,h4⟩:=xY e;exact⟨j,h1,h,h2,h3,h4⟩
theorem ay{α:Type}{xs:List α}{j:Nat}{v:α}(h:xs[j]? = some v):vi xs (j:Int)=some v:=by
 have hj:j<xs.length:=(Sj.mp h).1;have e:Ey xs.length (j:Int)=some j:=by unfold Ey;rw[SM (by omega),SM (by omega)];simp
 unfold vi;rw[e];exact h
def nX(b:Expr):Prop:=∀o i,subscripted b false o i=operate [o,i] (getItem o i)
def Kx(X:Cx)(r:R2):Prop :=
 ∀(value slice:Expr)(ac:List (Addr×Obj))(s:Shared)(σ:St)(H:Hp)(x y:V)(v u:Value)(Q:VK),Inv X ac σ H s->RelV x v->RelV y u->r x y H Q->
  subscripted slice false v u=operate [v,u] (getItem v u)->wpAny (model X.prog X.w) X.A (subscriptTail value slice v u) (EP X ac σ Q) X.xe s
def OU(X:Cx)(id:String)(r:V->List V->Hp->VK->Prop):Prop :=
 ∀(ac:List (Addr×Obj))(s:Shared)(σ:St)(H:Hp)(x:V)(xs:List V)(v:Value)(us:List Value)(Q:VK),Inv X ac σ H s->RelV x v->Vals xs us->r x xs H Q->
  wpAny (model X.prog X.w) X.A (call (.builtin id) (v::us)) (EP X ac σ Q) X.xe s
section
variable{X:Cx}{a b:Expr}{ta tb:TE}{pos:Pos}
theorem iI{r:R2}(hr:Kx X r)(ha:PE X a ta)(hb:PE X b tb)(hs:nX b):PE X (.Subscript a b pos) (eZ r ta tb):=by intro ac s σ H Q I h;exact Subscript_ (IK ha hb I h λv u s2 x y H2 I2 rx ry q=>hr a b ac s2 σ H2 x y v u Q I2 rx ry q (hs _ _))
def mY(K:S7):R2:=λx y H Q=>∃p xs i v,x=.ref p/\y=.int i/\bc K H p xs/\vi xs i=some v/\Q v H
def jj(K:S7):R2:=λx y H Q=>∃p xs i v,x=.ref p/\y=.int i/\aP K H p xs/\vi xs i=some v/\Q v H
theorem fW:Kx X (mY X.K):=by
 intro value slice ac s σ H x y v u Q I rx ry h hs;obtain⟨p,xs,i,z,rfl,rfl,hq,he,q⟩:=h;cases rx;obtain⟨t,rfl⟩:=ry;obtain⟨its,r,pl,hz⟩:=I.list hq;obtain⟨j,h1,h2,h3,h4,h5⟩:=yp he;obtain⟨w,ew,nG⟩:=r.get h2;have hl:=r.length;have hn:=pb;have fin:EP X ac σ Q w s:=⟨z,H,I,nG,q⟩;by_cases h0:0<=i
 ·have hj:i.toNat=j:=by rw[seqIndex_of h0 h5]at h1;exact Ss h1
  exact item_listR pl.isList h0 (by omega) (by rw[hj];simpa using ew) fin hs
 ·have hj:(i+(its.toArray.size:Int)).toNat=j:=by rw[seqIndex_neg (by omega) h4]at h1;rw[Si,←hl];exact Ss h1
  exact subscriptTail_builtinR (x:=w) pl.isList.typeIs slot_list_getitem.lookup
   (wpAny_getItem_list_neg (Q:=λr s'=>r=w/\EP X ac σ Q r s') pl.isList (by omega) (by rw[Si]<;>omega) (by omega) (by rw[hj];simpa using ew) ⟨rfl,fin⟩) hs
theorem vX:Kx X (jj X.K):=by
 intro value slice ac s σ H x y v u Q I rx ry h hs;obtain⟨p,xs,i,z,rfl,rfl,hq,he,q⟩:=h;cases rx;obtain⟨t,rfl⟩:=ry;obtain⟨its,r,pl,hz⟩:=I.tuple hq;obtain⟨j,h1,h2,h3,h4,h5⟩:=yp he;obtain⟨w,ew,nG⟩:=r.get h2;have hl:=r.length;have hn:=pb;have fin:EP X ac σ Q w s:=⟨z,H,I,nG,q⟩;exact subscriptTail_builtinR (x:=w) pl.typeIs slot_tuple_getitem.lookup
  (getItem_tuple (j:=j) (Q:=λr s'=>r=w/\EP X ac σ Q r s') pl (by omega) (by omega) (by rw[Si,←hl];exact h1) (by simpa using ew) ⟨rfl,fin⟩) hs
theorem wu(its:List Value)(n j:Nat)(u:Value):Obj.mapSeq (·.setIfInBounds j u) {cls:=.type "list",data:=.seq its.toArray n} ={cls:=.type "list",data:=.seq (its.set j u).toArray n}:=by simp[Obj.mapSeq]
theorem Inv.lst{ac:List (Addr×Obj)}{σ:St}{H:Hp}{s:Shared}{p:Addr}{xs:List V}(I:Inv X ac σ H s)(h:H p=some (.lst xs)) :
  ∃(its:List Value)(n:Nat),Vals xs its/\s.heap.get? p=some {cls:=.type "list",data:=.seq its.toArray n}/\xs.length<=sizeLine:=by
 obtain⟨z,its,n,r,e⟩:=I.hok p _ h;exact⟨its,n,r,e,z⟩
theorem Inv.Hv{ac:List (Addr×Obj)}{σ:St}{H:Hp}{s:Shared}{p:Addr}{xs ys:List V}{its its':List Value}{n n':Nat}{f:Obj->Obj}(I:Inv X ac σ H s)(h:H p=some (.lst xs))
  (ho:s.heap.get? p=some {cls:=.type "list",data:=.seq its.toArray n}) (hf:f {cls:=.type "list",data:=.seq its.toArray n} ={cls:=.type "list",data:=.seq its'.toArray n'}) (r:Vals ys its') (hz:ys.length<=sizeLine) (t:Nat) :
  Inv X ac σ (upd H p (.lst ys)) {s with heap:=s.heap.update p f,toks:=t}:=by
 have e:(s.heap.update p f).get? p=some {cls:=.type "list",data:=.seq its'.toArray n'}:=by rw[Heap.get?_update_self f ho (by rw[hf]<;>rfl),hf]
 refine I.write (x:=p) (e:=p) (by rw[h];trivial) (.inl rfl) (λb u hb q=>(Heap.get?_update_other _ _ (Ne.symm hb)).trans q) ⟨_,e⟩ ?_;exact⟨hz,its',n',r,e⟩
def J5:V->V->V->Hp->(Hp->Prop)->Prop:=λo i v H Q=>∃p xs k j,o=.ref p/\i=.int k/\H p=some (.lst xs)/\Ey xs.length k=some j/\Q (upd H p (.lst (xs.set j v)))
theorem set_list:Lv X J5:=by
 intro ac s σ H o i v ov iv u Q I ro ri rv h;obtain⟨p,xs,k,j,rfl,rfl,hp,hj,q⟩:=h;cases ro;obtain⟨t,rfl⟩:=ri;obtain⟨its,n,r,ho,hz⟩:=I.lst hp;obtain⟨h1,h2,h3,h4⟩:=xY hj;have hl:=r.length;have hn:=pb;have I':Inv X ac σ (upd H p (.lst (xs.set j v))) {s with heap:=s.heap.update p (Obj.mapSeq (·.setIfInBounds j u))} :=
  I.Hv hp ho (wu its n j u) (r.set rv j) (by rw[List.length_set];exact hz) s.toks
 by_cases h0:0<=k
 ·have hk:k.toNat=j:=by rw[seqIndex_of h0 h4]at h1;exact Ss h1
  exact PySem.W.ki_setAt ho h0 (by omega) (by rw[Si,←hl];exact h4) (by rw[hk];exact⟨_,I',q⟩)
 ·have hk:(k+(its.toArray.size:Int)).toNat=j:=by rw[seqIndex_neg (by omega) h3]at h1;rw[Si,←hl];exact Ss h1
  exact PySem.W.ki_setBack ho (by omega) (by rw[Si,←hl];exact h3) (by omega) (by rw[hk];exact⟨_,I',q⟩)
theorem rG(lo hi:Option Int)(n:Nat):(sliceBounds lo hi none n).1=((HT.dG n 0 lo:Nat):Int)/\(sliceBounds lo hi none n).2.1=((HT.dG n n hi:Nat):Int)/\(sliceBounds lo hi none n).2.2=1:=by
 refine⟨?_,?_,rfl⟩
 ·cases lo with
  |none=>simp[sliceBounds,HT.dG]
  |some i =>
   simp only[sliceBounds,HT.dG,Option.getD_none,show(1:Int) > 0 by decide,if_true];by_cases h:i<0
   ·simp only[h,if_true]<;>omega
   ·simp only[h,if_false]<;>omega
 ·cases hi with
  |none=>simp[sliceBounds,HT.dG]
  |some i =>
   simp only[sliceBounds,HT.dG,Option.getD_none,show(1:Int) > 0 by decide,if_true];by_cases h:i<0
   ·simp only[h,if_true]<;>omega
   ·simp only[h,if_false]<;>omega
theorem qy(its:List Value)(lo hi:Option Int):slicePick its.toArray lo hi none=((its.drop (HT.dG its.length 0 lo)).take (HT.dG its.length its.length hi-HT.dG its.length 0 lo)).toArray:=by obtain⟨h1,h2,h3⟩:=rG lo hi its.toArray.size;unfold slicePick;rw[h1,h2,h3];simp only[sliceRange_one,pick_run,Si]<;>rfl
def Fq(K:S7):V->Option Int->Option Int->Hp->VK->Prop:=λx lo hi H Q=>∃a xs,x=.ref a/\bc K H a xs/\∀p,H p=none->Q (.ref p) (upd H p (.lst (fq xs lo hi)))
theorem rW:Fc X (Fq X.K):=by intro ac s σ H x v vl vu lo hi sl Q I rx hs pl pu h;obtain⟨a,xs,rfl,hx,q⟩:=h;cases rx;obtain⟨its,r,ht,hz⟩:=I.list hx;have hlen:=r.length;refine⟨"list",_,slot_list_getitem.lookup,ht.isList.typeIs,?_⟩;refine wpAny_getItem_list_slice ht.isList hs pl pu .none (by simp) ?_ (by rw[Si]<;>omega);rw[qy,←hlen];refine⟨.ref s.heap.objs.size,_,I.laid (t':=s.toks) (o:=.lst (fq xs lo hi)) (λb ob q=>RZ _ q) (R3 _) ?_,rfl,q _ (I.hok.fresh (R3 _))⟩;exact⟨R4 (nk xs lo hi) hz,_,0,(r.drop (HT.dG xs.length 0 lo)).take (HT.dG xs.length xs.length hi-HT.dG xs.length 0 lo),R1 _ rfl⟩
def jN:V->Bool
 | .non=>true
 | .bl _=>true
 | .int _=>true
 | .str _=>true
 |_=>false
def DP:V->V->Bool
 | .non,.non=>true
 | .bl a,.bl b=>a==b
 | .bl a,.int b=>(if a then 1 else 0)==b
 | .int a,.bl b=>a==(if b then 1 else 0)
 | .int a,.int b=>a==b
 | .str a,.str b=>a==b
 |_,_=>false
theorem Iy{A:Around}{s:Shared}{y x:V}{u v:Value}(ry:RelV y u)(rx:RelV x v)(fy:jN y=true)(fx:jN x=true):SeqAt.EqAt A s u v (DP y x):=by
 cases y with
 |non =>
  cases ry;cases x with
  |non=>cases rx;exact SeqAt.EqAt.same _
  |bl b=>cases rx;exact SeqAt.EqAt.none_bool b
  |int b=>obtain⟨t,rfl⟩:=rx;exact SeqAt.EqAt.none_int b t
  |str b=>obtain⟨t,rfl⟩:=rx;exact SeqAt.EqAt.none_str b t
  |_=>exact SJ (show false=true from fx) Sh
 |bl a =>
  cases ry;cases x with
  |non=>cases rx;exact SeqAt.EqAt.bool_none a
  |bl b=>cases rx;exact SeqAt.EqAt.bool_bool a b
  |int b=>obtain⟨t,rfl⟩:=rx;exact SeqAt.EqAt.bool_int a b t
  |str b=>obtain⟨t,rfl⟩:=rx;exact SeqAt.EqAt.bool_str a b t
  |_=>exact SJ (show false=true from fx) Sh
 |int a =>
  obtain⟨t',rfl⟩:=ry;cases x with
  |non=>cases rx;exact SeqAt.EqAt.int_none a t'
  |bl b=>cases rx;exact SeqAt.EqAt.int_bool a t' b
  |int b=>obtain⟨t,rfl⟩:=rx;exact SeqAt.EqAt.int_int a t' b t
  |str b=>obtain⟨t,rfl⟩:=rx;exact SeqAt.EqAt.int_str a t' b t
  |_=>exact SJ (show false=true from fx) Sh
 |str a =>
  obtain⟨t',rfl⟩:=ry;cases x with
  |non=>cases rx;exact SeqAt.EqAt.str_none a t'
  |bl b=>cases rx;exact SeqAt.EqAt.str_bool a t' b
  |int b=>obtain⟨t,rfl⟩:=rx;exact SeqAt.EqAt.str_int a t' b t
  |str b=>obtain⟨t,rfl⟩:=rx;exact SeqAt.EqAt.str_str a t' b t
  |_=>exact SJ (show false=true from fx) Sh
 |_=>exact SJ (show false=true from fy) Sh
def vd(x:V)(u:Value):Bool:=match u with
 | .none=>DP .non x
 | .bool b=>DP (.bl b) x
 | .int i _=>DP (.int i) x
 | .str z _=>DP (.str z) x
 |_=>false
theorem wQ{x y:V}{u:Value}(r:RelV y u)(f:jN y=true):vd x u=DP y x:=by
 cases y with
 |non=>cases r;rfl
 |bl b=>cases r;rfl
 |int i=>obtain⟨t,rfl⟩:=r;rfl
 |str z=>obtain⟨t,rfl⟩:=r;rfl
 |_=>exact SJ (show false=true from f) Sh
theorem l3{x:V}:∀{xs:List V}{us:List Value},Vals xs us->xs.all jN=true->us.any (vd x)=xs.any λy=>DP y x
 |_,_,.nil,_=>rfl
 |y::xs,u::us,.cons r t,f=>by rw[List.all_cons,SH]at f;rw[S4,S4,wQ r f.1,l3 t f.2]
theorem iG{A:Around}{s:Shared}{x:V}{v:Value}(rx:RelV x v)(fx:jN x=true):∀{xs:List V}{us:List Value},Vals xs us->xs.all jN=true->∀u∈us,SeqAt.EqAt A s u v (vd x u)
 |_,_,.nil,_=>λu hu=>by cases hu
 |y::xs,u::us,.cons r t,f=>λu' hu=>by
  rw[List.all_cons,SH]at f;rcases Sm.mp hu with rfl|hu
  ·rw[wQ r f.1];exact Iy r rx f.1 fx
  ·exact iG rx fx t f.2 u' hu
def inV(x:V)(xs:List V):Bool:=xs.any λy=>DP y x
def Dg(K:S7)(neg:Bool):R2:=λx y H Q=>∃p xs,y=.ref p/\(bc K H p xs\/aP K H p xs)/\jN x=true/\xs.all jN=true/\Q (.bl (if neg then !inV x xs else inV x xs)) H
theorem cP:jk X (compareOp .In) (Dg X.K false):=by
 intro ac s σ H x y v u Q I rx ry h;obtain⟨p,xs,rfl,hq,fx,fs,q⟩:=h;cases ry;rcases hq with hq|hq
 ·obtain⟨its,r,pl,hz⟩:=I.list hq;refine SeqAt.in_listAt (vd x) pl.isList (λw hw=>iG rx fx r fs w (by simpa using hw)) ⟨.bl _,H,I,rfl,?_⟩;rw[show its.toArray.any (vd x)=its.any (vd x) by simp,l3 r fs];exact q
 ·obtain⟨its,r,pl,hz⟩:=I.tuple hq;refine SeqAt.in_tupleAt (vd x) pl (λw hw=>iG rx fx r fs w (by simpa using hw)) ⟨.bl _,H,I,rfl,?_⟩;rw[show its.toArray.any (vd x)=its.any (vd x) by simp,l3 r fs];exact q
theorem fU:jk X (compareOp .NotIn) (Dg X.K true):=by
 intro ac s σ H x y v u Q I rx ry h;obtain⟨p,xs,rfl,hq,fx,fs,q⟩:=h;cases ry;rcases hq with hq|hq
 ·obtain⟨its,r,pl,hz⟩:=I.list hq;refine SeqAt.notIn_listAt (vd x) pl.isList (λw hw=>iG rx fx r fs w (by simpa using hw)) ⟨.bl _,H,I,rfl,?_⟩;rw[show its.toArray.any (vd x)=its.any (vd x) by simp,l3 r fs];exact q
 ·obtain⟨its,r,pl,hz⟩:=I.tuple hq;refine SeqAt.notIn_tupleAt (vd x) pl (λw hw=>iG rx fx r fs w (by simpa using hw)) ⟨.bl _,H,I,rfl,?_⟩;rw[show its.toArray.any (vd x)=its.any (vd x) by simp,l3 r fs];exact q
theorem aN:ft X (.builtin "len") (λxs H Q=>∃p ys,xs=[.ref p]/\(bc X.K H p ys\/aP X.K H p ys)/\Q (.int ys.length) H):=by
 intro ac s σ H xs us Q I r h;obtain⟨p,ys,rfl,hq,q⟩:=h;obtain⟨u,rfl,rx⟩:=vals1 r;cases rx;have hn:=pb;rcases hq with hq|hq
 ·obtain⟨its,r',pl,hz⟩:=I.list hq;have hlen:=r'.length;exact Calls.call_len_list pl.isList (by simp only[Si]<;>omega) ⟨.int ys.length,H,I.tok _,⟨s.toks+1,by rw[Si,hlen]⟩,q⟩
 ·obtain⟨its,r',pl,hz⟩:=I.tuple hq;have hlen:=r'.length;exact len_tuple pl (by simp only[Si]<;>omega) ⟨.int ys.length,H,I.tok _,⟨s.toks+1,by rw[Si,hlen]⟩,q⟩
theorem lT:ft X (.type "list") (λxs H Q=>∃p ys,xs=[.ref p]/\(bc X.K H p ys\/aP X.K H p ys)/\∀l,H l=none->Q (.ref l) (upd H l (.lst ys))):=by
 intro ac s σ H xs us Q I r h;obtain⟨p,ys,rfl,hq,q⟩:=h;obtain⟨u,rfl,rx⟩:=vals1 r;cases rx;have fin:∀(its:List Value),Vals ys its->ys.length<=sizeLine->∀(h':Heap)(c':Nat),(∀b o',s.heap.get? b=some o'->h'.get? b=some o')->
   h'.get? s.heap.objs.size=some {cls:=.type "list",dict:=none,data:=.seq its.toArray c',slots:=#[]}->EP X ac σ Q (.ref s.heap.objs.size) {s with heap:=h'}:=λits r' hz h' c' kp e =>
  ⟨.ref s.heap.objs.size,_,I.laid (t':=s.toks) kp (R3 _) (show cf X.prog X.w _ h' _ (.lst ys) from⟨hz,its,c',r',e⟩),rfl,q _ (I.hok.fresh (R3 _))⟩
 rcases hq with hq|hq
 ·obtain⟨its,r',pl,hz⟩:=I.list hq;have hlen:=r'.length;obtain⟨o,ho,hc,n,hd⟩:=pl.isList;exact call_list_seq p (.inl rfl) ho hc hd (λh' c' kp e=>fin its r' hz h' c' kp e) (by simp only[Si]<;>omega)
 ·obtain⟨its,r',pl,hz⟩:=I.tuple hq;have hlen:=r'.length;obtain⟨o,ho,hc,n,hd⟩:=pl;exact call_list_seq p (.inr rfl) ho hc hd (λh' c' kp e=>fin its r' hz h' c' kp e) (by simp only[Si]<;>omega)
theorem bo:ft X (.type "tuple") (λxs H Q=>∃p ys,xs=[.ref p]/\((bc X.K H p ys/\∀l,H l=none->Q (.ref l) (upd H l (.tup ys)))\/(aP X.K H p ys/\Q (.ref p) H))):=by
 intro ac s σ H xs us Q I r h;obtain⟨p,ys,rfl,h⟩:=h;obtain⟨u,rfl,rx⟩:=vals1 r;cases rx;rcases h with⟨hq,q⟩|⟨hq,q⟩
 ·obtain⟨its,r',pl,hz⟩:=I.list hq;have hlen:=r'.length;refine call_tuple_list pl.isList (λh' kp=>?_) (by simp only[Si]<;>omega);have I1:Inv X ac σ H {s with heap:=h'}:=I.kept (t':=s.toks) kp;have I2:Inv X ac σ (upd H h'.objs.size (.tup ys)) {s with heap:=h'.push {cls:=.type "tuple",data:=.seq its.toArray}} :=
   I1.laid (t':=s.toks) (λb o e=>RZ _ e) (R3 _) (show cf X.prog X.w _ _ _ (.tup ys) from⟨hz,its,r',jF.new _ _⟩)
  exact⟨.ref h'.objs.size,_,I2,rfl,q _ (I1.hok.fresh (R3 _))⟩
 ·obtain⟨its,r',pl,hz⟩:=I.tuple hq;exact call_tuple_same pl ⟨.ref p,H,I,rfl,q⟩
def N5(K:S7)(T:String)(x:V)(H:Hp):Prop:=match x with
 | .str _=>T="str"
 | .int _=>T="int"
 | .ref p=>(T="list"/\∃xs,bc K H p xs)\/(T="tuple"/\∃o,K.lookup p=some o/\o.cls=.type "tuple"/\o.dict=none)\/
   (T="dict"/\((∃kvs,H p=some (.dK kvs))\/∃kvs,H p=some (.dT kvs)))\/(T="set"/\∃S n,H p=some (.set S n))
 |_=>False
theorem GP{ac:List (Addr×Obj)}{σ:St}{H:Hp}{s:Shared}{T:String}{x:V}{v:Value}(I:Inv X ac σ H s)(r:RelV x v)(ty:N5 X.K T x H) :
  s.TypeIs v T/\∀a,v=.ref a->∃ob,s.heap.get? a=some ob/\ob.dict=none:=by
 cases x with
 |str z =>obtain⟨t,rfl⟩:=r;cases(show T="str" from ty);exact⟨typeIs_str s z t,λ_ e=>nomatch e⟩
 |int i =>obtain⟨t,rfl⟩:=r;cases(show T="int" from ty);exact⟨typeIs_int s i t,λ_ e=>nomatch e⟩
 |ref p =>
  cases r;rcases ty with⟨rfl,xs,hq⟩|⟨rfl,o,hk,hc,hd⟩|⟨rfl,hk⟩|⟨rfl,S,n,hk⟩
  ·obtain⟨its,_,pl,_⟩:=I.list hq;refine⟨pl.isList.typeIs,λa e=>?_⟩;cases e;obtain⟨o,n,e,c,hd,_⟩:=pl;exact⟨o,e,hd⟩
  ·refine⟨⟨o,I.kH p o hk,hc⟩,λa e=>?_⟩;cases e;exact⟨o,I.kH _ o hk,hd⟩
  ·have z:∃o,s.heap.get? p=some o/\o.ExactDict:=by
    rcases hk with⟨kvs,hk⟩|⟨kvs,hk⟩
    ·obtain⟨_,_,_,_,o,_,_,e,ex,_⟩:=I.hok p _ hk;exact⟨o,e,ex⟩
    ·obtain⟨_,_,_,_,o,_,_,e,ex,_⟩:=I.hok p _ hk;exact⟨o,e,ex⟩
   obtain⟨o,e,ex⟩:=z;refine⟨⟨o,e,ex.1⟩,λa e2=>?_⟩;cases e2;exact⟨o,e,ex.2.1⟩
  ·obtain⟨o,_,_,_,e,ex,_⟩:=I.hok p _ hk;refine⟨⟨o,e,ex.1⟩,λa e2=>?_⟩;cases e2;exact⟨o,e,ex.2.1⟩
 |_=>exact SS ty
def Qc(K:S7)(T:String)(r:V->List V->Hp->VK->Prop)(to:TE)(t:TA):TE:=λσ H Q=>to σ H λx H1=>N5 K T x H1/\t σ H1 λxs H2=>r x xs H2 Q
variable{o e:Expr}{es:List Expr}{to:TE}{t:TA}{name:Str}{apos cpos:Pos}{T id:String}{r:V->List V->Hp->VK->Prop}
theorem jc(pa:PlainAttrs T)(slot:Slot T name id)(hty:typeOf (.builtin id)=pure (.type "method_descriptor"))(hm:OU X id r)(ho:PE X o to)(ha:PA X (e::es) t)
  (hbase:attributeBase o name X.env (eval o X.env)=eval o X.env:=by rfl)
  (hfew:((backTo cpos (starEach (e::es) X.env)).all (λx=>!x.1)&&(backToKw cpos (keywordEach [] X.env)).all (λx=>x.1.isSome)
   && decide ((e::es).length+([]:List Keyword).length+(if([]:List Keyword).isEmpty then 0 else 1)<30))=true:=by rfl)
  (hline:(apos.endLine==cpos.line)=true:=by rfl) (hs:starEach (e::es) X.env=(false,eval e X.env)::starEach es X.env:=by rfl) (hplain:(backTo cpos (starEach es X.env)).any (·.1)=false:=by rfl) :
  PE X (.Call (.Attribute o name apos) (e::es) [] cpos) (Qc X.K T r to t):=by
 intro ac s σ H Q I h;refine wpAny_Call_method_late hbase hfew hline rfl (bO (ho ac s σ H _ I h) λv s1 zz=>?_);obtain⟨x,H1,I1,r1,ty,q1⟩:=zz;obtain⟨h1,h2⟩:=GP I1 r1 ty;refine⟨T,id,pa,slot,hty,h1,h2,?_⟩;have hA:=ha cpos ac s1 σ H1 _ I1 q1;rw[hs]at hA⊢;refine Calls.callWith_builtin (by show(false||(backTo cpos (starEach es X.env)).any (·.1))=false;rw[hplain]<;>rfl) (Calls.evalArgs_plain ?_);exact bO hA λus s2 ⟨vs,H2,I2,r2,q2⟩=>hm ac s2 σ H2 x vs v us Q I2 r1 r2 q2
end
def N9(X:Cx)(id:String)(r:V->List V->Hp->VK->Prop):Prop :=
 ∀(ac:List (Addr×Obj))(s:Shared)(σ:St)(H:Hp)(x:V)(xs:List V)(v:Value)(us:List Value)(Q:VK),Inv X ac σ H s->RelV x v->Vals xs us->r x xs H Q->
  wpAny (model X.prog X.w) X.A (call (.builtin id) (v::us)) (EP X ac σ Q) X.xe s
theorem Vals.one{x:V}{us:List Value}(h:Vals [x] us):∃u,us=[u]/\RelV x u:=by
 cases h with
 |cons r t=>cases t;exact⟨_,rfl,r⟩
theorem Vals.eraseIdx:∀{xs:List V}{us:List Value}(i:Nat),Vals xs us->Vals (xs.eraseIdx i) (us.eraseIdx i)
 |_,_,_,.nil=>.nil
 |_,_,0,.cons _ t=>t
 |_,_,i+1,.cons r t=>.cons r (Vals.eraseIdx i t)
theorem qO{α:Type}:∀(l:List α)(i:Nat),(l.eraseIdx i).length<=l.length
 |[],_=>R3 _
 |_::_,0=>Nat.le_succ _
 |_::r,i+1=>Nat.succ_le_succ (qO r i)
section
variable{X:Cx}{ac:List (Addr×Obj)}{σ:St}{H:Hp}{s:Shared}{l b:Addr}{xs ys zs:List V}
theorem Inv.J4{its its':List Value}{n:Nat}{f:Array Value->Array Value}{t':Nat}(I:Inv X ac σ H s)(hH:H l=some (.lst xs))
  (e:s.heap.get? l=some {cls:=.type "list",data:=.seq its.toArray n}) (hf:f its.toArray=its'.toArray) (hv:Vals ys its') (hz:ys.length<=sizeLine) :
  Inv X ac σ (upd H l (.lst ys)) {s with heap:=s.heap.update l (Obj.mapSeq f),toks:=t'}:=by
 have q:=PySem.IsL.update e f;rw[hf]at q;refine I.write (x:=l) (e:=l) (by rw[hH];exact trivial) (.inl rfl) (λb' u hb hu=>(Heap.get?_update_other s.heap (Obj.mapSeq f) (Ne.symm hb)).trans hu) ⟨_,q⟩ ?_;exact⟨hz,its',_,hv,q⟩
theorem Inv.Mi{its:List Value}{t':Nat}(I:Inv X ac σ H s)(hv:Vals ys its)(hz:ys.length<=sizeLine) :
  Inv X ac σ (upd H s.heap.objs.size (.lst ys)) {s with heap:=s.heap.push {cls:=.type "list",data:=.seq its.toArray},toks:=t'} :=
 I.laid (λ_ _ q=>RZ _ q) (R3 _) ⟨hz,its,0,hv,R1 _ rfl⟩
theorem Inv.fresh(I:Inv X ac σ H s):H s.heap.objs.size=none:=I.hok.fresh (R3 _)
theorem Inv.DL(I:Inv X ac σ H s)(hH:H l=some (.lst xs)):xs.length<=sizeLine/\∃(its:List Value)(n:Nat),Vals xs its/\xs.length=its.length/\s.heap.get? l=some {cls:=.type "list",data:=.seq its.toArray n}:=by obtain⟨z,its,n,r,e⟩:=I.hok l _ hH;exact⟨z,its,n,r,r.length,e⟩
end
section
variable{X:Cx}
def nY:V->List V->Hp->VK->Prop:=λx vs H Q=>∃l xs y,x=.ref l/\vs=[y]/\H l=some (.lst xs)/\xs.length<sizeLine/\Q .non (upd H l (.lst (xs++[y])))
theorem cj:N9 X "list.append" nY:=by intro ac s σ H x vs v us Q I rx rv h;obtain⟨l,xs,y,rfl,rfl,hH,hz,q⟩:=h;cases rx;obtain⟨u,rfl,ru⟩:=rv.one;obtain⟨z,its,n,r,hl,e⟩:=I.DL hH;refine call_meets F.slot_list_append ⟨_,e,rfl⟩ F.entry_list_append (F.args_list_append_2 _ _) (PySem.list_append l its.toArray n u (by rw[Si];omega)) ⟨e,?_⟩;refine⟨.non,_,I.J4 (its':=its++[u]) hH e (by simp) (r.append (.cons ru .nil)) ?_,rfl,q⟩;rw[R8,List.length_singleton];omega
def GX:V->List V->Hp->VK->Prop:=λx vs H Q=>∃l xs i k y,x=.ref l/\vs=[.int i]/\H l=some (.lst xs)/\-(2 ^ 63)<=i/\i<2 ^ 63/\seqIndex? i xs.length=some k/\xs[k]? = some y/\Q y (upd H l (.lst (xs.eraseIdx k)))
theorem Bj:N9 X "list.pop" GX:=by
 intro ac s σ H x vs v us Q I rx rv h;obtain⟨l,xs,i,k,y,rfl,rfl,hH,h1,h2,hk,hy,q⟩:=h;cases rx;obtain⟨u,rfl,ru⟩:=rv.one;obtain⟨t,rfl⟩:=ru;obtain⟨z,its,n,r,hl,e⟩:=I.DL hH;obtain⟨w,hw,nG⟩:=r.get hy;refine call_meets F.slot_list_pop ⟨_,e,rfl⟩ F.entry_list_pop (F.args_list_pop_2 _ _)
  (MeetsSeq.list_pop_at l its.toArray n i t k w (fitsIndex_both h1 h2) (by rw[Si,←hl];exact hk) (by rw[←Array.getElem?_toList];exact hw) (by rw[Si];omega)) ⟨e,?_⟩
 refine⟨y,_,I.J4 (its':=its.eraseIdx k) hH e ?_ (r.eraseIdx k) ?_,nG,q⟩
 ·show its.toArray.eraseIdxIfInBounds k=(its.eraseIdx k).toArray;rw[List.eraseIdxIfInBounds_toArray]
 ·have:=qO xs k;omega
def J8:R2:=λx y H Q=>∃l b xs zs,x=.ref l/\y=.ref b/\H l=some (.lst xs)/\H b=some (.lst zs)/\xs.length+zs.length<=sizeLine/\∀p,H p=none->Q (.ref p) (upd H p (.lst (xs++zs)))
theorem iS:jk X (binaryOp .Add) J8:=by
 intro ac s σ H x y v u Q I rx ry h;obtain⟨l,b,xs,zs,rfl,rfl,hH,hB,hz,q⟩:=h;cases rx;cases ry;obtain⟨z,its,n,r,hl,e⟩:=I.DL hH;obtain⟨z2,its2,n2,r2,hl2,e2⟩:=I.DL hB;refine PySem.P.add_list e e2 ?_ (by rw[Si,Si];omega);have ea:its.toArray++its2.toArray=(its++its2).toArray:=by simp
 rw[ea];exact⟨.ref _,_,I.Mi (t':=s.toks) (r.append r2) (by rw[R8];omega),rfl,q _ I.fresh⟩
end
end L2
namespace Att
open PySem PySem.W PySem.Calls PyProof.Rows
theorem nR{P:Params}{h:Heap}:∀(ns:List Int)(vs:List Value),WellAll P h vs (ns.map WData.int)->IntsAre vs ns:=by
 intro ns;induction ns with
 |nil =>intro vs w;rw[List.map_nil]at w;cases w;exact .nil
 |cons n ns ih =>
  intro vs w;rw[S2]at w;cases w with
  |cons a b =>cases a;exact .cons _ _ (ih _ b)
theorem yF{l:OpenLaw}{n:Nat}(hn:l.most=some n){P:Params}{h:Heap}{args:List WData}{vals:List Value}
  (hpre:l.row.toRowW.claim.pre args=true) (hwl:WellAll P h vals args) :
  ∃a vs ns,vals=[Value.ref a]/\args=[WData.list (ns.map WData.int)]/\h.get? a=some {cls:=.type "list",data:=.seq vs.toArray}/\IntsAre vs ns/\ns.length<=n:=by
 have hsh:WShape.hasAll [] args [.list .int]=true:=(pre_splitW hpre).1;have hc:l.pre.holds [] {args:=args}=true:=(pre_splitW hpre).2;obtain⟨d,r,rfl,h1,h2⟩:=hasAllW_cons hsh;obtain rfl:=hasAllW_nil h2;obtain⟨xs,rfl,h3⟩:=hasW_list h1;obtain⟨ns,rfl⟩:=items_int h3;have hlen:ns.length<=n:=by
  unfold OpenLaw.pre at hc;have h4:(WTm.not (.lt (.lit (.int (n:Int))) (.len (.arg 0)))).holds [] {args:=[.list (ns.map .int)]}=true:=by have h4:=(holds_andW hc).1;rw[hn]at h4;exact h4
  have h5:=condW_of h4 (w_not (w_lt w_lit (w_len_list (w_arg rfl))));rw[R7]at h5;refine Nat.le_of_not_lt λq=>?_;have q':(n:Int)<((ns.length:Nat):Int):=by omega
  first
   | (rw[R6 q']at h5;exact SJ h5 (by decide))
   | (simp at h5;omega)
 cases hwl with
 |cons w1 w2 =>
  cases w2;cases w1 with
  |list ho hall=>exact⟨_,_,ns,rfl,rfl,ho,nR ns _ hall,hlen⟩
theorem yG(l:OpenLaw)(args:List WData):l.row.toRowW.claim.post args (.bool true) args=true :=
 postW_of (r:=l.row.toRowW) (X:=(true==true))
  (show WShape.has [] (.bool true) .bool=true by first|rfl|decide|simp[WShape.has,WShape.arms,WShape.armsAll])
  (show(WTm.eq .res (.lit (.bool true))).value [] {args:=args,res:=some (.bool true),after:=args}=some (.bool (true==true)) from w_eq_bool (w_res rfl) w_lit) rfl
theorem tZ{l:OpenLaw}{n:Nat}{q:Program}{loose:List Str}{XP:(Str->Option Value)->Heap->Prop}{YP:World->Heap->Prop}{d:DefRec}
  (hn:l.most=some n) (hdf:d.params.defaults=[])
  (call:∀(w:World)(s₀ s₁:Shared)(mg mb:Str->Option Value)(fa:Addr)(o:Obj)(pm cd doc:Value)(a:Addr)(vs:List Value)(ns:List Int),
   Ground q loose [] XP w s₀ mg mb s₁.heap->YP w s₁.heap->
   s₁.heap.get? fa=some o->o.data=.func (docDef d.name d.params d.body d.scope pm cd doc)->s₁.heap.CodeRec cd d.name->mg d.name=some (.ref fa)->
   s₁.heap.get? a=some {cls:=.type "list",data:=.seq vs.toArray}->IntsAre vs ns->ns.length<=n->s₁.gens = #[]->
   codeAny (model l.prog w) callerA (.call (.ref fa) ⟨[.ref a],[]⟩) (λr s'=>r=.ok (.ret (.bool true))/\OldK s₁.heap s'.heap/\s'.os=s₁.os/\AllBare s'.gens) s₁) :
  WalkO q loose XP YP l.row.toRowW d [] (λf vs=>PySem.call f vs):=by
 intro w s₀ s₁ mg mb G Y fa o pm cd doc dV kV ho hd hcd hD hmg hg args vals as hpre hlay hrd hwl hlo;obtain rfl:dV=.none:=Dflts.none hD hdf;obtain rfl:kV=.none:=Dflts.noKw hD;obtain⟨a,vs,ns,rfl,rfl,hobj,hints,hlen⟩:=yF hn hpre hwl;refine enter_call (codeAny_mono (call w s₀ s₁ mg mb fa o pm cd doc a vs ns G Y ho (fd_plain hd) hcd hmg hobj hints hlen hg) λr s' hq=>?_);obtain⟨rfl,h2,h3,h4⟩:=hq;exact⟨.inl ⟨.bool true,.bool true,[],rfl,λ_=>rfl,.bool true,yG l _,λ_=>⟨List.Pairwise.nil,λ_ hm=>(nomatch hm)⟩⟩,h2,h3,h4⟩
end Att
namespace L2
open PySem PySem.Spec PyProof.Rows
theorem yL{vs:List Value}{ns:List Int}(h:IntsAre vs ns):Vals (ns.map V.int) vs:=by
 induction h with
 |nil=>exact .nil
 |cons n t h ih=>exact .cons ⟨t,rfl⟩ ih
def Only(H:Hp):Prop:=∀b,H b=none\/∃o xs,H b=some (.vV o (.lst xs))
theorem CZ{P:Program}{w:World}{K:S7}{mg mb:Str->Option Value}{CX:qm}{k:Nat}{fa a:Addr}{fd:FuncData}{x:Str}{sp:Sp}{s₁:Shared}{vs:List Value}{ns:List Int}
  (KX:K.In s₁.heap) (hns:s₁.heap.Ns mainGlobals mg) (hb:s₁.heap.Ns builtinsNs mb) (hbb:∀x:Str,x≠"__name__"->mb x=bootBuiltins x) (hlim:s₁.heap.NoLimit) (hg:s₁.gens = #[])
  (ha:s₁.heap.get? a=some {cls:=.type "list",data:=.seq vs.toArray}) (hi:IntsAre vs ns) (hl:ns.length<=sizeLine) (hr:eW k callerA)
  (F:∀base:Heap,K.In base->base.Ns mainGlobals mg->e8 P w K mg base CX k fa fd [x] sp) (hbind:∀(s:Shared)(u:Value),BindsTo s fd ⟨[u],[]⟩ [(x,u)])
  (hsp:∀H:Hp,Only H->bc K H a (ns.map V.int)->sp [.ref a] H (λv _=>v=.bl true) λ_ _ _=>False)
  (Ma:∀H e s',CX [] H s₁ (λ_ _ _=>False) e s'->False) :
  codeAny (model P w) callerA (.call (.ref fa) ⟨[.ref a],[]⟩) (λr s'=>r=.ok (.ret (.bool true))/\OldK s₁.heap s'.heap/\s'.os=s₁.os/\AllBare s'.gens) s₁:=by
 have rv:=yL hi;have lenV:=hi.length;have core:∀H:Hp,Only H->bc K H a (ns.map V.int)->jl P w H s₁.heap->(∀b,H b≠none->b=a)->(H a≠none->K.lookup a=none)->
   codeAny (model P w) callerA (.call (.ref fa) ⟨[.ref a],[]⟩) (λr s'=>r=.ok (.ret (.bool true))/\OldK s₁.heap s'.heap/\s'.os=s₁.os/\AllBare s'.gens) s₁:=by
  intro H hO hS hok hA hK;have yg:∀{b:Addr}{o:Obj},s₁.heap.get? b=some o->H b=none->(rH s₁.heap H).get? b=some o:=λe n=>CV e n;have Lx:∀{b:Addr}{o:Obj}{es:Array DictEntry}{ep:Nat},s₁.heap.get? b=some o->o.data=.dict es ep->H b=none:=λ{b o es ep} e d=>by
   cases q:H b with
   |none=>rfl
   |some u =>have e':b=a:=hA b (by rw[q];simp);subst e';rw[ha]at e;cases e;have d':Data.seq vs.toArray _=Data.dict es ep:=d;cases d'
  have LA:∀{b:Addr}{m:Str->Option Value},s₁.heap.Ns b m->(rH s₁.heap H).Ns b m:=λ{b m} ⟨o,es,ep,e,d,r⟩=>⟨o,es,ep,yg e (Lx e d),d,r⟩;have Oh:K.In (rH s₁.heap H):=λb o e=>yg (KX b o e) (by
   cases q:H b with
   |none=>rfl
   |some u =>have e':b=a:=hA b (by rw[q];simp);subst e';rw[hK (by rw[q];simp)]at e;cases e)
  have hM:Mod K mg (rH s₁.heap H):=⟨Oh,LA hns,⟨mb,LA hb,hbb⟩,let ⟨mc,h1,h2⟩:=hlim;⟨mc,LA h1,h2⟩⟩;have e0:vN P w K mg (rH s₁.heap H) callerA [] s₁ H:=⟨rfl,hM,λb o e=>E_ e,S0 (zM _ _),trivial,λb hb=>SJ (show b∈([]:List Addr) from hb) (by simp),hok,.of_eq hg⟩;refine codeAny_mono ((F _ Oh (LA hns)).run callerA [] s₁ H ⟨[.ref a],[]⟩ [.ref a] [.ref a] _ _ hr e0 (hbind s₁ (.ref a)) (.cons rfl .nil) (hsp H hO hS)) λr s' h=>?_;cases r with
  |error e=>exact(Ma H e s' h).elim
  |ok fl =>
   cases fl with
   |next=>exact SS h
   |brk=>exact SS h
   |cont=>exact SS h
   |ret u =>
    obtain⟨v,H',os,bare,un,hok',r',q⟩:=h;have q':v=.bl true:=q;subst q';obtain rfl:u=Value.bool true:=r';refine⟨rfl,OldK.of_keep λb o e=>?_,os,bare⟩;cases q:H b with
    |none=>exact un.keep b o e q (by intro z;exact SJ (show b∈([]:List Addr) from z) (by simp)) (by simp)
    |some u =>
     rcases hO b with z|⟨ob,xs,z⟩
     ·rw[q]at z;cases z
     ·have z2:=un.p_ b ob _ z;obtain⟨e1,_⟩:=hok b _ z;obtain⟨e2,_⟩:=hok' b _ z2;rw[e]at e1;cases e1;exact e2
 cases hk:K.lookup a with
 |some o =>have e:=KX a o hk;rw[ha]at e;cases e;refine core (λ_=>none) (λ_=>.inl rfl) (.inr ⟨_,vs.toArray,_,hk,rfl,rfl,rfl,by rw[Si,lenV];exact hl,by simpa using rv⟩) (λb u z=>by have z':(none:Option HO)=some u:=z;cases z') (λb z=>SJ rfl z) λz=>SJ rfl z
 |none =>
  refine core (λb=>if b=a then some (.vV {cls:=.type "list",data:=.seq vs.toArray} (.lst (ns.map V.int)))else none) (λb=>?_) (.inl (.inr ⟨{cls:=.type "list",data:=.seq vs.toArray},SM rfl⟩)) (λb u z=>?_) (λb z=>?_) λ_=>hk
  ·by_cases hb:b=a
   ·exact .inr ⟨_,_,SM hb⟩
   ·exact .inl (SK hb)
  ·by_cases hb:b=a
   ·have z':=(SM hb).symm.trans z;cases z';subst hb;exact⟨ha,by rw[R7];exact hl,vs,_,rv,ha⟩
   ·have z':=(SK hb).symm.trans z;cases z'
  ·by_cases hb:b=a
   ·exact hb
   ·exact SJ (SK hb) z
theorem Eb{l:PySem.W.OpenLaw}{n k:Nat}{q:Program}{loose:List Str}{XP:(Str->Option Value)->Heap->Prop}{YP:World->Heap->Prop}{d:DefRec}{K:Params->S7}{CX:World->qm}{sp:World->Sp}{x:Str}
  (hn:l.most=some n) (hn2:n<=sizeLine) (hdf:d.params.defaults=[]) (hr:eW k callerA)
  (hY:∀(w:World)(h:Heap),YP w h->(K w.params).In h)
  (F:∀(w:World)(mg:Str->Option Value)(fa:Addr)(h:Heap),(K w.params).In h->h.Ns mainGlobals mg->mg d.name=some (.ref fa)->
   ∃fd:FuncData,(∀(s:Shared)(u:Value),BindsTo s fd ⟨[u],[]⟩ [(x,u)])/\
    ∀base:Heap,(K w.params).In base->base.Ns mainGlobals mg->e8 l.prog w (K w.params) mg base (CX w) k fa fd [x] (sp w))
  (hsp:∀(w:World)(H:Hp)(a:Addr)(ns:List Int),ns.length<=n->Only H->bc (K w.params) H a (ns.map V.int)->sp w [.ref a] H (λv _=>v=.bl true) λ_ _ _=>False)
  (Ma:∀(w:World)(H:Hp)(s:Shared)(e:Value)(s':Shared),CX w [] H s (λ_ _ _=>False) e s'->False) :
  PySem.W.WalkO q loose XP YP l.row.toRowW d [] (λf vs=>PySem.call f vs):=by
 refine Att.tZ hn hdf λw s₀ s₁ mg mb fa o pm cd doc a vs ns G Y ho hd hcd hmg hobj hints hlen hg=>?_;have KX:=hY w _ Y;obtain⟨fd,hb,hF⟩:=F w mg fa _ KX G.T.g hmg;exact CZ KX G.T.g G.T.b G.T.builtins G.T.nolimit hg hobj hints (R4 hlen hn2) hr hF hb (λH hO hS=>hsp w H a ns hlen hO hS) λH e s'=>Ma w H s₁ e s'
def dZ(s:Stmt):Arguments:=match s with
 | .FunctionDef _ a _ _ _ _ _ _ _ _=>a
 |_=>{posonlyargs:=[],args:=[],vararg:=none,kwonlyargs:=[],kw_defaults:=[],kwarg:=none,defaults:=[]}
def cO(s:Stmt):List Stmt:=match s with
 | .FunctionDef _ _ b _ _ _ _ _ _ _=>b
 |_=>[]
def ao(s:Stmt):Scope:=match s with
 | .FunctionDef _ _ _ _ _ _ sc _ _ _=>sc
 |_=>{kind:=.function,names:=[],isGenerator:=false,isCoroutine:=false}
abbrev bE:qm:=λ_ _ _ _ _ _=>False
abbrev E0:XK:=λ_ _ _=>False
theorem qE{X:Cx}:Passes bE X E0:=λ_ _ _ _ _ _ _ h=>h.elim
structure Ae(K:S7)(x qual:Str)(st:Stmt)(f:Addr)(fd:FuncData):Prop where
 ex:∃(oc:Value)(od:Option Addr)(kV doc pm:Value)(an:Option Addr)(cdv ct:Value)(osl:Array (Option Value)),
  fd=PySem.W.fnOf x qual (dZ st) (cO st) (ao st) .none kV doc pm an cdv ct/\K.lookup f=some ⟨oc,od,.func fd,osl⟩/\PySem.W.codeIn K cdv qual=true
 kp:PySem.W.keepIn K (.ref f)=true
section
variable{P:Program}{w:World}{K:S7}{mg:Str->Option Value}{base:Heap}
theorem Ae.ok{x qual:Str}{st:Stmt}{f:Addr}{fd:FuncData}{N ps:List Str}{k:Nat}{sp:Sp}(F:Ae K x qual st f fd)(S:au N ps (ao st))(len:∀vs H Q E,sp vs H Q E->vs.length=ps.length)
  (hbody:∀(cdv:Value)(A:Around)(outer:List Env)(s:Shared)(H:Hp)(vs:List V)(Q:VK)(E:XK),eW k (A.deeper (envOfC qual (ao st) s.heap.objs.size f cdv))->sp vs H Q E->
   ∃t,qU (qj bE P w K mg base N qual (ao st) f cdv A outer s H E).yi (cO st) t/\t {nx:=λ_ H'=>Q .non H',rt:=Q} (start N vs) H):e8 P w K mg base bE (k+1) f fd ps sp:=by
 obtain⟨oc,od,kV,doc,pm,an,cdv,ct,osl,rfl,lk,hcd⟩:=F.ex;refine F_ lk hcd S len λA outer s H vs Q E hr hsp=>?_;obtain⟨t,h,q⟩:=hbody cdv A outer s H vs Q E hr hsp;exact⟨t,h.yi,q⟩
theorem Ae.binds{x qual:Str}{st:Stmt}{f:Addr}{fd:FuncData}{ps:List Str}(F:Ae K x qual st f fd)
  (h:∀(kV doc pm:Value)(an:Option Addr)(cdv ct:Value)(us:List Value),us.length=ps.length->bindArgs (PySem.W.fnOf x qual (dZ st) (cO st) (ao st) .none kV doc pm an cdv ct) ⟨us,[]⟩=pure (ps.zip us)):Binds K fd ps []:=by
 obtain⟨oc,od,kV,doc,pm,an,cdv,ct,osl,rfl,lk,hcd⟩:=F.ex;exact .all (h kV doc pm an cdv ct)
theorem vq{x qual:Str}{st:Stmt}{f:Addr}{oc:Value}{od an:Option Addr}{osl:Array (Option Value)}{kV doc pm cdv ct:Value}(l:K.lookup f=some ⟨oc,od,.func (PySem.W.fnOf x qual (dZ st) (cO st) (ao st) .none kV doc pm an cdv ct),osl⟩)
  (c:PySem.W.codeIn K cdv qual=true) (k:PySem.W.keepIn K (.ref f)=true):Ae K x qual st f (PySem.W.fnOf x qual (dZ st) (cO st) (ao st) .none kV doc pm an cdv ct):=⟨⟨oc,od,kV,doc,pm,an,cdv,ct,osl,rfl,l,c⟩,k⟩
end
theorem jn{A:Around}{k:Nat}(hr:eW k A):A.units+1<cLine:=R_ (Nat.add_le_add_left (by decide:1<=64) _) hr.units
section
variable{X:Cx}
theorem pv(i:Nat){x:Str}{pos:Pos}(hN:X.N[i]? = some x:=by rfl)(hv:Me X.env.scope x:=by first|exact SQ rfl|exact Or.inr (SQ rfl)|exact Or.inr (Or.inr rfl))(hd:(x==("__debug__" : Str))=false:=by decide)
  (hcd:(x==("__classdict__" : Str))=false:=by decide):PE X (.Name x pos) (bp i):=vF hN hv hd hcd
end
theorem cq{A B:Prop}(h:B):if false=true then A else B:=by rw[SK Sh];exact h
theorem cB{A B:Prop}(h:A):if true=true then A else B:=by rw[SM rfl];exact h
theorem fJ{c A B:Prop} [Decidable c](h1:c->A)(h2:¬c->B):if c then A else B:=by
 by_cases h:c
 ·rw[SM h];exact h1 h
 ·rw[SK h];exact h2 h
def aE(H H':Hp):Prop:=∀b o,H b=some o->H' b=some o
theorem aE.refl(H:Hp):aE H H:=λ_ _ h=>h
theorem aE.trans{H H1 H2:Hp}(a:aE H H1)(b:aE H1 H2):aE H H2:=λc o h=>b c o (a c o h)
def bt(cells:List (Str×Addr)):List (Str×NameKind)->List (Str×Addr)->List (Str×Addr)
 |[],acc=>acc
 | (n,k)::r,acc=>bt cells r (if(k==NameKind.free)=true then(n,(cells.lookup n).getD 0)::acc else acc)
theorem qN{cells:List (Str×Addr)}{x:Str}{c:Addr}:∀{ns:List (Str×NameKind)}{acc:List (Str×Addr)},(x,c)∈bt cells ns acc->((x,NameKind.free)∈ns/\c=(cells.lookup x).getD 0)\/(x,c)∈acc
 |[],_,h=>.inr h
 | (n,k)::r,acc,h=>by
  have q:=qN (ns:=r) h;rcases q with⟨q1,q2⟩|q
  ·exact .inl ⟨Sg _ q1,q2⟩
  ·by_cases hk:(k==NameKind.free)=true
   ·rw[SM hk]at q;have ek:k=NameKind.free:=by simpa using hk
    rcases Sm.mp q with e|q
    ·cases e;subst ek;exact .inl ⟨SE,rfl⟩
    ·exact .inr q
   ·rw[SK hk]at q;exact .inr q
theorem qZ{cells:List (Str×Addr)}{p:Str×Addr}:∀{ns:List (Str×NameKind)}{acc:List (Str×Addr)},p∈acc->p∈bt cells ns acc
 |[],_,h=>h
 | (n,k)::r,acc,h=>by
  refine qZ (ns:=r) ?_;split
  ·exact Sg _ h
  ·exact h
theorem qJ{cells:List (Str×Addr)}{x:Str}:∀{ns:List (Str×NameKind)}{acc:List (Str×Addr)},(x,NameKind.free)∈ns->(x,(cells.lookup x).getD 0)∈bt cells ns acc
 | (n,k)::r,acc,h=>by
  rcases Sm.mp h with e|h
  ·cases e;refine qZ (ns:=r) ?_;rw[SM (by rfl)];exact SE
  ·exact qJ (ns:=r) h
theorem kB{x:Str}{c:Addr}:∀{l:List (Str×Addr)},(x,c)∈l->∃c',l.lookup x=some c'
 | (n,d)::r,h=>by
  rw[S1];cases e:x==n with
  |true=>exact⟨d,rfl⟩
  |false =>
   rcases Sm.mp h with q|q
   ·cases q;simp at e
   ·exact kB q
theorem qX{env:Env}(f:(Str×NameKind)->List (Str×Addr)->Sem (ForInStep (List (Str×Addr))))(hf1:∀n acc c,env.cells.lookup n=some c->f (n,.free) acc=pure (.yield ((n,c)::acc)))
  (hf2:∀n k acc,(k==NameKind.free)=false->f (n,k) acc=pure (.yield acc)):∀(ns:List (Str×NameKind))(acc:List (Str×Addr)),(∀y∈ns,y.2=.free->∃c,env.cells.lookup y.1=some c)->forIn ns acc f=pure (bt env.cells ns acc)
 |[],_,_=>rfl
 | (n,k)::r,acc,h=>by
  have ih:=λacc'=>qX f hf1 hf2 r acc' λy hy=>h y (Sg _ hy);rw[List.forIn_cons];cases hk:k==NameKind.free with
  |true =>
   have ek:k=NameKind.free:=by simpa using hk
   subst ek;obtain⟨c,e⟩:=h (n,.free) SE rfl;have e':env.cells.lookup n=some c:=e;rw[hf1 n acc c e];show forIn r ((n,c)::acc) f=_;rw[ih];show _=pure (bt env.cells r (if(NameKind.free==NameKind.free)=true then(n,(env.cells.lookup n).getD 0)::acc else acc));rw[SM (by rfl),e'];rfl
  |false =>rw[hf2 n k acc hk];show forIn r acc f=_;rw[ih];show _=pure (bt env.cells r (if(k==NameKind.free)=true then(n,(env.cells.lookup n).getD 0)::acc else acc));rw[SK (by rw[hk];decide)]
theorem cw{scope:Scope}{env:Env}(h:∀y∈scope.names,y.2=.free->∃c,env.cells.lookup y.1=some c):closureFor scope env=pure (bt env.cells scope.names []):=by
 unfold closureFor;show(forIn scope.names [] _ >>= _)=_;rw[qX (env:=env) _ ?_ ?_ scope.names [] h]
 ·rfl
 ·intro n acc c e;show(if(NameKind.free==NameKind.free)=true then _ else _)=_;rw[SM (by rfl)];unfold cellOf;rw[e];first|rfl|skip
 ·intro n k acc hk;show(if(k==NameKind.free)=true then _ else _)=_;rw[SK (by rw[hk];decide)]
abbrev az(X:Cx)(N':List Str)(sc:Scope)(cl:List (Str×Addr))(C:Addr)(s:Shared)(H:Hp)(fp:List Addr):Cx :=
 {X with N:=N',s₀:=s,H₀:=H,env:=compEnvC sc cl C X.env,outer:=X.stack,stack:=X.stack,ex:=fp,fn:=λx=>sc.names.lookup x==some NameKind.local,pn:=[],xe:=λ_ _=>False}
structure ba(Dj:Scope)(ON N':List Str)(src:List (Option Nat))(sc:Scope):Prop where
 kind:sc.kind=.function
 OR:Dj.kind=.function
 uniq:∀y∈sc.names,sc.names.lookup y.1=some y.2
 my:∀y∈sc.names,y.2≠ .cell
 free:∀y∈sc.names,y.2=.free->Dj.names.lookup y.1=some .cell\/Dj.names.lookup y.1=some .free
 len:src.length=N'.length
 src:∀(i:Nat)(x:Str)(j:Nat),N'[i]? = some x->src[i]? = some (some j)->ON[j]? = some x/\sc.names.lookup x=some .free
def iT(src:List (Option Nat))(σ:St):St:=src.map λo=>o.bind λj=>(σ[j]?).bind id
theorem C0{src:List (Option Nat)}{σ:St}{i:Nat}{v:V}(h:(iT src σ)[i]? = some (some v)):∃j,src[i]? = some (some j)/\σ[j]? = some (some v):=by
 unfold iT at h;rw[Sw]at h;cases e:src[i]? with
 |none=>rw[e]at h;cases h
 |some o =>
  rw[e]at h;cases o with
  |none=>cases h
  |some j =>
   have h':(σ[j]?).bind id=some v:=Ss h;cases e2:σ[j]? with
   |none=>rw[e2]at h';cases h'
   |some w =>rw[e2]at h';have h'':w=some v:=h';exact⟨j,rfl,by rw[e2,h'']⟩
def iB(X:Cx)(ifs:List Expr)(t:TT):Prop :=
 ∀(ac:List (Addr×Obj))(s:Shared)(σ:St)(H:Hp)(Q:Bool->Hp->Prop),Inv X ac σ H s->t σ H Q->
  wpAny (model X.prog X.w) X.A (forIn ifs true λc r=>if r=true then do let ok←isTrue c X.env (eval c X.env);pure (ForInStep.yield ok)else pure (ForInStep.yield r)) (TP X ac σ Q) X.xe s
def A3:TT:=λ_ H Q=>Q true H
theorem bg{X:Cx}:iB X [] A3:=λ_ _ _ H _ I h=>wpAny_tests_nil ⟨H,I,h⟩
theorem dR{X:Cx}{c:Expr}{t:TT}(h:PT X c t):iB X [c] t:=λac s σ H Q I q=>wpAny_tests_one (h ac s σ H Q I q)
def ny(J:It)(g:TG)(tc:TT)(te:TE)(D:Addr)(Q:VK)(W:Nat->Nat->St->List V->Hp->Prop):Prop :=
 ∀i m σ ys H,W i m σ ys H->H D=some (.lst ys)/\((J.stop i H/\Q (.ref D) H)\/(J.go i H/\ys.length<sizeLine/\∃N:St->List V->Hp->Prop,(∀σ' ys' H',N σ' ys' H'->∃m',m'<m/\W (i+1) m' σ' ys' H')/\
  ∀x H',J.AQ i H x H'->g x σ H' λcR H2=>tc cR H2 λb H3 =>
   if b=true then te cR H3 λv H4=>H4 D=some (.lst ys)/\N cR (ys++[v]) (upd H4 D (.lst (ys++[v])))else N cR ys H3))
def AE(src:List (Option Nat))(wi:TI)(g:TG)(tc:TT)(te:TE):TE:=λσ H Q=>wi σ H λJ H1=>∀D,H1 D=none->
 ∃W:Nat->Nat->St->List V->Hp->Prop,(∃m,W 0 m (iT src σ) [] (upd H1 D (.lst [])))/\ny J g tc te D Q W
section
variable{X:Cx}{elt target iter:Expr}{ifs:List Expr}{sc:Scope}{pos:Pos}{wi:TI}{g:TG}{tc:TT}{te:TE}{N':List Str}{src:List (Option Nat)}
theorem zL{it acc:Value}{env:Env}{prog:Program}{w:World}{A:Around}{s:Shared}{R:Result->Shared->Prop}(Iv:Nat->Shared->Prop)
  (turn:∀n s,Iv n s->wpAny (model prog w) A (pyNext it) (λr s₁=>match r with
   |none=>R (.ok .next) s₁
   |some v=>wpAny (model prog w) A (letOwnedTupleGo target it v) (λ_ s₁'=>wpAny (model prog w) A (assign target env v) (λ_ s₂ =>
     wpAny (model prog w) A (forIn ifs true λc r=>if r=true then do let ok←isTrue c env (eval c env);pure (ForInStep.yield ok)else pure (ForInStep.yield r)) (λok s₃ =>
      if ok=true then wpAny (model prog w) A (eval elt env) (λx s₄ =>
       wpAny (model prog w) A (call (.builtin "list.append") [acc,x]) (λ_ s₅=>∃m,m<n/\Iv m s₅) (λ_ _=>False) s₄) (λ_ _=>False) s₃
      else∃m,m<n/\Iv m s₃) (λ_ _=>False) s₂) (λ_ _=>False) s₁') (λ_ _=>False) s₁) (λ_ _=>False) s)
  (n:Nat) (h:Iv n s) :
  codeAny (model prog w) A (.compLoop (.ListComp elt [⟨target,iter,ifs,0⟩] sc pos) 0 it acc env) R s:=by
 refine codeAny_loop rfl Iv (λn s hI=>?_) n h;show wpAny _ A ((compTurn (.ListComp elt [⟨target,iter,ifs,0⟩] sc pos) 0 it acc env).onRaise (λx=>do noteFrame x env;theTreesLotGoes x)) _ _ s;refine wpAny_noted ?_;rw[compTurn_list];refine RX (wpAny_standAt (RX (Sz (turn n s hI) (λr s₁ h₁=>?_) λ_ _ h'=>h'.elim)));cases r with
 |none=>exact RY h₁
 |some v =>
  refine RX (Sz h₁ (λ_ s₁' h₁'=>RX (Sz h₁' (λ_ s₂ h₂=>RX (Sz h₂ (λok s₃ h₃=>?_) λ_ _ h'=>h'.elim)) λ_ _ h'=>h'.elim)) λ_ _ h'=>h'.elim);cases ok with
  |false=>exact RY ⟨rfl,h₃⟩
  |true =>exact RX (RX (Sz h₃ (λx s₄ h₄=>RX (Sz h₄ (λ_ s₅ h₅=>RY (RY ⟨rfl,h₅⟩)) λ_ _ h'=>h'.elim)) λ_ _ h'=>h'.elim))
theorem gk{ac:List (Addr×Obj)}{σ:St}{H:Hp}{s:Shared}{h1:Heap}{fp:List Addr}(S:ba X.env.scope X.N N' src sc)(I:Inv X ac σ H s)(f2:∀b∈fp,cQ X ac H b)(o2:∀b∈fp,b<s.heap.objs.size)
  (ns:h1.Ns s.heap.objs.size λx=>(([]:List (Str×Value)).reverse.lookup x)) (sb:Heap.SameBut s.heap.objs.size (s.heap.push {cls:=.type "dict",data:=.dict #[]}) h1) {tk:Nat} :
  Inv (az X N' sc (bt X.env.cells sc.names []) s.heap.objs.size s H fp) [] (iT src σ) H {s with heap:=h1,toks:=tk}:=by
 have old:∀b o,s.heap.get? b=some o->h1.get? b=some o:=λb o e=>(sb.2 b (Sq (R0 e))).trans (RZ _ e);have clo:∀x c,(bt X.env.cells sc.names []).lookup x=some c->X.env.cells.lookup x=some c/\sc.names.lookup x=some .free:=λx c e=>by
  rcases qN (mem_of_lookup e)with⟨m,q⟩|z
  ·obtain⟨c',e'⟩:=I.ok.has x (S.free _ m rfl);rw[e']at q;exact⟨by rw[e',q];rfl,S.uniq _ m⟩
  ·cases z
 have Hw:∀x,sc.names.lookup x=some .free->∃c,(bt X.env.cells sc.names []).lookup x=some c:=λx e=>kB (qJ (mem_of_lookup e));have kinds:∀(x:Str)(k:NameKind),(relabel sc X.env).names.lookup x=some k->(k=.cell\/k=.free)->sc.names.lookup x=some .free:=λx k e hk=>by
  have gen:∀ns:List (Str×NameKind),(∀y∈ns,y.2≠ .cell)->(ns.map λ(n,k)=>if(k==NameKind.free&&X.env.scope.kind == .function&&X.env.kindOf n==some .cell)then(n,NameKind.cell)else(n,k)).lookup x=some k->ns.lookup x=some .free:=by
   intro ns;induction ns with
   |nil=>intro _ h;cases h
   |cons y r ih =>
    obtain⟨n,k1⟩:=y;intro hn h;rw[S2]at h;dsimp only at h;by_cases hc:(k1==NameKind.free&&X.env.scope.kind == .function&&X.env.kindOf n==some .cell)=true
    ·rw[SM hc,S1]at h;rw[S1];cases hx:x==n with
     |true =>
      have:k1=NameKind.free:=by
       cases hk1:k1==NameKind.free with
       |true=>simpa using hk1
       |false=>rw[hk1]at hc;simp at hc
      rw[this]
     |false=>rw[hx]at h;exact ih (λy hy=>hn y (Sg _ hy)) h
    ·rw[SK hc,S1]at h;rw[S1];cases hx:x==n with
     |true =>
      rw[hx]at h;have h':k1=k:=Ss h;rcases hk with hk|hk
      ·exact SJ (h'.trans hk) (hn (n,k1) SE)
      ·show some k1=_;rw[h',hk]
     |false=>rw[hx]at h;exact ih (λy hy=>hn y (Sg _ hy)) h
  exact gen sc.names S.my e
 have JN:∀x,sc.names.lookup x=some .free->(relabel sc X.env).names.lookup x=some .cell\/(relabel sc X.env).names.lookup x=some .free:=λx e=>by
  have gen:∀ns:List (Str×NameKind),ns.lookup x=some .free->(ns.map λ(n,k)=>if(k==NameKind.free&&X.env.scope.kind == .function&&X.env.kindOf n==some .cell)then(n,NameKind.cell)else(n,k)).lookup x=some .cell\/
    (ns.map λ(n,k)=>if(k==NameKind.free&&X.env.scope.kind == .function&&X.env.kindOf n==some .cell)then(n,NameKind.cell)else(n,k)).lookup x=some .free:=by
   intro ns;induction ns with
   |nil=>intro h;cases h
   |cons y r ih =>
    obtain⟨n,k1⟩:=y;intro h;rw[S2];dsimp only;rw[S1]at h;by_cases hc:(k1==NameKind.free&&X.env.scope.kind == .function&&X.env.kindOf n==some .cell)=true
    ·rw[SM hc,S1];cases hx:x==n with
     |true=>exact .inl rfl
     |false=>rw[hx]at h;exact ih h
    ·rw[SK hc,S1];cases hx:x==n with
     |true =>rw[hx]at h;exact .inr h
     |false=>rw[hx]at h;exact ih h
  exact gen sc.names e
 refine⟨⟨I.mod,?_,I.ok.glob,I.ok.blt,R3 _,λx y c h1 h2=>I.ok.inj x y c (clo x c h1).1 (clo y c h2).1,λx hx=>?_,λx c hf h=>?_,I.ok.hd,I.ok.frames,.inl rfl,λb hb=>⟨?_,λx c h=>?_⟩,I.bs,?_,λb o e hb=>?_,λb hb hs=>?_,I.stack,I.n8⟩,
  rfl,I.bare,Un.kept old,⟨_,ns,λi x v h1 h2 h3=>?_⟩,λx c h=>?_,I.hok.fresh (R3 _),λx c h=>I.kD x c (clo x c h).1,λp hp=>SJ (show p∈([]:List (Addr×Obj)) from hp) (by simp),I.hok.kept old,?_⟩
 ·show(relabel sc X.env).kind=.function;exact S.kind
 ·obtain hx|hx:=hx
  ·exact Hw x (kinds x _ hx (.inl rfl))
  ·exact Hw x (kinds x _ hx (.inr rfl))
 ·have e2:=(clo x c h).2;have hf':(sc.names.lookup x==some NameKind.local)=true:=hf;rw[e2]at hf';cases hf'
 ·exact Sq (o2 b hb)
 ·exact(f2 b hb).2.2.2.2.1 x c (clo x c h).1
 ·exact R4 I.ok.DC I.sz
 ·rcases(f2 b hb).2.2.2.1 with z|z
  ·exact I.ok.Be b o e z
  ·exact SJ (Sb (R0 e) (R4 I.ok.DC z)) (Nat.lt_irrefl _)
 ·rcases Sm.mp (I.wq b hs)with z|z
  ·exact(f2 b hb).2.1 z
  ·exact(f2 b hb).2.2.1 z
 ·obtain⟨j,e1,e2⟩:=C0 h2;obtain⟨e3,e4⟩:=S.src i x j h1 e1;obtain⟨m,hn,hl⟩:=I.loc;have kx:=S.free _ (mem_of_lookup e4) rfl;obtain⟨u,ru,l⟩:=hl j x v e3 e2 (.inr kx);refine⟨u,ru,.inr ⟨JN x e4,?_⟩⟩;obtain⟨c,hc⟩:=Hw x e4;refine⟨c,hc,?_⟩;have hc':=(clo x c hc).1;rcases l with⟨lk,_⟩|⟨_,c',lc,z⟩
  ·have N1:X.env.scope.names.lookup x=some .local:=lk;rcases kx with q|q
   ·have q':X.env.scope.names.lookup x=some .cell:=q;rw[N1]at q';cases q'
   ·have q':X.env.scope.names.lookup x=some .free:=q;rw[N1]at q';cases q'
  ·rw[hc']at lc;cases lc;obtain⟨o,ho,hd⟩:=z;exact⟨o,old _ _ ho,hd⟩
 ·obtain⟨v,o,ho,hd⟩:=I.cell x c (clo x c h).1;exact⟨v,o,old _ _ ho,hd⟩
 ·show(iT src σ).length=N'.length;unfold iT;rw[R7];exact S.len
theorem pZ{ac:List (Addr×Obj)}{σ:St}{H2:Hp}{s2:Shared}{it:Addr}{fp:List Addr}{tn:Nat->Heap->Prop}{J:It}{Q:VK}{E:Value->Shared->Prop}{RR:Value->Addr->Result->Shared->Prop}
  (hc:X.calm=true) (S:ba X.env.scope X.N N' src sc)
  (hg:∀cl C s H fp,PG (az X N' sc cl C s H fp) target g) (ht:∀cl C s H fp,iB (az X N' sc cl C s H fp) ifs tc) (he:∀cl C s H fp,PE (az X N' sc cl C s H fp) elt te)
  (I2:Inv X ac σ H2 s2) (T:Turn X.prog X.w X.K target J fp it tn) (st2:tn 0 s2.heap) (f2:∀b∈fp,cQ X ac H2 b)
  (hW:∀D,H2 D=none->∃W:Nat->Nat->St->List V->Hp->Prop,(∃m,W 0 m (iT src σ) [] (upd H2 D (.lst [])))/\ny J g tc te D Q W)
  (hRR:∀D C s5 H' m,Inv X ac σ H' s5->s5.heap.Ns C m->cQ X ac H' C->Q (.ref D) H'->RR (.ref D) C (.ok .next) s5) :
  wpAny (model X.prog X.w) X.A (newList []) (λacc s₃=>wpAny (model X.prog X.w) X.A (newFunctionEnv sc X.env.globals (bt X.env.cells sc.names []) [] X.env.qual none .none (some X.env)) (λcenv s₄ =>
   codeAny (model X.prog X.w) X.A (.compStart (.ListComp elt [⟨target,iter,ifs,0⟩] sc pos) 0 (.ref it) acc {cenv with scope:=relabel sc X.env}) (RR acc cenv.locals) s₄) E s₃) E s2:=by
 have o2:∀b∈fp,b<s2.heap.objs.size:=λb hb=>by obtain⟨o,e,_⟩:=T.obj 0 _ st2 b hb;exact R0 e
 refine SD ?_;have E9:H2 s2.heap.objs.size=none:=I2.hok.fresh (R3 _);obtain⟨W,⟨m0,w0⟩,turn⟩:=hW s2.heap.objs.size E9;have I3:Inv X ac σ (upd H2 s2.heap.objs.size (.lst [])) {s2 with heap:=s2.heap.push {cls:=.type "list",dict:=none,data:=.seq ([]:List Value).toArray}} :=
  I2.laid (t':=s2.toks) (λb u e=>RZ _ e) (R3 _) ⟨Sr _,[],0,.nil,R1 _ rfl⟩
 have st3:tn 0 (s2.heap.push {cls:=.type "list",dict:=none,data:=.seq ([]:List Value).toArray}):=T.keep 0 _ _ st2 λb hb o e=>RZ _ e;generalize hs3:({s2 with heap:=s2.heap.push {cls:=.type "list",dict:=none,data:=.seq ([]:List Value).toArray}}:Shared)=s3 at I3;have hh3:s3.heap=s2.heap.push {cls:=.type "list",dict:=none,data:=.seq ([]:List Value).toArray}:=by rw[←hs3]
 have Af:s2.heap.objs.size<s3.heap.objs.size:=by rw[hh3,Heap.size_push];exact Nat.lt_succ_self _
 have o3:∀b∈fp,b<s3.heap.objs.size:=λb hb=>Nat.lt_trans (o2 b hb) Af;have f3:∀b∈fp,cQ X ac (upd H2 s2.heap.objs.size (.lst [])) b:=λb hb=>⟨by rw[aH (Sq (o2 b hb))];exact(f2 b hb).1,(f2 b hb).2⟩;rw[←hh3]at st3;refine wpAny_newFunctionEnv S.my (by intro y hy;simp at hy) (λh1 hns hsb=>?_) S.kind;have hsb':Heap.SameBut s3.heap.objs.size (s3.heap.push {cls:=.type "dict",data:=.dict #[]}) h1:=hsb;have I4:Inv (az X N' sc (bt X.env.cells sc.names []) s3.heap.objs.size s3 (upd H2 s2.heap.objs.size (.lst [])) fp) [] (iT src σ) (upd H2 s2.heap.objs.size (.lst [])) {s3 with heap:=h1,toks:=s3.toks+([]:List (Str×Value)).length} :=
  gk S I3 f3 o3 hns hsb'
 have xq:tn 0 h1:=T.keep 0 _ _ st3 λb hb o e=>(hsb'.2 b (Sq (o3 b hb))).trans (RZ _ e);have fC:∀(H':Hp),H' s3.heap.objs.size=none->cQ X ac H' s3.heap.objs.size:=λH' hn=>I3.lF (R3 _) hn;have loop:codeAny (model X.prog X.w) X.A (.compLoop (.ListComp elt [⟨target,iter,ifs,0⟩] sc pos) 0 (.ref it) (.ref s2.heap.objs.size) (compEnvC sc (bt X.env.cells sc.names []) s3.heap.objs.size X.env))
   (RR (.ref s2.heap.objs.size) s3.heap.objs.size) {s3 with heap:=h1,toks:=s3.toks+([]:List (Str×Value)).length}:=by
  have stat:∀{H':Hp},(∀b∈fp,H' b=none)->∀b∈fp,cQ (az X N' sc (bt X.env.cells sc.names []) s3.heap.objs.size s3 (upd H2 s2.heap.objs.size (.lst [])) fp) [] H' b:=λhn b hb =>
   ⟨hn b hb,(I4.ok.Ac b hb).1,I4.ok.rO b hb,.inl hb,(I4.ok.Ac b hb).2,λp hp=>SJ (show p∈([]:List (Addr×Obj)) from hp) (by simp)⟩
  refine zL (λn s'=>∃i σ' ys H',Inv (az X N' sc (bt X.env.cells sc.names []) s3.heap.objs.size s3 (upd H2 s2.heap.objs.size (.lst [])) fp) [] σ' H' s'/\tn i s'.heap/\(∀b∈fp,H' b=none)/\W i n σ' ys H') ?_ m0
   ⟨0,_,[],_,I4,xq,λb hb=>(f3 b hb).1,w0⟩
  rintro n s5 ⟨i,lW,ys,H5,I5,qo,sH,w5⟩;obtain⟨hD,alt⟩:=turn i n lW ys H5 w5;rcases alt with⟨stop,qn⟩|⟨go,hsz,N,hN,step⟩
  ·refine bO (T.done (az X N' sc (bt X.env.cells sc.names []) s3.heap.objs.size s3 (upd H2 s2.heap.objs.size (.lst [])) fp) rfl rfl rfl hc i [] s5 lW H5 _ I5 (stat sH) qo stop) λr s6 zz=>?_;obtain⟨hr,I6⟩:=zz;subst hr;obtain⟨m6,n6,_⟩:=id I6.loc;refine hRR _ _ s6 H5 m6 (I3.call' I6.os I6.base I6.hok I6.bare λb hb=>⟨(f3 b hb).2.2.2.1,(f3 b hb).2.1,(f3 b hb).2.2.2.2.1,(f3 b hb).2.2.2.2.2⟩) n6 (fC _ I6.free) qn
  ·refine bO (T.item (az X N' sc (bt X.env.cells sc.names []) s3.heap.objs.size s3 (upd H2 s2.heap.objs.size (.lst [])) fp) rfl rfl rfl hc i [] s5 lW H5 _ I5 (stat sH) qo go) λr s6 zz=>?_;obtain⟨u,hr,h6⟩:=zz;subst hr;refine bO h6 λ_ s7 zz=>?_;obtain⟨x,H7,I7,r7,y7,pN,CW⟩:=zz;have AG:=I7.pinned (stat CW) (T.obj _ _ pN);refine bO (hg _ _ _ _ _ _ s7 lW H7 x u _ AG r7 (step x H7 y7)) λ_ s8 zz=>?_;obtain⟨p6,H8,I8,q8⟩:=zz;refine bO (ht _ _ _ _ _ _ s8 p6 H8 _ I8 q8) λb s9 zz=>?_;obtain⟨H9,I9,q9⟩:=zz;have again:∀{σ':St}{H':Hp}{s':Shared}{ys':List V}{m':Nat},Inv (az X N' sc (bt X.env.cells sc.names []) s3.heap.objs.size s3 (upd H2 s2.heap.objs.size (.lst [])) fp) ([]++iR fp s7.heap) σ' H' s'->m'<n->W (i+1) m' σ' ys' H'->
     ∃m,m<n/\∃i σ' ys H',Inv (az X N' sc (bt X.env.cells sc.names []) s3.heap.objs.size s3 (upd H2 s2.heap.objs.size (.lst [])) fp) [] σ' H' s'/\tn i s'.heap/\(∀b∈fp,H' b=none)/\W i m σ' ys H':=λ{σ' H' s' ys' m'} I' hm w'=>by
    refine⟨m',hm,i+1,σ',ys',H',I'.fv,T.keep _ _ _ pN λb hb o e=>(I'.pin (b,o) (Se _ (Se _ (b9 hb e)))).1,λb hb=>?_,w'⟩;obtain⟨o,e,d⟩:=T.obj _ _ pN b hb;exact(I'.pin (b,o) (Se _ (Se _ (b9 hb e)))).2.1
   cases b with
   |false =>rw[SK Sh]at q9⊢;obtain⟨m',hm,w'⟩:=hN _ _ _ q9;exact again I9 hm w'
   |true =>rw[SM rfl]at q9⊢;refine bO (he _ _ _ _ _ _ s9 p6 H9 _ I9 q9) λxv p7 zz=>?_;obtain⟨v,xr,Iw,r10,Ba,w10⟩:=zz;obtain⟨m',hm,w'⟩:=hN _ _ _ w10;have IF:nY (.ref s2.heap.objs.size) [v] xr λ_ H'=>H'=upd xr s2.heap.objs.size (.lst (ys++[v])):=⟨_,ys,v,rfl,rfl,Ba,hsz,rfl⟩;refine bO (cj _ p7 p6 xr _ _ _ _ _ Iw (show RelV (.ref s2.heap.objs.size) (.ref s2.heap.objs.size) from rfl) (.cons r10 .nil) IF) λ_ Nl zz=>?_;obtain⟨_,Nz,Dp,_,K6⟩:=zz;rw[K6]at Dp;exact again Dp hm w'
 exact codeAny_compStart_list loop (T.self _ 0 _ _ _ xq loop)
theorem bw(hc:X.calm=true)(S:ba X.env.scope X.N N' src sc)(hi:PI X target iter wi)
  (hg:∀cl C s H fp,PG (az X N' sc cl C s H fp) target g) (ht:∀cl C s H fp,iB (az X N' sc cl C s H fp) ifs tc) (he:∀cl C s H fp,PE (az X N' sc cl C s H fp) elt te)
  (hs:∀x,foldedSetIterable iter X.env x=pure x:=by intro _;rfl) :
  PE X (.ListComp elt [⟨target,iter,ifs,0⟩] sc pos) (AE src wi g tc te):=by
 intro ac s σ H Q I h;rw[eval_ListComp];refine wpAny_comprehension_free (use:=none) rfl hs (cw λy hy hk=>I.ok.has y.1 (S.free y hy hk)) S.kind (λy hy hl=>by rw[←hl];exact S.uniq y hy) ?_;refine bO (hi ac s σ H _ I h) λv s1 h1=>bO h1 λitv s2 h2=>?_;obtain⟨it,fp,tn,J,H2,e,I2,T,st2,f2,hW⟩:=h2;subst e;refine pZ (Q:=Q) (RR:=λacc C=>compPost (model X.prog X.w) X.A X.xe none (EP X ac σ Q) acc C) hc S hg ht he I2 T st2 f2 hW ?_;intro D C s5 H' m I5 n5 fC q;refine⟨m,n5,λh' sb=>⟨.ref D,H',?_,rfl,q⟩⟩;exact I5.turned (t':=s5.toks) (λb o hb e=>(sb.2 b hb).trans e) fC.1 fC.2.1 fC.2.2.2.1 fC.2.2.2.2.1 fC.2.2.2.2.2
theorem fe{i:Nat}{x:Str}{pos' spos:Pos}(hN:X.N.Nodup)(hi':X.N[i]? = some x)(hx:Loc X.env.scope x)(hsw:swapsWith (.ListComp elt [⟨target,iter,ifs,0⟩] sc pos) (some (.Name x pos')) spos.line X.env=pure true)
  (hc:X.calm=true) (S:ba X.env.scope X.N N' src sc) (hi:PI X target iter wi)
  (hg:∀cl C s H fp,PG (az X N' sc cl C s H fp) target g) (ht:∀cl C s H fp,iB (az X N' sc cl C s H fp) ifs tc) (he:∀cl C s H fp,PE (az X N' sc cl C s H fp) elt te)
  (hf:X.fn x=true\/X.env.scope.names.lookup x=some .local:=by first|exact .inl rfl|exact .inr rfl|assumption)
  (hs:∀x,foldedSetIterable iter X.env x=pure x:=by intro _;rfl) :
  PS X (.Assign [.Name x pos'] (.ListComp elt [⟨target,iter,ifs,0⟩] sc pos) spos) (za (AE src wi g tc te) (bT i)):=by
 intro ac s σ H D I h;rw[exec_Assign_Name_used _ _ _ _ hsw];refine RX (wpAny_standAt (RX ?_));show wpAny _ _ (comprehension _ _ _ _ _ _ _ _ >>= _) _ _ s;refine RX (wpAny_comprehension_free (use:=some (assign (.Name x pos') X.env)) rfl hs (cw λy hy hk=>I.ok.has y.1 (S.free y hy hk)) S.kind (λy hy hl=>by rw[←hl];exact S.uniq y hy) ?_);refine bO (hi ac s σ H _ I h) λv s1 h1=>bO h1 λitv s2 h2=>?_;obtain⟨it,fp,tn,J,H2,e,I2,T,st2,f2,hW⟩:=h2;subst e;refine pZ (Q:=λy H'=>D.nx (σ.set i (some y)) H') (RR:=λacc C=>compPost (model X.prog X.w) X.A X.xe (some (assign (.Name x pos') X.env)) _ acc C) hc S hg ht he I2 T st2 f2 hW ?_;intro D' C s5 H' m I5 n5 fC q;refine wpAny_assign_Name (mQ I5 hN hi' hx (show RelV (.ref D') (.ref D') from rfl) (λs6 I6 hsb=>?_) hf);obtain⟨a,sb,ha⟩:=hsb;have NP:C≠a:=by
  rcases ha with z|z
  ·rw[z];exact fC.2.1
  ·exact λe=>fC.2.2.2.2.1 x a z e.symm
 refine⟨m,n5.sameBut sb NP,λh' NB=>?_⟩;refine RY (RY ?_);exact⟨_,H',I6.turned (t':=s6.toks) (λb o hb e=>(NB.2 b hb).trans e) fC.1 fC.2.1 fC.2.2.2.1 fC.2.2.2.2.1 fC.2.2.2.2.2,q⟩
end
def yf(Dj:Scope)(ON N':List Str)(src:List (Option Nat))(sc:Scope):Bool :=
 sc.kind == .function&&Dj.kind == .function&&sc.names.all (λy=>sc.names.lookup y.1==some y.2&&y.2 != .cell&&(y.2 != .free||Dj.names.lookup y.1==some .cell||Dj.names.lookup y.1==some .free)) &&
 src.length==N'.length&&(N'.zip src).all λy=>match y.2 with|none=>true|some j=>ON[j]? == some y.1&&sc.names.lookup y.1==some .free
theorem ba.jb{Dj:Scope}{ON N':List Str}{src:List (Option Nat)}{sc:Scope}(h:yf Dj ON N' src sc=true):ba Dj ON N' src sc:=by
 unfold yf at h;simp only[SH]at h;obtain⟨⟨⟨⟨h1,h2⟩,h3⟩,h4⟩,h5⟩:=h;have h3':=List.all_eq_true.mp h3;have PL:=List.all_eq_true.mp h5;refine⟨by simpa using h1,by simpa using h2,λy hy=>?_,λy hy=>?_,λy hy hf=>?_,by simpa using h4,λi x j e1 e2=>?_⟩
 ·have:=h3' y hy;simp only[SH]at this;simpa using this.1.1
 ·have:=h3' y hy;simp only[SH]at this;simpa using this.1.2
 ·have:=h3' y hy;simp only[SH,Bool.or_eq_true]at this;rcases this.2 with(z|z)|z
  ·rw[hf]at z;exact SJ z (by decide)
  ·exact .inl (by simpa using z)
  ·exact .inr (by simpa using z)
 ·have m:(x,some j)∈N'.zip src:=by refine Sf (i:=i) ?_;rw[List.getElem?_zip_eq_some];exact⟨e1,e2⟩
  have:=PL _ m;simp only[SH]at this;exact⟨by simpa using this.1,by simpa using this.2⟩
section
variable{g:TG}{tc:TT}{te:TE}{D:Addr}{Q:VK}{qS:St}{H0:Hp}
theorem de{lo:Int}{n:Nat}(Pv:Nat->St->List V->Hp->Prop)(h0:Pv 0 qS [] H0)(hD:∀i σ ys H,i<=n->Pv i σ ys H->H D=some (.lst ys)/\ys.length<=i)(hz:n<=sizeLine)
  (hs:∀i σ ys H,i<n->Pv i σ ys H->g (.int (lo+i)) σ H λcR H2=>tc cR H2 λb H3=>if b=true then te cR H3 λv H4=>H4 D=some (.lst ys)/\Pv (i+1) cR (ys++[v]) (upd H4 D (.lst (ys++[v])))else Pv (i+1) cR ys H3)
  (hd:∀σ ys H,Pv n σ ys H->Q (.ref D) H):∃W:Nat->Nat->St->List V->Hp->Prop,(∃m,W 0 m qS [] H0)/\ny (F2 lo n) g tc te D Q W:=by
 refine⟨λi m σ ys H=>m=n-i/\i<=n/\Pv i σ ys H,⟨n,by simp,Sr _,h0⟩,?_⟩;rintro i m σ ys H ⟨rfl,hi,p⟩;refine⟨(hD i σ ys H hi p).1,?_⟩;by_cases hlt:i<n
 ·refine .inr ⟨hlt,R_ (hD i σ ys H hi p).2 (Sb hlt hz),Pv (i+1),λσ' ys' H' p'=>⟨n-(i+1),by omega,rfl,hlt,p'⟩,λx H' y=>?_⟩;obtain⟨e,y⟩:=y;subst e y;exact hs i σ ys _ hlt p
 ·have e:i=n:=by omega
  subst e;exact .inl ⟨R3 _,hd σ ys H p⟩
theorem dn{K:S7}{a:Addr}{xs:List V}(Pv:Nat->St->List V->Hp->Prop)(h0:Pv 0 qS [] H0)(hD:∀i σ ys H,i<=xs.length->Pv i σ ys H->H D=some (.lst ys)/\ys.length<=i)(hl:∀i σ ys H,i<=xs.length->Pv i σ ys H->bc K H a xs)(hz:xs.length<=sizeLine)
  (hs:∀i x σ ys H,xs[i]? = some x->Pv i σ ys H->g x σ H λcR H2=>tc cR H2 λb H3=>if b=true then te cR H3 λv H4=>H4 D=some (.lst ys)/\Pv (i+1) cR (ys++[v]) (upd H4 D (.lst (ys++[v])))else Pv (i+1) cR ys H3)
  (hd:∀σ ys H,Pv xs.length σ ys H->Q (.ref D) H):∃W:Nat->Nat->St->List V->Hp->Prop,(∃m,W 0 m qS [] H0)/\ny (EF K a) g tc te D Q W:=by
 refine⟨λi m σ ys H=>m=xs.length-i/\i<=xs.length/\Pv i σ ys H,⟨xs.length,by simp,Sr _,h0⟩,?_⟩;rintro i m σ ys H ⟨rfl,hi,p⟩;have q:=hl i σ ys H hi p;refine⟨(hD i σ ys H hi p).1,?_⟩;by_cases hlt:i<xs.length
 ·refine .inr ⟨⟨xs,xs[i],q,by simp[hlt]⟩,R_ (hD i σ ys H hi p).2 (Sb hlt hz),Pv (i+1),λσ' ys' H' p'=>⟨xs.length-(i+1),by omega,rfl,hlt,p'⟩,λx H' y=>?_⟩;obtain⟨e,y⟩:=y;subst e;exact hs i x σ ys _ (y xs q) p
 ·have e:i=xs.length:=by omega
  subst e;exact .inl ⟨⟨xs,q,R3 _⟩,hd σ ys H p⟩
theorem cG{K:S7}{a:Addr}{xs:List V}(Pv:Nat->St->List V->Hp->Prop)(h0:Pv 0 qS [] H0)(hD:∀i σ ys H,i<=xs.length->Pv i σ ys H->H D=some (.lst ys)/\ys.length<=i)(hl:∀i σ ys H,i<=xs.length->Pv i σ ys H->aP K H a xs)(hz:xs.length<=sizeLine)
  (hs:∀i x σ ys H,xs[i]? = some x->Pv i σ ys H->g x σ H λcR H2=>tc cR H2 λb H3=>if b=true then te cR H3 λv H4=>H4 D=some (.lst ys)/\Pv (i+1) cR (ys++[v]) (upd H4 D (.lst (ys++[v])))else Pv (i+1) cR ys H3)
  (hd:∀σ ys H,Pv xs.length σ ys H->Q (.ref D) H):∃W:Nat->Nat->St->List V->Hp->Prop,(∃m,W 0 m qS [] H0)/\ny (Df K a) g tc te D Q W:=by
 refine⟨λi m σ ys H=>m=xs.length-i/\i<=xs.length/\Pv i σ ys H,⟨xs.length,by simp,Sr _,h0⟩,?_⟩;rintro i m σ ys H ⟨rfl,hi,p⟩;have q:=hl i σ ys H hi p;refine⟨(hD i σ ys H hi p).1,?_⟩;by_cases hlt:i<xs.length
 ·refine .inr ⟨⟨xs,xs[i],q,by simp[hlt]⟩,R_ (hD i σ ys H hi p).2 (Sb hlt hz),Pv (i+1),λσ' ys' H' p'=>⟨xs.length-(i+1),by omega,rfl,hlt,p'⟩,λx H' y=>?_⟩;obtain⟨e,y⟩:=y;subst e;exact hs i x σ ys _ (y xs q) p
 ·have e:i=xs.length:=by omega
  subst e;exact .inl ⟨⟨xs,q,R3 _⟩,hd σ ys H p⟩
end
section
variable{X:Cx}{N':List Str}{sc:Scope}{cl:List (Str×Addr)}{C:Addr}{s:Shared}{H:Hp}{fp:List Addr}
theorem sD{env:Env}{x:Str}(e:sc.names.lookup x=some .free):(relabel sc env).names.lookup x=some .cell\/(relabel sc env).names.lookup x=some .free:=by
 have gen:∀ns:List (Str×NameKind),ns.lookup x=some .free->(ns.map λ(n,k)=>if(k==NameKind.free&&env.scope.kind == .function&&env.kindOf n==some .cell)then(n,NameKind.cell)else(n,k)).lookup x=some .cell\/
   (ns.map λ(n,k)=>if(k==NameKind.free&&env.scope.kind == .function&&env.kindOf n==some .cell)then(n,NameKind.cell)else(n,k)).lookup x=some .free:=by
  intro ns;induction ns with
  |nil=>intro h;cases h
  |cons y r ih =>
   obtain⟨n,k1⟩:=y;intro h;rw[S2];dsimp only;rw[S1]at h;by_cases hc:(k1==NameKind.free&&env.scope.kind == .function&&env.kindOf n==some .cell)=true
   ·rw[SM hc,S1];cases hx:x==n with
    |true=>exact .inl rfl
    |false=>rw[hx]at h;exact ih h
   ·rw[SK hc,S1];cases hx:x==n with
    |true =>rw[hx]at h;exact .inr h
    |false=>rw[hx]at h;exact ih h
 exact gen sc.names e
theorem fm{env:Env}{x:Str}{k:NameKind}(hk:(k==NameKind.free)=false)(e:sc.names.lookup x=some k):(relabel sc env).names.lookup x=some k:=by
 have gen:∀ns:List (Str×NameKind),ns.lookup x=some k->(ns.map λ(n,k)=>if(k==NameKind.free&&env.scope.kind == .function&&env.kindOf n==some .cell)then(n,NameKind.cell)else(n,k)).lookup x=some k:=by
  intro ns;induction ns with
  |nil=>intro h;cases h
  |cons y r ih =>
   obtain⟨n,k1⟩:=y;intro h;rw[S2];dsimp only;rw[S1]at h;cases hx:x==n with
   |true =>rw[hx]at h;have h':k1=k:=Ss h;subst h';rw[SK (by rw[hk];simp),S1,hx]
   |false =>
    rw[hx]at h;split
    ·rw[S1,hx];exact ih h
    ·rw[S1,hx];exact ih h
 exact gen sc.names e
theorem oY(i:Nat){x:Str}{pos:Pos}(hN:N'[i]? = some x:=by rfl)(hv:sc.names.lookup x=some .free:=by rfl)(hd:(x==("__debug__" : Str))=false:=by decide)(hcd:(x==("__classdict__" : Str))=false:=by decide) :
  PE (az X N' sc cl C s H fp) (.Name x pos) (bp i):=vF (X:=az X N' sc cl C s H fp) hN (.inr (sD hv)) hd hcd
theorem fP(i:Nat){x:Str}{pos:Pos}(hN:N'[i]? = some x:=by rfl)(hv:sc.names.lookup x=some .local:=by rfl)(hd:(x==("__debug__" : Str))=false:=by decide)(hcd:(x==("__classdict__" : Str))=false:=by decide) :
  PE (az X N' sc cl C s H fp) (.Name x pos) (bp i):=vF (X:=az X N' sc cl C s H fp) hN (.inl (fm rfl hv)) hd hcd
theorem e7{i:Nat}{x:Str}{pos:Pos}(hn:N'.Nodup:=by decide +kernel)(hN:N'[i]? = some x:=by rfl)(hv:sc.names.lookup x=some .local:=by rfl) :
  PG (az X N' sc cl C s H fp) (.Name x pos) (bT i):=aL (X:=az X N' sc cl C s H fp) hn hN (.inl (fm rfl hv)) (.inr (fm rfl hv))
theorem Dh{x:Str}(hv:sc.names.lookup x=some .globalImplicit:=by rfl):Gl (az X N' sc cl C s H fp) x:=fm (env:=X.env) rfl hv
end
section
variable{X:Cx}
theorem sy:ft X (.builtin "divmod") (λxs H Q=>∃i j,xs=[.int i,.int j]/\(0<j/\j.natAbs.log2<9000)/\∀p,H p=none->Q (.ref p) (upd H p (.tup [.int (i / j),.int (i % j)]))):=by intro ac s σ H xs us Q I r h;obtain⟨i,j,rfl,⟨h1,h2⟩,q⟩:=h;obtain⟨u,w',rfl,⟨t,rfl⟩,⟨t',rfl⟩⟩:=vals2 r;refine divmod_int (by omega) ?_ (.inl (PyProof.noPylong_of_log2 h2));rw[Int.fdiv_eq_ediv_of_nonneg i (by omega),Int.fmod_eq_emod_of_nonneg i (by omega)];have hn:H s.heap.objs.size=none:=I.hok.fresh (R3 _);refine⟨.ref s.heap.objs.size,_,?_,rfl,q _ hn⟩;refine I.laid (λb o e=>RZ _ e) (R3 _) ⟨by simp only[SG,List.length_nil];rw[sizeLine_eq];decide,[.int (i / j) s.toks,.int (i % j) (s.toks+1)],.cons ⟨_,rfl⟩ (.cons ⟨_,rfl⟩ .nil),?_⟩;exact⟨_,R1 s.heap rfl,rfl,⟨0,rfl⟩,rfl⟩
end
def ez(H:Hp)(p:Addr):Prop:=∃a b:Int,H p=some (.lst [.int a,.int b])/\0<=a/\0<=b/\b<=2147483647
structure bf(p:Addr)(H H':Hp):Prop where
 keep:∀b o,b≠p->H b=some o->H' b=some o
 df:ez H' p
theorem bf.refl{p:Addr}{H:Hp}(h:ez H p):bf p H H:=⟨λ_ _ _ e=>e,h⟩
theorem bf.trans{p:Addr}{H H1 H2:Hp}(a:bf p H H1)(b:bf p H1 H2):bf p H H2:=⟨λc o n e=>b.keep c o n (a.keep c o n e),b.df⟩
theorem bf.same{p:Addr}{H H1:Hp}(h:ez H p)(s:aE H H1):bf p H H1:=⟨λc o _ e=>s c o e,let ⟨a,b,e,r⟩:=h;⟨a,b,s _ _ e,r⟩⟩
theorem ag{H:Hp}{p:Addr}(h:H p=none)(o:HO):aE H (upd H p o):=λb u q=>by rw[aH (aW q h)];exact q
theorem bf.new{p q:Addr}{H H1:Hp}{o:HO}(a:bf p H H1)(h:H1 q=none):bf p H (upd H1 q o):=a.trans (.same a.df (ag h o))
def CS(K:S7):Sp:=λvs H Q _=>∃(a:Addr)(ns:List Int)(k:Int),vs=[.ref a,.int k]/\bc K H a (ns.map V.int)/\0<=k/\∀n,Q (.int n) H
def Fx(K:S7):Sp:=λvs H Q _=>∃(a:Addr)(ns:List Int)(k:Int),vs=[.ref a,.int k]/\bc K H a (ns.map V.int)/\0<=k/\k<=1000/\∀p H',H p=none->aE H H'->ez H' p->Q (.ref p) H'
def gu:Sp:=λvs H Q _=>∃(p:Addr)(m:Int),vs=[.ref p,.int m]/\ez H p/\0<m/\m.natAbs.log2<9000/\∀d H',bf p H H'->0<=d->d<m->Q (.int d) H'
theorem IG{n:Nat}{i:Int}(h0:0<=i)(h1:i<n):Ey n i=some i.toNat:=by unfold Ey;rw[SM h0,SM h1]
theorem hU{xs:List V}{i:Int}(h0:0<=i)(h1:i<xs.length):∃v,vi xs i=some v/\xs[i.toNat]? = some v:=by
 have e:=IG h0 h1;have hj:i.toNat<xs.length:=by omega
 refine⟨xs[i.toNat],?_,by simp[hj]⟩;unfold vi;rw[e];show xs[i.toNat]? = _;simp[hj]
theorem bf.put{p D:Addr}{H H3 H4:Hp}{o:HO}(g3:bf p H H3)(hD:H3 D=none)(n:D≠p)(g4:bf p H H4):bf p H (upd H4 D o):=by
 refine⟨λb u nb e=>?_,?_⟩
 ·by_cases hb:b=D
  ·subst hb;exact SJ (g3.keep b u n e) (by rw[hD];simp)
  ·rw[aH hb];exact g4.keep b u nb e
 ·obtain⟨x,y,e,r⟩:=g4.df;exact⟨x,y,by rw[aH (Ne.symm n)];exact e,r⟩
theorem bf.ne{p D:Addr}{H H3:Hp}(g3:bf p H H3)(hD:H3 D=none):D≠p:=λe=>by subst e;obtain⟨_,_,z,_⟩:=g3.df;rw[z]at hD;cases hD
section
variable{X:Cx}{x:Str}{pos:Pos}{c:Addr}{n:String}{a b:Expr}{ta tb:TE}
theorem mP(hg:Gl X x)(hm:X.mg x=none)(hv:bootBuiltins x=some (.type n))(hn:x≠"__name__":=by decide)(hd:(x==("__debug__" : Str))=false:=by decide):PE X (.Name x pos) (tC (.ty n)):=DX hg hm hv (show RelV (.ty n) (.type n) from rfl) hn hd
end
end L2
namespace PySem
open Sem (wp)
section
variable{prog:Program}{w:World}{A:Around}{E:Value->Shared->Prop}{h:Heap}{g:Array GenState}{d:Drawn}{t:Nat}{os:OsState}
variable{nm q:Str}{C N:Addr}{bs bm bmB:List Value}{hdct:Bool}{sn:List Str}{sub:List Value}{ab:Bool}{col:Option Bool}{dd:Option Addr}{k0 k1 k2 k3 k5:Option Value}{B newId initId:String}
theorem ku(F:ExcBaseFacts B newId initId bmB)(T:OwnTail h bmB bm){mN:Str->Option Value}{rest:List Value}{fI:Addr}{oI:Obj}{Q:Fin->Shared->Prop}
  (hC:h.get? C=some (excClassObj nm q C N bs bm hdct sn sub ab col dd k0 k1 k2 k3 k5 newId)) (hn:h.Ns N mN) (hi:mN "__init__"=some (.ref fI))
  (hfI:h.get? fI=some oI) (hfc:oI.cls=.type "function")
  (hq:∀h' e,Heap.MadeExcOf h h' e (.ref C) rest->
   wpAny (model prog w) A (call (.ref fI) (.ref e::rest)) (λr s'=>r=.none/\Q (.done (.ret (.ref e))) s') E ⟨h',g,d,t,os⟩) (hrest:rest.length<=sizeLine:=by size_fits) :
  wpAny (model prog w) A (Builtin.«type.__call__» ⟨.ref C::rest,[]⟩) Q E ⟨h,g,d,t,os⟩:=by
 repeat (first|with_reducible refine wpAny_loadPart_at hC ?_|with_reducible refine wpAny_madeBy_exc hC ?_|wp_step)
 refine codeAny_call_builtin_code (Code.quiet_builtin _ F.quiet) (wpAny_check_new_subT F T hC ?_);refine codeAny_exc_new_subT F T hC ?_ hrest;show wpAny _ _ _ _ _ _;have hC₁:=RZ {cls:=.ref C,data:=.fields #[.ref h.objs.size,.none,.none,.none,.bool false,.none]}
  (RZ {cls:=.type "tuple",data:=.seq rest.toArray} hC)
 have hfI₁:=RZ {cls:=.ref C,data:=.fields #[.ref h.objs.size,.none,.none,.none,.bool false,.none]}
  (RZ {cls:=.type "tuple",data:=.seq rest.toArray} hfI)
 have hn₁:((h.push {cls:=.type "tuple",data:=.seq rest.toArray}).push {cls:=.ref C,data:=.fields #[.ref h.objs.size,.none,.none,.none,.bool false,.none]}).Ns N mN :=
  let ⟨o,es,ep,e,r⟩:=hn;⟨o,es,ep,RZ _ (RZ _ e),r⟩
 have hget:((h.push {cls:=.type "tuple",data:=.seq rest.toArray}).push
   {cls:=.ref C,data:=.fields #[.ref h.objs.size,.none,.none,.none,.bool false,.none]}).get? (h.objs.size+1)=some
   {cls:=.ref C,data:=.fields #[.ref h.objs.size,.none,.none,.none,.bool false,.none]}:=by heap_get
 have hcC:(Value.ref C::bm).contains (.ref C)=true:=by simp
 have T₁:=T.keeps (h':=(h.push {cls:=.type "tuple",data:=.seq rest.toArray}).push {cls:=.ref C,data:=.fields #[.ref h.objs.size,.none,.none,.none,.bool false,.none]})
  λb o e=>RZ _ (RZ _ e)
 unfold isInstance;repeat (first|with_reducible refine wpAny_loadPart_at hget ?_ | (with_reducible refine wpAny_isSubtype_exc hC₁ ?_;rw[hcC])|wp_step)
 show wpAny _ _ (typeLookup (.ref C) _) _ _ _;refine wpAny_typeLookup_tail hC₁ hn₁ T₁ F.mroIs F.init.lookup ?_;rw[hi];refine SA (RX ?_);unfold bindSpecial;refine RX (wpAny_typeOf (T:="function") ⟨_,hfI₁,hfc⟩ ?_);rw[SM (by decide)];refine RY (RX (Sz (hq _ (h.objs.size+1) ⟨λb o hb=>RZ _ (RZ _ hb),Heap.get?_none_of_le (Nat.le_succ _),h.objs.size,hget,Heap.get?_none_of_le (R3 _),?_⟩) (λr s' hr=>?_) λ_ _ x=>x))
 ·exact RZ _ (Heap.get?_push_at rfl rfl)
 ·obtain⟨rfl,hQ⟩:=hr
  wp_walk
  exact hQ
theorem oX(F:ExcBaseFacts B newId initId bmB)(T:OwnTail h bmB bm){mN:Str->Option Value}{rest:List Value}{fI:Addr}{oI:Obj}{Q:Value->Shared->Prop}
  (hC:h.get? C=some (excClassObj nm q C N bs bm hdct sn sub ab col dd k0 k1 k2 k3 k5 newId)) (hn:h.Ns N mN) (hi:mN "__init__"=some (.ref fI))
  (hfI:h.get? fI=some oI) (hfc:oI.cls=.type "function")
  (hq:∀h' e,Heap.MadeExcOf h h' e (.ref C) rest->
   wpAny (model prog w) (A.under (.builtin "type.__call__" ⟨.ref C::rest,[]⟩)) (call (.ref fI) (.ref e::rest)) (λr s'=>r=.none/\Q (.ref e) s') E ⟨h',g,d,t,os⟩) (hrest:rest.length<=sizeLine:=by size_fits) :
  wpAny (model prog w) A (call (.ref C) rest) Q E ⟨h,g,d,t,os⟩:=by
 have f1:=tc_lookup;have f2:=tc_bind (.ref C);have hT:(⟨h,g,d,t,os⟩ : Shared).TypeIs (.ref C) "type":=⟨_,hC,rfl⟩;refine wpAny_call (codeAny_of_tree ?_);show wpAny _ _ (callAny (.ref C) _) _ _ _;repeat (any_goals (first|assumption|with_reducible refine wpAny_loadPart_at hC ?_|wp_step))
 refine⟨rfl,?_⟩;refine codeAny_call_builtin_at (Code.quiet_builtin _ (by decide +kernel)) entry_typeCall (wpAny_check_type_call_sub hC (ku (hrest:=hrest) F T hC hn hi hfI hfc λh' e hm=>?_));exact hq h' e hm
end
end PySem
namespace L2
open PySem PySem.Spec PyProof.Rows
abbrev rq:List Value:=[.type "ValueError",.type "Exception",.type "BaseException",.type "object"]
abbrev xO(a C:Addr)(od:Option Addr):HO:=.ext λh=>∃fl sl,h.get? a=some {cls:=.ref C,dict:=od,data:=.fields fl,slots:=sl}
abbrev xD(d:Addr)(fs:List (Str×V)):HO:=.ext λh=>∃mA,h.Ns1 d mA/\∀f,i9 (fs.lookup f) (mA f)
section
variable{P:Program}{w:World}{H:Hp}{h h':Heap}{a C d:Addr}{od:Option Addr}{fs:List (Str×V)}{o:HO}
theorem CT{fl:Array Value}{sl:Array (Option Value)}(e:h.get? a=some {cls:=.ref C,dict:=od,data:=.fields fl,slots:=sl}):cf P w H h a (xO a C od) :=
 ⟨⟨fl,sl,e⟩,⟨_,e⟩,λ_ _ ⟨fl,sl,e⟩ k=>⟨fl,sl,k _ e⟩⟩
theorem Bg{mA:Str->Option Value}(n:h.Ns1 d mA)(r:∀f,i9 (fs.lookup f) (mA f)):cf P w H h d (xD d fs) :=
 ⟨⟨mA,n,r⟩,(let ⟨o,_,_,e,_⟩:=n;⟨o,e⟩),λ_ _ ⟨mA,⟨o,es,ep,e,rest⟩,r⟩ k=>⟨mA,⟨o,es,ep,k _ e,rest⟩,r⟩⟩
theorem cf.there(x:cf P w H h a o):∃u,h.get? a=some u:=by
 cases o with
 |lst xs=>obtain⟨_,_,_,_,e⟩:=x;exact⟨_,e⟩
 |tup xs=>obtain⟨_,_,_,p⟩:=x;obtain⟨o,e,_⟩:=p;exact⟨_,e⟩
 |dK kvs=>obtain⟨_,_,_,_,o,_,_,e,_⟩:=x;exact⟨_,e⟩
 |dT kvs=>obtain⟨_,_,_,_,o,_,_,e,_⟩:=x;exact⟨_,e⟩
 |set S n=>obtain⟨o,_,_,_,e,_⟩:=x;exact⟨_,e⟩
 |ins C dx fs=>obtain⟨_,_,_,e,_⟩:=x;exact⟨_,e⟩
 |own y=>obtain⟨_,e⟩:=x;exact⟨_,e⟩
 |xd fs=>obtain⟨_,⟨_,_,_,e,_⟩,_⟩:=x;exact⟨_,e⟩
 |y9 lo hi=>obtain⟨_,_,_,e⟩:=x;exact⟨_,e⟩
 |vV ob u=>obtain⟨e,_⟩:=x;exact⟨_,e⟩
 |FX ps=>exact⟨_,(show h.get? a=some _ from x)⟩
 |met f y=>exact⟨_,(show h.get? a=some _ from x)⟩
 |ext φ=>obtain⟨_,⟨_,e⟩,_⟩:=x;exact⟨_,e⟩
theorem jl.none_of(x:jl P w H h)(e:h.get? a=none):H a=none:=by
 cases q:H a with
 |none=>rfl
 |some u =>obtain⟨v,z⟩:=(x a u q).there;rw[e]at z;cases z
theorem jl.laidN(x:jl P w H h)(k:∀b u,h.get? b=some u->h'.get? b=some u)(hp:h.get? a=none)(new:cf P w (upd H a o) h' a o):jl P w (upd H a o) h':=λb u e=>by
 have hn:=x.none_of hp;by_cases hb:b=a
 ·subst hb;rw[ae]at e;cases e;exact new
 ·rw[aH hb]at e;exact(x b u e).stay (λc v _ q=>k c v q) (λc q=>by rw[aH (aW q hn)];exact q) λc xs q=>by rw[aH (aW q hn)];exact q
theorem Un.laidN{fs ex:List Addr}(k:∀b u,h.get? b=some u->h'.get? b=some u)(hp:h.get? a=none)(hn:H a=none):Un fs ex H (upd H a o) h h' where
 keep:=λb u q _ _ _=>k b u q
 slot:=λb u q _ _ _=>⟨u.slots,k b u q⟩
 free:=λb u q n _=>by rw[aH (λe=>by rw[e,hp]at q;cases q)];exact n
 there:=λb u q _=>⟨u,k b u q⟩
 tups:=λb xs q=>by rw[aH (aW q hn)];exact q
 p_:=λb u xs q=>by rw[aH (aW q hn)];exact q
 rz:=λb ps q=>⟨#[],by rw[aH (aW q hn),q];simp⟩
end
structure tM(K:S7)(C:Addr):Prop where
 cls:∃cd PE,PySem.W.clsIn K C=some cd/\cd.mro=.ref C :: .ref PE::rq/\cd.hasDict=true
 mo:PySem.W.mroIn K C (.type "object")=some true
 sa:PySem.W.findIn K (.ref C) "__setattr__"=some (some (.builtin "object.__setattr__"))
 ga:PySem.W.findIn K (.ref C) "__getattribute__"=some (some (.builtin "BaseException.__getattribute__"))
 gh:PySem.W.findIn K (.ref C) "__getattr__"=some none
 mb:PySem.W.mroIn K C (.type "BaseException")=some true
 ca:PySem.W.findIn K (.ref C) "__class__"=some (some (.builtin "object.__class__"))
 cg:PySem.W.specialIn K (.builtin "object.__class__") "__get__"=some (some (.builtin "getset_descriptor.__get__"))
 ct:PySem.W.takesIn K (.builtin "object.__class__")=some true
section
variable{prog:Program}{w:World}{A:Around}{E:Value->Shared->Prop}{R:Result->Shared->Prop}{s:Shared}{K:S7}{x C:Addr}{ox:Obj}{od:Option Obj}{name:Str}{tk:Tok}{v:Value}
theorem qF(c:tM K C)(X:K.In s.heap)(I:PySem.W.InstAt s.heap x ox C od)(ht:PySem.W.findIn K (.ref C) name=some none)
  (h:∀b,wpAny (model prog w) A.in1 (Builtin.ObjectAttr.storeInOwnDict (.ref x) (.ref C) (.str name tk) name v b)
   (λfin s'=>match fin with | .done f=>R (.ok f) s' | .again c'=>c'.quiet=true/\codeAny (model prog w) A c' R s') (λe s'=>R (.error e) s') s) :
  codeAny (model prog w) A (.call (.builtin "object.__setattr__") ⟨[.ref x,.str name tk,v],[]⟩) R s:=by
 have SF:=PySem.F.store_object;obtain⟨cd,PE,hc,hmro,_⟩:=c.cls;have sub:PySem.W.Looks (model prog w) s.heap (isInstance (.ref x) (.type "object")) true:=I.type.andThen (PySem.W.looks_mroIn X c.mo);refine codeAny_call_builtin SF.slot.plain SF.entry (@PySem.W.check_slot (model prog w) _ _ s "object.__setattr__" "object" "__setattr__" (.ref x) [.str name tk,v] [] _ SF.kind SF.split sub (SF.args (.ref x) (.str name tk) v) ?_);have hm:PySem.W.Looks (model prog w) s.heap (mroOf (.ref C)) cd.mro:=(PySem.W.looks_clsIn X hc).andThen .now;have L3:PySem.W.Looks (model prog w) s.heap (Builtin.ObjectAttr.storeTaker? none) none:=.now;rw[PySem.W.osa_eq,refuse_eq];refine RX (RX (I.type.here (RX (hm.here ?_))));rw[hmro,refuseLoop_ref,refuseLoop_ref,PySem.F.store_ValueError.passes];refine RY (RX (I.type.here (RX ((PySem.W.looks_findIn X ht).here (RX (L3.here ?_))))));exact h _
end
section
variable{X:Cx}{ac:List (Addr×Obj)}{σ:St}{H:Hp}{s:Shared}{a C dx:Addr}{fs:List (Str×V)}{f:Str}{v y:V}{u:Value}{A:Around}{E:Value->Shared->Prop}
theorem qL{mA:Str->Option Value}(r:∀f,i9 (fs.lookup f) (mA f)):PySem.Within mA (fs.map (·.1)):=by
 intro g hg;have rg:=r g;cases e:fs.lookup g with
 |none=>rw[e]at rg;exact SJ (i9.none_of rg) hg
 |some z =>
  clear rg r hg;induction fs with
  |nil=>cases e
  |cons p t ih =>
   obtain⟨k,w⟩:=p;rw[S1]at e;cases hk:g==k with
   |true =>
    have:g=k:=by simpa using hk
    subst this;exact SE
   |false=>rw[hk]at e;exact Sg _ (ih e)
end
def iQ(K:S7)(C:Addr)(bmB:List Value)(newId:String)(ini:Option Value):Bool:=match K.lookup C with
 |some o=>o.cls == .type "type"&&(match o.data with
  | .cls cd=>cd.mro.head? == some (.ref C)&&o.slots.size==6&&o.slots[4]? == some (some (.builtin newId)) && !cd.hasDel&&PySem.W.tailIn K bmB cd.mro.tail&&PySem.W.nsOkIn K cd.ns&&PySem.W.nsIn K cd.ns "__init__"==some ini
  |_=>false)
 |none=>false
theorem zj{α:Type}{l:List α}{n:Nat}(h:l.length=n+1):∃a m,l=a::m/\m.length=n:=by
 cases l with
 |nil=>cases h
 |cons a m=>exact⟨a,m,rfl,Nat.succ.inj h⟩
theorem Ls{K:S7}{h:Heap}{N:Addr}{mg:Str->Option Value}{n:Str}{r:Option Value}(X:K.In h)(G:h.Ns N mg)(e:PySem.W.nsIn K N n=some r):mg n=r:=by
 cases r with
 |none=>exact PySem.W.ns_none_of X G e
 |some v =>
  obtain⟨o,es,ep,ho,hd,_,hf⟩:=G;unfold PySem.W.nsIn at e;split at e
  ·rename_i c d es' n' sl q;have:=X _ _ q;rw[ho]at this;cases this;cases hd;split at e
   ·rename_i en he;cases e;rw[←hf];unfold nsFind findBy;rw[←Array.find?_toList,he];rfl
   ·split at e<;>cases e
  ·cases e
theorem mG{K:S7}{h:Heap}{C:Addr}{bmB:List Value}{newId:String}{ini:Option Value}(X:K.In h)(q:iQ K C bmB newId ini=true) :
  ∃bm N nm q bs hdct sn sub ab col dd k0 k1 k2 k3 k5 mN,h.get? C=some (excClassObj nm q C N bs bm hdct sn sub ab col dd k0 k1 k2 k3 k5 newId)/\h.Ns N mN/\mN "__init__"=ini/\OwnTail h bmB bm:=by
 unfold iQ at q;cases ho:K.lookup C with
 |none=>rw[ho]at q;cases q
 |some o =>
  rw[ho]at q;obtain⟨cl,dd,dat,sl⟩:=o;cases dat with
  |cls cd =>
   simp only[SH,beq_iff_eq,Bool.not_eq_true']at q;obtain⟨rfl,⟨⟨⟨⟨⟨hm,hz⟩,hs⟩,hdel⟩,ht⟩,hok⟩,hni⟩:=q;obtain⟨nm,bs,mro,ns,qn,hd,sn,sub,ab,col,del⟩:=cd;dsimp only at hm hdel hok hni ht;subst hdel;obtain⟨l⟩:=sl;obtain⟨k0,l,rfl,z0⟩:=zj (show l.length=5+1 from hz);obtain⟨k1,l,rfl,z1⟩:=zj (n:=4) z0;obtain⟨k2,l,rfl,z2⟩:=zj (n:=3) z1;obtain⟨k3,l,rfl,z3⟩:=zj (n:=2) z2;obtain⟨k4,l,rfl,z4⟩:=zj (n:=1) z3;obtain⟨k5,l,rfl,z5⟩:=zj (n:=0) z4;cases List.length_eq_zero_iff.mp z5;cases(show some k4=_ from hs);cases mro with
   |nil=>cases hm
   |cons c bm =>cases hm;exact⟨bm,ns,nm,qn,bs,hd,sn,sub,ab,col,dd,k0,k1,k2,k3,k5,_,X _ _ ho,.of_isNs (PySem.W.isNs_of_in X hok),Ls X (.of_isNs (PySem.W.isNs_of_in X hok)) hni,PySem.W.tail_of_in X ht⟩
  |_=>exact SJ ((SH _ _).mp q).2 Sh
section
variable{X:Cx}{CX:qm}{k:Nat}{f C:Addr}{fd:FuncData}{ps:List Str}{sp:Sp}{E:XK}{x:Str}{p pos:Pos}{e:Expr}{es:List Expr}{t:TA}
theorem Inv.Nu{ac:List (Addr×Obj)}{σ:St}{H:Hp}{s:Shared}{h':Heap}{a:Addr}{rest:List Value}(I:Inv X ac σ H s)(m:Heap.MadeExcOf s.heap h' a (.ref C) rest):H a=none/\Inv X ac σ (upd H a (xO a C none)) {s with heap:=h'}:=by obtain⟨t,et,_,_⟩:=m.there;have hn:=I.hok.none_of m.new;exact⟨hn,I.un (t':=s.toks) (Un.laidN m.keeps m.new hn) (I.hok.laidN m.keeps m.new (CT et))⟩
end
theorem BF{H:Hp}{a:Addr}{o:HO}(h:H a=some o):upd H a o=H:=by
 funext b;unfold upd;by_cases e:b=a
 ·rw[SM e,e,h]
 ·rw[SK e]
structure Top(X:Cx)(L:Addr):Prop where
 ex:∃e0 r,X.stack=e0::r/\e0.frame=some L
 fr:X.env.frame=some L
structure Gy(X:Cx)(H:Hp)(h:Heap)(T:Addr):Prop where
 free:H T=none
 new:X.s₀.heap.objs.size<=T
 pn:∀p∈X.pn,p.1≠T
 obj:∃oT ts,h.get? T=some oT/\oT.data=.fields ts/\3<ts.size
structure Md(X:Cx)(H:Hp)(h:Heap)(e C:Addr)(od:Option Addr):Prop where
 at_:H e=some (xO e C od)
 obj:∃vs sl,h.get? e=some {cls:=.ref C,dict:=od,data:=.fields vs,slots:=sl}/\(vs[1]? = some .none\/∃T,vs[1]? = some (.ref T)/\Gy X H h T)
structure oR(X:Cx)(H:Hp)(h:Heap)(e C:Addr)(od:Option Addr)(T:Addr):Prop where
 at_:H e=some (xO e C od)
 obj:∃vs sl,h.get? e=some {cls:=.ref C,dict:=od,data:=.fields vs,slots:=sl}/\vs[1]? = some (.ref T)
 tb:Gy X H h T
section
variable{X:Cx}{ac:List (Addr×Obj)}{σ:St}{H:Hp}{s:Shared}{e C T L:Addr}{od:Option Addr}
theorem oR.Ox{h:Heap}(f:oR X H h e C od T):Md X H h e C od:=⟨f.at_,let ⟨vs,sl,h1,h2⟩:=f.obj;⟨vs,sl,h1,.inr ⟨T,h2,f.tb⟩⟩⟩
theorem Inv.MG(I:Inv X [] σ H s)(t:Gy X H s.heap T):T≠X.env.locals/\(∀x c,X.env.cells.lookup x=some c->c≠T)/\∀p∈X.pn++[],p.1≠T:=by
 obtain⟨oT,ts,h1,h2,_⟩:=t.obj;refine⟨λz=>?_,λx c hc z=>?_,λp hp=>t.pn p (by simpa using hp)⟩
 ·obtain⟨m,⟨o',es,ep,ho',hd',_⟩,_⟩:=I.loc;rw[←z,h1]at ho';cases ho';rw[hd']at h2;cases h2
 ·obtain⟨v,o,ho,hd⟩:=I.cell x c hc;rw[z,h1]at ho;cases ho;rw[hd]at h2;cases h2
theorem Inv.mark(I:Inv X [] σ H s)(f:oR X H s.heap e C od T)(x:Value) :
  Inv X [] σ H {s with heap:=s.heap.update T (Obj.mapFields (·.setIfInBounds 3 x))}/\oR X H (s.heap.update T (Obj.mapFields (·.setIfInBounds 3 x))) e C od T:=by
 obtain⟨n1,n2,n3⟩:=I.MG f.tb;obtain⟨oT,ts,h1,h2,h3⟩:=f.tb.obj;have keep:∀b o,b≠T->s.heap.get? b=some o->(s.heap.update T (Obj.mapFields (·.setIfInBounds 3 x))).get? b=some o:=λb o hb q=>(Heap.get?_update_other _ _ (Ne.symm hb)).trans q;have neT:e≠T:=λz=>by have:=f.at_;rw[z,f.tb.free]at this;cases this
 obtain⟨vs,sl,g1,g2⟩:=f.obj;have hd':=Obj.data_mapFields h2 (·.setIfInBounds 3 x);refine⟨I.turned (t':=s.toks) (it:=T) keep f.tb.free n1 (.inr f.tb.new) n2 n3,f.at_,⟨vs,sl,keep _ _ neT g1,g2⟩,f.tb.free,f.tb.new,f.tb.pn,_,_,Heap.get?_update_self _ h1 (Obj.isFreed_of_fields hd'),hd',by simpa using h3⟩
theorem ml{M:Model}{A:Around}{E:Value->Shared->Prop}{Q:Unit->Shared->Prop}(I:Inv X [] σ H s)(f:oR X H s.heap e C od T)(fr:Option Addr)
  (q:∀s',Inv X [] σ H s'->oR X H s'.heap e C od T->Q () s'):wpAny M A (setFlight (.ref e) fr) Q E s:=by
 obtain⟨vs,sl,g1,g2⟩:=f.obj;obtain⟨oT,ts,h1,h2,h3⟩:=f.tb.obj;unfold setFlight;refine RX (wpAny_field g1 rfl g2 ?_);have ne:(Value.ref T != Value.none)=true:=by simp
 rw[SM ne];have z:=I.mark f (fr.elim .none λf=>rawInt f);exact wpAny_setField h1 h2 h3 (q _ z.1 z.2)
theorem AS{M:Model}{A:Around}{E:Value->Shared->Prop}{Q:Value->Shared->Prop}{env':Env}(hA:A.frames=some X.stack)(tp:Top X L)(hf:env'.frame=some L)(I:Inv X [] σ H s)
  (q:∀h',Inv X [] σ H {s with heap:=h'}->Heap.SlotsOnly (frs X.stack) s.heap h'->Q (.ref L) {s with heap:=h'}):wpAny M A (PySem.frameOf env') Q E s:=by
 obtain⟨e0,r,hst,h0⟩:=tp.ex;have hl:=I.stack;rw[hst]at hA hl;have dw:((e0::r).dropWhile λx=>x.frame != env'.frame)=e0::r:=by rw[hf];simp[List.dropWhile,h0]
 unfold PySem.frameOf;refine RX (wpAny_frameEnvs hA ?_);rw[dw];unfold frameObject;refine RX (RX (wpAny_readyFrames_fun hl λh1 hs1=>RY ?_));rw[h0];have e1:(e0::r).filterMap (·.frame)=frs X.stack:=by rw[hst];rfl
 rw[e1]at hs1;refine RY (q h1 ?_ hs1);refine I.call (g':=s.gens) (t':=s.toks) (d':=s.drawn) (ch:=[]) ⟨λb o hb _ hf _=>(hs1.2.1 b hf).trans hb,λb o hb _ _ _=>hs1.2.2 b o hb,λ_ _ _ n _=>n,λb o hb _=>let ⟨sl,z⟩:=hs1.2.2 b o hb;⟨_,z⟩,λ_ _ z=>z,λ_ _ _ z=>z,λb ps z=>⟨#[],by rw[z];simp⟩⟩ (λb u hb=>?_) I.bare λb hb=>SJ hb (by simp);have nf:∀c v,H c=some v->c∉frs X.stack:=λc v hc hm=>by rw[I.n8 c hm]at hc;cases hc
 refine(I.hok b u hb).stay (λc v hc z=>(hs1.2.1 c ?_).trans z) (λ_ z=>z) λ_ _ z=>z;rcases hc with rfl|hc
 ·exact nf c u hb
 ·exact nf c _ hc
theorem tD{M:Model}{A:Around}{E:Value->Shared->Prop}{Q:Unit->Shared->Prop}{env':Env}{head:Value}{hadNext:Bool}{vs:Array Value}{sl:Array (Option Value)}(hA:A.frames=some X.stack)(tp:Top X L)(hf:env'.frame=some L)(I:Inv X [] σ H s)
  (at_:H e=some (xO e C od)) (ho:s.heap.get? e=some {cls:=.ref C,dict:=od,data:=.fields vs,slots:=sl}) (h1:1<vs.size)
  (q:∀s' T,Inv X [] σ H s'->oR X H s'.heap e C od T->Q () s') :
  wpAny M A (do let a←PySem.frameOf env';let pl←entryPlaceOf L hadNext;let b←EntryCells.newEntry head a .none (rawInt L) .none pl;setField (.ref e) 1 b) Q E s:=by
 refine RX (AS hA tp hf I λh2 I2 hs2=>?_);refine RX (wpAny_entryPlaceOf λpl hpl=>?_);unfold EntryCells.newEntry newFields;refine RX (SD ?_ (hpl.sizeOk5 _ _ _ _ _));have ne:e∉frs X.stack:=λhm=>by rw[I.n8 e hm]at at_;cases at_
 have ho2:h2.get? e=some {cls:=.ref C,dict:=od,data:=.fields vs,slots:=sl}:=(hs2.2.1 e ne).trans ho;generalize hTb:({cls:=.type "traceback",data:=.fields ([head,.ref L,.none,rawInt L,.none]++(if pl.isEmpty then List.replicate 6 Value.none else pl)).toArray}:Obj)=tb;have hTd:tb.data=.fields ([head,.ref L,.none,rawInt L,.none]++(if pl.isEmpty then List.replicate 6 Value.none else pl)).toArray:=by rw[←hTb]
 have hnf:tb.isFreed=false:=by rw[←hTb];rfl
 have I3:Inv X [] σ H {s with heap:=h2.push tb}:=I2.kept (t':=s.toks) λb o z=>RZ _ z;have Om:(h2.push tb).get? e=some {cls:=.ref C,dict:=od,data:=.fields vs,slots:=sl}:=RZ _ ho2;have LL:(h2.push tb).get? h2.objs.size=some tb:=R1 _ hnf;have Mv:H h2.objs.size=none:=I2.hok.fresh (R3 _);have neT:h2.objs.size≠e:=λz=>by rw[z]at Mv;rw[Mv]at at_;cases at_
 have Rm:∀p∈X.pn,p.1≠h2.objs.size:=λp hp z=>by have:=(I2.pin p (List.mem_append_left _ hp)).1;exact SJ (R0 this) (by rw[z];exact Nat.lt_irrefl _)
 refine wpAny_setField Om rfl h1 ?_;have N0:(Obj.mapFields (·.setIfInBounds 1 (Value.ref h2.objs.size)) {cls:=.ref C,dict:=od,data:=.fields vs,slots:=sl}) ={cls:=.ref C,dict:=od,data:=.fields (vs.setIfInBounds 1 (Value.ref h2.objs.size)),slots:=sl}:=rfl;have LW:=Heap.get?_update_self (Obj.mapFields (·.setIfInBounds 1 (Value.ref h2.objs.size))) Om (by rw[N0];rfl);rw[N0]at LW;have F4:∀b o,b≠e->(h2.push tb).get? b=some o->((h2.push tb).update e (Obj.mapFields (·.setIfInBounds 1 (Value.ref h2.objs.size)))).get? b=some o:=λb o hb z=>(Heap.get?_update_other _ _ (Ne.symm hb)).trans z;have I4:=I3.write (h':=(h2.push tb).update e (Obj.mapFields (·.setIfInBounds 1 (Value.ref h2.objs.size)))) (t':=s.toks) (x:=e) (e:=e) (o:=xO e C od) (by rw[at_];trivial) (.inl rfl) F4 ⟨_,LW⟩ (CT LW);rw[BF at_]at I4;refine q _ h2.objs.size I4 ⟨at_,⟨_,sl,LW,by simp[h1]⟩,Mv,R4 I2.sz (R3 _),Rm,tb,_,F4 _ _ neT LL,hTd,?_⟩;simp only[Si,R8,SG,List.length_nil];omega
theorem rD{M:Model}{A:Around}{E:Value->Shared->Prop}{Q:Unit->Shared->Prop}{env':Env}(hA:A.frames=some X.stack)(tp:Top X L)(hf:env'.frame=some L)(I:Inv X [] σ H s)(f:Md X H s.heap e C od)
  (q:∀s' T,Inv X [] σ H s'->oR X H s'.heap e C od T->Q () s'):wpAny M A (noteFrame (.ref e) env') Q E s:=by
 obtain⟨vs,sl,ho,alt⟩:=f.obj;unfold noteFrame;simp only[hf];rcases alt with h1|⟨T,h1,tb⟩
 ·refine RX (wpAny_field ho rfl h1 ?_);rw[SK (by decide)];exact tD hA tp hf I f.at_ ho (Array.getElem?_eq_some_iff.mp h1).1 q
 ·have fT:oR X H s.heap e C od T:=⟨f.at_,⟨vs,sl,ho,h1⟩,tb⟩;obtain⟨oT,ts,hT,hdT,h3⟩:=tb.obj;refine RX (wpAny_field ho rfl h1 ?_);have ne:(Value.ref T != Value.none)=true:=by simp
  rw[SM ne];refine RX (wpAny_field hT hdT (Sy h3) ?_);by_cases hm:(ts[3]==rawInt L)=true
  ·rw[SM hm];exact RY (q s T I fT)
  ·rw[SK hm];have z:=I.mark fT .none;refine RX (wpAny_setField hT hdT h3 ?_);obtain⟨vs',sl',ho',h1'⟩:=z.2.obj;exact tD hA tp hf z.1 f.at_ ho' (Array.getElem?_eq_some_iff.mp h1').1 q
end
def XE(X:Cx)(E:XK):Value->Shared->Prop:=λev s'=>∃e C od σ' H',ev=.ref e/\Inv X [] σ' H' s'/\Md X H' s'.heap e C od/\E (.ref C) (some e) H'
abbrev Cx.xs(X:Cx)(E:XK):Cx:=X.wish (XE X E)
def vf(P:Program)(w:World):qm:=λouter H s E ev s'=>∃e C od H',ev=.ref e/\s'.os=s.os/\AllBare s'.gens/\Un (frs outer) [] H H' s.heap s'.heap/\jl P w H' s'.heap/\E (.ref C) (some e) H'/\H' e=some (xO e C od)/\
 ∃vs sl T oT ts,s'.heap.get? e=some {cls:=.ref C,dict:=od,data:=.fields vs,slots:=sl}/\vs[1]? = some (.ref T)/\H' T=none/\s.heap.objs.size<=T/\s'.heap.get? T=some oT/\oT.data=.fields ts/\3<ts.size
theorem K0{P:Program}{w:World}{X:Cx}:Passes (vf P w) X E0:=λ_ _ _ _ _ _ _ h=>by obtain⟨_,_,_,_,_,_,_,_,_,f,_⟩:=h;exact f.elim
theorem xM{X:Cx}{E:XK}:Passes (vf X.prog X.w) (X.xs E) E:=by intro ac σ H s ev s' I h;obtain⟨e,C,od,H',rfl,os,bare,un,hok,hE,at_,vs,sl,T,oT,ts,ho,h1,hT,hn,hoT,hd,h3⟩:=h;have I':Inv (X.xs E) ac σ H' s':=I.call' (ch:=[]) os un hok bare λb z=>SJ z (by simp);have I2:Inv X [] σ H' s':=(I'.gQ (pins':=[]) λp hp=>SJ hp (by simp)).dq;refine⟨e,C,od,σ,H',rfl,I2,⟨at_,vs,sl,ho,.inr ⟨T,h1,hT,R4 I.sz hn,λp hp z=>?_,oT,ts,hoT,hd,h3⟩⟩,hE⟩;have:=(I.pin p (List.mem_append_left _ hp)).1;exact SJ (Sb (R0 this) hn) (by rw[z];exact Nat.lt_irrefl _)
theorem v_{X:Cx}{E:XK}{L:Addr}(tp:Top X L):PassesOwn (model X.prog X.w) X.A X.env (XE X E):=by
 intro ev s' h;obtain⟨e,C,od,σ,H,rfl,I,f,hE⟩:=h;refine rD I.ok.frames tp tp.fr I f λs2 T I2 f2=>?_;obtain⟨vs,sl,g1,g2⟩:=f2.obj;show wpAny _ _ (field (.ref e) 1 >>= _) _ _ s2;refine RX (wpAny_field g1 rfl g2 ?_);have ne:¬((Value.ref T==Value.none)=true):=by simp
 rw[SK ne];have fin:=ml (M:=model X.prog X.w) (A:=X.A) (E:=XE X E) (Q:=λ_ s3=>XE X E (.ref e) s3) I2 f2 X.env.frame λs3 I3 f3=>⟨e,C,od,σ,H,rfl,I3,f3.Ox,hE⟩;first
  |exact fin
  |exact RX (RY fin)
theorem C4{X:Cx}{E:XK}{L:Addr}{ev:Value}{s':Shared}{Q:Unit->Shared->Prop}{E2:Value->Shared->Prop}(tp:Top X L)(h:XE X E ev s')(q:∀e C od σ H s2 T,ev=.ref e->Inv X [] σ H s2->oR X H s2.heap e C od T->E (.ref C) (some e) H->Q () s2) :
  wpAny (model X.prog X.w) X.A (leaving X.env ev) Q E2 s':=by
 obtain⟨e,C,od,σ,H,rfl,I,f,hE⟩:=h;unfold leaving;exact RX (rD I.ok.frames tp tp.fr I f λs2 T I2 f2=>ml I2 f2 none λs3 I3 f3=>q e C od σ H s3 T rfl I3 f3 hE)
section
variable{P:Program}{w:World}{K:S7}{mg:Str->Option Value}{base:Heap}
theorem pD{CX:qm}{N:List Str}{qual:Str}{sc:Scope}{f:Addr}{cd:Value}{A:Around}{outer:List Env}{s:Shared}{H:Hp}{E:XK}:Top (qj CX P w K mg base N qual sc f cd A outer s H E) s.heap.objs.size:=⟨⟨_,_,rfl,rfl⟩,rfl⟩
theorem Ae.Iq{x qual:Str}{st:Stmt}{f:Addr}{fd:FuncData}{N ps:List Str}{k:Nat}{sp:Sp}(F:Ae K x qual st f fd)(S:au N ps (ao st))(len:∀vs H Q E,sp vs H Q E->vs.length=ps.length)
  (hbody:∀(cdv:Value)(A:Around)(outer:List Env)(s:Shared)(H:Hp)(vs:List V)(Q:VK)(E:XK),eW k (A.deeper (envOfC qual (ao st) s.heap.objs.size f cdv))->sp vs H Q E->
   ∃t,qU ((qj (vf P w) P w K mg base N qual (ao st) f cdv A outer s H E).xs E) (cO st) t/\t {nx:=λ_ H'=>Q .non H',rt:=Q} (start N vs) H):e8 P w K mg base (vf P w) (k+1) f fd ps sp:=by
 obtain⟨oc,od,kV,doc,pm,an,cdv,ct,osl,rfl,lk,hcd⟩:=F.ex;refine F_ lk hcd S len λA outer s H vs Q E hr hsp=>?_;obtain⟨t,h,q⟩:=hbody cdv A outer s H vs Q E hr hsp;refine⟨t,λac s1 σ H1 D I hw=>?_,q⟩;refine Sz (h ac s1 σ H1 D (I.wish _) hw) (λ_ _ z=>z.dq) λev s2 hx=>?_;refine C4 pD hx λe C od cR H2 s3 T ee I3 f3 hE=>?_;subst ee;obtain⟨Qn,Qv,g1,g2⟩:=f3.obj;obtain⟨oT,ts,t1,t2,t3⟩:=f3.tb.obj;exact⟨e,C,od,H2,rfl,I3.os,I3.bare,I3.base,I3.hok,hE,f3.at_,Qn,Qv,T,oT,ts,g1,g2,f3.tb.free,f3.tb.new,t1,t2,t3⟩
end
def Ie(C:Addr)(E:XK)(t:TA):TS:=λ_ σ H=>t σ H λvs H1=>vs.length<=sizeLine/\∀a,H1 a=none->E (.ref C) (some a) (upd H1 a (xO a C none))
theorem Al{X:Cx}{E:XK}{C:Addr}{x:Str}{np cpos pos:Pos}{e:Expr}{es:List Expr}{t:TA}(hc:X.calm=true)(hx:iQ X.K C rq "ValueError.__new__" none=true)(hg:Gl (X.xs E) x)(hm:X.mg x=some (.ref C))(ha:PA (X.xs E) (e::es) t)
  (hdb:(x==("__debug__" : Str))=false:=by decide) (he:starEach (e::es) X.env=(false,eval e X.env)::starEach es X.env:=by rfl) (hpl:(backTo cpos (starEach es X.env)).any (·.1)=false:=by rfl) :
  PS (X.xs E) (.Raise (some (.Call (.Name x np) (e::es) [] cpos)) none pos) (Ie C E t):=by
 intro ac s σ H D I h;obtain⟨bm,N,nm,q',bs,hd,sn,sub,ab,col,dd,k0,k1,k2,k3,k5,mN,hC,hN,hni,T⟩:=mG I.ok.mod.Ho hx;have hall:(backTo cpos (starEach (e::es) X.env)).any (·.1)=false:=by rw[he];show(false||(backTo cpos (starEach es X.env)).any (·.1))=false;rw[hpl];rfl
 refine wpAny_Raise_call_subT (C:=C) (nm:=nm) (q:=q') (N:=N) (bs:=bs) (bm:=bm) (hdct:=hd) (sn:=sn) (sub:=sub) (ab:=ab) (col:=col) (dd:=dd) (k0:=k0) (k1:=k1) (k2:=k2) (k3:=k3) (k5:=k5)
  PySem.F.excBase_ValueError (mN:=mN) (T.hasType PySem.F.excBase_ValueError.hasBase) (I.ok.hd hc) hall hni (n9 I hg hm ⟨rfl,?_⟩ hdb)
 have hA:=ha cpos ac s σ H _ I h;rw[show starEach (e::es) (X.xs E).env=(false,eval e X.env)::starEach es X.env from he]at hA;rw[show starEach (e::es) (X.xs E).env=(false,eval e X.env)::starEach es X.env from he];refine Calls.evalArgs_plain (bO hA λus s1 zz=>?_);obtain⟨vs,H1,I1,r,hz,q⟩:=zz;refine⟨rfl,by show us.length<=sizeLine;rw[←r.length];exact hz,I1.bk _ _ hC,hN.keeps I1.bk,T.keeps I1.bk,λh' a m=>?_⟩;obtain⟨tt,et,_,_⟩:=m.there;obtain⟨hn,I2⟩:=I1.Nu m;have I3:=(I2.gQ (pins':=[]) λp hp=>SJ hp (by simp)).dq;exact⟨a,C,none,σ,upd H1 a (xO a C none),rfl,I3,⟨ae,_,_,et,.inl rfl⟩,q a hn⟩
end L2
namespace L2
open PySem PyProof.Rows
theorem fs{N P:List Str}{sc:Scope}(h1:sc.kind=.function:=by rfl)(h2:sc.isCoroutine=false:=by rfl)(h3:sc.isGenerator=false:=by rfl)(h4:N.Nodup:=by decide +kernel)(h5:N.take P.length=P:=by rfl)
  (h6:∀x∈P,sc.names.lookup x=some .local\/sc.names.lookup x=some .cell:=by decide +kernel) (h7:∀y∈sc.names,y.2≠ .free:=by decide +kernel):au N P sc:=⟨h1,h2,h3,h4,h5,h6,h7⟩
theorem lenS{P:List Value->Prop}{n:Nat}(h:∀a,∀l:List Value,l.length=n->P (a::l)):∀us:List Value,us.length=n+1->P us:=by
 intro us hl;cases us with
 |nil=>cases hl
 |cons a l=>exact h a l (Nat.succ.inj hl)
theorem len0{P:List Value->Prop}(h:P []):∀us:List Value,us.length=0->P us:=by
 intro us hl;cases us with
 |nil=>exact h
 |cons a l=>cases hl
theorem HC{P:List Value->Prop}(h:∀a0,P [a0]):∀us:List Value,us.length=1->P us:=lenS λa=>len0 (P:=λl=>P (a::l)) (h a)
theorem Jd{P:List Value->Prop}(h:∀a0 a1,P [a0,a1]):∀us:List Value,us.length=2->P us:=lenS λa=>HC (P:=λl=>P (a::l)) (h a)
theorem Em{P:List Value->Prop}(h:∀a0 a1 a2,P [a0,a1,a2]):∀us:List Value,us.length=3->P us:=lenS λa=>Jd (P:=λl=>P (a::l)) (h a)
theorem He{P:List Value->Prop}(h:∀a0 a1 a2 a3,P [a0,a1,a2,a3]):∀us:List Value,us.length=4->P us:=lenS λa=>Em (P:=λl=>P (a::l)) (h a)
theorem IJ{P:List Value->Prop}(h:∀a0 a1 a2 a3 a4,P [a0,a1,a2,a3,a4]):∀us:List Value,us.length=5->P us:=lenS λa=>He (P:=λl=>P (a::l)) (h a)
structure FA(K:S7)(mg:Str->Option Value)(x:Str)(st:Stmt):Prop where
 ex:∃f fd,Ae K x x st f fd/\mg x=some (.ref f)
structure bB(CX:qm)(P:Program)(w:World)(K:S7)(mg:Str->Option Value)(base:Heap)(k:Nat)(x:Str)(ps:List Str)(sp:Sp):Prop where
 ex:∃f fd,e8 P w K mg base CX k f fd ps sp/\Binds K fd ps []/\PySem.W.keepIn K (.ref f)=true/\mg x=some (.ref f)
def FnAt(P:Program)(w:World)(K:S7)(mg:Str->Option Value)(base:Heap)(k:Nat)(f:Addr)(ps:List Str)(sp:Sp):Prop :=
 ∃fd,e8 P w K mg base bE k f fd ps sp/\Binds K fd ps []/\PySem.W.keepIn K (.ref f)=true
section
variable{CX:qm}{P:Program}{w:World}{K:S7}{mg:Str->Option Value}{base:Heap}{x:Str}{st:Stmt}{ps N:List Str}{sp:Sp}{j k:Nat}
theorem bB.m(G:bB CX P w K mg base j x ps sp)(h:j<=k:=by decide):bB CX P w K mg base k x ps sp:=by obtain⟨f,fd,h1,h2⟩:=G.ex;exact⟨f,fd,h1.mono h,h2⟩
theorem bB.at{f:Addr}(G:bB bE P w K mg base k x ps sp)(h:mg x=some (.ref f)):FnAt P w K mg base k f ps sp:=by obtain⟨g,fd,h1,h2,h3,h4⟩:=G.ex;cases h4.symm.trans h;exact⟨fd,h1,h2,h3⟩
theorem FA.cal(F:FA K mg x st)(ok:∀f fd,Ae K x x st f fd->e8 P w K mg base CX k f fd ps sp)
  (hb:∀(kV doc pm:Value)(an:Option Addr)(cdv ct:Value)(us:List Value),us.length=ps.length->bindArgs (PySem.W.fnOf x x (dZ st) (cO st) (ao st) .none kV doc pm an cdv ct) ⟨us,[]⟩=pure (ps.zip us):=by first
   | (intro _ _ _ _ _ _;refine L2.HC ?_;intro _;rfl)
   | (intro _ _ _ _ _ _;refine L2.Jd ?_;intro _ _;rfl)
   | (intro _ _ _ _ _ _;refine L2.Em ?_;intro _ _ _;rfl)
   | (intro _ _ _ _ _ _;refine L2.He ?_;intro _ _ _ _;rfl)
   | (intro _ _ _ _ _ _;refine L2.IJ ?_;intro _ _ _ _ _;rfl)):bB CX P w K mg base k x ps sp:=by
 obtain⟨f,fd,h1,h2⟩:=F.ex;exact⟨f,fd,ok f fd h1,h1.binds hb,h1.kp,h2⟩
theorem FA.ok(F:FA K mg x st)(S:au N ps (ao st))
  (hbody:∀(f:Addr)(cdv:Value)(A:Around)(outer:List Env)(s:Shared)(H:Hp)(vs:List V)(Q:VK)(E:XK),eW k (A.deeper (envOfC x (ao st) s.heap.objs.size f cdv))->sp vs H Q E->
   ∃t,qU (qj bE P w K mg base N x (ao st) f cdv A outer s H E).yi (cO st) t/\t {nx:=λ_ H'=>Q .non H',rt:=Q} (start N vs) H)
  (len:∀vs H Q E,sp vs H Q E->vs.length=ps.length:=by
   intro vs H Q E h;first
   |exact SS h
   | (obtain⟨_,rfl,_⟩:=h;rfl)
   | (obtain⟨_,_,rfl,_⟩:=h;rfl)
   | (obtain⟨_,_,_,rfl,_⟩:=h;rfl)
   | (obtain⟨_,_,_,_,rfl,_⟩:=h;rfl)
   | (obtain⟨_,_,_,_,_,rfl,_⟩:=h;rfl)
   | (obtain⟨_,_,_,_,_,_,rfl,_⟩:=h;rfl)
   | (obtain⟨_,_,_,_,_,_,_,rfl,_⟩:=h;rfl)
   | (obtain⟨_,_,_,_,_,_,_,_,rfl,_⟩:=h;rfl)
   | (obtain⟨_,_,_,_,_,_,_,_,_,rfl,_⟩:=h;rfl)
   | (obtain⟨_,_,_,_,_,_,_,_,_,_,rfl,_⟩:=h;rfl)
   | (obtain⟨_,_,_,_,_,_,_,_,_,_,_,rfl,_⟩:=h;rfl))
  (hb:∀(kV doc pm:Value)(an:Option Addr)(cdv ct:Value)(us:List Value),us.length=ps.length->bindArgs (PySem.W.fnOf x x (dZ st) (cO st) (ao st) .none kV doc pm an cdv ct) ⟨us,[]⟩=pure (ps.zip us):=by first
   | (intro _ _ _ _ _ _;refine L2.HC ?_;intro _;rfl)
   | (intro _ _ _ _ _ _;refine L2.Jd ?_;intro _ _;rfl)
   | (intro _ _ _ _ _ _;refine L2.Em ?_;intro _ _ _;rfl)
   | (intro _ _ _ _ _ _;refine L2.He ?_;intro _ _ _ _;rfl)
   | (intro _ _ _ _ _ _;refine L2.IJ ?_;intro _ _ _ _ _;rfl)):bB bE P w K mg base (k+1) x ps sp :=
 F.cal (λf fd h1=>h1.ok S len λcdv A outer s H vs Q E=>hbody f cdv A outer s H vs Q E) hb
theorem FA.Iq(F:FA K mg x st)(S:au N ps (ao st))
  (hbody:∀(f:Addr)(cdv:Value)(A:Around)(outer:List Env)(s:Shared)(H:Hp)(vs:List V)(Q:VK)(E:XK),eW k (A.deeper (envOfC x (ao st) s.heap.objs.size f cdv))->sp vs H Q E->
   ∃t,qU ((qj (vf P w) P w K mg base N x (ao st) f cdv A outer s H E).xs E) (cO st) t/\t {nx:=λ_ H'=>Q .non H',rt:=Q} (start N vs) H)
  (len:∀vs H Q E,sp vs H Q E->vs.length=ps.length:=by
   intro vs H Q E h;first
   |exact SS h
   | (obtain⟨_,rfl,_⟩:=h;rfl)
   | (obtain⟨_,_,rfl,_⟩:=h;rfl)
   | (obtain⟨_,_,_,rfl,_⟩:=h;rfl)
   | (obtain⟨_,_,_,_,rfl,_⟩:=h;rfl)
   | (obtain⟨_,_,_,_,_,rfl,_⟩:=h;rfl)
   | (obtain⟨_,_,_,_,_,_,rfl,_⟩:=h;rfl)
   | (obtain⟨_,_,_,_,_,_,_,rfl,_⟩:=h;rfl)
   | (obtain⟨_,_,_,_,_,_,_,_,rfl,_⟩:=h;rfl)
   | (obtain⟨_,_,_,_,_,_,_,_,_,rfl,_⟩:=h;rfl)
   | (obtain⟨_,_,_,_,_,_,_,_,_,_,rfl,_⟩:=h;rfl)
   | (obtain⟨_,_,_,_,_,_,_,_,_,_,_,rfl,_⟩:=h;rfl))
  (hb:∀(kV doc pm:Value)(an:Option Addr)(cdv ct:Value)(us:List Value),us.length=ps.length->bindArgs (PySem.W.fnOf x x (dZ st) (cO st) (ao st) .none kV doc pm an cdv ct) ⟨us,[]⟩=pure (ps.zip us):=by first
   | (intro _ _ _ _ _ _;refine L2.HC ?_;intro _;rfl)
   | (intro _ _ _ _ _ _;refine L2.Jd ?_;intro _ _;rfl)
   | (intro _ _ _ _ _ _;refine L2.Em ?_;intro _ _ _;rfl)
   | (intro _ _ _ _ _ _;refine L2.He ?_;intro _ _ _ _;rfl)
   | (intro _ _ _ _ _ _;refine L2.IJ ?_;intro _ _ _ _ _;rfl)):bB (vf P w) P w K mg base (k+1) x ps sp :=
 F.cal (λf fd h1=>h1.Iq S len λcdv A outer s H vs Q E=>hbody f cdv A outer s H vs Q E) hb
end
section
variable{X:Cx}{CX:qm}{x:Str}{ps:List Str}{sp:Sp}{j k:Nat}{E:XK}{e:Expr}{es:List Expr}{t:TA}{p pos:Pos}
theorem qP(G:bB CX X.prog X.w X.K X.mg X.base j x ps sp)(hr:eW k X.A)(hg:Gl X x)(hx:Passes CX X E)(ha:PA X (e::es) t)(hl:j<=k:=by omega)
  (hdb:(x==("__debug__" : Str))=false:=by decide) (he:starEach (e::es) X.env=(false,eval e X.env)::starEach es X.env:=by rfl) (hpl:(backTo pos (starEach es X.env)).any (·.1)=false:=by rfl) :
  PE X (.Call (.Name x p) (e::es) [] pos) (kF sp [] E t):=by
 obtain⟨f,fd,h1,h2,h3,h4⟩:=G.ex;exact Fd (h1.mono hl) hr hg h4 h3 h2 .nil hx ha hdb he hpl
end
section
variable{X:Cx}{a b e:Expr}{ta tb te:TE}{pos p pos2:Pos}{es:List Expr}{t:TA}
theorem aG(K:S7)(ha:PE X a ta)(hb:PE X b tb)(e:X.K=K:=by rfl)(hs:nX b:=by exact λ_ _=>rfl):PE X (.Subscript a b pos) (eZ (jj K) ta tb):=by subst e;exact iI vX ha hb hs
theorem bK(K:S7)(ha:PE X a ta)(hb:PE X b tb)(e:X.K=K:=by rfl)(hs:nX b:=by exact λ_ _=>rfl):PE X (.Subscript a b pos) (eZ (mY K) ta tb):=by subst e;exact iI fW ha hb hs
theorem bu{op:CmpOp}{r:R2}(ho:jk X (compareOp op) r)(ha:PE X a ta)(hb:PE X b tb)(hm:behindInMarks op b=false:=by exact Aw _):PT X (.Compare a [op] [b] pos) (jf (eZ r ta tb)):=dm ho ha hb hm
theorem eY{op:CmpOp}{r:R2}(ho:jk X (compareOp op) r)(ha:PE X a ta)(hb:PE X b tb)(hm:behindInMarks op b=false:=by exact Aw _):PE X (.Compare a [op] [b] pos) (eZ r ta tb):=iO ho ha hb hm
theorem aM{x:Str}{ps:List Str}{sp:Sp}{j k:Nat}(G:bB bE X.prog X.w X.K X.mg X.base j x ps sp)(hr:eW k X.A)(ha:PA X (e::es) t)(hg:Gl X x:=by rfl)(hl:j<=k:=by omega)
  (hdb:(x==("__debug__" : Str))=false:=by decide) (he:starEach (e::es) X.env=(false,eval e X.env)::starEach es X.env:=by rfl) (hpl:(backTo pos (starEach es X.env)).any (·.1)=false:=by rfl) :
  PE X (.Call (.Name x p) (e::es) [] pos) (kF sp [] E0 t):=qP G hr hg qE ha hl hdb he hpl
theorem ax(he:PE X e te):qU X [.Return (some e) pos] (EI te):=cb (H_ he)
theorem bq{c:Expr}{tc:TT}{u:TS}{rest:List Stmt}(hc:PT X c tc)(he:PE X e te)(hr:qU X rest u):qU X (.If c [.Return (some e) pos] [] pos2::rest) (uA (Eh tc (EI te) sZ) u):=ak (gN hc (ax he) dk) hr
end
theorem gX{A:Around}{k:Nat}(hr:eW k A):A.units+8<cLine:=by have:=hr.un;omega
theorem vM:0<=sizeLine:=by decide
theorem dH:1<=sizeLine:=by decide
theorem c5:2<=sizeLine:=by decide
theorem cM:3<=sizeLine:=by decide
theorem BE:4<=sizeLine:=by decide
theorem Jx:5<=sizeLine:=by decide
def FK(K:S7)(x:Str)(st:Stmt)(f:Addr):Prop:=PySem.W.nsIn K mainGlobals x=some (some (.ref f))/\∃fd,Ae K x x st f fd
theorem FK.fa{K:S7}{h:Heap}{mg:Str->Option Value}{x:Str}{st:Stmt}{f:Addr}(F:FK K x st f)(X:K.In h)(G:h.Ns mainGlobals mg):FA K mg x st:=by obtain⟨h1,fd,h2⟩:=F;exact⟨f,fd,h2,S6 X G h1⟩
theorem FK.h{K:S7}{h:Heap}{mg:Str->Option Value}{x:Str}{st:Stmt}{f:Addr}(F:FK K x st f)(X:K.In h)(G:h.Ns mainGlobals mg):mg x=some (.ref f):=S6 X G F.1
theorem JF{K:S7}{x:Str}{st:Stmt}{f:Addr}{oc:Value}{od an:Option Addr}{osl:Array (Option Value)}{kV doc pm cdv ct:Value}(a:PySem.W.nsIn K mainGlobals x=some (some (.ref f)))
  (l:K.lookup f=some ⟨oc,od,.func (PySem.W.fnOf x x (dZ st) (cO st) (ao st) .none kV doc pm an cdv ct),osl⟩) (c:PySem.W.codeIn K cdv x=true) (k:PySem.W.keepIn K (.ref f)=true):FK K x st f :=
 ⟨a,_,vq l c k⟩
end L2
namespace L2
open PySem PySem.Spec PyProof.Rows
section
variable{X:Cx}{ac:List (Addr×Obj)}{σ:St}{H:Hp}{s:Shared}
theorem yb{xs:List V}{its:List Value}(r:Vals xs its){j:Nat}(h:j<its.toArray.size):∃x,xs[j]? = some x/\RelV x its.toArray[j]:=by
 have hj:j<its.length:=by simpa using h
 have hx:j<xs.length:=by rw[r.length];exact hj
 refine⟨xs[j],by simp[hx],?_⟩;obtain⟨u,e,ru⟩:=r.get (i:=j) (x:=xs[j]) (by simp[hx]);have e':its[j]=u:=by rw[Sd hj]at e;exact Ss e
 show RelV xs[j] its[j];rw[e'];exact ru
end
section
variable{X:Cx}
theorem ud{bs:List Bool}{its:List Value}(r:Vals (bs.map V.bl) its){i:Nat}{v:Value}(h:its.toArray[i]? = some v):∃b,bs[i]? = some b/\v=.bool b:=by
 have h':its[i]? = some v:=by simpa using h
 have hi:=(Sj.mp h').1;have hb:i<bs.length:=by have:=r.length;rw[R7]at this;omega
 obtain⟨u,e,ru⟩:=r.get (i:=i) (x:=.bl bs[i]) (by rw[Sw,Sd hb];rfl);rw[h']at e;cases e;exact⟨bs[i],Sd hb,ru⟩
theorem range_all(bs:List Bool):(List.range bs.length).all (λi=>bs.getD i true)=bs.all id:=by
 induction bs with
 |nil=>rfl
 |cons b r ih =>rw[SG,List.range_succ_eq_map,List.all_cons,List.all_map,List.all_cons];show(b&&_)=(b&&_);rw[←ih];rfl
theorem range_any(bs:List Bool):(List.range bs.length).any (λi=>bs.getD i true)=bs.any id:=by
 induction bs with
 |nil=>rfl
 |cons b r ih =>rw[SG,List.range_succ_eq_map,S4,List.any_map,S4];show(b||_)=(b||_);rw[←ih];rfl
theorem fZ(hc:X.calm=true):ft X (.builtin "all") (λxs H Q=>∃(p:Addr)(bs:List Bool),xs=[.ref p]/\bc X.K H p (bs.map V.bl)/\Q (.bl (bs.all id)) H):=by
 intro ac s σ H xs us Q I r h;obtain⟨p,bs,rfl,hS,q⟩:=h;obtain⟨u,rfl,ru⟩:=vals1 r;cases ru;obtain⟨its,rv,pl,hz⟩:=I.list hS;have hp:p<s.heap.objs.size:=by obtain⟨o,e,_⟩:=pl.isList;exact R0 e
 have hl:its.toArray.size=bs.length:=by have:=rv.length;rw[R7]at this;simp[this]
 refine call_all_walk (wpAny_pyIter_list pl.isList ?_);refine⟨s.heap.objs.size,_,_,_,_,_,λi=>bs.getD i true,rfl,Walks.list (A:=X.A.in1) (I.ok.hd hc) _ p (Sq hp) its.toArray,⟨⟨_,R1 _ rfl,rfl,rfl⟩,?_⟩,?_,λh' tk hk=>?_⟩
 ·obtain⟨o,e,z⟩:=pl.isList;exact⟨o,RZ _ e,z⟩
 ·intro i v s' Q' E' hv hq;obtain⟨b,e,rfl⟩:=ud rv hv;refine wpAny_truthy_bool ?_;have:bs.getD i true=b:=by rw[List.getD_eq_getElem?_getD,e];rfl
  rw[←this];exact hq
 ·rw[hl,range_all];have I1:Inv X ac σ H {s with heap:=s.heap.push {cls:=.type "list_iterator",data:=.fields #[.ref p,.int 0 0]}}:=I.kept (t':=s.toks) λb o e=>RZ _ e;have f:=I.lF (b:=s.heap.objs.size) (H':=H) (R3 _) (I.hok.fresh (R3 _));exact⟨.bl _,H,I1.turned (λb o hb e=>hk b o (by simpa using hb) e) f.1 f.2.1 f.2.2.2.1 f.2.2.2.2.1 f.2.2.2.2.2,rfl,q⟩
theorem mZ(hc:X.calm=true):ft X (.builtin "any") (λxs H Q=>∃(p:Addr)(bs:List Bool),xs=[.ref p]/\bc X.K H p (bs.map V.bl)/\Q (.bl (bs.any id)) H):=by
 intro ac s σ H xs us Q I r h;obtain⟨p,bs,rfl,hS,q⟩:=h;obtain⟨u,rfl,ru⟩:=vals1 r;cases ru;obtain⟨its,rv,pl,hz⟩:=I.list hS;have hp:p<s.heap.objs.size:=by obtain⟨o,e,_⟩:=pl.isList;exact R0 e
 have hl:its.toArray.size=bs.length:=by have:=rv.length;rw[R7]at this;simp[this]
 refine call_any_walk (wpAny_pyIter_list pl.isList ?_);refine⟨s.heap.objs.size,_,_,_,_,_,λi=>bs.getD i true,rfl,Walks.list (A:=X.A.in1) (I.ok.hd hc) _ p (Sq hp) its.toArray,⟨⟨_,R1 _ rfl,rfl,rfl⟩,?_⟩,?_,λh' tk hk=>?_⟩
 ·obtain⟨o,e,z⟩:=pl.isList;exact⟨o,RZ _ e,z⟩
 ·intro i v s' Q' E' hv hq;obtain⟨b,e,rfl⟩:=ud rv hv;refine wpAny_truthy_bool ?_;have:bs.getD i true=b:=by rw[List.getD_eq_getElem?_getD,e];rfl
  rw[←this];exact hq
 ·rw[hl,range_any];have I1:Inv X ac σ H {s with heap:=s.heap.push {cls:=.type "list_iterator",data:=.fields #[.ref p,.int 0 0]}}:=I.kept (t':=s.toks) λb o e=>RZ _ e;have f:=I.lF (b:=s.heap.objs.size) (H':=H) (R3 _) (I.hok.fresh (R3 _));exact⟨.bl _,H,I1.turned (λb o hb e=>hk b o (by simpa using hb) e) f.1 f.2.1 f.2.2.2.1 f.2.2.2.2.1 f.2.2.2.2.2,rfl,q⟩
end
section
variable{elt t1 i1 t2 i2:Expr}{f1 f2:List Expr}{sc:Scope}{pos:Pos}
abbrev qh(elt t1 i1:Expr)(f1:List Expr)(t2 i2:Expr)(f2:List Expr)(sc:Scope)(pos:Pos):Expr:=.ListComp elt [⟨t1,i1,f1,0⟩,⟨t2,i2,f2,0⟩] sc pos
theorem ou(it acc:Value)(env:Env) :
  compTurn (qh elt t1 i1 f1 t2 i2 f2 sc pos) 0 it acc env=(do
   standAt i1.pos
   match←pyNext it with
   |none=>pure (.done .next)
   |some v =>
    letOwnedTupleGo t1 it v
    assign t1 env v
    let mut ok:=true
    for c in f1 do
     if ok then ok←isTrue c env (eval c env)
    if ok then
     let x←eval i2 env
     standAt i2.pos
     let x←foldedSetIterable i2 env x
     let _←runOwn (.compStart (qh elt t1 i1 f1 t2 i2 f2 sc pos) 1 (←holding [x] (pyIter x)) acc env) env
    again (.compLoop (qh elt t1 i1 f1 t2 i2 f2 sc pos) 0 it acc env)):=by rfl
theorem pf(it acc:Value)(env:Env) :
  compTurn (qh elt t1 i1 f1 t2 i2 f2 sc pos) 1 it acc env=(do
   standAt i2.pos
   match←pyNext it with
   |none=>pure (.done .next)
   |some v =>
    letOwnedTupleGo t2 it v
    assign t2 env v
    let mut ok:=true
    for c in f2 do
     if ok then ok←isTrue c env (eval c env)
    if ok then
     (do let _←call (.builtin "list.append") [acc,←eval elt env])
    again (.compLoop (qh elt t1 i1 f1 t2 i2 f2 sc pos) 1 it acc env)):=by rfl
section
variable{it acc:Value}{env:Env}{prog:Program}{w:World}{A:Around}{s:Shared}{R:Result->Shared->Prop}
theorem r_(Iv:Nat->Shared->Prop)
  (turn:∀n s,Iv n s->wpAny (model prog w) A (pyNext it) (λr s₁=>match r with
   |none=>R (.ok .next) s₁
   |some v=>wpAny (model prog w) A (letOwnedTupleGo t2 it v) (λ_ s₁'=>wpAny (model prog w) A (assign t2 env v) (λ_ s₂ =>
     wpAny (model prog w) A (forIn f2 true λc r=>if r=true then do let ok←isTrue c env (eval c env);pure (ForInStep.yield ok)else pure (ForInStep.yield r)) (λok s₃ =>
      if ok=true then wpAny (model prog w) A (eval elt env) (λx s₄ =>
       wpAny (model prog w) A (call (.builtin "list.append") [acc,x]) (λ_ s₅=>∃m,m<n/\Iv m s₅) (λ_ _=>False) s₄) (λ_ _=>False) s₃
      else∃m,m<n/\Iv m s₃) (λ_ _=>False) s₂) (λ_ _=>False) s₁') (λ_ _=>False) s₁) (λ_ _=>False) s)
  (n:Nat) (h:Iv n s) :
  codeAny (model prog w) A (.compLoop (qh elt t1 i1 f1 t2 i2 f2 sc pos) 1 it acc env) R s:=by
 refine codeAny_loop rfl Iv (λn s hI=>?_) n h;show wpAny _ A ((compTurn (qh elt t1 i1 f1 t2 i2 f2 sc pos) 1 it acc env).onRaise (λx=>do noteFrame x env;theTreesLotGoes x)) _ _ s;refine wpAny_noted ?_;rw[pf];refine RX (wpAny_standAt (RX (Sz (turn n s hI) (λr s₁ h₁=>?_) λ_ _ h'=>h'.elim)));cases r with
 |none=>exact RY h₁
 |some v =>
  refine RX (Sz h₁ (λ_ s₁' h₁'=>RX (Sz h₁' (λ_ s₂ h₂=>RX (Sz h₂ (λok s₃ h₃=>?_) λ_ _ h'=>h'.elim)) λ_ _ h'=>h'.elim)) λ_ _ h'=>h'.elim);cases ok with
  |false=>exact RY ⟨rfl,h₃⟩
  |true =>exact RX (RX (Sz h₃ (λx s₄ h₄=>RX (Sz h₄ (λ_ s₅ h₅=>RY (RY ⟨rfl,h₅⟩)) λ_ _ h'=>h'.elim)) λ_ _ h'=>h'.elim))
theorem qz(hs:∀x,foldedSetIterable i2 env x=pure x)(Iv:Nat->Shared->Prop)
  (turn:∀n s,Iv n s->wpAny (model prog w) A (pyNext it) (λr s₁=>match r with
   |none=>R (.ok .next) s₁
   |some v=>wpAny (model prog w) A (letOwnedTupleGo t1 it v) (λ_ s₁'=>wpAny (model prog w) A (assign t1 env v) (λ_ s₂ =>
     wpAny (model prog w) A (forIn f1 true λc r=>if r=true then do let ok←isTrue c env (eval c env);pure (ForInStep.yield ok)else pure (ForInStep.yield r)) (λok s₃ =>
      if ok=true then wpAny (model prog w) A (eval i2 env) (λx s₄=>wpAny (model prog w) A (pyIter x) (λNW s₅ =>
       codeAny (model prog w) A (.compStart (qh elt t1 i1 f1 t2 i2 f2 sc pos) 1 NW acc env) (λr s'=>match r with | .ok _=>∃m,m<n/\Iv m s' | .error _=>False) s₅) (λ_ _=>False) s₄) (λ_ _=>False) s₃
      else∃m,m<n/\Iv m s₃) (λ_ _=>False) s₂) (λ_ _=>False) s₁') (λ_ _=>False) s₁) (λ_ _=>False) s)
  (n:Nat) (h:Iv n s) :
  codeAny (model prog w) A (.compLoop (qh elt t1 i1 f1 t2 i2 f2 sc pos) 0 it acc env) R s:=by
 refine codeAny_loop rfl Iv (λn s hI=>?_) n h;show wpAny _ A ((compTurn (qh elt t1 i1 f1 t2 i2 f2 sc pos) 0 it acc env).onRaise (λx=>do noteFrame x env;theTreesLotGoes x)) _ _ s;refine wpAny_noted ?_;rw[ou];refine RX (wpAny_standAt (RX (Sz (turn n s hI) (λr s₁ h₁=>?_) λ_ _ h'=>h'.elim)));cases r with
 |none=>exact RY h₁
 |some v =>
  refine RX (Sz h₁ (λ_ s₁' h₁'=>RX (Sz h₁' (λ_ s₂ h₂=>RX (Sz h₂ (λok s₃ h₃=>?_) λ_ _ h'=>h'.elim)) λ_ _ h'=>h'.elim)) λ_ _ h'=>h'.elim);cases ok with
  |false=>exact RY ⟨rfl,h₃⟩
  |true =>
   refine RX (Sz h₃ (λx s₄ h₄=>?_) λ_ _ h'=>h'.elim);refine RX (wpAny_standAt (RX (wpAny_of_eq (hs x) ?_)));refine RX (SA (Sz h₄ (λNW s₅ h₅=>?_) λ_ _ h'=>h'.elim));refine RX (wpAny_runOwn (codeAny_mono h₅ λr s' hr=>?_));cases r with
   |ok f=>exact RY ⟨rfl,hr⟩
   |error x=>exact hr.elim
theorem jA
  (h0:codeAny (model prog w) A (.compLoop (qh elt t1 i1 f1 t2 i2 f2 sc pos) 1 it acc env) R s)
  (h:wpAny (model prog w) A (pyIter it) (λit' s'=>codeAny (model prog w) A (.compLoop (qh elt t1 i1 f1 t2 i2 f2 sc pos) 1 it' acc env) R s')
   (notedBy (model prog w) A env λx s'=>R (.error x) s') s) :
  codeAny (model prog w) A (.compStart (qh elt t1 i1 f1 t2 i2 f2 sc pos) 1 it acc env) R s:=by
 refine codeAny_of_tree ?_;show wpAny _ _ ((compStart (qh elt t1 i1 f1 t2 i2 f2 sc pos) 1 it acc env).onRaise (λx=>do noteFrame x env;standAt theWindowsPlace)) _ _ s;refine wpAny_notedAt ?_;unfold compStart;show wpAny _ _ (ask >>= _) _ _ s;refine RX (wpAny_askSetting (wpAny_ite ?_));split
 ·first
   |exact RX (RY (RY (And.intro rfl h0)))
   |exact RY (And.intro rfl h0)
 ·first
   |exact RX (wpAny_rule (RX (wpAny_standAt (RX (Sz h (λit' s' h'=>RY (And.intro rfl h')) λ_ _ x=>x)))))
   | (refine RX (wpAny_rule ?_);show wpAny _ _ (standAt i2.pos >>= _) _ _ s;exact RX (wpAny_standAt (RX (Sz h (λit' s' h'=>RY (And.intro rfl h')) λ_ _ x=>x))))
end
end
def oU(J:It)(g:TG)(tc:TT)(te:TE)(D:Addr)(N:St->List V->Hp->Prop)(W:Nat->Nat->St->List V->Hp->Prop):Prop :=
 ∀i m σ ys H,W i m σ ys H->H D=some (.lst ys)/\((J.stop i H/\N σ ys H)\/(J.go i H/\ys.length<sizeLine/\∃N2:St->List V->Hp->Prop,(∀σ' ys' H',N2 σ' ys' H'->∃m',m'<m/\W (i+1) m' σ' ys' H')/\
  ∀x H',J.AQ i H x H'->g x σ H' λcR H2=>tc cR H2 λb H3 =>
   if b=true then te cR H3 λv H4=>H4 D=some (.lst ys)/\N2 cR (ys++[v]) (upd H4 D (.lst (ys++[v])))else N2 cR ys H3))
def rB(J:It)(g:TG)(tc:TT)(wi2:TI)(g2:TG)(sk:TT)(te:TE)(D:Addr)(Q:VK)(W:Nat->Nat->St->List V->Hp->Prop):Prop :=
 ∀i m σ ys H,W i m σ ys H->H D=some (.lst ys)/\((J.stop i H/\Q (.ref D) H)\/(J.go i H/\∃N:St->List V->Hp->Prop,(∀σ' ys' H',N σ' ys' H'->∃m',m'<m/\W (i+1) m' σ' ys' H')/\
  ∀x H',J.AQ i H x H'->g x σ H' λcR H2=>tc cR H2 λb H3 =>
   if b=true then wi2 cR H3 λJ2 H4=>∃W2:Nat->Nat->St->List V->Hp->Prop,(∃m,W2 0 m cR ys H4)/\oU J2 g2 sk te D N W2 else N cR ys H3))
def Ci(src:List (Option Nat))(wi:TI)(g:TG)(tc:TT)(wi2:TI)(g2:TG)(sk:TT)(te:TE):TE:=λσ H Q=>wi σ H λJ H1=>∀D,H1 D=none->
 ∃W:Nat->Nat->St->List V->Hp->Prop,(∃m,W 0 m (iT src σ) [] (upd H1 D (.lst [])))/\rB J g tc wi2 g2 sk te D Q W
section
variable{X:Cx}{elt t1 i1 t2 i2:Expr}{f1 f2:List Expr}{sc:Scope}{pos:Pos}{wi wi2:TI}{g g2:TG}{tc sk:TT}{te:TE}{N':List Str}{src:List (Option Nat)}
theorem vG{Y:Cx}(hc:Y.calm=true)(LZ:Y.xe = λ_ _=>False)(hg:PG Y t2 g2)(ht:iB Y f2 sk)(he:PE Y elt te)
  {ac:List (Addr×Obj)} {σ:St} {H:Hp} {s:Shared} {ys:List V} {it D:Addr} {fp:List Addr} {tn:Nat->Heap->Prop} {J:It} {N:St->List V->Hp->Prop} {R:Result->Shared->Prop}
  (I:Inv Y ac σ H s) (T:Turn Y.prog Y.w Y.K t2 J fp it tn) (st:tn 0 s.heap) (ff:∀b∈fp,cQ Y ac H b) {W:Nat->Nat->St->List V->Hp->Prop} {m:Nat} (w0:W 0 m σ ys H) (hW:oU J g2 sk te D N W)
  (hR:∀σ' ys' H' s',Inv Y ac σ' H' s'->N σ' ys' H'->R (.ok .next) s') :
  codeAny (model Y.prog Y.w) Y.A (.compStart (qh elt t1 i1 f1 t2 i2 f2 sc pos) 1 (.ref it) (.ref D) Y.env) R s:=by
 have stat:∀{H':Hp},(∀b∈fp,H' b=none)->∀b∈fp,cQ Y ac H' b:=λhn b hb=>⟨hn b hb,(ff b hb).2⟩;have loop:codeAny (model Y.prog Y.w) Y.A (.compLoop (qh elt t1 i1 f1 t2 i2 f2 sc pos) 1 (.ref it) (.ref D) Y.env) R s:=by
  refine r_ (λn s'=>∃i σ' ys H',Inv Y ac σ' H' s'/\tn i s'.heap/\(∀b∈fp,H' b=none)/\W i n σ' ys H') ?_ m ⟨0,_,_,_,I,st,λb hb=>(ff b hb).1,w0⟩;rintro n s5 ⟨i,lW,ys,H5,I5,qo,sH,w5⟩;obtain⟨hD,alt⟩:=hW i n lW ys H5 w5;rcases alt with⟨stop,qn⟩|⟨go,hsz,N2,hN,step⟩
  ·refine bO (T.done Y rfl rfl rfl hc i ac s5 lW H5 _ I5 (stat sH) qo stop) λr s6 zz=>?_;obtain⟨hr,I6⟩:=zz;subst hr;exact hR _ _ _ _ I6 qn
  ·refine bO (T.item Y rfl rfl rfl hc i ac s5 lW H5 _ I5 (stat sH) qo go) λr s6 zz=>?_;obtain⟨u,hr,h6⟩:=zz;subst hr;refine bO h6 λ_ s7 zz=>?_;obtain⟨x,H7,I7,r7,y7,pN,CW⟩:=zz;have AG:=I7.pinned (stat CW) (T.obj _ _ pN);have hg':=hg _ s7 lW H7 x u _ AG r7 (step x H7 y7);rw[LZ]at hg';refine bO hg' λ_ s8 zz=>?_;obtain⟨p6,H8,I8,q8⟩:=zz;have ht':=ht _ s8 p6 H8 _ I8 q8;rw[LZ]at ht';refine bO ht' λb s9 zz=>?_;obtain⟨H9,I9,q9⟩:=zz;have again:∀{σ':St}{H':Hp}{s':Shared}{ys':List V}{m':Nat},Inv Y (ac++iR fp s7.heap) σ' H' s'->m'<n->W (i+1) m' σ' ys' H'->
     ∃m,m<n/\∃i σ' ys H',Inv Y ac σ' H' s'/\tn i s'.heap/\(∀b∈fp,H' b=none)/\W i m σ' ys H':=λ{σ' H' s' ys' m'} I' hm w'=>by
    refine⟨m',hm,i+1,σ',ys',H',I'.fv,T.keep _ _ _ pN λb hb o e=>(I'.pin (b,o) (Se _ (Se _ (b9 hb e)))).1,λb hb=>?_,w'⟩;obtain⟨o,e,d⟩:=T.obj _ _ pN b hb;exact(I'.pin (b,o) (Se _ (Se _ (b9 hb e)))).2.1
   cases b with
   |false =>rw[SK Sh]at q9⊢;obtain⟨m',hm,w'⟩:=hN _ _ _ q9;exact again I9 hm w'
   |true =>rw[SM rfl]at q9⊢;have he':=he _ s9 p6 H9 _ I9 q9;rw[LZ]at he';refine bO he' λxv p7 zz=>?_;obtain⟨v,xr,Iw,r10,Ba,w10⟩:=zz;obtain⟨m',hm,w'⟩:=hN _ _ _ w10;have IF:nY (.ref D) [v] xr λ_ H'=>H'=upd xr D (.lst (ys++[v])):=⟨_,ys,v,rfl,rfl,Ba,hsz,rfl⟩;have ha':=cj _ p7 p6 xr _ _ _ _ _ Iw (show RelV (.ref D) (.ref D) from rfl) (.cons r10 .nil) IF;rw[LZ]at ha';refine bO ha' λ_ Nl zz=>?_;obtain⟨_,Nz,Dp,_,K6⟩:=zz;rw[K6]at Dp;exact again Dp hm w'
 exact jA loop (T.self _ 0 _ _ _ st loop)
theorem nv{ac:List (Addr×Obj)}{σ:St}{H2:Hp}{s2:Shared}{it:Addr}{fp:List Addr}{tn:Nat->Heap->Prop}{J:It}{Q:VK}{E:Value->Shared->Prop}{RR:Value->Addr->Result->Shared->Prop}
  (hc:X.calm=true) (S:ba X.env.scope X.N N' src sc)
  (hg:∀cl C s H fp,PG (az X N' sc cl C s H fp) t1 g) (ht:∀cl C s H fp,iB (az X N' sc cl C s H fp) f1 tc)
  (hi2:∀cl C s H fp,PI (az X N' sc cl C s H fp) t2 i2 wi2) (hg2:∀cl C s H fp,PG (az X N' sc cl C s H fp) t2 g2) (EC:∀cl C s H fp,iB (az X N' sc cl C s H fp) f2 sk)
  (he:∀cl C s H fp,PE (az X N' sc cl C s H fp) elt te) (hs2:∀(env:Env) x,foldedSetIterable i2 env x=pure x)
  (I2:Inv X ac σ H2 s2) (T:Turn X.prog X.w X.K t1 J fp it tn) (st2:tn 0 s2.heap) (EM:∀b∈fp,cQ X ac H2 b)
  (hW:∀D,H2 D=none->∃W:Nat->Nat->St->List V->Hp->Prop,(∃m,W 0 m (iT src σ) [] (upd H2 D (.lst [])))/\rB J g tc wi2 g2 sk te D Q W)
  (hRR:∀D C s5 H' m,Inv X ac σ H' s5->s5.heap.Ns C m->cQ X ac H' C->Q (.ref D) H'->RR (.ref D) C (.ok .next) s5) :
  wpAny (model X.prog X.w) X.A (newList []) (λacc s₃=>wpAny (model X.prog X.w) X.A (newFunctionEnv sc X.env.globals (bt X.env.cells sc.names []) [] X.env.qual none .none (some X.env)) (λcenv s₄ =>
   codeAny (model X.prog X.w) X.A (.compStart (qh elt t1 i1 f1 t2 i2 f2 sc pos) 0 (.ref it) acc {cenv with scope:=relabel sc X.env}) (RR acc cenv.locals) s₄) E s₃) E s2:=by
 have o2:∀b∈fp,b<s2.heap.objs.size:=λb hb=>by obtain⟨o,e,_⟩:=T.obj 0 _ st2 b hb;exact R0 e
 refine SD ?_;have E9:H2 s2.heap.objs.size=none:=I2.hok.fresh (R3 _);obtain⟨W,⟨m0,w0⟩,turn⟩:=hW s2.heap.objs.size E9;have I3:Inv X ac σ (upd H2 s2.heap.objs.size (.lst [])) {s2 with heap:=s2.heap.push {cls:=.type "list",dict:=none,data:=.seq ([]:List Value).toArray}} :=
  I2.laid (t':=s2.toks) (λb u e=>RZ _ e) (R3 _) ⟨Sr _,[],0,.nil,R1 _ rfl⟩
 have st3:tn 0 (s2.heap.push {cls:=.type "list",dict:=none,data:=.seq ([]:List Value).toArray}):=T.keep 0 _ _ st2 λb hb o e=>RZ _ e;generalize hs3:({s2 with heap:=s2.heap.push {cls:=.type "list",dict:=none,data:=.seq ([]:List Value).toArray}}:Shared)=s3 at I3;have hh3:s3.heap=s2.heap.push {cls:=.type "list",dict:=none,data:=.seq ([]:List Value).toArray}:=by rw[←hs3]
 have Af:s2.heap.objs.size<s3.heap.objs.size:=by rw[hh3,Heap.size_push];exact Nat.lt_succ_self _
 have o3:∀b∈fp,b<s3.heap.objs.size:=λb hb=>Nat.lt_trans (o2 b hb) Af;have f3:∀b∈fp,cQ X ac (upd H2 s2.heap.objs.size (.lst [])) b:=λb hb=>⟨by rw[aH (Sq (o2 b hb))];exact(EM b hb).1,(EM b hb).2⟩;rw[←hh3]at st3;refine wpAny_newFunctionEnv S.my (by intro y hy;simp at hy) (λh1 hns hsb=>?_) S.kind;have hsb':Heap.SameBut s3.heap.objs.size (s3.heap.push {cls:=.type "dict",data:=.dict #[]}) h1:=hsb;have I4:Inv (az X N' sc (bt X.env.cells sc.names []) s3.heap.objs.size s3 (upd H2 s2.heap.objs.size (.lst [])) fp) [] (iT src σ) (upd H2 s2.heap.objs.size (.lst [])) {s3 with heap:=h1,toks:=s3.toks+([]:List (Str×Value)).length} :=
  gk S I3 f3 o3 hns hsb'
 have xq:tn 0 h1:=T.keep 0 _ _ st3 λb hb o e=>(hsb'.2 b (Sq (o3 b hb))).trans (RZ _ e);have fC:∀(H':Hp),H' s3.heap.objs.size=none->cQ X ac H' s3.heap.objs.size:=λH' hn=>I3.lF (R3 _) hn;have loop:codeAny (model X.prog X.w) X.A (.compLoop (qh elt t1 i1 f1 t2 i2 f2 sc pos) 0 (.ref it) (.ref s2.heap.objs.size) (compEnvC sc (bt X.env.cells sc.names []) s3.heap.objs.size X.env))
   (RR (.ref s2.heap.objs.size) s3.heap.objs.size) {s3 with heap:=h1,toks:=s3.toks+([]:List (Str×Value)).length}:=by
  have stat:∀{H':Hp},(∀b∈fp,H' b=none)->∀b∈fp,cQ (az X N' sc (bt X.env.cells sc.names []) s3.heap.objs.size s3 (upd H2 s2.heap.objs.size (.lst [])) fp) [] H' b:=λhn b hb =>
   ⟨hn b hb,(I4.ok.Ac b hb).1,I4.ok.rO b hb,.inl hb,(I4.ok.Ac b hb).2,λp hp=>SJ (show p∈([]:List (Addr×Obj)) from hp) (by simp)⟩
  refine qz (hs2 _) (λn s'=>∃i σ' ys H',Inv (az X N' sc (bt X.env.cells sc.names []) s3.heap.objs.size s3 (upd H2 s2.heap.objs.size (.lst [])) fp) [] σ' H' s'/\tn i s'.heap/\(∀b∈fp,H' b=none)/\W i n σ' ys H') ?_ m0
   ⟨0,_,[],_,I4,xq,λb hb=>(f3 b hb).1,w0⟩
  rintro n s5 ⟨i,lW,ys,H5,I5,qo,sH,w5⟩;obtain⟨hD,alt⟩:=turn i n lW ys H5 w5;rcases alt with⟨stop,qn⟩|⟨go,N,hN,step⟩
  ·refine bO (T.done (az X N' sc (bt X.env.cells sc.names []) s3.heap.objs.size s3 (upd H2 s2.heap.objs.size (.lst [])) fp) rfl rfl rfl hc i [] s5 lW H5 _ I5 (stat sH) qo stop) λr s6 zz=>?_;obtain⟨hr,I6⟩:=zz;subst hr;obtain⟨m6,n6,_⟩:=id I6.loc;refine hRR _ _ s6 H5 m6 (I3.call' I6.os I6.base I6.hok I6.bare λb hb=>⟨(f3 b hb).2.2.2.1,(f3 b hb).2.1,(f3 b hb).2.2.2.2.1,(f3 b hb).2.2.2.2.2⟩) n6 (fC _ I6.free) qn
  ·refine bO (T.item (az X N' sc (bt X.env.cells sc.names []) s3.heap.objs.size s3 (upd H2 s2.heap.objs.size (.lst [])) fp) rfl rfl rfl hc i [] s5 lW H5 _ I5 (stat sH) qo go) λr s6 zz=>?_;obtain⟨u,hr,h6⟩:=zz;subst hr;refine bO h6 λ_ s7 zz=>?_;obtain⟨x,H7,I7,r7,y7,pN,CW⟩:=zz;have AG:=I7.pinned (stat CW) (T.obj _ _ pN);refine bO (hg _ _ _ _ _ _ s7 lW H7 x u _ AG r7 (step x H7 y7)) λ_ s8 zz=>?_;obtain⟨p6,H8,I8,q8⟩:=zz;refine bO (ht _ _ _ _ _ _ s8 p6 H8 _ I8 q8) λb s9 zz=>?_;obtain⟨H9,I9,q9⟩:=zz;have again:∀{σ':St}{H':Hp}{s':Shared}{ys':List V}{m':Nat},Inv (az X N' sc (bt X.env.cells sc.names []) s3.heap.objs.size s3 (upd H2 s2.heap.objs.size (.lst [])) fp) ([]++iR fp s7.heap) σ' H' s'->m'<n->W (i+1) m' σ' ys' H'->
     ∃m,m<n/\∃i σ' ys H',Inv (az X N' sc (bt X.env.cells sc.names []) s3.heap.objs.size s3 (upd H2 s2.heap.objs.size (.lst [])) fp) [] σ' H' s'/\tn i s'.heap/\(∀b∈fp,H' b=none)/\W i m σ' ys H':=λ{σ' H' s' ys' m'} I' hm w'=>by
    refine⟨m',hm,i+1,σ',ys',H',I'.fv,T.keep _ _ _ pN λb hb o e=>(I'.pin (b,o) (Se _ (Se _ (b9 hb e)))).1,λb hb=>?_,w'⟩;obtain⟨o,e,d⟩:=T.obj _ _ pN b hb;exact(I'.pin (b,o) (Se _ (Se _ (b9 hb e)))).2.1
   cases b with
   |false =>rw[SK Sh]at q9⊢;obtain⟨m',hm,w'⟩:=hN _ _ _ q9;exact again I9 hm w'
   |true =>rw[SM rfl]at q9⊢;refine bO (hi2 _ _ _ _ _ _ s9 p6 H9 _ I9 q9) λv sA hA=>bO hA λitv sB hB=>?_;obtain⟨RU,RS,RP,JB,HB,eB,IB,TB,Rf,fB,WB,⟨mB,wB⟩,O1⟩:=hB;subst eB;refine vG (Y:=az X N' sc (bt X.env.cells sc.names []) s3.heap.objs.size s3 (upd H2 s2.heap.objs.size (.lst [])) fp) hc rfl (hg2 _ _ _ _ _) (EC _ _ _ _ _) (he _ _ _ _ _) IB TB Rf fB wB O1 ?_;intro σ' ys' H' s' I' hn;obtain⟨m',hm,w'⟩:=hN _ _ _ hn;exact again I' hm w'
 exact codeAny_compStart_list loop (T.self _ 0 _ _ _ xq loop)
theorem qR(hc:X.calm=true)(S:ba X.env.scope X.N N' src sc)(hi:PI X t1 i1 wi)
  (hg:∀cl C s H fp,PG (az X N' sc cl C s H fp) t1 g) (ht:∀cl C s H fp,iB (az X N' sc cl C s H fp) f1 tc)
  (hi2:∀cl C s H fp,PI (az X N' sc cl C s H fp) t2 i2 wi2) (hg2:∀cl C s H fp,PG (az X N' sc cl C s H fp) t2 g2) (EC:∀cl C s H fp,iB (az X N' sc cl C s H fp) f2 sk)
  (he:∀cl C s H fp,PE (az X N' sc cl C s H fp) elt te) (hs:∀x,foldedSetIterable i1 X.env x=pure x:=by intro _;rfl) (hs2:∀(env:Env) x,foldedSetIterable i2 env x=pure x:=by intro _ _;rfl) :
  PE X (qh elt t1 i1 f1 t2 i2 f2 sc pos) (Ci src wi g tc wi2 g2 sk te):=by
 intro ac s σ H Q I h;rw[eval_ListComp];refine wpAny_comprehension_free (use:=none) rfl hs (cw λy hy hk=>I.ok.has y.1 (S.free y hy hk)) S.kind (λy hy hl=>by rw[←hl];exact S.uniq y hy) ?_;refine bO (hi ac s σ H _ I h) λv s1 h1=>bO h1 λitv s2 h2=>?_;obtain⟨it,fp,tn,J,H2,e,I2,T,st2,EM,hW⟩:=h2;subst e;refine nv (Q:=Q) (RR:=λacc C=>compPost (model X.prog X.w) X.A X.xe none (EP X ac σ Q) acc C) hc S hg ht hi2 hg2 EC he hs2 I2 T st2 EM hW ?_;intro D C s5 H' m I5 n5 fC q;refine⟨m,n5,λh' sb=>⟨.ref D,H',?_,rfl,q⟩⟩;exact I5.turned (t':=s5.toks) (λb o hb e=>(sb.2 b hb).trans e) fC.1 fC.2.1 fC.2.2.2.1 fC.2.2.2.2.1 fC.2.2.2.2.2
end
end L2
namespace HT
open PySem PyProof.Rows
open PySem.AutoSeq1 (wpAny_loadPart')
theorem tuple_addW0(l b:Addr)(items items2:Array Value)(n n2:Nat)(dd dd2:Option Addr)(sl sl2:Array (Option Value))(hc0:items.isEmpty=true) :
  Meets (Builtin.«tuple.__add__» ⟨[.ref l,.ref b],[]⟩) (λ_ R s=>s.heap.get? l=some {cls:=.type "tuple",dict:=dd,data:=.seq items n,slots:=sl}/\s.heap.get? b=some {cls:=.type "tuple",dict:=dd2,data:=.seq items2 n2,slots:=sl2}/\R (.ok (.ret (Value.ref b))) {s with heap:=s.heap,toks:=s.toks}) :=
 .of_wp λprog w A R s h=>by
  obtain⟨hp,g,d,tk,os⟩:=s;obtain⟨hl,hb,h⟩:=h;have f1:=AutoSeq1.idx_int;have f2:=AutoSeq1.sub_tuple_tuple;have f3:=AutoSeq1.sub_list_list;have f4:=AutoSeq1.sub_tuple_list;have f5:=AutoSeq1.sub_list_tuple
  wp_walk using wpAny_loadPart' hl,wpAny_loadPart' hb
  exact⟨_,rfl,h⟩
section
variable{prog:Program}{w:World}{A:Around}{E:Value->Shared->Prop}{s:Shared}
theorem A2{t b:Addr}{ws:List Value}{Q:Value->Shared->Prop}(ht:IsTup s.heap t #[])(hb:IsTup s.heap b ws.toArray)(h1:Q (.ref b) s):wpAny (model prog w) A (binaryOp .Add (.ref t) (.ref b)) Q E s:=by
 obtain⟨⟨cls,dd,data,sl⟩,ho,hc,n,hd⟩:=id ht;obtain⟨⟨cls2,dd2,data2,sl2⟩,ho2,hc2,n2,hd2⟩:=id hb;simp only at hc hd hc2 hd2;subst hc hd hc2 hd2;exact concat_meets ⟨_,ho,rfl⟩ ⟨_,ho2,rfl⟩ noFill_tuple_add seq_tuple_add PySem.F.slot_tuple_add PySem.F.entry_tuple_add (PySem.F.args_tuple_add_2 _ _)
   (tuple_addW0 t b #[] ws.toArray n n2 dd dd2 sl sl2 rfl) ⟨ho,ho2,h1⟩
theorem kz{t sl:Addr}{items:Array Value}{vl vu:Value}{lo hi:Option Int}{Q:Value->Shared->Prop}(ht:IsTup s.heap t items)(hs:s.heap.IsSliceOf sl vl vu .none)(pl:IsPart vl lo)(pu:IsPart vu hi)
  (hw:dG items.size 0 lo=0/\dG items.size items.size hi=items.size)
  (h:Q (.ref t) s):wpAny (model prog w) A (getItem (.ref t) (.ref sl)) Q E s:=by
 obtain⟨os,hos,hcs,hds⟩:=id hs;have hTs:s.TypeIs (.ref sl) "slice":=⟨os,hos,hcs⟩;unfold getItem;try with_reducible refine SA ?_
 first|refine RX (RY ?_)|skip
 refine RX (wpAny_sequenceKey ht.typeIs (by decide) ?_);refine RX (wpAny_callSpecial?_slot (name:=Str.ofString "__getitem__") ht.typeIs PyProof.Rows.slot_tuple_getitem
  (SY PyProof.Rows.slot_tuple_getitem ht.typeIs entry_tuple_getitem ?_ (args_tuple_getitem _ _)))
 show wpAny _ _ (Builtin.Tuple.tupleItemsOf (.ref t) >>= _) _ _ s;refine RX (tupleItemsOf_ ht ?_);refine RX (wpAny_typeOf hTs ?_);rw[SM (by decide)];refine RX (iA hs pl pu ?_);have hno:(((dG items.size 0 lo:Nat):Int)==0&&(1:Int)==1&&(dG items.size items.size hi-dG items.size 0 lo)==items.size)=true:=by rw[hw.1,hw.2];simp
 show wpAny _ _ (if(((dG items.size 0 lo:Nat):Int)==0&&(1:Int)==1&&(dG items.size items.size hi-dG items.size 0 lo)==items.size)=true then _ else _) _ _ s;rw[SM hno];refine RX (m:=Builtin.Tuple.tupleIsExact _) ?_;unfold Builtin.Tuple.tupleIsExact;refine RX (wpAny_typeOf ht.typeIs (RY ?_));show wpAny _ _ (if((Value.type "tuple")==(Value.type "tuple"))=true then _ else _) _ _ s;rw[SM (by decide)];exact RX (wpAny_rule (RY ⟨_,rfl,RY h⟩))
end
end HT
namespace L2
open PySem PySem.Spec PyProof.Rows
section
variable{X:Cx}
theorem B8(hu:X.A.units<cLine):jk X (compareOp .Eq) (λx y H Q=>∃a b xs ys,x=.ref a/\y=.ref b/\bc X.K H a xs/\bc X.K H b ys/\xs.length≠ys.length/\Q (.bl false) H):=by intro ac s σ H x y v u Q I rx ry h;obtain⟨a,b,xs,ys,rfl,rfl,ha,hb,hl,q⟩:=h;cases rx;cases ry;obtain⟨its,r1,p1,_⟩:=I.list ha;obtain⟨its',r2,p2,_⟩:=I.list hb;exact SeqAt.eq_list_lengthsAt p1.isList p2.isList (by simp[←r1.length,←r2.length,hl]) hu ⟨.bl false,H,I,rfl,q⟩
theorem C5(hu:X.A.units<cLine):jk X (compareOp .NotEq) (λx y H Q=>∃a b xs ys,x=.ref a/\y=.ref b/\bc X.K H a xs/\bc X.K H b ys/\xs.length≠ys.length/\Q (.bl true) H):=by intro ac s σ H x y v u Q I rx ry h;obtain⟨a,b,xs,ys,rfl,rfl,ha,hb,hl,q⟩:=h;cases rx;cases ry;obtain⟨its,r1,p1,_⟩:=I.list ha;obtain⟨its',r2,p2,_⟩:=I.list hb;exact SeqAt.RcNeAt.lists_lengths p1.isList p2.isList (by simp[←r1.length,←r2.length,hl]) hu _ _ _ _ ⟨.bl true,H,I,rfl,q⟩
theorem uV:jk X (binaryOp .Add) (λx y H Q=>∃a b ys,x=.ref a/\y=.ref b/\aP X.K H a []/\aP X.K H b ys/\Q (.ref b) H):=by intro ac s σ H x y v u Q I rx ry h;obtain⟨a,b,ys,rfl,rfl,ha,hb,q⟩:=h;cases rx;cases ry;obtain⟨its,r1,p1,_⟩:=I.tuple ha;obtain⟨its2,r2,p2,_⟩:=I.tuple hb;cases r1;exact HT.A2 p1 p2 ⟨.ref b,H,I,rfl,q⟩
def FD(K:S7):V->Option Int->Option Int->Hp->VK->Prop:=λx lo hi H Q=>∃a xs,x=.ref a/\aP K H a xs/\
 (HT.dG xs.length 0 lo=0/\HT.dG xs.length xs.length hi=xs.length)/\Q (.ref a) H
theorem EJ:Fc X (FD X.K):=by
 intro ac s σ H x v vl vu lo hi sl Q I rx hs pl pu h;obtain⟨a,xs,rfl,hx,hw,q⟩:=h;cases rx;obtain⟨its,r,ht,hz⟩:=I.tuple hx;have hlen:its.toArray.size=xs.length:=by rw[Si];exact r.length.symm
 refine⟨"tuple",_,PyProof.Rows.slot_tuple_getitem.lookup,ht.typeIs,?_⟩;exact HT.kz ht hs pl pu (by rw[hlen];exact hw) ⟨.ref a,H,I,rfl,q⟩
theorem Ex{x:V}{lo hi:Option Int}{H:Hp}{Q:VK}{a:Addr}{xs:List V}{K:S7}(e:x=.ref a)(h:aP K H a xs)(q1:fq xs lo hi=xs->Q (.ref a) H)(q2:∀p,H p=none->Q (.ref p) (upd H p (.tup (fq xs lo hi)))):K9 K x lo hi H Q\/FD K x lo hi H Q:=by
 by_cases hw:HT.dG xs.length 0 lo=0/\HT.dG xs.length xs.length hi=xs.length
 ·refine .inr ⟨a,xs,e,h,hw,q1 ?_⟩;unfold fq;rw[hw.1,hw.2];simp
 ·exact .inl ⟨a,xs,e,h,hw,q2⟩
end
inductive D where
 |int (i:Int)|str (x:Str)|non|bl (b:Bool)|tup (ds:List D)|lst (ds:List D)
deriving Inhabited
mutual
def aV(K:S7)(H:Hp):D->V->Prop
 | .int i,v=>v=.int i
 | .str x,v=>v=.str x
 | .non,v=>v=.non
 | .bl b,v=>v=.bl b
 | .tup ds,v=>∃a vs,v=.ref a/\aP K H a vs/\aD K H ds vs
 | .lst ds,v=>∃a vs,v=.ref a/\H a=some (.lst vs)/\aD K H ds vs
def aD(K:S7)(H:Hp):List D->List V->Prop
 |[],vs=>vs=[]
 |d::ds,vs=>∃v r,vs=v::r/\aV K H d v/\aD K H ds r
end
mutual
def D.depth:D->Nat
 | .tup ds=>1+b_ ds
 | .lst ds=>1+b_ ds
 |_=>0
def b_:List D->Nat
 |[]=>0
 |d::ds=>max d.depth (b_ ds)
end
def bI(b:Bool):Int:=if b then 1 else 0
mutual
def cI:D->D->Bool
 | .int i,.int j=>i==j
 | .int i,.bl b=>i==bI b
 | .bl b,.int j=>bI b==j
 | .bl b,.bl c=>b==c
 | .str x,.str y=>x==y
 | .non,.non=>true
 | .tup ds,.tup es=>fD ds es
 | .lst ds,.lst es=>fD ds es
 |_,_=>false
def fD:List D->List D->Bool
 |[],[]=>true
 |d::ds,e::es=>cI d e&&fD ds es
 |_,_=>false
end
mutual
theorem lC:∀d:D,cI d d=true
 | .int i=>by simp[cI]
 | .str x=>by simp[cI]
 | .non=>by simp[cI]
 | .bl b=>by simp[cI]
 | .tup ds=>by rw[cI];exact iL ds
 | .lst ds=>by rw[cI];exact iL ds
theorem iL:∀ds:List D,fD ds ds=true
 |[]=>by simp[fD]
 |d::ds=>by rw[fD,lC d,iL ds];rfl
end
section
variable{K:S7}{H:Hp}
theorem aD.length:∀{ds:List D}{vs:List V},aD K H ds vs->ds.length=vs.length
 |[],vs,h=>by rw[aD]at h;rw[h];rfl
 |d::ds,vs,h=>by rw[aD]at h;obtain⟨v,r,rfl,_,h⟩:=h;rw[SG,SG,aD.length h]
theorem aD.get:∀{ds:List D}{vs:List V}{i:Nat}{v:V},aD K H ds vs->vs[i]? = some v->∃d,ds[i]? = some d/\aV K H d v
 |[],vs,i,v,h,e=>by rw[aD]at h;rw[h]at e;cases e
 |d::ds,vs,i,v,h,e=>by
  rw[aD]at h;obtain⟨u,r,rfl,h1,h2⟩:=h;cases i with
  |zero=>cases e;exact⟨d,rfl,h1⟩
  |succ i=>obtain⟨d',e1,e2⟩:=aD.get (i:=i) h2 e;exact⟨d',e1,e2⟩
theorem aD.of:∀{ds:List D}{vs:List V},ds.length=vs.length->(∀(i:Nat) d v,ds[i]? = some d->vs[i]? = some v->aV K H d v)->aD K H ds vs
 |[],[],_,_=>by rw[aD]
 |[],v::vs,h,_=>by cases h
 |d::ds,[],h,_=>by cases h
 |d::ds,v::vs,h,k=>by rw[aD];exact⟨v,vs,rfl,k 0 d v rfl rfl,aD.of (by simpa using h) λi d v e1 e2=>k (i+1) d v e1 e2⟩
theorem aD.cons{d:D}{v:V}{ds:List D}{vs:List V}(h1:aV K H d v)(h2:aD K H ds vs):aD K H (d::ds) (v::vs):=by rw[aD];exact⟨v,vs,rfl,h1,h2⟩
theorem aD.nil:aD K H [] []:=by rw[aD]
theorem aD.append:∀{ds es:List D}{vs ws:List V},aD K H ds vs->aD K H es ws->aD K H (ds++es) (vs++ws)
 |[],es,vs,ws,h,h'=>by rw[aD]at h;rw[h];exact h'
 |d::ds,es,vs,ws,h,h'=>by rw[aD]at h;obtain⟨u,r,rfl,h1,h2⟩:=h;exact aD.cons h1 (aD.append h2 h')
mutual
theorem aV.mono{H':Hp}(s:∀a xs,aP K H a xs->aP K H' a xs)(t:∀a xs,H a=some (.lst xs)->H' a=some (.lst xs)):∀{d:D}{v:V},aV K H d v->aV K H' d v
 | .int _,v,h=>by rw[aV]at h⊢;exact h
 | .str _,v,h=>by rw[aV]at h⊢;exact h
 | .non,v,h=>by rw[aV]at h⊢;exact h
 | .bl _,v,h=>by rw[aV]at h⊢;exact h
 | .tup ds,v,h=>by rw[aV]at h⊢;obtain⟨a,vs,e,q,h⟩:=h;exact⟨a,vs,e,s a vs q,aD.mono s t h⟩
 | .lst ds,v,h=>by rw[aV]at h⊢;obtain⟨a,vs,e,q,h⟩:=h;exact⟨a,vs,e,t a vs q,aD.mono s t h⟩
theorem aD.mono{H':Hp}(s:∀a xs,aP K H a xs->aP K H' a xs)(t:∀a xs,H a=some (.lst xs)->H' a=some (.lst xs)):∀{ds:List D}{vs:List V},aD K H ds vs->aD K H' ds vs
 |[],vs,h=>by rw[aD]at h⊢;exact h
 |d::ds,vs,h=>by rw[aD]at h⊢;obtain⟨u,r,e,h1,h2⟩:=h;exact⟨u,r,e,aV.mono s t h1,aD.mono s t h2⟩
end
end
theorem pM:∀{ds es:List D},ds.length≠es.length->fD ds es=false
 |[],[],h=>SJ rfl h
 |[],_::_,_=>by rw[fD];all_goals simp
 |_::_,[],_=>by rw[fD];all_goals simp
 |d::ds,e::es,h=>by rw[fD,pM (by simpa using h),Bool.and_false]
theorem pd:∀{ds es:List D},ds.length=es.length->(List.range ds.length).all (λj=>cI (ds.getD j .non) (es.getD j .non))=fD ds es
 |[],[],_=>by rw[fD];rfl
 |d::ds,e::es,h=>by rw[fD,SG,List.range_succ_eq_map,List.all_cons,List.all_map,←pd (by simpa using h)];rfl
 |[],_::_,h=>by cases h
 |_::_,[],h=>by cases h
theorem Bc{ds es:List D}:((List.range (min ds.length es.length)).all (λj=>cI (ds.getD j .non) (es.getD j .non))&&ds.length==es.length)=fD ds es:=by
 by_cases h:ds.length=es.length
 ·rw[←pd h,h,Nat.min_self];simp
 ·rw[pM h,beq_eq_false_iff_ne.mpr h,Bool.and_false]
theorem pV:∀{ds:List D}{i:Nat}{d:D},ds[i]? = some d->d.depth<=b_ ds
 |[],i,d,e=>by cases e
 |d'::ds,0,d,e=>by cases e;rw[b_];exact Nat.le_max_left _ _
 |d'::ds,i+1,d,e=>by rw[b_];exact R4 (pV (i:=i) (by simpa using e)) (Nat.le_max_right _ _)
section
variable{X:Cx}{ac:List (Addr×Obj)}{σ:St}{H:Hp}{s:Shared}
theorem yv{ds:List D}{j:Nat}{d:D}(h:ds[j]? = some d):ds.getD j .non=d:=by rw[List.getD_eq_getElem?_getD,h];rfl
def both(A:Around)(s:Shared)(u v:Value)(b:Bool):Prop:=SeqAt.EqAt A s u v b/\SeqAt.RcAt A s u v b/\SeqAt.RcNeAt A s u v (!b)
def seqs:D->D->Bool
 | .tup _,.tup _=>true
 | .lst _,.lst _=>true
 |_,_=>false
theorem pL(I:Inv X ac σ H s){A:Around}(hu:A.units<cLine):∀{d e:D}{x y:V}{u v:Value},seqs d e=false->aV X.K H d x->aV X.K H e y->RelV x u->RelV y v->both A s u v (cI d e)
 | .int i,.int j,x,y,u,v,hs,h1,h2,r1,r2=>by rw[aV]at h1;subst h1;obtain⟨t,rfl⟩:=r1;rw[aV]at h2;subst h2;obtain⟨w,rfl⟩:=r2;rw[cI];exact⟨.int_int i t j w,.int_int i t j w,.int_int i t j w⟩
 | .int i,.str j,x,y,u,v,hs,h1,h2,r1,r2=>by rw[aV]at h1;subst h1;obtain⟨t,rfl⟩:=r1;rw[aV]at h2;subst h2;obtain⟨w,rfl⟩:=r2;rw[show cI (.int i) (.str j)=false by simp[cI]];exact⟨.int_str i t j w,.int_str i t j w,.int_str i t j w⟩
 | .int i,.non,x,y,u,v,hs,h1,h2,r1,r2=>by rw[aV]at h1;subst h1;obtain⟨t,rfl⟩:=r1;rw[aV]at h2;subst h2;cases r2;rw[show cI (.int i) (.non)=false by simp[cI]];exact⟨.int_none i t,.int_none i t,.int_none i t⟩
 | .int i,.bl j,x,y,u,v,hs,h1,h2,r1,r2=>by rw[aV]at h1;subst h1;obtain⟨t,rfl⟩:=r1;rw[aV]at h2;subst h2;cases r2;rw[cI];exact⟨.int_bool i t j,.int_bool i t j,.int_bool i t j⟩
 | .int i,.tup j,x,y,u,v,hs,h1,h2,r1,r2=>by rw[aV]at h1;subst h1;obtain⟨t,rfl⟩:=r1;rw[aV]at h2;obtain⟨aw,E3,rfl,q2,_⟩:=h2;cases r2;obtain⟨sh,Ee,pw,_⟩:=I.tuple q2;rw[show cI (.int i) (.tup j)=false by simp[cI]];exact⟨.int_tuple i t pw hu,.int_tuple i t pw hu,.int_tuple i t pw hu⟩
 | .int i,.lst j,x,y,u,v,hs,h1,h2,r1,r2=>by
  rw[aV]at h1;subst h1;obtain⟨t,rfl⟩:=r1;rw[aV]at h2;obtain⟨aw,E3,rfl,q2,_⟩:=h2;cases r2;obtain⟨sh,Ee,DS,_⟩:=I.list (bc.of q2);have pw:=DS.isList
  rw[show cI (.int i) (.lst j)=false by simp[cI]];exact⟨.int_list i t pw hu,.int_list i t pw hu,.int_list i t pw hu⟩
 | .str i,.int j,x,y,u,v,hs,h1,h2,r1,r2=>by rw[aV]at h1;subst h1;obtain⟨t,rfl⟩:=r1;rw[aV]at h2;subst h2;obtain⟨w,rfl⟩:=r2;rw[show cI (.str i) (.int j)=false by simp[cI]];exact⟨.str_int i t j w,.str_int i t j w,.str_int i t j w⟩
 | .str i,.str j,x,y,u,v,hs,h1,h2,r1,r2=>by rw[aV]at h1;subst h1;obtain⟨t,rfl⟩:=r1;rw[aV]at h2;subst h2;obtain⟨w,rfl⟩:=r2;rw[cI];exact⟨.str_str i t j w,.str_str i t j w,.str_str i t j w⟩
 | .str i,.non,x,y,u,v,hs,h1,h2,r1,r2=>by rw[aV]at h1;subst h1;obtain⟨t,rfl⟩:=r1;rw[aV]at h2;subst h2;cases r2;rw[show cI (.str i) (.non)=false by simp[cI]];exact⟨.str_none i t,.str_none i t,.str_none i t⟩
 | .str i,.bl j,x,y,u,v,hs,h1,h2,r1,r2=>by rw[aV]at h1;subst h1;obtain⟨t,rfl⟩:=r1;rw[aV]at h2;subst h2;cases r2;rw[show cI (.str i) (.bl j)=false by simp[cI]];exact⟨.str_bool i t j,.str_bool i t j,.str_bool i t j⟩
 | .str i,.tup j,x,y,u,v,hs,h1,h2,r1,r2=>by rw[aV]at h1;subst h1;obtain⟨t,rfl⟩:=r1;rw[aV]at h2;obtain⟨aw,E3,rfl,q2,_⟩:=h2;cases r2;obtain⟨sh,Ee,pw,_⟩:=I.tuple q2;rw[show cI (.str i) (.tup j)=false by simp[cI]];exact⟨.str_tuple i t pw hu,.str_tuple i t pw hu,.str_tuple i t pw hu⟩
 | .str i,.lst j,x,y,u,v,hs,h1,h2,r1,r2=>by
  rw[aV]at h1;subst h1;obtain⟨t,rfl⟩:=r1;rw[aV]at h2;obtain⟨aw,E3,rfl,q2,_⟩:=h2;cases r2;obtain⟨sh,Ee,DS,_⟩:=I.list (bc.of q2);have pw:=DS.isList
  rw[show cI (.str i) (.lst j)=false by simp[cI]];exact⟨.str_list i t pw hu,.str_list i t pw hu,.str_list i t pw hu⟩
 | .non,.int j,x,y,u,v,hs,h1,h2,r1,r2=>by rw[aV]at h1;subst h1;cases r1;rw[aV]at h2;subst h2;obtain⟨w,rfl⟩:=r2;rw[show cI (.non) (.int j)=false by simp[cI]];exact⟨.none_int j w,.none_int j w,.none_int j w⟩
 | .non,.str j,x,y,u,v,hs,h1,h2,r1,r2=>by rw[aV]at h1;subst h1;cases r1;rw[aV]at h2;subst h2;obtain⟨w,rfl⟩:=r2;rw[show cI (.non) (.str j)=false by simp[cI]];exact⟨.none_str j w,.none_str j w,.none_str j w⟩
 | .non,.non,x,y,u,v,hs,h1,h2,r1,r2=>by rw[aV]at h1;subst h1;cases r1;rw[aV]at h2;subst h2;cases r2;rw[cI];exact⟨.same _,.none_none,.none_none⟩
 | .non,.bl j,x,y,u,v,hs,h1,h2,r1,r2=>by rw[aV]at h1;subst h1;cases r1;rw[aV]at h2;subst h2;cases r2;rw[show cI (.non) (.bl j)=false by simp[cI]];exact⟨.none_bool j,.none_bool j,.none_bool j⟩
 | .non,.tup j,x,y,u,v,hs,h1,h2,r1,r2=>by rw[aV]at h1;subst h1;cases r1;rw[aV]at h2;obtain⟨aw,E3,rfl,q2,_⟩:=h2;cases r2;obtain⟨sh,Ee,pw,_⟩:=I.tuple q2;rw[show cI (.non) (.tup j)=false by simp[cI]];exact⟨.none_tuple pw hu,.none_tuple pw hu,.none_tuple pw hu⟩
 | .non,.lst j,x,y,u,v,hs,h1,h2,r1,r2=>by
  rw[aV]at h1;subst h1;cases r1;rw[aV]at h2;obtain⟨aw,E3,rfl,q2,_⟩:=h2;cases r2;obtain⟨sh,Ee,DS,_⟩:=I.list (bc.of q2);have pw:=DS.isList
  rw[show cI (.non) (.lst j)=false by simp[cI]];exact⟨.none_list pw hu,.none_list pw hu,.none_list pw hu⟩
 | .bl i,.int j,x,y,u,v,hs,h1,h2,r1,r2=>by rw[aV]at h1;subst h1;cases r1;rw[aV]at h2;subst h2;obtain⟨w,rfl⟩:=r2;rw[cI];exact⟨.bool_int i j w,.bool_int i j w,.bool_int i j w⟩
 | .bl i,.str j,x,y,u,v,hs,h1,h2,r1,r2=>by rw[aV]at h1;subst h1;cases r1;rw[aV]at h2;subst h2;obtain⟨w,rfl⟩:=r2;rw[show cI (.bl i) (.str j)=false by simp[cI]];exact⟨.bool_str i j w,.bool_str i j w,.bool_str i j w⟩
 | .bl i,.non,x,y,u,v,hs,h1,h2,r1,r2=>by rw[aV]at h1;subst h1;cases r1;rw[aV]at h2;subst h2;cases r2;rw[show cI (.bl i) (.non)=false by simp[cI]];exact⟨.bool_none i,.bool_none i,.bool_none i⟩
 | .bl i,.bl j,x,y,u,v,hs,h1,h2,r1,r2=>by rw[aV]at h1;subst h1;cases r1;rw[aV]at h2;subst h2;cases r2;rw[cI];exact⟨.bool_bool i j,.bool_bool i j,.bool_bool i j⟩
 | .bl i,.tup j,x,y,u,v,hs,h1,h2,r1,r2=>by rw[aV]at h1;subst h1;cases r1;rw[aV]at h2;obtain⟨aw,E3,rfl,q2,_⟩:=h2;cases r2;obtain⟨sh,Ee,pw,_⟩:=I.tuple q2;rw[show cI (.bl i) (.tup j)=false by simp[cI]];exact⟨.bool_tuple i pw hu,.bool_tuple i pw hu,.bool_tuple i pw hu⟩
 | .bl i,.lst j,x,y,u,v,hs,h1,h2,r1,r2=>by
  rw[aV]at h1;subst h1;cases r1;rw[aV]at h2;obtain⟨aw,E3,rfl,q2,_⟩:=h2;cases r2;obtain⟨sh,Ee,DS,_⟩:=I.list (bc.of q2);have pw:=DS.isList
  rw[show cI (.bl i) (.lst j)=false by simp[cI]];exact⟨.bool_list i pw hu,.bool_list i pw hu,.bool_list i pw hu⟩
 | .tup i,.int j,x,y,u,v,hs,h1,h2,r1,r2=>by rw[aV]at h1;obtain⟨Dy,Eu,rfl,q1,_⟩:=h1;cases r1;obtain⟨rN,Fi,pt,_⟩:=I.tuple q1;rw[aV]at h2;subst h2;obtain⟨w,rfl⟩:=r2;rw[show cI (.tup i) (.int j)=false by simp[cI]];exact⟨.tuple_int j w pt hu,.tuple_int j w pt hu,.tuple_int j w pt hu⟩
 | .tup i,.str j,x,y,u,v,hs,h1,h2,r1,r2=>by rw[aV]at h1;obtain⟨Dy,Eu,rfl,q1,_⟩:=h1;cases r1;obtain⟨rN,Fi,pt,_⟩:=I.tuple q1;rw[aV]at h2;subst h2;obtain⟨w,rfl⟩:=r2;rw[show cI (.tup i) (.str j)=false by simp[cI]];exact⟨.tuple_str j w pt hu,.tuple_str j w pt hu,.tuple_str j w pt hu⟩
 | .tup i,.non,x,y,u,v,hs,h1,h2,r1,r2=>by rw[aV]at h1;obtain⟨Dy,Eu,rfl,q1,_⟩:=h1;cases r1;obtain⟨rN,Fi,pt,_⟩:=I.tuple q1;rw[aV]at h2;subst h2;cases r2;rw[show cI (.tup i) (.non)=false by simp[cI]];exact⟨.tuple_none pt hu,.tuple_none pt hu,.tuple_none pt hu⟩
 | .tup i,.bl j,x,y,u,v,hs,h1,h2,r1,r2=>by rw[aV]at h1;obtain⟨Dy,Eu,rfl,q1,_⟩:=h1;cases r1;obtain⟨rN,Fi,pt,_⟩:=I.tuple q1;rw[aV]at h2;subst h2;cases r2;rw[show cI (.tup i) (.bl j)=false by simp[cI]];exact⟨.tuple_bool j pt hu,.tuple_bool j pt hu,.tuple_bool j pt hu⟩
 | .tup ds,.tup es,x,y,u,v,hs,h1,h2,r1,r2=>by cases hs
 | .tup i,.lst j,x,y,u,v,hs,h1,h2,r1,r2=>by
  rw[aV]at h1;obtain⟨Dy,Eu,rfl,q1,_⟩:=h1;cases r1;obtain⟨rN,Fi,pt,_⟩:=I.tuple q1;rw[aV]at h2;obtain⟨aw,E3,rfl,q2,_⟩:=h2;cases r2;obtain⟨sh,Ee,DS,_⟩:=I.list (bc.of q2);have pw:=DS.isList
  rw[show cI (.tup i) (.lst j)=false by simp[cI]];exact⟨.tuple_list pt pw hu,.tuple_list pt pw hu,.tuple_list pt pw hu⟩
 | .lst i,.int j,x,y,u,v,hs,h1,h2,r1,r2=>by
  rw[aV]at h1;obtain⟨Dy,Eu,rfl,q1,_⟩:=h1;cases r1;obtain⟨rN,Fi,D9,_⟩:=I.list (bc.of q1);have pt:=D9.isList
  rw[aV]at h2;subst h2;obtain⟨w,rfl⟩:=r2;rw[show cI (.lst i) (.int j)=false by simp[cI]];exact⟨.list_int j w pt hu,.list_int j w pt hu,.list_int j w pt hu⟩
 | .lst i,.str j,x,y,u,v,hs,h1,h2,r1,r2=>by
  rw[aV]at h1;obtain⟨Dy,Eu,rfl,q1,_⟩:=h1;cases r1;obtain⟨rN,Fi,D9,_⟩:=I.list (bc.of q1);have pt:=D9.isList
  rw[aV]at h2;subst h2;obtain⟨w,rfl⟩:=r2;rw[show cI (.lst i) (.str j)=false by simp[cI]];exact⟨.list_str j w pt hu,.list_str j w pt hu,.list_str j w pt hu⟩
 | .lst i,.non,x,y,u,v,hs,h1,h2,r1,r2=>by
  rw[aV]at h1;obtain⟨Dy,Eu,rfl,q1,_⟩:=h1;cases r1;obtain⟨rN,Fi,D9,_⟩:=I.list (bc.of q1);have pt:=D9.isList
  rw[aV]at h2;subst h2;cases r2;rw[show cI (.lst i) (.non)=false by simp[cI]];exact⟨.list_none pt hu,.list_none pt hu,.list_none pt hu⟩
 | .lst i,.bl j,x,y,u,v,hs,h1,h2,r1,r2=>by
  rw[aV]at h1;obtain⟨Dy,Eu,rfl,q1,_⟩:=h1;cases r1;obtain⟨rN,Fi,D9,_⟩:=I.list (bc.of q1);have pt:=D9.isList
  rw[aV]at h2;subst h2;cases r2;rw[show cI (.lst i) (.bl j)=false by simp[cI]];exact⟨.list_bool j pt hu,.list_bool j pt hu,.list_bool j pt hu⟩
 | .lst i,.tup j,x,y,u,v,hs,h1,h2,r1,r2=>by
  rw[aV]at h1;obtain⟨Dy,Eu,rfl,q1,_⟩:=h1;cases r1;obtain⟨rN,Fi,D9,_⟩:=I.list (bc.of q1);have pt:=D9.isList
  rw[aV]at h2;obtain⟨aw,E3,rfl,q2,_⟩:=h2;cases r2;obtain⟨sh,Ee,pw,_⟩:=I.tuple q2;rw[show cI (.lst i) (.tup j)=false by simp[cI]];exact⟨.list_tuple pt pw hu,.list_tuple pt pw hu,.list_tuple pt pw hu⟩
 | .lst ds,.lst es,x,y,u,v,hs,h1,h2,r1,r2=>by cases hs
theorem nq(I:Inv X ac σ H s){a:Addr}{xs ys:List V}(h:bc X.K H a xs)(h':aP X.K H a ys):False:=by obtain⟨_,_,p,_⟩:=I.list h;obtain⟨_,_,p',_⟩:=I.tuple h';exact SeqAt.ne_of_list_tuple p.isList p' rfl
mutual
theorem aV.inj(I:Inv X ac σ H s):∀{d e:D}{v:V},aV X.K H d v->aV X.K H e v->d=e
 | .int i,.int j,v,h1,h2=>by rw[aV]at h1;rw[aV]at h2;subst h1;injection h2 with h2;rw[h2]
 | .int i,.str j,v,h1,h2=>by rw[aV]at h1;rw[aV]at h2;subst h1;cases h2
 | .int i,.non,v,h1,h2=>by rw[aV]at h1;rw[aV]at h2;subst h1;cases h2
 | .int i,.bl j,v,h1,h2=>by rw[aV]at h1;rw[aV]at h2;subst h1;cases h2
 | .int i,.tup j,v,h1,h2=>by rw[aV]at h1;rw[aV]at h2;obtain⟨a,vs,rfl,q,g⟩:=h2;cases h1
 | .int i,.lst j,v,h1,h2=>by rw[aV]at h1;rw[aV]at h2;obtain⟨a,vs,rfl,q,g⟩:=h2;cases h1
 | .str i,.int j,v,h1,h2=>by rw[aV]at h1;rw[aV]at h2;subst h1;cases h2
 | .str i,.str j,v,h1,h2=>by rw[aV]at h1;rw[aV]at h2;subst h1;injection h2 with h2;rw[h2]
 | .str i,.non,v,h1,h2=>by rw[aV]at h1;rw[aV]at h2;subst h1;cases h2
 | .str i,.bl j,v,h1,h2=>by rw[aV]at h1;rw[aV]at h2;subst h1;cases h2
 | .str i,.tup j,v,h1,h2=>by rw[aV]at h1;rw[aV]at h2;obtain⟨a,vs,rfl,q,g⟩:=h2;cases h1
 | .str i,.lst j,v,h1,h2=>by rw[aV]at h1;rw[aV]at h2;obtain⟨a,vs,rfl,q,g⟩:=h2;cases h1
 | .non,.int j,v,h1,h2=>by rw[aV]at h1;rw[aV]at h2;subst h1;cases h2
 | .non,.str j,v,h1,h2=>by rw[aV]at h1;rw[aV]at h2;subst h1;cases h2
 | .non,.non,v,h1,h2=>rfl
 | .non,.bl j,v,h1,h2=>by rw[aV]at h1;rw[aV]at h2;subst h1;cases h2
 | .non,.tup j,v,h1,h2=>by rw[aV]at h1;rw[aV]at h2;obtain⟨a,vs,rfl,q,g⟩:=h2;cases h1
 | .non,.lst j,v,h1,h2=>by rw[aV]at h1;rw[aV]at h2;obtain⟨a,vs,rfl,q,g⟩:=h2;cases h1
 | .bl i,.int j,v,h1,h2=>by rw[aV]at h1;rw[aV]at h2;subst h1;cases h2
 | .bl i,.str j,v,h1,h2=>by rw[aV]at h1;rw[aV]at h2;subst h1;cases h2
 | .bl i,.non,v,h1,h2=>by rw[aV]at h1;rw[aV]at h2;subst h1;cases h2
 | .bl i,.bl j,v,h1,h2=>by rw[aV]at h1;rw[aV]at h2;subst h1;injection h2 with h2;rw[h2]
 | .bl i,.tup j,v,h1,h2=>by rw[aV]at h1;rw[aV]at h2;obtain⟨a,vs,rfl,q,g⟩:=h2;cases h1
 | .bl i,.lst j,v,h1,h2=>by rw[aV]at h1;rw[aV]at h2;obtain⟨a,vs,rfl,q,g⟩:=h2;cases h1
 | .tup i,.int j,v,h1,h2=>by rw[aV]at h1;rw[aV]at h2;obtain⟨a,vs,rfl,q,g⟩:=h1;cases h2
 | .tup i,.str j,v,h1,h2=>by rw[aV]at h1;rw[aV]at h2;obtain⟨a,vs,rfl,q,g⟩:=h1;cases h2
 | .tup i,.non,v,h1,h2=>by rw[aV]at h1;rw[aV]at h2;obtain⟨a,vs,rfl,q,g⟩:=h1;cases h2
 | .tup i,.bl j,v,h1,h2=>by rw[aV]at h1;rw[aV]at h2;obtain⟨a,vs,rfl,q,g⟩:=h1;cases h2
 | .tup i,.tup j,v,h1,h2=>by rw[aV]at h1;rw[aV]at h2;obtain⟨a,vs,rfl,q,g⟩:=h1;obtain⟨b,ws,e,q',g'⟩:=h2;cases e;rw[I.mi q' q]at g';rw[aD.inj I g g']
 | .tup i,.lst j,v,h1,h2=>by rw[aV]at h1;rw[aV]at h2;obtain⟨a,vs,rfl,q,g⟩:=h1;obtain⟨b,ws,e,q',g'⟩:=h2;cases e;exact(nq I (bc.of q') q).elim
 | .lst i,.int j,v,h1,h2=>by rw[aV]at h1;rw[aV]at h2;obtain⟨a,vs,rfl,q,g⟩:=h1;cases h2
 | .lst i,.str j,v,h1,h2=>by rw[aV]at h1;rw[aV]at h2;obtain⟨a,vs,rfl,q,g⟩:=h1;cases h2
 | .lst i,.non,v,h1,h2=>by rw[aV]at h1;rw[aV]at h2;obtain⟨a,vs,rfl,q,g⟩:=h1;cases h2
 | .lst i,.bl j,v,h1,h2=>by rw[aV]at h1;rw[aV]at h2;obtain⟨a,vs,rfl,q,g⟩:=h1;cases h2
 | .lst i,.tup j,v,h1,h2=>by rw[aV]at h1;rw[aV]at h2;obtain⟨a,vs,rfl,q,g⟩:=h1;obtain⟨b,ws,e,q',g'⟩:=h2;cases e;exact(nq I (bc.of q) q').elim
 | .lst i,.lst j,v,h1,h2=>by rw[aV]at h1;rw[aV]at h2;obtain⟨a,vs,rfl,q,g⟩:=h1;obtain⟨b,ws,e,q',g'⟩:=h2;cases e;rw[q]at q';cases q';rw[aD.inj I g g']
theorem aD.inj(I:Inv X ac σ H s):∀{ds es:List D}{vs:List V},aD X.K H ds vs->aD X.K H es vs->ds=es
 |[],[],vs,h1,h2=>rfl
 |[],e::es,vs,h1,h2=>by rw[aD]at h1;rw[aD]at h2;obtain⟨v,r,rfl,_⟩:=h2;cases h1
 |d::ds,[],vs,h1,h2=>by rw[aD]at h1;rw[aD]at h2;obtain⟨v,r,rfl,_⟩:=h1;cases h2
 |d::ds,e::es,vs,h1,h2=>by rw[aD]at h1;rw[aD]at h2;obtain⟨v,r,rfl,a1,a2⟩:=h1;obtain⟨v',r',z,b1,b2⟩:=h2;injection z with z1 z2;rw[←z1]at b1;rw[←z2]at b2;rw[aV.inj I a1 b1,aD.inj I a2 b2]
end
theorem Cq(I:Inv X ac σ H s):∀(n:Nat){A:Around}{d e:D}{x y:V}{u v:Value},d.depth<=n->A.units+n<cLine->aV X.K H d x->aV X.K H e y->RelV x u->RelV y v->both A s u v (cI d e):=by
 intro n;induction n with
 |zero =>intro A d e x y u v hd hu h1 h2 r1 r2;refine pL I (by omega) ?_ h1 h2 r1 r2;cases d<;>cases e<;>first|rfl | (rw[D.depth]at hd;omega)
 |succ n ih =>
  intro A d e x y u v hd hu h1 h2 r1 r2;cases hs:seqs d e with
  |false=>exact pL I (by omega) hs h1 h2 r1 r2
  |true =>
   have items:∀{ds es:List D}{vs ws:List V}{its its':List Value},1+b_ ds<=n+1->aD X.K H ds vs->aD X.K H es ws->Vals vs its->Vals ws its'->∀j (h1:j<its.toArray.size) (h2:j<its'.toArray.size),SeqAt.EqAt A.in1 s its.toArray[j] its'.toArray[j] (cI (ds.getD j .non) (es.getD j .non)):=by intro ds es vs ws its its' hdd g g' rv nG j j1 j2;obtain⟨x,e1,rx⟩:=yb rv j1;obtain⟨y,e2,ry⟩:=yb nG j2;obtain⟨d,ed,gd⟩:=g.get e1;obtain⟨e,ee,ge⟩:=g'.get e2;rw[yv ed,yv ee];have:=pV ed;exact(ih (by omega) (by show A.units+1+n<cLine;omega) gd ge rx ry).1
   cases d<;>cases e<;>first|cases hs|skip
   ·rename_i ds es;rw[D.depth]at hd;have g1:=h1;have g2:=h2;rw[aV]at h1;rw[aV]at h2;obtain⟨a,vs,rfl,q,g⟩:=h1;obtain⟨b,ws,rfl,q',g'⟩:=h2;cases r1;cases r2;obtain⟨its,rv,p,_⟩:=I.tuple q;obtain⟨its',nG,p',_⟩:=I.tuple q';have l1:its.toArray.size=ds.length:=by simp[←rv.length,g.length]
    have l2:its'.toArray.size=es.length:=by simp[←nG.length,g'.length]
    have z1:=SeqAt.RcAt.tuples p p' (by omega) (items hd g g' rv nG);have z2:=SeqAt.RcNeAt.tuples p p' (by omega) (items hd g g' rv nG);rw[l1,l2,Bc]at z1 z2;rw[cI];refine⟨?_,z1,z2⟩;by_cases hab:a=b
    ·subst hab;have e:=aV.inj I g1 g2;injection e with e;rw[e,iL];exact .same _
    ·exact .of_refs hab z1
   ·rename_i ds es;rw[D.depth]at hd;have g1:=h1;have g2:=h2;rw[aV]at h1;rw[aV]at h2;obtain⟨a,vs,rfl,q,g⟩:=h1;obtain⟨b,ws,rfl,q',g'⟩:=h2;cases r1;cases r2;obtain⟨its,rv,p,_⟩:=I.list (bc.of q);obtain⟨its',nG,p',_⟩:=I.list (bc.of q');have l1:its.toArray.size=ds.length:=by simp[←rv.length,g.length]
    have l2:its'.toArray.size=es.length:=by simp[←nG.length,g'.length]
    have zz:SeqAt.RcAt A s (.ref a) (.ref b) (fD ds es)/\SeqAt.RcNeAt A s (.ref a) (.ref b) (!fD ds es):=by
     by_cases hl:ds.length=es.length
     ·have z1:=SeqAt.RcAt.lists p.isList p'.isList (by rw[l1,l2,hl]) (by omega) (items hd g g' rv nG);have z2:=SeqAt.RcNeAt.lists p.isList p'.isList (by rw[l1,l2,hl]) (by omega) (items hd g g' rv nG);rw[l1,pd hl]at z1 z2;exact⟨z1,z2⟩
     ·rw[pM hl];exact⟨SeqAt.RcAt.lists_lengths p.isList p'.isList (by rw[l1,l2];simpa using hl) (by omega),SeqAt.RcNeAt.lists_lengths p.isList p'.isList (by rw[l1,l2];simpa using hl) (by omega)⟩
    rw[cI];refine⟨?_,zz.1,zz.2⟩;by_cases hab:a=b
    ·subst hab;have e:=aV.inj I g1 g2;injection e with e;rw[e,iL];exact .same _
    ·exact .of_refs hab zz.1
def M5(K:S7)(A:Around):R2:=λx y H Q=>∃d e,aV K H d x/\aV K H e y/\A.units+d.depth<cLine/\Q (.bl (cI d e)) H
def MT(K:S7)(A:Around):R2:=λx y H Q=>∃d e,aV K H d x/\aV K H e y/\A.units+d.depth<cLine/\Q (.bl (!cI d e)) H
theorem w6:jk X (compareOp .Eq) (M5 X.K X.A):=by intro ac s σ H x y v u Q I rx ry h;obtain⟨d,e,h1,h2,hu,q⟩:=h;exact(Cq I d.depth (R3 _) hu h1 h2 rx ry).2.1 _ _ _ _ ⟨.bl _,H,I,rfl,q⟩
theorem v9:jk X (compareOp .NotEq) (MT X.K X.A):=by intro ac s σ H x y v u Q I rx ry h;obtain⟨d,e,h1,h2,hu,q⟩:=h;exact(Cq I d.depth (R3 _) hu h1 h2 rx ry).2.2 _ _ _ _ ⟨.bl _,H,I,rfl,q⟩
end
section
variable{K:S7}{H H':Hp}{a:Addr}
theorem aE.eC{xs:List V}(e:aE H H')(h:aP K H a xs):aP K H' a xs:=by
 rcases h with h|h
 ·rcases h with h|⟨o,h⟩
  ·exact .inl (.inl (e _ _ h))
  ·exact .inl (.inr ⟨o,e _ _ h⟩)
 ·exact .inr h
theorem aV.same(s:aE H H'){d:D}{v:V}(h:aV K H d v):aV K H' d v:=h.mono (λ_ _ q=>s.eC q) (λ_ _ q=>s _ _ q)
theorem aD.same(s:aE H H'){d:List D}{v:List V}(h:aD K H d v):aD K H' d v:=h.mono (λ_ _ q=>s.eC q) (λ_ _ q=>s _ _ q)
theorem rL:aV K H .non .non:=by rw[aV]
theorem lY(x:Int):aV K H (.int x) (.int x):=by rw[aV]
theorem gY(x:Str):aV K H (.str x) (.str x):=by rw[aV]
theorem sq(x:Bool):aV K H (.bl x) (.bl x):=by rw[aV]
theorem cE{vs:List V}{ds:List D}(h:H a=some (.tup vs))(g:aD K H ds vs):aV K H (.tup ds) (.ref a):=by rw[aV];exact⟨a,vs,rfl,aP.of h,g⟩
theorem kg{vs:List V}{ds:List D}(h:H a=some (.lst vs))(g:aD K H ds vs):aV K H (.lst ds) (.ref a):=by rw[aV];exact⟨a,vs,rfl,h,g⟩
end
def CD(xs:Array Nat):Prop:=xs.toList.Pairwise (· < ·)
theorem CD.lt{xs:Array Nat}(h:CD xs){i j a b:Nat}(hij:i<j)(ha:xs[i]? = some a)(hb:xs[j]? = some b):a<b:=by rw[←Array.getElem?_toList]at ha hb;obtain⟨h1,e1⟩:=Sj.mp ha;obtain⟨h2,e2⟩:=Sj.mp hb;rw[←e1,←e2];exact List.pairwise_iff_getElem.mp h i j h1 h2 hij
theorem p3{xs:Array Nat}(h:CD xs)(j:Nat):∀(fuel lo hi:Nat),hi<=xs.size->lo<=hi->hi-lo<=fuel->(∀i a,i<lo->xs[i]? = some a->a<j)->(∀i a,hi<=i->xs[i]? = some a->j<=a)->
  SetTable.below.go xs j fuel lo hi<=xs.size/\(∀i a,i<SetTable.below.go xs j fuel lo hi->xs[i]? = some a->a<j)/\∀i a,SetTable.below.go xs j fuel lo hi<=i->xs[i]? = some a->j<=a
 | 0,lo,hi,h1,h2,h3,h4,h5=>by
  have e:lo=hi:=by omega
  subst e;exact⟨h1,h4,h5⟩
 |fuel+1,lo,hi,h1,h2,h3,h4,h5=>by
  unfold SetTable.below.go;by_cases hlt:lo<hi
  ·rw[SM hlt];have hm:(lo+hi) / 2<xs.size:=by omega
   have eg:xs[(lo+hi) / 2]? = some xs[(lo+hi) / 2]:=Sy hm;have ed:xs.getD ((lo+hi) / 2) j=xs[(lo+hi) / 2]:=by simp[Array.getD,hm]
   dsimp only;rw[ed];by_cases hc:xs[(lo+hi) / 2]<j
   ·rw[SM hc];refine p3 h j fuel _ hi h1 (by omega) (by omega) (λi a hi' e=>?_) h5;by_cases q:i=(lo+hi) / 2
    ·subst q;rw[eg]at e;cases e;exact hc
    ·exact Nat.lt_trans (h.lt (by omega) e eg) hc
   ·rw[SK hc];refine p3 h j fuel lo _ (by omega) (by omega) (by omega) h4 λi a hi' e=>?_;by_cases q:i=(lo+hi) / 2
    ·subst q;rw[eg]at e;cases e;omega
    ·have:=h.lt (show(lo+hi) / 2<i by omega) eg e;omega
  ·rw[SK hlt];have e:lo=hi:=by omega
   subst e;exact⟨h1,h4,h5⟩
theorem lj{xs:Array Nat}(h:CD xs)(j:Nat):SetTable.below xs j<=xs.size/\(∀i a,i<SetTable.below xs j->xs[i]? = some a->a<j)/\∀i a,SetTable.below xs j<=i->xs[i]? = some a->j<=a :=
 p3 h j xs.size 0 xs.size (R3 _) (Sr _) (by omega) (λi a hi=>SJ hi (by omega)) λi a hi e=>by rw[Array.getElem?_eq_none hi]at e;cases e
theorem wO{xs:Array Nat}(h:CD xs){j:Nat}(hn:xs[SetTable.below xs j]?≠some j):CD (SetTable.insertAt xs (SetTable.below xs j) j):=by
 obtain⟨h1,h2,h3⟩:=lj h j;unfold CD;rw[SetTable.toList_insertAt];have hl:∀a∈xs.toList.take (SetTable.below xs j),a<j:=λa ha=>by
  obtain⟨i,hi⟩:=List.mem_iff_getElem?.mp ha;rw[List.getElem?_take]at hi;split at hi
  ·rename_i hlt;exact h2 i a hlt (by rw[←Array.getElem?_toList];exact hi)
  ·cases hi
 have hr:∀a∈xs.toList.drop (SetTable.below xs j),j<a:=λa ha=>by
  obtain⟨i,hi⟩:=List.mem_iff_getElem?.mp ha;rw[List.getElem?_drop,Array.getElem?_toList]at hi;have q:=h3 _ a (Nat.le_add_right _ i) hi;rcases Nat.lt_or_eq_of_le q with q|q
  ·exact q
  ·exfalso;subst q;cases i with
   |zero=>exact hn hi
   |succ i =>
    have hb:SetTable.below xs j<xs.size:=by have:=(Array.getElem?_eq_some_iff.mp hi).1;omega
    have e0:xs[SetTable.below xs j]? = some xs[SetTable.below xs j]:=Sy hb;have l1:=h3 _ _ (R3 _) e0;have l2:=h.lt (show SetTable.below xs j<SetTable.below xs j+(i+1) by omega) e0 hi;omega
 have hp:(xs.toList.take (SetTable.below xs j)++xs.toList.drop (SetTable.below xs j)).Pairwise (· < ·):=by rw[List.take_append_drop];exact h
 rw[List.pairwise_append]at hp;first
 | (rw[List.pairwise_append]
    refine⟨hp.1,?_,λa ha b hb=>?_⟩
    ·exact List.pairwise_cons.mpr ⟨hr,hp.2.1⟩
    ·rcases Sm.mp hb with e|hb
     ·subst e;exact hl a ha
     ·exact hp.2.2 a ha b hb)
 |skip
structure TabOk(t:SetTable)(b:Bool):Prop where
 Nf:CD t.place
 Nq:t.dummies = #[]
 led:t.led=b
theorem xG(j:Nat):SetTable.has #[] j=false:=by simp[SetTable.has]
theorem nt{t:SetTable}(hd:t.dummies = #[]){f:Nat->Int}{h:Int}(hf:∀i,(f i==h)=false):∀(fuel:Nat)(p:SetTable.Probe)(j:Nat)(d:Option Nat),p.dummy=none->SetTable.probe.go t f h fuel p=some (.empty j d)->
  d=none/\t.slot j=.empty
 | 0,p,j,d,_,e=>by unfold SetTable.probe.go at e;cases e
 |fuel+1,p,j,d,hp,e=>by
  have PC:∀p:SetTable.Probe,p.dummy=none->(t.advance p).dummy=none:=λp hp=>by
   unfold SetTable.advance;split
   ·exact hp
   ·exact hp
  unfold SetTable.probe.go at e;split at e
  ·rename_i hs;cases e;exact⟨hp,hs⟩
  ·rename_i hs;unfold SetTable.slot at hs;dsimp only at hs;rw[hd,xG]at hs;split at hs<;>cases hs
  ·rename_i i hs;rw[hf i]at e;exact nt hd hf fuel _ j d (PC p hp) e
theorem wa{t:SetTable}{j:Nat}(h:t.slot j=.empty):t.place[SetTable.below t.place j]?≠some j:=λe=>by unfold SetTable.slot at h;dsimp only at h;rw[e]at h;rw[SM (by simp)]at h;cases h
theorem yH(n:Nat):CD (Array.range n):=by unfold CD;rw[Array.toList_range];exact List.pairwise_lt_range
theorem i3{t:SetTable}{b:Bool}(h:TabOk t b)(n:Nat):TabOk (t.standIn n) b:=⟨yH n,rfl,h.led⟩
theorem yY{t:SetTable}{b:Bool}(ok:TabOk t b)(es:Array (Int×Value))(h:Int)(x:Value):TabOk (layNew t es h x).2.1 b:=by
 unfold layNew;split
 ·rename_i slot wd e;have hs:t.slot slot=.empty:=by
   unfold SetTable.freeSlot at e;split at e
   ·rename_i j d e2;unfold SetTable.probe at e2;obtain⟨q1,q2⟩:=nt ok.Nq (λ_=>by simp;omega) _ _ _ _ rfl e2;subst q1;cases e;exact q2
   ·cases e
  have o2:TabOk (t.put slot).1 b:=by unfold SetTable.put;refine⟨wO ok.Nf (wa hs),?_,ok.led⟩;show(if SetTable.has t.dummies slot=true then _ else t.dummies) = #[];rw[ok.Nq,xG];rfl
  dsimp only;unfold SetTable.orStandIn;split
  ·exact o2
  ·exact i3 o2 _
 ·exact i3 ok _
theorem qb{α:Type}(f:Nat->Option α)(n:Nat):(((List.range n).filterMap λj=>(f j).map (j,·)).map (·.1)).Pairwise (· < ·):=by
 have e:(((List.range n).filterMap λj=>(f j).map (j,·)).map (·.1))=(List.range n).filter λj=>(f j).isSome:=by rw[List.map_filterMap,←List.filterMap_eq_filter];congr 1;funext j;cases hf:f j<;>simp[Option.guard,hf]
 rw[e];exact List.Pairwise.filter _ List.pairwise_lt_range
theorem uL{t:SetTable}{b:Bool}(ok:TabOk t b)(es:Array (Int×Value))(n:Nat):TabOk (relayAll t es n).2.1 b:=by
 unfold relayAll;split
 ·rename_i t' order e;have o2:TabOk t' b:=by unfold SetTable.relaid SetTable.laid at e;simp only[bind,Option.bind_eq_some_iff]at e;obtain⟨owner,_,e⟩:=e;cases e;exact⟨qb _ _,rfl,ok.led⟩
  dsimp only;split
  ·exact o2
  ·exact i3 ok _
 ·exact i3 ok _
section
variable{prog:Program}{w:World}{A:Around}{E:Value->Shared->Prop}{s:Shared}
def bX(w:World):Bool:=w.params.followText "set-order"
def Ad:Value->Key
 | .int i _=>.inl i
 | .str x _=>.inr x
 |_=>.inl 0
theorem vm{k:Key}{v:Value}(h:gi k v=true):Ad v=k:=by rcases bC h with⟨i,t,rfl,rfl⟩|⟨x,t,rfl,rfl⟩<;>rfl
structure fu(prog:Program)(w:World)(h:Heap)(a:Addr)(ks:List Key)(es:Array (Int×Value))(ep:Nat)(t:SetTable):Prop where
 obj:h.get? a=some {cls:=.type "set",dict:=none,data:=.set es ep t,slots:=#[]}
 els:ElemsOf (bH prog w) es.toList
 few:es.size<scanBound
 fits:t.fits es.size=true
 tab:TabOk t (!bX w)
 LK:ks.Nodup
 keys:(es.toList.map λe=>Ad e.2).Perm ks
theorem fu.keep{h h':Heap}{a:Addr}{ks:List Key}{es:Array (Int×Value)}{ep:Nat}{t:SetTable}(r:fu prog w h a ks es ep t)(k:∀o,h.get? a=some o->h'.get? a=some o):fu prog w h' a ks es ep t :=
 ⟨k _ r.obj,r.els,r.few,r.fits,r.tab,r.LK,r.keys⟩
theorem fu.mem{h:Heap}{a:Addr}{ks:List Key}{es:Array (Int×Value)}{ep:Nat}{t:SetTable}(r:fu prog w h a ks es ep t){k:Key}:(∃e∈es.toList,(bH prog w).is k e.2=true)↔k∈ks:=by
 constructor
 ·rintro⟨e,he,hk⟩;refine r.keys.mem_iff.mp (Sl.mpr ⟨e,he,vm hk⟩)
 ·intro hk;obtain⟨e,he,q⟩:=Sl.mp (r.keys.mem_iff.mpr hk);obtain⟨⟨k',hk',_⟩,_⟩:=r.els e he;refine⟨e,he,?_⟩;have:Ad e.2=k':=vm hk';rw[←q,this];exact hk'
open Classical in
noncomputable def me (ks:List Key) (k:Key):List Key:=if k∈ks then ks else ks++[k]
theorem xR{h:Heap}{a:Addr}{es:Array (Int×Value)}{ep:Nat}{t:SetTable}(ho:h.get? a=some {cls:=.type "set",dict:=none,data:=.set es ep t,slots:=#[]})(es':Array (Int×Value))(t':SetTable) :
  (h.update a (Obj.putSet es' t')).get? a=some {cls:=.type "set",dict:=none,data:=.set es' (ep+1) t',slots:=#[]}:=by
 have:=Heap.get?_update_self (Obj.putSet es' t') ho (by rw[putSet_of es' t' rfl];rfl);rw[putSet_of es' t' rfl]at this;exact this
theorem sY{g:Bool->Sem Unit}(hg:∀(b:Bool)(s₁:Shared)(Q':Unit->Shared->Prop),Q' () s₁->wpAny (model prog w) A (g b) Q' E s₁)
  {a:Addr} {es:Array (Int×Value)} {ep:Nat} {t:SetTable} (ho:s.heap.get? a=some {cls:=.type "set",dict:=none,data:=.set es ep t,slots:=#[]})
  {es1:Array (Int×Value)} {t2:SetTable} {ks:List Key} (he:ElemsOf (bH prog w) es1.toList) (hb:es1.size<scanBound) (hf:t2.fits es1.size=true) (ht:TabOk t2 (!bX w)) (hn:ks.Nodup) (hk:(es1.toList.map λe=>Ad e.2).Perm ks)
  {wasDummy:Bool} {R:Option Bool->Shared->Prop}
  (h:∀h' es' ep' t',Heap.SameBut a s.heap h'->fu prog w h' a ks es' ep' t'->R (some true) {s with heap:=h'}) :
  wpAny (model prog w) A (do
    storeSet a es1 t2
    if(!wasDummy&&t2.tooFull)=true then do
      g (relayAll t2 es1 (SetTable.grown es1.size)).2.2
      storeSet a (relayAll t2 es1 (SetTable.grown es1.size)).1 (relayAll t2 es1 (SetTable.grown es1.size)).2.1
      pure (some true)
     else pure (some true)) R E s:=by
 refine RX (wpAny_storeSet_of ho rfl ?_ (fits_of_scanBound hb));have ho1:=xR ho es1 t2;have NZ:=Heap.SameBut.update s.heap a (Obj.putSet es1 t2);split
 ·have hp:=relayAll_perm t2 es1 (SetTable.grown es1.size);have hfr:=relayAll_fits t2 es1 (SetTable.grown es1.size);have hto:=uL ht es1 (SetTable.grown es1.size);generalize hRl:relayAll t2 es1 (SetTable.grown es1.size)=Rl at hp hfr hto⊢;obtain⟨es2,t3,gave2⟩:=Rl;dsimp only at hp hfr hto⊢;have hsz:es2.size=es1.size:=by rw[←S3,hp.length_eq,S3]
  have hb2:es2.size<scanBound:=by rw[hsz];exact hb
  refine RX (hg _ _ _ ?_);refine RX (wpAny_storeSet_of ho1 rfl ?_ (fits_of_scanBound hb2));exact RY (h _ es2 _ t3 (NZ.trans (Heap.SameBut.update _ a _)) ⟨xR ho1 es2 t3,he.perm hp,hb2,hfr,hto,hn,(hp.map _).trans hk⟩)
 ·exact RY (h _ es1 _ t2 NZ ⟨ho1,he,hb,hf,ht,hn,hk⟩)
theorem vo{a:Addr}{ks:List Key}{es:Array (Int×Value)}{ep:Nat}{t:SetTable}{k:Key}{x:Value}{Q:Bool->Shared->Prop}(hkey:gi k x=true)(hsc:x.scannable=true)(hS:fu prog w s.heap a ks es ep t)
  (hroom:ks.length+1<scanBound)
  (h:∀b h' es' ep' t',Heap.SameBut a s.heap h'->fu prog w h' a (me ks k) es' ep' t'->Q b {s with heap:=h'}) :
  wpAny (model prog w) A (setAddHashed a x ((bH prog w).hash k)) Q E s:=by
 have xX:es.size=ks.length:=by rw[←hS.keys.length_eq,R7,S3]
 have hkey':(bH prog w).is k x=true:=hkey;have hel:=hS.els;unfold setAddHashed setAddHashedIn;refine SA (RX (wpAny_setState_of hS.obj rfl hS.fits ?_));dsimp only;rw[byScan_of hsc hS.few hel];simp only[↓reduceIte];unfold setAddByScan;refine RX ?_;refine RX (wpAny_rule ?_);refine RX (wpAny_setScan_of hkey' hS.obj rfl hS.fits hel ?_);cases hr:List.findIdx? (λe=>(bH prog w).is k e.2) es.toList with
 |some j =>
  dsimp only;obtain⟨hj,hpj,_⟩:=List.findIdx?_eq_some_iff_getElem.mp hr;have hin:k∈ks:=hS.mem.mp ⟨es.toList[j],List.getElem_mem hj,hpj⟩;refine RY (RY ?_);have e:s ={s with heap:=s.heap}:=by cases s;rfl
  have:=h false s.heap es ep t (Heap.SameBut.refl a s.heap) (by unfold me;rw[SM hin];exact hS);rw[e];exact this
 |none =>
  dsimp only;have hout:k∉ks:=λhin=>by obtain⟨e,he,hp⟩:=hS.mem.mpr hin;have:=List.findIdx?_eq_none_iff.mp hr e he;rw[hp]at this;exact Bool.noConfusion this
  have hgw:∀(b:Bool){s₁:Shared}{Q':Unit->Shared->Prop},Q' () s₁->wpAny (model prog w) A (match b with|true=>rule "set.scan.the-table-gave-way"|false=>pure ()) Q' E s₁ :=
   λb s₁ Q' hq=>by cases b<;>first|exact RY hq|exact wpAny_rule hq
  have hperm:=layNew_perm t es ((bH prog w).hash k) x;have hfits:=layNew_fits t es ((bH prog w).hash k) x;have htab:=yY hS.tab es ((bH prog w).hash k) x;generalize hL:layNew t es ((bH prog w).hash k) x=L at hperm hfits htab⊢;obtain⟨es1,t1,wasDummy,gave⟩:=L;dsimp only at hperm hfits htab⊢;rw[Array.toList_push]at hperm;have hel1:ElemsOf (bH prog w) es1.toList:=(hel.push hkey' hsc).perm hperm;have hb1':es1.size<scanBound:=by rw[←S3,hperm.length_eq,R8,S3,xX];simpa using hroom
  have Of:me ks k=ks++[k]:=by unfold me;rw[SK hout]
  have zf:(me ks k).Nodup:=by rw[Of,List.nodup_append];exact⟨hS.LK,by simp,λx hx y hy e=>by simp at hy;subst hy;subst e;exact hout hx⟩
  have hkeys:(es1.toList.map λe=>Ad e.2).Perm (me ks k):=by rw[Of];refine(hperm.map _).trans ?_;rw[R9];refine hS.keys.append ?_;show [Ad x].Perm [k];rw[vm hkey]
  refine RX (hgw _ ?_);split
  ·refine RX ?_;rw[hashByValue_scannable 8 hsc];refine RY ?_;refine sY (ks:=me ks k) ?_ hS.obj hel1 hb1' ?_ ?_ zf hkeys ?_
   ·intro b s₁ Q' hq;cases b<;>first|exact RY hq|exact wpAny_rule hq
   ·split
    ·exact hfits
    ·exact SetTable.fits_plain_off hfits
   ·split
    ·exact htab
    ·exact⟨htab.Nf,htab.Nq,htab.led⟩
   ·intro h' es' ep' t' hsb hS';dsimp only;exact RY (h true h' es' ep' t' hsb hS')
  ·refine RX (RY ?_);simp only[↓reduceIte];refine sY (ks:=me ks k) ?_ hS.obj hel1 hb1' hfits htab zf hkeys ?_
   ·intro b s₁ Q' hq;cases b<;>first|exact RY hq|exact wpAny_rule hq
   ·intro h' es' ep' t' hsb hS';dsimp only;exact RY (h true h' es' ep' t' hsb hS')
noncomputable def la (key:Nat->Key):Nat->List Key
 | 0=>[]
 |i+1=>me (la key i) (key i)
theorem Bt(ks:List Key)(k:Key):(me ks k).length<=ks.length+1:=by
 unfold me;split
 ·omega
 ·simp
theorem pH(key:Nat->Key):∀i,(la key i).length<=i
 | 0=>R3 _
 |i+1=>R4 (Bt _ _) (Nat.succ_le_succ (pH key i))
theorem Cr{ks:List Key}{k x:Key}:x∈me ks k↔x∈ks\/x=k:=by
 unfold me;split
 ·rename_i h;exact⟨.inl,λq=>q.elim id λe=>e▸h⟩
 ·simp
theorem ve{key:Nat->Key}{x:Key}:∀{i:Nat},x∈la key i↔∃j,j<i/\key j=x
 | 0=>by simp[la]
 |i+1=>by
  show x∈me (la key i) (key i)↔_;rw[Cr,ve];constructor
  ·rintro(⟨j,hj,e⟩|e)
   ·exact⟨j,Nat.lt_succ_of_lt hj,e⟩
   ·exact⟨i,Nat.lt_succ_self _,e.symm⟩
  ·rintro⟨j,hj,e⟩;rcases Nat.lt_succ_iff_lt_or_eq.mp hj with q|q
   ·exact .inl ⟨j,q,e⟩
   ·exact .inr (by rw[←e,q])
end
section
variable{prog:Program}{w:World}{A:Around}{R:Result->Shared->Prop}{I:Addr}{fp wr:List Addr}{G:Array GenState->Array GenState->Prop}{n:Nat}{P:Nat->Value->Prop}{St:Nat->Shared->Prop}
theorem Bq(W:WalksS prog w A.in1 I fp wr G n P St)(S:Addr)(hSf:S∉fp)(key:Nat->Key)(hval:∀i v,P i v->gi (key i) v=true/\v.scannable=true)(hb:n+1<scanBound) :
  ∀(k i:Nat)(s:Shared)(es:Array (Int×Value))(ep:Nat)(t:SetTable),n-i=k->i<=n->St i s->fu prog w s.heap S (la key i) es ep t->
   (∀s' es' ep' t',Moved (S::wr) G s s'->fu prog w s'.heap S (la key n) es' ep' t'->R (.ok (.ret .none)) s')->
   codeAny (model prog w) A (.builtin "set.update.loop" ⟨[.ref S,.ref I],[]⟩) R s:=by
 have hSw:S∉wr:=λh=>hSf (W.sub _ h);have hsub:∀b∈wr,b∈S::wr:=λb hb=>Sg _ hb;intro k;induction k with
 |zero =>
  intro i s es ep t hk hi hst hS hR;have hin:i=n:=by omega
  subst hin;refine codeAny_builtin F.entry_set_update_loop ?_;rw[Around.under_plainId F.plain_set_update_loop _];show wpAny _ A.in1 (pyNext (.ref I) >>= _) _ _ s;refine RX (W.done s _ _ hst λs' hm=>?_);show wpAny _ A.in1 (ret Value.none) _ _ s';exact RY (hR s' es ep t (hm.mono hsub) (hS.keep λo e=>hm.heap S o hSw e))
 |succ k ih =>
  intro i s es ep t hk hi hst hS hR;have hlt:i<n:=by omega
  refine codeAny_builtin F.entry_set_update_loop ?_;rw[Around.under_plainId F.plain_set_update_loop _];show wpAny _ A.in1 (pyNext (.ref I) >>= _) _ _ s;refine RX (W.item i s _ _ hlt hst λv s' hP hst' hm=>?_);obtain⟨hv1,hv2⟩:=hval i v hP;have hS':=hS.keep (h':=s'.heap) λo e=>hm.heap S o hSw e;show wpAny _ A.in1 (holding [v] (setAdd S v) >>= _) _ _ s';refine RX (SA ?_);unfold setAdd;refine SA ?_;refine RX ((bH prog w).pyHash (k:=key i) hv1 ?_);have hroom:(la key i).length+1<scanBound:=by have:=pH key i;omega
  refine vo (s:={s' with toks:=s'.toks+1}) hv1 hv2 hS' hroom λb h' es' ep' t' hsb hS2=>?_;refine RY ⟨plainId_quiet F.plain_set_update_loop _,ih (i+1) _ es' ep' t' (by omega) hlt (W.frame _ s' _ _ hst' (Nat.le_succ _) λb hb o e=>?_) hS2 λs'' es2 RD t2 hm'' hS''=>?_⟩
  ·rw[hsb.2 b (λh:b=S=>hSf (by rw[←h];exact hb))];exact e
  ·refine hR s'' es2 RD t2 (Moved.trans W.gtrans ((hm.mono hsub).then_heap (Nat.le_succ _) λb o hb e=>?_) hm'') hS'';rw[hsb.2 b (λh:b=S=>hb (by rw[h];exact SE))];exact e
end
section
variable{prog:Program}{w:World}{A:Around}{E:Value->Shared->Prop}{s:Shared}
theorem tj(a:Value){Q₁:Value->Shared->Prop}
  (h:Q₁ (.ref s.heap.objs.size) {s with heap:=s.heap.push {cls:=.type "set",dict:=none,data:=.set #[] 0 (.fresh 0 0 (!bX w))}}) :
  codeAny (model prog w) A (.call (.builtin "set.__new__") ⟨[.type "set",a],[]⟩) (wants Q₁ E) s:=by
 refine codeAny_of_tree ?_;show wpAny _ A.in1 (do checkBuiltinCall "set.__new__" ⟨[.type "set",a],[]⟩;again (.builtin "set.__new__" ⟨[.type "set",a],[]⟩)) _ _ s;refine RX (wpAny_of_eq (F.newCall_set_1 a) (RY ⟨plainId_quiet F.plain_set_new _,codeAny_builtin F.entry_set_new ?_⟩));rw[Around.under_plainId F.plain_set_new _];unfold Builtin.«set.__new__» Builtin.Frozenset.newClass;have hsub:=sub_set_self;obtain⟨hp,g,d,tk,os⟩:=s;dsimp only
 wp_walk
 refine wpAny_askSetting (RY ?_);dsimp only;simp only[newObj];refine RX (wpAny_alloc (RY ?_));exact RY h
end
theorem sub_tuple_set:isSubtype (.type "tuple") (.type "set")=pure false:=by rw[isSubtype_type];kernel_rfl
theorem sub_tuple_frozenset:isSubtype (.type "tuple") (.type "frozenset")=pure false:=by rw[isSubtype_type];kernel_rfl
structure rk(prog:Program)(w:World)(T:String)(l:Addr)(items:Array Value):Prop where
 Hh:isSubtype (.type T) (.type "set")=pure false
 HS:isSubtype (.type T) (.type "frozenset")=pure false
 nd:(Value.type T==Value.type "dict")=false
 it:∀(A:Around)(s:Shared)(o:Obj),A.handled=none->s.heap.get? l=some o->o.cls=.type T->(∃n,o.data=.seq items n)->∃(oI:Obj)(St:Nat->Heap->Prop),
  (∀(E:Value->Shared->Prop)(Q:Value->Shared->Prop),Q (.ref s.heap.objs.size) {s with heap:=s.heap.push oI}->wpAny (model prog w) A (pyIter (.ref l)) Q E s)/\
  Walks prog w A s.heap.objs.size [s.heap.objs.size,l] [s.heap.objs.size] items.size (λi v=>items[i]? = some v) St/\St 0 (s.heap.push oI)
theorem src_list{prog:Program}{w:World}{l:Addr}{items:Array Value}:rk prog w "list" l items where
 Hh:=F.sub_list_set
 HS:=F.sub_list_frozenset
 nd:=by decide
 it:=λA s o hh ho hc hd=>by have hl:s.heap.IsList l items:=⟨o,ho,hc,hd⟩;refine⟨_,_,λE Q q=>wpAny_pyIter_list hl q,Walks.list hh _ l (Sq (R0 ho)) items,⟨_,R1 _ rfl,rfl,rfl⟩,hl.push _⟩
theorem Ei{prog:Program}{w:World}{l:Addr}{items:Array Value}:rk prog w "tuple" l items where
 Hh:=sub_tuple_set
 HS:=sub_tuple_frozenset
 nd:=by decide
 it:=λA s o hh ho hc hd=>by have hl:s.heap.IsTuple l items:=⟨o,ho,hc,hd⟩;refine⟨_,_,λE Q q=>wpAny_pyIter_tuple hl q,Walks.tuple hh _ l (Sq (R0 ho)) items,⟨_,R1 _ rfl,rfl,rfl⟩,hl.push _⟩
section
variable{prog:Program}{w:World}{A:Around}{E:Value->Shared->Prop}{s:Shared}
theorem tX{T:String}{l:Addr}{items:Array Value}{o:Obj}{key:Nat->Key}{Q:Value->Shared->Prop}(src:rk prog w T l items)
  (hh:A.handled=none) (ho:s.heap.get? l=some o) (hc:o.cls=.type T) (hdt:∃n,o.data=.seq items n) (hi:∀i v,items[i]? = some v->gi (key i) v=true/\v.scannable=true) (hb:items.size+1<scanBound)
  (h:∀(h':Heap)(tk:Nat) es ep t,fu prog w h' s.heap.objs.size (la key items.size) es ep t->(∀b o,s.heap.get? b=some o->h'.get? b=some o)->Q (.ref s.heap.objs.size) {s with heap:=h',toks:=tk}) :
  wpAny (model prog w) A (call (.type "set") [.ref l]) Q E s:=by
 obtain⟨c,tl,hmro⟩:=F.called_set.mro;have hmade:=F.called_set.made;have hsub:=F.called_set.sub;refine wpAny_call (codeAny_of_tree ?_);show wpAny _ _ (callAny (.type "set") _) _ _ _;refine RY ⟨Code.quiet_builtin _ (by decide +kernel),codeAny_builtin F.entry_type_call ?_⟩;rw[Around.under_plain (weight_type_call_type "set" [.ref l] []) rfl];have h1:=F.called_set.notType;have h2:=F.called_set.canCreate;have hct:=F.typeCall_set_1 (.ref l);repeat (any_goals (first|assumption|wp_step))
 refine codeAny_mono (tj (.ref l) (E:=E) (Q₁:=λobj s₁=>obj=.ref s.heap.objs.size/\s₁ ={s with heap:=s.heap.push {cls:=.type "set",dict:=none,data:=.set #[] 0 (.fresh 0 0 (!bX w))}}) ⟨rfl,rfl⟩) λr s₁ hr=>?_;cases r with
 |error e=>exact hr
 |ok fl =>
  cases fl with
  |ret obj =>
   obtain⟨rfl,rfl⟩:=hr;have hS:(s.heap.push {cls:=.type "set",dict:=none,data:=.set #[] 0 (.fresh 0 0 (!bX w))}).get? s.heap.objs.size=some {cls:=.type "set",dict:=none,data:=.set #[] 0 (.fresh 0 0 (!bX w))}:=R1 _ rfl;have hT:Shared.TypeIs {s with heap:=s.heap.push {cls:=.type "set",dict:=none,data:=.set #[] 0 (.fresh 0 0 (!bX w))}} (.ref s.heap.objs.size) "set":=⟨_,hS,rfl⟩;have hli:=F.called_set.init.lookup;have hbi:=F.called_set.init.bind (.ref s.heap.objs.size);repeat (any_goals (first|assumption|wp_step))
   refine codeAny_mono (codeAny_call_builtin (R:=wants (λr s₂=>r=.none/\∃h' tk es ep t,s₂ ={s with heap:=h',toks:=tk}/\
     fu prog w h' s.heap.objs.size (la key items.size) es ep t/\(∀b o,s.heap.get? b=some o->h'.get? b=some o)) E) F.called_set.init.plain F.entry_set_init (check_set_init_1 hT ?_)) λr₂ s₂ hr₂=>?_
   ·have ho':(s.heap.push {cls:=.type "set",dict:=none,data:=.set #[] 0 (.fresh 0 0 (!bX w))}).get? l=some o:=RZ _ ho;have RK:Shared.TypeIs {s with heap:=s.heap.push {cls:=.type "set",dict:=none,data:=.set #[] 0 (.fresh 0 0 (!bX w))}} (.ref l) T:=⟨_,ho',hc⟩;have hsls:=src.Hh;have hslf:=src.HS;have hne:=src.nd;obtain⟨oI,St,hit,W,st⟩:=src.it A.in1.in1.in1 {s with heap:=s.heap.push {cls:=.type "set",dict:=none,data:=.set #[] 0 (.fresh 0 0 (!bX w))}} o (by simpa using hh) ho' hc hdt;unfold Builtin.«set.__init__» noKeywords Builtin.Frozenset.updateFrom;generalize hPI:pyIter=PI
    wp_walk
    subst hPI;refine wpAny_of_in1 (hit _ _ ?_);refine RX (wpAny_runValue ?_);have hlS:l<s.heap.objs.size:=R0 ho;have hsz:(s.heap.push {cls:=.type "set",dict:=none,data:=.set #[] 0 (.fresh 0 0 (!bX w))}).objs.size=s.heap.objs.size+1:=Heap.size_push _ _;have hSf:s.heap.objs.size∉[(s.heap.push {cls:=.type "set",dict:=none,data:=.set #[] 0 (.fresh 0 0 (!bX w))}).objs.size,l]:=by rw[hsz];simp only[Sm,SN,or_false,not_or];exact⟨Sq (Nat.lt_succ_self _),Nat.ne_of_gt hlS⟩
    refine Bq W.toS s.heap.objs.size hSf key (λi v hv=>hi i v hv) hb (items.size-0) 0 _ #[] 0 (SetTable.fresh 0 0 (!bX w)) (by omega) (Sr _) st ?hS0 ?hR
    case hS0 =>have hget:=RZ oI hS;exact⟨hget,λe he=>SJ he (by simp),by unfold scanBound;decide,by simp[SetTable.fits,SetTable.fresh,SetTable.fill],⟨List.Pairwise.nil,rfl,rfl⟩,List.nodup_nil,by simp[la]⟩
    case hR =>
     intro s' es' ep' t' hm hS';obtain⟨h',g',d',tk',os'⟩:=s';have eg:g'=s.gens:=hm.gens;have ed:d'=s.drawn:=hm.drawn;have eo:os'=s.os:=hm.os;subst eg;subst ed;subst eo;show wpAny _ _ _ _ _ _;refine RY ?_;show wpAny _ _ (ret Value.none) _ _ _;refine RY ⟨rfl,h',tk',es',ep',t',rfl,hS',λb o e=>?_⟩;have hb1:b≠s.heap.objs.size:=Sq (R0 e);have hb2:b≠(s.heap.push {cls:=.type "set",dict:=none,data:=.set #[] 0 (.fresh 0 0 (!bX w))}).objs.size:=by rw[hsz];exact Sq (Nat.lt_succ_of_lt (R0 e))
     exact hm.heap b o (by simp only[Sm,SN,or_false,not_or];exact⟨hb1,hb2⟩) (RZ _ (RZ _ e))
   ·cases r₂ with
    |error e=>exact hr₂
    |ok fl₂ =>
     cases fl₂ with
     |ret r =>
      obtain⟨rfl,h',tk,es,ep,t,rfl,hS',hk'⟩:=hr₂;repeat (any_goals (first|assumption|wp_step))
      exact h _ _ es ep t hS' hk'
     |_=>exact hr₂.elim
  |_=>exact hr.elim
end
theorem nP:entryFor table "set.__iter__"=some Builtin.«frozenset.__iter__» :=
 entryFor_alias (id':="frozenset.__iter__") (by kernel_rfl) rfl (by decide +kernel) (by kernel_rfl)
theorem eJ:Slot "set_iterator" "__next__" "set_iterator.__next__" :=
 .of (owner:="set_iterator") (n:="__next__") (by rw[typeLookup_type,builtinLookup_eq_fast];kernel_rfl) (by decide +kernel) (by decide +kernel) (by decide +kernel)
  (by first|exact .inl (by decide +kernel)|exact .inr (by decide +kernel)) (by rw[isSubtype_type];kernel_rfl)
theorem p8:entryFor table "set_iterator.__next__"=some Builtin.«set_iterator.__next__»:=entryFor_of_fast (by kernel_rfl)
theorem sC(a:Value):argsOk "set_iterator.__next__" ⟨[a],[]⟩:=by unfold argsOk;kernel_rfl
section
variable{prog:Program}{w:World}{A:Around}{E:Value->Shared->Prop}{s:Shared}
theorem yU{src:Source}{n:Nat}{Q:Nat->Shared->Prop}(hn:n≠0)(h:∀k d,k<n->Q k {s with drawn:=d}):wpAny (model prog w) A (choose src n) Q E s:=λ_ _ _ =>
 ⟨hn,h _ _ (Nat.mod_lt _ (Nat.pos_of_ne_zero hn))⟩
theorem iz{α:Type}:∀{xs:List α}{i:Nat}{x:α},xs[i]? = some x->(x::xs.eraseIdx i).Perm xs
 |[],i,x,h=>by simp at h
 |y::ys,0,x,h=>by
  have e:y=x:=by simpa using h
  subst e;exact List.Perm.refl _
 |y::ys,i+1,x,h=>by
  have h':ys[i]? = some x:=by simpa using h
  exact(List.Perm.swap _ _ _).trans ((iz h').cons y)
theorem l5{α:Type}:∀(n:Nat)(xs:List α)(s:Shared){Q:List α->Shared->Prop},xs.length=n->(∀ys d,ys.Perm xs->Q ys {s with drawn:=d})->wpAny (model prog w) A (drawOrder n xs) Q E s
 | 0,xs,s,Q,e,h=>by have:xs=[]:=List.length_eq_zero_iff.mp e;subst this;unfold drawOrder;exact RY (h [] s.drawn (List.Perm.refl _))
 |n+1,[],s,Q,e,h=>by cases e
 |n+1,x::xs,s,Q,e,h=>by unfold drawOrder;refine RX (yU (by simp) λk d hk=>?_);have hk':(x::xs)[k]? = some (x::xs)[k]:=Sd hk;rw[hk'];dsimp only;refine RX (l5 n _ _ (by rw[List.length_eraseIdx_of_lt hk,e];rfl) λys d' hp=>?_);exact RY (h _ d' ((hp.cons _).trans (iz hk')))
abbrev e9(first:Value)(i:Nat)(S:Addr)(n ep:Nat):Obj:={cls:=.type "set_iterator",data:=.fields #[first,.int i 0,.ref S,.int n 0,.int ep 0]}
def mz(es:Array (Int×Value))(t:SetTable):Bool:=!t.plain&&decide (es.size > 1)
theorem AL{S:Addr}{ks:List Key}{es:Array (Int×Value)}{ep:Nat}{t:SetTable}{Q:Value->Shared->Prop}(hS:fu prog w s.heap S ks es ep t)
  (h1:(!bX w&&mz es t)=false->Q (.ref s.heap.objs.size) {s with heap:=s.heap.push (e9 (.int 0 0) 0 S es.size ep)})
  (h2:(!bX w&&mz es t)=true->∀(d:Drawn)(ps:List Nat),ps.Perm (List.range es.size)->Q (.ref (s.heap.objs.size+1)) {s with heap:=(s.heap.push {cls:=.type "tuple",data:=.seq (ps.map λ(i:Nat)=>Value.int i 0).toArray}).push (e9 (.ref s.heap.objs.size) 0 S es.size ep),drawn:=d}) :
  wpAny (model prog w) A (pyIter (.ref S)) Q E s:=by
 have hT:s.TypeIs (.ref S) "set":=⟨_,hS.obj,rfl⟩;have hz:es.size<=sizeLine:=fits_of_scanBound hS.few;refine wpAny_pyIter_slot hT F.slot_set_iter (SY F.slot_set_iter hT nP ?_ (F.args_set_iter_1 _));unfold Builtin.«frozenset.__iter__» Builtin.Frozenset.slot0 slotArgs;simp only[List.isEmpty_nil,Bool.not_true,Bool.false_eq_true,↓reduceIte,bind_assoc,List.length_nil,bne_self_eq_false];unfold Builtin.Frozenset.addrOf Builtin.Frozenset.sizeOf;refine RX (RY ?_);try dsimp only
 refine RX (RY ?_);refine RX (RX (wpAny_setEntries_of hS.obj rfl hS.fits (RY ?_)));unfold setDrawn setsByText;refine RX (RX (wpAny_setState_of hS.obj rfl hS.fits (RX (RX (wpAny_askSetting (RY (RY ?_)))))));show wpAny _ _ (if(!bX w&&mz es t)=true then _ else _) _ _ _;cases hb:(!bX w&&mz es t)
 ·rw[SK (by simp)];refine RX (RY ?_);refine RX (wpAny_setEpoch_of hS.obj rfl hS.fits ?_);refine RX (SD (RY ⟨_,rfl,"set_iterator",_,⟨_,R1 _ rfl,rfl⟩,eJ.lookup,?_⟩));exact h1 hb
 ·rw[SM rfl];refine RX (l5 es.size (List.range es.size) s (by simp) λps d hp=>?_);have hl:ps.length=es.size:=by rw[hp.length_eq];simp
  refine RX (wpAny_newTuple ?_ (by rw[R7,hl];exact hz));have hS2:=hS.keep (h':=s.heap.push {cls:=.type "tuple",data:=.seq (ps.map λ(i:Nat)=>rawInt i).toArray}) λo e=>RZ _ e;refine RX (wpAny_setEpoch_of hS2.obj rfl hS2.fits ?_);refine RX (SD (RY ⟨_,rfl,"set_iterator",_,⟨_,R1 _ rfl,rfl⟩,eJ.lookup,?_⟩));have:=h2 hb d ps hp;rw[size_push'];exact this
theorem mh{I S:Addr}{first:Value}{i n ep:Nat}{Q:Option Value->Shared->Prop}(hI:s.heap.get? I=some (e9 first i S n ep))
  (h:wpAny (model prog w) A.in1 (Builtin.«set_iterator.__next__» ⟨[.ref I],[]⟩) (λfin s'=>∃r,fin=.done (.ret r)/\Q (some r) s') (λe s'=>wpAny (model prog w) A (do if←isInstance e (.type "StopIteration")then pure none else throw e) Q E s') s) :
  wpAny (model prog w) A (pyNext (.ref I)) Q E s:=by
 have hT:s.TypeIs (.ref I) "set_iterator":=⟨_,hI,rfl⟩;unfold pyNext;refine RX (wpAny_attempt (wpAny_callSpecial?_slot (name:=Str.ofString "__next__") hT eJ (SY eJ hT p8 ?_ (sC _))));refine Sz h (λfin s' q=>?_) λe s' q=>?_
 ·obtain⟨r,rfl,q⟩:=q;exact⟨_,rfl,RY q⟩
 ·exact q
theorem lQ{I S:Addr}{first:Value}{i n ep:Nat}(hI:s.heap.get? I=some (e9 first i S n ep)){first':Value}{i':Nat}{fs:Array Value}(k:Nat)(v:Value)(hk:k<5)(e:(#[first,.int i 0,.ref S,.int n 0,.int ep 0]:Array Value).setIfInBounds k v=fs) :
  (s.heap.update I (Obj.mapFields (·.setIfInBounds k v))).get? I=some {cls:=.type "set_iterator",data:=.fields fs}:=by
 have:=Heap.get?_update_self (Obj.mapFields (·.setIfInBounds k v)) hI (Obj.isFreed_of_fields (Obj.data_mapFields (o:=e9 first i S n ep) rfl _));rw[this,←e];rfl
end
section
variable{prog:Program}{w:World}{A:Around}{E:Value->Shared->Prop}{s:Shared}
theorem sX{Q:Option Value->Shared->Prop}{h0:Heap}{I:Addr}(hh:A.handled=none)(hQ:∀h',Heap.ExtBut I h0 h'->Q none {s with heap:=h'})(hs:Heap.ExtBut I h0 s.heap) :
  wpAny (model prog w) A.in1 (newExc (.type "StopIteration") [] >>= λe=>(raiseNew e:Sem Fin)) (λfin s'=>∃r,fin=.done (.ret r)/\Q (some r) s') (λe s'=>wpAny (model prog w) A (do if←isInstance e (.type "StopIteration")then pure none else throw e) Q E s') s:=by
 refine RX ?_;simp only[newExc,newTuple];refine RX (SD ?_ (by size_fits));refine RX (m:=firstArgMember _ _) (wpAny_of_eq (a:=Value.none) (by first|rfl | (simp only[firstArgMember];rfl)) ?_);refine SD ?_ (by size_fits);simp only[raiseNew];refine RX (wpAny_handled ?_);rw[show A.in1.handled=none from hh];refine RX (RY (wpAny_throw ?_));refine RX (wpAny_isInstance (T:="StopIteration") (b:=true) ⟨_,R1 _ rfl,rfl⟩ isSubtype_stop ?_);exact RY (hQ _ ((hs.push _).push _))
theorem nZ{I S:Addr}{ks:List Key}{es:Array (Int×Value)}{i ep:Nat}{t:SetTable}{first:Value}{R:Fin->Shared->Prop}{F:Value->Shared->Prop}(hI:s.heap.get? I=some (e9 first i S es.size ep))(hS:fu prog w s.heap S ks es ep t)
  (h:wpAny (model prog w) A (if let .int slot _:=first then do
    match←setNext S slot.toNat i ep with
    |some (x,next) =>
     setField (.ref I) 0 (rawInt next)
     setField (.ref I) 1 (rawInt (i+1))
     ret x
    |none=>setField (.ref I) 2 .none;raiseNew (←newExc (.type "StopIteration") [])
   else do
    let some places←seqItems? first|unsupported "internal:set_iterator"
    match places[i]? with
    |some (.int place _) =>
     let x←setNextDrawn S place.toNat ep
     setField (.ref I) 1 (rawInt (i+1))
     ret x
    |some _=>unsupported "internal:set_iterator"
    |none=>setField (.ref I) 0 (rawInt 0);setField (.ref I) 2 .none;raiseNew (←newExc (.type "StopIteration") [])) R F s) :
  wpAny (model prog w) A (Builtin.«set_iterator.__next__» ⟨[.ref I],[]⟩) R F s:=by
 unfold Builtin.«set_iterator.__next__» slotArgs;simp only[List.isEmpty_nil,Bool.not_true,Bool.false_eq_true,↓reduceIte,bind_assoc,List.length_nil,bne_self_eq_false];refine RX (RY ?_);try dsimp only
 refine RX (wpAny_fieldsOf hI rfl ?_);dsimp only;refine RX (wpAny_setEntries_of hS.obj rfl hS.fits ?_);rw[SK (by simp)];exact h
theorem Fs{I S:Addr}{ks:List Key}{es:Array (Int×Value)}{i ep slot next:Nat}{t:SetTable}{v:Value}{Q:Option Value->Shared->Prop}(hI:s.heap.get? I=some (e9 (.int slot 0) i S es.size ep))(hS:fu prog w s.heap S ks es ep t)
  (hn:∀(Q:Option (Value×Nat)->Shared->Prop)(E:Value->Shared->Prop),Q (some (v,next)) s->wpAny (model prog w) A.in1 (setNext S slot i ep) Q E s)
  (hQ:∀h',h'.get? I=some (e9 (.int next 0) (i+1) S es.size ep)->(∀b,b≠I->h'.get? b=s.heap.get? b)->Q (some v) {s with heap:=h'}):wpAny (model prog w) A (pyNext (.ref I)) Q E s:=by
 refine mh hI (nZ hI hS ?_);dsimp only;refine RX (hn _ _ ?_);dsimp only;refine RX (wpAny_setField hI rfl (by simp) ?_);have h1:=lQ (s:=s) hI (first':=.none) (i':=0) (fs:=#[.int next 0,.int i 0,.ref S,.int es.size 0,.int ep 0]) 0 (rawInt next) (by decide) (by simp[rawInt]);refine RX (wpAny_setField h1 rfl (by simp) ?_);have h2:=lQ (s:={s with heap:=s.heap.update I (Obj.mapFields (·.setIfInBounds 0 (rawInt next)))}) (first:=.int next 0) (i:=i) (S:=S) (n:=es.size) (ep:=ep) h1 (first':=.none) (i':=0) (fs:=#[.int next 0,.int ((i+1:Nat):Int) 0,.ref S,.int es.size 0,.int ep 0]) 1 (rawInt ((i:Int)+1)) (by decide) (by simp[rawInt]);refine RY ⟨_,rfl,hQ _ h2 λb hb=>?_⟩;exact((Heap.SameBut.update _ I _).2 b hb).trans ((Heap.SameBut.update _ I _).2 b hb)
theorem HH{I S:Addr}{ks:List Key}{es:Array (Int×Value)}{i ep slot:Nat}{t:SetTable}{Q:Option Value->Shared->Prop}(hh:A.handled=none)(hI:s.heap.get? I=some (e9 (.int slot 0) i S es.size ep))(hS:fu prog w s.heap S ks es ep t)
  (hn:∀(Q:Option (Value×Nat)->Shared->Prop)(E:Value->Shared->Prop),Q none s->wpAny (model prog w) A.in1 (setNext S slot i ep) Q E s)
  (hQ:∀h',Heap.ExtBut I s.heap h'->Q none {s with heap:=h'}):wpAny (model prog w) A (pyNext (.ref I)) Q E s:=by
 refine mh hI (nZ hI hS ?_);dsimp only;refine RX (hn _ _ ?_);dsimp only;refine RX (wpAny_setField hI rfl (by simp) ?_);exact sX (s:={s with heap:=s.heap.update I (Obj.mapFields (·.setIfInBounds 2 .none))}) (I:=I) (h0:=s.heap) hh hQ (Heap.SameBut.update ..).extBut
theorem Fg{I S T:Addr}{ks:List Key}{es:Array (Int×Value)}{i ep p:Nat}{t:SetTable}{ps:Array Value}{hv:Int}{v:Value}{Q:Option Value->Shared->Prop}(hI:s.heap.get? I=some (e9 (.ref T) i S es.size ep))(hS:fu prog w s.heap S ks es ep t)
  (hT:s.heap.get? T=some {cls:=.type "tuple",data:=.seq ps}) (hp:ps[i]? = some (.int p 0)) (he:es[p]? = some (hv,v))
  (hQ:∀h',h'.get? I=some (e9 (.ref T) (i+1) S es.size ep)->(∀b,b≠I->h'.get? b=s.heap.get? b)->Q (some v) {s with heap:=h'}):wpAny (model prog w) A (pyNext (.ref I)) Q E s:=by
 refine mh hI (nZ hI hS ?_);dsimp only;unfold seqItems?;refine RX (RX (wpAny_load hT (RY ?_)));dsimp only;rw[hp];dsimp only;unfold setNextDrawn;refine RX (RX (wpAny_setState_of hS.obj rfl hS.fits ?_));dsimp only;rw[SK (by simp)];rw[show es[(p:Int).toNat]? = some (hv,v) from he];refine RY ?_;refine RX (wpAny_setField hI rfl (by simp) ?_);have h2:=lQ (s:=s) hI (first':=.none) (i':=0) (fs:=#[.ref T,.int ((i+1:Nat):Int) 0,.ref S,.int es.size 0,.int ep 0]) 1 (rawInt ((i:Int)+1)) (by decide) (by simp[rawInt]);exact RY ⟨_,rfl,hQ _ h2 λb hb=>(Heap.SameBut.update _ I _).2 b hb⟩
theorem GB{I S T:Addr}{ks:List Key}{es:Array (Int×Value)}{i ep:Nat}{t:SetTable}{ps:Array Value}{Q:Option Value->Shared->Prop}(hh:A.handled=none)(hI:s.heap.get? I=some (e9 (.ref T) i S es.size ep))(hS:fu prog w s.heap S ks es ep t)
  (hT:s.heap.get? T=some {cls:=.type "tuple",data:=.seq ps}) (hp:ps[i]? = none)
  (hQ:∀h',Heap.ExtBut I s.heap h'->Q none {s with heap:=h'}):wpAny (model prog w) A (pyNext (.ref I)) Q E s:=by
 refine mh hI (nZ hI hS ?_);dsimp only;unfold seqItems?;refine RX (RX (wpAny_load hT (RY ?_)));dsimp only;rw[hp];dsimp only;refine RX (wpAny_setField hI rfl (by simp) ?_);have h1:=lQ (s:=s) hI (first':=.none) (i':=0) (fs:=#[.int 0 0,.int i 0,.ref S,.int es.size 0,.int ep 0]) 0 (rawInt 0) (by decide) (by simp[rawInt]);refine RX (wpAny_setField h1 rfl (by simp) ?_);refine sX (s:={s with heap:=(s.heap.update I (Obj.mapFields (·.setIfInBounds 0 (rawInt 0)))).update I (Obj.mapFields (·.setIfInBounds 2 .none))}) (I:=I) (h0:=s.heap) hh hQ ?_;exact((Heap.SameBut.update s.heap I _).trans (Heap.SameBut.update _ I _)).extBut
end
theorem xP{α:Type}(next:Nat->Nat):∀(fuel k:Nat)(left:List α)(out:Array α),left.length=fuel->(pickOrder.go next fuel k left out).toList.Perm (out.toList++left)
 | 0,k,left,out,e=>by have:left=[]:=List.length_eq_zero_iff.mp e;subst this;unfold pickOrder.go;simp
 |fuel+1,k,left,out,e=>by
  unfold pickOrder.go;have hlt:next k % left.length<left.length:=Nat.mod_lt _ (by omega)
  have hg:left[next k % left.length]? = some left[next k % left.length]:=Sd hlt;rw[hg];dsimp only;refine(xP next fuel (k+1) _ _ (by rw[List.length_eraseIdx_of_lt hlt,e];rfl)).trans ?_;rw[Array.toList_push,List.append_assoc];refine List.Perm.append_left _ ?_;exact iz hg
theorem qM{α:Type}(next:Nat->Nat)(xs:Array α):(pickOrder next xs).toList.Perm xs.toList:=by
 unfold pickOrder;have:=xP next xs.size 0 xs.toList #[] (by simp)
 simpa using this
def Ep(place:Array Nat):Nat->Nat
 | 0=>0
 |i+1=>(place[i]?.getD 0)+1
theorem w8{place:Array Nat}(h:CD place):∀{i:Nat},i<=place.size->SetTable.below place (Ep place i)=i
 | 0,_=>by
  obtain⟨h1,h2,h3⟩:=lj h 0;show SetTable.below place 0=0;rcases Nat.eq_zero_or_pos (SetTable.below place 0)with q|q
  ·exact q
  ·have hz:0<place.size:=by omega
   have:=h2 0 _ q (Sy hz);omega
 |i+1,hi=>by
  have hlt:i<place.size:=hi;have eg:place[i]? = some place[i]:=Sy hlt;have es:Ep place (i+1)=place[i]+1:=by show(place[i]?.getD 0)+1=_;rw[eg];rfl
  rw[es];obtain⟨h1,h2,h3⟩:=lj h (place[i]+1);rcases Nat.lt_trichotomy (SetTable.below place (place[i]+1)) (i+1)with q|q|q
  ·have:=h3 i _ (by omega) eg;omega
  ·exact q
  ·have hlt2:i+1<place.size:=by omega
   have e2:place[i+1]? = some place[i+1]:=Sy hlt2;have a:=h2 (i+1) _ q e2;have b:=h.lt (Nat.lt_succ_self i) eg e2;omega
section
variable{prog:Program}{w:World}
def Nx(prog:Program)(w:World)(S:Addr)(ks:List Key)(es:Array (Int×Value))(ep:Nat)(t:SetTable)(sl:Nat->Nat)(vs:List Value):Prop :=
 ∀(i:Nat)(s:Shared)(A:Around)(E:Value->Shared->Prop)(Q:Option (Value×Nat)->Shared->Prop),fu prog w s.heap S ks es ep t->i<=es.size->Q ((vs[i]?).map λv=>(v,sl (i+1))) s->wpAny (model prog w) A (setNext S (sl i) i ep) Q E s
theorem Fn{S:Addr}{ks:List Key}{es:Array (Int×Value)}{ep:Nat}{t:SetTable}(hb:bX w=true):Nx prog w S ks es ep t (λ_=>0) ((pickOrder (w.params.setOrder S ep) es).toList.map (·.2)):=by intro i s A E Q hS hi q;unfold setNext setsByText;refine RX (wpAny_setState_of hS.obj rfl hS.fits ?_);dsimp only;refine RX (RX (wpAny_askSetting (RY ?_)));rw[SM (show(model prog w).w.params.followText "set-order"=true from hb),SK (by simp)];unfold setWalk setsByText;refine RX (RX (wpAny_setState_of hS.obj rfl hS.fits ?_));dsimp only;refine RX (RX (wpAny_askSetting (RY ?_)));rw[SM (show(model prog w).w.params.followText "set-order"=true from hb)];refine RX (wpAny_askSetting (RY (RY ?_)));rw[Sw,Option.map_map,Array.getElem?_toList]at q;exact q
theorem Cw{S:Addr}{ks:List Key}{es:Array (Int×Value)}{ep:Nat}{t:SetTable}(hb:bX w=false)(hd:mz es t=false):Nx prog w S ks es ep t (Ep t.place) (es.toList.map (·.2)):=by
 intro i s A E Q hS hi q;have hps:t.place.size=es.size:=by have:=hS.fits;simp[SetTable.fits]at this;exact this.1
 unfold setNext setsByText;refine RX (wpAny_setState_of hS.obj rfl hS.fits ?_);dsimp only;refine RX (RX (wpAny_askSetting (RY ?_)));rw[SK (show¬(model prog w).w.params.followText "set-order"=true by show¬bX w=true;rw[hb];decide)];have ML:t.led=true:=by rw[hS.tab.led,hb];rfl
 show wpAny _ _ (if mz es t=true then _ else _) _ _ _;rw[SK (by rw[hd];decide)];show wpAny _ _ ((if(!t.led && !es.isEmpty)=true then unsupported _ else pure ()) >>= _) _ _ _;rw[SK (by rw[ML];simp)];refine RX (RY (RY ?_));rw[w8 hS.tab.Nf (by rw[hps];exact hi)];rw[Sw,Option.map_map,Array.getElem?_toList]at q;by_cases hlt:i<es.size
 ·rw[Sy hlt]at q⊢;have hp2:i<t.place.size:=by rw[hps];exact hlt
  have e2:Ep t.place (i+1)=t.place[i]+1:=by show(t.place[i]?.getD 0)+1=_;rw[Sy hp2];rfl
  rw[Sy hp2];dsimp only[Option.map_some,Function.comp]at q⊢;rw[e2]at q;exact q
 ·rw[Array.getElem?_eq_none (by omega)]at q⊢;exact q
theorem ma:Slot "set_iterator" "__iter__" "set_iterator.__iter__" :=
 .of (owner:="set_iterator") (n:="__iter__") (by rw[typeLookup_type,builtinLookup_eq_fast];kernel_rfl) (by decide +kernel) (by decide +kernel) (by decide +kernel)
  (by first|exact .inl (by decide +kernel)|exact .inr (by decide +kernel)) (by rw[isSubtype_type];kernel_rfl)
theorem qi:entryFor table "set_iterator.__iter__"=some Builtin.«dict_keyiterator.__iter__» :=
 entryFor_alias (id':="dict_keyiterator.__iter__") (by kernel_rfl) rfl (by decide +kernel) (by kernel_rfl)
theorem sG(a:Value):argsOk "set_iterator.__iter__" ⟨[a],[]⟩:=by unfold argsOk;kernel_rfl
theorem xV{A:Around}{E:Value->Shared->Prop}{s:Shared}{I S:Addr}{first:Value}{i n ep:Nat}{Q:Value->Shared->Prop}(hI:s.heap.get? I=some (e9 first i S n ep))(h:Q (.ref I) s):wpAny (model prog w) A (pyIter (.ref I)) Q E s:=by have hT:s.TypeIs (.ref I) "set_iterator":=⟨_,hI,rfl⟩;refine wpAny_pyIter_slot hT ma (SY ma hT qi ?_ (sG _));show wpAny _ _ (ret (.ref I)) _ _ s;exact RY ⟨_,rfl,"set_iterator",_,hT,eJ.lookup,h⟩
theorem Av{A:Around}(hh:A.handled=none){I S:Addr}(hne:S≠I){ks:List Key}{es:Array (Int×Value)}{ep:Nat}{t:SetTable}{sl:Nat->Nat}{vs:List Value}(hv:vs.length=es.size)(hn:Nx prog w S ks es ep t sl vs) :
  Walks prog w A I [I,S] [I] es.size (λi v=>vs[i]? = some v) (λi h=>h.get? I=some (e9 (.int (sl i) 0) i S es.size ep)/\fu prog w h S ks es ep t) where
 sub:=λb hb=>by simp at hb;simp[hb]
 frame:=λ_ _ _ st hk=>⟨hk I (by simp) _ st.1,st.2.keep λo e=>hk S (by simp) o e⟩
 item:=λi s Q E hi st hQ=>by have e:vs[i]? = some (vs[i]'(by omega)):=Sd (by omega);refine Fs (v:=vs[i]'(by omega)) (next:=sl (i+1)) st.1 st.2 (λQ E q=>hn i s _ E Q st.2 (Nat.le_of_lt hi) (by rw[e];exact q)) λh' h1 h2=>?_;exact hQ _ h' s.toks e ⟨h1,st.2.keep λo q=>(h2 S hne).trans q⟩ λb o hb q=>(h2 b (by simpa using hb)).trans q
 done:=λs Q E st hQ=>HH hh st.1 st.2 (λQ E q=>hn es.size s _ E Q st.2 (R3 _) (by rw[List.getElem?_eq_none (by omega)];exact q)) λh' he=>hQ h' s.toks λb o hb e=>he b o (λh=>hb (by simp[h])) e
 self:=λi s Q E st hQ=>xV st.1 hQ
theorem wZ{A:Around}(hh:A.handled=none){I S T:Addr}(hne:S≠I)(hnt:T≠I){ks:List Key}{es:Array (Int×Value)}{ep:Nat}{t:SetTable}{ps:List Nat}(hp:ps.Perm (List.range es.size)) :
  Walks prog w A I [I,S,T] [I] es.size (λi v=>(ps.filterMap λj=>(es[j]?).map (·.2))[i]? = some v) (λi h=>h.get? I=some (e9 (.ref T) i S es.size ep)/\fu prog w h S ks es ep t/\h.get? T=some {cls:=.type "tuple",data:=.seq (ps.map λ(i:Nat)=>Value.int i 0).toArray}) where
 sub:=λb hb=>by simp at hb;simp[hb]
 frame:=λ_ _ _ st hk=>⟨hk I (by simp) _ st.1,st.2.1.keep λo e=>hk S (by simp) o e,hk T (by simp) _ st.2.2⟩
 item:=λi s Q E hi st hQ=>by
  have hl:ps.length=es.size:=by rw[hp.length_eq];simp
  have hlt:i<ps.length:=by omega
  have hpi:ps[i]<es.size:=List.mem_range.mp (hp.mem_iff.mp (List.getElem_mem hlt));have em:(ps.filterMap λj=>(es[j]?).map (·.2))=ps.map λj=>(es.getD j (0,.none)).2:=by
   have gen:∀l:List Nat,(∀j∈l,j<es.size)->(l.filterMap λj=>(es[j]?).map (·.2))=l.map λj=>(es.getD j (0,.none)).2:=by
    intro l;induction l with
    |nil=>intro _;rfl
    |cons a l ih =>intro hl;have ha:=hl a SE;rw[List.filterMap_cons,ih λj hj=>hl j (Sg _ hj)];simp[Array.getD,ha]
   exact gen ps λj hj=>List.mem_range.mp (hp.mem_iff.mp hj)
  refine Fg (p:=ps[i]) (hv:=es[ps[i]].1) (v:=es[ps[i]].2) st.1 st.2.1 st.2.2 (by simp[hlt]) (by rw[Sy hpi]) λh' h1 h2=>?_;refine hQ _ h' s.toks ?_ ⟨h1,st.2.1.keep λo q=>(h2 S hne).trans q,(h2 T hnt).trans st.2.2⟩ λb o hb q=>(h2 b (by simpa using hb)).trans q;rw[em,Sw,Sd hlt];simp[Array.getD,hpi]
 done:=λs Q E st hQ=>by
  have hl:ps.length=es.size:=by rw[hp.length_eq];simp
  exact GB hh st.1 st.2.1 st.2.2 (by simp[hl]) λh' he=>hQ h' s.toks λb o hb e=>he b o (λh=>hb (by simp[h])) e
 self:=λi s Q E st hQ=>xV st.1 hQ
end
section
variable{prog:Program}{w:World}{A:Around}{E:Value->Shared->Prop}{s:Shared}
theorem A4(hh:A.handled=none){S:Addr}{ks:List Key}{es:Array (Int×Value)}{ep:Nat}{t:SetTable}{Q:Value->Shared->Prop}(hS:fu prog w s.heap S ks es ep t)
  (h:∀(I:Addr)(h1:Heap)(d:Drawn)(fp:List Addr)(vs:List Value)(St:Nat->Heap->Prop),(∀b o,s.heap.get? b=some o->h1.get? b=some o)->s.heap.objs.size<=I->(∀b∈fp,b=S\/s.heap.objs.size<=b)->
   Walks prog w A I fp [I] es.size (λi v=>vs[i]? = some v) St->St 0 h1->vs.length=es.size->vs.Perm (es.toList.map (·.2))->Q (.ref I) {s with heap:=h1,drawn:=d}) :
  wpAny (model prog w) A (pyIter (.ref S)) Q E s:=by
 have hlt:S<s.heap.objs.size:=R0 hS.obj;refine AL hS (λhb=>?_) λhb d ps hp=>?_
 ·have key:∀sl vs,sl 0=0->vs.length=es.size->vs.Perm (es.toList.map (·.2))->Nx prog w S ks es ep t sl vs->Q (.ref s.heap.objs.size) {s with heap:=s.heap.push (e9 (.int 0 0) 0 S es.size ep)}:=λsl vs h0 hl hpm hn=>by
   have W:=Av (A:=A) hh (I:=s.heap.objs.size) (S:=S) (Sq hlt) hl hn;have:=h s.heap.objs.size (s.heap.push (e9 (.int 0 0) 0 S es.size ep)) s.drawn _ vs _ (λb o e=>RZ _ e) (R3 _) (λb hb=>?_) W ⟨?_,hS.keep λo e=>RZ _ e⟩ hl hpm
   ·exact this
   ·simp only[Sm,SN,or_false]at hb;rcases hb with rfl|rfl
    ·exact .inr (R3 _)
    ·exact .inl rfl
   ·rw[h0];exact R1 _ rfl
  cases hbt:bX w with
  |true=>exact key _ _ rfl (by rw[R7,(qM _ _).length_eq,S3]) ((qM _ _).map _) (Fn hbt)
  |false =>rw[hbt]at hb;exact key _ _ rfl (by rw[R7,S3]) (List.Perm.refl _) (Cw hbt (by simpa using hb))
 ·have hl:ps.length=es.size:=by rw[hp.length_eq];simp
  have W:=wZ (prog:=prog) (w:=w) (A:=A) hh (I:=s.heap.objs.size+1) (S:=S) (T:=s.heap.objs.size) (Sq (Nat.lt_succ_of_lt hlt)) (Sq (Nat.lt_succ_self _)) (ks:=ks) (es:=es) (ep:=ep) (t:=t) hp;have pm:(ps.filterMap λj=>(es[j]?).map (·.2)).Perm (es.toList.map (·.2)):=by refine(hp.filterMap _).trans ?_;rw[←List.map_filterMap];rw[filterMap_getElem?_range]
  refine h (s.heap.objs.size+1) _ d _ _ _ (λb o e=>RZ _ (RZ _ e)) (Nat.le_succ _) (λb hb=>?_) W ⟨?_,hS.keep λo e=>RZ _ (RZ _ e),RZ _ (R1 _ rfl)⟩ (by rw[pm.length_eq,R7,S3]) pm
  ·simp only[Sm,SN,or_false]at hb;rcases hb with rfl|rfl|rfl
   ·exact .inr (Nat.le_succ _)
   ·exact .inl rfl
   ·exact .inr (R3 _)
  ·have:=R1 (s.heap.push {cls:=.type "tuple",data:=.seq (ps.map λ(i:Nat)=>Value.int i 0).toArray}) (o:=e9 (.ref s.heap.objs.size) 0 S es.size ep) rfl;rw[size_push']at this;exact this
theorem BZ{r:Addr}{Q:Bool->Shared->Prop}(hT:s.TypeIs (.ref r) "set")(h:Q false s):wpAny (model prog w) A (Builtin.List.listLengthHint (.ref r)) Q E s:=by
 unfold Builtin.List.listLengthHint;refine RX (wpAny_specialOf hT PySem.F.slot_set_len.lookup ?_);generalize hid:("set.__len__" : String)=id0
 wp_delta
 rw[show splitId id0=some ("set","__len__") from by subst hid;decide +kernel];subst hid;refine RX (wpAny_isInstance (T:="set") (b:=true) hT (by rw[isSubtype_type];kernel_rfl) ?_);refine wpAny_ite_split (λhab=>SJ hab (by decide)) (λ_=>?_);refine wpAny_ite_split (λ_=>?_) (λhab=>SJ (by decide +kernel) hab);refine RX (wpAny_typeOf hT ?_);exact RY h
theorem vD{S L:Addr}{ks:List Key}{es:Array (Int×Value)}{ep:Nat}{t:SetTable}{R:Result->Shared->Prop}(hh:A.handled=none)(hS:fu prog w s.heap S ks es ep t)(OF:L≠S)(res:Value)(c₀:Nat)(hL:s.heap.get? L=some {cls:=.type "list",data:=.seq #[] c₀})
  (hR:∀h' tk d acc' c',(∀b o,b≠L->s.heap.get? b=some o->h'.get? b=some o)->h'.get? L=some {cls:=.type "list",dict:=none,data:=.seq acc' c',slots:=#[]}->acc'.toList.Perm (es.toList.map (·.2))->R (.ok (.ret res)) {s with heap:=h',toks:=tk,drawn:=d}) :
  wpAny (model prog w) A.in1 (Builtin.List.listExtendWith (.ref L) (.ref S) res)
   (λfin s'=>match fin with | .done f=>R (.ok f) s' | .again c'=>c'.quiet=true/\codeAny (model prog w) A c' R s') (λe s'=>R (.error e) s') s:=by
 have hT:s.TypeIs (.ref S) "set":=⟨_,hS.obj,rfl⟩;have hz:es.size<=sizeLine:=fits_of_scanBound hS.few;unfold Builtin.List.listExtendWith;refine RX (wpAny_typeOf hT ?_);have h1:Builtin.List.listSameRef (.ref L) (.ref S)=false:=by simp[Builtin.List.listSameRef,OF]
 have h2:(Value.type "set"==Value.type "list")=false:=by decide
 have h3:(Value.type "set"==Value.type "tuple")=false:=by decide
 simp only[h1,h2,h3,Bool.or_false,Bool.false_eq_true,if_false];refine RX (A4 (A:=A.in1) hh hS λI h1 d fp vs St hk hI hfp W st hvl hpm=>?_);have hLlt:L<s.heap.objs.size:=R0 hL;have hLI:L≠I:=Sq (Sb hLlt hI);have hLf:L∉fp:=λhb=>by
  rcases hfp L hb with e|e
  ·exact OF e
  ·exact SJ hLlt (Nat.not_lt.mpr e)
 have key:∀(h:Heap)(c₁ tk:Nat),St 0 h->(∀b o,b≠L->s.heap.get? b=some o->h.get? b=some o)->
   h.get? L=some {cls:=.type "list",data:=.seq #[] c₁}->codeAny (model prog w) A (.builtin "list.extend.loop" ⟨[.ref L,.ref I,res],[]⟩) R {s with heap:=h,toks:=tk,drawn:=d}:=by
  intro h c₁ tk hst hkk hS₁;refine codeAny_extend_loopS W.toS hz L hLf res es.size 0 _ #[] c₁ rfl (Sr _) hst hS₁ (ItemsOf.nil _) λs' acc' c' hm hS' hacc=>?_;rw[Moved.eq_with hm];refine hR s'.heap s'.toks d acc' c' (λb o hb e=>hm.heap b o (λhmem=>?_) (hkk b o hb e)) hS' ?_
  ·rcases Sm.mp hmem with e'|hmem
   ·exact hb e'
   ·have:=Sk.mp hmem;subst this;exact SJ (R0 e) (Nat.not_lt.mpr hI)
  ·have ev:acc'.toList=vs:=by
    refine List.ext_getElem? λi=>?_;rw[Array.getElem?_toList];by_cases hlt:i<es.size
    ·have:i<acc'.size:=by rw[hacc.1];exact hlt
     rw[Sy this];exact(hacc.2 i _ (Sy this)).symm
    ·rw[Array.getElem?_eq_none (by rw[hacc.1];omega),List.getElem?_eq_none (by omega)]
   rw[ev];exact hpm
 have hS₁:h1.get? L=some {cls:=.type "list",data:=.seq #[] c₀}:=hk _ _ hL;refine RX (SA (BZ (s:={s with heap:=h1,drawn:=d}) ⟨_,hk _ _ hS.obj,rfl⟩ ?_));refine wpAny_ite_split (λ_=>?_) (λ_=>RY ⟨plainId_quiet PySem.F.plain_extend_loop _,key _ c₀ _ st (λb o _ e=>hk b o e) hS₁⟩);refine RX (wpAny_rule ?_);refine RX ?_;show wpAny _ _ (updateSeq L (·.push .none) >>= λ_=>updateSeq L (·.pop)) _ _ _;refine RX (wpAny_updateSeq hS₁ rfl ?_);have hS₂:=Heap.get?_update_self (Obj.mapSeq (·.push Value.none)) hS₁ rfl;refine wpAny_updateSeq (hz:=by seq_fits) hS₂ rfl ?_;have hS₃:=Heap.get?_update_self (Obj.mapSeq (·.pop)) hS₂ rfl;refine RY ⟨plainId_quiet PySem.F.plain_extend_loop _,key _ _ _ ?_ (λb o hb e=>?_) hS₃⟩
 ·refine W.frame 0 _ _ st λb hb o e=>?_;have hbS:b≠L:=λh=>hLf (h▸hb);exact(Heap.get?_update_other _ _ (Ne.symm hbS)).trans ((Heap.get?_update_other _ _ (Ne.symm hbS)).trans e)
 ·exact(Heap.get?_update_other _ _ (Ne.symm hb)).trans ((Heap.get?_update_other _ _ (Ne.symm hb)).trans (hk _ _ e))
theorem tP{S:Addr}{ks:List Key}{es:Array (Int×Value)}{ep:Nat}{t:SetTable}{R:List Value->Shared->Prop}(hh:A.handled=none)(hS:fu prog w s.heap S ks es ep t)
  (h:∀(h':Heap)(tk:Nat)(d:Drawn)(vs:List Value),s.heap.objs.size<=h'.objs.size->(∀b o,s.heap.get? b=some o->h'.get? b=some o)->vs.Perm (es.toList.map (·.2))->R vs {s with heap:=h',toks:=tk,drawn:=d}) :
  wpAny (model prog w) A (collect (.ref S)) R E s:=by
 have hlt:S<s.heap.objs.size:=R0 hS.obj;unfold collect;refine RX (wpAny_runValue (codeAny_builtin entry_proto_collect' ?_));rw[Around.under_plainId PySem.F.plain_proto_collect _];show wpAny _ A.in1 (newList [] >>= λl=>again (.builtin "list.__iadd__" ⟨[l,.ref S],[]⟩)) _ _ s;refine RX (SD ?_);refine RY ⟨plainId_quiet PySem.F.plain_list_iadd _,codeAny_builtin entry_list_iadd' ?_⟩;rw[Around.under_plainId PySem.F.plain_list_iadd _];have hL:(s.heap.push {cls:=.type "list",data:=.seq ([]:List Value).toArray}).get? s.heap.objs.size=some {cls:=.type "list",data:=.seq #[]}:=R1 _ rfl;show wpAny _ A.in1 (Builtin.List.listExtendWith (.ref s.heap.objs.size) (.ref S) (.ref s.heap.objs.size)) _ _ _;have key:=vD (A:=A) (s:={s with heap:=s.heap.push {cls:=.type "list",data:=.seq ([]:List Value).toArray}})
  (R:=λ(q:Result) (s':Shared)=>∃(h':Heap)(tk:Nat)(d:Drawn)(acc':Array Value)(c':Nat),q=.ok (.ret (.ref s.heap.objs.size))/\s' ={s with heap:=h',toks:=tk,drawn:=d}/\
   (∀b o,s.heap.get? b=some o->h'.get? b=some o)/\h'.get? s.heap.objs.size=some {cls:=.type "list",dict:=none,data:=.seq acc' c',slots:=#[]}/\acc'.toList.Perm (es.toList.map (·.2)))
  hh (hS.keep λo e=>RZ _ e) (Nat.ne_of_gt hlt) (.ref s.heap.objs.size) 0 hL
  (λh' tk d acc' c' hk hS' hacc=>⟨h',tk,d,acc',c',rfl,rfl,λb o e=>hk b o (Sq (R0 e)) (RZ _ e),hS',hacc⟩)
 refine Sz key (λfin s' x=>?_) λe s' x=>?_
 ·cases fin with
  |done f =>obtain⟨h',tk,d,acc',c',e,rfl,hk,hS',hacc⟩:=x;cases e;show wpAny _ A (load s.heap.objs.size >>= _) _ _ _;refine RX (wpAny_load hS' ?_);exact RY (h h' tk d acc'.toList (Nat.le_of_lt (R0 hS')) hk hacc)
  |again c₁ =>refine⟨x.1,codeAny_mono x.2 λq s₂ y=>?_⟩;obtain⟨h',tk,d,acc',c',rfl,rfl,hk,hS',hacc⟩:=y;show wpAny _ A (load s.heap.objs.size >>= _) _ _ _;refine RX (wpAny_load hS' ?_);exact RY (h h' tk d acc'.toList (Nat.le_of_lt (R0 hS')) hk hacc)
 ·obtain⟨_,_,_,_,_,e',_⟩:=x;cases e'
theorem wL{S:Addr}{ks:List Key}{es:Array (Int×Value)}{ep:Nat}{t:SetTable}{Q:Value->Shared->Prop}(hh:A.handled=none)(hS:fu prog w s.heap S ks es ep t)
  (h:∀(h':Heap)(tk:Nat)(d:Drawn)(vs:List Value),s.heap.objs.size<=h'.objs.size->(∀b o,s.heap.get? b=some o->h'.get? b=some o)->vs.Perm (es.toList.map (·.2))->
   wpAny (model prog w) A.in1 (call (.builtin "list.sort") [.ref h'.objs.size]) (λ_ s'=>Q (.ref h'.objs.size) s') E {s with heap:=h'.push (seqObj "list" vs.toArray 0),toks:=tk,drawn:=d}) :
  wpAny (model prog w) A (call (.builtin "sorted") [.ref S]) Q E s:=by
 refine Calls.call_function_entry kind_sorted plain_sorted entry_sorted (args_sorted1 _) ?_;unfold Builtin.«sorted»;refine RX (m:=checkCount "sorted" 1 1 _) (RY ?_);refine RX (tP (A:=A.in1) hh hS λh' tk d vs hz hk hp=>?_);have hl:vs.length<=sizeLine:=by rw[hp.length_eq,R7,S3];exact fits_of_scanBound hS.few
 refine RX (wpAny_newList ?_ hl);refine RX (SA (Sz (h h' tk d vs hz hk hp) (λ_ s' x=>?_) λ_ _ e=>e));exact RY ⟨_,rfl,x⟩
end
def JI(x y:Str):Prop:=x.cps.toList<y.cps.toList
theorem zl:bootBuiltins "set"=some (.type "set"):=by kernel_rfl
theorem Hx{x y:Str}(h:¬y.cps.toList<x.cps.toList)(n:x≠y):JI x y:=by unfold JI;have hle:x.cps.toList<=y.cps.toList:=List.not_lt.mp h;refine Decidable.byContradiction λh2=>n ?_;have Nt:y.cps.toList<=x.cps.toList:=List.not_lt.mp h2;have e:=List.le_antisymm hle Nt;cases x;cases y;simp at e;subst e;rfl
theorem DZ{vs:List Value}{ss:List Str}(hS:StrsAre vs ss){xs:Array Keyed}(hp:xs.Perm (pairsOf vs))(hs:SortedToK strKind xs (pairsOf vs).size) :
  ∃ss',StrsAre (xs.map (·.2)).toList ss'/\ss'.Perm ss/\ss'.Pairwise λa b=>¬b.cps.toList<a.cps.toList:=by
 have hl:xs.toList.Perm (vs.zip vs):=by rw[←pairsOf_toList];exact Array.perm_iff_toList_perm.mp hp
 have hmem:∀p,p∈xs.toList->p.1=p.2/\p.1∈vs:=λp hp'=>mem_zip_self (hl.mem_iff.mp hp');refine⟨xs.toList.map (λp=>strOf p.1),?_,?_,?_⟩
 ·have e:(xs.map (·.2)).toList=xs.toList.map (·.1):=by rw[Array.toList_map];exact List.map_congr_left λp hp'=>(hmem p hp').1.symm
  rw[e];have h1:=strsAre_map (xs.toList.map (·.1)) (by intro v hv;obtain⟨p,hp',rfl⟩:=Sl.mp hv;exact hS.all _ (hmem p hp').2)
  rwa[List.map_map]at h1
 ·have h1:=hl.map (λp=>strOf p.1);have e2:(vs.zip vs).map (λp=>strOf p.1)=ss:=by
   have:(vs.zip vs).map (λp=>strOf p.1)=((vs.zip vs).map Prod.fst).map strOf:=by rw[List.map_map];rfl
   rw[this,List.map_fst_zip (R3 _),hS.strs]
  rwa[e2]at h1
 ·rw[List.pairwise_iff_getElem];intro i j hi hj hij;have hi':i<xs.size:=by simpa using hi
  have hj':j<xs.size:=by simpa using hj
  have h1:=hs i j (Nat.le_of_lt hij) (by rw[←hp.size_eq];exact hj');obtain⟨x,t,ex⟩:=hS.all _ (hmem xs[i] (by simp)).2;obtain⟨y,u,ey⟩:=hS.all _ (hmem xs[j] (by simp)).2;rw[KK_str hi' (x:=x) (t:=t) (q:=xs[i].2) (Prod.ext ex rfl),KK_str hj' (x:=y) (t:=u) (q:=xs[j].2) (Prod.ext ey rfl)]at h1;change decide (y.cps.toList<x.cps.toList)=false at h1;simp only[List.getElem_map,Array.getElem_toList];rw[show strOf xs[i].1=x by rw[ex];rfl,show strOf xs[j].1=y by rw[ey];rfl];exact of_decide_eq_false h1
section
variable{prog:Program}{w:World}{A:Around}{E:Value->Shared->Prop}{s:Shared}
theorem yS{a:Addr}{vs:List Value}{ns:List Int}{Q:Value->Shared->Prop}(ho:s.heap.get? a=some (seqObj "list" vs.toArray 0))(hI:IntsAre vs ns)(h64:vs.length<64)
  (h:∀(out:Array Value)(ns':List Int),IntsAre out.toList ns'->ns'.Perm ns->ns'.Pairwise (·<=·)->Q .none {s with heap:=sortedHeap s.heap a vs out}):wpAny (model prog w) A (call (.builtin "list.sort") [.ref a]) Q E s :=
 SY slot_list_sort ⟨_,ho,rfl⟩ entry_list_sort (list_sort_tree ho hI h64 λout ns' a1 a2 a3=>⟨_,rfl,h out ns' a1 a2 a3⟩) (args_list_sort _)
theorem y4{a:Addr}{vs:List Value}{ss:List Str}{Q:Value->Shared->Prop}(ho:s.heap.get? a=some (seqObj "list" vs.toArray 0))(hS:StrsAre vs ss)(h64:vs.length<64)
  (h:∀(out:Array Value)(ss':List Str),StrsAre out.toList ss'->ss'.Perm ss->(ss'.Pairwise λa b=>¬b.cps.toList<a.cps.toList)->Q .none {s with heap:=sortedHeap s.heap a vs out}):wpAny (model prog w) A (call (.builtin "list.sort") [.ref a]) Q E s :=
 SY slot_list_sort ⟨_,ho,rfl⟩ entry_list_sort (list_sort_treeK strKind_oneLt ho hS.keysOf (λv₁ v₂ rest e=>keyKind_strs (by rw[←e];exact hS)) h64 λst' hp hs=>⟨_,rfl,by obtain⟨ss',h1,h2,h3⟩:=DZ hS hp hs;exact h _ ss' h1 h2 h3⟩) (args_list_sort _)
end
def oW(xs ys:List V):Prop :=
 (∃ns ms:List Int,xs=ns.map V.int/\ys=ms.map V.int/\ms.Pairwise (· < ·)/\∀n,n∈ms↔n∈ns)\/∃ns ms:List Str,xs=ns.map V.str/\ys=ms.map V.str/\ms.Pairwise JI/\∀n,n∈ms↔n∈ns
def BP(K:S7)(te:TE):TE:=λσ H Q=>te σ H λx H1=>∃a xs,x=.ref a/\(bc K H1 a xs\/aP K H1 a xs)/\xs.length<64/\((∃ns:List Int,xs=ns.map V.int)\/∃ss:List Str,xs=ss.map V.str)/\
 ∀p ys,H1 p=none->oW xs ys->Q (.ref p) (upd H1 p (.lst ys))
theorem Gv{ms ms':List Int}(h:ms.Pairwise (·<=·))(n:ms.Nodup):ms.Pairwise (· < ·):=by rw[List.pairwise_iff_getElem]at h⊢;intro i j hi hj hij;have h1:=h i j hi hj hij;have h2:=List.pairwise_iff_getElem.mp n i j hi hj hij;omega
theorem vB{ns:List Int}:∀{us:List Value},IntsAre us ns->Vals (ns.map V.int) us:=by
 induction ns with
 |nil=>intro us r;cases r;exact .nil
 |cons y ys ih=>intro us r;cases r with|cons _ t r=>exact .cons ⟨t,rfl⟩ (ih r)
theorem w_{ns:List Str}:∀{us:List Value},StrsAre us ns->Vals (ns.map V.str) us:=by
 induction ns with
 |nil=>intro us r;cases r;exact .nil
 |cons y ys ih=>intro us r;cases r with|cons _ t r=>exact .cons ⟨t,rfl⟩ (ih r)
def keyV:V->Key
 | .int n=>.inl n
 | .str x=>.inr x
 |_=>.inl 0
def jo(xs:List V)(i:Nat):Key:=((xs[i]?).map keyV).getD (.inl 0)
theorem kc{xs:List V}{k:Key}:k∈la (jo xs) xs.length↔∃x∈xs,keyV x=k:=by
 rw[ve];constructor
 ·rintro⟨j,hj,e⟩;refine⟨xs[j],List.getElem_mem hj,?_⟩;unfold jo at e;rw[Sd hj]at e;exact e
 ·rintro⟨x,hx,e⟩;obtain⟨j,hj,rfl⟩:=List.mem_iff_getElem.mp hx;refine⟨j,hj,?_⟩;unfold jo;rw[Sd hj];exact e
theorem Aj{xs:List V}{its:List Value}(r:Vals xs its)(hx:∀x∈xs,(∃n,x=.int n)\/∃y,x=.str y)(i:Nat)(v:Value)(e:its.toArray[i]? = some v):gi (jo xs i) v=true/\v.scannable=true:=by
 have e':its[i]? = some v:=by simpa using e
 have hl:=r.length;have hi:i<xs.length:=by rw[hl];exact(Sj.mp e').1
 obtain⟨u,hu,ru⟩:=r.get (Sd hi);rw[e']at hu;cases hu;have ek:jo xs i=keyV xs[i]:=by unfold jo;rw[Sd hi];rfl
 rw[ek];rcases hx xs[i] (List.getElem_mem hi)with⟨n,q⟩|⟨y,q⟩
 ·rw[q]at ru⊢;obtain⟨t,rfl⟩:=ru;exact⟨mI n t,rfl⟩
 ·rw[q]at ru⊢;obtain⟨t,rfl⟩:=ru;exact⟨m3 y t,rfl⟩
section
variable{X:Cx}{e:Expr}{te:TE}{p1 p2 pos pos2:Pos}
theorem tQ{ac:List (Addr×Obj)}{σ:St}{H:Hp}{s:Shared}{Q:VK}{S:Addr}{xs:List V}{es:Array (Int×Value)}{ep:Nat}{t:SetTable}(hc:X.calm=true)(I:Inv X ac σ H s)(hS:fu X.prog X.w s.heap S (la (jo xs) xs.length) es ep t)(h64:xs.length<64)
  (hx:(∃ns:List Int,xs=ns.map V.int)\/∃ss:List Str,xs=ss.map V.str) (q:∀p ys,H p=none->oW xs ys->Q (.ref p) (upd H p (.lst ys))) :
  wpAny (model X.prog X.w) X.A (call (.builtin "sorted") [.ref S]) (EP X ac σ Q) X.xe s:=by
 refine wL (I.ok.hd hc) hS λh' tk d vs hz hk hp=>?_;have hn:H h'.objs.size=none:=I.hok.fresh hz;have hperm:(vs.map Ad).Perm (la (jo xs) xs.length):=by refine(hp.map Ad).trans ?_;rw[List.map_map];exact hS.keys
 have hlen:vs.length<64:=by have h1:=hperm.length_eq;have h2:=pH (jo xs) xs.length;rw[R7]at h1;omega
 have hel:∀v∈vs,∃k,gi k v=true/\k∈la (jo xs) xs.length:=λv hv=>by obtain⟨e,he,rfl⟩:=Sl.mp (hp.mem_iff.mp hv);obtain⟨⟨k,hk',_⟩,_⟩:=hS.els e he;exact⟨k,hk',hS.mem.mp ⟨e,he,hk'⟩⟩
 have hob:(h'.push (seqObj "list" vs.toArray 0)).get? h'.objs.size=some (seqObj "list" vs.toArray 0):=R1 _ rfl;have fin:∀(ys:List V)(out:Array Value),Vals ys out.toList->ys.length<64->oW xs ys->EP X ac σ Q (.ref h'.objs.size) {s with heap:=sortedHeap (h'.push (seqObj "list" vs.toArray 0)) h'.objs.size vs out,toks:=tk,drawn:=d}:=λys out r hl so=>by
  have keep:∀b o,s.heap.get? b=some o->(sortedHeap (h'.push (seqObj "list" vs.toArray 0)) h'.objs.size vs out).get? b=some o:=λb o e=>by have hb:=hk b o e;have hlt:=R0 hb;rw[sortedHeap_old (Sq hlt) (by rw[size_push'];exact Nat.lt_succ_of_lt hlt)];exact RZ _ hb
  obtain⟨c,hat⟩ :∃c,(sortedHeap (h'.push (seqObj "list" vs.toArray 0)) h'.objs.size vs out).get? h'.objs.size=some (seqObj "list" out c):=sortedHeap_at hob;have hobj:cf X.prog X.w (upd H h'.objs.size (.lst ys)) (sortedHeap (h'.push (seqObj "list" vs.toArray 0)) h'.objs.size vs out) h'.objs.size (.lst ys):=⟨by rw[sizeLine_eq];omega,out.toList,c,r,by rw[hat]⟩;refine⟨.ref h'.objs.size,upd H h'.objs.size (.lst ys),?_,rfl,q _ _ hn so⟩;exact I.call' (s':={s with heap:=sortedHeap (h'.push (seqObj "list" vs.toArray 0)) h'.objs.size vs out,toks:=tk,drawn:=d}) (ch:=[]) rfl (Un.laid keep hz hn) (I.hok.laid keep hz hobj) I.bare λb hb=>SJ hb (by simp)
 rcases hx with⟨ns,rfl⟩|⟨ss,rfl⟩
 ·have hint:∀v∈vs,∃n t,v=Value.int n t:=λv hv=>by
   obtain⟨k,hk1,hk2⟩:=hel v hv;obtain⟨x,hx,e⟩:=kc.mp hk2;obtain⟨n,hn',rfl⟩:=Sl.mp hx;subst e;rcases bC hk1 with⟨i,t,e1,e2⟩|⟨y,t,e1,e2⟩
   ·exact⟨i,t,e2⟩
   ·cases e1
  have hI:=intsAre_map vs hint;refine yS hob hI hlen λout ns' a1 a2 a3=>?_;have ek:vs.map Ad=(vs.map numOf).map Sum.inl:=by rw[List.map_map];refine List.map_congr_left λv hv=>?_;obtain⟨n,t,rfl⟩:=hint v hv;rfl
  have zf:ns'.Nodup:=by refine a2.nodup_iff.mpr ?_;have h1:=hperm.nodup_iff.mpr hS.LK;rw[ek]at h1;exact(List.pairwise_map.mp h1).imp λhne e=>hne (congrArg _ e)
  refine fin (ns'.map V.int) out (vB a1) (by rw[R7,a2.length_eq,R7];exact hlen) (.inl ⟨ns,ns',rfl,rfl,Gv (ms':=[]) a3 zf,λn=>?_⟩);rw[a2.mem_iff];have:n∈vs.map numOf↔(Sum.inl n:Key)∈vs.map Ad:=by
   rw[ek];constructor
   ·exact λh=>Sl.mpr ⟨n,h,rfl⟩
   ·intro h;obtain⟨m,hm,e⟩:=Sl.mp h;cases e;exact hm
  rw[this,hperm.mem_iff,kc];constructor
  ·rintro⟨x,hx,e⟩;obtain⟨m,hm,rfl⟩:=Sl.mp hx;cases e;exact hm
  ·exact λh=>⟨.int n,Sl.mpr ⟨n,h,rfl⟩,rfl⟩
 ·have hstr:∀v∈vs,∃n t,v=Value.str n t:=λv hv=>by
   obtain⟨k,hk1,hk2⟩:=hel v hv;obtain⟨x,hx,e⟩:=kc.mp hk2;obtain⟨n,hn',rfl⟩:=Sl.mp hx;subst e;rcases bC hk1 with⟨i,t,e1,e2⟩|⟨y,t,e1,e2⟩
   ·cases e1
   ·exact⟨y,t,e2⟩
  have hI:=strsAre_map vs hstr;refine y4 hob hI hlen λout ns' a1 a2 a3=>?_;have ek:vs.map Ad=(vs.map strOf).map Sum.inr:=by rw[List.map_map];refine List.map_congr_left λv hv=>?_;obtain⟨n,t,rfl⟩:=hstr v hv;rfl
  have zf:ns'.Nodup:=by refine a2.nodup_iff.mpr ?_;have h1:=hperm.nodup_iff.mpr hS.LK;rw[ek]at h1;exact(List.pairwise_map.mp h1).imp λhne e=>hne (congrArg _ e)
  refine fin (ns'.map V.str) out (w_ a1) (by rw[R7,a2.length_eq,R7];exact hlen) (.inr ⟨ss,ns',rfl,rfl,?_,λn=>?_⟩)
  ·rw[List.pairwise_iff_getElem]at a3⊢;intro i j hi hj hij;exact Hx (a3 i j hi hj hij) (List.pairwise_iff_getElem.mp zf i j hi hj hij)
  rw[a2.mem_iff];have:n∈vs.map strOf↔(Sum.inr n:Key)∈vs.map Ad:=by
   rw[ek];constructor
   ·exact λh=>Sl.mpr ⟨n,h,rfl⟩
   ·intro h;obtain⟨m,hm,e⟩:=Sl.mp h;cases e;exact hm
  rw[this,hperm.mem_iff,kc];constructor
  ·rintro⟨x,hx,e⟩;obtain⟨m,hm,rfl⟩:=Sl.mp hx;cases e;exact hm
  ·exact λh=>⟨.str n,Sl.mpr ⟨n,h,rfl⟩,rfl⟩
theorem vH(hc:X.calm=true)(hg1:Gl X "sorted")(hm1:X.mg "sorted"=none)(hg2:Gl X "set")(hm2:X.mg "set"=none)(he:PE X e te)(hs1:starEach [e] X.env=[(false,eval e X.env)]:=by rfl)
  (hs2:starEach [Expr.Call (.Name "set" p2) [e] [] pos2] X.env=[(false,eval (.Call (.Name "set" p2) [e] [] pos2) X.env)]:=by rfl) :
  PE X (.Call (.Name "sorted" p1) [.Call (.Name "set" p2) [e] [] pos2] [] pos) (BP X.K te):=by
 intro ac s σ H Q I h;refine wpAny_Call_Name_kw (i0 I hg1 hm1 boot_sorted ?_ (by decide) (by decide));refine PyProof.Rows.callWith_builtin1 ?_ hs2 rfl;rw[hs2];refine Calls.spliced_cons ?_;refine wpAny_Call_Name_kw (i0 I hg2 hm2 zl ?_ (by decide) (by decide));refine PyProof.Rows.callWith_type1 ?_ hs1 rfl;rw[hs1];refine Calls.spliced_cons (bO (he ac s σ H _ I h) λu s1 zz=>?_);obtain⟨x,H1,I1,r1,a,xs,ex,JH,h64,hx,q⟩:=zz;refine Calls.spliced_nil ?_;subst ex;cases r1;have hx':∀x∈xs,(∃n,x=.int n)\/∃y,x=.str y:=λx OD=>by
  rcases hx with⟨ns,rfl⟩|⟨ss,rfl⟩
  ·obtain⟨n,_,rfl⟩:=Sl.mp OD;exact .inl ⟨n,rfl⟩
  ·obtain⟨n,_,rfl⟩:=Sl.mp OD;exact .inr ⟨n,rfl⟩
 have go:∀{T:String}{its:List Value}{o:Obj},rk X.prog X.w T a its.toArray->Vals xs its->s1.heap.get? a=some o->o.cls=.type T->(∃n,o.data=.seq its.toArray n)->
   wpAny (model X.prog X.w) X.A (call (.type "set") [.ref a]) (λv s2=>wpAny (model X.prog X.w) X.A (spliced []) (λvs s3=>wpAny (model X.prog X.w) X.A (call (.builtin "sorted") (v::vs)) (EP X ac σ Q) X.xe s3) X.xe s2) X.xe s1:=λ{T its o} src r ho hcl hd=>by
  have hl:=r.length;refine tX (key:=jo xs) src (I1.ok.hd hc) ho hcl hd (Aj r hx') (by simp[scanBound];omega) λh' tk es ep t hS hk=>?_;refine Calls.spliced_nil ?_;have Qx:its.toArray.size=xs.length:=by rw[Si,hl]
  rw[Qx]at hS;exact tQ hc (I1.kept (t':=tk) hk) hS h64 hx q
 rcases JH with JH|JH
 ·obtain⟨its,r,pl,_⟩:=I1.list JH;obtain⟨o,ho,hcl,hd⟩:=pl.isList;exact go src_list r ho hcl hd
 ·obtain⟨its,r,pl,_⟩:=I1.tuple JH;obtain⟨o,ho,hcl,hd⟩:=pl;exact go Ei r ho hcl hd
end
end L2
namespace L2
open PySem
mutual
def EW:D->Bool
 | .tup ds=>nE ds
 | .lst _=>false
 |_=>true
def nE:List D->Bool
 |[]=>true
 |d::ds=>EW d&&nE ds
end
mutual
theorem aV.cL{K:S7}{H H':Hp}(k:∀a xs,aP K H a xs->aP K H' a xs):∀{d:D}{v:V},EW d=true->aV K H d v->aV K H' d v
 | .int _,v,_,h=>by rw[aV]at h⊢;exact h
 | .str _,v,_,h=>by rw[aV]at h⊢;exact h
 | .non,v,_,h=>by rw[aV]at h⊢;exact h
 | .bl _,v,_,h=>by rw[aV]at h⊢;exact h
 | .tup ds,v,n,h=>by rw[aV]at h⊢;obtain⟨a,vs,e,h1,h2⟩:=h;exact⟨a,vs,e,k a vs h1,aD.cL k (by simpa[EW] using n) h2⟩
 | .lst ds,v,n,h=>by simp[EW]at n
theorem aD.cL{K:S7}{H H':Hp}(k:∀a xs,aP K H a xs->aP K H' a xs):∀{ds:List D}{vs:List V},nE ds=true->aD K H ds vs->aD K H' ds vs
 |[],vs,_,h=>by rw[aD]at h⊢;exact h
 |d::ds,vs,n,h=>by rw[nE,SH]at n;rw[aD]at h⊢;obtain⟨v,r,e,h1,h2⟩:=h;exact⟨v,r,e,aV.cL k n.1 h1,aD.cL k n.2 h2⟩
end
theorem bf.eC{K:S7}{p a:Addr}{H H1:Hp}{xs:List V}(hP:ez H p)(g:bf p H H1)(h:aP K H a xs):aP K H1 a xs:=by
 obtain⟨x,y,e,_⟩:=hP;rcases h with(h|⟨o,h⟩)|h
 ·exact .inl (.inl (g.keep _ _ (λz=>by rw[z,e]at h;cases h) h))
 ·exact .inl (.inr ⟨o,g.keep _ _ (λz=>by rw[z,e]at h;cases h) h⟩)
 ·exact .inr h
theorem aV.grow{K:S7}{p:Addr}{H H1:Hp}{d:D}{v:V}(hP:ez H p)(g:bf p H H1)(n:EW d=true)(h:aV K H d v):aV K H1 d v:=h.cL (λ_ _ q=>g.eC hP q) n
theorem aD.grow{K:S7}{p:Addr}{H H1:Hp}{d:List D}{v:List V}(hP:ez H p)(g:bf p H H1)(n:nE d=true)(h:aD K H d v):aD K H1 d v:=h.cL (λ_ _ q=>g.eC hP q) n
theorem jL{ds:List D}:nE ds=true↔∀d∈ds,EW d=true:=by
 induction ds with
 |nil=>simp[nE]
 |cons d ds ih=>rw[nE,SH,ih];simp
end L2
namespace My
open PySem L2
def top(i:Nat):Stmt:=PySem.Challenge.pw_rowpipes_k71_facts_along_workers.main.body.getD i (.Pass ⟨0,0,0,0⟩)
abbrev BK:Stmt:=top 75
abbrev Ih:Stmt:=top 76
abbrev C8:Stmt:=top 77
abbrev KR:List Str:=["_law_script","_law_k"]
abbrev NK:List Str:=["_law_script","_law_k","_law_cell"]
abbrev J0:List Str:=["_law_pot_here","_law_many","_law_digit"]
theorem GN:au KR ["_law_script","_law_k"] (ao BK):=fs
theorem FL:au NK ["_law_script","_law_k"] (ao Ih):=fs
theorem A5:au J0 ["_law_pot_here","_law_many"] (ao C8):=fs
structure j5(mg:Str->Option Value):Prop where
 len:mg "len"=none
 max:mg "max"=none
 abs:mg "abs"=none
 divmod:mg "divmod"=none
 range:mg "range"=none
 tuple:mg "tuple"=none
 list:mg "list"=none
 isinstance:mg "isinstance"=none
variable{P:Program}{w:World}{K:S7}{mg:Str->Option Value}{base:Heap}
theorem DI(B:j5 mg)(F:FA K mg "_law_cell_at" BK) :
  bB bE P w K mg base 1 "_law_cell_at" ["_law_script","_law_k"] (CS K):=by
 refine F.ok GN λf cdv A outer s H vs Q E hr h=>?_;obtain⟨a,ns,k,rfl,hS,h0,q⟩:=h;refine⟨_,ak (gN (bu ya (pv 1) (aK aN rfl B.len S5 (aa (pv 0) ah))) (ax (iI fW (pv 0) (pv 1) (λ_ _=>rfl))) dk)
  (ax ai),?_⟩
 refine⟨_,rfl,_,rfl,a,_,rfl,.inl hS,_,_,rfl,rfl,_,rfl,?_⟩;refine fJ (λc=>?_) (λc=>?_)
 ·have c':k<(((ns.map V.int).length:Nat):Int):=SI c;obtain⟨v,hv,hg⟩:=hU h0 c';rw[Sw]at hg;cases e:ns[k.toNat]? with
  |none=>rw[e]at hg;cases hg
  |some n =>rw[e]at hg;have hg':V.int n=v:=Ss hg;subst hg';exact⟨_,rfl,_,rfl,a,_,_,_,rfl,rfl,hS,hv,q n⟩
 ·exact q 0
theorem IT(B:j5 mg)(F:FA K mg "_law_pot" Ih)(G:bB bE P w K mg base 1 "_law_cell_at" ["_law_script","_law_k"] (CS K)) :
  bB bE P w K mg base 2 "_law_pot" ["_law_script","_law_k"] (Fx K):=by
 refine F.ok FL λf cdv A outer s H vs Q E hr h=>?_;obtain⟨a,ns,k,rfl,hS,h0,h1,q⟩:=h;refine⟨_,ak (aX (i:=2) FL.nd rfl (SQ rfl) (aM G hr (aa (pv 0) (aa (pv 1) ah))))
  (ax (bJ (aa (aK (qY rfl) rfl B.max PyProof.Rows.boot_max (aa ai (aa (aU ck (pv 2) (aU AN ai ai)) ah)))
   (aa (aU cv (aU ot (aU cv (aU cv (aK Ag rfl B.abs PyProof.Rows.boot_abs (aa (pv 2) ah)) (aU wm ai (pv 1))) ai) ai) ai) ah)))),?_⟩
 refine⟨_,rfl,_,rfl,a,ns,k,rfl,hS,h0,λn=>?_⟩;refine⟨_,rfl,_,_,rfl,rfl,⟨by decide,by decide,by decide⟩,_,_,rfl,rfl,_,_,rfl,?_⟩;refine⟨_,rfl,_,rfl,_,rfl,_,_,rfl,rfl,.inl ⟨by decide,by decide⟩,_,_,rfl,rfl,_,_,rfl,rfl,_,_,rfl,rfl,(by show(0:Int)<2147483629;decide),_,_,rfl,rfl,c5,λp hp=>?_⟩;refine q p _ hp (ag hp _) ⟨_,_,ae,?_,?_,?_⟩
 ·split<;>omega
 ·have:=Int.emod_nonneg ((if n<0 then -n else n)+7919*k+3) (show(2147483629:Int)≠0 by decide);omega
 ·have:=Int.emod_lt_of_pos ((if n<0 then -n else n)+7919*k+3) (show(0:Int)<2147483629 by decide);omega
theorem DE(B:j5 mg)(F:FA K mg "_law_draw" C8) :
  bB bE P w K mg base 1 "_law_draw" ["_law_pot_here","_law_many"] gu:=by
 refine F.ok A5 λf cdv A outer s H vs Q E hr h=>?_;obtain⟨p,m,rfl,⟨a,b,hp,ha,hb,hb'⟩,hm,hm',q⟩:=h;refine⟨_,ak (gN (bu xy (iI fW (pv 0) ai (λ_ _=>rfl)) ai)
   (ak (fk (aK sy rfl B.divmod PyProof.Rows.boot_divmod (aa (iI fW (pv 0) ai (λ_ _=>rfl)) (aa (pv 1) ah)))
    (bS rfl (aq (Ap (pv 0) ai set_list) (aq (aL (i:=2) A5.nd rfl (SQ rfl)) bz))))
   (ax (pv 2))) dk)
  (ak (fk (aU ot (aU cv (aU wm (iI fW (pv 0) ai (λ_ _=>rfl)) ai) ai) ai) (Ap (pv 0) ai set_list))
  (ax (aU ot (aU ES (aU ot (aU wm (iI fW (pv 0) ai (λ_ _=>rfl)) (iI fW (pv 0) ai (λ_ _=>rfl))) ai) ai) (pv 1)))),?_⟩
 refine⟨_,rfl,p,_,_,_,rfl,rfl,bc.of hp,rfl,_,_,rfl,rfl,_,rfl,?_⟩;refine fJ (λc=>?_) (λc=>?_)
 ·refine⟨_,rfl,p,_,_,_,rfl,rfl,bc.of hp,rfl,_,rfl,_,_,rfl,⟨hm,hm'⟩,λt ht=>?_⟩;have np:p≠t:=aW hp ht;refine⟨t,_,rfl,aP.of ae,rfl,_,_,rfl,_,rfl,p,_,_,0,rfl,rfl,(by rw[aH np];exact hp),rfl,_,_,rfl,rfl,?_⟩;refine⟨_,rfl,q _ _ ⟨λc o nc e=>?_,_,_,ae,Int.ediv_nonneg ha (by omega),hb,hb'⟩ (Int.emod_nonneg _ (by omega)) (Int.emod_lt_of_pos _ hm)⟩;rw[aH nc,aH (aW e ht)];exact e
 ·have h1:=Int.emod_nonneg (b*48271+11) (show(2147483647:Int)≠0 by decide);have h2:=Int.emod_lt_of_pos (b*48271+11) (show(0:Int)<2147483647 by decide);refine⟨_,rfl,p,_,_,_,rfl,rfl,bc.of hp,rfl,_,_,rfl,rfl,.inr ⟨by decide,by decide⟩,_,_,rfl,rfl,_,_,rfl,rfl,(by show(0:Int)<2147483647;decide),_,rfl,p,_,_,1,rfl,rfl,hp,rfl,?_⟩;refine⟨_,rfl,p,_,_,_,rfl,rfl,bc.of ae,rfl,_,rfl,p,_,_,_,rfl,rfl,bc.of ae,rfl,_,_,rfl,rfl,.inl ⟨?_,?_⟩,_,_,rfl,rfl,(by show(0:Int)<2147483629;decide),_,_,rfl,rfl,⟨by decide,by decide⟩,_,rfl,_,_,rfl,rfl,hm,?_⟩
  ·have e:((2:Int) ^ 64)=18446744073709551616:=by decide
   rw[e];omega
  ·have e:((2:Int) ^ 64)=18446744073709551616:=by decide
   rw[e];omega
  ·exact q _ _ ⟨λc o nc e=>by rw[aH nc];exact e,_,_,ae,ha,h1,by omega⟩ (Int.emod_nonneg _ (by omega)) (Int.emod_lt_of_pos _ hm)
structure pP(mg:Str->Option Value):Prop where
 int:mg "int"=none
 min:mg "min"=none
 all:mg "all"=none
 sorted:mg "sorted"=none
 set:mg "set"=none
def ky(v:V):Prop:=(∃n,v=.int n)\/∃x,v=.str x
theorem cD{m:Int}(h0:0<m)(h1:m<=1000):m.natAbs.log2<9000:=R_ (Nat.log2_le_self _) (by omega)
theorem iH{j:Int}(h:0<=j)(h1:j<=1000):-(2 ^ 62)<=j/\j<2 ^ 62:=by
 have e:((2:Int) ^ 62)=4611686018427387904:=by decide
 rw[e];omega
theorem jC{p a:Addr}{H H':Hp}{xs:List V}(hP:ez H p)(g:bf p H H')(e:H a=some (.tup xs)):H' a=some (.tup xs):=g.keep _ _ (λz=>by obtain⟨x,y,e2,_⟩:=hP;rw[z,e2]at e;cases e) e
def aQ(H H':Hp):Prop:=∀a xs,H a=some (.tup xs)->H' a=some (.tup xs)
theorem aQ.of{H H':Hp}(s:aE H H'):aQ H H':=λ_ _ e=>s _ _ e
theorem aQ.grow{p:Addr}{H H':Hp}(hP:ez H p)(g:bf p H H'):aQ H H':=λa xs e=>jC hP g e
abbrev Hd:=List Str
theorem aj{i:Nat}{v:V}{σ:St}{H:Hp}{k:St->Hp->Prop}(h:k (σ.set i (some v)) H):bT i v σ H k:=h
theorem qG{K:S7}{H:Hp}:∀ws:List Str,aD K H (ws.map D.str) (ws.map V.str)
 |[]=>aD.nil
 |w::ws=>aD.cons (gY w) (qG ws)
theorem a_{H H':Hp}{D:Addr}{o:HO}(hD:H D=none)(s:aE H H'):aE H (upd H' D o):=λb u e=>by rw[aH (aW e hD)];exact s _ _ e
theorem take_one{α:Type}{ws:List α}{i:Nat}{w:α}(h:ws[i]? = some w):ws.take (i+1)=ws.take i++[w]:=by rw[List.take_add_one,h];rfl
theorem bL{D:Ends}{σ:St}{H:Hp}(h:D.nx σ H):sZ D σ H:=h
def sW:V->Str
 | .str _=>"w"
 |_=>"n"
def bD(hd:Hd)(c:Int):Str:=hd.getD (c-1).toNat ""
inductive W1 where
 |keep (c:Int) (t:Str)
 |same (c d:Int)
 |cut (cs:List Int)
 |turn (c:Int) (ps:List (V×V))
 |must (c:Int) (ps:List (V×V))
 |walk (c:Int) (mv:List V)
 |sort (cs:List (Int×Bool))
 |apart
 |count (cs:List Int)
 |sum (cs:List Int) (c:Int)
 |number
 |first (n:Int)
inductive Wk where
 |one (x:W1)
 |both (p q:List Wk)
 |meet (c d:Int) (p q:List Wk)
def W1.nm:W1->Str
 | .keep ..=>"keep"
 | .same ..=>"same"
 | .cut ..=>"cut"
 | .turn ..=>"turn"
 | .must ..=>"must"
 | .walk ..=>"walk"
 | .sort ..=>"sort"
 | .apart=>"apart"
 | .count ..=>"count"
 | .sum ..=>"sum"
 | .number=>"number"
 | .first ..=>"first"
def Wk.nm:Wk->Str
 | .one x=>x.nm
 | .both ..=>"both"
 | .meet ..=>"meet"
structure bW{α:Type}(At:Hp->Addr->α->Prop)(H:Hp)(p:Addr)(bs:List Addr)(xs:List α):Prop where
 tup:H p=some (.tup (bs.map V.ref))
 len:bs.length=xs.length
 at_:∀(i:Nat) a x,bs[i]? = some a->xs[i]? = some x->At H a x
theorem bW.keep{α:Type}{At:Hp->Addr->α->Prop}{H H':Hp}{p:Addr}{bs:List Addr}{xs:List α}(k:aQ H H')(kA:∀a x,At H a x->At H' a x)(h:bW At H p bs xs):bW At H' p bs xs:=⟨k _ _ h.tup,h.len,λi a x e1 e2=>kA _ _ (h.at_ i a x e1 e2)⟩
theorem bW.get{α:Type}{At:Hp->Addr->α->Prop}{H:Hp}{p:Addr}{bs:List Addr}{xs:List α}(h:bW At H p bs xs){i:Nat}{x:V}(hx:(bs.map V.ref)[i]? = some x):∃(a:Addr)(y:α),x=.ref a/\xs[i]? = some y/\At H a y:=by
 rw[Sw]at hx;cases e:bs[i]? with
 |none=>rw[e]at hx;cases hx
 |some b =>
  rw[e]at hx;have hx':V.ref b=x:=Ss hx;subst hx';have hi:i<xs.length:=by rw[←h.len];exact(Sj.mp e).1
  have er:xs[i]? = some xs[i]:=Sd hi;exact⟨b,xs[i],rfl,er,h.at_ i b _ e er⟩
abbrev rM(H:Hp)(a:Addr)(p:V×V):Prop:=H a=some (.tup [p.1,p.2])
def EK(H:Hp)(a:Addr)(v:V):Prop:=∃s t,H a=some (.tup [.str s,v,.str t])
abbrev Ej(H:Hp)(a:Addr)(e:Int×Bool):Prop:=H a=some (.tup [.int e.1,.bl e.2])
def fO(H:Hp)(a:Addr):W1->Prop
 | .keep c t=>∃s xs,H a=some (.tup [.str "keep",.int c,.ref s])/\H s=some (.tup (.str t::xs))
 | .same c d=>H a=some (.tup [.str "same",.int c,.int d])
 | .cut cs=>∃t,H a=some (.tup [.str "cut",.ref t])/\H t=some (.tup (cs.map V.int))
 | .turn c ps=>∃t bs,H a=some (.tup [.str "turn",.int c,.ref t])/\bW rM H t bs ps
 | .must c ps=>∃t bs,H a=some (.tup [.str "must",.int c,.ref t])/\bW rM H t bs ps
 | .walk c mv=>∃s t bs,H a=some (.tup [.str "walk",.int c,.str s,.ref t])/\bW EK H t bs mv
 | .sort cs=>∃t bs,H a=some (.tup [.str "sort",.ref t])/\bW Ej H t bs cs
 | .apart=>H a=some (.tup [.str "apart"])
 | .count cs=>∃t,H a=some (.tup [.str "count",.ref t])/\H t=some (.tup (cs.map V.int))
 | .sum cs c=>∃t,H a=some (.tup [.str "sum",.ref t,.int c])/\H t=some (.tup (cs.map V.int))
 | .number=>H a=some (.tup [.str "number"])
 | .first n=>H a=some (.tup [.str "first",.int n])
theorem EK.keep{H H':Hp}(k:aQ H H'){a:Addr}{v:V}(h:EK H a v):EK H' a v:=by obtain⟨s,t,h⟩:=h;exact⟨s,t,k _ _ h⟩
theorem fO.keep{H H':Hp}{a:Addr}{x:W1}(k:aQ H H')(h:fO H a x):fO H' a x:=by
 cases x with
 |keep c t=>obtain⟨s,xs,h1,h2⟩:=h;exact⟨s,xs,k _ _ h1,k _ _ h2⟩
 |same c d=>exact k _ _ h
 |cut cs=>obtain⟨t,h1,h2⟩:=h;exact⟨t,k _ _ h1,k _ _ h2⟩
 |turn c ps=>obtain⟨t,bs,h1,h2⟩:=h;exact⟨t,bs,k _ _ h1,h2.keep k λ_ _ z=>k _ _ z⟩
 |must c ps=>obtain⟨t,bs,h1,h2⟩:=h;exact⟨t,bs,k _ _ h1,h2.keep k λ_ _ z=>k _ _ z⟩
 |walk c mv=>obtain⟨s,t,bs,h1,h2⟩:=h;exact⟨s,t,bs,k _ _ h1,h2.keep k λ_ _ z=>z.keep k⟩
 |sort cs=>obtain⟨t,bs,h1,h2⟩:=h;exact⟨t,bs,k _ _ h1,h2.keep k λ_ _ z=>k _ _ z⟩
 |apart=>exact k _ _ h
 |count cs=>obtain⟨t,h1,h2⟩:=h;exact⟨t,k _ _ h1,k _ _ h2⟩
 |sum cs c=>obtain⟨t,h1,h2⟩:=h;exact⟨t,k _ _ h1,k _ _ h2⟩
 |number=>exact k _ _ h
 |first n=>exact k _ _ h
theorem fO.first{H:Hp}{a:Addr}{x:W1}(h:fO H a x):∃xs,H a=some (.tup (.str x.nm::xs)):=by
 cases x with
 |keep c t=>obtain⟨s,xs,h1,h2⟩:=h;exact⟨_,h1⟩
 |same c d=>exact⟨_,h⟩
 |cut cs=>obtain⟨t,h1,h2⟩:=h;exact⟨_,h1⟩
 |turn c ps=>obtain⟨t,bs,h1,h2⟩:=h;exact⟨_,h1⟩
 |must c ps=>obtain⟨t,bs,h1,h2⟩:=h;exact⟨_,h1⟩
 |walk c mv=>obtain⟨s,t,bs,h1,h2⟩:=h;exact⟨_,h1⟩
 |sort cs=>obtain⟨t,bs,h1,h2⟩:=h;exact⟨_,h1⟩
 |apart=>exact⟨_,h⟩
 |count cs=>obtain⟨t,h1,h2⟩:=h;exact⟨_,h1⟩
 |sum cs c=>obtain⟨t,h1,h2⟩:=h;exact⟨_,h1⟩
 |number=>exact⟨_,h⟩
 |first n=>exact⟨_,h⟩
def ij:Nat->Hp->Addr->Wk->Prop
 |_,H,a,.one x=>fO H a x
 | 0,_,_,_=>False
 |n+1,H,a,.both p q=>∃b c bs cs,H a=some (.tup [.str "both",.ref b,.ref c])/\bW (ij n) H b bs p/\bW (ij n) H c cs q
 |n+1,H,a,.meet c d p q=>∃b e bs es,H a=some (.tup [.str "meet",.int c,.int d,.ref b,.ref e])/\bW (ij n) H b bs p/\bW (ij n) H e es q
abbrev nW(n:Nat)(H:Hp)(p:Addr)(ws:List Wk):Prop:=∃bs,bW (ij n) H p bs ws
theorem ij.keep{H H':Hp}(k:aQ H H'):∀{n:Nat}{a:Addr}{x:Wk},ij n H a x->ij n H' a x
 | 0,a,.one x,h=>fO.keep k h
 |n+1,a,.one x,h=>fO.keep k h
 |n+1,a,.both p q,h=>by obtain⟨b,c,bs,cs,h1,h2,h3⟩:=h;exact⟨b,c,bs,cs,k _ _ h1,h2.keep k λ_ _ z=>z.keep k,h3.keep k λ_ _ z=>z.keep k⟩
 |n+1,a,.meet c d p q,h=>by obtain⟨b,e,bs,es,h1,h2,h3⟩:=h;exact⟨b,e,bs,es,k _ _ h1,h2.keep k λ_ _ z=>z.keep k,h3.keep k λ_ _ z=>z.keep k⟩
theorem ij.first{H:Hp}:∀{n:Nat}{a:Addr}{x:Wk},ij n H a x->∃xs,H a=some (.tup (.str x.nm::xs))
 | 0,a,.one x,h=>fO.first h
 |n+1,a,.one x,h=>fO.first h
 |n+1,a,.both p q,h=>by obtain⟨b,c,bs,cs,h1,_⟩:=h;exact⟨_,h1⟩
 |n+1,a,.meet c d p q,h=>by obtain⟨b,e,bs,es,h1,_⟩:=h;exact⟨_,h1⟩
theorem nW.keep{n:Nat}{H H':Hp}{p:Addr}{ws:List Wk}(k:aQ H H')(h:nW n H p ws):nW n H' p ws:=by obtain⟨bs,h⟩:=h;exact⟨bs,h.keep k λ_ _ z=>z.keep k⟩
abbrev gE(H:Hp)(a:Addr)(h:Hd):Prop:=H a=some (.tup (h.map V.str))
structure l7(H:Hp)(l:Addr)(as:List Addr)(hs:List Hd):Prop where
 lst:H l=some (.lst (as.map V.ref))
 len:as.length=hs.length
 at_:∀(i:Nat) a h,as[i]? = some a->hs[i]? = some h->gE H a h
theorem l7.same{H H':Hp}{l:Addr}{as:List Addr}{hs:List Hd}(s:aE H H')(h:l7 H l as hs):l7 H' l as hs:=⟨s _ _ h.lst,h.len,λi a r e1 e2=>s _ _ (h.at_ i a r e1 e2)⟩
theorem l7.nth{H:Hp}{l:Addr}{as:List Addr}{hs:List Hd}{i:Nat}{h:Hd}(x:l7 H l as hs)(e:hs[i]? = some h):∃a,(as.map V.ref)[i]? = some (.ref a)/\gE H a h:=by
 have hi:i<as.length:=by rw[x.len];exact(Sj.mp e).1
 exact⟨as[i],by rw[Sw,Sd hi];rfl,x.at_ i _ _ (Sd hi) e⟩
theorem fE{hd:List Str}{c:Int}(h:1<=c/\c<=hd.length):vi (hd.map V.str) (c-1)=some (.str (bD hd c)):=by
 have hi:(c-1).toNat<hd.length:=by omega
 have e:(((c-1).toNat:Nat):Int)=c-1:=by omega
 have:=ay (xs:=hd.map V.str) (j:=(c-1).toNat) (v:=.str (bD hd c)) (by rw[Sw,Sd hi];unfold bD;rw[List.getD_eq_getElem?_getD,Sd hi];rfl)
 rw[e]at this;exact this
def dN:W1->List Int
 | .keep c _=>[c]
 | .same c d=>[c,d]
 | .cut cs=>cs
 | .turn c _=>[c]
 | .must c _=>[c]
 | .walk c _=>[c]
 | .sort cs=>cs.map λe=>e.1
 | .count cs=>cs
 | .sum cs c=>cs++[c]
 |_=>[]
def gc:W1->Prop
 | .cut cs=>cs.length<=1000
 | .sort cs=>cs.length<=1000
 | .count cs=>cs.length<=1000
 | .sum cs _=>cs.length<=1000
 | .turn _ ps=>ps.length<=1000
 | .must _ ps=>ps.length<=1000
 | .walk _ mv=>mv.length<=1000
 |_=>True
def FI:W1->Prop
 | .turn _ ps=>∀p∈ps,ky p.1/\ky p.2
 | .must _ ps=>∀p∈ps,ky p.1/\ky p.2
 | .walk _ mv=>∀v∈mv,v=.non\/ky v
 |_=>True
end My
namespace L2
open PySem PySem.Spec PyProof.Rows
theorem yw{ns:List Int}{its:List Value}(r:Vals (ns.map V.int) its){i:Nat}{v:Value}(h:its.toArray[i]? = some v):∃t,v=.int (ns.getD i 0) t:=by
 have h':its[i]? = some v:=by simpa using h
 have hi:=(Sj.mp h').1;have hb:i<ns.length:=by have:=r.length;rw[R7]at this;omega
 obtain⟨u,e,ru⟩:=r.get (i:=i) (x:=.int ns[i]) (by rw[Sw,Sd hb];rfl);rw[h']at e;cases e;obtain⟨t,z⟩:=ru;exact⟨t,by rw[z,List.getD_eq_getElem?_getD,Sd hb];rfl⟩
end L2
namespace L2
open PySem
variable{X:Cx}
end L2
namespace L2
open PySem PySem.Spec PyProof.Rows
variable{X:Cx}
def J_(K:S7)(n:String):List V->Hp->VK->Prop:=λxs H Q=>∃x t b,xs=[x,.ty n]/\lN K H x t/\PySem.W.kitOne K t (.type n)=some b/\Q (.bl b) H
theorem jO{n:String}:ft X (.builtin "isinstance") (J_ X.K n):=by intro ac s σ H xs us Q I r h;obtain⟨x,t,b,rfl,ty,e,q⟩:=h;obtain⟨u,w',rfl,r1,r2⟩:=vals2 r;cases(show w'=Value.type n from r2);exact zH I r1 ty e λtk=>⟨.bl b,H,I.tok _,rfl,q⟩
def Mh(K:S7)(ta tb:TE):TE:=λσ H Q=>ta σ H λx H1=>∃k,JO K x H1 k/\if k=true then Q x H1 else tb σ H1 Q
theorem GO{a b:Expr}{ta tb:TE}{pos:Pos}(ha:PE X a ta)(hb:PE X b tb):PE X (.BoolOp .Or [a,b] pos) (Mh X.K ta tb):=by
 intro ac s σ H Q I h;refine BoolOp_or (bO (ha ac s σ H _ I h) λv s1 zz=>?_);obtain⟨x,H1,I1,r1,k,hk,q1⟩:=zz;refine bO (Hg ac s1 σ H1 x v (λb H2=>b=k/\H2=H1) I1 r1 ⟨k,hk,rfl,rfl⟩) λb s2 zz=>?_;obtain⟨H2,I2,e1,e2⟩:=zz;subst e1 e2;cases b with
 |false=>exact d_ hb ac s2 σ _ Q I2 q1
 |true=>exact⟨x,_,I2,r1,q1⟩
end L2
namespace L2
open PySem
def FZ:R2:=λx y H Q=>∃a b xs ys,x=.ref a/\y=.ref b/\H a=some (.tup xs)/\H b=some (.tup ys)/\xs.length+ys.length<=sizeLine/\∀t H',aE H H'->H' t=some (.tup (xs++ys))->Q (.ref t) H'
theorem cZ{X:Cx}:jk X (binaryOp .Add) FZ:=by
 intro ac s σ H x y v u Q I rx ry h;obtain⟨a,b,xs,ys,rfl,rfl,ha,hb,hz,q⟩:=h;by_cases hx:xs=[]
 ·subst hx;exact uV ac s σ H _ _ v u Q I rx ry ⟨a,b,ys,rfl,rfl,aP.of ha,aP.of hb,q b H (aE.refl _) hb⟩
 ·exact xC ac s σ H _ _ v u Q I rx ry ⟨a,b,xs,ys,rfl,rfl,aP.of ha,aP.of hb,hx,hz,λz=>q a H (aE.refl _) (by rw[z,SX];exact ha),λ_ p hp=>q p _ (λb' u' e=>by rw[aH (aW e hp)];exact e) ae⟩
def MJ:V->Option Int->Option Int->Hp->VK->Prop:=λx lo hi H Q=>∃a xs,x=.ref a/\H a=some (.tup xs)/\∀t H',aE H H'->H' t=some (.tup (fq xs lo hi))->Q (.ref t) H'
theorem gR{X:Cx}:Fc X MJ:=by intro ac s σ H x v vl vu lo hi sl Q I rx hs pl pu h;obtain⟨a,xs,rfl,hx,q⟩:=h;exact(Hk.or EJ) ac s σ H _ v vl vu lo hi sl Q I rx hs pl pu (Ex rfl (aP.of hx) (λz=>q a H (aE.refl _) (by rw[z];exact hx)) λp hp=>q p _ (λb' u' e=>by rw[aH (aW e hp)];exact e) ae)
theorem oA{xs:List V}{n:Nat}(h:n<=xs.length):fq xs none (some (n:Int))=xs.take n:=by unfold fq;rw[HT.x9,HT.uJ];simp[Nat.min_eq_left h]
theorem sV{xs:List V}{n:Nat}(h:n<=xs.length):fq xs (some (n:Int)) none=xs.drop n:=by unfold fq;rw[HT.x9,HT.uJ,Nat.min_eq_left h];exact List.take_of_length_le (by rw[List.length_drop];exact R3 _)
structure EO(X:Cx)(e:Expr)(t:TE):Prop where
 h:PE X e t
structure AO(X:Cx)(es:List Expr)(t:TA):Prop where
 h:PA X es t
structure SO(X:Cx)(sts:List Stmt)(t:TS):Prop where
 h:qU X sts t
section
variable{X:Cx}{a b e:Expr}{es:List Expr}{ta tb te:TE}{t:TA}{pos pos':Pos}
theorem bA:AO X [] nI:=⟨ah⟩
theorem ar(ha:EO X e te)(hr:AO X es t)(hs:starEach (e::es) X.env=(false,eval e X.env)::starEach es X.env:=by rfl):AO X (e::es) (eN te t):=⟨aa ha.h hr.h hs⟩
theorem Ak(h:AO X es t):EO X (.List es pos) (GU t):=⟨bJ h.h⟩
theorem bF{x1}(h:AO X es t):EO X (.Tuple es x1 pos) (Jc t):=⟨aY h.h⟩
theorem xx{r:R2}(hr:Kx X r)(ha:EO X a ta)(hb:EO X b tb)(hs:nX b):EO X (.Subscript a b pos) (eZ r ta tb):=⟨iI hr ha.h hb.h hs⟩
theorem GV{i:Nat}{x:Str}{rest:List Stmt}{u:TS}(hN:X.N.Nodup)(hi:X.N[i]? = some x)(hx:Loc X.env.scope x)(he:EO X e te)(h2:SO X rest u)(hs:swapsWith e (some (.Name x pos')) pos.line X.env=pure false:=by rfl)(hf:X.fn x=true\/X.env.scope.names.lookup x=some .local:=by first|exact .inl rfl|exact .inr rfl|assumption) :
  SO X (.Assign [.Name x pos'] e pos::rest) (uA (za te (bT i)) u):=⟨ak (aX hN hi hx he.h hs hf) h2.h⟩
end
theorem CC{X:Cx}{sts:List Stmt}{t:TS}{R:TS->Prop}(h:SO X sts t)(r:R t):∃t,qU X sts t/\R t:=⟨t,h.h,r⟩
theorem uq{t u:TT}{σ:St}{H:Hp}{Q:Bool->Hp->Prop}(h:t σ H λc H1=>if c=true then Q true H1 else u σ H1 Q):Ol t u σ H Q:=h
end L2
namespace L2
open PySem PySem.Spec PyProof.Rows
def cy(K:S7)(d:Addr)(key:Str)(f:Addr):Prop :=
 ∃(es:Array DictEntry)(ep:Nat)(i:Nat)(x:Int)(t:Tok),K.lookup d=some ⟨.type "dict",none,.dict es ep,#[]⟩/\es.all (λe=>isExactStrKey e.key)=true/\es.findIdx? (λe=>e.key.isStr key)=some i/\es[i]? = some ⟨x,.str key t,.ref f⟩
def A0(K:S7):R2:=λx y H Q=>∃d k f,x=.ref d/\y=.str k/\cy K d k f/\Q (.ref f) H
section
variable{X:Cx}
theorem l8:Kx X (A0 X.K):=by
 intro value slice ac s σ H x y v u Q I rx ry h hs;obtain⟨d,k,f,rfl,rfl,⟨es,ep,i,hx,te,lk,ha,hi,he⟩,q⟩:=h;cases rx;obtain⟨t,rfl⟩:=ry;have ho:s.heap.get? d=some ⟨.type "dict",none,.dict es ep,#[]⟩:=I.kH _ _ lk;have hT:s.TypeIs (.ref d) "dict":=⟨_,ho,rfl⟩;have fin:EP X ac σ Q (.ref f) {s with toks:=s.toks+1}:=⟨.ref f,H,I.kept (h':=s.heap) (t':=s.toks+1) λ_ _ e=>e,rfl,q⟩;refine subscriptTail_builtinR (x:=.ref f) hT slot_dict_getitem.lookup ?_ hs;unfold getItem;try with_reducible refine SA ?_
 refine RX (wpAny_sequenceKey hT (by decide) ?_);refine RX (wpAny_callSpecial?_slot (name:=Str.ofString "__getitem__") hT slot_dict_getitem
  (SY slot_dict_getitem hT entry_dict_getitem ?_ (args_dict_getitem _ _)))
 show wpAny _ _ (dictGet d (.str k t) >>= _) _ _ s;refine RX ?_;unfold dictGet;try with_reducible refine SA ?_
 refine RX (wpAny_pyHash_str ?_);unfold dictFind;refine RX ?_;try with_reducible refine SA ?_
 refine RX (wpAny_dictEntries (s:={s with toks:=s.toks+1}) ho rfl ?_);dsimp only;rw[SM ha];unfold foundByValue;rw[hi];dsimp only;rw[he];dsimp only;refine RX (wpAny_dictEpoch (s:={s with toks:=s.toks+1}) ho rfl ?_);refine RX (wpAny_eqBool_str ?_);refine RX (wpAny_dictEpoch (s:={s with toks:=s.toks+1}) ho rfl ?_);rw[SK (by simp),R6 rfl];refine RX (wpAny_rule (RY ?_));refine RX (wpAny_dictEntries (s:={s with toks:=s.toks+1}) ho rfl (RY ?_));rw[he];refine RY ⟨.ref f,rfl,RY ⟨rfl,fin⟩⟩
def I_(X:Cx)(CX:qm)(k:Nat)(E:XK)(te:TE)(t:TA):TE:=λσ H Q=>te σ H λv H1=>∃f fd ps sp,v=.ref f/\e8 X.prog X.w X.K X.mg X.base CX k f fd ps sp/\PySem.W.keepIn X.K (.ref f)=true/\Binds X.K fd ps []/\t σ H1 λvs H2=>sp vs H2 Q E
variable{CX:qm}{k:Nat}{E:XK}{x:Str}{p pos:Pos}{e:Expr}{es:List Expr}{te:TE}{t:TA}
theorem lI(hn:PE X (.Name x p) te)(hr:eW k X.A)(hx:Passes CX X E)(ha:PA X (e::es) t)
  (he:starEach (e::es) X.env=(false,eval e X.env)::starEach es X.env:=by rfl) (hpl:(backTo pos (starEach es X.env)).any (·.1)=false:=by rfl) :
  PE X (.Call (.Name x p) (e::es) [] pos) (I_ X CX k E te t):=by
 intro ac s σ H Q I h;refine wpAny_Call_Name_kw (bO (hn ac s σ H _ I h) λu s1 zz=>?_);obtain⟨v,H1,I1,rv,f,fd,ps,sp,ev,F,hk,hb,q⟩:=zz;subst ev;cases rv;refine PySem.W.callWith_K (h₀:=X.base) I1.ok.mod.Ho hk (bO (ha pos ac s1 σ H1 _ I1 q) λus s2 ⟨vs,H2,I2,r,q2⟩=>⟨I2.kH,?_⟩) he hpl;exact Cm F hr hb .nil hx I2 r (by rw[SX];exact q2)
end
end L2
namespace My
open PySem L2
structure Bu(mg:Str->Option Value):Prop where
 str:mg "str"=none
 any:mg "any"=none
 zip:mg "zip"=none
 enumerate:mg "enumerate"=none
theorem md{K:S7}{t:Value}(h:(t==t)=true):PySem.W.kitOne K t t=some true:=by unfold PySem.W.kitOne;exact SM h
def gq:Sp:=λvs H Q _=>∃v,vs=[v]/\ky v/\Q (.str (sW v)) H
abbrev mw:Stmt:=top 9
theorem vI:au ["cell"] ["cell"] (ao mw):=fs
variable{P:Program}{w:World}{K:S7}{mg:Str->Option Value}{base:Heap}
theorem zV(B:j5 mg)(B3:Bu mg)(Ki:PySem.W.kitOne K (.type "int") (.type "str")=some false)(F:FA K mg "sort_of" mw) :
  bB bE P w K mg base 1 "sort_of" ["cell"] gq:=by
 refine F.ok vI λf cdv A outer s H vs Q E hr h=>?_;obtain⟨v,rfl,hv,q⟩:=h;refine⟨_,(ax (lJ (fA (aK (jO (n:="str")) rfl B.isinstance PyProof.Rows.boot_isinstance (aa (pv 0) (aa (mP (n:="str") rfl B3.str (by decide +kernel)) ah)))) av av)),?_⟩;rcases hv with⟨n,rfl⟩|⟨x,rfl⟩
 ·exact⟨_,rfl,_,_,false,rfl,.int n,Ki,_,rfl,cq q⟩
 ·exact⟨_,rfl,_,_,true,rfl,.str x,md (by decide),_,rfl,cB q⟩
def eP(ok:W1->Prop):Sp:=λvs H Q _=>∃(a:Addr)(x:W1),vs=[.ref a]/\fO H a x/\ok x/\gc x/\∀(u:Addr)(H':Hp),aE H H'->H' u=some (.tup ((dN x).map V.int))->Q (.ref u) H'
def NA(x:W1):Prop:=x=.apart\/x=.number\/∃n,x=.first n
def xB:Sp:=λvs H Q _=>∃v,vs=[v]/\∀(u:Addr)(H':Hp),aE H H'->H' u=some (.tup [])->Q (.ref u) H'
abbrev iX:Stmt:=top 13
theorem qr:au ["worker"] ["worker"] (ao iX):=fs
theorem z7(F:FA K mg "no_columns" iX) :
  bB bE P w K mg base 1 "no_columns" ["worker"] xB:=by
 refine F.ok qr λf cdv A outer s H vs Q E hr h=>?_;have hu:=gX hr;obtain⟨v,rfl,q⟩:=h;refine⟨_,(ax (aY ah)),?_⟩;exact⟨Sr _,λu hu=>q u _ (ag hu _) ae⟩
theorem Bh:∀vs H Q E,eP NA vs H Q E->xB vs H Q E:=by rintro vs H Q E ⟨a,x,rfl,_,ho,_,q⟩;refine⟨_,rfl,λu H' s hu=>q u H' s ?_⟩;rw[hu];rcases ho with rfl|rfl|⟨n,rfl⟩<;>rfl
def xA(x:W1):Prop:=∃c,(∃t,x=.keep c t)\/(∃ps,x=.turn c ps)\/(∃ps,x=.must c ps)\/∃mv,x=.walk c mv
theorem xA.at_{x:W1}{H:Hp}{a:Addr}(h:xA x)(ha:fO H a x):∃c y ys,H a=some (.tup (y :: .int c::ys))/\dN x=[c]:=by
 obtain⟨c,⟨t,rfl⟩|⟨ps,rfl⟩|⟨ps,rfl⟩|⟨mv,rfl⟩⟩:=h
 ·obtain⟨s,xs,h1,h2⟩:=ha;exact⟨c,_,_,h1,rfl⟩
 ·obtain⟨t,bs,h1,h2⟩:=ha;exact⟨c,_,_,h1,rfl⟩
 ·obtain⟨t,bs,h1,h2⟩:=ha;exact⟨c,_,_,h1,rfl⟩
 ·obtain⟨s,t,bs,h1,h2⟩:=ha;exact⟨c,_,_,h1,rfl⟩
abbrev i8:Stmt:=top 14
theorem ql:au ["worker"] ["worker"] (ao i8):=fs
theorem yN(F:FA K mg "one_column" i8) :
  bB bE P w K mg base 1 "one_column" ["worker"] (eP xA):=by
 refine F.ok ql λf cdv A outer s H vs Q E hr h=>?_;have hu:=gX hr;obtain⟨a,x,rfl,ha,ho,hs,q⟩:=h;refine⟨_,(ax (aY (aa (aG K (pv 0) ai) ah))),?_⟩;obtain⟨c,y,ys,h1,hc⟩:=ho.at_ ha;refine⟨_,rfl,a,_,1,_,rfl,rfl,aP.of h1,ay (j:=1) rfl,dH,λu hu=>q u _ (ag hu _) ?_⟩;rw[ae,hc];rfl
def FP(x:W1):Prop:=∃c d,x=.same c d
abbrev iu:Stmt:=top 15
theorem pX:au ["worker"] ["worker"] (ao iu):=fs
theorem wo(F:FA K mg "two_columns" iu) :
  bB bE P w K mg base 1 "two_columns" ["worker"] (eP FP):=by
 refine F.ok pX λf cdv A outer s H vs Q E hr h=>?_;obtain⟨a,x,rfl,ha,ho,hs,q⟩:=h;refine⟨_,(ax (c_ gR (pv 0) (dg ai) (dg ai))),?_⟩;obtain⟨c,d,rfl⟩:=ho;have h1:H a=some (.tup [.str "same",.int c,.int d]):=ha;exact⟨_,rfl,_,rfl,_,rfl,a,_,rfl,h1,λt H' s' ht=>q t H' s' (by rw[ht];rfl)⟩
def BX(x:W1):Prop:=∃cs,x=.cut cs\/x=.count cs
abbrev fg:Stmt:=top 16
theorem l_:au ["worker"] ["worker"] (ao fg):=fs
theorem uj(F:FA K mg "listed_columns" fg) :
  bB bE P w K mg base 1 "listed_columns" ["worker"] (eP BX):=by
 refine F.ok l_ λf cdv A outer s H vs Q E hr h=>?_;obtain⟨a,x,rfl,ha,ho,hs,q⟩:=h;refine⟨_,(ax (aG K (pv 0) ai)),?_⟩;obtain⟨cs,rfl|rfl⟩:=ho
 ·obtain⟨t,h1,h2⟩:=ha;exact⟨_,rfl,a,_,1,_,rfl,rfl,aP.of h1,rfl,q t H (aE.refl _) h2⟩
 ·obtain⟨t,h1,h2⟩:=ha;exact⟨_,rfl,a,_,1,_,rfl,rfl,aP.of h1,rfl,q t H (aE.refl _) h2⟩
def rT(x:W1):Prop:=∃cs,x=.sort cs
abbrev gb:Stmt:=top 17
theorem nQ:au ["worker"] ["worker"] (ao gb):=fs
theorem tG(B:j5 mg)(F:FA K mg "sort_columns" gb) :
  bB bE P w K mg base 1 "sort_columns" ["worker"] (eP rT):=by
 refine F.ok nQ λf cdv A outer s H vs Q E hr h=>?_;have hu:=gX hr;obtain⟨a,x,rfl,ha,ho,hs,q⟩:=h;refine⟨_,(ax (bx bo rfl B.tuple SV (aa (bw (N':=["column","greatest_first"]) (src:=[none,none]) rfl (ba.jb (by kernel_rfl)) (cu (aG K (pv 0) ai)) (g:=(mM K 2 (cx (bT 0) (cx (bT 1) mK)))) (λcl C s H fp=>(bS rfl (aq (e7 (i:=0)) (aq (e7 (i:=1)) bz)))) (λcl C s H fp=>bg) (te:=(bp 0)) (λcl C s H fp=>(fP 0))) ah))),?_⟩;obtain⟨cs,rfl⟩:=ho;obtain⟨t,bs,h1,hI⟩:=ha;have hs:cs.length<=1000:=hs;have hl:(bs.map V.ref).length=cs.length:=by rw[R7,hI.len]
 refine⟨_,rfl,a,_,1,_,rfl,rfl,aP.of h1,rfl,t,rfl,⟨_,aP.of hI.tup⟩,λD hD=>?_⟩;refine cG (xs:=bs.map V.ref) (λi σ ys H'=>(∃o1 o2,σ=[o1,o2])/\ys=((cs.take i).map λe=>e.1).map V.int/\ys.length=i/\H' D=some (.lst ys)/\aE H H') ⟨⟨none,none,rfl⟩,rfl,rfl,ae,ag hD _⟩ ?_ ?_ ?_ ?_ ?_
 ·rintro i σ ys H' _ ⟨_,_,hi,h,_⟩;exact⟨h,S0 hi⟩
 ·rintro i σ ys H' _ ⟨_,_,_,_,sm⟩;exact aP.of (sm _ _ hI.tup)
 ·rw[hl];exact R4 hs (by decide)
 ·rintro i x σ ys H' hx ⟨⟨o1,o2,rfl⟩,rfl,hi,h,sm⟩;obtain⟨b,c,rfl,ec,hb⟩:=hI.get hx;refine⟨b,_,rfl,aP.of (sm _ _ hb),rfl,_,_,rfl,aj ⟨_,_,rfl,aj ⟨rfl,?_⟩⟩⟩;refine⟨_,rfl,h,⟨_,_,rfl⟩,?_,?_,ae,a_ hD sm⟩
  ·rw[List.take_add_one,ec,R9,R9];rfl
  ·rw[R8,hi];rfl
 ·rintro σ ys H' ⟨_,rfl,_,h,sm⟩;rw[hl,SR]at h;exact⟨D,_,rfl,.inl ⟨bc.of h,λu hu=>q u _ (sm.trans (ag hu _)) ae⟩⟩
def Fz(x:W1):Prop:=∃cs c,x=.sum cs c
abbrev ib:Stmt:=top 18
theorem oi:au ["worker"] ["worker"] (ao ib):=fs
theorem wW(F:FA K mg "sum_columns" ib) :
  bB bE P w K mg base 1 "sum_columns" ["worker"] (eP Fz):=by
 refine F.ok oi λf cdv A outer s H vs Q E hr h=>?_;have hu:=gX hr;obtain⟨a,x,rfl,ha,ho,hs,q⟩:=h;refine⟨_,(ax (aU cZ (aG K (pv 0) ai) (aY (aa (aG K (pv 0) ai) ah)))),?_⟩;obtain⟨cs,c,rfl⟩:=ho;obtain⟨t,h1,h2⟩:=ha;have hs:cs.length<=1000:=hs;refine⟨_,rfl,a,_,1,_,rfl,rfl,aP.of h1,rfl,_,rfl,a,_,2,_,rfl,rfl,aP.of h1,rfl,dH,λu hu=>?_⟩;have su:=ag hu (.tup [.int c]);refine⟨t,u,_,_,rfl,rfl,su _ _ h2,ae,?_,λt' H' s' ht'=>q t' H' (su.trans s') ?_⟩
 ·rw[R7];exact R4 (show cs.length+1<=1001 by omega) (by decide)
 ·rw[ht'];show _=some (HO.tup ((cs++[c]).map V.int));rw[R9];rfl
def there(c:Int)(h:Hd):Bool:=decide (1<=c)&&decide (c<=(h.length:Nat))
def rV:Sp:=λvs H Q _=>∃(c:Int)(a:Addr)(h:Hd),vs=[.int c,.ref a]/\gE H a h/\Q (.bl (there c h)) H
abbrev k_:Stmt:=top 20
theorem sQ:au ["column","head"] ["column","head"] (ao k_):=fs
theorem BC(B:j5 mg)(F:FA K mg "is_there" k_) :
  bB bE P w K mg base 1 "is_there" ["column","head"] rV:=by
 refine F.ok sQ λf cdv A outer s H vs Q E hr h=>?_;obtain⟨c,a,h,rfl,ha,q⟩:=h;refine⟨_,(ax (BD A6 A6 ai (pv 0) (aK aN rfl B.len S5 (aa (pv 1) ah)))),?_⟩;refine⟨_,rfl,_,_,rfl,rfl,_,rfl,?_⟩;unfold there at q;refine fJ (λk=>?_) (λk=>?_)
 ·rw[k]at q;refine⟨_,rfl,a,_,rfl,.inr (aP.of ha),_,_,rfl,rfl,?_⟩;rw[R7];rw[Bool.true_and]at q;exact q
 ·rw[Sn.mpr k]at q;exact q
def eG:Wk->List Hd->Bool
 | .one x,hs=>(dN x).all λc=>there c (hs.headD [])
 | .both ..,_=>true
 | .meet c d _ _,hs=>there c (hs.headD [])&&there d (hs.getD 1 [])
def CB:Wk->Nat
 | .one _=>1
 |_=>2
def pj:Wk->Prop
 | .one x=>gc x
 |_=>True
def c9(n:Nat)(F:Wk->List Hd->Bool)(ok:Wk->List Hd->Prop):Sp:=λvs H Q _=>∃(a l:Addr)(x:Wk)(as:List Addr)(hs:List Hd),vs=[.ref a,.ref l]/\ij n H a x/\l7 H l as hs/\hs.length=CB x/\pj x/\ok x hs/\∀H',aE H H'->Q (.bl (F x hs)) H'
def Gd(P:Program)(w:World)(K:S7)(mg:Str->Option Value)(base:Heap)(aR:Addr)(L:Nat)(x:W1):Prop :=
 ∃(f:Addr)(fd:FuncData),cy K aR x.nm f/\e8 P w K mg base bE L f fd ["worker"] (eP λy=>y=x)/\PySem.W.keepIn K (.ref f)=true/\Binds K fd ["worker"] []
theorem cn{ok ok':W1->Prop}(h:∀x,ok' x->ok x):∀vs H Q E,eP ok' vs H Q E->eP ok vs H Q E:=by rintro vs H Q E ⟨a,x,h1,h2,h3,h4⟩;exact⟨a,x,h1,h2,h x h3,h4⟩
theorem zR{aR:Addr}{f1 f2 f3 f4 f5 f6:Addr}
  (tk:cy K aR "keep" f2) (ts:cy K aR "same" f3) (tc:cy K aR "cut" f4) (tt:cy K aR "turn" f2) (tm:cy K aR "must" f2) (tw:cy K aR "walk" f2) (to:cy K aR "sort" f5) (ta:cy K aR "apart" f1) (tn:cy K aR "count" f4) (tu:cy K aR "sum" f6) (tb:cy K aR "number" f1) (tf:cy K aR "first" f1)
  (G0:FnAt P w K mg base 1 f1 ["worker"] xB) (G2:FnAt P w K mg base 1 f2 ["worker"] (eP xA)) (G3:FnAt P w K mg base 1 f3 ["worker"] (eP FP)) (G4:FnAt P w K mg base 1 f4 ["worker"] (eP BX)) (G5:FnAt P w K mg base 1 f5 ["worker"] (eP rT)) (G6:FnAt P w K mg base 1 f6 ["worker"] (eP Fz)):∀x,Gd P w K mg base aR 1 x:=by
 obtain⟨d1,G0,b1,k1⟩:=G0;obtain⟨d2,G2,b2,k2⟩:=G2;obtain⟨d3,G3,b3,k3⟩:=G3;obtain⟨d4,G4,b4,k4⟩:=G4;obtain⟨d5,G5,b5,k5⟩:=G5;obtain⟨d6,G6,b6,k6⟩:=G6;have G1:=G0.imp Bh;intro x;cases x with
 |keep c t=>exact⟨f2,d2,tk,G2.imp (cn λ_ e=>⟨c,.inl ⟨t,e⟩⟩),k2,b2⟩
 |same c d=>exact⟨f3,d3,ts,G3.imp (cn λ_ e=>⟨c,d,e⟩),k3,b3⟩
 |cut cs=>exact⟨f4,d4,tc,G4.imp (cn λ_ e=>⟨cs,.inl e⟩),k4,b4⟩
 |turn c ps=>exact⟨f2,d2,tt,G2.imp (cn λ_ e=>⟨c,.inr (.inl ⟨ps,e⟩)⟩),k2,b2⟩
 |must c ps=>exact⟨f2,d2,tm,G2.imp (cn λ_ e=>⟨c,.inr (.inr (.inl ⟨ps,e⟩))⟩),k2,b2⟩
 |walk c mv=>exact⟨f2,d2,tw,G2.imp (cn λ_ e=>⟨c,.inr (.inr (.inr ⟨mv,e⟩))⟩),k2,b2⟩
 |sort cs=>exact⟨f5,d5,to,G5.imp (cn λ_ e=>⟨cs,e⟩),k5,b5⟩
 |apart=>exact⟨f1,d1,ta,G1.imp (cn λ_ e=>.inl e),k1,b1⟩
 |count cs=>exact⟨f4,d4,tn,G4.imp (cn λ_ e=>⟨cs,.inr e⟩),k4,b4⟩
 |sum cs c=>exact⟨f6,d6,tu,G6.imp (cn λ_ e=>⟨cs,c,e⟩),k6,b6⟩
 |number=>exact⟨f1,d1,tb,G1.imp (cn λ_ e=>.inr (.inl e)),k1,b1⟩
 |first n=>exact⟨f1,d1,tf,G1.imp (cn λ_ e=>.inr (.inr ⟨n,e⟩)),k1,b1⟩
theorem cS{x:W1}{hs:List Hd}(h:hs.length=CB (.one x)):∃hd,hs=[hd]:=by
 cases hs with
 |nil=>cases h
 |cons hd r =>
  cases r with
  |nil=>exact⟨hd,rfl⟩
  |cons _ _=>cases h
theorem kj{hs:List Hd}(h:hs.length=2):∃h1 h2,hs=[h1,h2]:=by
 match hs,h with
 |[h1,h2],_=>exact⟨h1,h2,rfl⟩
theorem yD{x:W1}(h:gc x):(dN x).length<=1001:=by cases x<;>simp only[dN,R8,SG,List.length_nil,R7]<;>first|omega | (simp only[gc]at h;omega)
theorem Li{x:W1}:x.nm≠"meet"/\x.nm≠"both":=by cases x<;>(simp only[W1.nm];decide +kernel)
def qV:Wk->List Int
 | .one x=>dN x
 |_=>[]
def yl(n:Nat)(x:Wk):Sp:=λvs H Q _=>∃(a:Addr),vs=[.ref a]/\ij n H a x/\pj x/\∀(u:Addr)(H':Hp),aE H H'->H' u=some (.tup ((qV x).map V.int))->Q (.ref u) H'
def AY(P:Program)(w:World)(K:S7)(mg:Str->Option Value)(base:Heap)(aR:Addr)(n:Nat)(x:Wk):Prop :=
 ∃(f:Addr)(fd:FuncData),cy K aR x.nm f/\e8 P w K mg base bE 1 f fd ["worker"] (yl n x)/\PySem.W.keepIn K (.ref f)=true/\Binds K fd ["worker"] []
theorem eF{n:Nat}{H:Hp}{a:Addr}{x:W1}:ij n H a (.one x)↔fO H a x:=by cases n<;>exact Iff.rfl
theorem Hu{P:Program}{w:World}{K:S7}{mg:Str->Option Value}{base:Heap}{aR f:Addr}{n:Nat}(h:∀x,Gd P w K mg base aR 1 x)(tb:cy K aR "both" f)(G:FnAt P w K mg base 1 f ["worker"] xB) :
  ∀x:Wk,x.nm≠"meet"->AY P w K mg base aR n x:=by
 obtain⟨fd,G,b,k⟩:=G;intro x hx;cases x with
 |one x =>obtain⟨g,gd,h1,h2,h3⟩:=h x;refine⟨g,gd,h1,h2.imp ?_,h3⟩;rintro vs H Q E ⟨a,rfl,ha,hs,q⟩;exact⟨a,x,rfl,eF.mp ha,rfl,hs,q⟩
 |both p q =>refine⟨f,fd,tb,G.imp ?_,k,b⟩;rintro vs H Q E ⟨a,rfl,ha,hs,q⟩;exact⟨_,rfl,q⟩
 |meet c d p q=>exact SJ rfl hx
theorem zw{x:Wk}(h:pj x):(qV x).length<=1001:=by
 cases x with
 |one x=>exact yD h
 |both p q=>exact Sr _
 |meet c d p q=>exact Sr _
abbrev hZ:Stmt:=top 21
theorem jM:au ["worker","heads","columns_of"] ["worker","heads"] (ao hZ):=fs
theorem zx{n:Nat}{aC:Addr}(B:j5 mg)(B2:pP mg)(mC:mg "COLUMNS_OF"=some (.ref aC))(GC:∀x:Wk,x.nm≠"meet"->AY P w K mg base aC n x)(F:FA K mg "columns_fit" hZ)
  (kQ:bB bE P w K mg base 1 "is_there" ["column","head"] rV) :
  bB bE P w K mg base 2 "columns_fit" ["worker","heads"] (c9 n eG (λ_ _=>True)):=by
 refine F.ok jM λf cdv A outer s H vs Q E hr h=>?_;have hu:=gX hr;have hu1:=jn hr;obtain⟨a,l,x,as,hs,rfl,ha,hL,hn,hsm,RM,q⟩:=h;refine⟨_,(bq (bu bM (aG K (pv 0) ai) av) (gr (aM kQ hr (aa (aG K (pv 0) ai) (aa (bK K (pv 1) ai) ah))) (d_ (aM kQ hr (aa (aG K (pv 0) ai) (aa (bK K (pv 1) ai) ah)))))
   (ak (aX (i:=2) jM.nd rfl (SQ rfl) (iI (r:=A0 K) l8 (cz rfl mC (show RelV (.ref aC) (.ref aC) from rfl)) (aG K (pv 0) ai) (λ_ _=>rfl)))
   (ax (aK (fZ rfl) rfl B2.all PyProof.Rows.boot_all (aa (bw (N':=["column","heads"]) (src:=[none,some 1]) rfl (ba.jb (by kernel_rfl)) (cu (lI (k:=1) (pv 2) hr qE (aa (pv 0) ah))) (λcl C s H fp=>(e7 (i:=0))) (λcl C s H fp=>bg) (te:=(kF rV [] E0 (eN (bp 0) (eN (eZ (mY K) (bp 1) (tC (.int 0))) nI)))) (λcl C s H fp=>(aM (hg:=Dh) kQ hr (aa (fP 0) (aa (bK K (oY 1) ai) ah))))) ah))))),?_⟩
 obtain⟨xs,h1⟩:=ha.first;refine⟨_,rfl,a,_,0,_,rfl,rfl,aP.of h1,ay (j:=0) rfl,rfl,_,rfl,fJ (λk=>?_) (λk=>bL ?_)⟩
 ·have k:V.str x.nm=V.str "meet":=SI k;injection k with k;cases x with
  |one x=>exact SJ k Li.1
  |both p q=>exact SJ k (by show("both" : Str)≠"meet";decide +kernel)
  |meet c d p q' =>
  obtain⟨h0,h2,rfl⟩:=kj hn;obtain⟨a0,e0,jR⟩:=hL.nth (i:=0) rfl;obtain⟨a1,e1,F3⟩:=hL.nth (i:=1) rfl;cases n with
  |zero=>exact SS ha
  |succ n =>
  obtain⟨b,e,bs,es,h1,_⟩:=ha;refine⟨_,rfl,a,_,1,_,rfl,rfl,aP.of h1,rfl,_,rfl,l,_,0,_,rfl,rfl,bc.of hL.lst,ay (j:=0) e0,c,a0,h0,rfl,jR,_,rfl,?_⟩;have q:=q H (aE.refl _);have q:Q (.bl (there c h0&&there d h2)) H:=q;refine fJ (λk=>?_) (λk=>?_)
  ·rw[k,Bool.true_and]at q;exact⟨_,rfl,a,_,2,_,rfl,rfl,aP.of h1,rfl,_,rfl,l,_,1,_,rfl,rfl,bc.of hL.lst,ay (j:=1) e1,d,a1,h2,rfl,F3,q⟩
  ·rw[Sn.mpr k]at q;exact q
 ·have hx:x.nm≠"meet":=λe=>k (R6 (by rw[e]));obtain⟨g,gd,Dk,FG,kG,bG⟩:=GC x hx;refine⟨_,rfl,a,_,0,_,rfl,rfl,aP.of h1,ay (j:=0) rfl,aC,x.nm,g,rfl,rfl,Dk,aj ?_⟩;dsimp only;refine⟨_,rfl,g,gd,_,yl n x,rfl,FG,kG,bG,_,rfl,a,rfl,ha,hsm,λu H1 s1 hu1=>⟨u,rfl,⟨_,aP.of hu1⟩,λD hD=>?_⟩⟩;have hh:∃h0,hs[0]? = some h0/\hs.headD []=h0:=by
   cases hs with
   |nil=>cases x<;>cases hn
   |cons h0 r=>exact⟨h0,rfl,rfl⟩
  obtain⟨h0,Q0,eh⟩:=hh;obtain⟨a0,e0,jR⟩:=hL.nth Q0;refine cG (xs:=(qV x).map V.int) (λi σ ys H'=>(∃o,σ=[o,some (.ref l)])/\ys=(((qV x).take i).map λc=>there c h0).map V.bl/\ys.length=i/\H' D=some (.lst ys)/\aE H1 H') ⟨⟨none,rfl⟩,rfl,rfl,ae,ag hD _⟩ ?_ ?_ ?_ ?_ ?_
  ·rintro i σ ys H' _ ⟨_,_,hi,h,_⟩;exact⟨h,S0 hi⟩
  ·rintro i σ ys H' _ ⟨_,_,_,_,sm⟩;exact aP.of (sm _ _ hu1)
  ·rw[R7];exact R4 (zw hsm) (by decide)
  ·rintro i v σ ys H' hv ⟨⟨o,rfl⟩,rfl,hi,h,sm⟩;rw[Sw]at hv;cases ec:(qV x)[i]? with
   |none=>rw[ec]at hv;cases hv
   |some c =>
    rw[ec]at hv;have hv:V.int c=v:=Ss hv;subst hv;have s2:=s1.trans sm;refine⟨_,rfl,_,rfl,l,_,0,_,rfl,rfl,bc.of (s2 _ _ hL.lst),ay (j:=0) e0,c,a0,h0,rfl,s2 _ _ jR,h,⟨_,rfl⟩,?_,?_,ae,a_ hD sm⟩
    ·rw[take_one ec,R9,R9];rfl
    ·rw[R8,hi];rfl
  ·rintro σ ys H' ⟨_,rfl,_,h,sm⟩;rw[R7,SR]at h;refine⟨D,_,rfl,bc.of h,?_⟩;have e:eG x hs=((qV x).map λc=>there c h0).all id:=by
    cases x with
    |one x =>show(dN x).all (λc=>there c (hs.headD []))=_;rw[eh,List.all_map];rfl
    |both p q=>rfl
    |meet c d p q=>exact SJ rfl hx
   rw[←e];exact q H' (s1.trans sm)
end My
namespace L2
open PySem
section
variable{g g2:TG}{tc sk:TT}{te:TE}{wi2:TI}{D:Addr}{Q:VK}{N:St->List V->Hp->Prop}{qS:St}{H0:Hp}{M7:List V}{K:S7}{a:Addr}{xs:List V}
theorem wx(Pv:Nat->St->List V->Hp->Prop)(h0:Pv 0 qS [] H0)(hD:∀i σ ys H,i<=xs.length->Pv i σ ys H->H D=some (.lst ys))(hl:∀i σ ys H,i<=xs.length->Pv i σ ys H->bc K H a xs)
  (hs:∀i x σ ys H,xs[i]? = some x->Pv i σ ys H->g x σ H λcR H2=>tc cR H2 λb H3=>if b=true then wi2 cR H3 λJ2 H4=>∃W2:Nat->Nat->St->List V->Hp->Prop,(∃m,W2 0 m cR ys H4)/\oU J2 g2 sk te D (Pv (i+1)) W2 else Pv (i+1) cR ys H3)
  (hd:∀σ ys H,Pv xs.length σ ys H->Q (.ref D) H):∃W:Nat->Nat->St->List V->Hp->Prop,(∃m,W 0 m qS [] H0)/\rB (EF K a) g tc wi2 g2 sk te D Q W:=by
 refine⟨λi m σ ys H=>m=xs.length-i/\i<=xs.length/\Pv i σ ys H,⟨xs.length,by simp,Sr _,h0⟩,?_⟩;rintro i m σ ys H ⟨rfl,hi,p⟩;have q:=hl i σ ys H hi p;refine⟨hD i σ ys H hi p,?_⟩;by_cases hlt:i<xs.length
 ·refine .inr ⟨⟨xs,xs[i],q,by simp[hlt]⟩,Pv (i+1),λσ' ys' H' p'=>⟨xs.length-(i+1),by omega,rfl,hlt,p'⟩,λx H' y=>?_⟩;obtain⟨e,y⟩:=y;subst e;exact hs i x σ ys _ (y xs q) p
 ·have e:i=xs.length:=by omega
  subst e;exact .inl ⟨⟨xs,q,R3 _⟩,hd σ ys H p⟩
end
end L2
namespace My
open PySem L2
def alike(s t:Str):Bool:=decide (s=t) && !decide (s="t")
def r8:Sp:=λvs H Q _=>∃s t:Str,vs=[.str s,.str t]/\Q (.bl (alike s t)) H
theorem du(s t:Str):decide (V.str s=V.str t)=decide (s=t):=by
 by_cases e:s=t
 ·rw[e];simp
 ·rw[R5 e,R5 (λz=>e (V.str.inj z))]
abbrev fG:Stmt:=top 22
theorem mr:au ["one","other"] ["one","other"] (ao fG):=fs
variable{P:Program}{w:World}{K:S7}{mg:Str->Option Value}{base:Heap}
theorem Bw{tk:Tok}(mT:mg "TALLY"=some (.str "t" tk))(F:FA K mg "are_same_sort" fG) :
  bB bE P w K mg base 1 "are_same_sort" ["one","other"] r8:=by
 refine F.ok mr λf cdv A outer s H vs Q E hr h=>?_;obtain⟨s1,t1,rfl,q⟩:=h;refine⟨_,(ax (gr (eY bM (pv 0) (pv 1)) (d_ (eY uQ (pv 0) (cz (v:=.str "t") rfl mT ⟨_,rfl⟩))))),?_⟩;unfold alike at q;refine⟨_,rfl,_,rfl,rfl,_,rfl,?_⟩;rw[du];refine fJ (λk=>?_) (λk=>?_)
 ·rw[k,Bool.true_and,←du]at q;exact⟨_,rfl,rfl,q⟩
 ·rw[Sn.mpr k]at q;exact q
def gT(vs:List V)(t:Str):Bool:=!decide (t="t")&&vs.all λv=>decide (sW v=t)
def iW:Sp:=λvs H Q _=>∃(l:Addr)(us:List V)(t:Str),vs=[.ref l,.str t]/\H l=some (.lst us)/\us.length<=100000/\(∀v∈us,ky v)/\∀H',aE H H'->Q (.bl (gT us t)) H'
abbrev jK:Stmt:=top 23
theorem sI:au ["cells","column_sort"] ["cells","column_sort"] (ao jK):=fs
theorem uN{tk:Tok}(B2:pP mg)(mT:mg "TALLY"=some (.str "t" tk))(F:FA K mg "cells_fit" jK)
  (iM:bB bE P w K mg base 1 "sort_of" ["cell"] gq) :
  bB bE P w K mg base 2 "cells_fit" ["cells","column_sort"] iW:=by
 refine F.ok sI λf cdv A outer s H vs Q E hr h=>?_;obtain⟨l,us,t,rfl,hl,hz,hc,q⟩:=h;refine⟨_,(ax (gr (eY uQ (pv 1) (cz (v:=.str "t") rfl mT ⟨_,rfl⟩)) (d_ (aK (fZ rfl) rfl B2.all PyProof.Rows.boot_all (aa (bw (N':=["cell","column_sort"]) (src:=[none,some 1]) rfl (ba.jb (by kernel_rfl)) (c0 (pv 0)) (λcl C s H fp=>(e7 (i:=0))) (λcl C s H fp=>bg) (te:=(eZ JM (kF gq [] E0 (eN (bp 0) nI)) (bp 1))) (λcl C s H fp=>(eY bM (aM (hg:=Dh) iM hr (aa (fP 0) ah)) (oY 1)))) ah))))),?_⟩;unfold gT at q;refine⟨_,rfl,rfl,_,rfl,?_⟩;rw[du];refine fJ (λk=>?_) (λk=>?_)
 ·rw[k,Bool.true_and]at q;refine⟨_,rfl,l,rfl,⟨_,bc.of hl⟩,λD hD=>?_⟩;refine dn (xs:=us) (λi σ ys H'=>(∃o,σ=[o,some (.str t)])/\ys=((us.take i).map λv=>decide (sW v=t)).map V.bl/\ys.length=i/\H' D=some (.lst ys)/\aE H H') ⟨⟨none,rfl⟩,rfl,rfl,ae,ag hD _⟩ ?_ ?_ ?_ ?_ ?_
  ·rintro i σ ys H' _ ⟨_,_,hi,h,_⟩;exact⟨h,S0 hi⟩
  ·rintro i σ ys H' _ ⟨_,_,_,_,sm⟩;exact bc.of (sm _ _ hl)
  ·exact R4 hz (by decide)
  ·rintro i v σ ys H' hv ⟨⟨o,rfl⟩,rfl,hi,h,sm⟩;refine⟨_,rfl,v,rfl,hc v (Sf hv),_,rfl,rfl,h,⟨_,rfl⟩,?_,?_,ae,a_ hD sm⟩
   ·rw[take_one hv,R9,R9,du];rfl
   ·rw[R8,hi];rfl
  ·rintro σ ys H' ⟨_,rfl,_,h,sm⟩;rw[SR]at h;refine⟨D,_,rfl,bc.of h,?_⟩;have e:(us.all λv=>decide (sW v=t))=(us.map λv=>decide (sW v=t)).all id:=by rw[List.all_map];rfl
   rw[←e];exact q H' sm
 ·rw[Sn.mpr k]at q;exact q H (aE.refl _)
def goodW:Wk->Prop
 | .one x=>FI x
 |_=>True
def gU(ss:List Str):Bool:=ss.all λs=>decide (s=ss.headD "")
def cL(t:Str):Str:=if t="t" then "n" else t
def bR:Wk->List Hd->Bool
 | .one (.keep c t),hs=>decide (t=cL (bD (hs.headD []) c))
 | .one (.same c d),hs=>alike (bD (hs.headD []) c) (bD (hs.headD []) d)
 | .one (.turn c ps),hs=>gT (ps.flatMap λp=>[p.1,p.2]) (bD (hs.headD []) c)
 | .one (.must c ps),hs=>gU (ps.map λp=>sW p.2)&&gT (ps.map λp=>p.1) (bD (hs.headD []) c)
 | .one (.walk c mv),hs=>gT (mv.filter λv=>!decide (v=.non)) (bD (hs.headD []) c)
 | .one (.sum _ c),hs=>!decide (bD (hs.headD []) c="w")
 | .both ..,hs=>decide (hs.headD []=hs.getD 1 [])
 | .meet c d _ _,hs=>alike (bD (hs.headD []) c) (bD (hs.getD 1 []) d)
 |_,_=>true
def qq(k:Wk->Prop)(x:Wk)(hs:List Hd):Prop:=k x/\eG x hs=true/\goodW x
theorem km{c:Int}{h:Hd}(e:there c h=true):1<=c/\c<=h.length:=by unfold there at e;simp only[SH,decide_eq_true_eq]at e;exact e
theorem dX{x:W1}{h:Hd}{c:Int}(e:eG (.one x) [h]=true)(hc:c∈dN x):1<=c/\c<=h.length:=km (List.all_eq_true.mp e c hc)
abbrev ju:Stmt:=top 24
theorem lS:au ["worker","heads","column_sort"] ["worker","heads"] (ao ju):=fs
theorem uS{n:Nat}{tk:Tok}(mT:mg "TALLY"=some (.str "t" tk))(F:FA K mg "keep_fits" ju) :
  bB bE P w K mg base 1 "keep_fits" ["worker","heads"] (c9 n bR (qq λx=>∃c t,x=.one (.keep c t))):=by
 refine F.ok lS λf cdv A outer s H vs Q E hr h=>?_;obtain⟨a,l,x,as,hs,rfl,ha,hL,hn,hsm,ho,q⟩:=h;refine⟨_,(ak (aX (i:=2) lS.nd rfl (SQ rfl) (aG K (bK K (pv 1) ai) (aU ck (aG K (pv 0) ai) ai)))
   (ax (eY bM (aG K (aG K (pv 0) ai) ai) (lJ (bu bM (pv 2) (cz (v:=.str "t") rfl mT ⟨_,rfl⟩)) av (pv 2))))),?_⟩
 obtain⟨⟨c,t,rfl⟩,hf,hg⟩:=ho;obtain⟨hd,rfl⟩:=cS hn;obtain⟨a0,e0,jR⟩:=hL.nth (i:=0) rfl;obtain⟨st,xs,h1,h2⟩:=eF.mp ha;have hc:=dX hf (c:=c) (by simp[dN]);refine⟨_,rfl,l,_,0,_,rfl,rfl,bc.of hL.lst,ay (j:=0) e0,_,rfl,a,_,1,_,rfl,rfl,aP.of h1,rfl,_,_,rfl,rfl,a0,_,_,_,rfl,rfl,aP.of jR,fE hc,aj ?_⟩;dsimp only;refine⟨_,rfl,a,_,2,_,rfl,rfl,aP.of h1,rfl,st,_,0,_,rfl,rfl,aP.of h2,ay (j:=0) rfl,_,rfl,rfl,_,rfl,?_⟩;have q:=q H (aE.refl _);have q:Q (.bl (decide (t=cL (bD hd c)))) H:=q;unfold cL at q;rw[du];refine fJ (λk=>?_) (λk=>?_)
 ·rw[SM (SI k),←du]at q;exact⟨rfl,q⟩
 ·rw[SK (λe=>k (R6 e)),←du]at q;exact⟨_,rfl,rfl,q⟩
abbrev jr:Stmt:=top 25
theorem rl:au ["worker","heads"] ["worker","heads"] (ao jr):=fs
theorem va{n:Nat}(F:FA K mg "same_fits" jr)
  (fM:bB bE P w K mg base 1 "are_same_sort" ["one","other"] r8) :
  bB bE P w K mg base 2 "same_fits" ["worker","heads"] (c9 n bR (qq λx=>∃c d,x=.one (.same c d))):=by
 refine F.ok rl λf cdv A outer s H vs Q E hr h=>?_;obtain⟨a,l,x,as,hs,rfl,ha,hL,hn,hsm,ho,q⟩:=h;refine⟨_,(ax (aM fM hr (aa (aG K (bK K (pv 1) ai) (aU ck (aG K (pv 0) ai) ai)) (aa (aG K (bK K (pv 1) ai) (aU ck (aG K (pv 0) ai) ai)) ah)))),?_⟩;obtain⟨⟨c,d,rfl⟩,hf,hg⟩:=ho;obtain⟨hd,rfl⟩:=cS hn;obtain⟨a0,e0,jR⟩:=hL.nth (i:=0) rfl;have h1:H a=some (.tup [.str "same",.int c,.int d]):=eF.mp ha;have hc:=dX hf (c:=c) (by simp[dN]);have hc2:=dX hf (c:=d) (by simp[dN]);refine⟨_,rfl,l,_,0,_,rfl,rfl,bc.of hL.lst,ay (j:=0) e0,_,rfl,a,_,1,_,rfl,rfl,aP.of h1,rfl,_,_,rfl,rfl,a0,_,_,_,rfl,rfl,aP.of jR,fE hc,?_⟩;exact⟨_,rfl,l,_,0,_,rfl,rfl,bc.of hL.lst,ay (j:=0) e0,_,rfl,a,_,2,_,rfl,rfl,aP.of h1,rfl,_,_,rfl,rfl,a0,_,_,_,rfl,rfl,aP.of jR,fE hc2,_,_,rfl,q H (aE.refl _)⟩
abbrev kW:Stmt:=top 29
theorem tI:au ["worker","heads"] ["worker","heads"] (ao kW):=fs
theorem xg{n:Nat}(F:FA K mg "sum_fits" kW) :
  bB bE P w K mg base 1 "sum_fits" ["worker","heads"] (c9 n bR (qq λx=>∃cs c,x=.one (.sum cs c))):=by
 refine F.ok tI λf cdv A outer s H vs Q E hr h=>?_;obtain⟨a,l,x,as,hs,rfl,ha,hL,hn,hsm,ho,q⟩:=h;refine⟨_,(ax (eY uQ (aG K (bK K (pv 1) ai) (aU ck (aG K (pv 0) ai) ai)) av)),?_⟩;obtain⟨⟨cs,c,rfl⟩,hf,hg⟩:=ho;obtain⟨hd,rfl⟩:=cS hn;obtain⟨a0,e0,jR⟩:=hL.nth (i:=0) rfl;obtain⟨t,h1,h2⟩:=eF.mp ha;have hc:=dX hf (c:=c) (by simp[dN]);have q:=q H (aE.refl _);have q:Q (.bl (!decide (bD hd c="w"))) H:=q;rw[←du]at q;exact⟨_,rfl,l,_,0,_,rfl,rfl,bc.of hL.lst,ay (j:=0) e0,_,rfl,a,_,2,_,rfl,rfl,aP.of h1,rfl,_,_,rfl,rfl,a0,_,_,_,rfl,rfl,aP.of jR,fE hc,rfl,q⟩
abbrev jE:Stmt:=top 31
theorem rR:au ["worker","heads"] ["worker","heads"] (ao jE):=fs
theorem tO{n:Nat}(F:FA K mg "meet_fits" jE)
  (fM:bB bE P w K mg base 1 "are_same_sort" ["one","other"] r8) :
  bB bE P w K mg base 2 "meet_fits" ["worker","heads"] (c9 n bR (qq λx=>∃c d p q,x=.meet c d p q)):=by
 refine F.ok rR λf cdv A outer s H vs Q E hr h=>?_;obtain⟨a,l,x,as,hs,rfl,ha,hL,hn,hsm,ho,q⟩:=h;refine⟨_,(ax (aM fM hr (aa (aG K (bK K (pv 1) ai) (aU ck (aG K (pv 0) ai) ai)) (aa (aG K (bK K (pv 1) ai) (aU ck (aG K (pv 0) ai) ai)) ah)))),?_⟩;obtain⟨⟨c,d,p1,p2,rfl⟩,hf,hg⟩:=ho;obtain⟨h0,h2,rfl⟩:=kj hn;obtain⟨a0,e0,jR⟩:=hL.nth (i:=0) rfl;obtain⟨a1,e1,F3⟩:=hL.nth (i:=1) rfl;cases n with
 |zero=>exact SS ha
 |succ n =>
 obtain⟨b,e,bs,es,h1,_⟩:=ha;have hf:(there c h0&&there d h2)=true:=hf;rw[SH]at hf;refine⟨_,rfl,l,_,0,_,rfl,rfl,bc.of hL.lst,ay (j:=0) e0,_,rfl,a,_,1,_,rfl,rfl,aP.of h1,rfl,_,_,rfl,rfl,a0,_,_,_,rfl,rfl,aP.of jR,fE (km hf.1),?_⟩;exact⟨_,rfl,l,_,1,_,rfl,rfl,bc.of hL.lst,ay (j:=1) e1,_,rfl,a,_,2,_,rfl,rfl,aP.of h1,rfl,_,_,rfl,rfl,a1,_,_,_,rfl,rfl,aP.of F3,fE (km hf.2),_,_,rfl,q H (aE.refl _)⟩
theorem AK(s t:List Str):cI (.tup (s.map D.str)) (.tup (t.map D.str))=decide (s=t):=by
 have gen:∀s t:List Str,fD (s.map D.str) (t.map D.str)=decide (s=t):=by
  intro s;induction s with
  |nil=>intro t;cases t<;>simp[fD]
  |cons x s ih =>
   intro t;cases t with
   |nil=>simp[fD]
   |cons y t =>rw[S2,S2,fD,ih t];by_cases e1:x=y<;>by_cases e2:s=t<;>simp[cI,e1,e2]
 rw[cI,gen]
theorem F1{K:S7}{H:Hp}{a:Addr}{h:Hd}(e:gE H a h):aV K H (.tup (h.map D.str)) (.ref a):=cE e (qG h)
theorem wM(h:List Str):(D.tup (h.map D.str)).depth<=1:=by
 rw[D.depth];have:b_ (h.map D.str)<=0:=by
  induction h with
  |nil=>rw[List.map_nil,b_];exact R3 _
  |cons x h ih=>rw[S2,b_];exact Nat.max_le.mpr ⟨by simp[D.depth],ih⟩
 omega
abbrev jP:Stmt:=top 30
theorem rQ:au ["worker","heads"] ["worker","heads"] (ao jP):=fs
theorem uO{n:Nat}(F:FA K mg "both_fits" jP) :
  bB bE P w K mg base 1 "both_fits" ["worker","heads"] (c9 n bR (qq λx=>∃p q,x=.both p q)):=by
 refine F.ok rQ λf cdv A outer s H vs Q E hr h=>?_;have hu:=gX hr;obtain⟨a,l,x,as,hs,rfl,ha,hL,hn,hsm,ho,q⟩:=h;refine⟨_,(ax (eY w6 (bK K (pv 1) ai) (bK K (pv 1) ai))),?_⟩;obtain⟨⟨p1,p2,rfl⟩,hf,hg⟩:=ho;obtain⟨h0,h2,rfl⟩:=kj hn;obtain⟨a0,e0,jR⟩:=hL.nth (i:=0) rfl;obtain⟨a1,e1,F3⟩:=hL.nth (i:=1) rfl;refine⟨_,rfl,l,_,0,_,rfl,rfl,bc.of hL.lst,ay (j:=0) e0,_,rfl,l,_,1,_,rfl,rfl,bc.of hL.lst,ay (j:=1) e1,_,_,F1 jR,F1 F3,?_,?_⟩
 ·exact R_ (Nat.add_le_add_left (R4 (wM h0) (by decide:1<=8)) _) hu
 ·rw[AK];exact q H (aE.refl _)
end My
namespace L2
open PySem
section
variable{g g2:TG}{tc sk:TT}{te:TE}{wi2:TI}{D:Addr}{Q:VK}{N:St->List V->Hp->Prop}{qS:St}{H0:Hp}{M7:List V}{K:S7}{a:Addr}{xs:List V}
theorem rh(Pv:Nat->St->List V->Hp->Prop)(h0:Pv 0 qS [] H0)(hD:∀i σ ys H,i<=xs.length->Pv i σ ys H->H D=some (.lst ys))(hl:∀i σ ys H,i<=xs.length->Pv i σ ys H->aP K H a xs)
  (hs:∀i x σ ys H,xs[i]? = some x->Pv i σ ys H->g x σ H λcR H2=>tc cR H2 λb H3=>if b=true then wi2 cR H3 λJ2 H4=>∃W2:Nat->Nat->St->List V->Hp->Prop,(∃m,W2 0 m cR ys H4)/\oU J2 g2 sk te D (Pv (i+1)) W2 else Pv (i+1) cR ys H3)
  (hd:∀σ ys H,Pv xs.length σ ys H->Q (.ref D) H):∃W:Nat->Nat->St->List V->Hp->Prop,(∃m,W 0 m qS [] H0)/\rB (Df K a) g tc wi2 g2 sk te D Q W:=by
 refine⟨λi m σ ys H=>m=xs.length-i/\i<=xs.length/\Pv i σ ys H,⟨xs.length,by simp,Sr _,h0⟩,?_⟩;rintro i m σ ys H ⟨rfl,hi,p⟩;have q:=hl i σ ys H hi p;refine⟨hD i σ ys H hi p,?_⟩;by_cases hlt:i<xs.length
 ·refine .inr ⟨⟨xs,xs[i],q,by simp[hlt]⟩,Pv (i+1),λσ' ys' H' p'=>⟨xs.length-(i+1),by omega,rfl,hlt,p'⟩,λx H' y=>?_⟩;obtain⟨e,y⟩:=y;subst e;exact hs i x σ ys _ (y xs q) p
 ·have e:i=xs.length:=by omega
  subst e;exact .inl ⟨⟨xs,q,R3 _⟩,hd σ ys H p⟩
theorem mJ(Pv:Nat->St->List V->Hp->Prop)(h0:Pv 0 qS M7 H0)(hD:∀i σ ys H,i<=xs.length->Pv i σ ys H->H D=some (.lst ys)/\(i<xs.length->ys.length<sizeLine))(hl:∀i σ ys H,i<=xs.length->Pv i σ ys H->aP K H a xs)
  (hs:∀i x σ ys H,xs[i]? = some x->Pv i σ ys H->g x σ H λcR H2=>tc cR H2 λb H3=>if b=true then te cR H3 λv H4=>H4 D=some (.lst ys)/\Pv (i+1) cR (ys++[v]) (upd H4 D (.lst (ys++[v])))else Pv (i+1) cR ys H3)
  (hd:∀σ ys H,Pv xs.length σ ys H->N σ ys H):∃W:Nat->Nat->St->List V->Hp->Prop,(∃m,W 0 m qS M7 H0)/\oU (Df K a) g tc te D N W:=by
 refine⟨λi m σ ys H=>m=xs.length-i/\i<=xs.length/\Pv i σ ys H,⟨xs.length,by simp,Sr _,h0⟩,?_⟩;rintro i m σ ys H ⟨rfl,hi,p⟩;have q:=hl i σ ys H hi p;refine⟨(hD i σ ys H hi p).1,?_⟩;by_cases hlt:i<xs.length
 ·refine .inr ⟨⟨xs,xs[i],q,by simp[hlt]⟩,(hD i σ ys H hi p).2 hlt,Pv (i+1),λσ' ys' H' p'=>⟨xs.length-(i+1),by omega,rfl,hlt,p'⟩,λx H' y=>?_⟩;obtain⟨e,y⟩:=y;subst e;exact hs i x σ ys _ (y xs q) p
 ·have e:i=xs.length:=by omega
  subst e;exact .inl ⟨⟨xs,q,R3 _⟩,hd σ ys H p⟩
end
end L2
namespace My
open PySem L2
abbrev jt:Stmt:=top 26
theorem sg:au ["worker","heads"] ["worker","heads"] (ao jt):=fs
variable{P:Program}{w:World}{K:S7}{mg:Str->Option Value}{base:Heap}
theorem s_{n:Nat}(F:FA K mg "turn_fits" jt)
  (fo:bB bE P w K mg base 2 "cells_fit" ["cells","column_sort"] iW) :
  bB bE P w K mg base 3 "turn_fits" ["worker","heads"] (c9 n bR (qq λx=>∃c ps,x=.one (.turn c ps))):=by
 refine F.ok sg λf cdv A outer s H vs Q E hr h=>?_;have hu:=gX hr;obtain⟨a,l,x,as,hs,rfl,ha,hL,hn,hsm,ho,q⟩:=h;refine⟨_,(ax (aM fo hr (aa (qR (N':=["pair","cell"]) (src:=[none,none]) rfl (ba.jb (by kernel_rfl)) (cu (aG K (pv 0) ai)) (λcl C s H fp=>(e7 (i:=0))) (λcl C s H fp=>bg) (wi2:=(DH K (bp 0))) (λcl C s H fp=>(cu (fP 0))) (λcl C s H fp=>(e7 (i:=1))) (λcl C s H fp=>bg) (te:=(bp 1)) (λcl C s H fp=>(fP 1))) (aa (aG K (bK K (pv 1) ai) (aU ck (aG K (pv 0) ai) ai)) ah)))),?_⟩;obtain⟨⟨c,ps,rfl⟩,hf,hg⟩:=ho;obtain⟨hd,rfl⟩:=cS hn;obtain⟨a0,e0,jR⟩:=hL.nth (i:=0) rfl;obtain⟨t,bs,h1,hI⟩:=eF.mp ha;have hc:=dX hf (c:=c) (by simp[dN]);have hz:ps.length<=1000:=hsm;have hg:∀p∈ps,ky p.1/\ky p.2:=hg;have hlb:(bs.map V.ref).length=ps.length:=by rw[R7,hI.len]
 refine⟨_,rfl,a,_,2,_,rfl,rfl,aP.of h1,rfl,t,rfl,⟨_,aP.of hI.tup⟩,λD hD=>?_⟩;refine rh (xs:=bs.map V.ref) (λi σ ys H'=>(∃o1 o2,σ=[o1,o2])/\ys=(ps.take i).flatMap (λp=>[p.1,p.2])/\ys.length=2*i/\H' D=some (.lst ys)/\aE H H') ⟨⟨none,none,rfl⟩,rfl,rfl,ae,ag hD _⟩ ?_ ?_ ?_ ?_
 ·rintro i σ ys H' _ ⟨_,_,_,h,_⟩;exact h
 ·rintro i σ ys H' _ ⟨_,_,_,_,sm⟩;exact aP.of (sm _ _ hI.tup)
 ·rintro i v σ ys H' hv ⟨⟨o1,o2,rfl⟩,rfl,hi,h,sm⟩;obtain⟨b,p,rfl,ep,hb⟩:=hI.get hv;have hib:i<1000:=by have:=(Sj.mp ep).1;omega
  refine aj ⟨_,rfl,b,rfl,⟨_,aP.of (sm _ _ hb)⟩,?_⟩;refine mJ (xs:=[p.1,p.2]) (λj σ zs H2=>(∃o,σ=[some (.ref b),o])/\zs=(ps.take i).flatMap (λp=>[p.1,p.2])++[p.1,p.2].take j/\zs.length=2*i+j/\H2 D=some (.lst zs)/\aE H H2) ⟨⟨o2,rfl⟩,by rw[List.take_zero,SX],hi,h,sm⟩ ?_ ?_ ?_ ?_
  ·rintro j σ zs H2 hj ⟨_,_,Hm,h2,_⟩;refine⟨h2,λ_=>?_⟩;rw[Hm];exact R_ (show 2*i+j<=3000 by have:j<=2:=hj;omega) (by decide)
  ·rintro j σ zs H2 _ ⟨_,_,_,_,s2⟩;exact aP.of (s2 _ _ hb)
  ·rintro j u σ zs H2 hu' ⟨⟨o,rfl⟩,rfl,Hm,h2,s2⟩;refine aj ⟨_,rfl,h2,⟨_,rfl⟩,?_,?_,ae,a_ hD s2⟩
   ·rw[take_one hu',List.append_assoc]
   ·rw[R8,Hm];rfl
  ·rintro σ zs H2 ⟨⟨o,rfl⟩,rfl,Hm,h2,s2⟩;refine⟨⟨_,_,rfl⟩,?_,by rw[Hm];show 2*i+2=_;omega,h2,s2⟩;rw[take_one ep,List.flatMap_append];rfl
 ·rintro σ ys H1 ⟨_,rfl,hyl,h,sm⟩;rw[hlb,SR]at h hyl;refine⟨_,rfl,l,_,0,_,rfl,rfl,bc.of (sm _ _ hL.lst),ay (j:=0) e0,_,rfl,a,_,1,_,rfl,rfl,aP.of (sm _ _ h1),rfl,_,_,rfl,rfl,a0,_,_,_,rfl,rfl,aP.of (sm _ _ jR),fE hc,?_⟩;refine⟨D,_,_,rfl,h,by omega,λv hv=>?_,λH' s'=>q H' (sm.trans s')⟩;obtain⟨p,hp,hv⟩:=List.mem_flatMap.mp hv;simp only[Sm,SN,or_false]at hv;rcases hv with rfl|rfl
  ·exact(hg p hp).1
  ·exact(hg p hp).2
abbrev jZ:Stmt:=top 28
theorem lU:au ["worker","heads","cells"] ["worker","heads"] (ao jZ):=fs
theorem u0{n:Nat}(F:FA K mg "walk_fits" jZ)
  (fo:bB bE P w K mg base 2 "cells_fit" ["cells","column_sort"] iW) :
  bB bE P w K mg base 3 "walk_fits" ["worker","heads"] (c9 n bR (qq λx=>∃c mv,x=.one (.walk c mv))):=by
 refine F.ok lU λf cdv A outer s H vs Q E hr h=>?_;obtain⟨a,l,x,as,hs,rfl,ha,hL,hn,hsm,ho,q⟩:=h;refine⟨_,(ak (fe (i:=2) (N':=["state","cell","after"]) (src:=[none,none,none]) lU.nd rfl (SQ rfl) rfl rfl (ba.jb (by kernel_rfl)) (cu (aG K (pv 0) ai)) (g:=(mM K 3 (cx (bT 0) (cx (bT 1) (cx (bT 2) mK))))) (λcl C s H fp=>(bS rfl (aq (e7 (i:=0)) (aq (e7 (i:=1)) (aq (e7 (i:=2)) bz))))) (tc:=(jf (eZ (λx y H Q=>y=.non/\Q (.bl (!decide (x=.non))) H) (bp 1) (tC .non)))) (λcl C s H fp=>dR (bu n_ (fP 1) fh)) (te:=(bp 1)) (λcl C s H fp=>(fP 1)))
   (ax (aM fo hr (aa (pv 2) (aa (aG K (bK K (pv 1) ai) (aU ck (aG K (pv 0) ai) ai)) ah))))),?_⟩
 obtain⟨⟨c,mv,rfl⟩,hf,hg⟩:=ho;obtain⟨hd,rfl⟩:=cS hn;obtain⟨a0,e0,jR⟩:=hL.nth (i:=0) rfl;obtain⟨st,t,bs,h1,hI⟩:=eF.mp ha;have hc:=dX hf (c:=c) (by simp[dN]);have hz:mv.length<=1000:=hsm;have hg:∀v∈mv,v=.non\/ky v:=hg;have hlb:(bs.map V.ref).length=mv.length:=by rw[R7,hI.len]
 refine⟨_,rfl,a,_,3,_,rfl,rfl,aP.of h1,rfl,t,rfl,⟨_,aP.of hI.tup⟩,λD hD=>?_⟩;refine cG (xs:=bs.map V.ref) (λi σ ys H'=>(∃o1 o2 o3,σ=[o1,o2,o3])/\ys=(mv.take i).filter (λv=>!decide (v=.non))/\ys.length<=i/\H' D=some (.lst ys)/\aE H H') ⟨⟨none,none,none,rfl⟩,rfl,R3 _,ae,ag hD _⟩ ?_ ?_ ?_ ?_ ?_
 ·rintro i σ ys H' _ ⟨_,_,hi,h,_⟩;exact⟨h,hi⟩
 ·rintro i σ ys H' _ ⟨_,_,_,_,sm⟩;exact aP.of (sm _ _ hI.tup)
 ·rw[hlb];exact R4 hz (by decide)
 ·rintro i v σ ys H' hv ⟨⟨o1,o2,o3,rfl⟩,rfl,hi,h,sm⟩;obtain⟨b,u,rfl,eu,s1,t1,hb⟩:=hI.get hv;refine⟨b,_,rfl,aP.of (sm _ _ hb),rfl,_,_,rfl,aj ⟨_,_,rfl,aj ⟨_,_,rfl,aj ⟨rfl,?_⟩⟩⟩⟩;refine⟨_,rfl,rfl,_,rfl,?_⟩;refine fJ (λk=>?_) (λk=>?_)
  ·refine⟨_,rfl,h,⟨_,_,_,rfl⟩,?_,by rw[R8];simp only[List.length_singleton];omega,ae,a_ hD sm⟩;rw[take_one eu,List.filter_append,List.filter_cons,SM k];rfl
  ·refine⟨⟨_,_,_,rfl⟩,?_,by omega,h,sm⟩;rw[take_one eu,List.filter_append,List.filter_cons,SK k];simp
 ·rintro σ ys H1 ⟨_,rfl,hyl,h,sm⟩;rw[hlb,SR]at h hyl;refine aj ?_;dsimp only;refine⟨_,rfl,_,rfl,l,_,0,_,rfl,rfl,bc.of (sm _ _ hL.lst),ay (j:=0) e0,_,rfl,a,_,1,_,rfl,rfl,aP.of (sm _ _ h1),rfl,_,_,rfl,rfl,a0,_,_,_,rfl,rfl,aP.of (sm _ _ jR),fE hc,?_⟩;refine⟨D,_,_,rfl,h,by omega,λv hv=>?_,λH' s'=>q H' (sm.trans s')⟩;obtain⟨hm,hk⟩:=List.mem_filter.mp hv;rcases hg v hm with rfl|z
  ·simp at hk
  ·exact z
end My
namespace L2
open PySem PySem.Spec PyProof.Rows
open Classical in
noncomputable def lR (ks:List Key) (k:Key):Bool:=decide (k∈ks)
open Classical in
theorem gy{ks:List Key}{k:Key}:lR ks k=true↔k∈ks:=by unfold lR;exact decide_eq_true_iff
noncomputable def fQ (ks:List Key) (k:Key):List Key:=if lR ks k=true then ks else ks++[k]
theorem Bl(ks:List Key)(k k':Key):lR (fQ ks k) k'=(lR ks k'||decide (k'=k)):=by
 rw[Bool.eq_iff_iff,Bool.or_eq_true,decide_eq_true_eq,gy,gy];unfold fQ;by_cases h:lR ks k=true
 ·rw[SM h];exact⟨.inl,λz=>z.elim id λe=>by rw[e];exact gy.mp h⟩
 ·rw[SK h,So,Sk]
def vw(J:It)(g:TG)(te:TE)(Q:VK)(W:Nat->Nat->St->List Key->Hp->Prop):Prop :=
 ∀i m σ ks H,W i m σ ks H->ks.length+1<scanBound/\((J.stop i H/\Q (.int (ks.length:Nat)) H)\/(J.go i H/\∃N:St->List Key->Hp->Prop,(∀σ' ks' H',N σ' ks' H'->∃m',m'<m/\W (i+1) m' σ' ks' H')/\
  ∀x H',J.AQ i H x H'->g x σ H' λcR H2=>te cR H2 λv H3=>∃k,v=kV k/\N cR (fQ ks k) H3))
def DU(src:List (Option Nat))(wi:TI)(g:TG)(te:TE):TE:=λσ H Q=>wi σ H λJ H1=>∃W:Nat->Nat->St->List Key->Hp->Prop,(∃m,W 0 m (iT src σ) [] H1)/\vw J g te Q W
section
variable{prog:Program}{w:World}{A:Around}{s:Shared}{R:Result->Shared->Prop}{elt target iter:Expr}{sc:Scope}{pos:Pos}{it acc:Value}{env:Env}
theorem zv:compTurn (.SetComp elt [⟨target,iter,[],0⟩] sc pos) 0 it acc env=(standAt iter.pos >>= λ_=>pyNext it >>= λr=>match r with
   |none=>pure (.done .next)
   |some v=>letOwnedTupleGo target it v >>= λ_=>assign target env v >>= λ_=>(eval elt env >>= λx=>standAt elt.pos >>= λ_=>call (.builtin "set.add") [acc,x] >>= λ_=>pure ()) >>= λ_=>again (.compLoop (.SetComp elt [⟨target,iter,[],0⟩] sc pos) 0 it acc env)):=by rfl
theorem vU(h0:codeAny (model prog w) A (.compLoop (.SetComp elt [⟨target,iter,[],0⟩] sc pos) 0 it acc env) R s)
  (h:wpAny (model prog w) A (pyIter it) (λit' s'=>codeAny (model prog w) A (.compLoop (.SetComp elt [⟨target,iter,[],0⟩] sc pos) 0 it' acc env) R s') (notedBy (model prog w) A env λx s'=>R (.error x) s') s) :
  codeAny (model prog w) A (.compStart (.SetComp elt [⟨target,iter,[],0⟩] sc pos) 0 it acc env) R s:=by
 refine codeAny_of_tree (show wpAny _ _ ((compStart (.SetComp elt [⟨target,iter,[],0⟩] sc pos) 0 it acc env).onRaise (λx=>do noteFrame x env;standAt theWindowsPlace)) _ _ s from wpAny_notedAt ?_);unfold compStart;refine show wpAny _ _ (ask >>= _) _ _ s from RX (wpAny_askSetting (wpAny_ite ?_))
 split
 ·first|exact RX (RY (RY ⟨rfl,h0⟩))|exact RY ⟨rfl,h0⟩
 ·refine RX (wpAny_rule (show wpAny _ _ (standAt iter.pos >>= _) _ _ s from ?_));exact RX (wpAny_standAt (RX (bO h λit' s' h'=>RY ⟨rfl,h'⟩)))
theorem yC(Iv:Nat->Shared->Prop)
  (turn:∀n s,Iv n s->wpAny (model prog w) A (pyNext it) (λr s₁=>match r with
   |none=>R (.ok .next) s₁
   |some v=>wpAny (model prog w) A (letOwnedTupleGo target it v) (λ_ s₁'=>wpAny (model prog w) A (assign target env v) (λ_ s₂=>wpAny (model prog w) A (eval elt env) (λx s₄ =>
       wpAny (model prog w) A (call (.builtin "set.add") [acc,x]) (λ_ s₅=>∃m,m<n/\Iv m s₅) (λ_ _=>False) s₄) (λ_ _=>False) s₂) (λ_ _=>False) s₁') (λ_ _=>False) s₁) (λ_ _=>False) s)
  (n:Nat) (h:Iv n s):codeAny (model prog w) A (.compLoop (.SetComp elt [⟨target,iter,[],0⟩] sc pos) 0 it acc env) R s:=by
 refine codeAny_loop rfl Iv (λn s hI=>?_) n h;show wpAny _ A ((compTurn (.SetComp elt [⟨target,iter,[],0⟩] sc pos) 0 it acc env).onRaise (λx=>do noteFrame x env;theTreesLotGoes x)) _ _ s;refine wpAny_noted ?_;rw[zv];refine RX (wpAny_standAt (RX (Sz (turn n s hI) (λr s₁ h₁=>?_) λ_ _ h'=>h'.elim)));cases r with
 |none=>exact RY h₁
 |some v =>refine RX (Sz h₁ (λ_ s₁' h₁'=>RX (Sz h₁' (λ_ s₂ h₂=>?_) λ_ _ h'=>h'.elim)) λ_ _ h'=>h'.elim);exact RX (RX (Sz h₂ (λx s₄ h₄=>RX (wpAny_standAt (RX (Sz h₄ (λ_ s₅ h₅=>RY (RY ⟨rfl,h₅⟩)) λ_ _ h'=>h'.elim)))) λ_ _ h'=>h'.elim))
end
theorem HR{k:Key}{u:Value}(r:RelV (kV k) u):gi k u=true/\u.scannable=true:=by
 cases k with
 |inl i=>obtain⟨t,rfl⟩:=r;exact⟨mI _ _,rfl⟩
 |inr x=>obtain⟨t,rfl⟩:=r;exact⟨m3 _ _,rfl⟩
section
variable{X:Cx}{elt target iter:Expr}{sc:Scope}{pos:Pos}{wi:TI}{g:TG}{te:TE}{N':List Str}{src:List (Option Nat)}
abbrev rZ(h:Heap)(prog:Program)(w:World)(S:Addr)(ks:List Key):Prop:=h.SetOf (bH prog w) S (λk=>lR ks k) ks.length
theorem Bb{h:Heap}{prog:Program}{w:World}{S:Addr}{ks:List Key}(x:rZ h prog w S ks):∃o,h.get? S=some o/\∀v,o.data≠ .cell v:=by obtain⟨o,es,ep,t,ho,_,hd,_⟩:=x;exact⟨o,ho,λv z=>by rw[hd]at z;cases z⟩
theorem j_{h h':Heap}{prog:Program}{w:World}{S:Addr}{ks:List Key}(x:rZ h prog w S ks)(k:∀o,h.get? S=some o->h'.get? S=some o):rZ h' prog w S ks:=by obtain⟨o,es,ep,t,ho,z⟩:=x;exact⟨o,es,ep,t,k _ ho,z⟩
theorem wJ{ac:List (Addr×Obj)}{σ:St}{H2:Hp}{s2:Shared}{it:Addr}{fp:List Addr}{tn:Nat->Heap->Prop}{J:It}{Q:VK}{E:Value->Shared->Prop}{RR:Value->Addr->Result->Shared->Prop}
  (hc:X.calm=true) (S:ba X.env.scope X.N N' src sc)
  (hg:∀cl C s H fp,PG (az X N' sc cl C s H fp) target g) (he:∀cl C s H fp,PE (az X N' sc cl C s H fp) elt te)
  (I2:Inv X ac σ H2 s2) (T:Turn X.prog X.w X.K target J fp it tn) (st2:tn 0 s2.heap) (f2:∀b∈fp,cQ X ac H2 b)
  (hW:∃W:Nat->Nat->St->List Key->Hp->Prop,(∃m,W 0 m (iT src σ) [] H2)/\vw J g te Q W)
  (hRR:∀D C s5 H' m ks,Inv X ac σ H' s5->s5.heap.Ns C m->cQ X ac H' C->C≠D->rZ s5.heap X.prog X.w D ks->Q (.int (ks.length:Nat)) H'->RR (.ref D) C (.ok .next) s5) :
  wpAny (model X.prog X.w) X.A (newSet (.type "set")) (λacc s₃=>wpAny (model X.prog X.w) X.A (newFunctionEnv sc X.env.globals (bt X.env.cells sc.names []) [] X.env.qual none .none (some X.env)) (λcenv s₄ =>
   codeAny (model X.prog X.w) X.A (.compStart (.SetComp elt [⟨target,iter,[],0⟩] sc pos) 0 (.ref it) acc {cenv with scope:=relabel sc X.env}) (RR acc cenv.locals) s₄) E s₃) E s2:=by
 have o2:∀b∈fp,b<s2.heap.objs.size:=λb hb=>by obtain⟨o,e,_⟩:=T.obj 0 _ st2 b hb;exact R0 e
 refine wpAny_newSet_of (knd:=bH X.prog X.w) λled hS=>?_;have E9:H2 s2.heap.objs.size=none:=I2.hok.fresh (R3 _);obtain⟨W,⟨m0,w0⟩,turn⟩:=hW;have Ga:∀b o,s2.heap.get? b=some o->(s2.heap.push {cls:=.type "set",dict:=none,data:=.set #[] 0 (.fresh 0 0 led)}).get? b=some o:=λb o e=>RZ _ e;have I3:Inv X ac σ H2 {s2 with heap:=s2.heap.push {cls:=.type "set",dict:=none,data:=.set #[] 0 (.fresh 0 0 led)}}:=I2.kept (t':=s2.toks) Ga;have fS:cQ X ac H2 s2.heap.objs.size:=I2.lF (R3 _) E9;have st3:tn 0 (s2.heap.push {cls:=.type "set",dict:=none,data:=.set #[] 0 (.fresh 0 0 led)}):=T.keep 0 _ _ st2 λb hb o e=>Ga b o e;generalize hs3:({s2 with heap:=s2.heap.push {cls:=.type "set",dict:=none,data:=.set #[] 0 (.fresh 0 0 led)}}:Shared)=s3 at I3;have hh3:s3.heap=s2.heap.push {cls:=.type "set",dict:=none,data:=.set #[] 0 (.fresh 0 0 led)}:=by rw[←hs3]
 have Af:s2.heap.objs.size<s3.heap.objs.size:=by rw[hh3,Heap.size_push];exact Nat.lt_succ_self _
 generalize RJ:s2.heap.objs.size=Sa at *;have o3:∀b∈Sa::fp,b<s3.heap.objs.size:=λb hb=>by
  rcases Sm.mp hb with rfl|hb
  ·exact Af
  ·exact Nat.lt_trans (o2 b hb) Af
 have nS:∀b∈fp,b≠Sa:=λb hb=>Sq (o2 b hb);have f3:∀b∈Sa::fp,cQ X ac H2 b:=λb hb=>by
  rcases Sm.mp hb with rfl|hb
  ·exact fS
  ·exact f2 b hb
 rw[←hh3]at st3 hS;refine wpAny_newFunctionEnv S.my (by intro y hy;simp at hy) (λh1 hns hsb=>?_) S.kind;have hsb':Heap.SameBut s3.heap.objs.size (s3.heap.push {cls:=.type "dict",data:=.dict #[]}) h1:=hsb;have I4:Inv (az X N' sc (bt X.env.cells sc.names []) s3.heap.objs.size s3 H2 (Sa::fp)) [] (iT src σ) H2 {s3 with heap:=h1,toks:=s3.toks+([]:List (Str×Value)).length} :=
  gk S I3 f3 o3 hns hsb'
 have k4:∀b o,b<s3.heap.objs.size->s3.heap.get? b=some o->h1.get? b=some o:=λb o hb e=>(hsb'.2 b (Sq hb)).trans (RZ _ e);have xq:tn 0 h1:=T.keep 0 _ _ st3 λb hb o e=>k4 b o (o3 b (Sg _ hb)) e;have e0:(λk:Key=>lR [] k) = λ_=>false:=by funext k;exact Sn.mpr λz=>by cases gy.mp z
 have QC:rZ s3.heap X.prog X.w Sa []:=by show Heap.SetOf _ _ _ (λk=>lR [] k) _;rw[e0];exact hS
 have P9:rZ h1 X.prog X.w Sa []:=j_ QC λo e=>k4 _ o Af e;have fC:∀(H':Hp),H' s3.heap.objs.size=none->cQ X ac H' s3.heap.objs.size:=λH' hn=>I3.lF (R3 _) hn;generalize hY:az X N' sc (bt X.env.cells sc.names []) s3.heap.objs.size s3 H2 (Sa::fp)=Y at I4;have L4:Y.prog=X.prog:=by rw[←hY]
 have LO:Y.w=X.w:=by rw[←hY]
 have Oa:Y.K=X.K:=by rw[←hY]
 have Oo:Y.calm=X.calm:=by rw[←hY]
 have LG:Y.A=X.A:=by rw[←hY]
 have Ob:Y.env=compEnvC sc (bt X.env.cells sc.names []) s3.heap.objs.size X.env:=by rw[←hY]
 have LI:Y.ex=Sa::fp:=by rw[←hY]
 have OA:Y.xe = λ_ _=>False:=by rw[←hY]
 have PD:Y.pn=[]:=by rw[←hY]
 have M_:PG Y target g:=by rw[←hY];exact hg _ _ _ _ _
 have MS:PE Y elt te:=by rw[←hY];exact he _ _ _ _ _
 have stat:∀{pl:List (Addr×Obj)}{H':Hp}{b:Addr},H' b=none->b∈Sa::fp->(∀p∈pl,p.1≠b)->cQ Y pl H' b:=λ{pl H' b} hn hb hp =>
  ⟨hn,(I4.ok.Ac b (by rw[LI];exact hb)).1,I4.ok.rO b (by rw[LI];exact hb),.inl (by rw[LI];exact hb),(I4.ok.Ac b (by rw[LI];exact hb)).2,λp h=>hp p (by rw[PD]at h;exact h)⟩
 have KP:∀{σ':St}{H':Hp}{s':Shared}{pl:List (Addr×Obj)}{o:Obj},Inv Y pl σ' H' s'->s'.heap.get? Sa=some o->(∀v,o.data≠ .cell v)->H' Sa=none->Inv Y [(Sa,o)] σ' H' s':=λ{σ' H' s' pl o} J e d hn =>
  J.gQ λp hp=>by
   have:p=(Sa,o):=by simpa using hp
   subst this;exact⟨e,hn,(stat (pl:=[]) hn SE λ_ z=>nomatch z).2.1,(stat (pl:=[]) hn SE λ_ z=>nomatch z).2.2.1,d⟩
 have loop:codeAny (model X.prog X.w) X.A (.compLoop (.SetComp elt [⟨target,iter,[],0⟩] sc pos) 0 (.ref it) (.ref Sa) (compEnvC sc (bt X.env.cells sc.names []) s3.heap.objs.size X.env))
   (RR (.ref Sa) s3.heap.objs.size) {s3 with heap:=h1,toks:=s3.toks+([]:List (Str×Value)).length}:=by
  refine yC (λn s'=>∃i σ' ks H',Inv Y [] σ' H' s'/\tn i s'.heap/\(∀b∈Sa::fp,H' b=none)/\rZ s'.heap X.prog X.w Sa ks/\W i n σ' ks H') ?_ m0
   ⟨0,_,[],_,I4,xq,λb hb=>(f3 b hb).1,P9,w0⟩
  rintro n s5 ⟨i,lW,ks,H5,I5,qo,sH,L_,w5⟩;obtain⟨hroom,alt⟩:=turn i n lW ks H5 w5;obtain⟨oS,eS,dS⟩:=Bb L_;have NR:=KP I5 eS dS (sH _ SE);have Bk:∀{H':Hp},(∀b∈fp,H' b=none)->∀b∈fp,cQ Y [(Sa,oS)] H' b:=λhn b hb=>stat (hn b hb) (Sg _ hb) λp hp=>by
   have:p=(Sa,oS):=by simpa using hp
   subst this;exact(nS b hb).symm
  have OS:∀b∈fp,H5 b=none:=λb hb=>sH b (Sg _ hb);rcases alt with⟨stop,qn⟩|⟨go,N,hN,step⟩
  ·have:=T.done Y L4 LO Oa (by rw[Oo];exact hc) i [(Sa,oS)] s5 lW H5 (λ_ _=>False) NR (Bk OS) qo stop;rw[LG]at this;refine bO this λr s6 zz=>?_;obtain⟨hr,I6⟩:=zz;subst hr;have PM:rZ s6.heap X.prog X.w Sa ks:=j_ L_ λo e=>by rw[eS]at e;cases e;exact(I6.pin (Sa,oS) (Se _ (.head _))).1
   subst hY;obtain⟨m6,n6,_⟩:=id I6.loc;exact hRR _ _ s6 H5 m6 ks (I3.call' I6.os I6.base I6.hok I6.bare λb hb=>⟨(f3 b hb).2.2.2.1,(f3 b hb).2.1,(f3 b hb).2.2.2.2.1,(f3 b hb).2.2.2.2.2⟩) n6 (fC _ I6.free) (Nat.ne_of_gt Af) PM qn
  ·have:=T.item Y L4 LO Oa (by rw[Oo];exact hc) i [(Sa,oS)] s5 lW H5 (λ_ _=>False) NR (Bk OS) qo go;rw[LG]at this;refine bO this λr s6 zz=>?_;obtain⟨u,hr,h6⟩:=zz;subst hr;refine bO h6 λ_ s7 zz=>?_;obtain⟨x,H7,I7,r7,y7,pN,CW⟩:=zz;have AG:=I7.pinned (Bk CW) (T.obj _ _ pN);have LX:=M_ _ s7 lW H7 x u _ AG r7 (step x H7 y7);rw[L4,LO,LG,Ob,OA]at LX;refine bO LX λ_ s8 zz=>?_;obtain⟨p6,H8,I8,q8⟩:=zz;have N4:=MS _ s8 p6 H8 _ I8 q8;rw[L4,LO,LG,Ob,OA]at N4;refine bO N4 λxv s9 zz=>?_;obtain⟨v,H9,I9,r9,k,ek,w9⟩:=zz;subst ek;obtain⟨hk1,hk2⟩:=HR r9;have pS:=I9.pin (Sa,oS) (Se _ (List.mem_append_left _ (.head _)));have P2:rZ s9.heap X.prog X.w Sa ks:=j_ L_ λo e=>by rw[eS]at e;cases e;exact pS.1
   refine call_set_add (knd:=bH X.prog X.w) (k:=k) hk1 hk2 P2 hroom λh' hsb hS'=>?_;obtain⟨m',hm,w'⟩:=hN _ _ _ w9;have FR:∀b∈fp,∀o,s7.heap.get? b=some o->s9.heap.get? b=some o/\H9 b=none:=λb hb o e=>by have:=I9.pin (b,o) (Se _ (Se _ (b9 hb e)));exact⟨this.1,this.2.1⟩
   have Rw:Inv Y [] p6 H9 s9:=I9.gQ λp hp=>nomatch hp
   have Ko:=stat (pl:=[]) (H':=H9) (b:=Sa) pS.2.1 SE λ_ z=>nomatch z
   refine⟨m',hm,i+1,p6,fQ ks k,H9,Rw.turned (t':=s9.toks+1) (λb o hb e=>(hsb.2 b hb).trans e) Ko.1 Ko.2.1 Ko.2.2.2.1 Ko.2.2.2.2.1 Ko.2.2.2.2.2,T.keep _ _ _ pN λb hb o e=>(hsb.2 b (nS b hb)).trans (FR b hb o e).1,λb hb=>?_,?_,w'⟩
   ·rcases Sm.mp hb with rfl|hb
    ·exact pS.2.1
    ·obtain⟨o,e,_⟩:=T.obj _ _ pN b hb;exact(FR b hb o e).2
   ·have e1:(λk'=>lR ks k'||decide (k'=k)) = λk'=>lR (fQ ks k) k':=by funext k';exact(Bl ks k k').symm
    have e2:(if lR ks k=true then ks.length else ks.length+1)=(fQ ks k).length:=by
     unfold fQ;by_cases h:lR ks k=true
     ·rw[SM h,SM h]
     ·rw[SK h,SK h,R8];rfl
    show h'.SetOf (bH X.prog X.w) Sa (λk'=>lR (fQ ks k) k') (fQ ks k).length;rw[←e1,←e2];exact hS'
 exact vU loop (T.self _ 0 _ _ _ xq loop)
theorem vz{np lp:Pos}(hc:X.calm=true)(Q6:Gl X "len")(MY:X.mg "len"=none)(S:ba X.env.scope X.N N' src sc)(hi:PI X target iter wi)
  (hg:∀cl C s H fp,PG (az X N' sc cl C s H fp) target g) (he:∀cl C s H fp,PE (az X N' sc cl C s H fp) elt te)
  (hs:∀x,foldedSetIterable iter X.env x=pure x:=by intro _;rfl) (hs1:starEach [Expr.SetComp elt [⟨target,iter,[],0⟩] sc pos] X.env=[(false,eval (.SetComp elt [⟨target,iter,[],0⟩] sc pos) X.env)]:=by rfl) :
  PE X (.Call (.Name "len" np) [.SetComp elt [⟨target,iter,[],0⟩] sc pos] [] lp) (DU src wi g te):=by
 intro ac s σ H Q I h;refine wpAny_Call_Name_kw (i0 I Q6 MY S5 ?_ (by decide) (by decide));refine PyProof.Rows.callWith_builtin1 ?_ hs1 rfl;rw[hs1];refine Calls.spliced_cons ?_;rw[arm_eval_SetComp];refine wpAny_comprehension_free (use:=none) (e:=.SetComp elt [⟨target,iter,[],0⟩] sc pos) (g:=⟨target,iter,[],0⟩) (gs:=[]) rfl hs (cw λy hy hk=>I.ok.has y.1 (S.free y hy hk)) S.kind (λy hy hl=>by rw[←hl];exact S.uniq y hy) ?_;refine bO (hi ac s σ H _ I h) λv s1 h1=>bO h1 λitv s2 h2=>?_;obtain⟨it,fp,tn,J,H2,e,I2,T,st2,f2,hW⟩:=h2;subst e;refine wJ (Q:=Q) (RR:=λacc C=>compPost (model X.prog X.w) X.A X.xe none (λv s2=>wpAny (model X.prog X.w) X.A (spliced []) (λvs s3=>wpAny (model X.prog X.w) X.A (call (.builtin "len") (v::vs)) (EP X ac σ Q) X.xe s3) X.xe s2) acc C) hc S hg he I2 T st2 f2 hW ?_;intro D C s5 H' m ks I5 n5 fC hCD hS q;refine⟨m,n5,λh' sb=>Calls.spliced_nil ?_⟩;have I6:=I5.turned (t':=s5.toks) (λb o hb e=>(sb.2 b hb).trans e) fC.1 fC.2.1 fC.2.2.2.1 fC.2.2.2.2.1 fC.2.2.2.2.2;obtain⟨o,es,ep,t,ho,hex,hd,hel,_,hb,hf,hn⟩:=j_ (h':=h') hS λo e=>(sb.2 _ hCD.symm).trans e;have hsc:(scanBound:Int)<2 ^ 63:=by decide
 have hlt:((es.size:Nat):Int)<2 ^ 63:=Int.lt_trans (Int.ofNat_lt.mpr hb) hsc;refine call_len_set (s:={s5 with heap:=h',toks:=s5.toks}) ho hex hd hf hlt ?_;exact⟨.int (ks.length:Nat),H',I6.kept (h':=h') (t':=s5.toks+1+1) λ_ _ e=>e,⟨_,by rw[hn]⟩,q⟩
end
end L2
namespace L2
open PySem
theorem v5{K:S7}{a:Addr}{xs:List V}{g:TG}{te:TE}{Q:VK}{qS:St}{H0:Hp}(Pv:Nat->St->List Key->Hp->Prop)(h0:Pv 0 qS [] H0)(hb:∀i σ ks H,i<=xs.length->Pv i σ ks H->ks.length+1<scanBound)(hl:∀i σ ks H,i<=xs.length->Pv i σ ks H->aP K H a xs)
  (hs:∀i x σ ks H,xs[i]? = some x->Pv i σ ks H->g x σ H λcR H2=>te cR H2 λv H3=>∃k,v=kV k/\Pv (i+1) cR (fQ ks k) H3)
  (hd:∀σ ks H,Pv xs.length σ ks H->Q (.int (ks.length:Nat)) H):∃W:Nat->Nat->St->List Key->Hp->Prop,(∃m,W 0 m qS [] H0)/\vw (Df K a) g te Q W:=by
 refine⟨λi m σ ks H=>m=xs.length-i/\i<=xs.length/\Pv i σ ks H,⟨xs.length,by simp,Sr _,h0⟩,?_⟩;rintro i m σ ks H ⟨rfl,hi,p⟩;have q:=hl i σ ks H hi p;refine⟨hb i σ ks H hi p,?_⟩;by_cases hlt:i<xs.length
 ·refine .inr ⟨⟨xs,xs[i],q,by simp[hlt]⟩,Pv (i+1),λσ' ks' H' p'=>⟨xs.length-(i+1),by omega,rfl,hlt,p'⟩,λx H' y=>?_⟩;obtain⟨e,y⟩:=y;subst e;exact hs i x σ ks _ (y xs q) p
 ·have e:i=xs.length:=by omega
  subst e;exact .inl ⟨⟨xs,q,R3 _⟩,hd σ ks H p⟩
theorem BA(ks:List Key)(k:Key):ks.length<=(fQ ks k).length/\(fQ ks k).length<=ks.length+1:=by
 unfold fQ;split
 ·exact⟨R3 _,Nat.le_succ _⟩
 ·rw[R8];simp
end L2
namespace My
open PySem L2
noncomputable def gH (acc:List Key) (ss:List Str):List Key:=ss.foldl (λacc s=>fQ acc (.inr s)) acc
theorem om:∀(ss:List Str)(acc:List Key),acc.length<=(gH acc ss).length/\(gH acc ss).length<=acc.length+ss.length
 |[],acc=>⟨R3 _,R3 _⟩
 |s::ss,acc=>by have h1:=om ss (fQ acc (.inr s));have h2:=BA acc (.inr s);show acc.length<=(gH (fQ acc (.inr s)) ss).length/\(gH (fQ acc (.inr s)) ss).length<=acc.length+(ss.length+1);omega
theorem ui(s0:Str):∀ss:List Str,((gH [.inr s0] ss).length > 1) =¬(∀s∈ss,s=s0)
 |[]=>by simp[gH]
 |s::ss=>by
  by_cases e:s=s0
  ·have:gH [.inr s0] (s::ss)=gH [.inr s0] ss:=by show gH (fQ [.inr s0] (.inr s)) ss=_;unfold fQ;rw[SM (gy.mpr (by rw[e];exact Sk.mpr rfl))]
   rw[this,ui s0 ss];simp[e]
  ·have:gH [.inr s0] (s::ss)=gH [.inr s0,.inr s] ss:=by show gH (fQ [.inr s0] (.inr s)) ss=_;unfold fQ;rw[SK (λz=>e (by have:=Sk.mp (gy.mp z);injection this))];rfl
   have hl:=(om ss [.inr s0,.inr s]).1;rw[this];simp only[SG,List.length_nil]at hl;simp[e];omega
theorem yR(ss:List Str):decide ((1:Int)<((gH [] ss).length:Nat)) = !gU ss:=by
 cases ss with
 |nil=>simp[gH,gU]
 |cons s ss =>
  have:gH [] (s::ss)=gH [.inr s] ss:=by show gH (fQ [] (.inr s)) ss=_;unfold fQ;rw[SK (λz=>by cases gy.mp z)];rfl
  rw[this];have h:=ui s ss;have e:gU (s::ss)=decide (∀x∈ss,x=s):=by
   unfold gU;rw[Bool.eq_iff_iff,List.all_eq_true,decide_eq_true_eq];constructor
   ·intro z x hx;exact SI (z x (Sg _ hx))
   ·intro z x hx;rcases Sm.mp hx with rfl|hx
    ·exact R6 rfl
    ·exact R6 (z x hx)
  rw[e,←decide_not,decide_eq_decide];constructor
  ·intro z;have:(gH [.inr s] ss).length > 1:=by omega
   rwa[h]at this
  ·intro z;rw[←h]at z;omega
theorem y_{ss:List Str}{i:Nat}{s:Str}(h:ss[i]? = some s):gH [] (ss.take (i+1))=fQ (gH [] (ss.take i)) (.inr s):=by unfold gH;rw[take_one h,List.foldl_append];rfl
abbrev jG:Stmt:=top 27
theorem sM:au ["worker","heads"] ["worker","heads"] (ao jG):=fs
variable{P:Program}{w:World}{K:S7}{mg:Str->Option Value}{base:Heap}
theorem ux{n:Nat}(B:j5 mg)(F:FA K mg "must_fits" jG)
  (iM:bB bE P w K mg base 1 "sort_of" ["cell"] gq)
  (fo:bB bE P w K mg base 2 "cells_fit" ["cells","column_sort"] iW) :
  bB bE P w K mg base 3 "must_fits" ["worker","heads"] (c9 n bR (qq λx=>∃c ps,x=.one (.must c ps))):=by
 refine F.ok sM λf cdv A outer s H vs Q E hr h=>?_;obtain⟨a,l,x,as,hs,rfl,ha,hL,hn,hsm,ho,q⟩:=h;refine⟨_,(bq (bu xy (vz (N':=["old","new"]) (src:=[none,none]) rfl rfl B.len (ba.jb (by kernel_rfl)) (cu (aG K (pv 0) ai)) (g:=mM K 2 (cx (bT 0) (cx (bT 1) mK))) (λcl C s H fp=>(bS rfl (aq (e7 (i:=0)) (aq (e7 (i:=1)) bz)))) (te:=(kF gq [] E0 (eN (bp 1) nI))) (λcl C s H fp=>(aM (hg:=Dh) iM hr (aa (fP 1) ah)))) ai) cC
   (ax (aM fo hr (aa (bw (N':=["old","new"]) (src:=[none,none]) rfl (ba.jb (by kernel_rfl)) (cu (aG K (pv 0) ai)) (g:=(mM K 2 (cx (bT 0) (cx (bT 1) mK)))) (λcl C s H fp=>(bS rfl (aq (e7 (i:=0)) (aq (e7 (i:=1)) bz)))) (λcl C s H fp=>bg) (te:=(bp 0)) (λcl C s H fp=>(fP 0))) (aa (aG K (bK K (pv 1) ai) (aU ck (aG K (pv 0) ai) ai)) ah))))),?_⟩
 obtain⟨⟨c,ps,rfl⟩,hf,hg⟩:=ho;obtain⟨hd,rfl⟩:=cS hn;obtain⟨a0,e0,jR⟩:=hL.nth (i:=0) rfl;obtain⟨t,bs,h1,hI⟩:=eF.mp ha;have hc:=dX hf (c:=c) (by simp[dN]);have hz:ps.length<=1000:=hsm;have hg:∀p∈ps,ky p.1/\ky p.2:=hg;have hlb:(bs.map V.ref).length=ps.length:=by rw[R7,hI.len]
 have hls:(ps.map λp=>sW p.2).length=ps.length:=R7 _;refine⟨_,rfl,a,_,2,_,rfl,rfl,aP.of h1,rfl,t,rfl,⟨_,aP.of hI.tup⟩,?_⟩;refine v5 (xs:=bs.map V.ref) (λi σ ks H'=>(∃o1 o2,σ=[o1,o2])/\ks=gH [] ((ps.map λp=>sW p.2).take i)/\H'=H) ⟨⟨none,none,rfl⟩,rfl,rfl⟩ ?_ ?_ ?_ ?_
 ·rintro i σ ks H' hi ⟨_,rfl,_⟩;have:=(om ((ps.map λp=>sW p.2).take i) []).2;rw[Sx,List.length_nil]at this;exact R_ (show _<=1001 by omega) (by decide)
 ·rintro i σ ks H' _ ⟨_,_,rfl⟩;exact aP.of hI.tup
 ·rintro i v σ ks H' hv ⟨⟨o1,o2,rfl⟩,rfl,rfl⟩;obtain⟨b,p,rfl,ep,hb⟩:=hI.get hv;refine⟨b,_,rfl,aP.of hb,rfl,_,_,rfl,aj ⟨_,_,rfl,aj ⟨rfl,?_⟩⟩⟩;refine⟨_,rfl,p.2,rfl,(hg p (Sf ep)).2,.inr (sW p.2),rfl,⟨_,_,rfl⟩,?_,rfl⟩;rw[y_ (by rw[Sw,ep];rfl)]
 ·rintro σ ks H' ⟨_,rfl,rfl⟩;rw[hlb,←hls,SR];refine⟨_,_,rfl,rfl,_,rfl,?_⟩;have q:∀Oe,aE H' Oe->Q (.bl (gU (ps.map λp=>sW p.2)&&gT (ps.map λp=>p.1) (bD hd c))) Oe:=q;rw[yR];cases hO:gU (ps.map λp=>sW p.2)with
  |false =>rw[hO]at q;exact cB (q H' (aE.refl _))
  |true =>
   rw[hO]at q;refine cq (bL ⟨_,rfl,a,_,2,_,rfl,rfl,aP.of h1,rfl,t,rfl,⟨_,aP.of hI.tup⟩,λD hD=>?_⟩);refine cG (xs:=bs.map V.ref) (λi σ ys H2=>(∃o1 o2,σ=[o1,o2])/\ys=(ps.take i).map (λp=>p.1)/\ys.length=i/\H2 D=some (.lst ys)/\aE H' H2) ⟨⟨none,none,rfl⟩,rfl,rfl,ae,ag hD _⟩ ?_ ?_ ?_ ?_ ?_
   ·rintro i σ ys H2 _ ⟨_,_,hi,h,_⟩;exact⟨h,S0 hi⟩
   ·rintro i σ ys H2 _ ⟨_,_,_,_,sm⟩;exact aP.of (sm _ _ hI.tup)
   ·rw[hlb];exact R4 hz (by decide)
   ·rintro i v σ ys H2 hv ⟨⟨o1,o2,rfl⟩,rfl,hi,h,sm⟩;obtain⟨b,p,rfl,ep,hb⟩:=hI.get hv;refine⟨b,_,rfl,aP.of (sm _ _ hb),rfl,_,_,rfl,aj ⟨_,_,rfl,aj ⟨rfl,?_⟩⟩⟩;refine⟨_,rfl,h,⟨_,_,rfl⟩,?_,?_,ae,a_ hD sm⟩
    ·rw[take_one ep,R9];rfl
    ·rw[R8,hi];rfl
   ·rintro σ ys H2 ⟨_,rfl,hyl,h,sm⟩;rw[hlb,SR]at h hyl;refine⟨_,rfl,l,_,0,_,rfl,rfl,bc.of (sm _ _ hL.lst),ay (j:=0) e0,_,rfl,a,_,1,_,rfl,rfl,aP.of (sm _ _ h1),rfl,_,_,rfl,rfl,a0,_,_,_,rfl,rfl,aP.of (sm _ _ jR),fE hc,?_⟩;refine⟨D,_,_,rfl,h,by omega,λv hv=>?_,λH3 s'=>q H3 (sm.trans s')⟩;obtain⟨p,hp,rfl⟩:=Sl.mp hv;exact(hg p hp).1
end My
namespace L2
open PySem PySem.Spec PyProof.Rows
def iP(K:S7)(d:Addr)(key:Str):Prop :=
 (d==sysModules)=false/\∃(es:Array DictEntry)(ep:Nat),K.lookup d=some ⟨.type "dict",none,.dict es ep,#[]⟩/\es.all (λe=>isExactStrKey e.key)=true/\es.findIdx? (λe=>e.key.isStr key)=none
def ED(K:S7):R2:=λx y H Q=>∃d k,x=.str k/\y=.ref d/\(((∃f,cy K d k f)/\Q (.bl false) H)\/(iP K d k/\Q (.bl true) H))
section
variable{X:Cx}
theorem mn:jk X (compareOp .NotIn) (ED X.K):=by
 intro ac s σ H x y v u Q I rx ry h;obtain⟨d,k,rfl,rfl,h⟩:=h;cases ry;obtain⟨t,rfl⟩:=rx;rcases h with⟨⟨f,es,ep,i,hx,te,lk,ha,hi,he⟩,q⟩|⟨⟨hd,es,ep,lk,ha,hi⟩,q⟩
 ·have ho:s.heap.get? d=some ⟨.type "dict",none,.dict es ep,#[]⟩:=I.kH _ _ lk;have hT:s.TypeIs (.ref d) "dict":=⟨_,ho,rfl⟩;have fin:EP X ac σ Q (.bool false) {s with toks:=s.toks+1}:=⟨.bl false,H,I.kept (h':=s.heap) (t':=s.toks+1) λ_ _ e=>e,rfl,q⟩;show wpAny _ _ (do return Value.bool (!(←contains (.ref d) (.str k t)))) (EP X ac σ Q) X.xe s;refine RX (wpAny_contains_slot hT slot_dict_contains (SY slot_dict_contains hT entry_dict_contains ?_ (args_dict_contains _ _)));show wpAny _ _ (dictGet d (.str k t) >>= _) _ _ s;refine RX ?_;unfold dictGet;try with_reducible refine SA ?_
  refine RX (wpAny_pyHash_str ?_);unfold dictFind;refine RX ?_;try with_reducible refine SA ?_
  refine RX (wpAny_dictEntries (s:={s with toks:=s.toks+1}) ho rfl ?_);dsimp only;rw[SM ha];unfold foundByValue;rw[hi];dsimp only;rw[he];dsimp only;refine RX (wpAny_dictEpoch (s:={s with toks:=s.toks+1}) ho rfl ?_);refine RX (wpAny_eqBool_str ?_);refine RX (wpAny_dictEpoch (s:={s with toks:=s.toks+1}) ho rfl ?_);rw[SK (by simp),R6 rfl];refine RX (wpAny_rule (RY ?_));refine RX (wpAny_dictEntries (s:={s with toks:=s.toks+1}) ho rfl (RY ?_));rw[he];show wpAny _ _ (ret (.bool true)) _ _ _;exact RY ⟨_,rfl,wpAny_truthy_bool (RY fin)⟩
 ·have ho:s.heap.get? d=some ⟨.type "dict",none,.dict es ep,#[]⟩:=I.kH _ _ lk;have hT:s.TypeIs (.ref d) "dict":=⟨_,ho,rfl⟩;have fin:EP X ac σ Q (.bool true) {s with toks:=s.toks+1}:=⟨.bl true,H,I.kept (h':=s.heap) (t':=s.toks+1) λ_ _ e=>e,rfl,q⟩;show wpAny _ _ (do return Value.bool (!(←contains (.ref d) (.str k t)))) (EP X ac σ Q) X.xe s;refine RX (wpAny_contains_slot hT slot_dict_contains (SY slot_dict_contains hT entry_dict_contains ?_ (args_dict_contains _ _)));show wpAny _ _ (dictGet d (.str k t) >>= _) _ _ s;refine RX ?_;unfold dictGet;try with_reducible refine SA ?_
  refine RX (wpAny_pyHash_str ?_);unfold dictFind;refine RX ?_;try with_reducible refine SA ?_
  refine RX (wpAny_dictEntries (s:={s with toks:=s.toks+1}) ho rfl ?_);dsimp only;rw[SM ha];unfold foundByValue;rw[hi];dsimp only;refine RY ?_;show wpAny _ _ (pure none) _ _ _;refine RY ?_;show wpAny _ _ (Builtin.Dict.pendingKey? d _ >>= _) _ _ _;exact RX (wpAny_pendingKey_other hd (RY ⟨_,rfl,wpAny_truthy_bool (RY fin)⟩))
end
end L2
namespace My
open PySem L2
def FT(P:Program)(w:World)(K:S7)(mg:Str->Option Value)(base:Heap)(aS:Addr)(n:Nat)(x:Wk):Prop :=
 (∃(f:Addr)(fd:FuncData),cy K aS x.nm f/\e8 P w K mg base bE 3 f fd ["worker","heads"] (c9 n bR (qq λy=>y=x))/\PySem.W.keepIn K (.ref f)=true/\Binds K fd ["worker","heads"] [])\/(iP K aS x.nm/\∀hs,bR x hs=true)
theorem eA{n:Nat}{F:Wk->List Hd->Bool}{k k':Wk->Prop}(h:∀x,k' x->k x):∀vs H Q E,c9 n F (qq k') vs H Q E->c9 n F (qq k) vs H Q E:=by rintro vs H Q E ⟨a,l,x,as,hs,h1,h2,h3,h4,h5,⟨h6,h7⟩,h8⟩;exact⟨a,l,x,as,hs,h1,h2,h3,h4,h5,⟨h x h6,h7⟩,h8⟩
variable{P:Program}{w:World}{K:S7}{mg:Str->Option Value}{base:Heap}
theorem yX{n:Nat}{aS:Addr}{f1 f2 f3 f4 f5 f6 f7 f8:Addr}
  (t1:cy K aS "keep" f1) (t2:cy K aS "same" f2) (t3:cy K aS "turn" f3) (t4:cy K aS "must" f4) (t5:cy K aS "walk" f5) (t6:cy K aS "sum" f6) (t7:cy K aS "both" f7) (t8:cy K aS "meet" f8)
  (u1:iP K aS "cut") (u2:iP K aS "sort") (u3:iP K aS "apart") (u4:iP K aS "count") (u5:iP K aS "number") (u6:iP K aS "first")
  (G1:FnAt P w K mg base 1 f1 ["worker","heads"] (c9 n bR (qq λx=>∃c t,x=.one (.keep c t)))) (G2:FnAt P w K mg base 2 f2 ["worker","heads"] (c9 n bR (qq λx=>∃c d,x=.one (.same c d)))) (G3:FnAt P w K mg base 3 f3 ["worker","heads"] (c9 n bR (qq λx=>∃c ps,x=.one (.turn c ps)))) (G4:FnAt P w K mg base 3 f4 ["worker","heads"] (c9 n bR (qq λx=>∃c ps,x=.one (.must c ps))))
  (G5:FnAt P w K mg base 3 f5 ["worker","heads"] (c9 n bR (qq λx=>∃c mv,x=.one (.walk c mv)))) (G6:FnAt P w K mg base 1 f6 ["worker","heads"] (c9 n bR (qq λx=>∃cs c,x=.one (.sum cs c)))) (G7:FnAt P w K mg base 1 f7 ["worker","heads"] (c9 n bR (qq λx=>∃p q,x=.both p q))) (G8:FnAt P w K mg base 2 f8 ["worker","heads"] (c9 n bR (qq λx=>∃c d p q,x=.meet c d p q))):∀x,FT P w K mg base aS n x:=by
 obtain⟨d1,G1,b1,k1⟩:=G1;obtain⟨d2,G2,b2,k2⟩:=G2;obtain⟨d3,G3,b3,k3⟩:=G3;obtain⟨d4,G4,b4,k4⟩:=G4;obtain⟨d5,G5,b5,k5⟩:=G5;obtain⟨d6,G6,b6,k6⟩:=G6;obtain⟨d7,G7,b7,k7⟩:=G7;obtain⟨d8,G8,b8,k8⟩:=G8;intro x;match x with
 | .one (.keep c t)=>exact .inl ⟨f1,d1,t1,(G1.imp (eA λ_ e=>⟨c,t,e⟩)).mono (by omega),k1,b1⟩
 | .one (.same c d)=>exact .inl ⟨f2,d2,t2,(G2.imp (eA λ_ e=>⟨c,d,e⟩)).mono (by omega),k2,b2⟩
 | .one (.turn c ps)=>exact .inl ⟨f3,d3,t3,G3.imp (eA λ_ e=>⟨c,ps,e⟩),k3,b3⟩
 | .one (.must c ps)=>exact .inl ⟨f4,d4,t4,G4.imp (eA λ_ e=>⟨c,ps,e⟩),k4,b4⟩
 | .one (.walk c mv)=>exact .inl ⟨f5,d5,t5,G5.imp (eA λ_ e=>⟨c,mv,e⟩),k5,b5⟩
 | .one (.sum cs c)=>exact .inl ⟨f6,d6,t6,(G6.imp (eA λ_ e=>⟨cs,c,e⟩)).mono (by omega),k6,b6⟩
 | .both p q=>exact .inl ⟨f7,d7,t7,(G7.imp (eA λ_ e=>⟨p,q,e⟩)).mono (by omega),k7,b7⟩
 | .meet c d p q=>exact .inl ⟨f8,d8,t8,(G8.imp (eA λ_ e=>⟨c,d,p,q,e⟩)).mono (by omega),k8,b8⟩
 | .one (.cut _)=>exact .inr ⟨u1,λ_=>rfl⟩
 | .one (.sort _)=>exact .inr ⟨u2,λ_=>rfl⟩
 | .one .apart=>exact .inr ⟨u3,λ_=>rfl⟩
 | .one (.count _)=>exact .inr ⟨u4,λ_=>rfl⟩
 | .one .number=>exact .inr ⟨u5,λ_=>rfl⟩
 | .one (.first _)=>exact .inr ⟨u6,λ_=>rfl⟩
abbrev j0:Stmt:=top 33
theorem lz:au ["worker","heads","fit"] ["worker","heads"] (ao j0):=fs
theorem uv{n:Nat}{aS:Addr}(mS:mg "SORTS_FIT"=some (.ref aS))(GS:∀x:Wk,FT P w K mg base aS n x)(F:FA K mg "sorts_fit" j0) :
  bB bE P w K mg base 4 "sorts_fit" ["worker","heads"] (c9 n bR (qq λ_=>True)):=by
 refine F.ok lz λf cdv A outer s H vs Q E hr h=>?_;obtain⟨a,l,x,as,hs,rfl,ha,hL,hn,hsm,ho,q⟩:=h;refine⟨_,(bq (dm mn (aG K (pv 0) ai) (cz rfl mS (show RelV (.ref aS) (.ref aS) from rfl)) rfl) cC
   (ak (aX (i:=2) lz.nd rfl (SQ rfl) (iI (r:=A0 K) l8 (cz rfl mS (show RelV (.ref aS) (.ref aS) from rfl)) (aG K (pv 0) ai) (λ_ _=>rfl)))
   (ax (lI (k:=3) (pv 2) hr qE (aa (pv 0) (aa (pv 1) ah)))))),?_⟩
 obtain⟨xs,h1⟩:=ha.first;obtain⟨_,hf,hg⟩:=ho;refine⟨_,rfl,a,_,0,_,rfl,rfl,aP.of h1,ay (j:=0) rfl,aS,x.nm,rfl,rfl,?_⟩;rcases GS x with⟨g,gd,Dk,FG,kG,bG⟩|⟨hno,he⟩
 ·refine .inl ⟨⟨g,Dk⟩,_,rfl,cq (bL ?_)⟩;refine⟨_,rfl,a,_,0,_,rfl,rfl,aP.of h1,ay (j:=0) rfl,aS,x.nm,g,rfl,rfl,Dk,aj ?_⟩;dsimp only;exact⟨_,rfl,g,gd,_,_,rfl,FG,kG,bG,_,rfl,_,rfl,a,l,x,as,hs,rfl,ha,hL,hn,hsm,⟨rfl,hf,hg⟩,q⟩
 ·refine .inr ⟨hno,_,rfl,cB ?_⟩;have q:=q H (aE.refl _);rw[he hs]at q;exact q
def CU(h:Hd)(cs:List Int):Prop:=∀c∈cs,1<=c/\c<=h.length
def oy:Sp:=λvs H Q _=>∃(a b:Addr)(h:Hd)(cs:List Int),vs=[.ref a,.ref b]/\gE H a h/\H b=some (.tup (cs.map V.int))/\cs.length<=1000/\CU h cs/\∀(u:Addr)(H':Hp),aE H H'->gE H' u (cs.map (bD h))->Q (.ref u) H'
abbrev oB:Stmt:=top 34
theorem zo:au ["head","columns"] ["head","columns"] (ao oB):=fs
theorem zQ(B:j5 mg)(F:FA K mg "picked" oB) :
  bB bE P w K mg base 1 "picked" ["head","columns"] oy:=by
 refine F.ok zo λf cdv A outer s H vs Q E hr h=>?_;have hu:=gX hr;obtain⟨a,b,h,cs,rfl,ha,hb,hz,ht,q⟩:=h;refine⟨_,(ax (bx bo rfl B.tuple SV (aa (bw (N':=["column","head"]) (src:=[none,some 0]) rfl (ba.jb (by kernel_rfl)) (cu (pv 1)) (λcl C s H fp=>(e7 (i:=0))) (λcl C s H fp=>bg) (te:=(eZ (jj K) (bp 1) (eZ (vj λi j=>V.int (i-j)) (bp 0) (tC (.int 1))))) (λcl C s H fp=>(aG K (oY 1) (aU ck (fP 0) ai)))) ah))),?_⟩;refine⟨_,rfl,b,rfl,⟨_,aP.of hb⟩,λD hD=>?_⟩;refine cG (xs:=cs.map V.int) (λi σ ys H'=>(∃o,σ=[o,some (.ref a)])/\ys=((cs.take i).map (bD h)).map V.str/\ys.length=i/\H' D=some (.lst ys)/\aE H H') ⟨⟨none,rfl⟩,rfl,rfl,ae,ag hD _⟩ ?_ ?_ ?_ ?_ ?_
 ·rintro i σ ys H' _ ⟨_,_,hi,h,_⟩;exact⟨h,S0 hi⟩
 ·rintro i σ ys H' _ ⟨_,_,_,_,sm⟩;exact aP.of (sm _ _ hb)
 ·rw[R7];exact R4 hz (by decide)
 ·rintro i v σ ys H' hv ⟨⟨o,rfl⟩,rfl,hi,hh,sm⟩;rw[Sw]at hv;cases ec:cs[i]? with
  |none=>rw[ec]at hv;cases hv
  |some c =>
   rw[ec]at hv;have hv:V.int c=v:=Ss hv;subst hv;refine⟨_,rfl,_,rfl,_,_,rfl,rfl,a,_,_,_,rfl,rfl,aP.of (sm _ _ ha),fE (ht c (Sf ec)),hh,⟨_,rfl⟩,?_,?_,ae,a_ hD sm⟩
   ·rw[take_one ec,R9,R9];rfl
   ·rw[R8,hi];rfl
 ·rintro σ ys H' ⟨_,rfl,_,hh,sm⟩;rw[R7,SR]at hh;exact⟨D,_,rfl,.inl ⟨bc.of hh,λu hu=>q u _ (sm.trans (ag hu _)) ae⟩⟩
theorem xw{ts:List Str}{c:Int}(h1:1<=c)(h2:c<=ts.length):fq (ts.map V.str) none (some (c-1))=(ts.take (c-1).toNat).map V.str:=by have:=oA (xs:=ts.map V.str) (n:=(c-1).toNat) (by rw[R7];omega);rw[show(((c-1).toNat:Nat):Int)=c-1 by omega]at this;rw[this,List.map_take]
theorem q5{ts:List Str}{c:Int}(h1:1<=c)(h2:c<=ts.length):fq (ts.map V.str) (some c) none=(ts.drop c.toNat).map V.str:=by have:=sV (xs:=ts.map V.str) (n:=c.toNat) (by rw[R7];omega);rw[show((c.toNat:Nat):Int)=c by omega]at this;rw[this,List.map_drop]
def bh:Wk->List Hd->Hd
 | .one (.cut cs),hs=>cs.map (bD (hs.headD []))
 | .one (.must c ps),hs=>(hs.headD []).take (c-1).toNat++(ps.take 1).map (λp=>sW p.2)++(hs.headD []).drop c.toNat
 | .one (.walk _ _),hs=>hs.headD []++(["w"]:Hd)
 | .one (.count cs),hs=>cs.map (bD (hs.headD []))++(["t"]:Hd)
 | .one (.sum cs _),hs=>cs.map (bD (hs.headD []))++(["t"]:Hd)
 | .one .number,hs=>hs.headD []++(["t"]:Hd)
 | .meet _ d _ _,hs=>hs.headD []++(hs.getD 1 []).take (d-1).toNat++(hs.getD 1 []).drop d.toNat
 |_,hs=>hs.headD []
def M3:Wk->Prop
 | .one (.must _ ps)=>ps≠[]
 |_=>True
structure Nn(k:Wk->Prop)(x:Wk)(hs:List Hd):Prop where
 k:k x
 fit:eG x hs=true
 good:goodW x
 ne:M3 x
 sm:∀h∈hs,h.length<=1000
def cX(n:Nat)(k:Wk->Prop):Sp:=λvs H Q _=>∃(a l:Addr)(x:Wk)(as:List Addr)(hs:List Hd),vs=[.ref a,.ref l]/\ij n H a x/\l7 H l as hs/\hs.length=CB x/\pj x/\Nn k x hs/\∀u H',aE H H'->gE H' u (bh x hs)->Q (.ref u) H'
theorem kS{a b:Addr}{xs ys:Hd}{H:Hp}{Q:VK}(h1:gE H a xs)(h2:gE H b ys)(hz:xs.length+ys.length<=100000)(q:∀t H',aE H H'->gE H' t (xs++ys)->Q (.ref t) H'):FZ (.ref a) (.ref b) H Q :=
 ⟨a,b,_,_,rfl,rfl,h1,h2,by rw[R7,R7];exact R4 hz (by decide),λt H' s' ht=>q t H' s' (by rw[gE,R9];exact ht)⟩
abbrev gB:Stmt:=top 37
theorem nH:au ["worker","heads"] ["worker","heads"] (ao gB):=fs
theorem B4{n:Nat}(F:FA K mg "head_of_walk" gB) :
  bB bE P w K mg base 1 "head_of_walk" ["worker","heads"] (cX n (λx=>∃c mv,x=.one (.walk c mv))):=by
 refine F.ok nH λf cdv A outer s H vs Q E hr h=>?_;have hu:=gX hr;obtain⟨a,l,x,as,hs,rfl,ha,hL,hn,hsm,ho,q⟩:=h;refine⟨_,(ax (aU cZ (bK K (pv 1) ai) (aY (aa av ah)))),?_⟩;obtain⟨c,mv,rfl⟩:=ho.k;obtain⟨hd,rfl⟩:=cS hn;obtain⟨a0,e0,jR⟩:=hL.nth (i:=0) rfl;have hz:=ho.sm hd (by simp);refine⟨_,rfl,l,_,0,_,rfl,rfl,bc.of hL.lst,ay (j:=0) e0,dH,λu hu=>?_⟩;have su:=ag hu (.tup [.str "w"]);exact kS (ys:=["w"]) (su _ _ jR) ae (by show _+1<=_;omega) λt H' s' ht=>q t H' (su.trans s') ht
abbrev fj:Stmt:=top 39
theorem lV:au ["worker","heads"] ["worker","heads"] (ao fj):=fs
theorem wj{n:Nat}{tk:Tok}(mT:mg "TALLY"=some (.str "t" tk))(F:FA K mg "head_of_number" fj) :
  bB bE P w K mg base 1 "head_of_number" ["worker","heads"] (cX n (λx=>x=.one .number)):=by
 refine F.ok lV λf cdv A outer s H vs Q E hr h=>?_;have hu:=gX hr;obtain⟨a,l,x,as,hs,rfl,ha,hL,hn,hsm,ho,q⟩:=h;refine⟨_,(ax (aU cZ (bK K (pv 1) ai) (aY (aa (cz (v:=.str "t") rfl mT ⟨_,rfl⟩) ah)))),?_⟩;cases ho.k;obtain⟨hd,rfl⟩:=cS hn;obtain⟨a0,e0,jR⟩:=hL.nth (i:=0) rfl;have hz:=ho.sm hd (by simp);refine⟨_,rfl,l,_,0,_,rfl,rfl,bc.of hL.lst,ay (j:=0) e0,dH,λu hu=>?_⟩;have su:=ag hu (.tup [.str "t"]);exact kS (ys:=["t"]) (su _ _ jR) ae (by show _+1<=_;omega) λt H' s' ht=>q t H' (su.trans s') ht
abbrev ic:Stmt:=top 35
theorem oM:au ["worker","heads"] ["worker","heads"] (ao ic):=fs
theorem Dr{n:Nat}(F:FA K mg "head_of_cut" ic)
  (oO:bB bE P w K mg base 1 "picked" ["head","columns"] oy) :
  bB bE P w K mg base 2 "head_of_cut" ["worker","heads"] (cX n (λx=>∃cs,x=.one (.cut cs))):=by
 refine F.ok oM λf cdv A outer s H vs Q E hr h=>?_;obtain⟨a,l,x,as,hs,rfl,ha,hL,hn,hsm,ho,q⟩:=h;refine⟨_,(ax (aM oO hr (aa (bK K (pv 1) ai) (aa (aG K (pv 0) ai) ah)))),?_⟩;obtain⟨cs,rfl⟩:=ho.k;obtain⟨hd,rfl⟩:=cS hn;obtain⟨a0,e0,jR⟩:=hL.nth (i:=0) rfl;obtain⟨t,h1,h2⟩:=eF.mp ha;exact⟨_,rfl,l,_,0,_,rfl,rfl,bc.of hL.lst,ay (j:=0) e0,_,rfl,a,_,1,_,rfl,rfl,aP.of h1,rfl,a0,t,hd,cs,rfl,jR,h2,hsm,λc hc=>dX ho.fit hc,q⟩
abbrev eR:Stmt:=top 38
theorem k9:au ["worker","heads"] ["worker","heads"] (ao eR):=fs
theorem AB{n:Nat}{tk:Tok}(mT:mg "TALLY"=some (.str "t" tk))(F:FA K mg "head_of_tallied" eR)
  (oO:bB bE P w K mg base 1 "picked" ["head","columns"] oy) :
  bB bE P w K mg base 2 "head_of_tallied" ["worker","heads"] (cX n (λx=>∃cs,x=.one (.count cs)\/∃c,x=.one (.sum cs c))):=by
 refine F.ok k9 λf cdv A outer s H vs Q E hr h=>?_;have hu:=gX hr;have hu1:=jn hr;obtain⟨a,l,x,as,hs,rfl,ha,hL,hn,hsm,ho,q⟩:=h;refine⟨_,(ax (aU cZ (aM oO hr (aa (bK K (pv 1) ai) (aa (aG K (pv 0) ai) ah))) (aY (aa (cz (v:=.str "t") rfl mT ⟨_,rfl⟩) ah)))),?_⟩;have key:∃(cs:List Int)(hd:Hd)(t y:Addr)(v:V)(vs:List V),hs=[hd]/\H a=some (.tup (v :: .ref t::vs))/\H t=some (.tup (cs.map V.int))/\cs.length<=1000/\CU hd cs/\bh x hs=cs.map (bD hd)++(["t"]:Hd):=by
  obtain⟨cs,rfl|⟨c,rfl⟩⟩:=ho.k
  ·obtain⟨hd,rfl⟩:=cS hn;obtain⟨t,h1,h2⟩:=eF.mp ha;exact⟨cs,hd,t,t,_,_,rfl,h1,h2,hsm,λc hc=>dX ho.fit hc,rfl⟩
  ·obtain⟨hd,rfl⟩:=cS hn;obtain⟨t,h1,h2⟩:=eF.mp ha;exact⟨cs,hd,t,t,_,_,rfl,h1,h2,hsm,λc hc=>dX ho.fit (List.mem_append_left _ hc),rfl⟩
 obtain⟨cs,hd,t,_,v,vs,rfl,h1,h2,hz,hth,eh⟩:=key;obtain⟨a0,e0,jR⟩:=hL.nth (i:=0) rfl;refine⟨_,rfl,l,_,0,_,rfl,rfl,bc.of hL.lst,ay (j:=0) e0,_,rfl,a,_,1,_,rfl,rfl,aP.of h1,ay (j:=1) rfl,a0,t,hd,cs,rfl,jR,h2,hz,hth,λu1 H1 s1 hu1=>?_⟩;refine⟨dH,λu hu=>?_⟩;have su:=ag hu (.tup [.str "t"]);refine kS (ys:=["t"]) (su _ _ hu1) ae ?_ λt' H' s' ht=>q t' H' (s1.trans (su.trans s')) (by rw[eh];exact ht);rw[R7];show _+1<=_;omega
abbrev gD:Stmt:=top 40
theorem nJ:au ["worker","heads"] ["worker","heads"] (ao gD):=fs
theorem B9{n:Nat}(F:FA K mg "head_of_meet" gD) :
  bB bE P w K mg base 1 "head_of_meet" ["worker","heads"] (cX n (λx=>∃c d p q,x=.meet c d p q)):=by
 refine F.ok nJ λf cdv A outer s H vs Q E hr h=>?_;obtain⟨a,l,x,as,hs,rfl,ha,hL,hn,hsm,ho,q⟩:=h;refine⟨_,(ax (aU cZ (aU cZ (bK K (pv 1) ai) (c_ gR (bK K (pv 1) ai) fX (dg (aU ck (aG K (pv 0) ai) ai)))) (c_ gR (bK K (pv 1) ai) (dg (aG K (pv 0) ai)) fX))),?_⟩;obtain⟨c,d,p,q',rfl⟩:=ho.k;obtain⟨h0,h2,rfl⟩:=kj hn;obtain⟨a0,e0,jR⟩:=hL.nth (i:=0) rfl;obtain⟨a1,e1,F3⟩:=hL.nth (i:=1) rfl;have hz0:=ho.sm h0 (by simp);have hz1:=ho.sm h2 (by simp);have hf:(there c h0&&there d h2)=true:=ho.fit;rw[SH]at hf;obtain⟨d1,d2⟩:=km hf.2;cases n with
 |zero=>exact SS ha
 |succ n =>
 obtain⟨b,e,bs,es,h1,_⟩:=ha;refine⟨_,rfl,l,_,0,_,rfl,rfl,bc.of hL.lst,ay (j:=0) e0,_,rfl,l,_,1,_,rfl,rfl,bc.of hL.lst,ay (j:=1) e1,?_⟩;refine⟨_,rfl,a,_,2,_,rfl,rfl,aP.of h1,rfl,_,_,rfl,rfl,_,rfl,a1,_,rfl,F3,λt1 H1 s1 ht1=>?_⟩;rw[xw d1 d2]at ht1;refine kS (s1 _ _ jR) ht1 (by rw[Sx];omega) λt2 H2 s2 EC=>?_;have s12:=s1.trans s2;refine⟨_,rfl,l,_,1,_,rfl,rfl,bc.of (s12 _ _ hL.lst),ay (j:=1) e1,_,rfl,a,_,2,_,rfl,rfl,aP.of (s12 _ _ h1),rfl,_,rfl,a1,_,rfl,s12 _ _ F3,λt3 H3 s3 Jw=>?_⟩;rw[q5 d1 d2]at Jw;refine kS (s3 _ _ EC) Jw (by rw[R8,Sx,List.length_drop];omega) λt4 H4 s4 NG=>q t4 H4 (s12.trans (s3.trans s4)) NG
abbrev gj:Stmt:=top 36
theorem fN:au ["worker","heads","column","pairs","told"] ["worker","heads"] (ao gj):=fs
theorem CH{n:Nat}(B:j5 mg)(F:FA K mg "head_of_must" gj)
  (iM:bB bE P w K mg base 1 "sort_of" ["cell"] gq) :
  bB bE P w K mg base 2 "head_of_must" ["worker","heads"] (cX n (λx=>∃c ps,x=.one (.must c ps))):=by
 refine F.ok fN λf cdv A outer s H vs Q E hr h=>?_;have hu:=gX hr;obtain⟨a,l,x,as,hs,rfl,ha,hL,hn,hsm,ho,q⟩:=h;refine⟨_,(ak (As (i:=2) (j:=3) rfl fN.nd rfl rfl (by decide) rfl rfl (aa (aG K (pv 0) ai) (aa (aG K (pv 0) ai) ah)) rfl)
   (ak (fe (i:=4) (N':=["old","new"]) (src:=[none,none]) fN.nd rfl (SQ rfl) rfl rfl (ba.jb (by kernel_rfl)) (cu (c_ gR (pv 3) fX (dg ai))) (g:=(mM K 2 (cx (bT 0) (cx (bT 1) mK)))) (λcl C s H fp=>(bS rfl (aq (e7 (i:=0)) (aq (e7 (i:=1)) bz)))) (λcl C s H fp=>bg) (te:=(kF gq [] E0 (eN (bp 1) nI))) (λcl C s H fp=>(aM (hg:=Dh) iM hr (aa (fP 1) ah))))
   (ax (aU cZ (aU cZ (c_ gR (bK K (pv 1) ai) fX (dg (aU ck (pv 2) ai))) (GO (bx bo rfl B.tuple SV (aa (pv 4) ah)) (c_ gR (bK K (pv 1) ai) (dg (aU ck (pv 2) ai)) (dg (pv 2))))) (c_ gR (bK K (pv 1) ai) (dg (pv 2)) fX))))),?_⟩
 obtain⟨c,ps,rfl⟩:=ho.k;obtain⟨hd,rfl⟩:=cS hn;obtain⟨a0,e0,jR⟩:=hL.nth (i:=0) rfl;obtain⟨t,bs,h1,hI⟩:=eF.mp ha;obtain⟨c1,c2⟩:=dX ho.fit (c:=c) (by simp[dN]);have hz:=ho.sm hd (by simp);have hne:ps≠[]:=ho.ne;have hg:∀p∈ps,ky p.1/\ky p.2:=ho.good;have M4:fq (bs.map V.ref) none (some 1)=(bs.take 1).map V.ref:=by have e:=oA (xs:=bs.map V.ref) (n:=1) (by rw[R7,hI.len];cases ps with|nil=>exact SJ rfl hne|cons _ _=>simp);rw[List.map_take];exact e
 refine⟨_,rfl,a,_,1,_,rfl,rfl,aP.of h1,rfl,_,rfl,a,_,2,_,rfl,rfl,aP.of h1,rfl,_,_,rfl,?_⟩;dsimp only;refine⟨_,rfl,_,rfl,t,_,rfl,hI.tup,λt1 H1 s1 ht1=>?_⟩;rw[M4]at ht1;refine⟨t1,rfl,⟨_,aP.of ht1⟩,λD hD=>?_⟩;have hl1:((bs.take 1).map V.ref).length=1:=by rw[R7,Sx,hI.len];cases ps with|nil=>exact SJ rfl hne|cons _ _=>simp
 refine cG (xs:=(bs.take 1).map V.ref) (λi σ ys H'=>(∃o1 o2,σ=[o1,o2])/\ys=((ps.take i).map λp=>sW p.2).map V.str/\ys.length=i/\H' D=some (.lst ys)/\aE H1 H') ⟨⟨none,none,rfl⟩,rfl,rfl,ae,ag hD _⟩ ?_ ?_ ?_ ?_ ?_
 ·rintro i σ ys H' _ ⟨_,_,hi,h,_⟩;exact⟨h,S0 hi⟩
 ·rintro i σ ys H' _ ⟨_,_,_,_,sm⟩;exact aP.of (sm _ _ ht1)
 ·rw[hl1];decide
 ·rintro i v σ ys H' hv ⟨⟨o1,o2,rfl⟩,rfl,hi,h,sm⟩;have hv':(bs.map V.ref)[i]? = some v:=by
   rw[List.map_take,List.getElem?_take]at hv;split at hv
   ·exact hv
   ·cases hv
  obtain⟨b,p,rfl,ep,hb⟩:=hI.get hv';refine⟨b,_,rfl,aP.of (sm _ _ (s1 _ _ hb)),rfl,_,_,rfl,aj ⟨_,_,rfl,aj ⟨rfl,?_⟩⟩⟩;refine⟨_,rfl,p.2,rfl,(hg p (Sf ep)).2,h,⟨_,_,rfl⟩,?_,?_,ae,a_ hD sm⟩
  ·rw[take_one ep,R9,R9];rfl
  ·rw[R8,hi];rfl
 ·rintro σ ys H' ⟨_,rfl,hi,h,sm⟩;rw[hl1]at h hi;have s2:=s1.trans sm;refine aj ?_;dsimp only;refine⟨_,rfl,l,_,0,_,rfl,rfl,bc.of (s2 _ _ hL.lst),ay (j:=0) e0,_,rfl,_,_,rfl,rfl,_,rfl,a0,_,rfl,s2 _ _ jR,λt3 H3 s3 Jw=>?_⟩;rw[xw c1 c2]at Jw;refine⟨_,rfl,D,_,rfl,.inl ⟨bc.of (s3 _ _ h),λu hu=>⟨true,.inr (.inl ⟨_,aP.of ae,?_⟩),cB ?_⟩⟩⟩
  ·cases ps with|nil=>exact SJ rfl hne|cons _ _=>rfl
  have su:=ag hu (.tup (((ps.take 1).map λp=>sW p.2).map V.str));refine kS (su _ _ Jw) ae (by rw[Sx,R7,Sx];omega) λt4 H4 s4 NG=>?_;have s5:=s2.trans (s3.trans (su.trans s4));refine⟨_,rfl,l,_,0,_,rfl,rfl,bc.of (s5 _ _ hL.lst),ay (j:=0) e0,_,rfl,_,rfl,a0,_,rfl,s5 _ _ jR,λt6 H6 s6 Dm=>?_⟩;rw[q5 c1 c2]at Dm;refine kS (s6 _ _ NG) Dm (by rw[R8,Sx,R7,Sx,List.length_drop];omega) λt7 H7 s7 MK=>q t7 H7 (s5.trans (s6.trans s7)) MK
def Cz(P:Program)(w:World)(K:S7)(mg:Str->Option Value)(base:Heap)(aT:Addr)(n:Nat)(x:Wk):Prop :=
 (∃(f:Addr)(fd:FuncData),cy K aT x.nm f/\e8 P w K mg base bE 2 f fd ["worker","heads"] (cX n λy=>y=x)/\PySem.W.keepIn K (.ref f)=true/\Binds K fd ["worker","heads"] [])\/(iP K aT x.nm/\∀hs,bh x hs=hs.headD [])
theorem d9{n:Nat}{k k':Wk->Prop}(h:∀x,k' x->k x):∀vs H Q E,cX n k' vs H Q E->cX n k vs H Q E:=by rintro vs H Q E ⟨a,l,x,as,hs,h1,h2,h3,h4,h5,⟨h6,h7,h8,h9,h10⟩,h11⟩;exact⟨a,l,x,as,hs,h1,h2,h3,h4,h5,⟨h x h6,h7,h8,h9,h10⟩,h11⟩
theorem wg{n:Nat}{aT:Addr}{f1 f2 f3 f4 f5 f6:Addr}
  (t1:cy K aT "cut" f1) (t2:cy K aT "must" f2) (t3:cy K aT "walk" f3) (t4:cy K aT "count" f4) (OY:cy K aT "sum" f4) (t5:cy K aT "number" f5) (t6:cy K aT "meet" f6)
  (u1:iP K aT "keep") (u2:iP K aT "same") (u3:iP K aT "turn") (u4:iP K aT "sort") (u5:iP K aT "apart") (u6:iP K aT "first") (u7:iP K aT "both")
  (G1:FnAt P w K mg base 2 f1 ["worker","heads"] (cX n λx=>∃cs,x=.one (.cut cs))) (G2:FnAt P w K mg base 2 f2 ["worker","heads"] (cX n λx=>∃c ps,x=.one (.must c ps))) (G3:FnAt P w K mg base 1 f3 ["worker","heads"] (cX n λx=>∃c mv,x=.one (.walk c mv))) (G4:FnAt P w K mg base 2 f4 ["worker","heads"] (cX n λx=>∃cs,x=.one (.count cs)\/∃c,x=.one (.sum cs c)))
  (G5:FnAt P w K mg base 1 f5 ["worker","heads"] (cX n λx=>x=.one .number)) (G6:FnAt P w K mg base 1 f6 ["worker","heads"] (cX n λx=>∃c d p q,x=.meet c d p q)):∀x,Cz P w K mg base aT n x:=by
 obtain⟨d1,G1,b1,k1⟩:=G1;obtain⟨d2,G2,b2,k2⟩:=G2;obtain⟨d3,G3,b3,k3⟩:=G3;obtain⟨d4,G4,b4,k4⟩:=G4;obtain⟨d5,G5,b5,k5⟩:=G5;obtain⟨d6,G6,b6,k6⟩:=G6;intro x;match x with
 | .one (.cut cs)=>exact .inl ⟨f1,d1,t1,G1.imp (d9 λ_ e=>⟨cs,e⟩),k1,b1⟩
 | .one (.must c ps)=>exact .inl ⟨f2,d2,t2,G2.imp (d9 λ_ e=>⟨c,ps,e⟩),k2,b2⟩
 | .one (.walk c mv)=>exact .inl ⟨f3,d3,t3,(G3.imp (d9 λ_ e=>⟨c,mv,e⟩)).mono (by omega),k3,b3⟩
 | .one (.count cs)=>exact .inl ⟨f4,d4,t4,G4.imp (d9 λ_ e=>⟨cs,.inl e⟩),k4,b4⟩
 | .one (.sum cs c)=>exact .inl ⟨f4,d4,OY,G4.imp (d9 λ_ e=>⟨cs,.inr ⟨c,e⟩⟩),k4,b4⟩
 | .one .number=>exact .inl ⟨f5,d5,t5,(G5.imp (d9 λ_ e=>e)).mono (by omega),k5,b5⟩
 | .meet c d p q=>exact .inl ⟨f6,d6,t6,(G6.imp (d9 λ_ e=>⟨c,d,p,q,e⟩)).mono (by omega),k6,b6⟩
 | .one (.keep _ _)=>exact .inr ⟨u1,λ_=>rfl⟩
 | .one (.same _ _)=>exact .inr ⟨u2,λ_=>rfl⟩
 | .one (.turn _ _)=>exact .inr ⟨u3,λ_=>rfl⟩
 | .one (.sort _)=>exact .inr ⟨u4,λ_=>rfl⟩
 | .one .apart=>exact .inr ⟨u5,λ_=>rfl⟩
 | .one (.first _)=>exact .inr ⟨u6,λ_=>rfl⟩
 | .both _ _=>exact .inr ⟨u7,λ_=>rfl⟩
theorem Ce{x:Wk}{hs:List Hd}(hn:hs.length=CB x):∃h0,hs[0]? = some h0/\hs.headD []=h0:=by
 cases hs with
 |nil=>cases x<;>cases hn
 |cons h0 r=>exact⟨h0,rfl,rfl⟩
abbrev jw:Stmt:=top 42
theorem lD:au ["worker","heads","head_of_told"] ["worker","heads"] (ao jw):=fs
theorem uG{n:Nat}{aT:Addr}(mH:mg "HEADS_TOLD"=some (.ref aT))(GH:∀x:Wk,Cz P w K mg base aT n x)(F:FA K mg "head_told" jw) :
  bB bE P w K mg base 3 "head_told" ["worker","heads"] (cX n (λ_=>True)):=by
 refine F.ok lD λf cdv A outer s H vs Q E hr h=>?_;obtain⟨a,l,x,as,hs,rfl,ha,hL,hn,hsm,ho,q⟩:=h;refine⟨_,(bq (dm mn (aG K (pv 0) ai) (cz rfl mH (show RelV (.ref aT) (.ref aT) from rfl)) rfl) (bK K (pv 1) ai)
   (ak (aX (i:=2) lD.nd rfl (SQ rfl) (iI (r:=A0 K) l8 (cz rfl mH (show RelV (.ref aT) (.ref aT) from rfl)) (aG K (pv 0) ai) (λ_ _=>rfl)))
   (ax (lI (k:=2) (pv 2) hr qE (aa (pv 0) (aa (pv 1) ah)))))),?_⟩
 obtain⟨xs,h1⟩:=ha.first;refine⟨_,rfl,a,_,0,_,rfl,rfl,aP.of h1,ay (j:=0) rfl,aT,x.nm,rfl,rfl,?_⟩;rcases GH x with⟨g,gd,Dk,FG,kG,bG⟩|⟨hno,he⟩
 ·refine .inl ⟨⟨g,Dk⟩,_,rfl,cq (bL ?_)⟩;refine⟨_,rfl,a,_,0,_,rfl,rfl,aP.of h1,ay (j:=0) rfl,aT,x.nm,g,rfl,rfl,Dk,aj ?_⟩;dsimp only;exact⟨_,rfl,g,gd,_,_,rfl,FG,kG,bG,_,rfl,_,rfl,a,l,x,as,hs,rfl,ha,hL,hn,hsm,⟨rfl,ho.fit,ho.good,ho.ne,ho.sm⟩,q⟩
 ·refine .inr ⟨hno,_,rfl,cB ?_⟩;obtain⟨h0,e0,eh⟩:=Ce hn;obtain⟨a0,e0,jR⟩:=hL.nth e0;refine⟨_,rfl,l,_,0,_,rfl,rfl,bc.of hL.lst,ay (j:=0) e0,q a0 H (aE.refl _) ?_⟩;rw[he hs,eh];exact jR
def iD:Wk->List (List Wk)
 | .one _=>[]
 | .both p q=>[p,q]
 | .meet _ _ p q=>[p,q]
def xN(n:Nat):Sp:=λvs H Q _=>∃(a:Addr)(x:Wk),vs=[.ref a]/\ij n H a x/\∀(u:Addr)(bs:List Addr)(H':Hp),aE H H'->bW (nW (n-1)) H' u bs (iD x)->Q (.ref u) H'
def KY:List V:=[.str "both",.str "meet"]
def Bx:List V:=[.str "keep",.str "same",.str "cut",.str "turn",.str "must"]
structure DW(K:S7)(mg:Str->Option Value)(nm:Str)(a:Addr)(vs:List V):Prop where
 m:mg nm=some (.ref a)
 t:∀H,aP K H a vs
theorem yy{x y:Str}:DP (.str x) (.str y)=decide (y=x):=by
 show(x==y)=_;by_cases h:x=y
 ·rw[h];simp
 ·rw[R5 (λe=>h e.symm)];exact beq_false_of_ne h
def fz:Wk->Bool
 | .one _=>false
 |_=>true
def bZ(s:Str):Bool:=inV (.str s) Bx
theorem JA{x:Wk}:inV (.str x.nm) KY=fz x:=by
 cases x with
 |one x=>cases x<;>(simp only[Wk.nm,W1.nm,fz];decide +kernel)
 |both p q=>simp only[Wk.nm,fz];decide +kernel
 |meet c d p q=>simp only[Wk.nm,fz];decide +kernel
theorem uI{us:List V}{a b:V}:fq (us++[a,b]) (some (-2)) none=[a,b]:=by
 unfold fq HT.dG;have hl:(us++[a,b]).length=us.length+2:=by simp
 rw[hl];show List.take (us.length+2-(if(-2:Int)<0 then((-2:Int)+((us.length+2:Nat):Int)).toNat else _)) (List.drop (if(-2:Int)<0 then((-2:Int)+((us.length+2:Nat):Int)).toNat else _) (us++[a,b]))=_;rw[SM (by decide)];have:((-2:Int)+((us.length+2:Nat):Int)).toNat=us.length:=by omega
 rw[this,List.drop_left];simp
abbrev gZ:Stmt:=top 2
theorem oJ:au ["worker"] ["worker"] (ao gZ):=fs
theorem Ip{n:Nat}{aB:Addr}(Cb:DW K mg "BRANCHED" aB KY)(F:FA K mg "branches_of" gZ) :
  bB bE P w K mg base 1 "branches_of" ["worker"] (xN n):=by
 refine F.ok oJ λf cdv A outer s H vs Q E hr h=>?_;obtain⟨a,x,rfl,ha,q⟩:=h;refine⟨_,(ax (lJ (dm cP (aG K (pv 0) ai) (cz (v:=.ref aB) rfl Cb.m rfl) rfl) (c_ gR (pv 0) (dg (F5 CY ai)) fX) (aY ah))),?_⟩;obtain⟨xs,h1⟩:=ha.first;refine⟨_,rfl,a,_,0,_,rfl,rfl,aP.of h1,ay (j:=0) rfl,aB,KY,rfl,.inr (Cb.t _),rfl,rfl,_,rfl,?_⟩;show if inV (.str x.nm) KY=true then _ else _
 rw[JA];cases x with
 |one x =>refine cq ⟨vM,λp hp=>q p [] _ (ag hp _) ⟨ae,rfl,λi a x e=>by cases e⟩⟩
 |both p q' =>
  cases n with
  |zero=>exact SS ha
  |succ n =>
  obtain⟨b,c,bs,cs,h1,h2,h3⟩:=ha;refine cB ⟨_,rfl,_,rfl,_,rfl,a,_,rfl,h1,λt H' s' ht=>?_⟩;rw[show [V.str "both",.ref b,.ref c]=[V.str "both"]++[.ref b,.ref c] from rfl,uI]at ht;refine q t [b,c] H' s' ⟨ht,rfl,λi a x e1 e2=>?_⟩;have k:=aQ.of s';match i with
  | 0=>cases e1;cases e2;exact nW.keep k ⟨bs,h2⟩
  | 1=>cases e1;cases e2;exact nW.keep k ⟨cs,h3⟩
  |i+2=>cases e1
 |meet c d p q' =>
  cases n with
  |zero=>exact SS ha
  |succ n =>
  obtain⟨b,e,bs,es,h1,h2,h3⟩:=ha;refine cB ⟨_,rfl,_,rfl,_,rfl,a,_,rfl,h1,λt H' s' ht=>?_⟩;rw[show [V.str "meet",.int c,.int d,.ref b,.ref e]=[V.str "meet",.int c,.int d]++[.ref b,.ref e] from rfl,uI]at ht;refine q t [b,e] H' s' ⟨ht,rfl,λi a x e1 e2=>?_⟩;have k:=aQ.of s';match i with
  | 0=>cases e1;cases e2;exact nW.keep k ⟨bs,h2⟩
  | 1=>cases e1;cases e2;exact nW.keep k ⟨es,h3⟩
  |i+2=>cases e1
def aJ:Wk->Str
 | .one (.first n)=>if n<=0 then "first 0" else "first"
 |x=>x.nm
def wR(n:Nat):Sp:=λvs H Q _=>∃(a:Addr)(x:Wk),vs=[.ref a]/\ij n H a x/\Q (.str (aJ x)) H
theorem sS{x:Wk}(h:x.nm="first"):∃n,x=.one (.first n):=by
 revert h;cases x with
 |one x=>cases x<;>simp only[Wk.nm,W1.nm]<;>first | (intro h;exact⟨_,rfl⟩) | (intro h;exact SJ h (by decide +kernel))
 |both p q=>simp only[Wk.nm];intro h;exact SJ h (by decide +kernel)
 |meet c d p q=>simp only[Wk.nm];intro h;exact SJ h (by decide +kernel)
theorem tY{x:Wk}(h:x.nm≠"first"):aJ x=x.nm:=by
 cases x with
 |one x=>cases x<;>first|rfl|exact SJ rfl h
 |both p q=>rfl
 |meet c d p q=>rfl
abbrev ik:Stmt:=top 43
theorem oH:au ["worker"] ["worker"] (ao ik):=fs
theorem Er{n:Nat}(F:FA K mg "name_passed" ik) :
  bB bE P w K mg base 1 "name_passed" ["worker"] (wR n):=by
 refine F.ok oH λf cdv A outer s H vs Q E hr h=>?_;obtain⟨a,x,rfl,ha,q⟩:=h;refine⟨_,(bq (PW.pt (jX (bu bM (aG K (pv 0) ai) av) (j9 (bu A6 (aG K (pv 0) ai) ai)))) av
   (ax (aG K (pv 0) ai))),?_⟩
 obtain⟨xs,h1⟩:=ha.first;refine⟨_,rfl,a,_,0,_,rfl,rfl,aP.of h1,ay (j:=0) rfl,rfl,_,rfl,?_⟩;rw[du];by_cases e:x.nm="first"
 ·rw[R6 e];obtain⟨m,rfl⟩:=sS e;have h1:H a=some (.tup [.str "first",.int m]):=eF.mp ha;refine cB ⟨_,rfl,a,_,1,_,rfl,rfl,aP.of h1,rfl,_,_,rfl,rfl,_,rfl,?_⟩;have q:Q (.str (if m<=0 then "first 0" else "first")) H:=q;refine fJ (λk=>?_) (λk=>bL ?_)
  ·rw[SM (SI k)]at q;exact q
  ·rw[SK (λz=>k (R6 z))]at q;exact⟨_,rfl,a,_,0,_,rfl,rfl,aP.of h1,rfl,q⟩
 ·rw[R5 e];rw[tY e]at q;exact cq (cq (bL ⟨_,rfl,a,_,0,_,rfl,rfl,aP.of h1,ay (j:=0) rfl,q⟩))
structure Kn where
 hd:Hd
 ps:List Str
 lo:Bool
def gI(H:Hp)(a:Addr)(k:Kn):Prop:=∃h p,H a=some (.tup [.ref h,.ref p,.bl k.lo])/\gE H h k.hd/\gE H p k.ps
theorem gI.same{H H':Hp}{a:Addr}{k:Kn}(s:aE H H')(h:gI H a k):gI H' a k:=by obtain⟨u,p,h1,h2,h3⟩:=h;exact⟨u,p,s _ _ h1,s _ _ h2,s _ _ h3⟩
def ke:Wk->List Str->Bool
 | .one (.walk _ _),ps=>ps.all bZ
 | .meet _ _ p q,_=>(p++q).all λw=>bZ w.nm
 |_,_=>true
def Gh(x:Wk):Prop:=∀p∈iD x,p.length<=1000
def B6(n:Nat):Sp:=λvs H Q _=>∃(a b:Addr)(x:Wk)(k:Kn),vs=[.ref a,.ref b]/\ij n H a x/\gI H b k/\k.ps.length<=1000/\Gh x/\∀H',aE H H'->Q (.bl (ke x k.ps)) H'
theorem DQ{x:Wk}(h:x.nm="walk"):∃c mv,x=.one (.walk c mv):=by
 revert h;cases x with
 |one x=>cases x<;>simp only[Wk.nm,W1.nm]<;>first | (intro h;exact⟨_,_,rfl⟩) | (intro h;exact SJ h (by decide +kernel))
 |both p q=>simp only[Wk.nm];intro h;exact SJ h (by decide +kernel)
 |meet c d p q=>simp only[Wk.nm];intro h;exact SJ h (by decide +kernel)
theorem yj{x:Wk}(h:x.nm="meet"):∃c d p q,x=.meet c d p q:=by
 revert h;cases x with
 |one x=>cases x<;>simp only[Wk.nm,W1.nm]<;>(intro h;exact SJ h (by decide +kernel))
 |both p q=>simp only[Wk.nm];intro h;exact SJ h (by decide +kernel)
 |meet c d p q=>intro h;exact⟨_,_,_,_,rfl⟩
theorem Dd{x:Wk}{ps:List Str}(h:x.nm≠"walk")(h2:x.nm≠"meet"):ke x ps=true:=by
 cases x with
 |one x=>cases x<;>first|rfl|exact SJ rfl h
 |both p q=>rfl
 |meet c d p q=>exact SJ rfl h2
abbrev lb:Stmt:=top 44
theorem t9:au ["worker","known"] ["worker","known"] (ao lb):=fs
theorem vy{n:Nat}{aO:Addr}(B2:pP mg)(Co:DW K mg "ONE_ROW" aO Bx)(F:FA K mg "rows_fit" lb)
  (dJ:bB bE P w K mg base 1 "branches_of" ["worker"] (xN n)) :
  bB bE P w K mg base 2 "rows_fit" ["worker","known"] (B6 n):=by
 refine F.ok t9 λf cdv A outer s H vs Q E hr h=>?_;have hu:=gX hr;obtain⟨a,b,x,k,rfl,ha,hk,hps,Nb,q⟩:=h;refine⟨_,(bq (bu bM (aG K (pv 0) ai) av) (aK (fZ rfl) rfl B2.all PyProof.Rows.boot_all (aa (bw (N':=["name"]) (src:=[none]) rfl (ba.jb (by kernel_rfl)) (cu (aG K (pv 1) ai)) (λcl C s H fp=>(e7 (i:=0))) (λcl C s H fp=>bg) (te:=(eZ (Dg K false) (bp 0) (tC (.ref aO)))) (λcl C s H fp=>(iO cP (fP 0) (cz (v:=.ref aO) Dh Co.m rfl) rfl))) ah))
   (bq (bu bM (aG K (pv 0) ai) av) (aK (fZ rfl) rfl B2.all PyProof.Rows.boot_all (aa (qR (N':=["branch","inner"]) (src:=[none,none]) rfl (ba.jb (by kernel_rfl)) (cu (aM dJ hr (aa (pv 0) ah))) (λcl C s H fp=>(e7 (i:=0))) (λcl C s H fp=>bg) (wi2:=(DH K (bp 0))) (λcl C s H fp=>(cu (fP 0))) (λcl C s H fp=>(e7 (i:=1))) (λcl C s H fp=>bg) (te:=(eZ (Dg K false) (eZ (jj K) (bp 1) (tC (.int 0))) (tC (.ref aO)))) (λcl C s H fp=>(iO cP (aG K (fP 1) ai) (cz (v:=.ref aO) Dh Co.m rfl) rfl))) ah))
   (ax cC))),?_⟩
 obtain⟨xs,h1⟩:=ha.first;refine⟨_,rfl,a,_,0,_,rfl,rfl,aP.of h1,ay (j:=0) rfl,rfl,_,rfl,?_⟩;rw[du];by_cases e:x.nm="walk"
 ·rw[R6 e];obtain⟨c,mv,rfl⟩:=DQ e;obtain⟨hh,p,hk1,hk2,hk3⟩:=hk;refine cB ⟨_,rfl,b,_,1,_,rfl,rfl,aP.of hk1,rfl,p,rfl,⟨_,aP.of hk3⟩,λD hD=>?_⟩;refine cG (xs:=k.ps.map V.str) (λi σ ys H'=>(∃o,σ=[o])/\ys=((k.ps.take i).map bZ).map V.bl/\ys.length=i/\H' D=some (.lst ys)/\aE H H') ⟨⟨none,rfl⟩,rfl,rfl,ae,ag hD _⟩ ?_ ?_ ?_ ?_ ?_
  ·rintro i σ ys H' _ ⟨_,_,hi,h,_⟩;exact⟨h,S0 hi⟩
  ·rintro i σ ys H' _ ⟨_,_,_,_,sm⟩;exact aP.of (sm _ _ hk3)
  ·rw[R7];exact R4 hps (by decide)
  ·rintro i v σ ys H' hv ⟨⟨o,rfl⟩,rfl,hi,h,sm⟩;rw[Sw]at hv;cases ec:k.ps[i]? with
   |none=>rw[ec]at hv;cases hv
   |some s0 =>
    rw[ec]at hv;have hv:V.str s0=v:=Ss hv;subst hv;refine⟨_,rfl,aO,Bx,rfl,.inr (Co.t _),rfl,rfl,h,⟨_,rfl⟩,?_,?_,ae,a_ hD sm⟩
    ·rw[take_one ec,R9,R9];rfl
    ·rw[R8,hi];rfl
  ·rintro σ ys H' ⟨_,rfl,_,h,sm⟩;rw[R7,SR]at h;refine⟨D,_,rfl,bc.of h,?_⟩;rw[show(k.ps.map bZ).all id=k.ps.all bZ by rw[List.all_map];rfl];exact q H' sm
 ·rw[R5 e];refine cq (bL ⟨_,rfl,a,_,0,_,rfl,rfl,aP.of h1,ay (j:=0) rfl,rfl,_,rfl,?_⟩);rw[du];by_cases e2:x.nm="meet"
  ·rw[R6 e2];obtain⟨c,d,p1,p2,rfl⟩:=yj e2;refine cB ⟨_,rfl,a,_,rfl,ha,λu bs H1 s1 hI=>⟨u,rfl,⟨_,aP.of hI.tup⟩,λD hD=>?_⟩⟩;let ws:Nat->List Wk:=λi=>(([p1,p2]:List (List Wk)).take i).flatten
   have hw1:p1.length<=1000:=Nb p1 (by simp[iD]);have hw2:p2.length<=1000:=Nb p2 (by simp[iD]);have hlb:(bs.map V.ref).length=2:=by rw[R7,hI.len];rfl
   have hws:∀i,(ws i).length<=2000:=by
    intro i;match i with
    | 0=>exact Sr _
    | 1=>show(p1++[]).length<=_;rw[SX];omega
    |i+2=>show((p1::p2::List.take i []).flatten).length<=_;rw[List.take_nil];show(p1++(p2++[])).length<=_;rw[SX,R8];omega
   refine rh (xs:=bs.map V.ref) (λi σ ys H'=>(∃o1 o2,σ=[o1,o2])/\ys=(ws i).map (λw=>V.bl (bZ w.nm))/\H' D=some (.lst ys)/\aE H1 H') ⟨⟨none,none,rfl⟩,rfl,ae,ag hD _⟩ ?_ ?_ ?_ ?_
   ·rintro i σ ys H' _ ⟨_,_,h,_⟩;exact h
   ·rintro i σ ys H' _ ⟨_,_,_,sm⟩;exact aP.of (sm _ _ hI.tup)
   ·rintro i v σ ys H' hv ⟨⟨o1,o2,rfl⟩,rfl,h,sm⟩;obtain⟨b',pp,rfl,ep,cs,hJ⟩:=hI.get hv;have hpl:pp.length<=1000:=Nb pp (Sf ep);refine aj ⟨_,rfl,b',rfl,⟨_,aP.of (sm _ _ hJ.tup)⟩,?_⟩;refine mJ (xs:=cs.map V.ref) (λj σ zs H2=>(∃o,σ=[some (.ref b'),o])/\zs=(ws i).map (λw=>V.bl (bZ w.nm))++(pp.take j).map (λw=>V.bl (bZ w.nm))/\H2 D=some (.lst zs)/\aE H1 H2) ⟨⟨o2,rfl⟩,by rw[List.take_zero,List.map_nil,SX],h,sm⟩ ?_ ?_ ?_ ?_
    ·rintro j σ zs H2 hj ⟨_,rfl,h2,_⟩;refine⟨h2,λ_=>?_⟩;rw[R8,R7,R7,Sx];have:=hws i;exact R_ (show _<=3000 by omega) (by decide)
    ·rintro j σ zs H2 _ ⟨_,_,_,s2⟩;exact aP.of (s2 _ _ hJ.tup)
    ·rintro j v2 σ zs H2 hu' ⟨⟨o,rfl⟩,rfl,h2,s2⟩;obtain⟨c',wk,rfl,ew,hW⟩:=hJ.get hu';obtain⟨ys',hW⟩:=hW.first;refine aj ⟨_,rfl,c',_,0,_,rfl,rfl,aP.of (s2 _ _ hW),ay (j:=0) rfl,aO,Bx,rfl,.inr (Co.t _),rfl,rfl,h2,⟨_,rfl⟩,?_,ae,a_ hD s2⟩;rw[take_one ew,R9,List.append_assoc];rfl
    ·rintro σ zs H2 ⟨⟨o,rfl⟩,rfl,h2,s2⟩;refine⟨⟨_,_,rfl⟩,?_,h2,s2⟩;rw[R7,hJ.len,SR,←R9];congr 1;show _=((iD (.meet c d p1 p2)).take (i+1)).flatten;rw[take_one ep,List.flatten_append];show _=_++(pp++[]);rw[SX];rfl
   ·rintro σ ys H' ⟨_,rfl,h,sm⟩;rw[hlb]at h;refine⟨D,(p1++p2).map λw=>bZ w.nm,rfl,bc.of ?_,?_⟩
    ·rw[h,List.map_map];show some (HO.lst ((p1++(p2++[])).map _))=_;rw[SX];rfl
    ·rw[List.all_map];exact q H' (s1.trans sm)
  ·rw[R5 e2];rw[Dd e e2]at q;exact cq (bL (q H (aE.refl _)))
theorem qD(ss:List Str):(ss.map V.str).all jN=true:=by rw[List.all_eq_true];intro v hv;obtain⟨s,_,rfl⟩:=Sl.mp hv;rfl
def lu(ps:List Str)(s:Str):Bool:=inV (.str s) (ps.map V.str)
theorem Dv{ps:List Str}{s:Str}:lu ps s=true↔s∈ps:=by
 unfold lu inV;rw[List.any_eq_true];constructor
 ·rintro⟨v,hv,e⟩;obtain⟨t,ht,rfl⟩:=Sl.mp hv;rw[yy]at e;rw[SI e];exact ht
 ·intro h;exact⟨.str s,Sl.mpr ⟨s,h,rfl⟩,by rw[yy];exact R6 rfl⟩
def fc:Wk->Kn->Bool
 | .one (.keep c _),k=>decide (bD k.hd c="t")
 | .one (.first n),k=>decide (¬n<=0)&&(lu k.ps "walk"||lu k.ps "both"||lu k.ps "meet")
 | .meet ..,k=>lu k.ps "walk"||lu k.ps "first"
 |_,_=>false
def keepIn(x:Wk)(h:Hd):Prop:=∀c t,x=.one (.keep c t)->1<=c/\c<=h.length
def x_(n:Nat):Sp:=λvs H Q _=>∃(a b:Addr)(x:Wk)(k:Kn),vs=[.ref a,.ref b]/\ij n H a x/\gI H b k/\keepIn x k.hd/\∀H',aE H H'->Q (.bl (fc x k)) H'
theorem D5{x:Wk}(h:x.nm="keep"):∃c t,x=.one (.keep c t):=by
 revert h;cases x with
 |one x=>cases x<;>simp only[Wk.nm,W1.nm]<;>first | (intro h;exact⟨_,_,rfl⟩) | (intro h;exact SJ h (by decide +kernel))
 |both p q=>simp only[Wk.nm];intro h;exact SJ h (by decide +kernel)
 |meet c d p q=>simp only[Wk.nm];intro h;exact SJ h (by decide +kernel)
theorem oj{x:Wk}:aJ x="first"↔∃n,¬n<=(0:Int)/\x=.one (.first n):=by
 constructor
 ·intro h;by_cases e:x.nm="first"
  ·obtain⟨n,rfl⟩:=sS e;refine⟨n,λz=>?_,rfl⟩;have h:(if n<=0 then("first 0" : Str)else "first")="first":=h;rw[SM z]at h;exact SJ h (by decide +kernel)
  ·rw[tY e]at h;exact SJ h e
 ·rintro⟨n,h,rfl⟩;show(if n<=0 then("first 0" : Str)else "first")="first";rw[SK h]
theorem yM{x:Wk}{k:Kn}(h1:x.nm≠"keep")(h2:aJ x≠"first")(h3:x.nm≠"meet"):fc x k=false:=by
 match x with
 | .one (.keep _ _)=>exact SJ rfl h1
 | .one (.first n) =>
  have:n<=0:=by
   by_cases z:n<=0
   ·exact z
   ·exact SJ (oj.mpr ⟨n,z,rfl⟩) h2
  show(decide (¬n<=0)&&_)=false;rw[R5 (λz=>z this)];rfl
 | .meet ..=>exact SJ rfl h3
 | .both ..=>rfl
 | .one (.same ..)=>rfl
 | .one (.cut ..)=>rfl
 | .one (.turn ..)=>rfl
 | .one (.must ..)=>rfl
 | .one (.walk ..)=>rfl
 | .one (.sort ..)=>rfl
 | .one .apart=>rfl
 | .one (.count ..)=>rfl
 | .one (.sum ..)=>rfl
 | .one .number=>rfl
abbrev ip:Stmt:=top 46
theorem eQ:au ["worker","known","head","passed","loose"] ["worker","known"] (ao ip):=fs
theorem BH{n:Nat}{tk:Tok}(B3:Bu mg)(mT:mg "TALLY"=some (.str "t" tk))(F:FA K mg "makes_loose" ip)
  (h_:bB bE P w K mg base 1 "name_passed" ["worker"] (wR n)) :
  bB bE P w K mg base 2 "makes_loose" ["worker","known"] (x_ n):=by
 refine F.ok eQ λf cdv A outer s H vs Q E hr h=>?_;have hu:=gX hr;have hu1:=jn hr;obtain⟨a,b,x,k,rfl,ha,hk,hkp,q⟩:=h;refine⟨_,(ak (fk (pv 1) (bS rfl (aq (aL (i:=2) eQ.nd rfl (SQ rfl)) (aq (aL (i:=3) eQ.nd rfl (Or.inr rfl)) (aq (aL (i:=4) eQ.nd rfl (SQ rfl)) bz)))))
   (bq (bu bM (aG K (pv 0) ai) av) (eY bM (aG K (pv 2) (aU ck (aG K (pv 0) ai) ai)) (cz (v:=.str "t") rfl mT ⟨_,rfl⟩))
   (bq (bu bM (aM h_ hr (aa (pv 0) ah)) av) (aK (mZ rfl) rfl B3.any PyProof.Rows.boot_any (aa (bw (N':=["name","passed"]) (src:=[none,some 3]) rfl (ba.jb (by kernel_rfl)) (cu (aY (aa av (aa av (aa av ah))))) (λcl C s H fp=>(e7 (i:=0))) (λcl C s H fp=>bg) (te:=(eZ (Dg K false) (bp 0) (bp 1))) (λcl C s H fp=>(iO cP (fP 0) (oY 1) rfl))) ah))
   (bq (bu bM (aG K (pv 0) ai) av) (aK (mZ rfl) rfl B3.any PyProof.Rows.boot_any (aa (bw (N':=["name","passed"]) (src:=[none,some 3]) rfl (ba.jb (by kernel_rfl)) (cu (aY (aa av (aa av ah)))) (λcl C s H fp=>(e7 (i:=0))) (λcl C s H fp=>bg) (te:=(eZ (Dg K false) (bp 0) (bp 1))) (λcl C s H fp=>(iO cP (fP 0) (oY 1) rfl))) ah))
   (ax cC))))),?_⟩
 obtain⟨xs,h1⟩:=ha.first;obtain⟨hh,p,hk1,hk2,hk3⟩:=hk;refine⟨_,rfl,b,_,rfl,aP.of hk1,rfl,_,_,rfl,aj ⟨_,_,rfl,aj ⟨_,_,rfl,aj ⟨rfl,?_⟩⟩⟩⟩;dsimp only;refine⟨_,rfl,a,_,0,_,rfl,rfl,aP.of h1,ay (j:=0) rfl,rfl,_,rfl,?_⟩;rw[du];by_cases e:x.nm="keep"
 ·rw[R6 e];obtain⟨c,t,rfl⟩:=D5 e;obtain⟨st,ys,hx1,hx2⟩:=eF.mp ha;refine cB ⟨_,rfl,_,rfl,a,_,1,_,rfl,rfl,aP.of hx1,rfl,_,_,rfl,rfl,hh,_,_,_,rfl,rfl,aP.of hk2,fE (hkp c t rfl),rfl,?_⟩;rw[du];exact q H (aE.refl _)
 rw[R5 e];refine cq (bL ⟨_,rfl,a,x,rfl,ha,rfl,_,rfl,?_⟩);rw[du];by_cases e2:aJ x="first"
 ·rw[R6 e2];obtain⟨m,hm,rfl⟩:=oj.mp e2;refine cB ⟨cM,λu hu=>?_⟩;have su:=ag hu (.tup [V.str "walk",.str "both",.str "meet"]);have hu1:upd H u (.tup [V.str "walk",.str "both",.str "meet"]) u=_:=ae;revert su hu1;generalize upd H u (.tup [V.str "walk",.str "both",.str "meet"])=H1;intro su hu1;refine⟨u,rfl,⟨_,aP.of hu1⟩,λD hD=>?_⟩;refine cG (xs:=(["walk","both","meet"]:List Str).map V.str) (λi σ ys H'=>(∃o,σ=[o,some (.ref p)])/\ys=(((["walk","both","meet"]:List Str).take i).map (lu k.ps)).map V.bl/\ys.length=i/\H' D=some (.lst ys)/\aE H1 H') ⟨⟨none,rfl⟩,rfl,rfl,ae,ag hD _⟩ ?_ ?_ ?_ ?_ ?_
  ·rintro i σ ys H' _ ⟨_,_,hi,h,_⟩;exact⟨h,S0 hi⟩
  ·rintro i σ ys H' _ ⟨_,_,_,_,sm⟩;exact aP.of (sm _ _ hu1)
  ·decide
  ·rintro i v σ ys H' hv ⟨⟨o,rfl⟩,rfl,hi,h,sm⟩;rw[Sw]at hv;cases ec:(["walk","both","meet"]:List Str)[i]? with
   |none=>rw[ec]at hv;cases hv
   |some s0 =>
    rw[ec]at hv;have hv:V.str s0=v:=Ss hv;subst hv;refine⟨_,rfl,_,rfl,p,_,rfl,.inr (aP.of (sm _ _ (su _ _ hk3))),rfl,qD _,h,⟨_,rfl⟩,?_,?_,ae,a_ hD sm⟩
    ·rw[take_one ec,R9,R9];rfl
    ·rw[R8,hi];rfl
  ·rintro σ ys H' ⟨_,rfl,_,h,sm⟩;refine⟨D,_,rfl,bc.of h,?_⟩;have q:=q H' (su.trans sm);have q:Q (.bl (decide (¬m<=0)&&(lu k.ps "walk"||lu k.ps "both"||lu k.ps "meet"))) H':=q;rw[R6 hm,Bool.true_and]at q;show Q (.bl (lu k.ps "walk"||(lu k.ps "both"||(lu k.ps "meet"||false)))) H';rw[Bool.or_false,←Bool.or_assoc];exact q
 rw[R5 e2];refine cq (bL ⟨_,rfl,a,_,0,_,rfl,rfl,aP.of h1,ay (j:=0) rfl,rfl,_,rfl,?_⟩);rw[du];by_cases e3:x.nm="meet"
 ·rw[R6 e3];obtain⟨c,d,p1,p2,rfl⟩:=yj e3;refine cB ⟨c5,λu hu=>?_⟩;have su:=ag hu (.tup [V.str "walk",.str "first"]);have hu1:upd H u (.tup [V.str "walk",.str "first"]) u=_:=ae;revert su hu1;generalize upd H u (.tup [V.str "walk",.str "first"])=H1;intro su hu1;refine⟨u,rfl,⟨_,aP.of hu1⟩,λD hD=>?_⟩;refine cG (xs:=(["walk","first"]:List Str).map V.str) (λi σ ys H'=>(∃o,σ=[o,some (.ref p)])/\ys=(((["walk","first"]:List Str).take i).map (lu k.ps)).map V.bl/\ys.length=i/\H' D=some (.lst ys)/\aE H1 H') ⟨⟨none,rfl⟩,rfl,rfl,ae,ag hD _⟩ ?_ ?_ ?_ ?_ ?_
  ·rintro i σ ys H' _ ⟨_,_,hi,h,_⟩;exact⟨h,S0 hi⟩
  ·rintro i σ ys H' _ ⟨_,_,_,_,sm⟩;exact aP.of (sm _ _ hu1)
  ·decide
  ·rintro i v σ ys H' hv ⟨⟨o,rfl⟩,rfl,hi,h,sm⟩;rw[Sw]at hv;cases ec:(["walk","first"]:List Str)[i]? with
   |none=>rw[ec]at hv;cases hv
   |some s0 =>
    rw[ec]at hv;have hv:V.str s0=v:=Ss hv;subst hv;refine⟨_,rfl,_,rfl,p,_,rfl,.inr (aP.of (sm _ _ (su _ _ hk3))),rfl,qD _,h,⟨_,rfl⟩,?_,?_,ae,a_ hD sm⟩
    ·rw[take_one ec,R9,R9];rfl
    ·rw[R8,hi];rfl
  ·rintro σ ys H' ⟨_,rfl,_,h,sm⟩;refine⟨D,_,rfl,bc.of h,?_⟩;have q:=q H' (su.trans sm);have q:Q (.bl (lu k.ps "walk"||lu k.ps "first")) H':=q;show Q (.bl (lu k.ps "walk"||(lu k.ps "first"||false))) H';rw[Bool.or_false];exact q
 rw[R5 e3];rw[yM e e2 e3]at q;exact cq (bL (q H (aE.refl _)))
def fF:Wk->Bool
 | .one (.must ..)=>true
 |_=>false
def rA(x:Wk)(k:Kn)(hs:List Hd):Option Str :=
 if eG x hs=true then
  if bR x hs=true then
   if(bh x hs).length<=6 then
    if ke x k.ps=true then
     if(fF x&&k.lo)=true then some "loose" else none
    else some "rows"
   else some "wide"
  else some "sort"
 else some "column"
def wV:Option Str->V
 |none=>.non
 |some s=>.str s
structure uK(x:Wk):Prop where
 sm:pj x
 good:goodW x
 ne:M3 x
 wide:Gh x
def FN(n:Nat):Sp:=λvs H Q _=>∃(a b l:Addr)(x:Wk)(k:Kn)(as:List Addr)(hs:List Hd),vs=[.ref a,.ref b,.ref l]/\ij n H a x/\gI H b k/\l7 H l as hs/\hs.length=CB x/\uK x/\k.ps.length<=1000/\(∀h∈hs,h.length<=1000)/\∀H',aE H H'->Q (wV (rA x k hs)) H'
theorem Fb{x:Wk}:decide (x.nm="must")=fF x:=by
 cases x with
 |one x=>cases x<;>(simp only[Wk.nm,W1.nm,fF];first|exact R6 rfl|decide +kernel|exact R5 (by decide +kernel))
 |both p q=>simp only[Wk.nm,fF];exact R5 (by decide +kernel)
 |meet c d p q=>simp only[Wk.nm,fF];exact R5 (by decide +kernel)
abbrev mO:Stmt:=top 45
theorem we:au ["worker","known","heads"] ["worker","known","heads"] (ao mO):=fs
theorem zr{n:Nat}(B:j5 mg){tw:Tok}(mW:mg "WIDEST_ROW"=some (.int 6 tw))(F:FA K mg "why_not" mO)
  (qB:bB bE P w K mg base 2 "columns_fit" ["worker","heads"] (c9 n eG λ_ _=>True))
  (t_:bB bE P w K mg base 4 "sorts_fit" ["worker","heads"] (c9 n bR (qq λ_=>True)))
  (jz:bB bE P w K mg base 3 "head_told" ["worker","heads"] (cX n λ_=>True))
  (xb:bB bE P w K mg base 2 "rows_fit" ["worker","known"] (B6 n)) :
  bB bE P w K mg base 5 "why_not" ["worker","known","heads"] (FN n):=by
 refine F.ok we λf cdv A outer s H vs Q E hr h=>?_;have hu:=gX hr;obtain⟨a,b,l,x,k,as,hs,rfl,ha,hk,hL,hn,hok,hps,Q8,q⟩:=h;refine⟨_,(bq (kR (fA (aM qB hr (aa (pv 0) (aa (pv 2) ah))))) av
   (bq (kR (fA (aM t_ hr (aa (pv 0) (aa (pv 2) ah))))) av
   (bq (bu xy (aK aN rfl B.len S5 (aa (aM jz hr (aa (pv 0) (aa (pv 2) ah))) ah)) (cz (v:=.int 6) rfl mW ⟨_,rfl⟩)) av
   (bq (kR (fA (aM xb hr (aa (pv 0) (aa (pv 1) ah))))) av
   (bq (PW.pt (jX (bu bM (aG K (pv 0) ai) av) (j9 (fA (aG K (pv 1) ai))))) av
   (ax fh)))))),?_⟩
 unfold rA at q;refine⟨_,rfl,_,rfl,a,l,x,as,hs,rfl,ha,hL,hn,hok.sm,trivial,λH1 s1=>⟨_,rfl,?_⟩⟩;by_cases e1:eG x hs=false
 ·rw[e1];rw[SK (by rw[e1];decide)]at q;exact cB (q H1 s1)
 have e1:eG x hs=true:=by simpa using e1
 rw[e1];rw[SM e1]at q;have ha1:=ha.keep (aQ.of s1);refine cq (bL ⟨_,rfl,_,rfl,a,l,x,as,hs,rfl,ha1,hL.same s1,hn,hok.sm,⟨trivial,e1,hok.good⟩,λH2 s2=>⟨_,rfl,?_⟩⟩);have s12:=s1.trans s2;by_cases e2:bR x hs=false
 ·rw[e2];rw[SK (by rw[e2];decide)]at q;exact cB (q H2 s12)
 have e2:bR x hs=true:=by simpa using e2
 rw[e2];rw[SM e2]at q;have ha2:=ha.keep (aQ.of s12);refine cq (bL ⟨_,rfl,_,rfl,a,l,x,as,hs,rfl,ha2,hL.same s12,hn,hok.sm,⟨trivial,e1,hok.good,hok.ne,Q8⟩,λu H3 s3 hu=>?_⟩);have vk:=s12.trans s3;refine⟨u,_,rfl,.inr (aP.of hu),_,_,rfl,rfl,_,rfl,?_⟩;rw[R7];by_cases e3:¬(bh x hs).length<=6
 ·rw[SK e3]at q;rw[R6 (show(6:Int)<((bh x hs).length:Nat) by omega)];exact cB (q H3 vk)
 have e3:(bh x hs).length<=6:=by omega
 rw[SM e3]at q;rw[R5 (show¬(6:Int)<((bh x hs).length:Nat) by omega)];have ha3:=ha.keep (aQ.of vk);refine cq (bL ⟨_,rfl,_,rfl,a,b,x,k,rfl,ha3,hk.same vk,hps,hok.wide,λH4 s4=>⟨_,rfl,?_⟩⟩);have Dn:=vk.trans s4;by_cases e4:ke x k.ps=false
 ·rw[e4];rw[SK (by rw[e4];decide)]at q;exact cB (q H4 Dn)
 have e4:ke x k.ps=true:=by simpa using e4
 rw[e4];rw[SM e4]at q;have O6:=ha.keep (aQ.of Dn);obtain⟨xs,h1⟩:=O6.first;refine cq (bL ⟨_,rfl,a,_,0,_,rfl,rfl,aP.of h1,ay (j:=0) rfl,rfl,_,rfl,?_⟩);rw[du,Fb];cases e5:fF x with
 |false =>rw[e5]at q;exact cq (cq (bL (q H4 Dn)))
 |true =>
  rw[e5,Bool.true_and]at q;obtain⟨hh,p,hk1,_⟩:=hk.same Dn;refine cB ⟨_,rfl,b,_,2,_,rfl,rfl,aP.of hk1,rfl,_,rfl,?_⟩;refine fJ (λz=>?_) (λz=>bL ?_)
  ·rw[SM z]at q;exact q H4 Dn
  ·rw[SK z]at q;exact q H4 Dn
end My
namespace L2
open PySem PySem.Spec PyProof.Rows
section
variable{X:Cx}{N':List Str}{src:List (Option Nat)}{sc:Scope}{elt t1 i1 t2 i2:Expr}{f1 f2:List Expr}{pos:Pos}{wi wi2:TI}{g g2:TG}{tc sk:TT}{te:TE}
theorem uZ{i:Nat}{x:Str}{pos' spos:Pos}(hN:X.N.Nodup)(hi':X.N[i]? = some x)(hx:Loc X.env.scope x)(hsw:swapsWith (qh elt t1 i1 f1 t2 i2 f2 sc pos) (some (.Name x pos')) spos.line X.env=pure true)
  (hc:X.calm=true) (S:ba X.env.scope X.N N' src sc) (hi:PI X t1 i1 wi)
  (hg:∀cl C s H fp,PG (az X N' sc cl C s H fp) t1 g) (ht:∀cl C s H fp,iB (az X N' sc cl C s H fp) f1 tc)
  (hi2:∀cl C s H fp,PI (az X N' sc cl C s H fp) t2 i2 wi2) (hg2:∀cl C s H fp,PG (az X N' sc cl C s H fp) t2 g2) (EC:∀cl C s H fp,iB (az X N' sc cl C s H fp) f2 sk)
  (he:∀cl C s H fp,PE (az X N' sc cl C s H fp) elt te)
  (hf:X.fn x=true\/X.env.scope.names.lookup x=some .local:=by first|exact .inl rfl|exact .inr rfl|assumption)
  (hs:∀x,foldedSetIterable i1 X.env x=pure x:=by intro _;rfl) (hs2:∀(env:Env) x,foldedSetIterable i2 env x=pure x:=by intro _ _;rfl) :
  PS X (.Assign [.Name x pos'] (qh elt t1 i1 f1 t2 i2 f2 sc pos) spos) (za (Ci src wi g tc wi2 g2 sk te) (bT i)):=by
 intro ac s σ H D I h;rw[exec_Assign_Name_used _ _ _ _ hsw];refine RX (wpAny_standAt (RX ?_));show wpAny _ _ (comprehension _ _ _ _ _ _ _ _ >>= _) _ _ s;refine RX (wpAny_comprehension_free (use:=some (assign (.Name x pos') X.env)) rfl hs (cw λy hy hk=>I.ok.has y.1 (S.free y hy hk)) S.kind (λy hy hl=>by rw[←hl];exact S.uniq y hy) ?_);refine bO (hi ac s σ H _ I h) λv s1 h1=>bO h1 λitv s2 h2=>?_;obtain⟨it,fp,tn,J,H2,e,I2,T,st2,EM,hW⟩:=h2;subst e;refine nv (Q:=λy H'=>D.nx (σ.set i (some y)) H') (RR:=λacc C=>compPost (model X.prog X.w) X.A X.xe (some (assign (.Name x pos') X.env)) _ acc C) hc S hg ht hi2 hg2 EC he hs2 I2 T st2 EM hW ?_;intro D' C s5 H' m I5 n5 fC q;refine wpAny_assign_Name (mQ I5 hN hi' hx (show RelV (.ref D') (.ref D') from rfl) (λs6 I6 hsb=>?_) hf);obtain⟨a,sb,ha⟩:=hsb;have NP:C≠a:=by
  rcases ha with z|z
  ·rw[z];exact fC.2.1
  ·exact λe=>fC.2.2.2.2.1 x a z e.symm
 refine⟨m,n5.sameBut sb NP,λh' NB=>?_⟩;refine RY (RY ?_);exact⟨_,H',I6.turned (t':=s6.toks) (λb o hb e=>(NB.2 b hb).trans e) fC.1 fC.2.1 fC.2.2.2.1 fC.2.2.2.2.1 fC.2.2.2.2.2,q⟩
end
end L2
namespace My
open PySem L2
structure jS(H:Hp)(l:Addr)(as:List Addr)(ks:List Kn):Prop where
 lst:H l=some (.lst (as.map V.ref))
 len:as.length=ks.length
 at_:∀(i:Nat) a k,as[i]? = some a->ks[i]? = some k->gI H a k
theorem jS.same{H H':Hp}{l:Addr}{as:List Addr}{ks:List Kn}(s:aE H H')(h:jS H l as ks):jS H' l as ks:=⟨s _ _ h.lst,h.len,λi a k e1 e2=>(h.at_ i a k e1 e2).same s⟩
theorem jS.get{H:Hp}{l:Addr}{as:List Addr}{ks:List Kn}(h:jS H l as ks){i:Nat}{x:V}(hx:(as.map V.ref)[i]? = some x):∃(a:Addr)(k:Kn),x=.ref a/\ks[i]? = some k/\gI H a k:=by
 rw[Sw]at hx;cases e:as[i]? with
 |none=>rw[e]at hx;cases hx
 |some b =>
  rw[e]at hx;have hx':V.ref b=x:=Ss hx;subst hx';have hi:i<ks.length:=by rw[←h.len];exact(Sj.mp e).1
  have er:ks[i]? = some ks[i]:=Sd hi;exact⟨b,ks[i],rfl,er,h.at_ i b _ e er⟩
def BQ(ps ns:List Str):Prop:=ps.Pairwise JI/\∀s,s∈ps↔s∈ns
def kq(ks:List Kn):List Hd:=ks.map λk=>k.hd
structure NF(x:Wk)(k:Kn)(ks:List Kn):Prop where
 n:ks.length=CB x
 ok:uK x
 fit:eG x (kq ks)=true
 keep:keepIn x k.hd
 hd:∀k∈ks,k.hd.length<=1000
 ps:∀k∈ks,k.ps.length<=20
def uy(n:Nat):Sp:=λvs H Q _=>∃(a b l:Addr)(x:Wk)(k:Kn)(as:List Addr)(ks:List Kn),vs=[.ref a,.ref b,.ref l]/\ij n H a x/\gI H b k/\jS H l as ks/\NF x k ks/\
 ∀(u:Addr)(k':Kn)(H':Hp),aE H H'->gI H' u k'->k'.hd=bh x (kq ks)->BQ k'.ps (ks.flatMap (λk=>k.ps)++[aJ x])->k'.lo=(fc x k||ks.any λk=>k.lo)->Q (.ref u) H'
theorem Cn{x:Wk}:CB x<=2:=by cases x<;>simp[CB]
theorem AW{ks:List Kn}{m:Nat}(hl:ks.length<=m)(h:∀k∈ks,k.ps.length<=20):(ks.flatMap λk=>k.ps).length<=20*m:=by
 induction ks generalizing m with
 |nil=>exact Sr _
 |cons k ks ih =>rw[List.flatMap_cons,R8];have h1:=h k (by simp);have h2:=ih (m:=m-1) (by simp at hl;omega) λk hk=>h k (by simp[hk]);simp at hl;omega
theorem yd{H:Hp}{D:Addr}{ks:List Kn}{bs:List Addr}(h:H D=some (.lst (bs.map V.ref)))(hl:bs.length=ks.length)(ha:∀(i:Nat) a k,bs[i]? = some a->ks[i]? = some k->gE H a k.hd):l7 H D bs (kq ks):=by
 refine⟨h,by rw[hl,kq,R7],λi a r e1 e2=>?_⟩;rw[kq,Sw]at e2;cases ek:ks[i]? with
 |none=>rw[ek]at e2;cases e2
 |some k =>rw[ek]at e2;cases e2;exact ha i a k e1 ek
abbrev gF:Stmt:=top 47
theorem je:au ["worker","known","told","names"] ["worker","known","told"] (ao gF):=fs
variable{P:Program}{w:World}{K:S7}{mg:Str->Option Value}{base:Heap}
theorem zb{n:Nat}(B:j5 mg)(B2:pP mg)(B3:Bu mg)(F:FA K mg "known_behind" gF)
  (jz:bB bE P w K mg base 3 "head_told" ["worker","heads"] (cX n λ_=>True))
  (h_:bB bE P w K mg base 1 "name_passed" ["worker"] (wR n))
  (qk:bB bE P w K mg base 2 "makes_loose" ["worker","known"] (x_ n)) :
  bB bE P w K mg base 4 "known_behind" ["worker","known","told"] (uy n):=by
 refine F.ok je λf cdv A outer s H vs Q E hr h=>?_;have hu:=gX hr;have hu1:=jn hr;obtain⟨a,b,l,x,k,as,ks,rfl,ha,hk,hL,ho,q⟩:=h;refine⟨_,(ak (uZ (i:=3) (N':=["head","passed","loose","name"]) (src:=[none,none,none,none]) je.nd rfl (SQ rfl) rfl rfl (ba.jb (by kernel_rfl)) (c0 (pv 2)) (g:=(mM K 3 (cx (bT 0) (cx (bT 1) (cx (bT 2) mK))))) (λcl C s H fp=>(bS rfl (aq (e7 (i:=0)) (aq (e7 (i:=1)) (aq (e7 (i:=2)) bz))))) (λcl C s H fp=>bg) (wi2:=(DH K (bp 1))) (λcl C s H fp=>(cu (fP 1))) (λcl C s H fp=>(e7 (i:=3))) (λcl C s H fp=>bg) (te:=(bp 3)) (λcl C s H fp=>(fP 3)))
   (ax (aY (aa (aM jz hr (aa (pv 0) (aa (bw (N':=["head","passed","loose"]) (src:=[none,none,none]) rfl (ba.jb (by kernel_rfl)) (c0 (pv 2)) (g:=(mM K 3 (cx (bT 0) (cx (bT 1) (cx (bT 2) mK))))) (λcl C s H fp=>(bS rfl (aq (e7 (i:=0)) (aq (e7 (i:=1)) (aq (e7 (i:=2)) bz))))) (λcl C s H fp=>bg) (te:=(bp 0)) (λcl C s H fp=>(fP 0))) ah))) (aa (bx bo rfl B.tuple SV (aa (vH rfl rfl B2.sorted rfl B2.set (aU iS (pv 3) (bJ (aa (aM h_ hr (aa (pv 0) ah)) ah)))) ah)) (aa (x8 (aM qk hr (aa (pv 0) (aa (pv 1) ah))) (d_ (aK (mZ rfl) rfl B3.any PyProof.Rows.boot_any (aa (bw (N':=["head","passed","loose"]) (src:=[none,none,none]) rfl (ba.jb (by kernel_rfl)) (c0 (pv 2)) (g:=(mM K 3 (cx (bT 0) (cx (bT 1) (cx (bT 2) mK))))) (λcl C s H fp=>(bS rfl (aq (e7 (i:=0)) (aq (e7 (i:=1)) (aq (e7 (i:=2)) bz))))) (λcl C s H fp=>bg) (te:=(bp 2)) (λcl C s H fp=>(fP 2))) ah)))) ah)))))),?_⟩
 have hn2:ks.length<=2:=by rw[ho.n];exact Cn
 have hla:(as.map V.ref).length=ks.length:=by rw[R7,hL.len]
 refine⟨_,rfl,l,rfl,⟨_,bc.of hL.lst⟩,λD hD=>?_⟩;have hfl:∀i,((ks.take i).flatMap λk=>k.ps).length<=40:=λi=>AW (m:=2) (by rw[Sx];omega) λk hk=>ho.ps k (List.mem_of_mem_take hk);refine wx (xs:=as.map V.ref) (λi σ ys H'=>(∃o1 o2 o3 o4,σ=[o1,o2,o3,o4])/\ys=((ks.take i).flatMap λk=>k.ps).map V.str/\H' D=some (.lst ys)/\aE H H') ⟨⟨none,none,none,none,rfl⟩,rfl,ae,ag hD _⟩ ?_ ?_ ?_ ?_
 ·rintro i σ ys H' _ ⟨_,_,h,_⟩;exact h
 ·rintro i σ ys H' _ ⟨_,_,_,sm⟩;exact bc.of (sm _ _ hL.lst)
 ·rintro i v σ ys H' hv ⟨⟨o1,o2,o3,o4,rfl⟩,rfl,h,sm⟩;obtain⟨b',k',rfl,ek,hh,p,hk1,hk2,hk3⟩:=hL.get hv;have hpl:k'.ps.length<=20:=ho.ps k' (Sf ek);refine⟨b',_,rfl,aP.of (sm _ _ hk1),rfl,_,_,rfl,aj ⟨_,_,rfl,aj ⟨_,_,rfl,aj ⟨rfl,?_⟩⟩⟩⟩;refine⟨_,rfl,p,rfl,⟨_,aP.of (sm _ _ hk3)⟩,?_⟩;refine mJ (xs:=k'.ps.map V.str) (λj σ zs H2=>(∃o1 o2 o3 o4,σ=[o1,o2,o3,o4])/\zs=((ks.take i).flatMap λk=>k.ps).map V.str++(k'.ps.take j).map V.str/\H2 D=some (.lst zs)/\aE H H2) ⟨⟨_,_,_,_,rfl⟩,by rw[List.take_zero,List.map_nil,SX],h,sm⟩ ?_ ?_ ?_ ?_
  ·rintro j σ zs H2 hj ⟨_,rfl,h2,_⟩;refine⟨h2,λ_=>?_⟩;rw[R8,R7,R7,Sx];have:=hfl i;exact R_ (show _<=60 by omega) (by decide)
  ·rintro j σ zs H2 _ ⟨_,_,_,s2⟩;exact aP.of (s2 _ _ hk3)
  ·rintro j v2 σ zs H2 hu' ⟨⟨o1,o2,o3,o4,rfl⟩,rfl,h2,s2⟩;rw[Sw]at hu';cases es:k'.ps[j]? with
   |none=>rw[es]at hu';cases hu'
   |some s0 =>rw[es]at hu';have hv2:V.str s0=v2:=Ss hu';subst hv2;refine aj ⟨_,rfl,h2,⟨_,_,_,_,rfl⟩,?_,ae,a_ hD s2⟩;rw[take_one es,R9,List.append_assoc];rfl
  ·rintro σ zs H2 ⟨⟨o1,o2,o3,o4,rfl⟩,rfl,h2,s2⟩;refine⟨⟨_,_,_,_,rfl⟩,?_,h2,s2⟩;rw[R7,SR,←R9,take_one ek,List.flatMap_append];show _=(_++(k'.ps++[])).map V.str;rw[SX]
 ·rintro σ ys H1 ⟨_,rfl,h1,s1⟩;rw[hla,SR]at h1;have hfl:=hfl ks.length;rw[SR]at hfl;refine aj ?_;dsimp only;have hL1:=hL.same s1;refine⟨_,rfl,_,rfl,l,rfl,⟨_,bc.of hL1.lst⟩,λD2 hD2=>?_⟩;refine dn (xs:=as.map V.ref) (λi σ ys H'=>(∃o1 o2 o3,σ=[o1,o2,o3])/\(∃bs:List Addr,ys=bs.map V.ref/\bs.length=i/\∀(j:Nat) a k,bs[j]? = some a->ks[j]? = some k->gE H1 a k.hd)/\H' D2=some (.lst ys)/\aE H1 H') ⟨⟨none,none,none,rfl⟩,⟨[],rfl,rfl,λj a k e=>by cases e⟩,ae,ag hD2 _⟩ ?_ ?_ ?_ ?_ ?_
  ·rintro i σ ys H' _ ⟨_,⟨bs,rfl,hi,_⟩,h,_⟩;exact⟨h,by rw[R7];exact S0 hi⟩
  ·rintro i σ ys H' _ ⟨_,_,_,sm⟩;exact bc.of (sm _ _ hL1.lst)
  ·rw[hla];exact R4 hn2 (by decide)
  ·rintro i v σ ys H' hv ⟨⟨o1,o2,o3,rfl⟩,⟨bs,rfl,hi,hb⟩,h,sm⟩;obtain⟨b',k',rfl,ek,hh,p,hk1,hk2,hk3⟩:=hL1.get hv;refine⟨b',_,rfl,aP.of (sm _ _ hk1),rfl,_,_,rfl,aj ⟨_,_,rfl,aj ⟨_,_,rfl,aj ⟨rfl,?_⟩⟩⟩⟩;refine⟨_,rfl,h,⟨_,_,_,rfl⟩,⟨bs++[hh],by rw[R9];rfl,by rw[R8,hi];rfl,λj a k e1 e2=>?_⟩,ae,a_ hD2 sm⟩;by_cases hj:j<bs.length
   ·rw[Sv hj]at e1;exact hb j a k e1 e2
   ·have hj':j=bs.length:=by have:=(Sj.mp e1).1;rw[R8]at this;simp at this;omega
    rw[hj',Su (R3 _),Nat.sub_self]at e1;cases e1;rw[hj',hi,ek]at e2;cases e2;exact hk2
  ·rintro σ ys H2 ⟨_,⟨bs,rfl,hi,hb⟩,h2,s2⟩;rw[hla]at hi;have s12:=s1.trans s2;refine⟨a,D2,x,bs,kq ks,rfl,ha.keep (aQ.of s12),yd h2 hi (λi a k e1 e2=>s2 _ _ (hb i a k e1 e2)),by rw[kq,R7,ho.n],ho.ok.sm,⟨trivial,ho.fit,ho.ok.good,ho.ok.ne,λh hh=>by obtain⟨k,hk,rfl⟩:=Sl.mp hh;exact ho.hd k hk⟩,λu1 H3 s3 hu1=>?_⟩;have vk:=s12.trans s3;refine⟨_,rfl,_,rfl,a,x,rfl,ha.keep (aQ.of vk),dH,λu2 hu2=>?_⟩;have s4:=ag hu2 (.lst [V.str (aJ x)]);refine⟨D,u2,_,_,rfl,rfl,s4 _ _ (s3 _ _ (s2 _ _ h1)),ae,by rw[R7];exact R4 (show _+1<=41 by omega) (by decide),λu3 sR=>?_⟩;have s5:=ag sR (.lst (((ks.flatMap λk=>k.ps).map V.str)++[V.str (aJ x)]));have hmap:(ks.flatMap λk=>k.ps).map V.str++[V.str (aJ x)]=((ks.flatMap λk=>k.ps)++[aJ x]).map V.str:=by rw[R9];rfl
   refine⟨u3,_,rfl,.inl (bc.of ae),?_,.inr ⟨_,hmap⟩,λu4 ys p5 hS=>?_⟩
   ·rw[R8,R7];show _+1<64;omega
   have s6:=ag p5 (.lst ys);have hys:∃ms:List Str,ys=ms.map V.str/\BQ ms ((ks.flatMap λk=>k.ps)++[aJ x]):=by
    rcases hS with⟨ns,ms,e1,e2,_⟩|⟨ns,ms,e1,e2,e3,e4⟩
    ·rw[hmap]at e1;cases ns with
     |nil=>rw[R9]at e1;simp at e1
     |cons n ns =>
      exfalso;have:V.int n∈((ks.flatMap λk=>k.ps)++[aJ x]).map V.str:=by rw[e1];simp
      obtain⟨s,_,e⟩:=Sl.mp this;cases e
    ·rw[hmap]at e1;have:ns=(ks.flatMap λk=>k.ps)++[aJ x]:=(List.map_inj_right (f:=V.str) (λa b e=>V.str.inj e)).mp e1.symm;subst this;exact⟨ms,e2,e3,e4⟩
   obtain⟨ms,rfl,hms⟩:=hys;refine⟨u4,_,rfl,.inl ⟨bc.of ae,λu5 Iz=>?_⟩⟩;have s7:=ag Iz (.tup (ms.map V.str));have L9:=s4.trans (s5.trans (s6.trans s7));have Gj:upd (upd (upd (upd H3 u2 (.lst [V.str (aJ x)])) u3 (.lst (((ks.flatMap λk=>k.ps).map V.str)++[V.str (aJ x)]))) u4 (.lst (ms.map V.str))) u5 (.tup (ms.map V.str)) u5=some (.tup (ms.map V.str)):=ae;revert L9 Gj;generalize upd (upd (upd (upd H3 u2 (.lst [V.str (aJ x)])) u3 (.lst (((ks.flatMap λk=>k.ps).map V.str)++[V.str (aJ x)]))) u4 (.lst (ms.map V.str))) u5 (.tup (ms.map V.str))=H4;intro L9 Gj;have Dn:=vk.trans L9;refine⟨_,rfl,_,rfl,a,b,x,k,rfl,ha.keep (aQ.of Dn),hk.same Dn,ho.keep,λH5 s8=>?_⟩;have Ou:=Dn.trans s8;have fin:∀(v:Bool)(H6:Hp),aE H5 H6->v=(fc x k||ks.any λk=>k.lo)->∀u6,H6 u6=none->Q (.ref u6) (upd H6 u6 (.tup [.ref u1,.ref u5,.bl v])):=by intro v H6 s9 hv u6 Lu;have p7:=ag Lu (.tup [.ref u1,.ref u5,.bl v]);have Lw:=(s8.trans s9).trans p7;exact q u6 ⟨bh x (kq ks),ms,v⟩ _ ((Ou.trans s9).trans p7) ⟨u1,u5,ae,Lw _ _ (L9 _ _ hu1),Lw _ _ Gj⟩ rfl hms hv
   refine⟨_,rfl,fJ (λe=>?_) (λe=>?_)⟩
   ·exact⟨cM,fin true H5 (aE.refl _) (by rw[e];rfl)⟩
   have Mq:=hL.same Ou;refine⟨_,rfl,l,rfl,⟨_,bc.of Mq.lst⟩,λD3 yo=>?_⟩;refine dn (xs:=as.map V.ref) (λi σ ys H'=>(∃o1 o2 o3,σ=[o1,o2,o3])/\ys=((ks.take i).map λk=>k.lo).map V.bl/\ys.length=i/\H' D3=some (.lst ys)/\aE H5 H') ⟨⟨none,none,none,rfl⟩,rfl,rfl,ae,ag yo _⟩ ?_ ?_ ?_ ?_ ?_
   ·rintro i σ ys H' _ ⟨_,_,hi,h,_⟩;exact⟨h,S0 hi⟩
   ·rintro i σ ys H' _ ⟨_,_,_,_,sm⟩;exact bc.of (sm _ _ Mq.lst)
   ·rw[hla];exact R4 hn2 (by decide)
   ·rintro i v σ ys H' hv ⟨⟨o1,o2,o3,rfl⟩,rfl,hi,h,sm⟩;obtain⟨b',k',rfl,ek,hh,p,hk1,hk2,hk3⟩:=Mq.get hv;refine⟨b',_,rfl,aP.of (sm _ _ hk1),rfl,_,_,rfl,aj ⟨_,_,rfl,aj ⟨_,_,rfl,aj ⟨rfl,?_⟩⟩⟩⟩;refine⟨_,rfl,h,⟨_,_,_,rfl⟩,?_,?_,ae,a_ yo sm⟩
    ·rw[take_one ek,R9,R9];rfl
    ·rw[R8,hi];rfl
   ·rintro σ ys H' ⟨_,rfl,_,h,sm⟩;rw[hla,SR]at h;refine⟨D3,_,rfl,bc.of h,cM,fin _ H' sm ?_⟩;rw[Sn.mpr e,Bool.false_or,List.any_map];rfl
end My
namespace L2
open PySem PySem.Spec PyProof.Rows
section
variable{X:Cx}{tg e:Expr}
theorem PG.yi{g:TG}(h:PG X.yi tg g):PG X tg g:=λac s σ H v u Q I r hw =>
 Sz (h ac s σ H v u Q (I.wish _) r hw) (λ_ _ ⟨σ',H',I',q⟩=>⟨σ',H',I'.dq,q⟩) λ_ _ z=>SS z
theorem iB.yi{ifs:List Expr}{t:TT}(h:iB X.yi ifs t):iB X ifs t:=λac s σ H Q I hw =>
 Sz (h ac s σ H Q (I.wish _) hw) (λ_ _ ⟨H',I',q⟩=>⟨H',I'.dq,q⟩) λ_ _ z=>SS z
end
section
variable{X:Cx}{elt target iter:Expr}{ifs:List Expr}{sc:Scope}{pos:Pos}{wi:TI}{g:TG}{tc:TT}{te:TE}{N':List Str}{src:List (Option Nat)}{E:XK}{L:Addr}
theorem wN{it acc:Value}{env:Env}{prog:Program}{w:World}{A:Around}{s:Shared}{R:Result->Shared->Prop}{F:Value->Shared->Prop}(hF:∀ev s',F ev s'->notedBy (model prog w) A env (λx s'=>R (.error x) s') ev s')(Iv:Nat->Shared->Prop)
  (turn:∀n s,Iv n s->wpAny (model prog w) A (pyNext it) (λr s₁=>match r with
   |none=>R (.ok .next) s₁
   |some v=>wpAny (model prog w) A (letOwnedTupleGo target it v) (λ_ s₁'=>wpAny (model prog w) A (assign target env v) (λ_ s₂ =>
     wpAny (model prog w) A (forIn ifs true λc r=>if r=true then do let ok←isTrue c env (eval c env);pure (ForInStep.yield ok)else pure (ForInStep.yield r)) (λok s₃ =>
      if ok=true then wpAny (model prog w) A (eval elt env) (λx s₄ =>
       wpAny (model prog w) A (call (.builtin "list.append") [acc,x]) (λ_ s₅=>∃m,m<n/\Iv m s₅) F s₄) F s₃
      else∃m,m<n/\Iv m s₃) F s₂) F s₁') F s₁) F s)
  (n:Nat) (h:Iv n s):codeAny (model prog w) A (.compLoop (.ListComp elt [⟨target,iter,ifs,0⟩] sc pos) 0 it acc env) R s:=by
 refine codeAny_loop rfl Iv (λn s hI=>?_) n h;show wpAny _ A ((compTurn (.ListComp elt [⟨target,iter,ifs,0⟩] sc pos) 0 it acc env).onRaise (λx=>do noteFrame x env;theTreesLotGoes x)) _ _ s;refine wpAny_noted ?_;rw[compTurn_list];refine Sz (E:=F) ?_ (λ_ _ z=>z) hF;refine RX (wpAny_standAt (RX (bO (turn n s hI) λr s₁ h₁=>?_)));cases r with
 |none=>exact RY h₁
 |some v =>
  refine RX (bO h₁ λ_ s₁' h₁'=>RX (bO h₁' λ_ s₂ h₂=>RX (bO h₂ λok s₃ h₃=>?_)));cases ok with
  |false=>exact RY ⟨rfl,h₃⟩
  |true=>exact RX (RX (bO h₃ λx s₄ h₄=>RX (bO h₄ λ_ s₅ h₅=>RY (RY ⟨rfl,h₅⟩))))
theorem vR{ac:List (Addr×Obj)}{σ:St}{H2:Hp}{s3:Shared}{fp:List Addr}{cl:List (Str×Addr)}{use:Option (Value->Sem Unit)}{QQ:Value->Shared->Prop}{acc:Value}{ev:Value}{s':Shared}(tp:Top X L)(I3:Inv X ac σ H2 s3)
  (f3:∀b∈fp,cQ X ac H2 b) (h:XE (az X N' sc cl s3.heap.objs.size s3 H2 fp) E ev s') :
  notedBy (model X.prog X.w) X.A (compEnvC sc cl s3.heap.objs.size X.env) (λx s''=>compPost (model X.prog X.w) X.A (XE X E) use QQ acc s3.heap.objs.size (.error x) s'') ev s':=by
 obtain⟨e,C,od,σ',H,rfl,I,f,hE⟩:=h;have Q4:Top (az X N' sc cl s3.heap.objs.size s3 H2 fp) L:=⟨tp.ex,tp.fr⟩;refine rD (X:=az X N' sc cl s3.heap.objs.size s3 H2 fp) I.ok.frames Q4 tp.fr I f λs5 T I5 f5=>?_;obtain⟨m6,n6,_⟩:=id I5.loc;have fin:∃m,s5.heap.Ns s3.heap.objs.size m/\∀h',Heap.SameBut s3.heap.objs.size s5.heap h'->∀cenv:Env,cenv.locals=s3.heap.objs.size->wpAny (model X.prog X.w) X.A (PySem.passOn "comprehension.variables-let-go" (.ref e) cenv:Sem Value) (λ_ _=>False) (XE X E) {s5 with heap:=h'}:=by
  refine⟨m6,n6,λh' sb cenv hcl=>?_⟩;have J:Inv X [] σ H s5:=(I3.call' I5.os I5.base I5.hok I5.bare λb hb=>⟨(f3 b hb).2.2.2.1,(f3 b hb).2.1,(f3 b hb).2.2.2.2.1,(f3 b hb).2.2.2.2.2⟩).gQ (pins':=[]) λp hp=>SJ hp (by simp);have fC:cQ X [] H s3.heap.objs.size:=by have z:=I3.lF (H':=H) (b:=s3.heap.objs.size) (R3 _) I5.free;exact⟨z.1,z.2.1,z.2.2.1,z.2.2.2.1,z.2.2.2.2.1,λp hp=>z.2.2.2.2.2 p (List.mem_append_left _ (by simpa using hp))⟩
  have J2:Inv X [] σ H {s5 with heap:=h'}:=J.turned (t':=s5.toks) (λb o hb z=>(sb.2 b hb).trans z) fC.1 fC.2.1 fC.2.2.2.1 fC.2.2.2.2.1 fC.2.2.2.2.2;obtain⟨vs,sl,g1,g2⟩:=f5.obj;obtain⟨oT,ts,t1,t2,t3⟩:=f5.tb.obj;have Jj:∀b,H b≠none->b≠s3.heap.objs.size:=λb hb z=>hb (by rw[z];exact I5.free);have neT:T≠s3.heap.objs.size:=λz=>by obtain⟨o,es,ep,ho,hd,_⟩:=n6;have ho':s5.heap.get? s3.heap.objs.size=some o:=ho;rw[z,ho']at t1;cases t1;rw[hd]at t2;cases t2
  have f6:oR X H h' e C od T:=⟨f5.at_,⟨vs,sl,(sb.2 e (Jj e (by rw[f5.at_];simp))).trans g1,g2⟩,f5.tb.free,R4 I3.sz f5.tb.new,λp hp z=>by have:=(I3.pin p (List.mem_append_left _ hp)).1;exact SJ (Sb (R0 this) f5.tb.new) (by rw[z];exact Nat.lt_irrefl _),oT,ts,(sb.2 T neT).trans t1,t2,t3⟩
  obtain⟨vs',sl',PZ,Jr⟩:=f6.obj;unfold PySem.passOn;refine RX (wpAny_field PZ rfl Jr ?_);have ne:¬((Value.ref T==Value.none)=true):=by simp
  rw[SK ne];have go:=ml (M:=model X.prog X.w) (A:=X.A) (E:=XE X E) (Q:=λ_ s7=>wpAny (model X.prog X.w) X.A (throw (.ref e):Sem Value) (λ_ _=>False) (XE X E) s7) J2 f6 cenv.frame λs7 I7 f7=>wpAny_throw ⟨e,C,od,σ,H,rfl,I7,f7.Ox,hE⟩;first
   |exact RX go
   |exact RX (RY (RX go))
 cases use<;>exact fin
theorem uF{ac:List (Addr×Obj)}{σ:St}{H2:Hp}{s2:Shared}{it:Addr}{fp:List Addr}{tn:Nat->Heap->Prop}{J:It}{Q:VK}{E2:Value->Shared->Prop}{use:Option (Value->Sem Unit)}{QQ:Value->Shared->Prop}
  (hc:X.calm=true) (tp:Top X L) (S:ba X.env.scope X.N N' src sc)
  (hg:∀cl C s H fp,PG ((az X N' sc cl C s H fp).xs E) target g) (ht:∀cl C s H fp,iB ((az X N' sc cl C s H fp).xs E) ifs tc) (he:∀cl C s H fp,PE ((az X N' sc cl C s H fp).xs E) elt te)
  (I2:Inv X ac σ H2 s2) (T:Turn X.prog X.w X.K target J fp it tn) (st2:tn 0 s2.heap) (f2:∀b∈fp,cQ X ac H2 b)
  (hW:∀D,H2 D=none->∃W:Nat->Nat->St->List V->Hp->Prop,(∃m,W 0 m (iT src σ) [] (upd H2 D (.lst [])))/\ny J g tc te D Q W)
  (hRR:∀D C s5 H' m,Inv X ac σ H' s5->s5.heap.Ns C m->cQ X ac H' C->Q (.ref D) H'->compPost (model X.prog X.w) X.A (XE X E) use QQ (.ref D) C (.ok .next) s5) :
  wpAny (model X.prog X.w) X.A (newList []) (λacc s₃=>wpAny (model X.prog X.w) X.A (newFunctionEnv sc X.env.globals (bt X.env.cells sc.names []) [] X.env.qual none .none (some X.env)) (λcenv s₄ =>
   codeAny (model X.prog X.w) X.A (.compStart (.ListComp elt [⟨target,iter,ifs,0⟩] sc pos) 0 (.ref it) acc {cenv with scope:=relabel sc X.env}) (compPost (model X.prog X.w) X.A (XE X E) use QQ acc cenv.locals) s₄) E2 s₃) E2 s2:=by
 have o2:∀b∈fp,b<s2.heap.objs.size:=λb hb=>by obtain⟨o,z,_⟩:=T.obj 0 _ st2 b hb;exact R0 z
 refine SD ?_;have E9:H2 s2.heap.objs.size=none:=I2.hok.fresh (R3 _);obtain⟨W,⟨m0,w0⟩,turn⟩:=hW s2.heap.objs.size E9;have I3:Inv X ac σ (upd H2 s2.heap.objs.size (.lst [])) {s2 with heap:=s2.heap.push {cls:=.type "list",dict:=none,data:=.seq ([]:List Value).toArray}} :=
  I2.laid (t':=s2.toks) (λb u z=>RZ _ z) (R3 _) ⟨Sr _,[],0,.nil,R1 _ rfl⟩
 have st3:tn 0 (s2.heap.push {cls:=.type "list",dict:=none,data:=.seq ([]:List Value).toArray}):=T.keep 0 _ _ st2 λb hb o z=>RZ _ z;generalize hs3:({s2 with heap:=s2.heap.push {cls:=.type "list",dict:=none,data:=.seq ([]:List Value).toArray}}:Shared)=s3 at I3;have hh3:s3.heap=s2.heap.push {cls:=.type "list",dict:=none,data:=.seq ([]:List Value).toArray}:=by rw[←hs3]
 have Af:s2.heap.objs.size<s3.heap.objs.size:=by rw[hh3,Heap.size_push];exact Nat.lt_succ_self _
 have o3:∀b∈fp,b<s3.heap.objs.size:=λb hb=>Nat.lt_trans (o2 b hb) Af;have f3:∀b∈fp,cQ X ac (upd H2 s2.heap.objs.size (.lst [])) b:=λb hb=>⟨by rw[aH (Sq (o2 b hb))];exact(f2 b hb).1,(f2 b hb).2⟩;rw[←hh3]at st3;refine wpAny_newFunctionEnv S.my (by intro y hy;simp at hy) (λh1 hns hsb=>?_) S.kind;have hsb':Heap.SameBut s3.heap.objs.size (s3.heap.push {cls:=.type "dict",data:=.dict #[]}) h1:=hsb;generalize hY:az X N' sc (bt X.env.cells sc.names []) s3.heap.objs.size s3 (upd H2 s2.heap.objs.size (.lst [])) fp=Y;have I4:Inv Y [] (iT src σ) (upd H2 s2.heap.objs.size (.lst [])) {s3 with heap:=h1,toks:=s3.toks+([]:List (Str×Value)).length}:=by rw[←hY];exact gk S I3 f3 o3 hns hsb'
 have xq:tn 0 h1:=T.keep 0 _ _ st3 λb hb o z=>(hsb'.2 b (Sq (o3 b hb))).trans (RZ _ z);have fC:∀(H':Hp),H' s3.heap.objs.size=none->cQ X ac H' s3.heap.objs.size:=λH' hn=>I3.lF (R3 _) hn;have loop:codeAny (model X.prog X.w) X.A (.compLoop (.ListComp elt [⟨target,iter,ifs,0⟩] sc pos) 0 (.ref it) (.ref s2.heap.objs.size) (compEnvC sc (bt X.env.cells sc.names []) s3.heap.objs.size X.env))
   (compPost (model X.prog X.w) X.A (XE X E) use QQ (.ref s2.heap.objs.size) s3.heap.objs.size) {s3 with heap:=h1,toks:=s3.toks+([]:List (Str×Value)).length}:=by
  have stat:∀{H':Hp},(∀b∈fp,H' b=none)->∀b∈fp,cQ (Y.xs E) [] H' b:=λhn b hb=>by have z:=I4.ok;subst hY;exact⟨hn b hb,(z.Ac b hb).1,z.rO b hb,.inl hb,(z.Ac b hb).2,λp hp=>SJ (show p∈([]:List (Addr×Obj)) from hp) (by simp)⟩
  have M_:=hg (bt X.env.cells sc.names []) s3.heap.objs.size s3 (upd H2 s2.heap.objs.size (.lst [])) fp;have htY:=ht (bt X.env.cells sc.names []) s3.heap.objs.size s3 (upd H2 s2.heap.objs.size (.lst [])) fp;have MS:=he (bt X.env.cells sc.names []) s3.heap.objs.size s3 (upd H2 s2.heap.objs.size (.lst [])) fp;refine wN (F:=XE Y E) (λev s' hx=>by subst hY;exact vR tp I3 f3 hx) (λn s'=>∃i σ' ys H',Inv (Y.xs E) [] σ' H' s'/\tn i s'.heap/\(∀b∈fp,H' b=none)/\W i n σ' ys H') ?_ m0
   ⟨0,_,[],_,I4.wish _,xq,λb hb=>(f3 b hb).1,w0⟩
  rintro n s5 ⟨i,lW,ys,H5,I5,qo,sH,w5⟩;obtain⟨hD,alt⟩:=turn i n lW ys H5 w5;subst hY;rcases alt with⟨stop,qn⟩|⟨go,hsz,N,hN,step⟩
  ·refine bO (T.done ((az X N' sc (bt X.env.cells sc.names []) s3.heap.objs.size s3 (upd H2 s2.heap.objs.size (.lst [])) fp).xs E) rfl rfl rfl hc i [] s5 lW H5 _ I5 (stat sH) qo stop) λr s6 zz=>?_;obtain⟨hr,I6⟩:=zz;subst hr;obtain⟨m6,n6,_⟩:=id I6.loc;exact hRR _ _ s6 H5 m6 (I3.call' I6.os I6.base I6.hok I6.bare λb hb=>⟨(f3 b hb).2.2.2.1,(f3 b hb).2.1,(f3 b hb).2.2.2.2.1,(f3 b hb).2.2.2.2.2⟩) n6 (fC _ I6.free) qn
  ·refine bO (T.item ((az X N' sc (bt X.env.cells sc.names []) s3.heap.objs.size s3 (upd H2 s2.heap.objs.size (.lst [])) fp).xs E) rfl rfl rfl hc i [] s5 lW H5 _ I5 (stat sH) qo go) λr s6 zz=>?_;obtain⟨u,hr,h6⟩:=zz;subst hr;refine bO h6 λ_ s7 zz=>?_;obtain⟨x,H7,I7,r7,y7,pN,CW⟩:=zz;have AG:=I7.pinned (stat CW) (T.obj _ _ pN);refine bO (M_ _ s7 lW H7 x u _ AG r7 (step x H7 y7)) λ_ s8 zz=>?_;obtain⟨p6,H8,I8,q8⟩:=zz;refine bO (htY _ s8 p6 H8 _ I8 q8) λb s9 zz=>?_;obtain⟨H9,I9,q9⟩:=zz;have again:∀{σ':St}{H':Hp}{s':Shared}{ys':List V}{m':Nat},Inv ((az X N' sc (bt X.env.cells sc.names []) s3.heap.objs.size s3 (upd H2 s2.heap.objs.size (.lst [])) fp).xs E) ([]++iR fp s7.heap) σ' H' s'->m'<n->W (i+1) m' σ' ys' H'->
     ∃m,m<n/\∃i σ' ys H',Inv ((az X N' sc (bt X.env.cells sc.names []) s3.heap.objs.size s3 (upd H2 s2.heap.objs.size (.lst [])) fp).xs E) [] σ' H' s'/\tn i s'.heap/\(∀b∈fp,H' b=none)/\W i m σ' ys H':=λ{σ' H' s' ys' m'} I' hm w'=>by
    refine⟨m',hm,i+1,σ',ys',H',I'.fv,T.keep _ _ _ pN λb hb o z=>(I'.pin (b,o) (Se _ (Se _ (b9 hb z)))).1,λb hb=>?_,w'⟩;obtain⟨o,z,d⟩:=T.obj _ _ pN b hb;exact(I'.pin (b,o) (Se _ (Se _ (b9 hb z)))).2.1
   cases b with
   |false =>rw[SK Sh]at q9⊢;obtain⟨m',hm,w'⟩:=hN _ _ _ q9;exact again I9 hm w'
   |true =>rw[SM rfl]at q9⊢;refine bO (MS _ s9 p6 H9 _ I9 q9) λxv p7 zz=>?_;obtain⟨v,xr,Iw,r10,Ba,w10⟩:=zz;obtain⟨m',hm,w'⟩:=hN _ _ _ w10;have IF:nY (.ref s2.heap.objs.size) [v] xr λ_ H'=>H'=upd xr s2.heap.objs.size (.lst (ys++[v])):=⟨_,ys,v,rfl,rfl,Ba,hsz,rfl⟩;refine bO (cj _ p7 p6 xr _ _ _ _ _ Iw (show RelV (.ref s2.heap.objs.size) (.ref s2.heap.objs.size) from rfl) (.cons r10 .nil) IF) λ_ Nl zz=>?_;obtain⟨_,Nz,Dp,_,K6⟩:=zz;rw[K6]at Dp;exact again Dp hm w'
 exact codeAny_compStart_list loop (T.self _ 0 _ _ _ xq loop)
theorem z8(hc:X.calm=true)(tp:Top X L)(S:ba X.env.scope X.N N' src sc)(hi:PI (X.xs E) target iter wi)
  (hg:∀cl C s H fp,PG ((az X N' sc cl C s H fp).xs E) target g) (ht:∀cl C s H fp,iB ((az X N' sc cl C s H fp).xs E) ifs tc) (he:∀cl C s H fp,PE ((az X N' sc cl C s H fp).xs E) elt te)
  (hs:∀x,foldedSetIterable iter X.env x=pure x:=by intro _;rfl) :
  PE (X.xs E) (.ListComp elt [⟨target,iter,ifs,0⟩] sc pos) (AE src wi g tc te):=by
 intro ac s σ H Q I h;rw[eval_ListComp];refine wpAny_comprehension_free (use:=none) rfl hs (cw λy hy hk=>I.ok.has y.1 (S.free y hy hk)) S.kind (λy hy hl=>by rw[←hl];exact S.uniq y hy) ?_;refine bO (hi ac s σ H _ I h) λv s1 h1=>bO h1 λitv s2 h2=>?_;obtain⟨it,fp,tn,J,H2,z,I2,T,st2,f2,hW⟩:=h2;subst z;refine uF (Q:=Q) (QQ:=EP (X.xs E) ac σ Q) (use:=none) hc tp S hg ht he I2.dq T st2 f2 hW ?_;intro D C s5 H' m I5 n5 fC q;refine⟨m,n5,λh' sb=>⟨.ref D,H',?_,rfl,q⟩⟩;exact(I5.turned (t':=s5.toks) (λb o hb z=>(sb.2 b hb).trans z) fC.1 fC.2.1 fC.2.2.2.1 fC.2.2.2.2.1 fC.2.2.2.2.2).wish _
end
abbrev Jo(t:Addr):Array Value:=#[.ref t,.none,.none,.none,.bool false,.none]
abbrev xF(a C:Addr)(od:Option Addr):HO:=.ext λh=>∃t sl,h.get? a=some {cls:=.ref C,dict:=od,data:=.fields (Jo t),slots:=sl}
section
variable{P:Program}{w:World}{H:Hp}{h h':Heap}{a C d:Addr}{od:Option Addr}{fs:List (Str×V)}{o:HO}
theorem Gi{tt:Addr}{sl:Array (Option Value)}(e:h.get? a=some {cls:=.ref C,dict:=od,data:=.fields (Jo tt),slots:=sl}):cf P w H h a (xF a C od) :=
 ⟨⟨tt,sl,e⟩,⟨_,e⟩,λ_ _ ⟨tt,sl,e⟩ k=>⟨tt,sl,k _ e⟩⟩
end
section
variable{X:Cx}{ac:List (Addr×Obj)}{σ:St}{H:Hp}{s:Shared}{a C dx:Addr}{fs:List (Str×V)}{f:Str}{v y:V}{u:Value}{A:Around}{E:Value->Shared->Prop}
theorem Hf{Q:Unit->Shared->Prop}(I:Inv X ac σ H s)(e:H a=some (xF a C (some dx)))(ed:H dx=some (xD dx fs))(c:tM X.K C)(n:kN X.K C f)(hz:fs.length<1000)(ry:RelV y u)
  (h:∀s',Inv X ac σ (upd H dx (xD dx (nM f y fs))) s'->Q () s'):wpAny (model X.prog X.w) A (setAttr (.ref a) f u) Q E s:=by
 obtain⟨⟨tt,sl,ha⟩,_⟩:=I.hok a _ e;obtain⟨⟨mA,ns,r⟩,_⟩:=I.hok dx _ ed;obtain⟨od,ho,hl⟩:=qW ns;have J:PySem.W.InstAt s.heap a {cls:=.ref C,dict:=some dx,data:=.fields (Jo tt),slots:=sl} C (some od):=⟨ha,rfl,rfl,ho⟩;have wi:=qL r;have Qo:(fs.map (·.1)).length+1<=sizeLine:=by rw[R7,sizeLine_eq];omega
 obtain⟨cd,PE,hc,_,hd'⟩:=c.cls;refine PySem.W.set_plain I.kH J c.sa (qF (s:={s with toks:=s.toks+1}) c I.kH J n λb=>?_);refine RX (RY (RX (RX (wpAny_loadPart ha (RX (PySem.W.Looks.here (s:={s with toks:=s.toks+1}) (PySem.W.looks_clsIn I.kH hc) ?_))))));rw[hd'];refine RY (a:=some dx) (RX (RY (RX ?_)));refine wpAny_nsSet1 (s:={s with toks:=s.toks+1}) ns λh' hn2 hs2=>?_;obtain⟨oD,esD,epD,hoD,hdD,hcD⟩:=hn2.count (PySem.Within.cons f u wi);refine RX (wpAny_lookBehind hoD (by rw[hdD];exact pastItsLine_dict (R4 hcD (by rw[SG];exact Nat.le_succ_of_le Qo))) ?_);refine RY (h _ ?_);refine I.write (x:=dx) (e:=dx) (by rw[ed];exact True.intro) (.inl rfl) (λb q hb z=>(hs2.2 b hb).trans z) ⟨_,hoD⟩ (Bg hn2 λg=>?_);show i9 ((nM f y fs).lookup g) (if g=f then some u else mA g);rw[jm];by_cases q:g=f
 ·rw[SM q,SM q];exact ry
 ·rw[SK q,SK q];exact r g
theorem Iu{Q:Unit->Shared->Prop}(I:Inv X ac σ H s)(e:H a=some (xF a C none))(c:tM X.K C)(n:kN X.K C f)(ry:RelV y u)
  (h:∀dx s',H dx=none->Inv X ac σ (upd (upd (upd H dx (xD dx [])) a (xF a C (some dx))) dx (xD dx (nM f y []))) s'->Q () s'):wpAny (model X.prog X.w) A (setAttr (.ref a) f u) Q E s:=by
 obtain⟨⟨tt,sl,ha⟩,_⟩:=I.hok a _ e;have J:PySem.W.InstAt s.heap a {cls:=.ref C,dict:=none,data:=.fields (Jo tt),slots:=sl} C none:=⟨ha,rfl,rfl,True.intro⟩;obtain⟨cd,PE,hc,_,hd'⟩:=c.cls;refine PySem.W.set_plain I.kH J c.sa (qF (s:={s with toks:=s.toks+1}) c I.kH J n λb=>?_);refine RX (RY (RX (RX (wpAny_loadPart ha (RX (PySem.W.Looks.here (s:={s with toks:=s.toks+1}) (PySem.W.looks_clsIn I.kH hc) ?_))))));rw[hd'];have na:a≠s.heap.objs.size:=Sq (R0 ha);have fr:H s.heap.objs.size=none:=I.hok.fresh (R3 _);have hgd:(s.heap.push {cls:=.type "dict",data:=.dict #[]}).get? s.heap.objs.size=some {cls:=.type "dict",data:=.dict #[]}:=R1 _ rfl;have hn0:(s.heap.push {cls:=.type "dict",data:=.dict #[]}).Ns1 s.heap.objs.size (λ_=>none):=Heap.Ns1.of_empty ⟨_,#[],_,hgd,rfl,λe he=>SJ he (by simp),λ_=>rfl⟩;have I1:Inv X ac σ (upd H s.heap.objs.size (xD s.heap.objs.size [])) {s with heap:=s.heap.push {cls:=.type "dict",data:=.dict #[]},toks:=s.toks+1} :=
  I.laid (λb u q=>RZ _ q) (R3 _) (Bg hn0 λg=>True.intro)
 have ha1:(s.heap.push {cls:=.type "dict",data:=.dict #[]}).get? a=some {cls:=.ref C,dict:=none,data:=.fields (Jo tt),slots:=sl}:=RZ _ ha;refine RX (wpAny_alloc' ?_);refine RX (wpAny_update' ha1 ?_);have ha2:((s.heap.push {cls:=.type "dict",data:=.dict #[]}).update a λo=>{cls:=o.cls,dict:=some s.heap.objs.size,data:=o.data,slots:=o.slots}).get? a=some {cls:=.ref C,dict:=some s.heap.objs.size,data:=.fields (Jo tt),slots:=sl}:=Heap.get?_update_self _ ha1 rfl;have I2:Inv X ac σ (upd (upd H s.heap.objs.size (xD s.heap.objs.size [])) a (xF a C (some s.heap.objs.size))) {s with heap:=(s.heap.push {cls:=.type "dict",data:=.dict #[]}).update a λo=>{cls:=o.cls,dict:=some s.heap.objs.size,data:=o.data,slots:=o.slots},toks:=s.toks+1} :=
  I1.write (x:=a) (e:=a) (by rw[aH na,e];exact True.intro) (.inl rfl) (λb q hb z=>(Heap.get?_update_ne _ _ _ _ hb).trans z) ⟨_,ha2⟩ (Gi ha2)
 have hd2:=I2.hok s.heap.objs.size (xD s.heap.objs.size []) (by rw[aH (Ne.symm na)];exact ae);obtain⟨⟨mA,ns,r⟩,_⟩:=hd2;refine RY (RX (RY (RX ?_)));refine wpAny_nsSet1 (s:={s with heap:=(s.heap.push {cls:=.type "dict",data:=.dict #[]}).update a λo=>{cls:=o.cls,dict:=some s.heap.objs.size,data:=o.data,slots:=o.slots},toks:=s.toks+1}) ns λh' hn2 hs2=>?_;obtain⟨oD,esD,epD,hoD,hdD,hcD⟩:=hn2.count (PySem.Within.cons f u (qL r));refine RX (wpAny_lookBehind hoD (by rw[hdD];exact pastItsLine_dict (R4 hcD (by show 1<=sizeLine+1;exact Nat.succ_le_succ (Sr _)))) ?_);refine RY (h s.heap.objs.size _ fr ?_);refine I2.write (x:=s.heap.objs.size) (e:=s.heap.objs.size) (by rw[aH (Ne.symm na),ae];exact True.intro) (.inl rfl) (λb q hb z=>(hs2.2 b hb).trans z) ⟨_,hoD⟩ (Bg hn2 λg=>?_);show i9 ((nM f y []).lookup g) (if g=f then some u else mA g);rw[jm];by_cases q:g=f
 ·rw[SM q,SM q];exact ry
 ·rw[SK q,SK q];exact r g
end
section
variable{X:Cx}{CX:qm}{k:Nat}{f C:Addr}{fd:FuncData}{ps:List Str}{sp:Sp}{E:XK}{x:Str}{p pos:Pos}{e:Expr}{es:List Expr}{t:TA}
theorem Inv.Kg{ac:List (Addr×Obj)}{σ:St}{H:Hp}{s:Shared}{h':Heap}{a:Addr}{rest:List Value}(I:Inv X ac σ H s)(m:Heap.MadeExcOf s.heap h' a (.ref C) rest):H a=none/\Inv X ac σ (upd H a (xF a C none)) {s with heap:=h'}:=by obtain⟨t,et,_,_⟩:=m.there;have hn:=I.hok.none_of m.new;exact⟨hn,I.un (t':=s.toks) (Un.laidN m.keeps m.new hn) (I.hok.laidN m.keeps m.new (Gi et))⟩
def Lk(C:Addr)(sp:Sp)(E:XK)(t:TA):TE:=λσ H Q=>t σ H λvs H1=>vs.length<=sizeLine/\∀a,H1 a=none->sp (.ref a::vs) (upd H1 a (xF a C none)) (λv H2=>v=.non/\Q (.ref a) H2) E
theorem D7(hx:iQ X.K C rq "ValueError.__new__" (some (.ref f))=true)(hk:PySem.W.keepIn X.K (.ref C)=true)(hf:PySem.W.isFn X.K (.ref f)=true)(F:e8 X.prog X.w X.K X.mg X.base CX k f fd ps sp)(hr:eW (k+1) X.A)(hg:Gl X x)(hm:X.mg x=some (.ref C))
  (hb:Binds X.K fd ps []) (hpx:Passes CX X E) (ha:PA X (e::es) t)
  (hdb:(x==("__debug__" : Str))=false:=by decide) (he:starEach (e::es) X.env=(false,eval e X.env)::starEach es X.env:=by rfl) (hpl:(backTo pos (starEach es X.env)).any (·.1)=false:=by rfl) :
  PE X (.Call (.Name x p) (e::es) [] pos) (Lk C sp E t):=by
 intro ac s σ H Q I h;refine wpAny_Call_Name_kw (n9 I hg hm ?_ hdb);refine PySem.W.callWith_K (h₀:=X.base) I.ok.mod.Ho hk (bO (ha pos ac s σ H _ I h) λus s1 ⟨vs,H1,I1,r,hz,q⟩=>⟨I1.kH,?_⟩) he hpl;obtain⟨bm,N,nm,q',bs,hd,sn,sub,ab,col,dd,k0,k1,k2,k3,k5,mN,hC,hN,hni,T⟩:=mG I1.kH hx;have hfn:∃oI,s1.heap.get? f=some oI/\oI.cls=.type "function":=by have z:PySem.W.typeIn X.K (.ref f)=some (.type "function"):=beq_iff_eq.mp hf;obtain⟨o,ho,hc⟩:=Option.map_eq_some_iff.mp (show(X.K.lookup f).map (·.cls)=some _ from z);exact⟨o,I1.kH _ _ ho,hc⟩
 obtain⟨oI,hfI,hfc⟩:=hfn;obtain⟨hp,gs,dr,tk,os⟩:=s1;refine oX PySem.F.excBase_ValueError T hC hN hni hfI hfc (λh' a m=>?_) (by show us.length<=sizeLine;rw[←r.length];exact hz);obtain⟨hn,I2⟩:=I1.Kg m;have hq:=q a hn;have r2:Vals (V.ref a::vs) (Value.ref a::us):=.cons rfl r;have hl:(Value.ref a::us).length=ps.length:=by rw[←r2.length];exact F.len _ _ _ _ hq
 have hl':((Value.ref a::us)++([]:List Value)).length=ps.length:=by rw[SX];exact hl
 have hb':=hb _ (Value.ref a::us) I2.kH hl';rw[SX]at hb';refine wpAny_call (codeAny_mono (F.run _ X.stack _ _ ⟨Value.ref a::us,[]⟩ (Value.ref a::us) _ _ E (hr.make C us []) (I2.env0.make C us []) hb' r2 hq) λr s' hq'=>?_);cases r with
 |error ee=>exact hpx ac σ _ _ ee s' I2 hq'
 |ok fl =>
  cases fl with
  |ret u =>obtain⟨v,H',I3,rv,ev,q3⟩:=I2.after hq';subst ev;exact⟨rv,⟨V.ref a,H',I3,rfl,q3⟩⟩
  |next=>exact SS hq'
  |brk=>exact SS hq'
  |cont=>exact SS hq'
end
section
variable{X:Cx}{o value:Expr}{ta tv:TE}{f:Str}{pos pos':Pos}
def HE(K:S7)(ta tv:TE)(f:Str):TS:=λD σ H=>tv σ H λy H1=>ta σ H1 λx H2=>∃a C,x=.ref a/\tM K C/\kN K C f/\
 ((H2 a=some (xF a C none)/\∀dx,H2 dx=none->D.nx σ (upd (upd (upd H2 dx (xD dx [])) a (xF a C (some dx))) dx (xD dx (nM f y []))))\/
  ∃dx fs,H2 a=some (xF a C (some dx))/\H2 dx=some (xD dx fs)/\fs.length<1000/\D.nx σ (upd H2 dx (xD dx (nM f y fs))))
theorem uB(ha:PE X o ta)(hv:PE X value tv)(hs:swapsWith value (some (.Attribute o f pos')) pos.line X.env=pure false):PS X (.Assign [.Attribute o f pos'] value pos) (HE X.K ta tv f):=by
 intro ac s σ H D I h;refine plainObj_wpAny_Assign_Attribute (bO (hv ac s σ H _ I h) λu s1 ⟨y,H1,I1,ry,q⟩=>bO (ha ac s1 σ H1 _ I1 q) λov s2 zz=>?_) hs;obtain⟨x,H2,I2,rx,a,C,ex,c,n,q2⟩:=zz;subst ex;obtain rfl:ov=Value.ref a:=rx;rcases q2 with⟨ea,q3⟩|⟨dx,fs,ea,ed,l,q3⟩
 ·exact Iu I2 ea c n ry λdx s3 hn I3=>⟨σ,_,I3,q3 dx hn⟩
 ·exact Hf I2 ea ed c n l ry λs3 I3=>⟨σ,_,I3,q3⟩
end
end L2
namespace PySem
section
variable{M:Model}{A:Around}{E:Value->Shared->Prop}{env:Env}
variable{nm q:Str}{C N:Addr}{bs bm:List Value}{hdct:Bool}{sn:List Str}{sub:List Value}{ab:Bool}{col:Option Bool}{dd:Option Addr}{k0 k1 k2 k3 k5:Option Value}{newId:String}
theorem uc{s:Shared}{x:Sem Value}{Q:Flow->Shared->Prop}(hbase:bm.contains (.type "BaseException")=true)(hh:A.handled=none)
  (h:wpAny M A x (λv s₁=>∃e t od sl,v=.ref e/\s₁.heap.get? C=some (excClassObj nm q C N bs bm hdct sn sub ab col dd k0 k1 k2 k3 k5 newId)/\
   s₁.heap.get? e=some {cls:=.ref C,dict:=od,data:=.fields #[.ref t,.none,.none,.none,.bool false,.none],slots:=sl}/\E (.ref e) s₁) E s) :
  wpAny M A (raiseStmt env (some x) none) Q E s:=by
 have hcB:(Value.ref C::bm).contains (.type "BaseException")=true:=by rw[List.contains_cons,hbase,Bool.or_true]
 unfold raiseStmt;refine RX (Sz h (λv s₁ h₁=>?_) λ_ _ x=>x);obtain⟨e,t,od,sl,rfl,hC,he,hE⟩:=h₁;obtain⟨hp,g,d,tk,os⟩:=s₁;repeat (first|with_reducible refine wpAny_loadPart_at he ?_|with_reducible refine wpAny_loadPart_at hC ?_ | (with_reducible refine wpAny_isSubtype_exc hC ?_;rw[hcB])|wp_step)
 exact wpAny_raiseNew_none hh hE
end
end PySem
namespace L2
open PySem PySem.Spec PyProof.Rows
def E1(C:Addr)(E:XK)(te:TE):TS:=λ_ σ H=>te σ H λv H1=>∃a od,v=.ref a/\H1 a=some (xF a C od)/\E (.ref C) (some a) (upd H1 a (xO a C od))
theorem yP{X:Cx}{E:XK}{C:Addr}{pos:Pos}{e:Expr}{te:TE}{ini:Option Value}(hc:X.calm=true)(hx:iQ X.K C rq "ValueError.__new__" ini=true)(he:PE (X.xs E) e te) :
  PS (X.xs E) (.Raise (some e) none pos) (E1 C E te):=by
 intro ac s σ H D I h;obtain⟨bm,N,nm,q',bs,hd,sn,sub,ab,col,dd,k0,k1,k2,k3,k5,mN,hC,hN,hni,T⟩:=mG I.ok.mod.Ho hx;rw[arm_exec_Raise];show wpAny _ _ (do standAt pos;raiseStmt X.env (some (do let v←eval e X.env;standAt pos;pure v)) none) _ _ s;refine RX (wpAny_standAt (uc (C:=C) (nm:=nm) (q:=q') (N:=N) (bs:=bs) (bm:=bm) (hdct:=hd) (sn:=sn) (sub:=sub) (ab:=ab) (col:=col) (dd:=dd) (k0:=k0) (k1:=k1) (k2:=k2) (k3:=k3) (k5:=k5) (newId:="ValueError.__new__") (T.hasType PySem.F.excBase_ValueError.hasBase) (I.ok.hd hc) ?_));refine RX (bO (he ac s σ H _ I h) λu s1 ⟨v,H1,I1,rv,a,od,ev,ea,q⟩=>RX (wpAny_standAt (RY ?_)));subst ev;cases rv;obtain⟨⟨tt,sl,ha⟩,_⟩:=I1.hok a _ ea;refine⟨a,tt,od,sl,rfl,I1.bk _ _ hC,ha,?_⟩;have I2:=(I1.gQ (pins':=[]) λp hp=>SJ hp (by simp)).dq;have I3:Inv X [] σ (upd H1 a (xO a C od)) s1:=by have:=I2.write (x:=a) (e:=a) (h':=s1.heap) (t':=s1.toks) (o:=xO a C od) (by rw[ea];exact True.intro) (.inl rfl) (λb q hb z=>z) ⟨_,ha⟩ (CT ha);exact this
 exact⟨a,C,od,σ,upd H1 a (xO a C od),rfl,I3,⟨ae,_,_,ha,.inl rfl⟩,q⟩
end L2
namespace My
open PySem L2
structure Fl where
 o:Bool
 j:Bool
 f:Bool
 w:Bool
 l:Bool
def pO(s:Str):Bool:=!bZ s
def pJ(s:Str):Bool:=decide (s="walk")||decide (s="both")||decide (s="meet")
def pF(s:Str):Bool:=decide (s="first")
def pW(s:Str):Bool:=decide (s="walk")
def flagsOf(ps:List Str)(l:Bool):Fl:=⟨ps.any pO,ps.any pJ,ps.any pF,ps.any pW,l⟩
def Kn.fl(k:Kn):Fl:=flagsOf k.ps k.lo
def looseW:Wk->Hd->Fl->Bool
 | .one (.keep c _),h,_=>decide (bD h c="t")
 | .one (.first n),_,f=>decide (¬n<=0)&&f.j
 | .meet ..,_,f=>f.w||f.f
 |_,_,_=>false
def CG:Wk->Fl->Bool
 | .one (.walk _ _),f=>!f.o
 | .meet _ _ p q,_=>(p++q).all λw=>bZ w.nm
 |_,_=>true
def oP(x:Wk)(f:Fl)(hs:List Hd):Option Str :=
 if eG x hs=true then
  if bR x hs=true then
   if(bh x hs).length<=6 then
    if CG x f=true then
     if(fF x&&f.l)=true then some "loose" else none
    else some "rows"
   else some "wide"
  else some "sort"
 else some "column"
theorem any_eq(ps:List Str)(s:Str):ps.any (λt=>decide (t=s))=lu ps s:=by
 apply Bool.eq_iff_iff.mpr;rw[Dv,List.any_eq_true];constructor
 ·rintro⟨t,h,e⟩;rw[←SI e];exact h
 ·intro h;exact⟨s,h,R6 rfl⟩
theorem C3(ps:List Str)(p q:Str->Bool):ps.any (λs=>p s||q s)=(ps.any p||ps.any q):=by
 induction ps with
 |nil=>rfl
 |cons a ps ih=>rw[S4,S4,S4,ih];cases p a<;>cases q a<;>simp
theorem Gr(ps:List Str):ps.any pJ=(lu ps "walk"||lu ps "both"||lu ps "meet"):=by unfold pJ;rw[C3 ps (λs=>decide (s="walk")||decide (s="both")) (λs=>decide (s="meet")),C3,any_eq,any_eq,any_eq]
theorem An(x:Wk)(k:Kn):fc x k=looseW x k.hd k.fl:=by
 have e1:=Gr k.ps;have e2:k.ps.any pF=lu k.ps "first":=any_eq _ _;have e3:k.ps.any pW=lu k.ps "walk":=any_eq _ _;cases x with
 |one x =>
  cases x<;>try rfl
  show(decide _&&(lu k.ps "walk"||lu k.ps "both"||lu k.ps "meet"))=(decide _&&k.ps.any pJ);rw[e1]
 |both p q=>rfl
 |meet c d p q =>show(lu k.ps "walk"||lu k.ps "first")=(k.ps.any pW||k.ps.any pF);rw[e2,e3]
theorem D0(x:Wk)(k:Kn):ke x k.ps=CG x k.fl:=by
 cases x with
 |one x =>
  cases x<;>try rfl
  show k.ps.all bZ = !(k.ps.any pO);rw[List.not_any_eq_all_not];congr 1;funext s;show _ = !(!bZ s);rw[Bool.not_not]
 |both p q=>rfl
 |meet c d p q=>rfl
theorem IL(x:Wk)(k:Kn)(hs:List Hd):rA x k hs=oP x k.fl hs:=by unfold rA oP;rw[D0];rfl
def xl(x:Wk)(h:Hd)(f:Fl)(fs:List Fl):Fl:=⟨fs.any (λg=>g.o)||pO (aJ x),fs.any (λg=>g.j)||pJ (aJ x),fs.any (λg=>g.f)||pF (aJ x),fs.any (λg=>g.w)||pW (aJ x),looseW x h f||fs.any λg=>g.l⟩
theorem Fm{a b:List Str}{p:Str->Bool}(h:∀s,s∈a↔s∈b):a.any p=b.any p:=by
 apply Bool.eq_iff_iff.mpr;rw[List.any_eq_true,List.any_eq_true];constructor
 ·rintro⟨t,m,e⟩;exact⟨t,(h t).mp m,e⟩
 ·rintro⟨t,m,e⟩;exact⟨t,(h t).mpr m,e⟩
theorem se(ks:List Kn)(x:Wk)(p:Str->Bool){ps:List Str}(h:BQ ps (ks.flatMap (λk=>k.ps)++[aJ x])):ps.any p=((ks.any λk=>k.ps.any p)||p (aJ x)):=by rw[Fm h.2,List.any_append,List.any_flatMap];simp
theorem F8{x:Wk}{k k':Kn}{ks:List Kn}(h:BQ k'.ps (ks.flatMap (λk=>k.ps)++[aJ x]))(hl:k'.lo=(fc x k||ks.any λk=>k.lo)):k'.fl=xl x k.hd k.fl (ks.map Kn.fl):=by unfold Kn.fl flagsOf xl;rw[se ks x pO h,se ks x pJ h,se ks x pF h,se ks x pW h,hl,An,List.any_map,List.any_map,List.any_map,List.any_map,List.any_map];rfl
inductive Res where
 |ok (h:Hd) (f:Fl)
 |no (p:List Int) (s:Str)
def pR(x:Wk)(h:Hd)(f:Fl)(pl:List Int)(es:List (Hd×Fl)):Res:=match oP x f (es.map λe=>e.1)with
 |some s=>.no pl s
 |none=>.ok (bh x (es.map λe=>e.1)) (xl x h f (es.map λe=>e.2))
def gW(r:Res)(g:Hd->Fl->Res):Res:=match r with
 | .ok h f=>g h f
 | .no a s=>.no a s
def putL(step:Hd->Fl->List Int->Wk->Res)(pl:List Int):Nat->Hd->Fl->List Wk->Res
 |_,h,f,[]=>.ok h f
 |i,h,f,x::ws=>gW (step h f (pl++[(i:Int)]) x) λh' f'=>putL step pl (i+1) h' f' ws
def BI(step:Hd->Fl->List Int->Wk->Res)(x:Wk)(h:Hd)(f:Fl)(pl:List Int):List (List Wk)->Nat->List (Hd×Fl)->Res
 |[],_,es=>pR x h f pl es
 |p::ps,j,es=>gW (putL step (pl++[(j:Int)]) 0 h f p) λh' f'=>BI step x h f pl ps (j+1) (es++[(h',f')])
def bY:Nat->Hd->Fl->List Int->Wk->Res
 | 0,h,f,pl,x=>pR x h f pl [(h,f)]
 |n+1,h,f,pl,x=>match x with
  | .one _=>pR x h f pl [(h,f)]
  |_=>BI (bY n) x h f pl (iD x) 0 []
def Cj:List Str:=["keep","same","cut","turn","must","walk","sort","apart","count","sum","number","first","both","meet","first 0"]
theorem C9(x:Wk):aJ x∈Cj:=by
 match x with
 | .one (.first n) =>show(if n<=0 then("first 0" : Str)else "first")∈Cj;split<;>decide +kernel
 | .one (.keep ..) | .one (.same ..) | .one (.cut ..) | .one (.turn ..) | .one (.must ..) | .one (.walk ..) | .one (.sort ..) | .one .apart | .one (.count ..) | .one (.sum ..) | .one .number | .both .. | .meet ..=>exact List.mem_of_elem_eq_true (by simp only[aJ,Wk.nm,W1.nm];decide +kernel)
theorem sub_len:∀{l m:List Str},l.Nodup->(∀s∈l,s∈m)->l.length<=m.length
 |[],m,_,_=>Sr _
 |a::l,m,hn,hs=>by
  rw[List.nodup_cons]at hn;have ha:a∈m:=hs a (by simp);have:=sub_len (l:=l) (m:=m.erase a) hn.2 λs h=>by
   have ne:s≠a:=by rintro rfl;exact hn.1 h
   exact(List.mem_erase_of_ne ne).mpr (hs s (by simp[h]))
  rw[List.length_erase_of_mem ha]at this;have hp:0<m.length:=List.length_pos_of_mem ha;rw[SG];omega
theorem Dx{x:Str}:¬JI x x:=λh=>List.lt_irrefl _ h
structure nK(k:Kn):Prop where
 hd:k.hd.length<=6
 nd:k.ps.Nodup
 sub:∀s∈k.ps,s∈Cj
theorem nK.few{k:Kn}(h:nK k):k.ps.length<=15:=sub_len h.nd h.sub
theorem nK.next{k':Kn}{ks:List Kn}{x:Wk}(hk:∀k∈ks,nK k)(hh:k'.hd.length<=6)(h:BQ k'.ps (ks.flatMap (λk=>k.ps)++[aJ x])):nK k':=by
 refine⟨hh,h.1.imp λ{a b} e z=>by subst z;exact Dx e,λs hs=>?_⟩;rcases So.mp ((h.2 s).mp hs)with z|z
 ·obtain⟨k,h1,h2⟩:=List.mem_flatMap.mp z;exact(hk k h1).sub s h2
 ·rw[Sk.mp z];exact C9 x
def inClass(s:Stmt)(i:Nat):Stmt:=match s with
 | .ClassDef _ _ _ body _ _ _ _ _ _ _=>body.getD i (.Pass ⟨0,0,0,0⟩)
 |_=>.Pass ⟨0,0,0,0⟩
abbrev mX:Stmt:=inClass (top 6) 0
theorem Ds:au ["self","place","why"] ["self","place","why"] (ao mX):=⟨rfl,rfl,rfl,by decide +kernel,rfl,by decide +kernel,by decide +kernel⟩
abbrev Hn(pl wy:V):List (Str×V):=nM "why" wy (nM "place" pl [])
def xW(K:S7)(C:Addr):Sp:=λvs H Q _=>∃a v1 v2,vs=[.ref a,v1,v2]/\H a=some (xF a C none)/\tM K C/\kN K C "place"/\kN K C "why"/\
 ∀dx H',H dx=none->(∀b o,b≠a->H b=some o->H' b=some o)->H' a=some (xF a C (some dx))->H' dx=some (xD dx (Hn v1 v2))->Q .non H'
structure J6(K:S7)(mg:Str->Option Value)(C fI:Addr):Prop where
 xc:tM K C
 np:kN K C "place"
 nr:kN K C "why"
 LC:iQ K C rq "ValueError.__new__" (some (.ref fI))=true
 kp:PySem.W.keepIn K (.ref C)=true
 fn:PySem.W.isFn K (.ref fI)=true
 mf:mg "NoPipe"=some (.ref C)
section
variable{P:Program}{w:World}{K:S7}{mg:Str->Option Value}{base:Heap}{f C:Addr}{fd:FuncData}
theorem AD(F:Ae K "__init__" "NoPipe.__init__" mX f fd):e8 P w K mg base bE 1 f fd ["self","place","why"] (xW K C):=by
 refine F.ok Ds (λvs H Q E h=>?_) (λcdv A outer s H vs Q E hr h=>?_)
 ·obtain⟨a,v1,v2,rfl,_⟩:=h;rfl
 obtain⟨a,v1,v2,rfl,ha,c,n1,n2,q⟩:=h;refine⟨_,ak (uB (pv 0) (pv 1) rfl) (cb (uB (pv 0) (pv 2) rfl)),?_⟩;refine⟨_,rfl,_,rfl,a,C,rfl,c,n1,.inl ⟨ha,λdx hdx=>?_⟩⟩;have nd:a≠dx:=aW ha hdx;refine⟨_,rfl,_,rfl,a,C,rfl,c,n2,.inr ⟨dx,_,by rw[aH nd];exact ae,ae,by show 1<1000;decide,?_⟩⟩;refine q dx _ hdx (λb o nb e=>?_) (by rw[aH nd,aH nd];exact ae) ae;have ND:b≠dx:=aW e hdx;rw[aH ND,aH ND,aH nb,aH ND];exact e
end
abbrev Tr:=List (List Int×Hd×Bool)
def oG(r:Res)(g:Hd->Fl->Tr):Tr:=match r with
 | .ok h f=>g h f
 | .no _ _=>[]
def NM(st:Hd->Fl->List Int->Wk->Res)(tr:Hd->Fl->List Int->Wk->Tr)(pl:List Int):Nat->Hd->Fl->List Wk->Tr
 |i,h,f,[]=>[(pl++[(i:Int)],h,f.l)]
 |i,h,f,x::ws=>(pl++[(i:Int)],h,f.l)::(tr h f (pl++[(i:Int)]) x++oG (st h f (pl++[(i:Int)]) x) λh' f'=>NM st tr pl (i+1) h' f' ws)
def HU(st:Hd->Fl->List Int->Wk->Res)(tr:Hd->Fl->List Int->Wk->Tr)(h:Hd)(f:Fl)(pl:List Int):List (List Wk)->Nat->Tr
 |[],_=>[]
 |p::ps,j=>NM st tr (pl++[(j:Int)]) 0 h f p++oG (putL st (pl++[(j:Int)]) 0 h f p) λ_ _=>HU st tr h f pl ps (j+1)
def FC:Nat->Hd->Fl->List Int->Wk->Tr
 | 0,_,_,_,_=>[]
 |n+1,h,f,pl,x=>HU (bY n) (FC n) h f pl (iD x) 0
abbrev TL(n:Nat)(pl:List Int)(i:Nat)(h:Hd)(f:Fl)(ws:List Wk):Tr:=NM (bY n) (FC n) pl i h f ws
theorem rE{n:Nat}{pl:List Int}{i:Nat}{h:Hd}{f:Fl}{x:Wk}{ws:List Wk}:TL n pl i h f (x::ws)=(pl++[(i:Int)],h,f.l)::(FC n h f (pl++[(i:Int)]) x++oG (bY n h f (pl++[(i:Int)]) x) λh' f'=>TL n pl (i+1) h' f' ws):=rfl
theorem BN{n:Nat}{h:Hd}{f:Fl}{pl:List Int}{p:List Wk}{ps:List (List Wk)}{j:Nat}:HU (bY n) (FC n) h f pl (p::ps) j=TL n (pl++[(j:Int)]) 0 h f p++oG (putL (bY n) (pl++[(j:Int)]) 0 h f p) λ_ _=>HU (bY n) (FC n) h f pl ps (j+1):=rfl
structure iJ(H:Hp)(as:List Addr)(t:Tr):Prop where
 len:as.length=t.length
 at_:∀(i:Nat) a e,as[i]? = some a->t[i]? = some e->∃q hh,H a=some (.tup [.ref q,.ref hh,.bl e.2.2])/\H q=some (.tup (e.1.map V.int))/\gE H hh e.2.1
theorem iJ.nil{H:Hp}:iJ H [] []:=⟨rfl,λi a e h=>by cases h⟩
theorem iJ.app{H:Hp}{as bs:List Addr}{t u:Tr}(h:iJ H as t)(h':iJ H bs u):iJ H (as++bs) (t++u):=by
 refine⟨by rw[R8,R8,h.len,h'.len],λi a e e1 e2=>?_⟩;have hl:=h.len;by_cases hi:i<as.length
 ·rw[Sv hi]at e1;rw[Sv (by omega)]at e2;exact h.at_ i a e e1 e2
 ·rw[Su (by omega)]at e1;rw[Su (by omega),←hl]at e2;exact h'.at_ _ a e e1 e2
theorem iJ.one{H:Hp}{a q hh:Addr}{p:List Int}{h:Hd}{b:Bool}(h1:H a=some (.tup [.ref q,.ref hh,.bl b]))(h2:H q=some (.tup (p.map V.int)))(h3:gE H hh h):iJ H [a] [(p,h,b)] :=
 ⟨rfl,λi c e e1 e2=>by
  cases i with
  |zero=>cases e1;cases e2;exact⟨q,hh,h1,h2,h3⟩
  |succ i=>cases e1⟩
def Dl(H:Hp)(xs ys:List V)(t:Tr):Prop:=∃as:List Addr,ys=xs++as.map V.ref/\iJ H as t
theorem Dl.app{H:Hp}{xs ys:List V}{t u:Tr}{bs:List Addr}(h:Dl H xs ys t)(h':iJ H bs u):Dl H xs (ys++bs.map V.ref) (t++u):=by obtain⟨as,rfl,h1⟩:=h;exact⟨as++bs,by rw[R9,List.append_assoc],h1.app h'⟩
def Kd:Nat->Hd->Fl->List Int->Wk->Nat->Tr
 | 0,_,_,_,_,_=>[]
 |n+1,h,f,pl,x,j=>HU (bY n) (FC n) h f pl ((iD x).drop j) j
theorem KD{n:Nat}{h:Hd}{f:Fl}{pl:List Int}{x:Wk}:FC n h f pl x=Kd n h f pl x 0:=by cases n<;>rfl
theorem Ea{n:Nat}{h:Hd}{f:Fl}{pl:List Int}{x:Wk}{j:Nat}(hj:(iD x).length<=j):Kd n h f pl x j=[]:=by
 cases n with
 |zero=>rfl
 |succ n=>show HU _ _ _ _ _ ((iD x).drop j) j=[];rw[List.drop_of_length_le hj];rfl
theorem Gm{m:Nat}{h h':Hd}{f f':Fl}{pl:List Int}{x:Wk}{j:Nat}{p:List Wk}(e:(iD x).drop j=p::(iD x).drop (j+1))(er:putL (bY m) (pl++[(j:Int)]) 0 h f p=.ok h' f'):Kd (m+1) h f pl x j=TL m (pl++[(j:Int)]) 0 h f p++Kd (m+1) h f pl x (j+1):=by show HU _ _ _ _ _ ((iD x).drop j) j=_;rw[e,BN,er];rfl
end My
namespace L2
open PySem PySem.Spec PyProof.Rows
section
variable{X:Cx}{ac:List (Addr×Obj)}{σ:List (Option V)}{H H':Hp}{s:Shared}{h':Heap}
theorem Inv.zZ{t':Nat}{fp:List Addr}{T:Addr}{xs:List V}(I:Inv X ac σ H s)(hf:∀b∈fp,cQ X ac H b)(k:∀b o,b∉fp->s.heap.get? b=some o->h'.get? b=some o)(hT:s.heap.objs.size<=T)
  (new:cf X.prog X.w (upd H T (.tup xs)) h' T (.tup xs)):Inv X ac σ (upd H T (.tup xs)) {s with heap:=h',toks:=t'}:=by
 have nT:H T=none:=I.hok.fresh hT;have F9:∀b u,H b=some u->b∉fp:=λb u e z=>by rw[(hf b z).1]at e;cases e
 have QP:∀b o,s.heap.get? b=some o->b≠T:=λb o e z=>by have:=R0 e;rw[z]at this;exact SJ (Sb this hT) (Nat.lt_irrefl _)
 refine I.step (g':=s.gens) (d':=s.drawn) (ch:=fp) (λb hb=>?_) (λb o _ _ hc e _=>k b o hc e) (λb o _ _ hc e _=>⟨o.slots,k b o hc e⟩) (λb o hc e n=>by rw[aH (QP b o e)];exact n)
  (λb o hc e=>⟨o,k b o hc e⟩) (λb ys e=>by rw[aH (aW e nT)];exact e) (λb o u e=>by rw[aH (aW e nT)];exact e) (λb ps e=>⟨#[],by rw[aH (aW e nT),e];simp⟩) (λm hm=>?_) (λb u e=>?_) I.bare
 ·obtain⟨f0,f1,f2,f3,f4,f5⟩:=hf b hb;exact⟨f3,f1,f4,f5⟩
 ·obtain⟨o,es,ep,ho,r⟩:=hm;exact⟨o,es,ep,k _ o (λz=>(hf _ z).2.1 rfl) ho,r⟩
 ·by_cases hb:b=T
  ·subst hb;rw[ae]at e;cases e;exact new
  ·rw[aH hb]at e;refine(I.hok b u e).stay (λc v hc q=>k c v ?_ q) (λc q=>by rw[aH (aW q nT)];exact q) λc ys q=>by rw[aH (aW q nT)];exact q
   rcases hc with z|z
   ·rw[z];exact F9 b u e
   ·exact F9 c _ z
theorem Inv.vt{t':Nat}{fp:List Addr}(I:Inv X ac σ H s)(hf:∀b∈fp,cQ X ac H b)(k:∀b o,b∉fp->s.heap.get? b=some o->h'.get? b=some o):Inv X ac σ H {s with heap:=h',toks:=t'}:=by
 have F9:∀b u,H b=some u->b∉fp:=λb u e z=>by rw[(hf b z).1]at e;cases e
 refine I.step (g':=s.gens) (d':=s.drawn) (ch:=fp) (λb hb=>?_) (λb o _ _ hc e _=>k b o hc e) (λb o _ _ hc e _=>⟨o.slots,k b o hc e⟩) (λb o hc e n=>n)
  (λb o hc e=>⟨o,k b o hc e⟩) (λb ys e=>e) (λb o u e=>e) (λb ps e=>⟨#[],by rw[e];simp⟩) (λm hm=>?_) (λb u e=>?_) I.bare
 ·obtain⟨f0,f1,f2,f3,f4,f5⟩:=hf b hb;exact⟨f3,f1,f4,f5⟩
 ·obtain⟨o,es,ep,ho,r⟩:=hm;exact⟨o,es,ep,k _ o (λz=>(hf _ z).2.1 rfl) ho,r⟩
 ·refine(I.hok b u e).stay (λc v hc q=>k c v ?_ q) (λ_ q=>q) λ_ _ q=>q;rcases hc with z|z
  ·rw[z];exact F9 b u e
  ·exact F9 c _ z
end
section
variable{prog:Program}{w:World}{A:Around}{E:Value->Shared->Prop}{s:Shared}
theorem vS{it t:Addr}{i:Nat}{items:Array Value}{x:Value}{Q:Value->Shared->Prop}(hit:s.heap.IsTupleIter it t i)(ht:s.heap.IsTuple t items)(hx:items[i]? = some x)
  (hQ:∀h',h'.IsTupleIter it t (i+1)->Heap.SameBut it s.heap h'->Q x {s with heap:=h'}):wpAny (model prog w) A (Builtin.SmallTypes.nextOf (.ref it)) Q E s:=by
 obtain⟨o,ho,hc,hd⟩:=id hit;obtain⟨ol,hol,_,nl,hdl⟩:=ht;unfold Builtin.SmallTypes.nextOf;refine RX (wpAny_callSpecial?_slot (name:=Str.ofString "__next__") hit.typeIs F.slot_tuple_iterator_next (SY F.slot_tuple_iterator_next hit.typeIs F.entry_tuple_iterator_next ?_ (F.args_tuple_iterator_next_1 _)));show wpAny _ _ (field (.ref it) 0 >>= _) _ _ s;refine RX (wpAny_field ho hd (x:=.ref t) rfl ?_);show wpAny _ _ (if(Value.ref t==Value.none)=true then _ else _) _ _ s;rw[SK (show¬((Value.ref t==Value.none)=true) from Sh)];show wpAny _ _ (field (.ref it) 1 >>= _) _ _ s;refine RX (wpAny_field ho hd (x:=.int i 0) rfl ?_);show wpAny _ _ (seqItems? (.ref t) >>= _) _ _ s;refine RX (wpAny_seqItems hol hdl ?_);simp only[Int.toNat_natCast,hx];refine RX (wpAny_setField ho hd (by simp) (RY ⟨x,rfl,RY (hQ _ ?_ (Heap.SameBut.update ..))⟩));exact⟨_,Heap.get?_update_self _ ho (Obj.isFreed_of_fields (Obj.data_mapFields hd _)),(Obj.cls_mapFields ..).trans hc,by rw[Obj.data_mapFields hd];simp[rawInt]⟩
end
section
variable{prog:Program}{w:World}{A:Around}{E:Value->Shared->Prop}{s:Shared}
theorem jT{it t:Addr}{i:Nat}{items:Array Value}{Q:Value->Shared->Prop}(hh:A.handled=none)(hit:s.heap.IsTupleIter it t i)(ht:s.heap.IsTuple t items)(hx:items[i]? = none)
  (hE:∀h' e,Heap.ExtBut it s.heap h'->(∃o,h'.get? e=some o/\o.cls=.type "StopIteration")->E (.ref e) {s with heap:=h'}):wpAny (model prog w) A (Builtin.SmallTypes.nextOf (.ref it)) Q E s:=by
 obtain⟨o,ho,hc,hd⟩:=id hit;obtain⟨ol,hol,_,nl,hdl⟩:=ht;unfold Builtin.SmallTypes.nextOf;refine RX (wpAny_callSpecial?_slot (name:=Str.ofString "__next__") hit.typeIs F.slot_tuple_iterator_next (SY F.slot_tuple_iterator_next hit.typeIs F.entry_tuple_iterator_next ?_ (F.args_tuple_iterator_next_1 _)));show wpAny _ _ (field (.ref it) 0 >>= _) _ _ s;refine RX (wpAny_field ho hd (x:=.ref t) rfl ?_);show wpAny _ _ (if(Value.ref t==Value.none)=true then _ else _) _ _ s;rw[SK (show¬((Value.ref t==Value.none)=true) from Sh)];show wpAny _ _ (field (.ref it) 1 >>= _) _ _ s;refine RX (wpAny_field ho hd (x:=.int i 0) rfl ?_);show wpAny _ _ (seqItems? (.ref t) >>= _) _ _ s;refine RX (wpAny_seqItems hol hdl ?_);simp only[Int.toNat_natCast,hx];refine RX (wpAny_rule (RX (wpAny_setField ho hd (by simp) ?_)));show wpAny _ _ (newExc (.type "StopIteration") [] >>= _) _ _ _;refine RX ?_;simp only[newExc,newTuple];refine RX (SD ?_ (by size_fits));refine RX (m:=firstArgMember _ _) (wpAny_of_eq (a:=Value.none) (by first|rfl | (simp only[firstArgMember];rfl)) ?_);refine SD ?_ (by size_fits);simp only[raiseNew];refine RX (wpAny_handled ?_);first|rw[show A.in1.handled=none from hh]|rw[hh]
 refine RX (RY (wpAny_throw ?_));exact hE _ _ (((Heap.SameBut.update ..).extBut.push _).push _) ⟨_,R1 _ rfl,rfl⟩
theorem rp{h h':Heap}{a b:Addr}{xs:Array Value}(x:h.IsTuple a xs)(hs:Heap.ExtBut b h h')(hab:a≠b):h'.IsTuple a xs:=let ⟨o,ho,r⟩:=x;⟨o,hs a o hab ho,r⟩
theorem zc(hh:A.handled=none)(it t:Addr)(hne:t≠it)(items:Array Value):Draws prog w A it [it,t] items.size (λi v=>items[i]? = some v) (λi h=>h.IsTupleIter it t i/\h.IsTuple t items) where
 live:=λ_ _ st=>let ⟨o,ho,_⟩:=st.1;⟨o,ho⟩
 frame:=λ_ _ _ st hk=>⟨st.1.at λo e=>hk it (by simp) o e,let ⟨o,ho,r⟩:=st.2;⟨o,hk t (by simp) o ho,r⟩⟩
 item:=λi s Q E hi st hQ=>by refine vS st.1 st.2 (x:=items[i]) (by simp[hi]) λh' hit' hs'=>?_;exact hQ _ h' s.toks (by simp[hi]) ⟨hit',rp st.2 hs'.extBut hne⟩ hs'
 done:=λs Q E st hE=>jT hh st.1 st.2 (by simp) hE
abbrev Lz(h:Heap)(t:Addr):Heap:=h.push {cls:=.type "tuple_iterator",data:=.fields #[.ref t,.int 0 0]}
abbrev Ov(h:Heap)(t:Addr):Heap:=(Lz h t).push {cls:=.type "enumerate",data:=.fields #[.none,.bool false,.ref h.objs.size,rawInt 0,.none,.none]}
theorem uX(t:Addr)(items:Array Value)(n:Nat)(dct:Option Addr)(sl:Array (Option Value)) :
  Meets (Builtin.«enumerate.__new__» ⟨[.type "enumerate",.ref t],[]⟩) (λ_ R s=>s.heap.get? t=some {cls:=.type "tuple",dict:=dct,data:=.seq items n,slots:=sl}/\R (.ok (.ret (.ref (Lz s.heap t).objs.size))) {s with heap:=Ov s.heap t}) :=
 .of_wp λprog w A R s h=>by
  obtain⟨hp,g,d,tk,os⟩:=s;obtain⟨hl,h⟩:=h;have hsub:=sub_enumerate;have hL:Heap.IsTuple (Shared.heap ⟨hp,g,d,tk,os⟩) t items:=⟨_,hl,rfl,n,rfl⟩
  wp_walk using AutoSeq1.wpAny_loadPart' hl
  refine wpAny_stack_any λst=>RY ?_;split
  ·rename_i c _ _ _ _ _;cases(c==Value.type "enumerate")
   ·wp_walk using AutoSeq1.wpAny_loadPart' hl,wpAny_pyIter_tuple hL
    exact⟨_,rfl,h⟩
   ·wp_walk using AutoSeq1.wpAny_loadPart' hl,wpAny_pyIter_tuple hL
    exact⟨_,rfl,h⟩
  ·wp_walk using AutoSeq1.wpAny_loadPart' hl,wpAny_pyIter_tuple hL
   exact⟨_,rfl,h⟩
theorem wX{t:Addr}{items:Array Value}{Q:Value->Shared->Prop}(hL:s.heap.IsTuple t items)
  (h:∀h',IsEnum h' (s.heap.objs.size+1) s.heap.objs.size 0 .none->h'.IsTupleIter s.heap.objs.size t 0->h'.objs.size=s.heap.objs.size+2->(∀b o,s.heap.get? b=some o->h'.get? b=some o)->Q (.ref (s.heap.objs.size+1)) {s with heap:=h'}) :
  wpAny (model prog w) A (call (.type "enumerate") [.ref t]) Q E s:=by
 obtain⟨⟨c,dct,dt,sl⟩,hl,hc,n,hd⟩:=hL;replace hc:c=.type "tuple":=hc;replace hd:dt=.seq items n:=hd;subst hc hd;refine callType_new F.called_enumerate (by decide) (F.typeCall_enumerate_1 _) (F.newCall_enumerate_1 _) (λobj=>F.args_object_init_2 obj _) F.entry_enumerate_new (uX t items n dct sl) ⟨hl,?_⟩;have hz:(Lz s.heap t).objs.size=s.heap.objs.size+1:=Heap.size_push ..;show _/\_;have he:(Ov s.heap t).get? (Lz s.heap t).objs.size=some _:=R1 _ rfl;rw[hz]at he;rw[hz];exact⟨⟨_,he,rfl⟩,h _ he ⟨_,RZ _ (R1 _ rfl),rfl,rfl⟩ (by rw[Heap.size_push,hz]) λb o x=>RZ _ (RZ _ x)⟩
end
def JY(K:S7)(a:Addr):It :=
 ⟨λi H=>∃xs x,aP K H a xs/\xs[i]? = some x,
   λi H v H'=>∃T x,v=.ref T/\H T=none/\H'=upd H T (.tup [.int (i:Nat),x])/\∀xs,aP K H a xs->xs[i]? = some x,
   λi H=>∃xs,aP K H a xs/\xs.length<=i⟩
theorem v7{P:Program}{w:World}{K:S7}{es:List Expr}{x1:Nat}{pos:Pos}(a e it:Addr)(hne:e≠it) :
  Turn P w K (.Tuple es x1 pos) (JY K a) [e,it] e (λi h=>(∃old,IsEnum h e it (i:Nat) old)/\h.IsTupleIter it a i) where
 mem:=by simp
 obj:=λi h st c hc=>by
  obtain⟨⟨old,h1⟩,⟨o4,e4,c4,d4⟩⟩:=st;simp only[Sm,SN,or_false]at hc;rcases hc with rfl|rfl
  ·exact⟨_,h1,λv z=>by cases(show Data.fields _=Data.cell v from z)⟩
  ·exact⟨o4,e4,λv z=>by rw[d4]at z;cases z⟩
 keep:=λi h h' st k=>by obtain⟨⟨old,h1⟩,h4⟩:=st;exact⟨⟨old,k e (by simp) _ h1⟩,h4.at λo q=>k it (by simp) o q⟩
 item:=by
  intro X hP hw hK hc i ac s σ H E I hf st hg;subst hP hw hK;obtain⟨xs,x,hq,hx⟩:=hg;obtain⟨its,rv,p,hz⟩:=I.tuple hq;obtain⟨u,hu,ru⟩:=rv.get hx;obtain⟨⟨old,h1⟩,h4⟩:=st;have p':s.heap.IsTuple a its.toArray:=p;have Rx:e≠a:=λz=>by obtain⟨o,eo,co,_⟩:=p';rw[←z,h1]at eo;cases eo;exact SJ (Value.type.inj co) (by decide)
  have Pz:a≠it:=λz=>by obtain⟨o,eo,co,_⟩:=p';obtain⟨o4,e4,c4,_⟩:=h4;rw[z,e4]at eo;cases eo;exact SJ (Value.type.inj (c4.symm.trans co)) (by decide)
  have hu':its.toArray[i]? = some u:=by simpa using hu
  have hlt:i<its.toArray.size:=by
   rcases Nat.lt_or_ge i its.toArray.size with z|z
   ·exact z
   ·rw[Array.getElem?_eq_none z]at hu';cases hu'
  refine wpAny_pyNext_enum_itemD (zc (show X.A.in1.handled=none from I.ok.hd hc) it a Pz its.toArray) h1 ⟨h4,p'⟩ hlt hne (by simp[hne,Rx]) λy h' tk hy g1 g2 g3 gs g6=>⟨_,rfl,?_⟩;have P5:y=u:=by rw[hu']at hy;exact(Ss hy).symm
  subst P5;refine wpAny_letOwnedTupleGo_enum (show IsEnumOut h' e it ((i:Int)+1) y s.heap.objs.size from g1) λh'' f1 fs=>?_;have elt:e<s.heap.objs.size:=R0 h1;have Qa:s.heap.objs.size≠e:=Nat.ne_of_gt elt;have kk:∀c o,c∉[e,it]->s.heap.get? c=some o->h''.get? c=some o:=λc o hc q=>by simp only[Sm,SN,or_false,not_or]at hc;exact fs.extBut _ _ hc.1 (g6 c o hc.1 hc.2 q)
  have pT:=fs.extBut _ _ Qa g3;have I1:Inv X ac σ (upd H s.heap.objs.size (.tup [.int (i:Nat),x])) {s with heap:=h'',toks:=tk+1}:=I.zZ hf kk (R3 _) ⟨by show 2<=sizeLine;decide,[.int (i:Nat) tk,y],.cons ⟨tk,rfl⟩ (.cons ru .nil),⟨_,pT,rfl,⟨_,rfl⟩,rfl⟩⟩;refine⟨.ref s.heap.objs.size,_,I1,rfl,⟨_,x,rfl,I.hok.fresh (R3 _),rfl,λys hy'=>by rw[I.mi hy' hq];exact hx⟩,⟨⟨_,f1⟩,g2.1.extBut fs.extBut hne.symm⟩,λc hc=>?_⟩;have hn:=(hf c hc).1;have:c≠s.heap.objs.size:=by
   simp only[Sm,SN,or_false]at hc;obtain⟨o4,e4,_⟩:=h4;rcases hc with rfl|rfl
   ·exact Sq elt
   ·exact Sq (R0 e4)
  rw[aH this];exact hn
 done:=by
  intro X hP hw hK hc i ac s σ H E I hf st hg;subst hP hw hK;obtain⟨xs,hq,hx⟩:=hg;obtain⟨its,rv,p,hz⟩:=I.tuple hq;obtain⟨⟨old,h1⟩,h4⟩:=st;have hl:=rv.length;have hn:its.toArray[i]? = none:=by simp;omega
  unfold pyNext;have hT:s.TypeIs (.ref e) "enumerate":=⟨_,h1,rfl⟩;refine RX (wpAny_attempt (wpAny_callSpecial?_slot (name:=Str.ofString "__next__") hT F.slot_enumerate_next (SY F.slot_enumerate_next hT F.entry_enumerate_next ?_ (F.args_enumerate_next_1 _))));show wpAny _ _ (field (.ref e) 2 >>= _) _ _ _;refine RX (wpAny_field h1 rfl (x:=.ref it) rfl ?_);refine RX (jT (show X.A.in1.handled=none from I.ok.hd hc) h4 (show s.heap.IsTuple a its.toArray from p) hn λh' x he' hx'=>?_);obtain⟨o,ho,hco⟩:=hx';refine RX (wpAny_isInstance (T:="StopIteration") (b:=true) ⟨o,ho,hco⟩ isSubtype_stop ?_);refine RY ⟨rfl,I.vt (t':=s.toks) hf λc o hc q=>?_⟩;simp only[Sm,SN,or_false,not_or]at hc;exact he' c o hc.2 q
 self:=λ_ _ _ _ _ st h=>let ⟨⟨_,h1⟩,_⟩:=st;wpAny_pyIter_enum h1 h
section
variable{X:Cx}
def Kq(K:S7)(ta:TA):TI:=λσ H R=>ta σ H λvs H1=>∃a,vs=[.ref a]/\(∃xs,aP K H1 a xs)/\R (JY K a) H1
theorem l0{es:List Expr}{x1:Nat}{tpos:Pos}{a:Expr}{ta:TA}{p pos:Pos}(hg:Gl X "enumerate")(hm:X.mg "enumerate"=none)(ha:PA X [a] ta)(hs:starEach [a] X.env=[(false,eval a X.env)]:=by rfl) :
  PI X (.Tuple es x1 tpos) (.Call (.Name "enumerate" p) [a] [] pos) (Kq X.K ta):=by
 intro ac s σ H R I h;refine Call_ (i0 I hg hm (by decide +kernel:bootBuiltins "enumerate"=some (.type "enumerate")) (PyProof.Rows.callWith_type1 (bO (ha pos ac s σ H _ I h) λus s1 zz=>?_) hs rfl));obtain⟨vs,H1,I1,r1,q1⟩:=zz;obtain⟨l1,e,⟨xs,hq1⟩,q⟩:=q1;subst e;cases r1 with
 |cons r rr =>
  cases rr;cases r;obtain⟨its,rv,p1,hz⟩:=I1.tuple hq1;refine wX p1 λh' he hi hsz hk=>?_;refine wpAny_pyIter_enum (show IsEnum h' _ _ _ _ from he) ?_;refine⟨_,[s1.heap.objs.size+1,s1.heap.objs.size],_,_,H1,rfl,I1.kept (t':=s1.toks) hk,v7 _ _ _ (Nat.succ_ne_self _),⟨⟨_,he⟩,hi⟩,λc hc=>?_,q⟩;simp only[Sm,SN,or_false]at hc;have hle:s1.heap.objs.size<=c:=by rcases hc with rfl|rfl<;>first|exact R3 _|exact Nat.le_add_right _ _
  exact I1.lF hle (I1.hok.fresh hle)
end
theorem kl{K:S7}{a:Addr}{xs:List V}{g:TG}{tb:TS}{D:Ends}{σ:St}{H:Hp}(Pv:Nat->St->Hp->Prop)(h0:Pv 0 σ H)(hl:∀i σ H,i<=xs.length->Pv i σ H->aP K H a xs)
  (hs:∀i x σ H T,xs[i]? = some x->Pv i σ H->H T=none->g (.ref T) σ (upd H T (.tup [.int (i:Nat),x])) λcR H2=>tb {D with nx:=Pv (i+1),ct:=Pv (i+1),bk:=D.nx} cR H2) (hd:∀σ H,Pv xs.length σ H->D.nx σ H) :
  ∃W:Nat->Nat->St->Hp->Prop,(∃m,W 0 m σ H)/\∀i m σ H,W i m σ H->
   ((JY K a).stop i H/\D.nx σ H)\/((JY K a).go i H/\∃N:St->Hp->Prop,(∀σ' H',N σ' H'->∃m',m'<m/\W (i+1) m' σ' H')/\∀x H',(JY K a).AQ i H x H'->g x σ H' λcR H2=>tb {D with nx:=N,ct:=N,bk:=D.nx} cR H2):=by
 refine⟨λi m σ H=>m=xs.length-i/\i<=xs.length/\Pv i σ H,⟨xs.length,by simp,Sr _,h0⟩,?_⟩;rintro i m σ H ⟨rfl,hi,p⟩;have q:=hl i σ H hi p;by_cases hlt:i<xs.length
 ·refine .inr ⟨⟨xs,xs[i],q,by simp[hlt]⟩,Pv (i+1),λσ' H' p'=>⟨xs.length-(i+1),by omega,rfl,hlt,p'⟩,λv H' y=>?_⟩;obtain⟨T,x,rfl,hT,rfl,hx⟩:=y;exact hs i x σ H T (hx xs q) p hT
 ·have e:i=xs.length:=by omega
  subst e;exact .inl ⟨⟨xs,q,R3 _⟩,hd σ H p⟩
end L2
namespace My
open PySem L2
section
variable{X:Cx}{N':List Str}{sc:Scope}{cl:List (Str×Addr)}{C:Addr}{s:Shared}{H:Hp}{fp:List Addr}{E:XK}
theorem HN{i:Nat}{x:Str}{pos:Pos}(hn:N'.Nodup:=by decide +kernel)(hN:N'[i]? = some x:=by rfl)(hv:sc.names.lookup x=some .local:=by rfl):PG ((az X N' sc cl C s H fp).xs E) (.Name x pos) (bT i):=PG.yi (e7 (X:=X) (cl:=cl) (C:=C) (s:=s) (H:=H) (fp:=fp) (N':=N') hn hN hv)
theorem Np(i:Nat){x:Str}{pos:Pos}(hN:N'[i]? = some x:=by rfl)(hv:sc.names.lookup x=some .local:=by rfl)(hd:(x==("__debug__" : Str))=false:=by decide)(hcd:(x==("__classdict__" : Str))=false:=by decide):PE ((az X N' sc cl C s H fp).xs E) (.Name x pos) (bp i):=PE.yi (fP (X:=X) (cl:=cl) (C:=C) (s:=s) (H:=H) (fp:=fp) (N':=N') i hN hv hd hcd)
end
theorem rY{t1 t2:TS}{D:Ends}{σ:St}{H:Hp}(Pm:St->Hp->Prop)(h:∀T:St->Hp->Prop,(∀σ' H',Pm σ' H'->T σ' H')->t1 {D with nx:=T} σ H)(t:∀σ' H',Pm σ' H'->t2 D σ' H'):uA t1 t2 D σ H:=h _ t
theorem oa{α:Type}{l:List α}{i:Nat}{x:α}(h:l[i]? = some x):l.drop i=x::l.drop (i+1):=by obtain⟨hi,rfl⟩:=Sj.mp h;exact List.drop_eq_getElem_cons hi
def gG(fl:Addr)(H H':Hp):Prop:=∀b o,b≠fl->H b=some o->H' b=some o
theorem gG.of{fl:Addr}{H H':Hp}(s:aE H H'):gG fl H H':=λ_ _ _ e=>s _ _ e
theorem gG.trans{fl:Addr}{H H1 H2:Hp}(a:gG fl H H1)(b:gG fl H1 H2):gG fl H H2:=λ_ _ n e=>b _ _ n (a _ _ n e)
theorem gG.put{fl:Addr}{H H1:Hp}{o:HO}(a:gG fl H H1):gG fl H (upd H1 fl o):=λb u n e=>by rw[aH n];exact a _ _ n e
theorem gG.new{fl L:Addr}{H H1:Hp}{o:HO}(hL:H L=none)(a:gG fl H H1):gG fl H (upd H1 L o):=λb u n e=>by rw[aH (aW e hL)];exact a _ _ n e
theorem gG.cL{fl:Addr}{H H':Hp}{xs:List V}(g:gG fl H H')(h:H fl=some (.lst xs)):aQ H H':=λa ys e=>g _ _ (λz=>by rw[z,h]at e;cases e) e
theorem gI.keep{H H':Hp}{a:Addr}{k:Kn}(s:aQ H H')(h:gI H a k):gI H' a k:=by obtain⟨u,p,h1,h2,h3⟩:=h;exact⟨u,p,s _ _ h1,s _ _ h2,s _ _ h3⟩
def DG:Nat->List Wk->Prop
 | 0,ws=>ws.length<=12/\∀x∈ws,uK x
 |n+1,ws=>ws.length<=12/\∀x∈ws,uK x/\∀p∈iD x,DG n p
theorem DG.len{n:Nat}{ws:List Wk}(h:DG n ws):ws.length<=12:=by cases n<;>exact h.1
theorem DG.ok{n:Nat}{ws:List Wk}(h:DG n ws){x:Wk}(hx:x∈ws):uK x:=by
 cases n with
 |zero=>exact h.2 x hx
 |succ n=>exact(h.2 x hx).1
def cW:Nat->Nat
 | 0=>1
 |n+1=>1+2*(12*cW n+1)
def bnd(n:Nat):Nat:=12*cW n+1
def Qg(C fl:Addr)(H:Hp)(a:List Int)(s:Str)(E:XK):Prop:=∀(e dx q:Addr)(H':Hp),gG fl H H'->H' e=some (xO e C (some dx))->H' dx=some (xD dx (Hn (.ref q) (.str s)))->H' q=some (.tup (a.map V.int))->E (.ref C) (some e) H'
theorem iJ.keep{H H':Hp}{as:List Addr}{t:Tr}(s:aQ H H')(h:iJ H as t):iJ H' as t:=⟨h.len,λi a e e1 e2=>let ⟨q,hh,z1,z2,z3⟩:=h.at_ i a e e1 e2;⟨q,hh,s _ _ z1,s _ _ z2,s _ _ z3⟩⟩
structure NH(n:Nat)(H:Hp)(p b pl fl:Addr)(ws:List Wk)(k:Kn)(pi:List Int)(xs:List V):Prop where
 pp:nW n H p ws
 kn:gI H b k
 pl:H pl=some (.tup (pi.map V.int))
 fl:H fl=some (.lst xs)
 ok:DG n ws
 ko:nK k
 pz:pi.length+2*n<=100
 xz:xs.length+bnd n<=100000
def xT(C:Addr):Nat->Sp
 | 0=>λ_ _ _ _=>False
 |n+1=>λvs H Q E=>∃(p b pl fl:Addr)(ws:List Wk)(k:Kn)(pi:List Int)(xs:List V),vs=[.ref p,.ref b,.ref pl,.ref fl]/\NH n H p b pl fl ws k pi xs/\
  (∀a s,putL (bY n) pi 0 k.hd k.fl ws=.no a s->Qg C fl H a s E)/\
  (∀h f,putL (bY n) pi 0 k.hd k.fl ws=.ok h f->∀(u:Addr)(k':Kn)(H':Hp)(as:List Addr),gG fl H H'->gI H' u k'->nK k'->k'.hd=h->k'.fl=f->H' fl=some (.lst (xs++as.map V.ref))->as.length<=bnd n->iJ H' as (TL n pi 0 k.hd k.fl ws)->Q (.ref u) H')
theorem l9{x:Wk}(h:fz x=false):iD x=[]/\CB x=1:=by cases x<;>first|exact⟨rfl,rfl⟩|cases h
theorem DM{n:Nat}{x:Wk}{h:Hd}{f:Fl}{pl:List Int}(hx:fz x=false):bY n h f pl x=pR x h f pl [(h,f)]:=by
 cases x with
 |one x=>cases n<;>rfl
 |both p q=>cases hx
 |meet c d p q=>cases hx
theorem IW{n:Nat}{x:Wk}{h:Hd}{f:Fl}{pl:List Int}(hx:fz x=true):bY (n+1) h f pl x=BI (bY n) x h f pl (iD x) 0 []:=by
 cases x with
 |one x=>cases hx
 |both p q=>rfl
 |meet c d p q=>rfl
theorem pI{x:Wk}(hx:fz x=true):(iD x).length=2/\CB x=2:=by cases x<;>first|exact⟨rfl,rfl⟩|cases hx
theorem Mz{x:Wk}{H:Hp}{a:Addr}(h:ij 0 H a x):fz x=false:=by cases x<;>first|rfl|exact SS h
def nC(ks:List Kn):List (Hd×Fl):=ks.map λk=>(k.hd,k.fl)
theorem DF(ks:List Kn):(nC ks).map (λe=>e.1)=kq ks:=by rw[nC,List.map_map];rfl
theorem Du(ks:List Kn):(nC ks).map (λe=>e.2)=ks.map Kn.fl:=by rw[nC,List.map_map];rfl
theorem DO{x:Wk}{f:Fl}{hs:List Hd}(h:oP x f hs=none):eG x hs=true/\(bh x hs).length<=6:=by
 unfold oP at h;split at h
 ·split at h
  ·split at h
   ·exact⟨by assumption,by assumption⟩
   ·cases h
  ·cases h
 ·cases h
theorem DA{x:Wk}{k:Kn}{ks:List Kn}(hk:fz x=false->ks=[k])(h:eG x (kq ks)=true):keepIn x k.hd:=by rintro c t rfl;rw[hk rfl]at h;exact dX h (by simp[dN])
theorem Ij(n:Nat):1<=cW n:=by
 cases n with
 |zero=>exact R3 _
 |succ n=>show 1<=1+_;omega
theorem xo(n:Nat):cW (n+1)=1+2*bnd n:=rfl
theorem u_{H H':Hp}{L u:Addr}{as:List Addr}{ks:List Kn}{k:Kn}(h:jS H L as ks)(g:∀a k,gI H a k->gI H' a k)(hk:gI H' u k)(hL:H' L=some (.lst ((as++[u]).map V.ref))):jS H' L (as++[u]) (ks++[k]):=by
 refine⟨hL,by rw[R8,R8,h.len];rfl,λi a k' e1 e2=>?_⟩;by_cases hi:i<as.length
 ·rw[Sv hi]at e1;rw[Sv (by rw[←h.len];exact hi)]at e2;exact g _ _ (h.at_ i a k' e1 e2)
 ·have hi':i=as.length:=by have:=(Sj.mp e1).1;rw[R8]at this;simp at this;omega
  rw[hi',Su (R3 _),Nat.sub_self]at e1;rw[hi',h.len,Su (R3 _),Nat.sub_self]at e2;cases e1;cases e2;exact hk
theorem aQ.refl{H:Hp}:aQ H H:=λ_ _ e=>e
theorem aQ.trans{H H1 H2:Hp}(a:aQ H H1)(b:aQ H1 H2):aQ H H2:=λ_ _ e=>b _ _ (a _ _ e)
theorem aQ.iw{H H':Hp}{L:Addr}{xs:List V}{o:HO}(k:aQ H H')(h:H' L=some (.lst xs)):aQ H (upd H' L o):=λa ys e=>by have:=k _ _ e;rw[aH (λz=>by rw[z,h]at this;cases this)];exact this
theorem Gs(pi:List Int)(i:Int):pi.map V.int++[V.int i]=(pi++[i]).map V.int:=by rw[R9];rfl
inductive O4(a b c d e:V)(σ:St):Prop
 |mk (o5 o6 o7 o8 o9 tR tJ:Option V) (h:σ=[some a,some b,some c,some d,some e,o5,o6,o7,o8,o9,tR,tJ])
inductive KI(a b c d e f g h i:V)(σ:St):Prop
 |mk (o9 tR tJ:Option V) (h:σ=[some a,some b,some c,some d,some e,some f,some g,some h,some i,o9,tR,tJ])
inductive PR(n:Nat)(p b pl fl:Addr)(H:Hp)(k:Kn)(ws:List Wk)(pi:List Int)(xs:List V)(i:Nat)(σ:St)(H':Hp):Prop
 |mk (kb:Addr) (ki:Kn) (ys:List V) (st:O4 (.ref p) (.ref b) (.ref pl) (.ref fl) (.ref kb) σ) (h1:gI H' kb ki) (h2:nK ki) (h3:gG fl H H') (h4:H' fl=some (.lst ys)) (h5:ys.length<=xs.length+i*cW n) (h6:putL (bY n) pi 0 k.hd k.fl ws=putL (bY n) pi i ki.hd ki.fl (ws.drop i)) (h7:∃t,Dl H' xs ys t/\TL n pi 0 k.hd k.fl ws=t++TL n pi i ki.hd ki.fl (ws.drop i))
inductive Q2(n:Nat)(p b pl fl kb:Addr)(i:Nat)(a u2 L:Addr)(H4:Hp)(x:Wk)(ki k:Kn)(ws:List Wk)(pi:List Int)(ys xs:List V)(σ:St)(H6:Hp):Prop
 |mk (as:List Addr) (ks:List Kn) (zs:List V) (st:KI (.ref p) (.ref b) (.ref pl) (.ref fl) (.ref kb) (.int (i:Nat)) (.ref a) (.ref u2) (.ref L) σ) (h1:jS H6 L as ks) (h2:ks.length=(iD x).length) (h3:∀k∈ks,nK k) (h4:aQ H4 H6) (h5:gG fl H4 H6) (h6:H6 fl=some (.lst zs)) (h7:zs.length<=ys.length+cW n) (h8:fz x=true->bY n ki.hd ki.fl (pi++[(i:Int)]) x=pR x ki.hd ki.fl (pi++[(i:Int)]) (nC ks)) (h9:∃t,Dl H6 xs zs t/\TL n pi 0 k.hd k.fl ws=t++oG (bY n ki.hd ki.fl (pi++[(i:Int)]) x) λh' f'=>TL n pi (i+1) h' f' (ws.drop (i+1)))
inductive P7(n:Nat)(p b pl fl kb:Addr)(i:Nat)(a u2 L:Addr)(H4:Hp)(H5:Hp)(x:Wk)(ki k:Kn)(ws:List Wk)(pi:List Int)(ys xs:List V)(j:Nat)(σ:St)(H6:Hp):Prop
 |mk (as:List Addr) (ks:List Kn) (zs:List V) (st:KI (.ref p) (.ref b) (.ref pl) (.ref fl) (.ref kb) (.int (i:Nat)) (.ref a) (.ref u2) (.ref L) σ) (h1:jS H6 L as ks) (h2:ks.length=j) (h3:∀k∈ks,nK k) (h4:aQ H5 H6) (h5:gG fl H4 H6) (h6:H6 fl=some (.lst zs)) (h7:∀m,n=m+1->zs.length<=ys.length+1+j*bnd m) (h8:j=0->zs.length<=ys.length+1) (h9:∀m,n=m+1->fz x=true->bY n ki.hd ki.fl (pi++[(i:Int)]) x=BI (bY m) x ki.hd ki.fl (pi++[(i:Int)]) ((iD x).drop j) j (nC ks)) (h10:∃t,Dl H6 xs zs t/\TL n pi 0 k.hd k.fl ws=t++(Kd n ki.hd ki.fl (pi++[(i:Int)]) x j++oG (bY n ki.hd ki.fl (pi++[(i:Int)]) x) λh' f'=>TL n pi (i+1) h' f' (ws.drop (i+1))))
inductive QG(n:Nat)(p b pl fl kb:Addr)(i:Nat)(a u2 L:Addr)(H4:Hp)(x:Wk)(ki k:Kn)(ws:List Wk)(pi:List Int)(zs xs:List V)(o9 tR tJ:Option V)(σ:St)(H7:Hp):Prop
 |mk (as:List Addr) (ks:List Kn) (st:σ=[some (.ref p),some (.ref b),some (.ref pl),some (.ref fl),some (.ref kb),some (.int (i:Nat)),some (.ref a),some (.ref u2),some (.ref L),o9,tR,tJ]) (h1:jS H7 L as ks) (h2:ks.length=CB x) (h3:∀k∈ks,nK k) (h4:fz x=false->ks=[ki]) (h5:aQ H4 H7) (h6:gG fl H4 H7) (h7:H7 fl=some (.lst zs)) (h8:bY n ki.hd ki.fl (pi++[(i:Int)]) x=pR x ki.hd ki.fl (pi++[(i:Int)]) (nC ks)) (h9:∃t,Dl H7 xs zs t/\TL n pi 0 k.hd k.fl ws=t++oG (bY n ki.hd ki.fl (pi++[(i:Int)]) x) λh' f'=>TL n pi (i+1) h' f' (ws.drop (i+1)))
abbrev fR:Stmt:=top 48
theorem bQ:au ["pipe","begun","prefix","found","known","at","worker","place","told","side","branch","why"] ["pipe","begun","prefix","found"] (ao fR):=fs
variable{P:Program}{w:World}{K:S7}{mg:Str->Option Value}{base:Heap}
theorem Ig{C fI:Addr}{d2:FuncData}{n L:Nat}(B:j5 mg)(mE:mg "enumerate"=none)(Cf:J6 K mg C fI)(F:FA K mg "go_through" fR)(GI:e8 P w K mg base bE 1 fI d2 ["self","place","why"] (xW K C))(bI:Binds K d2 ["self","place","why"] [])
  (dJ:bB bE P w K mg base 1 "branches_of" ["worker"] (xN n))
  (ja:bB (vf P w) P w K mg base (L+5) "go_through" ["pipe","begun","prefix","found"] (xT C n))
  (yJ:bB bE P w K mg base 5 "why_not" ["worker","known","heads"] (FN n))
  (oq:bB bE P w K mg base 4 "known_behind" ["worker","known","told"] (uy n)) :
  bB (vf P w) P w K mg base (L+6) "go_through" ["pipe","begun","prefix","found"] (xT C (n+1)):=by
 refine F.Iq bQ λf cdv A outer s H vs Q E hr h=>?_;have hu:=gX hr;have hu1:=jn hr;obtain⟨p,b,pl,fl,ws,k,pi,xs,rfl,hG,qx,q⟩:=h;refine⟨_,(ak (aX (i:=4) bQ.nd rfl (SQ rfl) (pv 1))
   (ak (fi (v_ pD) rfl (l0 rfl mE (aa (pv 0) ah)) (bS rfl (aq (aL (i:=5) bQ.nd rfl (SQ rfl)) (aq (aL (i:=6) bQ.nd rfl (SQ rfl)) bz)))
    (ak (aX (i:=7) bQ.nd rfl (SQ rfl) (aU cZ (pv 2) (aY (aa (pv 5) ah))))
     (ak (cY (jc PySem.F.plainAttrs_list PySem.F.slot_list_append PySem.F.type_list_append cj (pv 3) (aa (aY (aa (pv 7) (aa (aG K (pv 4) ai) (aa (aG K (pv 4) ai) ah)))) ah)))
     (ak (aX (i:=8) bQ.nd rfl (SQ rfl) (bJ ah))
     (ak (fi (v_ pD) rfl (l0 rfl mE (aa (aM dJ hr (aa (pv 6) ah)) ah)) (bS rfl (aq (aL (i:=9) bQ.nd rfl (SQ rfl)) (aq (aL (i:=10) bQ.nd rfl (SQ rfl)) bz)))
      (cb (cY (jc PySem.F.plainAttrs_list PySem.F.slot_list_append PySem.F.type_list_append cj (pv 8) (aa (qP ja hr rfl xM (aa (pv 10) (aa (pv 4) (aa (aU cZ (pv 7) (aY (aa (pv 9) ah))) (aa (pv 3) ah))))) ah)))))
     (ak (gN (bu bM (aK aN rfl B.len S5 (aa (pv 8) ah)) ai)
      (cb (cY (jc PySem.F.plainAttrs_list PySem.F.slot_list_append PySem.F.type_list_append cj (pv 8) (aa (pv 4) ah))))
      dk)
     (ak (aX (i:=11) bQ.nd rfl (SQ rfl) (aM yJ hr (aa (pv 6) (aa (pv 4) (aa (z8 (N':=["head","passed","loose"]) (src:=[none,none,none]) rfl pD (ba.jb (by kernel_rfl)) (c0 (pv 8)) (g:=(mM K 3 (cx (bT 0) (cx (bT 1) (cx (bT 2) mK))))) (λcl C s H fp=>(bS rfl (aq (HN (i:=0)) (aq (HN (i:=1)) (aq (HN (i:=2)) bz))))) (λcl C s H fp=>iB.yi bg) (te:=(bp 0)) (λcl C s H fp=>(Np 0))) ah)))))
     (ak (gN (bu n_ (pv 11) fh)
      (cb (yP rfl Cf.LC (D7 Cf.LC Cf.kp Cf.fn (GI.mono (by omega)) hr rfl Cf.mf bI qE (aa (pv 7) (aa (pv 11) ah)))))
      dk)
     (cb (aX (i:=4) bQ.nd rfl (SQ rfl) (aM oq hr (aa (pv 6) (aa (pv 4) (aa (pv 8) ah))))))))))))))
   (ak (cY (jc PySem.F.plainAttrs_list PySem.F.slot_list_append PySem.F.type_list_append cj (pv 3) (aa (aY (aa (aU cZ (pv 2) (aY (aa (aK aN rfl B.len S5 (aa (pv 0) ah)) ah))) (aa (aG K (pv 4) ai) (aa (aG K (pv 4) ai) ah)))) ah)))
   (ax (pv 4))))),?_⟩
 obtain⟨⟨bs,hI⟩,hk,hpl,hfl,hok,hko,hpz,RO⟩:=hG;have hlb:(bs.map V.ref).length=ws.length:=by rw[R7,hI.len]
 have hcw:=Ij n;have hw9:=hok.len;have hbn:bnd n=12*cW n+1:=rfl;refine⟨_,rfl,aj ?_⟩;dsimp only;refine⟨_,rfl,p,rfl,⟨_,aP.of hI.tup⟩,?_⟩;refine kl (xs:=bs.map V.ref) (PR n p b pl fl H k ws pi xs)
  ⟨b,k,xs,⟨_,_,_,_,_,_,_,rfl⟩,hk,hko,gG.of (aE.refl _),hfl,Nat.le_add_right _ _,rfl,[],⟨[],(by simp),.nil⟩,rfl⟩ ?_ ?_ ?_
 ·rintro i σ H' _ ⟨kb,ki,ys,_,_,_,g,_⟩;exact aP.of (g.cL hfl _ _ hI.tup)
 ·rintro i v σ H' T hx ⟨kb,ki,ys,⟨o5,o6,o7,o8,o9,tR,tJ,rfl⟩,hki,hoi,g,hfl',hyz,hrun,tr,hLs,htr⟩ hT;obtain⟨a,x,rfl,ex,ha⟩:=hI.get hx;have N8:i<12:=by have:=(Sj.mp ex).1;omega
  have hic:i*cW n+cW n<=12*cW n:=by have:=Nat.mul_le_mul_right (cW n) N8;rw[Nat.succ_mul]at this;exact this
  have N3:=hok.ok (Sf ex);rw[oa ex]at hrun htr;rw[rE]at htr;have hrun:putL (bY n) pi 0 k.hd k.fl ws=gW (bY n ki.hd ki.fl (pi++[(i:Int)]) x) λh' f'=>putL (bY n) pi (i+1) h' f' (ws.drop (i+1)):=hrun;have sT:=ag hT (.tup [.int (i:Nat),.ref a]);refine⟨T,_,rfl,aP.of ae,rfl,_,_,rfl,aj ⟨_,_,rfl,aj ⟨rfl,?_⟩⟩⟩;dsimp only;refine⟨_,rfl,_,rfl,dH,λu1 rn=>?_⟩;have sU:=ag rn (.tup [.int (i:Nat)]);refine⟨pl,u1,_,_,rfl,rfl,sU _ _ (sT _ _ (g.cL hfl _ _ hpl)),ae,by rw[R7];exact R4 (show _+1<=1000 by omega) (by decide),λu2 H2 HF hu2=>aj ?_⟩;rw[Gs]at hu2;have s2:=sT.trans (sU.trans HF);dsimp only;obtain⟨hh,ph,hk1,hk2,hk3⟩:=hki;have hki:gI H' kb ki:=⟨hh,ph,hk1,hk2,hk3⟩;refine⟨_,rfl,.inl ⟨rfl,_,bc.of (s2 _ _ hfl')⟩,_,rfl,_,rfl,kb,_,0,_,rfl,rfl,aP.of (s2 _ _ hk1),ay (j:=0) rfl,_,rfl,kb,_,2,_,rfl,rfl,aP.of (s2 _ _ hk1),rfl,cM,λu3 sR=>?_⟩;have s3:=ag sR (.tup [.ref u2,.ref hh,.bl ki.lo]);refine⟨fl,_,_,rfl,rfl,s3 _ _ (s2 _ _ hfl'),R_ (show ys.length<=100000 by omega) (by decide),?_⟩;have g4:gG fl H' (upd (upd H2 u3 (.tup [.ref u2,.ref hh,.bl ki.lo])) fl (.lst (ys++[.ref u3]))):=(gG.of (s2.trans s3)).put;have zd:upd (upd H2 u3 (.tup [.ref u2,.ref hh,.bl ki.lo])) fl (.lst (ys++[.ref u3])) fl=some (.lst (ys++[.ref u3])):=ae;have p5:upd (upd H2 u3 (.tup [.ref u2,.ref hh,.bl ki.lo])) fl (.lst (ys++[.ref u3])) u2=some (.tup ((pi++[(i:Int)]).map V.int)):=by rw[aH (λz=>by have:=s2 _ _ hfl';rw[←z,hu2]at this;cases this)];exact s3 _ _ hu2
  have Gq:Dl (upd (upd H2 u3 (.tup [.ref u2,.ref hh,.bl ki.lo])) fl (.lst (ys++[.ref u3]))) xs (ys++[.ref u3]) (tr++[(pi++[(i:Int)],ki.hd,ki.lo)]):=by
   obtain⟨as,ey,K4⟩:=hLs;have n3:u3≠fl:=λz=>by have:=s2 _ _ hfl';rw[←z,sR]at this;cases this
   exact Dl.app (bs:=[u3]) ⟨as,ey,K4.keep (g4.cL hfl')⟩ (iJ.one (by rw[aH n3];exact ae) p5 (g4.cL hfl' _ _ hk2))
  revert g4 zd p5 Gq;generalize upd (upd H2 u3 (.tup [.ref u2,.ref hh,.bl ki.lo])) fl (.lst (ys++[.ref u3]))=H4;intro g4 zd p5 Gq;have LR:aQ H' H4:=g4.cL hfl';have NS:aQ H H4:=(g.cL hfl).trans LR;refine⟨Sr _,λL hL=>aj ?_⟩;have Na:L≠fl:=λz=>by rw[z,zd]at hL;cases hL
  dsimp only;refine rY (Q2 n p b pl fl kb i a u2 L H4 x ki k ws pi ys xs) (λT2 hT2=>?_) ?_
  ·have sL:=ag hL (.lst []);refine⟨_,rfl,a,x,rfl,ha.keep (NS.trans (aQ.of sL)),λu5 cs H5 s5 hJ=>⟨u5,rfl,⟨_,aP.of hJ.tup⟩,?_⟩⟩;have vh:(cs.map V.ref).length=(iD x).length:=by rw[R7,hJ.len]
   refine kl (xs:=cs.map V.ref) (P7 n p b pl fl kb i a u2 L H4 H5 x ki k ws pi ys xs)
    ⟨[],[],ys++[.ref u3],⟨_,_,_,rfl⟩,⟨s5 _ _ ae,rfl,λi a k e=>by cases e⟩,rfl,λk hk=>(by cases hk),aQ.refl,(gG.of sL).trans (gG.of s5),s5 _ _ (sL _ _ zd),?_,?_,?_,tr++[(pi++[(i:Int)],ki.hd,ki.lo)],(by obtain⟨as,ey,K4⟩:=Gq;exact⟨as,ey,K4.keep (aQ.of (sL.trans s5))⟩),(by rw[htr,KD];simp;rfl)⟩ ?_ ?_ ?_
   ·intro m _;rw[R8,Nat.zero_mul];simp
   ·intro _;rw[R8];simp
   ·rintro m rfl hb;exact IW hb
   ·rintro j σ H6 _ ⟨as,ks,zs,_,_,_,_,kT,_⟩;exact aP.of (kT _ _ hJ.tup)
   ·rintro j v σ H6 OX hv ⟨as,ks,zs,⟨o9,tR,tJ,rfl⟩,Ab,hkl,Gx,NV,g6,vx,Jf,_,kK,t6,Di,Dm⟩ hT2';obtain⟨c',pp,rfl,ep,ds,NC⟩:=hJ.get hv;have hbr:fz x=true:=by
     cases hq:fz x with
     |true=>rfl
     |false=>rw[(l9 hq).1]at ep;cases ep
    obtain⟨m,rfl⟩ :∃m,n=m+1:=by
     cases n with
     |zero=>rw[Mz ha]at hbr;cases hbr
     |succ m=>exact⟨m,rfl⟩
    have hj2:j<2:=by have:=(Sj.mp ep).1;rw[(pI hbr).1]at this;exact this
    have Jf:=Jf m rfl;have hcs:=xo m;have RQ:j*bnd m+bnd m<=2*bnd m:=by have:=Nat.mul_le_mul_right (bnd m) hj2;rw[Nat.succ_mul]at this;exact this
    have kK:=kK m rfl hbr;rw[oa ep]at kK;have sA:=ag hT2' (.tup [.int (j:Nat),.ref c']);refine⟨OX,_,rfl,aP.of ae,rfl,_,_,rfl,aj ⟨_,_,rfl,aj ⟨rfl,?_⟩⟩⟩;dsimp only;refine⟨_,rfl,.inl ⟨rfl,_,bc.of (sA _ _ Ab.lst)⟩,_,rfl,_,rfl,_,rfl,_,rfl,dH,λu7 GQ=>?_⟩;have sB:=ag GQ (.tup [.int (j:Nat)]);have Jn:aQ H4 H6:=g6.cL zd;refine⟨u2,u7,_,_,rfl,rfl,sB _ _ (sA _ _ (Jn _ _ p5)),ae,by rw[R7,R8];exact R4 (show _+1+1<=1000 by omega) (by decide),λu8 H8 s8 gX=>?_⟩;rw[Gs]at gX;have DB:=sA.trans (sB.trans s8);have Mm:=NV.trans (aQ.of DB);have g8:gG fl H H8:=(g.trans g4).trans (g6.trans (gG.of DB));have Mo:gI H8 kb ki:=(hki.keep LR).keep (Jn.trans (aQ.of DB));refine⟨_,rfl,c',kb,u8,fl,pp,ki,(pi++[(i:Int)])++[(j:Int)],zs,rfl,⟨⟨ds,NC.keep Mm λ_ _ z=>z.keep Mm⟩,Mo,gX,DB _ _ vx,(hok.2 x (Sf ex)).2 pp (Sf ep),hoi,by rw[R8,R8];show _+1+1+_<=_;omega,by omega⟩,?_,?_⟩
    ·intro a' s' he;have ht:putL (bY (m+1)) pi 0 k.hd k.fl ws=.no a' s':=by rw[hrun,kK];show gW (gW (putL (bY m) ((pi++[(i:Int)])++[(j:Int)]) 0 ki.hd ki.fl pp) _) _=_;rw[he];rfl
     exact λe dx q' H9 g9=>qx a' s' ht e dx q' H9 (g8.trans g9)
    ·intro h' f' he u k' H9 O7 g9 hk' Ku eh ef MB KN hB9;have hL9:H9 L=some (.lst (as.map V.ref)):=g9 _ _ Na (DB _ _ Ab.lst);have MP:aQ H8 H9:=g9.cL (DB _ _ vx);refine⟨L,_,_,rfl,rfl,hL9,?_,as++[u],ks++[k'],zs++O7.map V.ref,⟨_,_,_,rfl⟩,?_,?_,?_,(Mm.trans MP).iw hL9,?_,?_,?_,?_,?_,t6++TL m ((pi++[(i:Int)])++[(j:Int)]) 0 ki.hd ki.fl pp,?_,?_⟩
     ·rw[R7,Ab.len,hkl];exact Nat.lt_trans hj2 (by decide)
     ·refine u_ Ab (λa k z=>z.keep (((aQ.of DB).trans MP).iw hL9)) (hk'.keep (aQ.refl.iw hL9)) ?_;rw[ae,R9];rfl
     ·rw[R8,hkl];rfl
     ·intro k2 hk2;rcases So.mp hk2 with z|z
      ·exact Gx k2 z
      ·rw[Sk.mp z];exact Ku
     ·exact gG.new hL ((g6.trans (gG.of DB)).trans g9)
     ·rw[aH (Ne.symm Na)];exact MB
     ·rintro m' e;cases e;rw[R8,Nat.succ_mul,R7];omega
     ·intro z;cases z
     ·rintro m' e _;cases e;rw[kK];show gW (putL (bY m) ((pi++[(i:Int)])++[(j:Int)]) 0 ki.hd ki.fl pp) _=_;rw[he];show BI (bY m) x ki.hd ki.fl (pi++[(i:Int)]) _ (j+1) (nC ks++[(h',f')])=_;rw[show nC (ks++[k'])=nC ks++[(h',f')] by rw[nC,R9,←eh,←ef];rfl]
     ·obtain⟨JX,Lm,BW⟩:=Di;have PJ:aQ H6 (upd H9 L (.lst (as.map V.ref++[.ref u]))):=((aQ.of DB).trans MP).iw hL9;exact Dl.app ⟨JX,Lm,BW.keep PJ⟩ (hB9.keep (aQ.refl.iw hL9))
     ·rw[Dm,Gm (oa ep) he];simp only[List.append_assoc]
   ·rintro σ H6 ⟨as,ks,zs,⟨o9,tR,tJ,rfl⟩,Ab,hkl,Gx,NV,g6,vx,Jf,hz0,kK,t6,Di,Dm⟩;rw[vh]at hkl Jf hz0 kK Dm;refine hT2 _ _ ⟨as,ks,zs,⟨_,_,_,rfl⟩,Ab,hkl,Gx,g6.cL zd,g6,vx,?_,?_,t6,Di,(by rw[Dm,Ea (R3 _)];rfl)⟩
    ·cases hq:fz x with
     |false=>have:=hz0 (by rw[(l9 hq).1];rfl);omega
     |true =>
      obtain⟨m,rfl⟩ :∃m,n=m+1:=by
       cases n with
       |zero=>rw[Mz ha]at hq;cases hq
       |succ m=>exact⟨m,rfl⟩
      have:=Jf m rfl;rw[(pI hq).1]at this;rw[xo];omega
    ·intro hq;obtain⟨m,rfl⟩ :∃m,n=m+1:=by
      cases n with
      |zero=>rw[Mz ha]at hq;cases hq
      |succ m=>exact⟨m,rfl⟩
     have:=kK m rfl hq;rw[List.drop_length]at this;exact this
  rintro σ H6 ⟨as0,OJ,zs,⟨o9,tR,tJ,rfl⟩,pK,Ew,M6,Jn,g6,vx,Jf,kK,t6,Di,Dm⟩;refine rY (QG n p b pl fl kb i a u2 L H4 x ki k ws pi zs xs o9 tR tJ) (λT3 LL=>?_) ?_
  ·refine⟨_,rfl,L,_,rfl,.inl (bc.of pK.lst),rfl,_,rfl,?_⟩;cases hq:fz x with
   |false =>
    have e0:as0=[]:=List.eq_nil_of_length_eq_zero (by rw[pK.len,Ew,(l9 hq).1];rfl);subst e0;have ek:OJ=[]:=List.eq_nil_of_length_eq_zero (by rw[Ew,(l9 hq).1];rfl);subst ek;refine cB ⟨_,rfl,.inl ⟨rfl,_,bc.of pK.lst⟩,_,rfl,L,_,_,rfl,rfl,pK.lst,(by show 0<sizeLine;decide),LL _ _ ⟨[kb],[ki],rfl,?_,(l9 hq).2.symm,?_,λ_=>rfl,Jn.iw pK.lst,gG.new hL g6,?_,?_,t6,?_,Dm⟩⟩
    ·exact u_ pK (λa k z=>z.keep (aQ.refl.iw pK.lst)) ((hki.keep LR).keep (Jn.iw pK.lst)) (by rw[ae];rfl)
    ·intro k2 hk2;rw[Sk.mp hk2];exact hoi
    ·rw[aH (Ne.symm Na)];exact vx
    ·exact DM hq
    ·obtain⟨JX,Lm,BW⟩:=Di;exact⟨JX,Lm,BW.keep (aQ.refl.iw pK.lst)⟩
   |true =>
    have e2:as0.length=2:=by rw[pK.len,Ew,(pI hq).1]
    rw[R5 (by rw[R7,e2];intro z;cases z)];exact cq (bL (LL _ _ ⟨as0,OJ,rfl,pK,by rw[Ew,(pI hq).1,(pI hq).2],M6,λz=>(by rw[hq]at z;cases z),Jn,g6,vx,kK hq,t6,Di,Dm⟩))
  rintro σ H7 ⟨as,ks,rfl,Ab,hkn,EY,hone,M0,g7,Ny,CA,t7,Je,MK⟩;have OP:aQ H H7:=NS.trans M0;have Lg:gI H7 kb ki:=(hki.keep LR).keep M0;have hla:(as.map V.ref).length=ks.length:=by rw[R7,Ab.len]
  have hn2:ks.length<=2:=by rw[hkn];exact Cn
  refine⟨_,rfl,_,rfl,_,rfl,L,rfl,⟨_,bc.of Ab.lst⟩,λD2 hD2=>?_⟩;refine dn (xs:=as.map V.ref) (λi σ ys H'=>(∃o1 o2 o3,σ=[o1,o2,o3])/\(∃bs:List Addr,ys=bs.map V.ref/\bs.length=i/\∀(j:Nat) a k,bs[j]? = some a->ks[j]? = some k->gE H7 a k.hd)/\H' D2=some (.lst ys)/\aE H7 H') ⟨⟨none,none,none,rfl⟩,⟨[],rfl,rfl,λj a k e=>by cases e⟩,ae,ag hD2 _⟩ ?_ ?_ ?_ ?_ ?_
  ·rintro i σ ys H' _ ⟨_,⟨bs,rfl,hi,_⟩,h,_⟩;exact⟨h,by rw[R7];exact S0 hi⟩
  ·rintro i σ ys H' _ ⟨_,_,_,sm⟩;exact bc.of (sm _ _ Ab.lst)
  ·rw[hla];exact R4 hn2 (by decide)
  ·rintro i v σ ys H' hv ⟨⟨o1,o2,o3,rfl⟩,⟨bs,rfl,hi,hb⟩,h,sm⟩;obtain⟨b',k',rfl,ek,hh',p',hq1,hq2,RT⟩:=Ab.get hv;refine⟨b',_,rfl,aP.of (sm _ _ hq1),rfl,_,_,rfl,aj ⟨_,_,rfl,aj ⟨_,_,rfl,aj ⟨rfl,?_⟩⟩⟩⟩;refine⟨_,rfl,h,⟨_,_,_,rfl⟩,⟨bs++[hh'],by rw[R9];rfl,by rw[R8,hi];rfl,λj a k e1 e2=>?_⟩,ae,a_ hD2 sm⟩;by_cases hj:j<bs.length
   ·rw[Sv hj]at e1;exact hb j a k e1 e2
   ·have hj':j=bs.length:=by have:=(Sj.mp e1).1;rw[R8]at this;simp at this;omega
    rw[hj',Su (R3 _),Nat.sub_self]at e1;cases e1;rw[hj',hi,ek]at e2;cases e2;exact hq2
  rintro σ ys' H8 ⟨_,⟨ds,rfl,hi,hb⟩,h8,s8⟩;rw[hla]at hi;have QL:=OP.trans (aQ.of s8);refine⟨a,kb,D2,x,ki,ds,kq ks,rfl,ha.keep QL,Lg.same s8,yd h8 hi (λi a k e1 e2=>s8 _ _ (hb i a k e1 e2)),by rw[kq,R7,hkn],N3,R4 hoi.few (by decide),λh hh=>by obtain⟨k,hk,rfl⟩:=Sl.mp hh;exact R4 (EY k hk).hd (by decide),λH9 s9=>aj ?_⟩;have Hz:=s8.trans s9;have PB:=OP.trans (aQ.of Hz);have g9:gG fl H H9:=(g.trans g4).trans (g7.trans (gG.of Hz));rw[IL];have hfin:pR x ki.hd ki.fl (pi++[(i:Int)]) (nC ks)=match oP x ki.fl (kq ks)with|some s=>.no (pi++[(i:Int)]) s|none=>.ok (bh x (kq ks)) (xl x ki.hd ki.fl (ks.map Kn.fl)):=by unfold pR;rw[DF,Du];first|done | (cases oP x ki.fl (kq ks)<;>rfl)
  cases ew:oP x ki.fl (kq ks)with
  |some s =>
   rw[ew]at hfin;have ht:putL (bY n) pi 0 k.hd k.fl ws=.no (pi++[(i:Int)]) s:=by rw[hrun,CA,hfin];rfl
   dsimp only;refine⟨_,rfl,rfl,_,rfl,cB ⟨_,rfl,_,rfl,c5,λe he=>?_⟩⟩;have ne:∀d o,H9 d=some o->d≠e:=λd o z y=>by subst y;rw[he]at z;cases z
   refine⟨e,_,_,rfl,ae,Cf.xc,Cf.np,Cf.nr,λdx H3 hdx keep h2 h3=>⟨rfl,e,some dx,rfl,h2,?_⟩⟩;have kk:∀d o,H9 d=some o->H3 d=some o:=λd o z=>keep d o (ne d o z) (by rw[aH (ne d o z)];exact z);have O0:dx≠e:=λy=>by subst y;rw[ae]at hdx;cases hdx
   have OL:H9 u2=some (.tup ((pi++[(i:Int)]).map V.int)):=(M0.trans (aQ.of Hz)) _ _ p5;refine qx _ s ht e dx u2 _ (λd o nd z=>?_) ae (by rw[aH O0];exact h3) ?_
   ·have z9:=g9 _ _ nd z;rw[aH (ne d o z9)];exact kk _ _ z9
   ·rw[aH (ne u2 _ OL)];exact kk _ _ OL
  |none =>
   rw[ew]at hfin;obtain⟨hfit,MA⟩:=DO ew;dsimp only;refine⟨_,rfl,rfl,_,rfl,cq (bL ?_)⟩;dsimp only;refine⟨_,rfl,_,rfl,_,rfl,a,kb,L,x,ki,as,ks,rfl,ha.keep PB,Lg.same Hz,Ab.same Hz,⟨hkn,N3,hfit,DA hone hfit,λk hk=>R4 (EY k hk).hd (by decide),λk hk=>R4 (EY k hk).few (by decide)⟩,λu k' xr p7 hk' e1 e2 e3=>aj ?_⟩;refine⟨u,k',zs,⟨_,_,_,_,_,_,_,rfl⟩,hk',nK.next EY (by rw[e1];exact MA) e2,g9.trans (gG.of p7),p7 _ _ (Hz _ _ Ny),?_,?_,t7,?_,?_⟩
   ·rw[Nat.succ_mul];omega
   ·rw[hrun,CA,hfin,e1,F8 e2 e3];rfl
   ·obtain⟨JX,Lm,BW⟩:=Je;exact⟨JX,Lm,BW.keep (aQ.of (Hz.trans p7))⟩
   ·rw[MK,CA,hfin,e1,F8 e2 e3];rfl
 ·rintro σ H' ⟨kb,ki,ys,⟨o5,o6,o7,o8,o9,tR,tJ,rfl⟩,hki,hoi,g,hfl',hyz,hrun,tr,hLs,htr⟩;rw[hlb]at hyz hrun htr;rw[List.drop_length]at hrun htr;have RN:=Nat.mul_le_mul_right (cW n) hw9;obtain⟨hh,ph,hk1,hk2,hk3⟩:=hki;have k0:=g.cL hfl;dsimp only;refine⟨_,rfl,.inl ⟨rfl,_,bc.of hfl'⟩,_,rfl,_,rfl,p,_,rfl,.inr (aP.of (k0 _ _ hI.tup)),dH,λu1 rn=>?_⟩;have sU:=ag rn (.tup [.int ((bs.map V.ref).length:Nat)]);refine⟨pl,u1,_,_,rfl,rfl,sU _ _ (k0 _ _ hpl),ae,by rw[R7];exact R4 (show _+1<=1000 by omega) (by decide),λu2 H2 HF hu2=>?_⟩;have s2:=sU.trans HF;refine⟨_,rfl,kb,_,0,_,rfl,rfl,aP.of (s2 _ _ hk1),ay (j:=0) rfl,_,rfl,kb,_,2,_,rfl,rfl,aP.of (s2 _ _ hk1),rfl,cM,λu3 sR=>?_⟩;have s3:=ag sR (.tup [.ref u2,.ref hh,.bl ki.lo]);have LH:=s2.trans s3;refine⟨fl,_,_,rfl,rfl,LH _ _ hfl',R_ (show ys.length<=100000 by omega) (by decide),_,rfl,?_⟩;have kU:aQ H' (upd (upd H2 u3 (.tup [.ref u2,.ref hh,.bl ki.lo])) fl (.lst (ys++[.ref u3]))):=(aQ.of LH).iw (LH _ _ hfl');obtain⟨as,ey,K4⟩:=hLs;have nf:u3≠fl:=λz=>by have:=s2 _ _ hfl';rw[←z,sR]at this;cases this
  have n2:u2≠fl:=λz=>by have:=s2 _ _ hfl';rw[←z,hu2]at this;cases this
  rw[Gs]at hu2;have hone:iJ (upd (upd H2 u3 (.tup [.ref u2,.ref hh,.bl ki.lo])) fl (.lst (ys++[.ref u3]))) [u3] [(pi++[((bs.map V.ref).length:Int)],ki.hd,ki.lo)]:=iJ.one (by rw[aH nf];exact ae) (by rw[aH n2];exact s3 _ _ hu2) (kU _ _ hk2);refine q ki.hd ki.fl hrun kb ki _ (as++[u3]) (g.trans (gG.of LH)).put ⟨hh,ph,kU _ _ hk1,kU _ _ hk2,kU _ _ hk3⟩ hoi rfl rfl ?_ ?_ ?_
  ·rw[ae,ey,R9,List.append_assoc];rfl
  ·rw[ey,R8,R7]at hyz;rw[R8];show as.length+1<=_;omega
  ·rw[htr,←hlb];exact(K4.keep kU).app hone
def f0:Fl:=⟨false,false,false,false,false⟩
def sO(n:Nat)(hd:Hd)(ws:List Wk):Res:=putL (bY n) [] 0 hd f0 ws
def OK(C:Addr)(H:Hp)(a:List Int)(s:Str)(E:XK):Prop:=∀(e dx q:Addr)(H':Hp),aE H H'->H' e=some (xO e C (some dx))->H' dx=some (xD dx (Hn (.ref q) (.str s)))->H' q=some (.tup (a.map V.int))->E (.ref C) (some e) H'
structure MV(n:Nat)(H:Hp)(a p:Addr)(hd:Hd)(ws:List Wk):Prop where
 f_:gE H a hd
 six:hd.length<=6
 pp:nW n H p ws
 ok:DG n ws
def BM(C:Addr)(n:Nat):Sp:=λvs H Q E=>∃(a p:Addr)(hd:Hd)(ws:List Wk),vs=[.ref a,.ref p]/\MV n H a p hd ws/\2*n<=100/\bnd n<=100000/\
 (∀x s,sO n hd ws=.no x s->OK C H x s E)/\
 (∀h f,sO n hd ws=.ok h f->∀(l:Addr)(H':Hp)(as:List Addr),aE H H'->H' l=some (.lst (as.map V.ref))->iJ H' as (TL n [] 0 hd f0 ws)->Q (.ref l) H')
theorem lg{fl:Addr}{H H1 H':Hp}(hn:H fl=none)(s:aE H H1)(g:gG fl H1 H'):aE H H':=λb o e=>g _ _ (aW e hn) (s _ _ e)
abbrev pA:Stmt:=top 49
theorem qT:au ["head","pipe","found"] ["head","pipe"] (ao pA):=fs
theorem zt{C:Addr}{n L:Nat}(F:FA K mg "survey" pA)
  (ja:bB (vf P w) P w K mg base (L+6) "go_through" ["pipe","begun","prefix","found"] (xT C (n+1))) :
  bB (vf P w) P w K mg base (L+7) "survey" ["head","pipe"] (BM C n):=by
 refine F.Iq qT λf cdv A outer s H vs Q E hr h=>?_;have hu:=gX hr;have hu1:=jn hr;obtain⟨a,p,hd,ws,rfl,hI,hn2,hbn,qx,q⟩:=h;refine⟨_,(ak (aX (i:=2) qT.nd rfl (SQ rfl) (bJ ah))
   (ak (cY (qP ja hr rfl xM (aa (pv 1) (aa (aY (aa (pv 0) (aa (aY ah) (aa cC ah)))) (aa (aY ah) (aa (pv 2) ah))))))
   (ax (pv 2)))),?_⟩
 refine⟨Sr _,λF hF=>aj ?_⟩;dsimp only;have s0:=ag hF (.lst []);have Ib:upd H F (.lst []) F=some (.lst []):=ae;revert s0 Ib;generalize upd H F (.lst [])=H0;intro s0 Ib;refine⟨_,rfl,_,rfl,vM,λu1 rn=>?_⟩;have s1:=ag rn (.tup []);refine⟨cM,λu2 hu2=>?_⟩;have s2:=ag hu2 (.tup [.ref a,.ref u1,.bl false]);refine⟨vM,λu3 sR=>?_⟩;have s3:=ag sR (.tup []);have Jg:=s0.trans (s1.trans (s2.trans s3));have vk:=s1.trans (s2.trans s3);have e1:=s3 _ _ (s2 _ _ (ae (H:=H0) (a:=u1) (o:=.tup [])));have e2:=s3 _ _ (ae (H:=upd H0 u1 (.tup [])) (a:=u2) (o:=.tup [.ref a,.ref u1,.bl false]));have e3:upd (upd (upd H0 u1 (.tup [])) u2 (.tup [.ref a,.ref u1,.bl false])) u3 (.tup []) u3=some (.tup []):=ae;revert Jg vk e1 e2 e3;generalize upd (upd (upd H0 u1 (.tup [])) u2 (.tup [.ref a,.ref u1,.bl false])) u3 (.tup [])=H3;intro Jg vk e1 e2 e3;refine⟨_,rfl,p,u2,u3,F,ws,⟨hd,[],false⟩,[],[],rfl,⟨hI.pp.keep (aQ.of Jg),⟨a,u1,e2,Jg _ _ hI.f_,e1⟩,e3,vk _ _ Ib,hI.ok,⟨hI.six,List.nodup_nil,λs hs=>(by cases hs)⟩,by simpa using hn2,by simpa using hbn⟩,?_,?_⟩
 ·intro x s he e dx q' H' g;exact qx x s he e dx q' H' (lg hF Jg g)
 ·intro h f he u k' H' as g hk' Ku eh ef hfl' KN hT;exact⟨_,rfl,q h f he F H' as (lg hF Jg g) (by rw[List.nil_append]at hfl';exact hfl') hT⟩
structure Kp(K:S7)(mg:Str->Option Value)(C:Addr):Prop where
 xc:tM K C
 LC:iQ K C rq "ValueError.__new__" none=true
 mf:mg "NoPlace"=some (.ref C)
def seek(t:Tr)(p:List Int):Option (Hd×Bool):=(t.find? λe=>decide (e.1=p)).map (·.2)
def Dc(CP:Addr):Sp:=λvs H Q E=>∃(l pa:Addr)(as:List Addr)(t:Tr)(p:List Int),vs=[.ref l,.ref pa]/\H l=some (.lst (as.map V.ref))/\iJ H as t/\H pa=some (.tup (p.map V.int))/\
 (seek t p=none->∀(e:Addr)(H':Hp),aE H H'->H' e=some (xO e CP none)->E (.ref CP) (some e) H')/\
 (∀b,seek t p=some b->∀(u hh:Addr)(H':Hp),aE H H'->H' u=some (.tup [.ref hh,.bl b.2])->gE H' hh b.1->Q (.ref u) H')
def dI(p:List Int):D:=.tup (p.map D.int)
theorem uR{K:S7}{H:Hp}{a:Addr}{p:List Int}(h:H a=some (.tup (p.map V.int))):aV K H (dI p) (.ref a):=by
 refine cE h (aD.of (by rw[R7,R7]) λi d v e1 e2=>?_);rw[Sw]at e1 e2;cases q:p[i]? with
 |none=>rw[q]at e1;cases e1
 |some x=>rw[q]at e1 e2;cases e1;cases e2;exact lY x
theorem NT:∀(p q:List Int),fD (p.map D.int) (q.map D.int)=decide (p=q)
 |[],[]=>by rw[List.map_nil,fD];rfl
 |[],y::q=>by rw[List.map_nil,S2];simp[fD]
 |x::p,[]=>by rw[List.map_nil,S2];simp[fD]
 |x::p,y::q=>by rw[S2,S2,fD,NT p q,cI];rw[Bool.eq_iff_iff];simp
theorem Lb(p q:List Int):cI (dI p) (dI q)=decide (p=q):=by unfold dI;rw[cI];exact NT p q
theorem Fo(p:List Int):(dI p).depth<=1:=by
 unfold dI;rw[D.depth];have:∀l:List Int,b_ (l.map D.int)=0:=λl=>by
  induction l with
  |nil=>rfl
  |cons a l ih=>rw[S2,b_,ih];simp[D.depth]
 rw[this];exact R3 _
theorem xI{t:Tr}{p:List Int}{i:Nat}{e:List Int×Hd×Bool}(h:∀e∈t.take i,e.1≠p)(he:t[i]? = some e)(ep:e.1=p):seek t p=some e.2:=by
 have e0:t=t.take i++e::t.drop (i+1):=by rw[←oa he,List.take_append_drop]
 unfold seek;rw[e0,List.find?_append,List.find?_eq_none.mpr λx hx=>(by simpa using h x hx)];simp[ep]
theorem DV{t:Tr}{p:List Int}(h:∀e∈t,e.1≠p):seek t p=none:=by unfold seek;rw[List.find?_eq_none.mpr λx hx=>(by simpa using h x hx)];rfl
abbrev j8:Stmt:=top 50
theorem i7:au ["seen","place","there","head","loose"] ["seen","place"] (ao j8):=fs
theorem EX{CP:Addr}(Cp:Kp K mg CP)(F:FA K mg "look_up" j8) :
  bB (vf P w) P w K mg base 1 "look_up" ["seen","place"] (Dc CP):=by
 refine F.Iq i7 λf cdv A outer s H vs Q E hr h=>?_;have hu:=gX hr;obtain⟨l,pa,as,t,p,rfl,hl,hT,hp,qx,q⟩:=h;refine⟨_,(ak (fi (v_ pD) rfl (c0 (pv 0)) (bS rfl (aq (aL (i:=2) i7.nd rfl (SQ rfl)) (aq (aL (i:=3) i7.nd rfl (SQ rfl)) (aq (aL (i:=4) i7.nd rfl (SQ rfl)) bz))))
    (cb (gN (bu w6 (pv 2) (pv 1))
      (ax (aY (aa (pv 3) (aa (pv 4) ah))))
      dk)))
   (cb (Al rfl Cp.LC rfl Cp.mf (aa av ah)))),?_⟩
 have hd:∀q:List Int,(A.deeper (PyProof.Rows.envOfC "look_up" (ao j8) s.heap.objs.size f cdv)).units+(dI q).depth<cLine:=λq=>by have:=Fo q;have:=hu;omega
 refine⟨_,rfl,l,rfl,⟨_,bc.of hl⟩,?_⟩;refine tL (xs:=as.map V.ref) (λi σ H'=>(∃o2 o3 o4,σ=[some (.ref l),some (.ref pa),o2,o3,o4])/\H'=H/\∀e∈t.take i,e.1≠p) ⟨⟨none,none,none,rfl⟩,rfl,by simp⟩ ?_ ?_ ?_
 ·rintro i σ H' _ ⟨_,rfl,_⟩;exact bc.of hl
 ·rintro i v σ H' hv ⟨⟨o2,o3,o4,rfl⟩,rfl,hall⟩;rw[Sw]at hv;cases ea:as[i]? with
  |none=>rw[ea]at hv;cases hv
  |some a =>
   rw[ea]at hv;have hv':V.ref a=v:=Ss hv;subst hv';have hi:i<t.length:=by rw[←hT.len];exact(Sj.mp ea).1
   have et:t[i]? = some t[i]:=Sd hi;obtain⟨c,hh,h1,h2,h3⟩:=hT.at_ i a _ ea et;refine⟨a,_,rfl,aP.of h1,rfl,_,_,rfl,aj ⟨_,_,rfl,aj ⟨_,_,rfl,aj ⟨rfl,?_⟩⟩⟩⟩;dsimp only;refine⟨_,rfl,_,rfl,dI t[i].1,dI p,uR h2,uR hp,hd _,_,rfl,?_⟩;rw[Lb];refine fJ (λc=>?_) λc=>?_
   ·have c':t[i].1=p:=SI c;refine⟨_,rfl,_,rfl,c5,λu hu'=>?_⟩;exact q _ (xI hall et c') u hh _ (ag hu' _) ae (ag hu' _ _ _ h3)
   ·refine bL ⟨⟨_,_,_,rfl⟩,rfl,λe he=>?_⟩;rw[List.take_add_one,et]at he;rcases So.mp he with z|z
    ·exact hall e z
    ·have:e=t[i]:=by simpa using z
     rw[this];exact λz=>c (R6 z)
 ·rintro σ H' ⟨⟨o2,o3,o4,rfl⟩,rfl,hall⟩;rw[R7,hT.len,SR]at hall;refine⟨dH,λe he=>?_⟩;exact qx (DV hall) e _ (ag he _) ae
end My
namespace L2
open PySem PySem.Spec PyProof.Rows
section
variable{κ:Type} [DecidableEq κ]
def fY(kvs:List (κ×V))(k:κ):Option V:=(kvs.find? λkv=>decide (kv.1=k)).map (·.2)
def putK(kvs:List (κ×V))(k:κ)(v:V):List (κ×V) :=
 if(kvs.any λkv=>decide (kv.1=k))=true then kvs.map (λkv=>if kv.1=k then(kv.1,v)else kv)else kvs++[(k,v)]
theorem c7{p:κ×V}{r:List (κ×V)}{k:κ}(e:p.1=k):fY (p::r) k=some p.2:=by simp[fY,List.find?_cons,e]
theorem c8{p:κ×V}{r:List (κ×V)}{k:κ}(e:¬p.1=k):fY (p::r) k=fY r k:=by simp[fY,List.find?_cons,e]
theorem lK(k:κ):∀kvs:List (κ×V),(kvs.any λkv=>decide (kv.1=k))=(fY kvs k).isSome
 |[]=>rfl
 |p::r=>by
  rw[S4];by_cases e:p.1=k
  ·simp only[c7 e,R6 e,Bool.true_or,Option.isSome_some]
  ·rw[c8 e,R5 e,Bool.false_or];exact lK k r
theorem vb(k j:κ)(y:V):∀kvs:List (κ×V),fY (kvs.map λkv=>if kv.1=k then(kv.1,y)else kv) j=(fY kvs j).map λx=>if j=k then y else x
 |[]=>rfl
 |p::r=>by
  have ih:=vb k j y r;rw[S2];by_cases h:p.1=k
  ·rw[SM h];by_cases e:p.1=j
   ·rw[c7 (p:=(p.1,y)) e,c7 e,Option.map_some,SM (e.symm.trans h)]
   ·rw[c8 (p:=(p.1,y)) e,c8 e,ih]
  ·rw[SK h];by_cases e:p.1=j
   ·rw[c7 (p:=p) e,c7 e,Option.map_some,SK (λz=>h (e.trans z))]
   ·rw[c8 (p:=p) e,c8 e,ih]
theorem rf(k j:κ)(y:V):∀kvs:List (κ×V),fY kvs k=none->fY (kvs++[(k,y)]) j=if j=k then some y else fY kvs j
 |[],_=>by
  by_cases e:k=j
  ·rw[SM e.symm];exact c7 (p:=(k,y)) e
  ·rw[SK (λz=>e z.symm)];exact c8 (p:=(k,y)) e
 |p::r,hn=>by
  rw[List.cons_append];have hk:¬p.1=k:=λz=>by rw[c7 z]at hn;cases hn
  rw[c8 hk]at hn;have ih:=rf k j y r hn;by_cases e:p.1=j
  ·rw[c7 e,c7 e,SK (λz=>hk (e.trans z))]
  ·rw[c8 e,c8 e,ih]
theorem lL(kvs:List (κ×V))(k j:κ)(y:V):fY (putK kvs k y) j=if j=k then some y else fY kvs j:=by
 unfold putK;by_cases a:(kvs.any λkv=>decide (kv.1=k))=true
 ·rw[SM a,vb];rw[lK]at a;by_cases e:j=k
  ·obtain⟨x,hx⟩:=Option.isSome_iff_exists.mp a;rw[SM e,e,hx,Option.map_some,SM rfl]
  ·rw[SK e];cases fY kvs j with
   |none=>rfl
   |some x=>rw[Option.map_some,SK e]
 ·rw[SK a];refine rf k j y kvs ?_;rw[lK]at a;cases q:fY kvs k with
  |none=>rfl
  |some x=>rw[q]at a;exact(a rfl).elim
theorem js(kvs:List (κ×V))(k:κ)(v:V):(putK kvs k v).length<=kvs.length+1:=by
 unfold putK;split
 ·rw[R7];omega
 ·rw[R8,SG,List.length_nil];omega
theorem i9.zq{o:Option V}{u:Option Value}(r:i9 o u):o.isSome=u.isSome:=by
 cases o with
 |none=>cases u with
  |none=>rfl
  |some _=>exact(show False from r).elim
 |some _=>cases u with
  |none=>exact(show False from r).elim
  |some _=>rfl
theorem KV.val{kvs:List (κ×V)}{vs:List (κ×Value)}(r:KV kvs vs)(k:κ):i9 (fY kvs k) (valueAt vs k):=by
 unfold KV at r;induction r with
 |nil=>exact True.intro
 | @cons p q ps qs h t ih =>
  obtain⟨h1,h2⟩:=h;by_cases e:p.1=k
  ·have e':q.1=k:=h1.symm.trans e;have b:valueAt (q::qs) k=some q.2:=by simp[valueAt,List.find?_cons,e']
   rw[c7 e,b];exact h2
  ·have e':¬q.1=k:=λz=>e (h1.trans z);have b:valueAt (q::qs) k=valueAt qs k:=by simp[valueAt,List.find?_cons,e']
   rw[c8 e,b];exact ih
theorem KV.any{kvs:List (κ×V)}{vs:List (κ×Value)}(r:KV kvs vs)(k:κ):(kvs.any λkv=>decide (kv.1=k))=vs.any λkv=>decide (kv.1=k):=by
 unfold KV at r;induction r with
 |nil=>rfl
 |cons h t ih=>rw[S4,S4,ih,h.1]
theorem KV.repl{kvs:List (κ×V)}{vs:List (κ×Value)}(r:KV kvs vs)(k:κ){y:V}{u:Value}(ry:RelV y u) :
  KV (kvs.map λkv=>if kv.1=k then(kv.1,y)else kv) (vs.map λkv=>if kv.1=k then(kv.1,u)else kv):=by
 unfold KV at r⊢;induction r with
 |nil=>exact .nil
 | @cons p q ps qs h t ih =>
  rw[S2,S2];refine .cons ?_ ih;obtain⟨h1,h2⟩:=h;by_cases e:p.1=k
  ·rw[SM e,SM (h1.symm.trans e)];exact⟨h1,ry⟩
  ·rw[SK e,SK (λz=>e (h1.trans z))];exact⟨h1,h2⟩
theorem KV.put{kvs:List (κ×V)}{vs:List (κ×Value)}(r:KV kvs vs)(k:κ){y:V}{u:Value}(ry:RelV y u):KV (putK kvs k y) (stored vs k u):=by
 unfold putK stored;rw[r.any k];by_cases e:(vs.any λkv=>decide (kv.1=k))=true
 ·rw[SM e,SM e];exact r.repl k ry
 ·rw[SK e,SK e];exact Paired.snoc r ⟨rfl,ry⟩
theorem KV.length{kvs:List (κ×V)}{vs:List (κ×Value)}(r:KV kvs vs):kvs.length=vs.length:=Paired.length r
end
theorem CL{P:Program}{w:World}{k:Key}{u:Value}(r:RelV (kV k) u):(bH P w).is k u=true:=by
 cases k with
 |inl i=>obtain⟨t,e⟩:=(show∃t,u=Value.int i t from r);subst e;exact um P w i t
 |inr x=>obtain⟨t,e⟩:=(show∃t,u=Value.str x t from r);subst e;exact tH P w x t
theorem Kj{P:Program}{w:World}{k:cN}{u:Value}(r:RelV (oV k) u):(optKind P w).is k u=true:=by
 cases k with
 |none=>obtain rfl:u=Value.none:=r;rfl
 |some k=>exact CL (P:=P) (w:=w) r
theorem qK{P:Program}{w:World}:∀{ks:List cN}{us:List Value},Vals (ks.map oV) us->ItemsAre (optKind P w) ks us
 |[],_,r=>by rw[List.map_nil]at r;cases r;exact .nil
 |k::ks,_,r=>by
  rw[S2]at r;cases r with
  |cons h t=>exact .cons (Kj h) (qK t)
abbrev KT(H:Hp):List (List cN×V)->List (List cN×Addr×Value)->Prop:=Paired λp q=>p.1=q.1/\H q.2.1=some (.tup (p.1.map oV))/\RelV p.2 q.2.2
theorem KT.val{H:Hp}{kvs:List (List cN×V)}{xs:List (List cN×Addr×Value)}(r:KT H kvs xs)(k:List cN):i9 (fY kvs k) ((atKey xs k).map (·.2)):=by
 induction r with
 |nil=>exact True.intro
 | @cons p q ps qs h t ih =>
  obtain⟨h1,_,h2⟩:=h;by_cases e:p.1=k
  ·have e':q.1=k:=h1.symm.trans e;have b:atKey (q::qs) k=some q.2:=by simp[atKey,List.find?_cons,e']
   rw[c7 e,b];exact h2
  ·have e':¬q.1=k:=λz=>e (h1.trans z);have b:atKey (q::qs) k=atKey qs k:=by simp[atKey,List.find?_cons,e']
   rw[c8 e,b];exact ih
theorem KT.repl{H:Hp}{kvs:List (List cN×V)}{xs:List (List cN×Addr×Value)}(r:KT H kvs xs)(k:List cN){y:V}{u:Value}(ry:RelV y u) :
  KT H (kvs.map λkv=>if kv.1=k then(kv.1,y)else kv) (xs.map (putAt k u)):=by
 induction r with
 |nil=>exact .nil
 | @cons p q ps qs h t ih =>
  rw[S2,S2];refine .cons ?_ ih;obtain⟨h1,h2,h3⟩:=h;unfold putAt;by_cases e:p.1=k
  ·rw[SM e,SM (h1.symm.trans e)];exact⟨h1,h2,ry⟩
  ·rw[SK e,SK (λz=>e (h1.trans z))];exact⟨h1,h2,h3⟩
theorem KT.put{H:Hp}{kvs:List (List cN×V)}{xs:List (List cN×Addr×Value)}(r:KT H kvs xs)(k:List cN){b:Addr}{y:V}{u:Value}(hb:H b=some (.tup (k.map oV)))(ry:RelV y u) :
  KT H (putK kvs k y) (storedH xs k b u):=by
 have e:(kvs.any λkv=>decide (kv.1=k))=(atKey xs k).isSome:=by rw[lK,(r.val k).zq,Option.isSome_map]
 unfold putK storedH;rw[e];by_cases q:(atKey xs k).isSome=true
 ·rw[SM q,SM q];exact r.repl k ry
 ·rw[SK q,SK q];exact Paired.snoc r ⟨rfl,hb,ry⟩
theorem KT.keeps{H H':Hp}{kvs:List (List cN×V)}{xs:List (List cN×Addr×Value)}(r:KT H kvs xs)(ht:∀b ys,H b=some (.tup ys)->H' b=some (.tup ys)):KT H' kvs xs :=
 Paired.JZ r λ_ _ z=>⟨z.1,ht _ _ z.2.1,z.2.2⟩
section
variable{P:Program}{w:World}{H:Hp}{h:Heap}{a:Addr}
theorem FJ{u:HO}(ok:jl P w H h)(e:Rd H a u):cf P w H h a u:=e.ok ok
theorem Ai{kvs:List (Key×V)}(ok:jl P w H h)(e:Rd H a (.dK kvs)):kvs.length<=sizeLine/\(a==sysModules)=false/\∃vs,KV kvs vs/\h.DictOf (bH P w) a vs :=
 show cf P w H h a (.dK kvs) from FJ ok e
theorem bU{kvs:List (Key×V)}(ok:jl P w H h)(e:H a=some (.dK kvs)):kvs.length<=sizeLine/\(a==sysModules)=false/\∃vs,KV kvs vs/\h.DictOf (bH P w) a vs:=Ai ok (.inl e)
theorem sj{ks:List cN}(ok:jl P w H h)(e:H a=some (.tup (ks.map oV))):(tupleKind (optKind P w)).is h ks a:=by obtain⟨_,its,r,o,h1,h2,⟨n,h3⟩,_⟩:=(show cf P w H h a (.tup (ks.map oV)) from ok a _ e);exact⟨o,its.toArray,n,h1,h2,h3,by simpa using qK r⟩
theorem B7{kvs:List (List cN×V)}(ok:jl P w H h)(e:Rd H a (.dT kvs)):kvs.length<=sizeLine/\(a==sysModules)=false/\
  ∃xs,KT H kvs xs/\h.DictOfH (tupleKind (optKind P w)) a xs:=by
 obtain⟨z,y,xs,r,o,es,ep,h1,h2,h3,h4,h5⟩:=(show cf P w H h a (.dT kvs) from FJ ok e);refine⟨z,y,xs,r,o,es,ep,h1,h2,h3,h4,λx hx=>?_,h5⟩;have all:∀{l:List (List cN×V)}{m:List (List cN×Addr×Value)},KT H l m->∀x∈m,(tupleKind (optKind P w)).is h x.1 x.2.1:=by
  intro l m q;induction q with
  |nil=>intro x hx;exact nomatch hx
  | @cons p q ps qs hq t ih =>
   intro x hx;rcases Sm.mp hx with e|hx
   ·subst e;exact sj ok (by rw[←hq.1];exact hq.2.1)
   ·exact ih x hx
 exact all r x hx
theorem Gg{kvs:List (List cN×V)}(ok:jl P w H h)(e:H a=some (.dT kvs)):kvs.length<=sizeLine/\(a==sysModules)=false/\
  ∃xs,KT H kvs xs/\h.DictOfH (tupleKind (optKind P w)) a xs:=B7 ok (.inl e)
end
def vZ(H:Hp)(a:Addr)(y:V)(r:Option V):Prop :=
 (∃kvs k,Rd H a (.dK kvs)/\y=kV k/\r=fY kvs k)\/∃kvs k b,Rd H a (.dT kvs)/\y=.ref b/\H b=some (.tup (k.map oV))/\r=fY kvs k
def zm(H:Hp)(a:Addr)(y v:V)(H':Hp):Prop :=
 (∃kvs k,H a=some (.dK kvs)/\y=kV k/\kvs.length<sizeLine/\H'=upd H a (.dK (putK kvs k v)))\/
 ∃kvs k b,H a=some (.dT kvs)/\y=.ref b/\H b=some (.tup (k.map oV))/\kvs.length<sizeLine/\H'=upd H a (.dT (putK kvs k v))
theorem vZ.t{H:Hp}{a b:Addr}{kvs:List (List cN×V)}{k:List cN}(e:H a=some (.dT kvs))(eb:H b=some (.tup (k.map oV))):vZ H a (.ref b) (fY kvs k):=.inr ⟨kvs,k,b,.inl e,rfl,eb,rfl⟩
theorem zm.t{H:Hp}{a b:Addr}{kvs:List (List cN×V)}{k:List cN}{v:V}(e:H a=some (.dT kvs))(eb:H b=some (.tup (k.map oV)))(hl:kvs.length<sizeLine) :
  zm H a (.ref b) v (upd H a (.dT (putK kvs k v))):=.inr ⟨kvs,k,b,e,rfl,eb,hl,rfl⟩
section
variable{X:Cx}{ac:List (Addr×Obj)}{σ:St}{H:Hp}{s:Shared}{a:Addr}{y v:V}{u r:Value}{o:Option V}{A:Around}{E:Value->Shared->Prop}
theorem Inv.big(I:Inv X ac σ H s):sysModules<s.heap.objs.size:=by have h:mainGlobals<s.heap.objs.size:=(I.mod.glob.keeps I.bk).lt;exact Nat.lt_trans (by decide) h
theorem zp{Q:Value->Shared->Prop}(hu:A.units+1<cLine)(I:Inv X ac σ H s)(g:vZ H a y (some v))(ry:RelV y u)(h:∀w' s',Inv X ac σ H s'->RelV v w'->Q w' s') :
  wpAny (model X.prog X.w) A (getItem (.ref a) u) Q E s:=by
 rcases g with⟨kvs,k,e,ey,l⟩|⟨kvs,k,b,e,ey,eb,l⟩
 ·subst ey;obtain⟨z,hd,vs,rel,dd⟩:=Ai I.hok e;obtain⟨w',hw,nG⟩:=i9.some_of (v:=v) (o:=valueAt vs k) (by rw[l];exact rel.val k);exact wpAny_getItem_of (CL ry) dd.mapOf hw (h w' _ (I.tok _) nG)
 ·subst ey;cases(show u=Value.ref b from ry);obtain⟨z,hd,xs,rel,dd⟩:=B7 I.hok e;obtain⟨w',hw,nG⟩:=i9.some_of (v:=v) (o:=(atKey xs k).map (·.2)) (by rw[l];exact rel.val k);obtain⟨p,hp,hp2⟩:=Option.map_eq_some_iff.mp hw;refine wpAny_getItem_heap (tupleKind_room_in1 hu) (sj I.hok eb) dd hp ?_;rw[hp2];exact h w' _ (I.tok _) nG
theorem rS{h':Heap}{t':Nat}{ob:HO}(I:Inv X ac σ H s)(mu:KW (H a))(hs:Heap.SameBut a s.heap h')(he:∃q,h'.get? a=some q)(new:cf X.prog X.w (upd H a ob) h' a ob) :
  Inv X ac σ (upd H a ob) {s with heap:=h',toks:=t'} :=
 I.write (x:=a) (e:=a) mu (.inl rfl) (λb q hb z=>(hs.2 b hb).trans z) he new
theorem Ia{P:Program}{w:World}{H':Hp}{h':Heap}{kvs:List (Key×V)}{vs:List (Key×Value)}(z:kvs.length<=sizeLine)(hd:(a==sysModules)=false)(rel:KV kvs vs)(dd:h'.DictOf (bH P w) a vs) :
  cf P w H' h' a (.dK kvs):=⟨z,hd,vs,rel,dd⟩
theorem zI{H':Hp}{Q:Unit->Shared->Prop}(hu:A.units+1<cLine)(I:Inv X ac σ H s)(g:zm H a y v H')(ry:RelV y u)(rv:RelV v r)(h:∀s',Inv X ac σ H' s'->Q () s') :
  wpAny (model X.prog X.w) A (setItem (.ref a) u r) Q E s:=by
 rcases g with⟨kvs,k,e,ey,l,eH⟩|⟨kvs,k,b,e,ey,eb,l,eH⟩
 ·subst ey eH;obtain⟨z,hd,vs,rel,dd⟩:=bU I.hok e;have hz:vs.length<=sizeLine:=by rw[←rel.length];exact z
  have hl:(putK kvs k v).length<=sizeLine:=by have:=js kvs k v;omega
  refine wpAny_setItem_pairs (hsz:=hz) (CL ry) dd λh' Jp hs=>h _ ?_;have he:∃q,h'.get? a=some q:=let ⟨q,_,_,hq,_⟩:=Jp;⟨q,hq⟩
  exact rS I (by rw[e];exact True.intro) hs he (Ia hl hd (rel.put k rv) Jp)
 ·subst ey eH;cases(show u=Value.ref b from ry);obtain⟨z,hd,xs,rel,dd⟩:=Gg I.hok e;have hz:xs.length<=sizeLine:=by rw[←Paired.length rel];exact z
  have hl:(putK kvs k v).length<=sizeLine:=by have:=js kvs k v;omega
  refine wpAny_setItem_heap (hsz:=hz) (tupleKind_room_in1 hu) (sj I.hok eb) dd λh' Jp hs=>h _ ?_;obtain⟨q,es,ep,hq,h2,h3,h4,_,h5⟩:=Jp;refine rS I (by rw[e];exact True.intro) hs ⟨q,hq⟩ ⟨hl,hd,_,(rel.put k eb rv).keeps λc ys ec=>?_,q,es,ep,hq,h2,h3,h4,h5⟩;rw[aH (FU ec e (λz=>nomatch z))];exact ec
end
def Ky(i:Expr):Prop:=∀ov iv,subscripted i false ov iv=operate [ov,iv] (getItem ov iv)
theorem Eo{prog:Program}{w:World}{A:Around}{E:Value->Shared->Prop}{s:Shared}{env:Env}{value slice:Expr}{pos:Pos}{T id:String}{Q:Value->Shared->Prop}
  (hl:typeLookup (.type T) "__getitem__"=pure (some (.builtin id))) (hs:Ky slice)
  (h:wpAny (model prog w) A (eval value env) (λo s₁=>wpAny (model prog w) A (eval slice env) (λi s₂=>s₂.TypeIs o T/\wpAny (model prog w) A (getItem o i) Q E s₂) E s₁) E s) :
  wpAny (model prog w) A (eval (.Subscript value slice pos) env) Q E s:=by
 refine Subscript_ (Sz h (λo s₁ h₁=>Sz h₁ (λi s₂ h₂=>?_) λ_ _ x=>x) λ_ _ x=>x);obtain⟨hT,h₂⟩:=h₂;unfold subscriptTail;refine RX ?_;rw[getitemInPython_of_ne hT.not_modules];refine RX (wpAny_specialOf hT hl ?_);have fin:wpAny (model prog w) A (subscripted slice false o i) (λr s₃=>wpAny (model prog w) A (letTemporaryGo value o r >>= λ_=>pure r) Q E s₃) E s₂:=by rw[hs o i];exact wpAny_operating (Sz h₂ (λr s₃ h₃=>RX (wpAny_letTemporaryGo (RY h₃))) λ_ _ x=>x)
 first
  |exact RY (RX fin)
  |exact RX (RY (RX fin))
  |exact RX fin
theorem uh{X:Cx}{ac:List (Addr×Obj)}{σ:St}{H:Hp}{s:Shared}{a:Addr}{y:V}{o:Option V}(I:Inv X ac σ H s)(g:vZ H a y o):s.TypeIs (.ref a) "dict":=by
 rcases g with⟨kvs,k,e,_,_⟩|⟨kvs,k,b,e,_,_,_⟩
 ·obtain⟨_,_,vs,_,dd⟩:=Ai I.hok e;exact dd.typeIs
 ·obtain⟨_,_,xs,_,dd⟩:=B7 I.hok e;exact dd.typeIs
def JT(td ty:TE):TE:=λσ H Q=>td σ H λx H1=>ty σ H1 λy H2=>∃a v,x=.ref a/\vZ H2 a y (some v)/\Q v H2
def J3(td ty tv:TE):TS:=λD σ H=>tv σ H λv H1=>td σ H1 λx H2=>ty σ H2 λy H3=>∃a H4,x=.ref a/\zm H3 a y v H4/\D.nx σ H4
section
variable{X:Cx}{o i e value:Expr}{pos pos' tpos:Pos}{td ty tv:TE}
theorem x2(hu:X.A.units+1<cLine)(ho:PE X o td)(hi:PE X i ty)(hs:Ky i):PE X (.Subscript o i pos) (JT td ty):=by intro ac s σ H Q I h;refine Eo PySem.F.slot_dict_getitem.lookup hs (bO (ho ac s σ H _ I h) λu s1 ⟨x,H1,I1,rx,q1⟩=>bO (hi ac s1 σ H1 _ I1 q1) λiv s2 zz=>?_);obtain⟨y,H2,I2,ry,a,v,ex,g,q2⟩:=zz;subst ex;obtain rfl:u=Value.ref a:=rx;exact⟨uh I2 g,zp hu I2 g ry λw' s3 I3 nG=>⟨v,H2,I3,nG,q2⟩⟩
theorem xS(hu:X.A.units+1<cLine)(ho:PE X o td)(hi:PE X i ty)(hv:PE X value tv)(hs:swapsWith value (some (.Subscript o i pos')) pos.line X.env=pure false) :
  PS X (.Assign [.Subscript o i pos'] value pos) (J3 td ty tv):=by
 intro ac s σ H D I h;refine wpAny_Assign_Subscript (bO (hv ac s σ H _ I h) λr s1 ⟨v,H1,I1,rv,q1⟩=>bO (ho ac s1 σ H1 _ I1 q1) λu s2 ⟨x,H2,I2,rx,q2⟩=>bO (hi ac s2 σ H2 _ I2 q2) λiv s3 zz=>?_) hs;obtain⟨y,H3,I3,ry,a,H4,ex,g,q3⟩:=zz;subst ex;obtain rfl:u=Value.ref a:=rx;exact zI hu I3 g ry rv λs4 I4=>⟨σ,H4,I4,q3⟩
end
theorem uC{P:Program}{w:World}{H:Hp}(h:Heap)(hb:sysModules<h.objs.size):cf P w H (h.push {cls:=.type "dict",data:=.dict #[]}) h.objs.size (.dT []) :=
 ⟨Sr _,beq_eq_false_iff_ne.mpr (Ne.symm (Sq hb)),[],.nil,_,#[],0,R1 _ rfl,⟨rfl,rfl,rfl⟩,rfl,rfl,List.nodup_nil⟩
def Ir:TE:=λ_ H Q=>∀p,H p=none->Q (.ref p) (upd H p (.dT []))
section
variable{X:Cx}{pos:Pos}
theorem AH:PE X (.Dict [] [] pos) Ir:=λac s σ H Q I h =>
 wpAny_Dict_empty ⟨.ref s.heap.objs.size,_,I.laid (a:=s.heap.objs.size) (o:=.dT []) (t':=s.toks) (λ_ _ q=>RZ _ q) (R3 _) (uC s.heap I.big),rfl,h _ (I.hok.fresh (R3 _))⟩
end
abbrev TD:=List (List cN×V)
theorem compTurn_dict(ek ev target iter:Expr)(ifs:List Expr)(scope:Scope)(pos:Pos)(it:Value)(d:Addr)(env:Env) :
  compTurn (.DictComp ek ev [⟨target,iter,ifs,0⟩] scope pos) 0 it (.ref d) env=(do
   standAt iter.pos
   match←pyNext it with
   |none=>pure (.done .next)
   |some v =>
    letOwnedTupleGo target it v
    assign target env v
    let mut ok:=true
    for c in ifs do
     if ok then ok←isTrue c env (eval c env)
    if ok then
     (do
      let kv←eval ek env
      let vv←holding [kv] (eval ev env)
      standAt {ek.pos with endLine:=ev.pos.endLine,endCol:=ev.pos.endCol}
      holding [kv,vv] (dictSet d kv vv))
    again (.compLoop (.DictComp ek ev [⟨target,iter,ifs,0⟩] scope pos) 0 it (.ref d) env)):=by rfl
section
variable{prog:Program}{w:World}{A:Around}{E:Value->Shared->Prop}{R:Result->Shared->Prop}{s:Shared}
theorem codeAny_compStart_dict{ek ev target iter ifs rest scope pos it acc env}
  (h0:codeAny (model prog w) A (.compLoop (.DictComp ek ev (⟨target,iter,ifs,0⟩::rest) scope pos) 0 it acc env) R s)
  (h:wpAny (model prog w) A (pyIter it) (λit' s'=>codeAny (model prog w) A (.compLoop (.DictComp ek ev (⟨target,iter,ifs,0⟩::rest) scope pos) 0 it' acc env) R s')
   (notedBy (model prog w) A env λx s'=>R (.error x) s') s) :
  codeAny (model prog w) A (.compStart (.DictComp ek ev (⟨target,iter,ifs,0⟩::rest) scope pos) 0 it acc env) R s:=by
 refine codeAny_of_tree ?_;show wpAny _ _ ((compStart (.DictComp ek ev (⟨target,iter,ifs,0⟩::rest) scope pos) 0 it acc env).onRaise (λx=>do noteFrame x env;standAt theWindowsPlace)) _ _ s;refine wpAny_notedAt ?_;unfold compStart;show wpAny _ _ (ask >>= _) _ _ s;refine RX (wpAny_askSetting (wpAny_ite ?_));split
 ·first
   |exact RX (RY (RY (And.intro rfl h0)))
   |exact RY (And.intro rfl h0)
 ·first
   |exact RX (wpAny_rule (RX (wpAny_standAt (RX (Sz h (λit' s' h'=>RY (And.intro rfl h')) λ_ _ x=>x)))))
   | (refine RX (wpAny_rule ?_);show wpAny _ _ (standAt iter.pos >>= _) _ _ s;exact RX (wpAny_standAt (RX (Sz h (λit' s' h'=>RY (And.intro rfl h')) λ_ _ x=>x))))
end
section
variable{X:Cx}{ac:List (Addr×Obj)}{σ:St}{H:Hp}{s:Shared}{a b:Addr}{v:V}{r:Value}{E:Value->Shared->Prop}{A:Around}{kvs:TD}{k:List cN}
theorem zP{Q:Unit->Shared->Prop}(hu:A.units<cLine)(I:Inv X ac σ H s)(e:H a=some (.dT kvs))(eb:H b=some (.tup (k.map oV)))(l:kvs.length<sizeLine)(rv:RelV v r)(h:∀s',Inv X ac σ (upd H a (.dT (putK kvs k v))) s'->Q () s') :
  wpAny (model X.prog X.w) A (dictSet a (.ref b) r) Q E s:=by
 obtain⟨z,hd,xs,rel,dd⟩:=Gg I.hok e;have hz:xs.length<=sizeLine:=by rw[←Paired.length rel];exact z
 have hl:(putK kvs k v).length<=sizeLine:=by have:=js kvs k v;omega
 refine wpAny_dictSet_heap (hsz:=hz) hu (sj I.hok eb) dd λh' Jp hs=>h _ ?_;obtain⟨q,es,ep,hq,h2,h3,h4,_,h5⟩:=Jp;refine rS I (by rw[e];exact True.intro) hs ⟨q,hq⟩ ⟨hl,hd,_,(rel.put k eb rv).keeps λc ys ec=>?_,q,es,ep,hq,h2,h3,h4,h5⟩;rw[aH (FU ec e (λz=>nomatch z))];exact ec
end
def xj(J:It)(g:TG)(tc:TT)(tk tv:TE)(D:Addr)(Q:VK)(W:Nat->Nat->St->TD->Hp->Prop):Prop :=
 ∀i m σ ys H,W i m σ ys H->H D=some (.dT ys)/\((J.stop i H/\Q (.ref D) H)\/(J.go i H/\ys.length<sizeLine/\∃N:St->TD->Hp->Prop,(∀σ' ys' H',N σ' ys' H'->∃m',m'<m/\W (i+1) m' σ' ys' H')/\
  ∀x H',J.AQ i H x H'->g x σ H' λcR H2=>tc cR H2 λb H3 =>
   if b=true then tk cR H3 λy H4=>tv cR H4 λv H5=>∃b k,y=.ref b/\H5 b=some (.tup (k.map oV))/\H5 D=some (.dT ys)/\N cR (putK ys k v) (upd H5 D (.dT (putK ys k v)))else N cR ys H3))
def HZ(src:List (Option Nat))(wi:TI)(g:TG)(tc:TT)(tk tv:TE):TE:=λσ H Q=>wi σ H λJ H1=>∀D,H1 D=none->
 ∃W:Nat->Nat->St->TD->Hp->Prop,(∃m,W 0 m (iT src σ) [] (upd H1 D (.dT [])))/\xj J g tc tk tv D Q W
section
variable{X:Cx}{ek ev target iter:Expr}{ifs:List Expr}{sc:Scope}{pos:Pos}{wi:TI}{g:TG}{tc:TT}{tk tv:TE}{N':List Str}{src:List (Option Nat)}
theorem wG{it:Value}{d:Addr}{env:Env}{prog:Program}{w:World}{A:Around}{s:Shared}{R:Result->Shared->Prop}(Iv:Nat->Shared->Prop)
  (turn:∀n s,Iv n s->wpAny (model prog w) A (pyNext it) (λr s₁=>match r with
   |none=>R (.ok .next) s₁
   |some v=>wpAny (model prog w) A (letOwnedTupleGo target it v) (λ_ s₁'=>wpAny (model prog w) A (assign target env v) (λ_ s₂ =>
     wpAny (model prog w) A (forIn ifs true λc r=>if r=true then do let ok←isTrue c env (eval c env);pure (ForInStep.yield ok)else pure (ForInStep.yield r)) (λok s₃ =>
      if ok=true then wpAny (model prog w) A (eval ek env) (λx s₄ =>
       wpAny (model prog w) A (eval ev env) (λy s₄'=>wpAny (model prog w) A (dictSet d x y) (λ_ s₅=>∃m,m<n/\Iv m s₅) (λ_ _=>False) s₄') (λ_ _=>False) s₄) (λ_ _=>False) s₃
      else∃m,m<n/\Iv m s₃) (λ_ _=>False) s₂) (λ_ _=>False) s₁') (λ_ _=>False) s₁) (λ_ _=>False) s)
  (n:Nat) (h:Iv n s) :
  codeAny (model prog w) A (.compLoop (.DictComp ek ev [⟨target,iter,ifs,0⟩] sc pos) 0 it (.ref d) env) R s:=by
 refine codeAny_loop rfl Iv (λn s hI=>?_) n h;show wpAny _ A ((compTurn (.DictComp ek ev [⟨target,iter,ifs,0⟩] sc pos) 0 it (.ref d) env).onRaise (λx=>do noteFrame x env;theTreesLotGoes x)) _ _ s;refine wpAny_noted ?_;rw[compTurn_dict];refine RX (wpAny_standAt (RX (Sz (turn n s hI) (λr s₁ h₁=>?_) λ_ _ h'=>h'.elim)));cases r with
 |none=>exact RY h₁
 |some v =>
  refine RX (Sz h₁ (λ_ s₁' h₁'=>RX (Sz h₁' (λ_ s₂ h₂=>RX (Sz h₂ (λok s₃ h₃=>?_) λ_ _ h'=>h'.elim)) λ_ _ h'=>h'.elim)) λ_ _ h'=>h'.elim);cases ok with
  |false=>exact RY ⟨rfl,h₃⟩
  |true =>refine RX (RX (Sz h₃ (λx s₄ h₄=>RX (SA (Sz h₄ (λy s₄' h₄'=>RX (wpAny_standAt (SA (Sz h₄' (λ_ s₅ h₅=>RY ⟨rfl,h₅⟩) λ_ _ h'=>h'.elim)))) λ_ _ h'=>h'.elim))) λ_ _ h'=>h'.elim))
theorem uw{ac:List (Addr×Obj)}{σ:St}{H2:Hp}{s2:Shared}{it:Addr}{fp:List Addr}{tn:Nat->Heap->Prop}{J:It}{Q:VK}{E:Value->Shared->Prop}{RR:Value->Addr->Result->Shared->Prop}
  (hc:X.calm=true) (S:ba X.env.scope X.N N' src sc)
  (hg:∀cl C s H fp,PG (az X N' sc cl C s H fp) target g) (ht:∀cl C s H fp,iB (az X N' sc cl C s H fp) ifs tc) (hk:∀cl C s H fp,PE (az X N' sc cl C s H fp) ek tk) (hv:∀cl C s H fp,PE (az X N' sc cl C s H fp) ev tv) (hu:X.A.units<cLine)
  (I2:Inv X ac σ H2 s2) (T:Turn X.prog X.w X.K target J fp it tn) (st2:tn 0 s2.heap) (f2:∀b∈fp,cQ X ac H2 b)
  (hW:∀D,H2 D=none->∃W:Nat->Nat->St->TD->Hp->Prop,(∃m,W 0 m (iT src σ) [] (upd H2 D (.dT [])))/\xj J g tc tk tv D Q W)
  (hRR:∀D C s5 H' m,Inv X ac σ H' s5->s5.heap.Ns C m->cQ X ac H' C->Q (.ref D) H'->RR (.ref D) C (.ok .next) s5) :
  wpAny (model X.prog X.w) X.A newDict (λacc s₃=>wpAny (model X.prog X.w) X.A (newFunctionEnv sc X.env.globals (bt X.env.cells sc.names []) [] X.env.qual none .none (some X.env)) (λcenv s₄ =>
   codeAny (model X.prog X.w) X.A (.compStart (.DictComp ek ev [⟨target,iter,ifs,0⟩] sc pos) 0 (.ref it) acc {cenv with scope:=relabel sc X.env}) (RR acc cenv.locals) s₄) E s₃) E s2:=by
 have o2:∀b∈fp,b<s2.heap.objs.size:=λb hb=>by obtain⟨o,e,_⟩:=T.obj 0 _ st2 b hb;exact R0 e
 refine SD ?_;have E9:H2 s2.heap.objs.size=none:=I2.hok.fresh (R3 _);obtain⟨W,⟨m0,w0⟩,turn⟩:=hW s2.heap.objs.size E9;have I3:Inv X ac σ (upd H2 s2.heap.objs.size (.dT [])) {s2 with heap:=s2.heap.push {cls:=.type "dict",data:=.dict #[]}} :=
  I2.laid (t':=s2.toks) (λb u e=>RZ _ e) (R3 _) (uC s2.heap I2.big)
 have st3:tn 0 (s2.heap.push {cls:=.type "dict",data:=.dict #[]}):=T.keep 0 _ _ st2 λb hb o e=>RZ _ e;generalize hs3:({s2 with heap:=s2.heap.push {cls:=.type "dict",data:=.dict #[]}}:Shared)=s3 at I3;have hh3:s3.heap=s2.heap.push {cls:=.type "dict",data:=.dict #[]}:=by rw[←hs3]
 have Af:s2.heap.objs.size<s3.heap.objs.size:=by rw[hh3,Heap.size_push];exact Nat.lt_succ_self _
 have o3:∀b∈fp,b<s3.heap.objs.size:=λb hb=>Nat.lt_trans (o2 b hb) Af;have f3:∀b∈fp,cQ X ac (upd H2 s2.heap.objs.size (.dT [])) b:=λb hb=>⟨by rw[aH (Sq (o2 b hb))];exact(f2 b hb).1,(f2 b hb).2⟩;rw[←hh3]at st3;refine wpAny_newFunctionEnv S.my (by intro y hy;simp at hy) (λh1 hns hsb=>?_) S.kind;have hsb':Heap.SameBut s3.heap.objs.size (s3.heap.push {cls:=.type "dict",data:=.dict #[]}) h1:=hsb;have I4:Inv (az X N' sc (bt X.env.cells sc.names []) s3.heap.objs.size s3 (upd H2 s2.heap.objs.size (.dT [])) fp) [] (iT src σ) (upd H2 s2.heap.objs.size (.dT [])) {s3 with heap:=h1,toks:=s3.toks+([]:List (Str×Value)).length} :=
  gk S I3 f3 o3 hns hsb'
 have xq:tn 0 h1:=T.keep 0 _ _ st3 λb hb o e=>(hsb'.2 b (Sq (o3 b hb))).trans (RZ _ e);have fC:∀(H':Hp),H' s3.heap.objs.size=none->cQ X ac H' s3.heap.objs.size:=λH' hn=>I3.lF (R3 _) hn;have loop:codeAny (model X.prog X.w) X.A (.compLoop (.DictComp ek ev [⟨target,iter,ifs,0⟩] sc pos) 0 (.ref it) (.ref s2.heap.objs.size) (compEnvC sc (bt X.env.cells sc.names []) s3.heap.objs.size X.env))
   (RR (.ref s2.heap.objs.size) s3.heap.objs.size) {s3 with heap:=h1,toks:=s3.toks+([]:List (Str×Value)).length}:=by
  have stat:∀{H':Hp},(∀b∈fp,H' b=none)->∀b∈fp,cQ (az X N' sc (bt X.env.cells sc.names []) s3.heap.objs.size s3 (upd H2 s2.heap.objs.size (.dT [])) fp) [] H' b:=λhn b hb =>
   ⟨hn b hb,(I4.ok.Ac b hb).1,I4.ok.rO b hb,.inl hb,(I4.ok.Ac b hb).2,λp hp=>SJ (show p∈([]:List (Addr×Obj)) from hp) (by simp)⟩
  refine wG (λn s'=>∃i σ' ys H',Inv (az X N' sc (bt X.env.cells sc.names []) s3.heap.objs.size s3 (upd H2 s2.heap.objs.size (.dT [])) fp) [] σ' H' s'/\tn i s'.heap/\(∀b∈fp,H' b=none)/\W i n σ' ys H') ?_ m0
   ⟨0,_,[],_,I4,xq,λb hb=>(f3 b hb).1,w0⟩
  rintro n s5 ⟨i,lW,ys,H5,I5,qo,sH,w5⟩;obtain⟨hD,alt⟩:=turn i n lW ys H5 w5;rcases alt with⟨stop,qn⟩|⟨go,hsz,N,hN,step⟩
  ·refine bO (T.done (az X N' sc (bt X.env.cells sc.names []) s3.heap.objs.size s3 (upd H2 s2.heap.objs.size (.dT [])) fp) rfl rfl rfl hc i [] s5 lW H5 _ I5 (stat sH) qo stop) λr s6 zz=>?_;obtain⟨hr,I6⟩:=zz;subst hr;obtain⟨m6,n6,_⟩:=id I6.loc;refine hRR _ _ s6 H5 m6 (I3.call' I6.os I6.base I6.hok I6.bare λb hb=>⟨(f3 b hb).2.2.2.1,(f3 b hb).2.1,(f3 b hb).2.2.2.2.1,(f3 b hb).2.2.2.2.2⟩) n6 (fC _ I6.free) qn
  ·refine bO (T.item (az X N' sc (bt X.env.cells sc.names []) s3.heap.objs.size s3 (upd H2 s2.heap.objs.size (.dT [])) fp) rfl rfl rfl hc i [] s5 lW H5 _ I5 (stat sH) qo go) λr s6 zz=>?_;obtain⟨u,hr,h6⟩:=zz;subst hr;refine bO h6 λ_ s7 zz=>?_;obtain⟨x,H7,I7,r7,y7,pN,CW⟩:=zz;have AG:=I7.pinned (stat CW) (T.obj _ _ pN);refine bO (hg _ _ _ _ _ _ s7 lW H7 x u _ AG r7 (step x H7 y7)) λ_ s8 zz=>?_;obtain⟨p6,H8,I8,q8⟩:=zz;refine bO (ht _ _ _ _ _ _ s8 p6 H8 _ I8 q8) λb s9 zz=>?_;obtain⟨H9,I9,q9⟩:=zz;have again:∀{σ':St}{H':Hp}{s':Shared}{ys':TD}{m':Nat},Inv (az X N' sc (bt X.env.cells sc.names []) s3.heap.objs.size s3 (upd H2 s2.heap.objs.size (.dT [])) fp) ([]++iR fp s7.heap) σ' H' s'->m'<n->W (i+1) m' σ' ys' H'->
     ∃m,m<n/\∃i σ' ys H',Inv (az X N' sc (bt X.env.cells sc.names []) s3.heap.objs.size s3 (upd H2 s2.heap.objs.size (.dT [])) fp) [] σ' H' s'/\tn i s'.heap/\(∀b∈fp,H' b=none)/\W i m σ' ys H':=λ{σ' H' s' ys' m'} I' hm w'=>by
    refine⟨m',hm,i+1,σ',ys',H',I'.fv,T.keep _ _ _ pN λb hb o e=>(I'.pin (b,o) (Se _ (Se _ (b9 hb e)))).1,λb hb=>?_,w'⟩;obtain⟨o,e,d⟩:=T.obj _ _ pN b hb;exact(I'.pin (b,o) (Se _ (Se _ (b9 hb e)))).2.1
   cases b with
   |false =>rw[SK Sh]at q9⊢;obtain⟨m',hm,w'⟩:=hN _ _ _ q9;exact again I9 hm w'
   |true =>rw[SM rfl]at q9⊢;refine bO (hk _ _ _ _ _ _ s9 p6 H9 _ I9 q9) λxv p7 zz=>?_;obtain⟨y,xr,Iw,r10,IF⟩:=zz;refine bO (hv _ _ _ _ _ _ p7 p6 xr _ Iw IF) λvv Nl zz=>?_;obtain⟨v,Nz,Dp,r11,kb,kk,ey,hkb,Nm,w11⟩:=zz;subst ey;obtain rfl:xv=Value.ref kb:=r10;obtain⟨m',hm,w'⟩:=hN _ _ _ w11;exact zP (X:=az X N' sc (bt X.env.cells sc.names []) s3.heap.objs.size s3 (upd H2 s2.heap.objs.size (.dT [])) fp) hu Dp Nm hkb hsz r11 λs12 O3=>again O3 hm w'
 exact codeAny_compStart_dict loop (T.self _ 0 _ _ _ xq loop)
end
section
variable{X:Cx}
theorem Ct{ek ev target iter:Expr}{ifs:List Expr}{N':List Str}{src:List (Option Nat)}{sc:Scope}{pos:Pos}{wi:TI}{g:TG}{tc:TT}{tk tv:TE}(hc:X.calm=true)(S:ba X.env.scope X.N N' src sc)(hi:PI X target iter wi)
  (hg:∀cl C s H fp,PG (az X N' sc cl C s H fp) target g) (ht:∀cl C s H fp,iB (az X N' sc cl C s H fp) ifs tc) (hk:∀cl C s H fp,PE (az X N' sc cl C s H fp) ek tk) (hv:∀cl C s H fp,PE (az X N' sc cl C s H fp) ev tv) (hu:X.A.units<cLine)
  (hs:∀x,foldedSetIterable iter X.env x=pure x:=by intro _;rfl) :
  PE X (.DictComp ek ev [⟨target,iter,ifs,0⟩] sc pos) (HZ src wi g tc tk tv):=by
 intro ac s σ H Q I h;show wpAny _ _ (comprehension _ _ _ _ _ _ _ _) _ _ s;refine wpAny_comprehension_free (use:=none) rfl hs (cw λy hy hk=>I.ok.has y.1 (S.free y hy hk)) S.kind (λy hy hl=>by rw[←hl];exact S.uniq y hy) ?_;refine bO (hi ac s σ H _ I h) λv s1 h1=>bO h1 λitv s2 h2=>?_;obtain⟨it,fp,tn,J,H2,e,I2,T,st2,f2,hW⟩:=h2;subst e;refine uw (Q:=Q) (RR:=λacc C=>compPost (model X.prog X.w) X.A X.xe none (EP X ac σ Q) acc C) hc S hg ht hk hv hu I2 T st2 f2 hW ?_;intro D C s5 H' m I5 n5 fC q;refine⟨m,n5,λh' sb=>⟨.ref D,H',?_,rfl,q⟩⟩;exact I5.turned (t':=s5.toks) (λb o hb e=>(sb.2 b hb).trans e) fC.1 fC.2.1 fC.2.2.2.1 fC.2.2.2.2.1 fC.2.2.2.2.2
theorem y0(hc:X.calm=true):ft X (.builtin "min") (λxs H Q=>∃(p:Addr)(ns:List Int),xs=[.ref p]/\bc X.K H p (ns.map V.int)/\ns≠[]/\∀M,M∈ns->(∀a∈ns,M<=a)->Q (.int M) H):=by
 intro ac s σ H xs us Q I r h;obtain⟨p,ns,rfl,hS,hne,q⟩:=h;obtain⟨u,rfl,ru⟩:=vals1 r;cases ru;obtain⟨its,rv,pl,hz⟩:=I.list hS;have hp:p<s.heap.objs.size:=by obtain⟨o,e,_⟩:=pl.isList;exact R0 e
 have hl:its.toArray.size=ns.length:=by have:=rv.length;rw[R7]at this;simp[this]
 have hpos:0<ns.length:=List.length_pos_iff.mpr hne;refine call_min_walkS (wpAny_pyIter_list pl.isList ?_);have W:=(Walks.list (prog:=X.prog) (w:=X.w) (A:=X.A.in1) (I.ok.hd hc) s.heap.objs.size p (Sq hp) its.toArray).toS;refine⟨s.heap.objs.size,_,_,_,_,_,_,_,rfl,W,⟨⟨_,R1 _ rfl,rfl,rfl⟩,?_⟩,λb hb=>?_,by rw[hl];exact hpos,CmpOf.ints_lt (λi=>ns.getD i 0) (λi v hv=>yw rv hv),λv s' hP hm=>?_⟩
 ·obtain⟨o,e,z⟩:=pl.isList;exact⟨o,RZ _ e,z⟩
 ·simp only[Sm,SN,or_false]at hb;show b<(s.heap.push _).objs.size;rw[Heap.size_push];rcases hb with rfl|rfl
  ·exact Nat.lt_succ_self _
  ·exact Nat.lt_succ_of_lt hp
 ·obtain⟨t',rfl⟩:=yw rv hP;have hb:=argBest_lt (λi=>ns.getD i 0) (its.toArray.size-1);rw[hl]at hb;obtain⟨h',g',d',tk',os'⟩:=s';have e1:g'=s.gens:=hm.gens;have e2:d'=s.drawn:=hm.drawn;have e3:os'=s.os:=hm.os;subst e1 e2 e3;have I1:Inv X ac σ H {s with heap:=s.heap.push {cls:=.type "list_iterator",data:=.fields #[.ref p,.int 0 0]}}:=I.kept (t':=s.toks) λb o e=>RZ _ e;have f:=I.lF (b:=s.heap.objs.size) (H':=H) (R3 _) (I.hok.fresh (R3 _));refine⟨.int _,H,I1.turned (λb o hb e=>hm.heap b o (by simpa using hb) e) f.1 f.2.1 f.2.2.2.1 f.2.2.2.2.1 f.2.2.2.2.2,⟨t',rfl⟩,q _ ?_ λa ha=>?_⟩
  ·rw[hl];have hi:argBest (λi j=>decide (ns.getD i 0<ns.getD j 0)) (ns.length-1)<ns.length:=by omega
   rw[List.getD_eq_getElem?_getD,Sd hi,Option.getD_some];exact List.getElem_mem hi
  ·obtain⟨j,hj,rfl⟩:=List.mem_iff_getElem.mp ha;have:=hb.2 j (by omega);rw[hl];rw[List.getD_eq_getElem?_getD (l:=ns) (i:=j),Sd hj,Option.getD_some]at this;exact this
end
open PySem.Builtin PySem.Builtin.Tuple SeqAt in
theorem qt(l:Addr)(items:Array Value)(n:Nat)(dd:Option Addr)(sl:Array (Option Value))(x:Value)(e:Value->Bool)(j:Nat)(hj:j<items.size)(ht:e items[j]=true)(hf:∀k (h:k<items.size),k<j->e items[k]=false) :
  Meets (Builtin.«tuple.index» ⟨[.ref l,x],[]⟩)
   (λA R s=>s.heap.get? l=some {cls:=.type "tuple",dict:=dd,data:=.seq items n,slots:=sl}/\(∀y,y∈items->EqAt A.in1 s y x (e y))/\R (.ok (.ret (.int (j:Nat) s.toks))) {s with toks:=s.toks+1}) :=
 .of_wp λprog w A R s h=>by
  obtain⟨hp,g,d,tk,os⟩:=s;obtain⟨hl,he,h⟩:=h
  wp_walk using wpAny_loadPart' hl
  change wpAny _ _ (forIn (m:=Sem) ([:Min.min items.size items.size]:Std.Legacy.Range) ((none,()):Option _×Unit) (λ(i:Nat) (_:Option _×Unit)=>match items[i]? with
      |some y=>do
       let __do_lift←eqBool y x
       if __do_lift=true then do
         let __do_lift←retInt (i:Nat)
         pure (ForInStep.done (some __do_lift,()))
        else pure (ForInStep.yield (none,()))
      |_=>pure (ForInStep.yield (none,())))) _ _ _
  rw[Std.Legacy.Range.forIn_eq_forIn_range'];refine wpAny_forIn_list _ (λrest b s'=>b.1=none/\s'=⟨hp,g,d,tk,os⟩/\∃k,k<=j/\rest=List.range' k (items.size-k)) _ ?_ ?_ _ _ ⟨rfl,rfl,0,Sr _,by simp[Std.Legacy.Range.size]⟩
  ·rintro y rest b s' ⟨hb,rfl,k,hk,hr⟩;have hks:k<items.size:=by omega
   rw[show items.size-k=(items.size-(k+1))+1 by omega,List.range'_succ]at hr;injection hr with h1 h2;subst h1;dsimp only;rw[Sy hks];refine RX (he _ (Array.getElem_mem hks) prog w _ _ ?_);by_cases hkj:y=j
   ·subst hkj;rw[ht]
    wp_walk
    exact⟨_,rfl,h⟩
   ·rw[hf y hks (by omega)]
    wp_walk
    exact⟨rfl,rfl,y+1,by omega,h2⟩
  ·rintro b s' ⟨hb,rfl,k,hk,hr⟩;have:(List.range' k (items.size-k)).length=0:=by rw[←hr];rfl
   rw[List.length_range']at this;omega
section
variable{X:Cx}
def FY(K:S7):V->List V->Hp->VK->Prop:=λv vs H Q=>∃(p:Addr)(cs:List Int)(c:Int)(j:Nat),v=.ref p/\vs=[.int c]/\aP K H p (cs.map V.int)/\cs[j]? = some c/\(∀k,k<j->cs[k]?≠some c)/\Q (.int (j:Nat)) H
theorem Aa:OU X "tuple.index" (FY X.K):=by
 intro ac s σ H v vs u us Q I rx rv h;obtain⟨p,cs,c,j,rfl,rfl,hq,hj,hf,q⟩:=h;cases rx;obtain⟨u,rfl,ru⟩:=vals1 rv;obtain⟨its,r,pl,hz⟩:=I.tuple hq;have hl:=r.length;rw[R7]at hl;have hjl:j<cs.length:=(Sj.mp hj).1;have fs:(cs.map V.int).all jN=true:=by rw[List.all_map];exact List.all_eq_true.mpr λ_ _=>rfl
 have he:∀k (hk:k<its.toArray.size),vd (.int c) its.toArray[k]=decide (cs[k]? = some c):=λk hk=>by
  have hk':k<cs.length:=by rw[hl];simpa using hk
  obtain⟨w,e,nG⟩:=r.get (i:=k) (x:=.int cs[k]) (by rw[Sw,Sd hk'];rfl);have:its.toArray[k]=w:=by
   have:its[k]? = some its.toArray[k]:=by rw[Sd (by simpa using hk)];simp
   rw[this]at e;exact Ss e
  rw[this,wQ nG rfl,Sd hk'];show(cs[k]==c)=_;rw[Bool.eq_iff_iff];simp
 obtain⟨⟨cls,dd,data,sl⟩,ho,hc,n,hd⟩:=id pl;simp only at hc hd;subst hc hd;have hjs:j<its.toArray.size:=by simpa using (hl▸hjl)
 refine call_meets F.slot_tuple_index ⟨_,ho,rfl⟩ F.entry_tuple_index (F.args_tuple_index_2 _ _) (qt p its.toArray n dd sl u (vd (.int c)) j hjs (by rw[he j hjs];exact R6 hj) λk hk hkj=>by rw[he k hk];exact R5 (hf k hkj)) ⟨ho,λw hw=>iG ru rfl r fs w (by simpa using hw),?_⟩;exact⟨.int (j:Nat),H,I.tok _,⟨_,rfl⟩,q⟩
end
def Ll(K:S7):R2:=λx y H Q=>∃a b xs ys,x=.ref a/\y=.ref b/\aP K H a xs/\aP K H b ys/\xs.length+ys.length<=sizeLine/\∀t H',aE H H'->aP K H' t (xs++ys)->Q (.ref t) H'
theorem yk{X:Cx}:jk X (binaryOp .Add) (Ll X.K):=by
 intro ac s σ H x y v u Q I rx ry h;obtain⟨a,b,xs,ys,rfl,rfl,ha,hb,hz,q⟩:=h;by_cases hx:xs=[]
 ·subst hx;exact uV ac s σ H _ _ v u Q I rx ry ⟨a,b,ys,rfl,rfl,ha,hb,q b H (aE.refl _) hb⟩
 ·exact xC ac s σ H _ _ v u Q I rx ry ⟨a,b,xs,ys,rfl,rfl,ha,hb,hx,hz,λz=>q a H (aE.refl _) (by rw[z,SX];exact ha),λ_ p hp=>q p _ (λb' u' e=>by rw[aH (aW e hp)];exact e) (aP.of ae)⟩
theorem aD.take{K:S7}{H:Hp}:∀{ds:List D}{vs:List V}(i:Nat),aD K H ds vs->aD K H (ds.take i) (vs.take i)
 |_,_,0,_=>by rw[List.take_zero,List.take_zero];exact aD.nil
 |[],vs,i+1,h=>by rw[aD]at h;rw[h,List.take_nil,List.take_nil];exact aD.nil
 |d::ds,vs,i+1,h=>by rw[aD]at h;obtain⟨v,r,rfl,h1,h2⟩:=h;rw[List.take_succ_cons,List.take_succ_cons];exact aD.cons h1 (aD.take i h2)
theorem oE{K:S7}{H:Hp}{a:Addr}{vs:List V}{ds:List D}(h:aP K H a vs)(g:aD K H ds vs):aV K H (.tup ds) (.ref a):=by rw[aV];exact⟨a,vs,rfl,h,g⟩
theorem g_{K:S7}{H:Hp}{v:V}{ds:List D}(h:aV K H (.tup ds) v):∃a vs,v=.ref a/\aP K H a vs/\aD K H ds vs:=by rw[aV]at h;exact h
theorem uk{K:S7}{H:Hp}{i:Int}{v:V}(h:aV K H (.int i) v):v=.int i:=by rw[aV]at h;exact h
theorem ye{K:S7}{H:Hp}{i:Bool}{v:V}(h:aV K H (.bl i) v):v=.bl i:=by rw[aV]at h;exact h
theorem A7{K:S7}{H:Hp}{i:Str}{v:V}(h:aV K H (.str i) v):v=.str i:=by rw[aV]at h;exact h
theorem B5{K:S7}{H:Hp}{v:V}(h:aV K H .non v):v=.non:=by rw[aV]at h;exact h
theorem f9{K:S7}{H:Hp}{d:D}{ds:List D}{vs:List V}(h:aD K H (d::ds) vs):∃v r,vs=v::r/\aV K H d v/\aD K H ds r:=by rw[aD]at h;exact h
theorem ug{K:S7}{H:Hp}{vs:List V}(h:aD K H [] vs):vs=[]:=by rw[aD]at h;exact h
def KJ(K:S7)(to:TE)(t:TA):TE:=λσ H Q=>to σ H λx H1=>(∃p xs,x=.ref p/\H1 p=some (.tup xs))/\t σ H1 λxs H2=>FY K x xs H2 Q
theorem DR{X:Cx}{o e:Expr}{es:List Expr}{to:TE}{t:TA}{apos cpos:Pos}(ho:PE X o to)(ha:PA X (e::es) t)
  (hbase:attributeBase o "index" X.env (eval o X.env)=eval o X.env:=by rfl)
  (hfew:((backTo cpos (starEach (e::es) X.env)).all (λx=>!x.1)&&(backToKw cpos (keywordEach [] X.env)).all (λx=>x.1.isSome)
   && decide ((e::es).length+([]:List Keyword).length+(if([]:List Keyword).isEmpty then 0 else 1)<30))=true:=by rfl)
  (hline:(apos.endLine==cpos.line)=true:=by rfl) (hs:starEach (e::es) X.env=(false,eval e X.env)::starEach es X.env:=by rfl) (hplain:(backTo cpos (starEach es X.env)).any (·.1)=false:=by rfl) :
  PE X (.Call (.Attribute o "index" apos) (e::es) [] cpos) (KJ X.K to t):=by
 intro ac s σ H Q I h;refine wpAny_Call_method_late hbase hfew hline rfl (bO (ho ac s σ H _ I h) λv s1 zz=>?_);obtain⟨x,H1,I1,r1,ty,q1⟩:=zz;have hh:s1.TypeIs v "tuple"/\∀a,v=.ref a->∃ob,s1.heap.get? a=some ob/\ob.dict=none:=by obtain⟨p,xs,rfl,hp⟩:=ty;cases r1;obtain⟨_,its,_,o,e1,e2,_,e3⟩:=I1.hok p _ hp;refine⟨⟨o,e1,e2⟩,λa e=>?_⟩;cases e;exact⟨o,e1,e3⟩
 refine⟨"tuple","tuple.index",F.plainAttrs_tuple,F.slot_tuple_index,F.type_tuple_index,hh.1,hh.2,?_⟩;have hA:=ha cpos ac s1 σ H1 _ I1 q1;rw[hs]at hA⊢;refine Calls.callWith_builtin (by show(false||(backTo cpos (starEach es X.env)).any (·.1))=false;rw[hplain]<;>rfl) (Calls.evalArgs_plain ?_);exact bO hA λus s2 ⟨vs,H2,I2,r2,q2⟩=>Aa ac s2 σ H2 x vs v us Q I2 r1 r2 q2
end L2
namespace My
open PySem L2
abbrev Od:=List (Int×Bool)
structure Kf where
 od:Od
 mo:Option Int
 un:Bool
def mV:Option Int->V
 |none=>.non
 |some i=>.int i
def dM:Option Int->D
 |none=>.non
 |some i=>.int i
def dE(e:Int×Bool):D:=.tup [.int e.1,.bl e.2]
def dO(o:Od):D:=.tup (o.map dE)
def dF(k:Kf):D:=.tup [dO k.od,dM k.mo,.bl k.un]
section
variable{K:S7}{H:Hp}
theorem K1{m:Option Int}:aV K H (dM m) (mV m):=by cases m<;>first|exact rL|exact lY _
theorem I0{m:Option Int}{v:V}(h:aV K H (dM m) v):v=mV m:=by cases m<;>first|exact B5 h|exact uk h
theorem Ld{e:Int×Bool}{v:V}(h:aV K H (dE e) v):∃a,v=.ref a/\aP K H a [.int e.1,.bl e.2]:=by obtain⟨a,vs,rfl,hs,hd⟩:=g_ h;obtain⟨v1,r1,rfl,h1,hd⟩:=f9 hd;obtain⟨v2,r2,rfl,h2,hd⟩:=f9 hd;rw[ug hd,uk h1,ye h2]at hs;exact⟨a,rfl,hs⟩
theorem ur{a:Addr}{c:Int}{b:Bool}(h:aP K H a [.int c,.bl b]):aV K H (dE (c,b)) (.ref a):=oE h (aD.cons (lY _) (aD.cons (sq _) aD.nil))
theorem lE{k:Kf}{v:V}(h:aV K H (dF k) v):∃a t,v=.ref a/\aP K H a [t,mV k.mo,.bl k.un]/\aV K H (dO k.od) t:=by obtain⟨a,vs,rfl,hs,hd⟩:=g_ h;obtain⟨v1,r1,rfl,h1,hd⟩:=f9 hd;obtain⟨v2,r2,rfl,h2,hd⟩:=f9 hd;obtain⟨v3,r3,rfl,h3,hd⟩:=f9 hd;rw[ug hd,I0 h2,ye h3]at hs;exact⟨a,v1,rfl,hs,h1⟩
theorem GW{a:Addr}{t:V}{o:Od}{m:Option Int}{u:Bool}(h:aP K H a [t,mV m,.bl u])(ho:aV K H (dO o) t):aV K H (dF ⟨o,m,u⟩) (.ref a) :=
 oE h (aD.cons ho (aD.cons K1 (aD.cons (sq _) aD.nil)))
theorem gO{o:Od}{vs:List V}{i:Nat}{v:V}(h:aD K H (o.map dE) vs)(hv:vs[i]? = some v):∃e a,o[i]? = some e/\v=.ref a/\aP K H a [.int e.1,.bl e.2]:=by
 obtain⟨d,e1,e2⟩:=h.get hv;rw[Sw]at e1;cases q:o[i]? with
 |none=>rw[q]at e1;cases e1
 |some e =>rw[q]at e1;cases e1;obtain⟨a,rfl,hs⟩:=Ld e2;exact⟨e,a,rfl,rfl,hs⟩
theorem gS{o:Od}{vs:List V}(h:aD K H (o.map dE) vs):vs.length=o.length:=by rw[←h.length,R7]
end
theorem x6{α:Type}{p:α->Bool}:∀{l:List α}{i:Nat}{x:α},(∀e∈l.take i,p e=true)->l[i]? = some x->p x=false->l.takeWhile p=l.take i
 |[],i,x,_,h,_=>by cases h
 |a::l,0,x,_,h,hp=>by cases h;rw[List.takeWhile_cons,hp];rfl
 |a::l,i+1,x,ha,h,hp=>by rw[List.takeWhile_cons,ha a (by simp),List.take_succ_cons,SM rfl];exact congrArg (a :: ·) (x6 (λe he=>ha e (by rw[List.take_succ_cons];exact Sg _ he)) h hp)
theorem wD{α:Type}{p:α->Bool}{l:List α}(h:∀e∈l,p e=true):l.takeWhile p=l:=by
 induction l with
 |nil=>rfl
 |cons a l ih=>rw[List.takeWhile_cons,h a (by simp),SM rfl,ih λe he=>h e (Sg _ he)]
theorem take_all{α:Type}{l:List α}{i:Nat}{x:α}{p:α->Prop}(h:∀e∈l.take i,p e)(hx:l[i]? = some x)(px:p x):∀e∈l.take (i+1),p e:=λe he=>by
 rw[List.take_add_one,hx]at he;rcases So.mp he with z|z
 ·exact h e z
 ·have:e=x:=by simpa using z
  rw[this];exact px
def cF(o:Od)(c:Int):Od:=o.takeWhile λe=>decide (e.1≠c)
def JL(K:S7):Sp:=λvs H Q _=>∃(v:V)(o:Od)(c:Int),vs=[v,.int c]/\aV K H (dO o) v/\o.length<=1000/\∀u H',aE H H'->aV K H' (dO (cF o c)) u->Q u H'
abbrev iy:Stmt:=top 55
theorem gp:au ["order","column","found","entry"] ["order","column"] (ao iy):=fs
variable{P:Program}{w:World}{K:S7}{mg:Str->Option Value}{base:Heap}
theorem ze(B:j5 mg)(F:FA K mg "order_ahead" iy) :
  bB bE P w K mg base 1 "order_ahead" ["order","column"] (JL K):=by
 refine F.ok gp λf cdv A outer s H vs Q E hr h=>?_;have hu:=gX hr;obtain⟨v,o,c,rfl,ho,hz,q⟩:=h;refine⟨_,(ak (aX (i:=2) gp.nd rfl (SQ rfl) (bJ ah))
   (ak (fi PassesOwn.never rfl (cu (pv 0)) (aL (i:=3) gp.nd rfl (SQ rfl))
    (bq (bu bM (aG K (pv 3) ai) (pv 1)) (bx bo rfl B.tuple SV (aa (pv 2) ah))
     (cb (cY (jc PySem.F.plainAttrs_list PySem.F.slot_list_append PySem.F.type_list_append cj (pv 2) (aa (pv 3) ah))))))
   (ax (bx bo rfl B.tuple SV (aa (pv 2) ah))))),?_⟩
 obtain⟨a,ws,rfl,hS,hD⟩:=g_ ho;have hl:=gS hD;have fin:∀(i:Nat)(L u:Addr)(H':Hp),aE H H'->cF o c=o.take i->H' u=none->aV K (upd H' u (.tup (ws.take i))) (dO (cF o c)) (.ref u):=λi L u H' s' e hu=>by rw[e];have:=(hD.take i).same (s'.trans (ag hu (.tup (ws.take i))));rw[←List.map_take]at this;exact cE ae this
 refine⟨Sr _,λL hL=>aj ?_⟩;dsimp only;refine⟨_,rfl,a,rfl,⟨_,(ag hL _).eC hS⟩,?_⟩;refine yn (xs:=ws) (λi σ H'=>(∃o3,σ=[some (.ref a),some (.int c),some (.ref L),o3])/\H' L=some (.lst (ws.take i))/\aE H H'/\∀e∈o.take i,decide (e.1≠c)=true) ⟨⟨none,rfl⟩,ae,ag hL _,by simp⟩ ?_ ?_ ?_
 ·rintro i σ H' _ ⟨_,_,s',_⟩;exact s'.eC hS
 ·rintro i x σ H' hx ⟨⟨o3,rfl⟩,hL',s',hall⟩;obtain⟨e,b,he,rfl,hb⟩:=gO hD hx;refine aj ?_;dsimp only;refine⟨_,rfl,b,_,0,_,rfl,rfl,s'.eC hb,ay (j:=0) rfl,_,rfl,rfl,_,rfl,?_⟩;refine fJ (λk=>?_) λk=>bL ?_
  ·have k':e.1=c:=by simpa using SI k
   refine⟨_,rfl,L,_,rfl,.inl ⟨bc.of hL',λu hu=>q _ _ (s'.trans (ag hu _)) (fin i L u H' s' ?_ hu)⟩⟩;exact x6 hall he (R5 λz=>z k')
  ·have k':e.1≠c:=λz=>k (R6 (by rw[z]));refine⟨_,rfl,.inl ⟨rfl,_,bc.of hL'⟩,_,rfl,L,_,_,rfl,rfl,hL',?_,⟨_,rfl⟩,?_,a_ hL s',take_all hall he (R6 k')⟩
   ·rw[Sx];exact R_ (R4 (Nat.min_le_right _ _) (by rw[hl];exact hz)) (by decide)
   ·rw[ae,take_one hx]
 ·rintro σ H' ⟨⟨o3,rfl⟩,hL',s',hall⟩;rw[hl,SR]at hall;refine⟨_,rfl,L,_,rfl,.inl ⟨bc.of hL',λu hu=>q _ _ (s'.trans (ag hu _)) (fin ws.length L u H' s' ?_ hu)⟩⟩;rw[hl,SR];exact wD hall
def KS(K:S7)(H H':Hp):Prop:=∀a xs,aP K H a xs->aP K H' a xs
section
variable{K:S7}{H H1 H2:Hp}
theorem KS.iw{L:Addr}{xs:List V}{o:HO}(h:H L=some (.lst xs)):KS K H (upd H L o):=λa ys q=>by
 rcases q with(q|⟨ob,q⟩)|q
 ·exact .inl (.inl (by rw[aH λz=>by rw[z,h]at q;cases q];exact q))
 ·exact .inl (.inr ⟨ob,by rw[aH λz=>by rw[z,h]at q;cases q];exact q⟩)
 ·exact .inr q
theorem wc(o:Od):nE (o.map dE)=true:=jL.mpr λd hd=>by obtain⟨e,_,rfl⟩:=Sl.mp hd;rfl
theorem Lj(o:Od):EW (dO o)=true:=wc o
theorem AA(k:Kf):EW (dF k)=true:=by
 show nE [dO k.od,dM k.mo,.bl k.un]=true;refine jL.mpr λd hd=>?_;simp only[Sm,SN,or_false]at hd;rcases hd with rfl|rfl|rfl
 ·exact Lj _
 ·cases k.mo<;>rfl
 ·rfl
end
theorem Ln{c:Int}{cs:List Int}:inV (.int c) (cs.map V.int)=decide (c∈cs):=by
 induction cs with
 |nil=>rfl
 |cons a cs ih =>have e:inV (.int c) ((a::cs).map V.int)=((a==c)||inV (.int c) (cs.map V.int)):=rfl;rw[e,ih,Bool.eq_iff_iff,Bool.or_eq_true,beq_iff_eq,decide_eq_true_eq,decide_eq_true_eq,Sm];exact or_congr eq_comm Iff.rfl
theorem tU(cs:List Int):(cs.map V.int).all jN=true:=by rw[List.all_map];exact List.all_eq_true.mpr λ_ _=>rfl
theorem Cg{c:Int}{cs:List Int}(h:c∈cs):cs[cs.idxOf c]? = some c/\∀k,k<cs.idxOf c->cs[k]?≠some c:=by have hl:cs.idxOf c<cs.length:=List.idxOf_lt_length_iff.mpr h;refine⟨by rw[Sd hl,List.getElem_idxOf],λk hk e=>?_⟩;obtain⟨hk',e'⟩:=Sj.mp e;have:=List.not_of_lt_findIdx (p:=(· == c)) (xs:=cs) hk;rw[e']at this;simp at this
def M8(cs:List Int)(e:Int×Bool):Int×Bool:=((cs.idxOf e.1:Nat)+1,e.2)
def jW(o:Od)(cs:List Int):Od:=(o.takeWhile λe=>decide (e.1∈cs)).map (M8 cs)
def IP(K:S7):Sp:=λvs H Q _=>∃(v:V)(t:Addr)(o:Od)(cs:List Int),vs=[v,.ref t]/\aV K H (dO o) v/\H t=some (.tup (cs.map V.int))/\o.length<=1000/\∀u H',aE H H'->aV K H' (dO (jW o cs)) u->Q u H'
abbrev kO:Stmt:=top 56
theorem gK:au ["order","columns","found","column","greatest_first"] ["order","columns"] (ao kO):=fs
theorem HV(B:j5 mg)(F:FA K mg "order_in" kO) :
  bB bE P w K mg base 1 "order_in" ["order","columns"] (IP K):=by
 refine F.ok gK λf cdv A outer s H vs Q E hr h=>?_;have hu:=gX hr;obtain⟨v,t,o,cs,rfl,ho,ht,hz,q⟩:=h;refine⟨_,(ak (aX (i:=2) gK.nd rfl (SQ rfl) (bJ ah))
   (ak (fi PassesOwn.never rfl (cu (pv 0)) (bS rfl (aq (aL (i:=3) gK.nd rfl (SQ rfl)) (aq (aL (i:=4) gK.nd rfl (SQ rfl)) bz)))
    (bq (dm fU (pv 3) (pv 1) rfl) (bx bo rfl B.tuple SV (aa (pv 2) ah))
     (cb (cY (jc PySem.F.plainAttrs_list PySem.F.slot_list_append PySem.F.type_list_append cj (pv 2) (aa (aY (aa (aU cv (DR (pv 1) (aa (pv 3) ah)) ai) (aa (pv 4) ah))) ah))))))
   (ax (bx bo rfl B.tuple SV (aa (pv 2) ah))))),?_⟩
 obtain⟨a,ws,rfl,hS,hD⟩:=g_ ho;have hl:=gS hD;refine⟨Sr _,λL hL=>aj ?_⟩;dsimp only;refine⟨_,rfl,a,rfl,⟨_,(ag hL _).eC hS⟩,?_⟩;refine yn (xs:=ws) (λi σ H'=>(∃o3 o4,σ=[some (.ref a),some (.ref t),some (.ref L),o3,o4])/\(∃xs,H' L=some (.lst xs)/\aD K H' (((o.take i).map (M8 cs)).map dE) xs)/\aE H H'/\∀e∈o.take i,decide (e.1∈cs)=true) ⟨⟨none,none,rfl⟩,⟨[],ae,aD.nil⟩,ag hL _,by simp⟩ ?_ ?_ ?_
 ·rintro i σ H' _ ⟨_,_,s',_⟩;exact s'.eC hS
 ·rintro i x σ H' hx ⟨⟨o3,o4,rfl⟩,⟨xs,hL',hX⟩,s',hall⟩;obtain⟨e,b,he,rfl,hb⟩:=gO hD hx;refine⟨b,_,rfl,s'.eC hb,rfl,_,_,rfl,aj ⟨_,_,rfl,aj ⟨rfl,?_⟩⟩⟩;dsimp only;refine⟨_,rfl,_,rfl,t,_,rfl,.inr (aP.of (s' _ _ ht)),rfl,tU cs,_,rfl,?_⟩;show if(!inV (.int e.1) (cs.map V.int))=true then _ else _
  rw[Ln];by_cases k:e.1∈cs
  ·rw[R6 k];refine cq (bL ?_);obtain⟨k1,k2⟩:=Cg k;refine⟨_,rfl,.inl ⟨rfl,_,bc.of hL'⟩,_,rfl,⟨t,_,rfl,s' _ _ ht⟩,_,rfl,t,cs,e.1,_,rfl,rfl,aP.of (s' _ _ ht),k1,k2,_,_,rfl,rfl,_,rfl,c5,λu hu=>?_⟩;have su:=ag hu (.tup [.int ((cs.idxOf e.1:Nat)+1),.bl e.2]);have hLu:=su _ _ hL';refine⟨L,_,_,rfl,rfl,hLu,?_,⟨_,_,rfl⟩,⟨_,ae,?_⟩,a_ hL (s'.trans su),take_all hall he (R6 k)⟩
   ·rw[←hX.length,R7,R7,Sx];exact R_ (R4 (Nat.min_le_right _ _) hz) (by decide)
   ·rw[take_one he,R9,R9];refine aD.cL (KS.iw hLu) ?_ ((hX.same su).append (aD.cons (ur (aP.of ae)) aD.nil));rw[←R9];exact wc _
  ·rw[R5 k];refine cB ⟨_,rfl,L,_,rfl,.inl ⟨bc.of hL',λu hu=>q _ _ (s'.trans (ag hu _)) ?_⟩⟩;rw[jW,x6 hall he (R5 k)];exact cE ae (hX.same (ag hu _))
 ·rintro σ H' ⟨⟨o3,o4,rfl⟩,⟨xs,hL',hX⟩,s',hall⟩;rw[hl,SR]at hall hX;refine⟨_,rfl,L,_,rfl,.inl ⟨bc.of hL',λu hu=>q _ _ (s'.trans (ag hu _)) ?_⟩⟩;rw[jW,wD hall];exact cE ae (hX.same (ag hu _))
def withOther(o l:Od):Od:=o++l.filter λe=>decide (e.1∉o.map λe=>e.1)
def JK(K:S7):Sp:=λvs H Q _=>∃(v w:V)(o l:Od),vs=[v,w]/\aV K H (dO o) v/\aV K H (dO l) w/\o.length<=1000/\l.length<=1000/\∀u H',aE H H'->aV K H' (dO (withOther o l)) u->Q u H'
abbrev dc:Stmt:=top 57
theorem e_:au ["order","later","columns"] ["order","later"] (ao dc):=fs
theorem yV(B:j5 mg)(F:FA K mg "with_other_columns" dc) :
  bB bE P w K mg base 1 "with_other_columns" ["order","later"] (JK K):=by
 refine F.ok e_ λf cdv A outer s H vs Q E hr h=>?_;have hu:=gX hr;obtain⟨v,w',o,l,rfl,ho,hl,hz1,hz2,q⟩:=h;refine⟨_,(ak (aX (i:=2) e_.nd rfl (Or.inr rfl) (bw (N':=["column","greatest_first"]) (src:=[none,none]) rfl (ba.jb (by kernel_rfl)) (cu (pv 0)) (g:=(mM K 2 (cx (bT 0) (cx (bT 1) mK)))) (λcl C s H fp=>(bS rfl (aq (e7 (i:=0)) (aq (e7 (i:=1)) bz)))) (λcl C s H fp=>bg) (te:=(bp 0)) (λcl C s H fp=>(fP 0))))
   (ax (aU yk (pv 0) (bx bo rfl B.tuple SV (aa (bw (N':=["entry","columns"]) (src:=[none,some 2]) rfl (ba.jb (by kernel_rfl)) (cu (pv 1)) (λcl C s H fp=>(e7 (i:=0))) (tc:=(jf (eZ (Dg K true) (eZ (jj K) (bp 0) (tC (.int 0))) (bp 1)))) (λcl C s H fp=>dR (dm fU (aG K (fP 0) ai) (oY 1) rfl)) (te:=(bp 0)) (λcl C s H fp=>(fP 0))) ah))))),?_⟩
 obtain⟨a,ws,rfl,hS,hD⟩:=g_ ho;obtain⟨b,zs,rfl,hS2,hD2⟩:=g_ hl;have l1:=gS hD;have l2:=gS hD2;refine⟨_,rfl,a,rfl,⟨_,hS⟩,λC hC=>?_⟩;refine cG (xs:=ws) (λi σ ys H'=>(∃o1 o2,σ=[o1,o2])/\ys=((o.take i).map λe=>e.1).map V.int/\ys.length=i/\H' C=some (.lst ys)/\aE H H') ⟨⟨none,none,rfl⟩,rfl,rfl,ae,ag hC _⟩ ?_ ?_ ?_ ?_ ?_
 ·rintro i σ ys H' _ ⟨_,_,hi,h,_⟩;exact⟨h,S0 hi⟩
 ·rintro i σ ys H' _ ⟨_,_,_,_,sm⟩;exact sm.eC hS
 ·rw[l1];exact R4 hz1 (by decide)
 ·rintro i x σ ys H' hx ⟨⟨o1,o2,rfl⟩,rfl,hi,h,sm⟩;obtain⟨e,c,he,rfl,hc⟩:=gO hD hx;refine⟨c,_,rfl,sm.eC hc,rfl,_,_,rfl,aj ⟨_,_,rfl,aj ⟨rfl,?_⟩⟩⟩;refine⟨_,rfl,h,⟨_,_,rfl⟩,?_,?_,ae,a_ hC sm⟩
  ·rw[List.take_add_one,he,R9,R9];rfl
  ·rw[R8,hi];rfl
 rintro σ ys H1 ⟨_,rfl,_,h,sm⟩;rw[l1,SR]at h;refine aj ?_;dsimp only;refine⟨_,rfl,_,rfl,b,rfl,⟨_,sm.eC hS2⟩,λC2 N7=>?_⟩;refine cG (xs:=zs) (λi σ ys H'=>(∃o1,σ=[o1,some (.ref C)])/\aD K H1 (((l.take i).filter λe=>decide (e.1∉o.map λe=>e.1)).map dE) ys/\ys.length<=i/\H' C2=some (.lst ys)/\aE H1 H') ⟨⟨none,rfl⟩,aD.nil,R3 _,ae,ag N7 _⟩ ?_ ?_ ?_ ?_ ?_
 ·rintro i σ ys H' _ ⟨_,_,hi,h,_⟩;exact⟨h,hi⟩
 ·rintro i σ ys H' _ ⟨_,_,_,_,sm'⟩;exact(sm.trans sm').eC hS2
 ·rw[l2];exact R4 hz2 (by decide)
 ·rintro i x σ ys H' hx ⟨⟨o1,rfl⟩,hY,hi,h2,sm'⟩;obtain⟨e,c,he,rfl,hc⟩:=gO hD2 hx;refine aj ?_;refine⟨_,rfl,c,_,0,_,rfl,rfl,(sm.trans sm').eC hc,ay (j:=0) rfl,_,rfl,C,_,rfl,.inl (bc.of (sm' _ _ h)),rfl,tU _,_,rfl,?_⟩;show if(!inV (.int e.1) ((o.map λe=>e.1).map V.int))=true then _ else _
  rw[Ln];by_cases k:e.1∈o.map λe=>e.1
  ·rw[R6 k];refine cq ⟨⟨_,rfl⟩,?_,Nat.le_succ_of_le hi,h2,sm'⟩;rw[take_one he,List.filter_append,List.filter_cons_of_neg (by rw[decide_eq_true_eq];exact λz=>z k)];simpa using hY
  ·rw[R5 k];refine cB ⟨_,rfl,h2,⟨_,rfl⟩,?_,?_,ae,a_ N7 sm'⟩
   ·rw[take_one he,List.filter_append,R9,List.filter_cons_of_pos (by rw[decide_eq_true_eq];exact k)];exact hY.append (aD.cons (ur (sm.eC hc)) aD.nil)
   ·rw[R8];exact Nat.succ_le_succ hi
 rintro σ ys H2 ⟨_,hY,hi,h2,sm'⟩;rw[l2,SR]at hY;refine⟨C2,_,rfl,.inl ⟨bc.of h2,λu hu=>?_⟩⟩;have su:=ag hu (.tup ys);have s2:=sm'.trans su;refine⟨a,u,_,_,rfl,rfl,(sm.trans s2).eC hS,aP.of ae,?_,λt H' st ht=>q _ _ ((sm.trans s2).trans st) ?_⟩
 ·rw[l1];exact R4 (show o.length+ys.length<=2000 by omega) (by decide)
 ·refine oE ht ?_;rw[withOther,R9];exact(hD.same ((sm.trans s2).trans st)).append (hY.same (s2.trans st))
def lh(m:Option Int)(n:Int):Int:=match m with
 |none=>n
 |some k=>if n<k then n else k
def x3:Sp:=λvs H Q _=>∃(m:Option Int)(n:Int),vs=[mV m,.int n]/\Q (.int (lh m n)) H
abbrev rX:Stmt:=top 58
theorem CK:au ["most","many"] ["most","many"] (ao rX):=fs
theorem AF(B2:pP mg)(F:FA K mg "least" rX) :
  bB bE P w K mg base 1 "least" ["most","many"] x3:=by
 refine F.ok CK λf cdv A outer s H vs Q E hr h=>?_;obtain⟨m,n,rfl,q⟩:=h;refine⟨_,(ax (lJ (bu G9 (pv 0) fh) (pv 1) (aK (qQ rfl) rfl B2.min PyProof.Rows.boot_min (aa (pv 0) (aa (pv 1) ah))))),?_⟩;refine⟨_,rfl,rfl,_,rfl,?_⟩;cases m with
 |none=>exact cB ⟨_,rfl,q⟩
 |some k=>exact cq ⟨_,rfl,_,rfl,_,_,rfl,q⟩
def allIn(cs:List Int)(w:Nat):Bool:=(List.range w).all λi=>decide ((1:Int)+i∈cs)
def FQ:W1->Kf->Nat->Kf
 | .keep ..,k,_=>⟨k.od,k.mo,false⟩
 | .same ..,k,_=>⟨k.od,k.mo,false⟩
 | .cut cs,k,w=>⟨jW k.od cs,k.mo,k.un&&allIn cs w⟩
 | .turn c _,k,_=>⟨cF k.od c,k.mo,false⟩
 | .must c _,k,_=>⟨cF k.od c,k.mo,false⟩
 | .walk ..,k,_=>k
 | .sort o,k,_=>⟨withOther o k.od,k.mo,false⟩
 | .apart,k,_=>⟨k.od,k.mo,true⟩
 | .count cs,k,_=>⟨jW k.od cs,k.mo,true⟩
 | .sum cs _,k,_=>⟨jW k.od cs,k.mo,true⟩
 | .number,k,w=>⟨k.od++[((w:Int)+1,false)],k.mo,true⟩
 | .first n,k,_=>⟨k.od,some (lh k.mo n),k.un⟩
def ie(K:S7)(ok:W1->Prop):Sp:=λvs H Q _=>∃(a:Addr)(x:W1)(v e:V)(k:Kf)(w:Nat),vs=[.ref a,v,.int (w:Nat),e]/\fO H a x/\ok x/\gc x/\aV K H (dF k) v/\k.od.length<=1000/\w<=1000/\∀u H',aE H H'->aV K H' (dF (FQ x k w)) u->Q u H'
theorem da{K:S7}{k k':W1->Prop}(h:∀x,k' x->k x):∀vs H Q E,ie K k' vs H Q E->ie K k vs H Q E:=by rintro vs H Q E ⟨a,x,v,e,kf,w,h1,h2,h3,h4⟩;exact⟨a,x,v,e,kf,w,h1,h2,h x h3,h4⟩
section
variable{K:S7}{H:Hp}
theorem jQ{u:Addr}{t:V}{o:Od}{m:Option Int}{b:Bool}(hu:H u=none)(ho:aV K H (dO o) t):aV K (upd H u (.tup [t,mV m,.bl b])) (dF ⟨o,m,b⟩) (.ref u):=GW (aP.of ae) (ho.same (ag hu _))
end
def By(x:W1):Prop:=(∃c t,x=.keep c t)\/∃c d,x=.same c d
abbrev ir:Stmt:=top 59
theorem eI:au ["worker","known","wide","ends","order","most","unlike"] ["worker","known","wide","ends"] (ao ir):=fs
theorem CQ(F:FA K mg "behind_test" ir) :
  bB bE P w K mg base 1 "behind_test" ["worker","known","wide","ends"] (ie K By):=by
 refine F.ok eI λf cdv A outer s H vs Q E hr h=>?_;have hu:=gX hr;obtain⟨a,x,v,e,k,w,rfl,ha,ho,hs,hk,hz,hw,q⟩:=h;refine⟨_,(ak (fk (pv 1) (bS rfl (aq (aL (i:=4) eI.nd rfl (SQ rfl)) (aq (aL (i:=5) eI.nd rfl (SQ rfl)) (aq (aL (i:=6) eI.nd rfl (SQ rfl)) bz)))))
   (ax (aY (aa (pv 4) (aa (pv 5) (aa cC ah)))))),?_⟩
 obtain⟨b,t,rfl,hb,ht⟩:=lE hk;refine⟨_,rfl,b,_,rfl,hb,rfl,_,_,rfl,aj ⟨_,_,rfl,aj ⟨_,_,rfl,aj ⟨rfl,?_⟩⟩⟩⟩;dsimp only;refine⟨_,rfl,_,rfl,cM,λu hu=>q _ _ (ag hu _) ?_⟩;rcases ho with⟨c,t',rfl⟩|⟨c,d,rfl⟩
 ·exact jQ hu ht
 ·exact jQ hu ht
def FF(x:W1):Prop:=(∃c ps,x=.turn c ps)\/∃c ps,x=.must c ps
abbrev fK:Stmt:=top 61
theorem dj:au ["worker","known","wide","ends","order","most","unlike"] ["worker","known","wide","ends"] (ao fK):=fs
theorem EE(F:FA K mg "behind_change" fK)
  (qc:bB bE P w K mg base 1 "order_ahead" ["order","column"] (JL K)) :
  bB bE P w K mg base 2 "behind_change" ["worker","known","wide","ends"] (ie K FF):=by
 refine F.ok dj λf cdv A outer s H vs Q E hr h=>?_;have hu:=gX hr;obtain⟨a,x,v,e,k,w,rfl,ha,ho,hs,hk,hz,hw,q⟩:=h;refine⟨_,(ak (fk (pv 1) (bS rfl (aq (aL (i:=4) dj.nd rfl (SQ rfl)) (aq (aL (i:=5) dj.nd rfl (SQ rfl)) (aq (aL (i:=6) dj.nd rfl (SQ rfl)) bz)))))
   (ax (aY (aa (aM qc hr (aa (pv 4) (aa (aG K (pv 0) ai) ah))) (aa (pv 5) (aa cC ah)))))),?_⟩
 obtain⟨b,t,rfl,hb,ht⟩:=lE hk;refine⟨_,rfl,b,_,rfl,hb,rfl,_,_,rfl,aj ⟨_,_,rfl,aj ⟨_,_,rfl,aj ⟨rfl,?_⟩⟩⟩⟩;dsimp only;rcases ho with⟨c,ps,rfl⟩|⟨c,ps,rfl⟩
 ·obtain⟨t',bs,h1,_⟩:=ha;exact⟨_,rfl,_,rfl,a,_,1,_,rfl,rfl,aP.of h1,rfl,t,k.od,c,rfl,ht,hz,λu H' s' hu'=>⟨_,rfl,cM,λp hp=>q _ _ (s'.trans (ag hp _)) (jQ hp hu')⟩⟩
 ·obtain⟨t',bs,h1,_⟩:=ha;exact⟨_,rfl,_,rfl,a,_,1,_,rfl,rfl,aP.of h1,rfl,t,k.od,c,rfl,ht,hz,λu H' s' hu'=>⟨_,rfl,cM,λp hp=>q _ _ (s'.trans (ag hp _)) (jQ hp hu')⟩⟩
theorem Bn{K:S7}{H:Hp}{t:Addr}{bs:List Addr}{cs:Od}(h:bW Ej H t bs cs):aV K H (dO cs) (.ref t):=by refine cE h.tup (aD.of (by rw[R7,R7,h.len]) λi d v e1 e2=>?_);obtain⟨a,e,rfl,e3,e4⟩:=h.get e2;rw[Sw,e3]at e1;cases e1;exact ur (aP.of e4)
abbrev ia:Stmt:=top 62
theorem eL:au ["worker","known","wide","ends","order","most","unlike"] ["worker","known","wide","ends"] (ao ia):=fs
theorem B1(F:FA K mg "behind_sort" ia)
  (j4:bB bE P w K mg base 1 "with_other_columns" ["order","later"] (JK K)) :
  bB bE P w K mg base 2 "behind_sort" ["worker","known","wide","ends"] (ie K rT):=by
 refine F.ok eL λf cdv A outer s H vs Q E hr h=>?_;have hu:=gX hr;obtain⟨a,x,v,e,k,w,rfl,ha,ho,hs,hk,hz,hw,q⟩:=h;refine⟨_,(ak (fk (pv 1) (bS rfl (aq (aL (i:=4) eL.nd rfl (SQ rfl)) (aq (aL (i:=5) eL.nd rfl (SQ rfl)) (aq (aL (i:=6) eL.nd rfl (SQ rfl)) bz)))))
   (ax (aY (aa (aM j4 hr (aa (aG K (pv 0) ai) (aa (pv 4) ah))) (aa (pv 5) (aa cC ah)))))),?_⟩
 obtain⟨b,t,rfl,hb,ht⟩:=lE hk;refine⟨_,rfl,b,_,rfl,hb,rfl,_,_,rfl,aj ⟨_,_,rfl,aj ⟨_,_,rfl,aj ⟨rfl,?_⟩⟩⟩⟩;dsimp only;obtain⟨cs,rfl⟩:=ho;obtain⟨t',bs,h1,hI⟩:=ha;exact⟨_,rfl,a,_,1,_,rfl,rfl,aP.of h1,rfl,_,rfl,.ref t',t,cs,k.od,rfl,Bn hI,ht,hs,hz,λu H' s' hu'=>⟨_,rfl,cM,λp hp=>q _ _ (s'.trans (ag hp _)) (jQ hp hu')⟩⟩
def ym(x:W1):Prop:=x=.apart
abbrev gx:Stmt:=top 63
theorem d0:au ["worker","known","wide","ends","order","most","unlike"] ["worker","known","wide","ends"] (ao gx):=fs
theorem zU(F:FA K mg "behind_apart" gx) :
  bB bE P w K mg base 1 "behind_apart" ["worker","known","wide","ends"] (ie K ym):=by
 refine F.ok d0 λf cdv A outer s H vs Q E hr h=>?_;have hu:=gX hr;obtain⟨a,x,v,e,k,w,rfl,ha,ho,hs,hk,hz,hw,q⟩:=h;refine⟨_,(ak (fk (pv 1) (bS rfl (aq (aL (i:=4) d0.nd rfl (SQ rfl)) (aq (aL (i:=5) d0.nd rfl (SQ rfl)) (aq (aL (i:=6) d0.nd rfl (SQ rfl)) bz)))))
   (ax (aY (aa (pv 4) (aa (pv 5) (aa cC ah)))))),?_⟩
 obtain⟨b,t,rfl,hb,ht⟩:=lE hk;refine⟨_,rfl,b,_,rfl,hb,rfl,_,_,rfl,aj ⟨_,_,rfl,aj ⟨_,_,rfl,aj ⟨rfl,?_⟩⟩⟩⟩;dsimp only;cases ho;exact⟨_,rfl,_,rfl,cM,λu hu=>q _ _ (ag hu _) (jQ hu ht)⟩
def xn(x:W1):Prop:=(∃cs,x=.count cs)\/∃cs c,x=.sum cs c
abbrev gz:Stmt:=top 64
theorem dY:au ["worker","known","wide","ends","order","most","unlike"] ["worker","known","wide","ends"] (ao gz):=fs
theorem zX(F:FA K mg "behind_tally" gz)
  (kZ:bB bE P w K mg base 1 "order_in" ["order","columns"] (IP K)) :
  bB bE P w K mg base 2 "behind_tally" ["worker","known","wide","ends"] (ie K xn):=by
 refine F.ok dY λf cdv A outer s H vs Q E hr h=>?_;have hu:=gX hr;obtain⟨a,x,v,e,k,w,rfl,ha,ho,hs,hk,hz,hw,q⟩:=h;refine⟨_,(ak (fk (pv 1) (bS rfl (aq (aL (i:=4) dY.nd rfl (SQ rfl)) (aq (aL (i:=5) dY.nd rfl (SQ rfl)) (aq (aL (i:=6) dY.nd rfl (SQ rfl)) bz)))))
   (ax (aY (aa (aM kZ hr (aa (pv 4) (aa (aG K (pv 0) ai) ah))) (aa (pv 5) (aa cC ah)))))),?_⟩
 obtain⟨b,t,rfl,hb,ht⟩:=lE hk;refine⟨_,rfl,b,_,rfl,hb,rfl,_,_,rfl,aj ⟨_,_,rfl,aj ⟨_,_,rfl,aj ⟨rfl,?_⟩⟩⟩⟩;dsimp only;rcases ho with⟨cs,rfl⟩|⟨cs,c,rfl⟩
 ·obtain⟨t',h1,h2⟩:=ha;exact⟨_,rfl,_,rfl,a,_,1,_,rfl,rfl,aP.of h1,rfl,t,t',k.od,cs,rfl,ht,h2,hz,λu H' s' hu'=>⟨_,rfl,cM,λp hp=>q _ _ (s'.trans (ag hp _)) (jQ hp hu')⟩⟩
 ·obtain⟨t',h1,h2⟩:=ha;exact⟨_,rfl,_,rfl,a,_,1,_,rfl,rfl,aP.of h1,rfl,t,t',k.od,cs,rfl,ht,h2,hz,λu H' s' hu'=>⟨_,rfl,cM,λp hp=>q _ _ (s'.trans (ag hp _)) (jQ hp hu')⟩⟩
def uu(x:W1):Prop:=x=.number
abbrev fH:Stmt:=top 65
theorem dh:au ["worker","known","wide","ends","order","most","unlike"] ["worker","known","wide","ends"] (ao fH):=fs
theorem vK(F:FA K mg "behind_number" fH) :
  bB bE P w K mg base 1 "behind_number" ["worker","known","wide","ends"] (ie K uu):=by
 refine F.ok dh λf cdv A outer s H vs Q E hr h=>?_;obtain⟨a,x,v,e,k,w,rfl,ha,ho,hs,hk,hz,hw,q⟩:=h;refine⟨_,(ak (fk (pv 1) (bS rfl (aq (aL (i:=4) dh.nd rfl (SQ rfl)) (aq (aL (i:=5) dh.nd rfl (SQ rfl)) (aq (aL (i:=6) dh.nd rfl (SQ rfl)) bz)))))
   (ax (aY (aa (aU yk (pv 4) (aY (aa (aY (aa (aU cv (pv 2) ai) (aa cC ah))) ah))) (aa (pv 5) (aa cC ah)))))),?_⟩
 obtain⟨b,t,rfl,hb,ht⟩:=lE hk;refine⟨_,rfl,b,_,rfl,hb,rfl,_,_,rfl,aj ⟨_,_,rfl,aj ⟨_,_,rfl,aj ⟨rfl,?_⟩⟩⟩⟩;dsimp only;cases ho;obtain⟨c,ws,rfl,hS,hD⟩:=g_ ht;refine⟨_,rfl,_,rfl,_,_,rfl,rfl,c5,λp1 hp1=>⟨dH,λp2 hp2=>?_⟩⟩;have s1:=ag hp1 (.tup [.int ((w:Int)+1),.bl false]);have s2:=ag hp2 (.tup [.ref p1]);have s12:=s1.trans s2;refine⟨c,p2,_,_,rfl,rfl,s12.eC hS,aP.of ae,?_,λt2 H' s' EC=>⟨_,rfl,cM,λp hp=>q _ _ ((s12.trans s').trans (ag hp _)) (jQ hp ?_)⟩⟩
 ·rw[gS hD];exact R4 (Nat.succ_le_succ hz) (by decide)
 ·refine oE EC ?_;rw[R9];exact(hD.same (s12.trans s')).append (aD.cons (ur ((s2.trans s').eC (aP.of ae))) aD.nil)
def yA(x:W1):Prop:=∃n,x=.first n
abbrev gf:Stmt:=top 66
theorem dW:au ["worker","known","wide","ends","order","most","unlike"] ["worker","known","wide","ends"] (ao gf):=fs
theorem yQ(F:FA K mg "behind_first" gf)
  (EH:bB bE P w K mg base 1 "least" ["most","many"] x3) :
  bB bE P w K mg base 2 "behind_first" ["worker","known","wide","ends"] (ie K yA):=by
 refine F.ok dW λf cdv A outer s H vs Q E hr h=>?_;obtain⟨a,x,v,e,k,w,rfl,ha,ho,hs,hk,hz,hw,q⟩:=h;refine⟨_,(ak (fk (pv 1) (bS rfl (aq (aL (i:=4) dW.nd rfl (SQ rfl)) (aq (aL (i:=5) dW.nd rfl (SQ rfl)) (aq (aL (i:=6) dW.nd rfl (SQ rfl)) bz)))))
   (ax (aY (aa (pv 4) (aa (aM EH hr (aa (pv 5) (aa (aG K (pv 0) ai) ah))) (aa (pv 6) ah)))))),?_⟩
 obtain⟨b,t,rfl,hb,ht⟩:=lE hk;refine⟨_,rfl,b,_,rfl,hb,rfl,_,_,rfl,aj ⟨_,_,rfl,aj ⟨_,_,rfl,aj ⟨rfl,?_⟩⟩⟩⟩;dsimp only;obtain⟨n,rfl⟩:=ho;exact⟨_,rfl,_,rfl,_,rfl,a,_,1,_,rfl,rfl,aP.of (show H a=_ from ha),rfl,k.mo,n,rfl,_,rfl,cM,λp hp=>q _ _ (ag hp _) (jQ (m:=some (lh k.mo n)) hp ht)⟩
def FW(x:W1):Prop:=∃cs,x=.cut cs
abbrev i5:Stmt:=top 60
theorem dQ:au ["worker","known","wide","ends","order","most","unlike","all_there"] ["worker","known","wide","ends"] (ao i5):=fs
theorem EZ(B:j5 mg)(B2:pP mg)(F:FA K mg "behind_cut" i5)
  (kZ:bB bE P w K mg base 1 "order_in" ["order","columns"] (IP K)) :
  bB bE P w K mg base 2 "behind_cut" ["worker","known","wide","ends"] (ie K FW):=by
 refine F.ok dQ λf cdv A outer s H vs Q E hr h=>?_;have hu:=gX hr;obtain⟨a,x,v,e,k,w,rfl,ha,ho,hs,hk,hz,hw,q⟩:=h;refine⟨_,(ak (fk (pv 1) (bS rfl (aq (aL (i:=4) dQ.nd rfl (SQ rfl)) (aq (aL (i:=5) dQ.nd rfl (SQ rfl)) (aq (aL (i:=6) dQ.nd rfl (SQ rfl)) bz)))))
   (ak (aX (i:=7) dQ.nd rfl (SQ rfl) (aK (fZ rfl) rfl B2.all PyProof.Rows.boot_all (aa (bw (N':=["column","worker"]) (src:=[none,some 0]) rfl (ba.jb (by kernel_rfl)) (mR rfl B.range (aa ai (aa (aU cv (pv 2) ai) ah))) (λcl C s H fp=>(e7 (i:=0))) (λcl C s H fp=>bg) (te:=(eZ (Dg K false) (bp 0) (eZ (jj K) (bp 1) (tC (.int 1))))) (λcl C s H fp=>(iO cP (fP 0) (aG K (oY 1) ai) rfl))) ah)))
   (ax (aY (aa (aM kZ hr (aa (pv 4) (aa (aG K (pv 0) ai) ah))) (aa (pv 5) (aa (gr (pv 6) (d_ (pv 7))) ah))))))),?_⟩
 obtain⟨b,t,rfl,hb,ht⟩:=lE hk;refine⟨_,rfl,b,_,rfl,hb,rfl,_,_,rfl,aj ⟨_,_,rfl,aj ⟨_,_,rfl,aj ⟨rfl,?_⟩⟩⟩⟩;dsimp only;obtain⟨cs,rfl⟩:=ho;obtain⟨t',h1,h2⟩:=ha;have hn:((w:Int)+1-1).toNat=w:=by omega
 refine⟨_,rfl,_,_,rfl,rfl,1,(w:Int)+1,rfl,⟨by decide,by decide,?_,?_⟩,λD hD=>?_⟩
 ·have e:((2:Int) ^ 62)=4611686018427387904:=by decide
  rw[e];omega
 ·have e:((2:Int) ^ 62)=4611686018427387904:=by decide
  rw[e];omega
 rw[hn];refine de (lo:=1) (n:=w) (λi σ ys H'=>(∃o,σ=[o,some (.ref a)])/\ys=((List.range i).map λ(i:Nat)=>decide ((1:Int)+i∈cs)).map V.bl/\ys.length=i/\H' D=some (.lst ys)/\aE H H') ⟨⟨none,rfl⟩,rfl,rfl,ae,ag hD _⟩ ?_ ?_ ?_ ?_
 ·rintro i σ ys H' _ ⟨_,_,hi,h,_⟩;exact⟨h,S0 hi⟩
 ·exact R4 hw (by decide)
 ·rintro i σ ys H' _ ⟨⟨o,rfl⟩,rfl,hi,h,sm⟩;refine aj ?_;refine⟨_,rfl,_,rfl,a,_,1,_,rfl,rfl,aP.of (sm _ _ h1),rfl,t',_,rfl,.inr (aP.of (sm _ _ h2)),rfl,tU cs,h,⟨_,rfl⟩,?_,?_,ae,a_ hD sm⟩
  ·rw[List.range_succ,R9,R9];show _++[V.bl (inV (.int (1+(i:Int))) (cs.map V.int))]=_;rw[Ln];rfl
  ·rw[R8,hi];rfl
 rintro σ ys H1 ⟨_,rfl,_,h,sm⟩;refine⟨D,_,rfl,bc.of h,aj ?_⟩;dsimp only;have ea:(List.map (λ(i:Nat)=>decide ((1:Int)+i∈cs)) (List.range w)).all id=allIn cs w:=by rw[List.all_map];rfl
 rw[ea];refine⟨_,rfl,_,rfl,a,_,1,_,rfl,rfl,aP.of (sm _ _ h1),rfl,t,t',k.od,cs,rfl,ht.same sm,sm _ _ h2,hz,λu H' s' hu'=>⟨_,rfl,?_⟩⟩;have fin:∀b,b=(k.un&&allIn cs w)->cM=cM->3<=sizeLine/\∀p,H' p=none->Q (.ref p) (upd H' p (.tup [u,mV k.mo,.bl b])):=λb hb _=>by subst hb;exact⟨cM,λp hp=>q _ _ ((sm.trans s').trans (ag hp _)) (jQ hp hu')⟩
 refine⟨_,rfl,_,rfl,?_⟩;refine fJ (λc=>?_) λc=>?_
 ·rw[c,Bool.true_and]at fin;exact⟨_,rfl,fin _ rfl rfl⟩
 ·rw[Sn.mpr c,Bool.false_and]at fin;exact fin _ rfl rfl
abbrev Dq:List Str:=["worker","known","wide","ends"]
def JU(P:Program)(w:World)(K:S7)(mg:Str->Option Value)(base:Heap)(aF:Addr)(x:W1):Prop :=
 (∃(f:Addr)(fd:FuncData),cy K aF x.nm f/\e8 P w K mg base bE 2 f fd Dq (ie K (λy=>y=x))/\PySem.W.keepIn K (.ref f)=true/\Binds K fd Dq [])\/(iP K aF x.nm/\∀k w,FQ x k w=k)
theorem BY{aF:Addr}{f1 f2 f3 f4 f5 f6 f7 f8:Addr}
  (t1:cy K aF "keep" f1) (Q7:cy K aF "same" f1) (t2:cy K aF "cut" f2) (t3:cy K aF "turn" f3) (Py:cy K aF "must" f3) (t4:cy K aF "sort" f4) (t5:cy K aF "apart" f5) (t6:cy K aF "count" f6) (Qq:cy K aF "sum" f6) (t7:cy K aF "number" f7) (t8:cy K aF "first" f8) (u1:iP K aF "walk")
  (G1:FnAt P w K mg base 1 f1 Dq (ie K By)) (G2:FnAt P w K mg base 2 f2 Dq (ie K FW)) (G3:FnAt P w K mg base 2 f3 Dq (ie K FF)) (G4:FnAt P w K mg base 2 f4 Dq (ie K rT))
  (G5:FnAt P w K mg base 1 f5 Dq (ie K ym)) (G6:FnAt P w K mg base 2 f6 Dq (ie K xn)) (G7:FnAt P w K mg base 1 f7 Dq (ie K uu)) (G8:FnAt P w K mg base 2 f8 Dq (ie K yA)):∀x,JU P w K mg base aF x:=by
 obtain⟨d1,G1,b1,k1⟩:=G1;obtain⟨d2,G2,b2,k2⟩:=G2;obtain⟨d3,G3,b3,k3⟩:=G3;obtain⟨d4,G4,b4,k4⟩:=G4;obtain⟨d5,G5,b5,k5⟩:=G5;obtain⟨d6,G6,b6,k6⟩:=G6;obtain⟨d7,G7,b7,k7⟩:=G7;obtain⟨d8,G8,b8,k8⟩:=G8;intro x;cases x with
 |keep c t=>exact .inl ⟨f1,d1,t1,(G1.imp (da λ_ e=>.inl ⟨c,t,e⟩)).mono (by omega),k1,b1⟩
 |same c d=>exact .inl ⟨f1,d1,Q7,(G1.imp (da λ_ e=>.inr ⟨c,d,e⟩)).mono (by omega),k1,b1⟩
 |cut cs=>exact .inl ⟨f2,d2,t2,G2.imp (da λ_ e=>⟨cs,e⟩),k2,b2⟩
 |turn c ps=>exact .inl ⟨f3,d3,t3,G3.imp (da λ_ e=>.inl ⟨c,ps,e⟩),k3,b3⟩
 |must c ps=>exact .inl ⟨f3,d3,Py,G3.imp (da λ_ e=>.inr ⟨c,ps,e⟩),k3,b3⟩
 |walk c mv=>exact .inr ⟨u1,λ_ _=>rfl⟩
 |sort cs=>exact .inl ⟨f4,d4,t4,G4.imp (da λ_ e=>⟨cs,e⟩),k4,b4⟩
 |apart=>exact .inl ⟨f5,d5,t5,(G5.imp (da λ_ e=>e)).mono (by omega),k5,b5⟩
 |count cs=>exact .inl ⟨f6,d6,t6,G6.imp (da λ_ e=>.inl ⟨cs,e⟩),k6,b6⟩
 |sum cs c=>exact .inl ⟨f6,d6,Qq,G6.imp (da λ_ e=>.inr ⟨cs,c,e⟩),k6,b6⟩
 |number=>exact .inl ⟨f7,d7,t7,(G7.imp (da λ_ e=>e)).mono (by omega),k7,b7⟩
 |first n=>exact .inl ⟨f8,d8,t8,G8.imp (da λ_ e=>⟨n,e⟩),k8,b8⟩
abbrev gn:Stmt:=top 70
theorem ji:au ["worker","known","wide","ends","behind"] ["worker","known","wide","ends"] (ao gn):=fs
theorem zh{aF:Addr}(mF:mg "FACTS_BEHIND"=some (.ref aF))(GF:∀x:W1,JU P w K mg base aF x)(F:FA K mg "facts_behind" gn) :
  bB bE P w K mg base 3 "facts_behind" ["worker","known","wide","ends"] (ie K (λ_=>True)):=by
 refine F.ok ji λf cdv A outer s H vs Q E hr h=>?_;obtain⟨a,x,v,e,k,w,rfl,ha,ho,hs,hk,hz,hw,q⟩:=h;refine⟨_,(bq (dm mn (aG K (pv 0) ai) (cz rfl mF (show RelV (.ref aF) (.ref aF) from rfl)) rfl) (pv 1)
   (ak (aX (i:=4) ji.nd rfl (SQ rfl) (iI (r:=A0 K) l8 (cz rfl mF (show RelV (.ref aF) (.ref aF) from rfl)) (aG K (pv 0) ai) (λ_ _=>rfl)))
   (ax (lI (k:=2) (pv 4) hr qE (aa (pv 0) (aa (pv 1) (aa (pv 2) (aa (pv 3) ah)))))))),?_⟩
 obtain⟨xs,h1⟩:=ha.first;refine⟨_,rfl,a,_,0,_,rfl,rfl,aP.of h1,ay (j:=0) rfl,aF,x.nm,rfl,rfl,?_⟩;rcases GF x with⟨g,gd,Dk,FG,kG,bG⟩|⟨hno,he⟩
 ·refine .inl ⟨⟨g,Dk⟩,_,rfl,cq (bL ?_)⟩;refine⟨_,rfl,a,_,0,_,rfl,rfl,aP.of h1,ay (j:=0) rfl,aF,x.nm,g,rfl,rfl,Dk,aj ?_⟩;dsimp only;exact⟨_,rfl,g,gd,_,_,rfl,FG,kG,bG,_,rfl,_,rfl,_,rfl,_,rfl,a,x,v,e,k,w,rfl,ha,rfl,hs,hk,hz,hw,q⟩
 ·refine .inr ⟨hno,_,rfl,cB ⟨_,rfl,?_⟩⟩;have q:=q v H (aE.refl _);rw[he]at q;exact q hk
def MH:Kf:=⟨[],none,false⟩
def nF(hw:Nat->Nat)(xs:List W1):Nat->Kf
 | 0=>MH
 |i+1=>match xs[i]? with
  |some x=>FQ x (nF hw xs i) (hw i)
  |none=>nF hw xs i
def kY:W1->Prop
 | .sort o=>o.length<=12
 |_=>True
theorem mD(o:Od)(cs:List Int):(jW o cs).length<=o.length:=by rw[jW,R7];exact(List.takeWhile_prefix _).length_le
theorem E7{x:W1}{k:Kf}{w:Nat}(h:kY x):(FQ x k w).od.length<=k.od.length+13:=by
 cases x with
 |cut cs=>exact Nat.le_add_right_of_le (mD _ _)
 |count cs=>exact Nat.le_add_right_of_le (mD _ _)
 |sum cs c=>exact Nat.le_add_right_of_le (mD _ _)
 |turn c ps=>exact Nat.le_add_right_of_le (List.takeWhile_prefix _).length_le
 |must c ps=>exact Nat.le_add_right_of_le (List.takeWhile_prefix _).length_le
 |sort o =>show(o++_).length<=_;rw[R8];have:=List.length_filter_le (λe=>decide (e.1∉o.map λe=>e.1)) k.od;have h:o.length<=12:=h;omega
 |number=>show(k.od++[_]).length<=_;rw[R8];exact Nat.add_le_add_left (show 1<=13 by decide) _
 |_=>exact Nat.le_add_right _ _
theorem n0{hw:Nat->Nat}{xs:List W1}(h:∀x∈xs,kY x):∀i,(nF hw xs i).od.length<=13*i
 | 0=>R3 _
 |i+1=>by
  have ih:=n0 (hw:=hw) h i;rw[nF];cases e:xs[i]? with
  |none=>exact R4 ih (Nat.mul_le_mul_left _ (Nat.le_succ _))
  |some x=>exact R4 (E7 (h x (Sf e))) (by omega)
theorem gG.ks{K:S7}{fd:Addr}{H H':Hp}{kvs:List (List cN×V)}(g:gG fd H H')(h:H fd=some (.dT kvs)):KS K H H':=λa ys q=>by
 rcases q with(q|⟨ob,q⟩)|q
 ·exact .inl (.inl (g _ _ (λz=>by rw[z,h]at q;cases q) q))
 ·exact .inl (.inr ⟨ob,g _ _ (λz=>by rw[z,h]at q;cases q) q⟩)
 ·exact .inr q
abbrev Jk:=List (List cN×V)
theorem tN{kvs:Jk}{k:List cN}{v:V}:(putK kvs k v).length<=kvs.length+1:=by
 unfold putK;split
 ·rw[R7];omega
 ·rw[R8];simp
def kI(pi:List Int):List cN:=pi.map λi=>some (.inl i)
theorem Jt(pi:List Int):(kI pi).map oV=pi.map V.int:=by rw[kI,List.map_map];rfl
theorem Bf{p q:List Int}(h:kI p=kI q):p=q:=by unfold kI at h;exact(List.map_inj_right (λa b e=>by injection e with e;injection e)).mp h
def NO(H:Hp)(a:Addr)(hw:Nat->Nat)(n:Nat):Prop:=∃kvs:Jk,H a=some (.dT kvs)/\∀i,i<n->∃hh h,fY kvs (kI [(i:Int)])=some (.ref hh)/\gE H hh h/\h.length=hw i
structure MF(K:S7)(H:Hp)(p:Addr)(b:V)(pl hd fd:Addr)(xs:List W1)(hw:Nat->Nat):Prop where
 pp:∃bs,bW fO H p bs xs
 kn:aV K H (dF MH) b
 pl:H pl=some (.tup [])
 hs:NO H hd hw xs.length
 fd:H fd=some (.dT [])
 sm:∀x∈xs,gc x/\kY x
 few:xs.length<=50
 wz:∀i,i<xs.length->hw i<=1000
def jU(K:S7)(H:Hp)(fd:Addr)(hw:Nat->Nat)(xs:List W1)(n:Nat):Prop:=∃kv:Jk,H fd=some (.dT kv)/\kv.length<=n/\∀i,i<n->∃v,fY kv (kI [(i:Int)])=some v/\aV K H (dF (nF hw xs i)) v
def Fy(K:S7):Sp:=λvs H Q _=>∃(p:Addr)(b:V)(pl hd fd:Addr)(xs:List W1)(hw:Nat->Nat),vs=[.ref p,b,.ref pl,.ref hd,.ref fd]/\MF K H p b pl hd fd xs hw/\
 ∀u H',gG fd H H'->jU K H' fd hw xs (xs.length+1)->Q u H'
def K_:Sp:=λ_ _ _ _=>False
theorem jU.put{K:S7}{H H':Hp}{fd:Addr}{hw:Nat->Nat}{xs:List W1}{n:Nat}{kv:Jk}{v:V}(k:KS K H (upd H' fd (.dT (putK kv (kI [(n:Int)]) v))))(h:kv.length<=n/\∀i,i<n->∃v,fY kv (kI [(i:Int)])=some v/\aV K H (dF (nF hw xs i)) v)(hv:aV K H (dF (nF hw xs n)) v) :
  jU K (upd H' fd (.dT (putK kv (kI [(n:Int)]) v))) fd hw xs (n+1):=by
 refine⟨_,ae,R4 tN (Nat.succ_le_succ h.1),λi hi=>?_⟩;by_cases e:i=n
 ·subst e;exact⟨v,by rw[lL,SM rfl],hv.cL k (AA _)⟩
 ·obtain⟨v',e1,e2⟩:=h.2 i (by omega);refine⟨v',?_,e2.cL k (AA _)⟩;rw[lL,SK λz=>e (by have:=Bf z;injection this with z;omega)];exact e1
abbrev l6:Stmt:=top 71
theorem cU:au ["pipe","begun","prefix","heads","found","known","at","worker","place","ends","side","branch"] ["pipe","begun","prefix","heads","found"] (ao l6):=fs
theorem zJ(B:j5 mg)(mE:mg "enumerate"=none)(F:FA K mg "follow" l6)
  (dJ:bB bE P w K mg base 1 "branches_of" ["worker"] (xN 0))
  (og:bB bE P w K mg base 3 "follow" ["pipe","begun","prefix","heads","found"] K_)
  (oQ:bB bE P w K mg base 3 "facts_behind" ["worker","known","wide","ends"] (ie K (λ_=>True))) :
  bB bE P w K mg base 4 "follow" ["pipe","begun","prefix","heads","found"] (Fy K):=by
 refine F.ok cU λf cdv A outer s H vs Q E hr h=>?_;have hu:=gX hr;have hu1:=jn hr;obtain⟨p,b,pl,hd,fd,xs,hw,rfl,hI,q⟩:=h;refine⟨_,(ak (aX (i:=5) cU.nd rfl (SQ rfl) (pv 1))
   (ak (fi PassesOwn.never rfl (l0 rfl mE (aa (pv 0) ah)) (bS rfl (aq (aL (i:=6) cU.nd rfl (SQ rfl)) (aq (aL (i:=7) cU.nd rfl (SQ rfl)) bz)))
    (ak (aX (i:=8) cU.nd rfl (SQ rfl) (aU cZ (pv 2) (aY (aa (pv 6) ah))))
     (ak (xS hu1 (pv 4) (pv 8) (pv 5) rfl)
     (ak (aX (i:=9) cU.nd rfl (SQ rfl) (bJ ah))
     (ak (fi PassesOwn.never rfl (l0 rfl mE (aa (aM dJ hr (aa (pv 7) ah)) ah)) (bS rfl (aq (aL (i:=10) cU.nd rfl (SQ rfl)) (aq (aL (i:=11) cU.nd rfl (SQ rfl)) bz)))
      (cb (cY (jc PySem.F.plainAttrs_list PySem.F.slot_list_append PySem.F.type_list_append cj (pv 9) (aa (aM og hr (aa (pv 11) (aa (pv 5) (aa (aU cZ (pv 8) (aY (aa (pv 10) ah))) (aa (pv 3) (aa (pv 4) ah)))))) ah)))))
     (cb (aX (i:=5) cU.nd rfl (SQ rfl) (aM oQ hr (aa (pv 7) (aa (pv 5) (aa (aK aN rfl B.len S5 (aa (x2 hu1 (pv 3) (pv 8) (λ_ _=>rfl)) ah)) (aa (pv 9) ah))))))))))))
   (ak (xS hu1 (pv 4) (aU cZ (pv 2) (aY (aa (aK aN rfl B.len S5 (aa (pv 0) ah)) ah))) (pv 5) rfl)
   (ax (pv 5))))),?_⟩
 obtain⟨⟨bs,hP⟩,hk,hpl,hH,hfd,hsm,hfew,K7⟩:=hI;have hlb:(bs.map V.ref).length=xs.length:=by rw[R7,hP.len]
 refine⟨_,rfl,aj ?_⟩;dsimp only;refine⟨_,rfl,p,rfl,⟨_,aP.of hP.tup⟩,?_⟩;refine kl (xs:=bs.map V.ref) (λi σ H'=>∃(v:V)(o6 o7 o8 o9 tR tJ:Option V),σ=[some (.ref p),some b,some (.ref pl),some (.ref hd),some (.ref fd),some v,o6,o7,o8,o9,tR,tJ]/\aV K H' (dF (nF hw xs i)) v/\gG fd H H'/\jU K H' fd hw xs i)
  ⟨b,none,none,none,none,none,none,rfl,hk,gG.of (aE.refl _),[],hfd,R3 _,λi hi=>SJ hi (Nat.not_lt_zero _)⟩ ?_ ?_ ?_
 ·rintro i σ H' _ ⟨v,o6,o7,o8,o9,tR,tJ,rfl,_,g,_⟩;exact(g.ks hfd) _ _ (aP.of hP.tup)
 ·rintro i y σ H' T hx ⟨v,o6,o7,o8,o9,tR,tJ,rfl,hv,g,kv,vQ,hkl,hkv⟩ hT;obtain⟨a,x,rfl,ex,ha⟩:=hP.get hx;have hi:i<xs.length:=(Sj.mp ex).1;have kT:aQ H H':=λa ys e=>g _ _ (λz=>by rw[z,hfd]at e;cases e) e;have sT:=ag hT (.tup [.int (i:Nat),.ref a]);refine⟨T,_,rfl,aP.of ae,rfl,_,_,rfl,aj ⟨_,_,rfl,aj ⟨rfl,?_⟩⟩⟩;dsimp only;refine⟨_,rfl,_,rfl,dH,λu1 rn=>?_⟩;have sU:=ag rn (.tup [.int (i:Nat)]);refine⟨pl,u1,_,_,rfl,rfl,sU _ _ (sT _ _ (kT _ _ hpl)),ae,dH,λu2 H2 HF hu2=>aj ?_⟩;have s2:=sT.trans (sU.trans HF);dsimp only;have hu2:H2 u2=some (.tup ((kI [(i:Int)]).map oV)):=hu2;refine⟨_,rfl,_,rfl,_,rfl,fd,_,rfl,zm.t (k:=kI [(i:Int)]) (s2 _ _ vQ) hu2 (R_ (show kv.length<=50 by omega) (by decide)),?_⟩;have g4:gG fd H' (upd H2 fd (.dT (putK kv (kI [(i:Int)]) v))):=(gG.of s2).put;have Mn:jU K (upd H2 fd (.dT (putK kv (kI [(i:Int)]) v))) fd hw xs (i+1):=jU.put (g4.ks vQ) ⟨hkl,hkv⟩ hv;have Mt:=hv.cL (g4.ks vQ) (AA _);have p5:upd H2 fd (.dT (putK kv (kI [(i:Int)]) v)) u2=some (.tup ((kI [(i:Int)]).map oV)):=by rw[aH λz=>by have:=s2 _ _ vQ;rw[←z,hu2]at this;cases this];exact hu2
  have k4:aQ H (upd H2 fd (.dT (putK kv (kI [(i:Int)]) v))):=λb' ys e=>(g.trans g4) _ _ (λz=>by rw[z,hfd]at e;cases e) e;have Jb:=g.trans g4;revert Mn Mt p5 k4 Jb;generalize upd H2 fd (.dT (putK kv (kI [(i:Int)]) v))=H4;intro Mn Mt p5 k4 Jb;dsimp only;refine⟨Sr _,λL hL=>aj ?_⟩;dsimp only;have sL:=ag hL (.lst []);refine⟨_,rfl,a,.one x,rfl,(ha.keep k4).keep (aQ.of sL),λt Qs H5 s5 Nj=>⟨t,rfl,⟨_,aP.of Nj.tup⟩,?_⟩⟩;have e2:Qs=[]:=List.eq_nil_of_length_eq_zero Nj.len;subst e2;refine kl (xs:=[]) (λ_ σ H'=>σ=[some (.ref p),some b,some (.ref pl),some (.ref hd),some (.ref fd),some v,some (.int (i:Nat)),some (.ref a),some (.ref u2),some (.ref L),tR,tJ]/\H5=H') ⟨rfl,rfl⟩ ?_ ?_ ?_
  ·rintro _ σ H' _ ⟨_,rfl⟩;exact aP.of Nj.tup
  ·intro i y σ H' T hy;cases hy
  rintro σ H' ⟨rfl,rfl⟩;have Ji:=sL.trans s5;have Oc:=Jb.trans (gG.of Ji);have Og:aQ H H5:=k4.trans (aQ.of Ji);dsimp only;obtain⟨kvs,hh1,Pj⟩:=hH;obtain⟨hh,h,e1,e3,e4⟩:=Pj i hi;have RG:hd≠fd:=λz=>by rw[z,hfd]at hh1;cases hh1;cases e1
  refine⟨_,rfl,_,rfl,_,rfl,_,rfl,hd,_,rfl,?_,hh,_,rfl,.inr (aP.of (Og _ _ e3)),_,rfl,a,x,v,.ref L,nF hw xs i,h.length,?_,ha.keep Og,trivial,(hsm x (Sf ex)).1,Mt.same Ji,?_,?_,λu H6 s6 Lu=>aj ?_⟩
  ·rw[←e1];exact vZ.t (Oc _ _ RG hh1) (Ji _ _ p5)
  ·rw[R7];rfl
  ·exact R4 (n0 (λx hx=>(hsm x hx).2) i) (by omega)
  ·rw[e4];exact K7 i hi
  refine⟨u,_,_,_,_,_,_,rfl,?_,Oc.trans (gG.of s6),?_⟩
  ·rw[nF,ex,←e4];exact Lu
  ·obtain⟨Pu,f1,f2,f3⟩:=Mn;exact⟨Pu,(Ji.trans s6) _ _ f1,f2,λj hj=>let ⟨v,z1,z2⟩:=f3 j hj;⟨v,z1,z2.same (Ji.trans s6)⟩⟩
 ·rintro σ H' ⟨v,o6,o7,o8,o9,tR,tJ,rfl,hv,g,kv,vQ,hkl,hkv⟩;rw[hlb]at hv hkl hkv;have kT:aQ H H':=λa ys e=>g _ _ (λz=>by rw[z,hfd]at e;cases e) e;dsimp only;refine⟨_,rfl,_,rfl,_,rfl,_,rfl,p,_,rfl,.inr (aP.of (kT _ _ hP.tup)),dH,λu1 rn=>?_⟩;have sU:=ag rn (.tup [.int ((bs.map V.ref).length:Nat)]);refine⟨pl,u1,_,_,rfl,rfl,sU _ _ (kT _ _ hpl),ae,dH,λu2 H2 HF hu2=>?_⟩;have s2:=sU.trans HF;have hu2:H2 u2=some (.tup ((kI [((bs.map V.ref).length:Int)]).map oV)):=hu2;rw[hlb]at hu2;have g4:gG fd H' (upd H2 fd (.dT (putK kv (kI [(xs.length:Int)]) v))):=(gG.of s2).put;refine⟨fd,_,rfl,zm.t (k:=kI [(xs.length:Int)]) (s2 _ _ vQ) hu2 (R_ (show kv.length<=50 by omega) (by decide)),_,rfl,q _ _ (g.trans g4) (jU.put (g4.ks vQ) ⟨hkl,hkv⟩ hv)⟩
theorem vA{K:S7}{a D:Addr}{xs:List V}{g:TG}{tc:TT}{tk tv:TE}{Q:VK}{qS:St}{H0:Hp}(Pv:Nat->St->Jk->Hp->Prop)(h0:Pv 0 qS [] H0)(hD:∀i σ ys H,i<=xs.length->Pv i σ ys H->H D=some (.dT ys)/\ys.length<=i)(hl:∀i σ ys H,i<=xs.length->Pv i σ ys H->bc K H a xs)(hz:xs.length<=sizeLine)
  (hs:∀i x σ ys H,xs[i]? = some x->Pv i σ ys H->g x σ H λcR H2=>tc cR H2 λb H3=>if b=true then tk cR H3 λy H4=>tv cR H4 λv H5=>∃b k,y=.ref b/\H5 b=some (.tup (k.map oV))/\H5 D=some (.dT ys)/\Pv (i+1) cR (putK ys k v) (upd H5 D (.dT (putK ys k v)))else Pv (i+1) cR ys H3)
  (hd:∀σ ys H,Pv xs.length σ ys H->Q (.ref D) H):∃W:Nat->Nat->St->Jk->Hp->Prop,(∃m,W 0 m qS [] H0)/\xj (EF K a) g tc tk tv D Q W:=by
 refine⟨λi m σ ys H=>m=xs.length-i/\i<=xs.length/\Pv i σ ys H,⟨xs.length,by simp,Sr _,h0⟩,?_⟩;rintro i m σ ys H ⟨rfl,hi,p⟩;have q:=hl i σ ys H hi p;refine⟨(hD i σ ys H hi p).1,?_⟩;by_cases hlt:i<xs.length
 ·refine .inr ⟨⟨xs,xs[i],q,by simp[hlt]⟩,R_ (hD i σ ys H hi p).2 (Sb hlt hz),Pv (i+1),λσ' ys' H' p'=>⟨xs.length-(i+1),by omega,rfl,hlt,p'⟩,λx H' y=>?_⟩;obtain⟨e,y⟩:=y;subst e;exact hs i x σ ys _ (y xs q) p
 ·have e:i=xs.length:=by omega
  subst e;exact .inl ⟨⟨xs,q,R3 _⟩,hd σ ys H p⟩
def Fw(t:Tr)(i:Nat):Nat:=((t[i]?).map λe=>e.2.1.length).getD 0
def Cs(t:Tr)(n:Nat):Prop:=t.length=n+1/\∀j,j<=n->∃h l,t[j]? = some ([(j:Int)],h,l)
def Ef(K:S7)(aA a1:Addr):Prop:=(∀H,aP K H aA [.ref a1,.non,.bl false])/\∀H,aP K H a1 []
theorem Ef.at{K:S7}{aA a1:Addr}{H:Hp}(h:Ef K aA a1):aV K H (dF MH) (.ref aA):=GW (m:=none) (h.1 H) (oE (h.2 H) aD.nil)
def KL(K:S7):Sp:=λvs H Q _=>∃(p l:Addr)(xs:List W1)(as:List Addr)(t:Tr),vs=[.ref p,.ref l]/\(∃bs,bW fO H p bs xs)/\H l=some (.lst (as.map V.ref))/\iJ H as t/\Cs t xs.length/\
 (∀x∈xs,gc x/\kY x)/\xs.length<=50/\(∀i,i<xs.length->Fw t i<=1000)/\∀(fd:Addr) H',aE H H'->jU K H' fd (Fw t) xs (xs.length+1)->Q (.ref fd) H'
abbrev jx:Stmt:=top 72
theorem lG:au ["pipe","seen","found"] ["pipe","seen"] (ao jx):=fs
theorem Eg{aA a1:Addr}(mA:mg "AT_FIRST"=some (.ref aA))(cA:Ef K aA a1)(F:FA K mg "all_facts" jx)
  (og:bB bE P w K mg base 4 "follow" ["pipe","begun","prefix","heads","found"] (Fy K)) :
  bB bE P w K mg base 5 "all_facts" ["pipe","seen"] (KL K):=by
 refine F.ok lG λf cdv A outer s H vs Q E hr h=>?_;have hu:=gX hr;have hu1:=jn hr;obtain⟨p,l,xs,as,t,rfl,hP,hl,hT,h1,hsm,hfew,K7,q⟩:=h;refine⟨_,(ak (aX (i:=2) lG.nd rfl (SQ rfl) AH)
   (ak (cY (aM og hr (aa (pv 0) (aa (cz rfl mA (show RelV (.ref aA) (.ref aA) from rfl)) (aa (aY ah) (aa (Ct (N':=["place","head","loose"]) (src:=[none,none,none]) rfl (ba.jb (by kernel_rfl)) (c0 (pv 1)) (g:=(mM K 3 (cx (bT 0) (cx (bT 1) (cx (bT 2) mK))))) (λcl C s H fp=>(bS rfl (aq (e7 (i:=0)) (aq (e7 (i:=1)) (aq (e7 (i:=2)) bz))))) (λcl C s H fp=>bg) (tk:=(bp 0)) (λcl C s H fp=>(fP 0)) (tv:=(bp 1)) (λcl C s H fp=>(fP 1)) (R_ (Nat.le_add_right _ 8) hu)) (aa (pv 2) ah)))))))
   (ax (pv 2)))),?_⟩
 have hla:(as.map V.ref).length=t.length:=by rw[R7,hT.len]
 refine λF hF=>aj ?_;dsimp only;have s0:=ag hF (.dT []);have Ib:upd H F (.dT []) F=some (.dT []):=ae;revert s0 Ib;generalize upd H F (.dT [])=H0;intro s0 Ib;refine⟨_,rfl,vM,λu hu'=>?_⟩;have s1:=ag hu' (.tup []);have hu1:upd H0 u (.tup []) u=some (.tup []):=ae;revert s1 hu1;generalize upd H0 u (.tup [])=H1;intro s1 hu1;have Le:=s0.trans s1;refine⟨_,rfl,l,rfl,⟨_,bc.of (Le _ _ hl)⟩,λD hD=>?_⟩;refine vA (xs:=as.map V.ref) (λi σ ys H'=>(∃o1 o2 o3,σ=[o1,o2,o3])/\H' D=some (.dT ys)/\ys.length<=i/\aE H1 H'/\∀j,j<i->∀e,t[j]? = some e->j<t.length->∃hh,fY ys (kI [(j:Int)])=some (.ref hh)/\gE H1 hh e.2.1) ⟨⟨none,none,none,rfl⟩,ae,R3 _,ag hD _,λj hj=>SJ hj (Nat.not_lt_zero _)⟩ ?_ ?_ ?_ ?_ ?_
 ·rintro i σ ys H' _ ⟨_,h,hz,_⟩;exact⟨h,hz⟩
 ·rintro i σ ys H' _ ⟨_,_,_,sm,_⟩;exact bc.of (sm _ _ (Le _ _ hl))
 ·rw[hla,h1.1];exact R4 (Nat.succ_le_succ hfew) (by decide)
 ·rintro i v σ ys H' hv ⟨⟨o1,o2,o3,rfl⟩,hd,hz,sm,hj⟩;have hi:i<t.length:=by rw[←hla];exact(Sj.mp hv).1
  rw[Sw]at hv;cases ea:as[i]? with
  |none=>rw[ea]at hv;cases hv
  |some a =>
   rw[ea]at hv;have hv':V.ref a=v:=Ss hv;subst hv';have et:t[i]? = some t[i]:=Sd hi;obtain⟨c,hh,z1,z2,z3⟩:=hT.at_ i a _ ea et;obtain⟨h',l',e3⟩:=h1.2 i (by have:=h1.1;omega);have e4:t[i].1=[(i:Int)]:=by rw[et]at e3;rw[Ss e3]
   have s2:=Le.trans sm;refine⟨a,_,rfl,aP.of (s2 _ _ z1),rfl,_,_,rfl,aj ⟨_,_,rfl,aj ⟨_,_,rfl,aj ⟨rfl,?_⟩⟩⟩⟩;refine⟨_,rfl,_,rfl,c,kI [(i:Int)],rfl,by rw[Jt,←e4];exact s2 _ _ z2,hd,⟨_,_,_,rfl⟩,ae,R4 tN (Nat.succ_le_succ hz),a_ hD sm,λj hj' e e5 hjt=>?_⟩;by_cases ej:j=i
   ·subst ej;rw[et]at e5;cases e5;exact⟨hh,by rw[lL,SM rfl],Le _ _ z3⟩
   ·obtain⟨hh',y1,y2⟩:=hj j (by omega) e e5 hjt;refine⟨hh',?_,y2⟩;rw[lL,SK λz=>ej (by have:=Bf z;injection this with z;omega)];exact y1
 rintro σ ys H2 ⟨_,hd,hz,s12,hj⟩;have MN:=Le.trans s12;rw[hla]at hj;refine⟨_,rfl,p,_,u,D,F,xs,Fw t,rfl,⟨?_,cA.at,s12 _ _ hu1,⟨ys,hd,λi hi=>?_⟩,(s1.trans s12) _ _ Ib,hsm,hfew,K7⟩,λw' H3 g3 hK=>⟨_,rfl,q F H3 (lg hF MN g3) hK⟩⟩
 ·obtain⟨bs,hP⟩:=hP;exact⟨bs,hP.keep (aQ.of MN) λ_ _ z=>z.keep (aQ.of MN)⟩
 ·have hit:i<t.length:=by rw[h1.1];omega
  have et:t[i]? = some t[i]:=Sd hit;obtain⟨hh,y1,y2⟩:=hj i hit _ et hit;exact⟨hh,_,y1,s12 _ _ y2,by rw[Fw,et];rfl⟩
structure pG(K:S7)(H:Hp)(l:Addr)(us:List V)(ss:Hd):Prop where
 lst:H l=some (.lst us)
 len:us.length=ss.length
 at_:∀(i:Nat) v s,us[i]? = some v->ss[i]? = some s->∃a r,v=.ref a/\aP K H a (.str s::r)
theorem pG.same{K:S7}{H H':Hp}{l:Addr}{us:List V}{ss:Hd}(s:aE H H')(h:pG K H l us ss):pG K H' l us ss:=⟨s _ _ h.lst,h.len,λi a x e1 e2=>let ⟨a,r,z1,z2⟩:=h.at_ i a x e1 e2;⟨a,r,z1,s.eC z2⟩⟩
theorem pG.get{K:S7}{H:Hp}{l:Addr}{us:List V}{ss:Hd}(h:pG K H l us ss){i:Nat}{v:V}(hv:us[i]? = some v):∃a s r,v=.ref a/\ss[i]? = some s/\aP K H a (.str s::r):=by
 have hi:i<ss.length:=by rw[←h.len];exact(Sj.mp hv).1
 have es:ss[i]? = some ss[i]:=Sd hi;obtain⟨a,r,z1,z2⟩:=h.at_ i v _ hv es;exact⟨a,_,r,z1,es,z2⟩
def K8(K:S7):Sp:=λvs H Q _=>∃(l:Addr)(us:List V)(ss:Hd),vs=[.ref l]/\pG K H l us ss/\ss.length<=1000/\∀(u:Addr) H',aE H H'->gE H' u ss->Q (.ref u) H'
abbrev mU:Stmt:=top 52
theorem w4:au ["kind"] ["kind"] (ao mU):=fs
theorem y3(B:j5 mg)(F:FA K mg "head_of" mU) :
  bB bE P w K mg base 1 "head_of" ["kind"] (K8 K):=by
 refine F.ok w4 λf cdv A outer s H vs Q E hr h=>?_;have hu:=gX hr;obtain⟨l,us,ss,rfl,hK,hz,q⟩:=h;refine⟨_,(ax (bx bo rfl B.tuple SV (aa (bw (N':=["told"]) (src:=[none]) rfl (ba.jb (by kernel_rfl)) (c0 (pv 0)) (λcl C s H fp=>(e7 (i:=0))) (λcl C s H fp=>bg) (te:=(eZ (jj K) (bp 0) (tC (.int 0)))) (λcl C s H fp=>(aG K (fP 0) ai))) ah))),?_⟩;have hl:us.length=ss.length:=hK.len;refine⟨_,rfl,l,rfl,⟨_,bc.of hK.lst⟩,λD hD=>?_⟩;refine dn (xs:=us) (λi σ ys H'=>(∃o1,σ=[o1])/\ys=(ss.take i).map V.str/\ys.length=i/\H' D=some (.lst ys)/\aE H H') ⟨⟨none,rfl⟩,rfl,rfl,ae,ag hD _⟩ ?_ ?_ ?_ ?_ ?_
 ·rintro i σ ys H' _ ⟨_,_,hi,h,_⟩;exact⟨h,S0 hi⟩
 ·rintro i σ ys H' _ ⟨_,_,_,_,sm⟩;exact bc.of (sm _ _ hK.lst)
 ·rw[hl];exact R4 hz (by decide)
 ·rintro i x σ ys H' hx ⟨⟨o1,rfl⟩,rfl,hi,h,sm⟩;obtain⟨b,s',r,rfl,es,hb⟩:=hK.get hx;refine aj ?_;refine⟨_,rfl,b,_,0,_,rfl,rfl,sm.eC hb,ay (j:=0) rfl,h,⟨_,rfl⟩,?_,?_,ae,a_ hD sm⟩
  ·rw[take_one es,R9];rfl
  ·rw[R8,hi];rfl
 rintro σ ys H' ⟨_,rfl,_,h,sm⟩;rw[hl,SR]at h;exact⟨D,_,rfl,.inl ⟨bc.of h,λu hu=>q u _ (sm.trans (ag hu _)) ae⟩⟩
theorem yx{n:Nat}{h:Hd}{f:Fl}{pl:List Int}{x:W1}:FC n h f pl (.one x)=[]:=by cases n<;>rfl
theorem yz{n:Nat}{pl:List Int}:∀{xs:List W1}{i:Nat}{h h':Hd}{f f':Fl},putL (bY n) pl i h f (xs.map .one)=.ok h' f'->(TL n pl i h f (xs.map .one)).length=xs.length+1/\∀j,j<=xs.length->∃hh l,(TL n pl i h f (xs.map .one))[j]? = some (pl++[((i+j:Nat):Int)],hh,l)
 |[],i,h,h',f,f',e=>⟨rfl,λj hj=>by have:j=0:=Nat.le_zero.mp hj;subst this;exact⟨h,f.l,rfl⟩⟩
 |x::xs,i,h,h',f,f',e=>by
  have e:gW (bY n h f (pl++[(i:Int)]) (.one x)) (λh' f'=>putL (bY n) pl (i+1) h' f' (xs.map .one))=.ok h' f':=e;rw[S2,rE,yx,List.nil_append];cases ep:bY n h f (pl++[(i:Int)]) (.one x)with
  |no a s=>rw[ep]at e;cases e
  |ok h2 f2 =>
   rw[ep]at e;obtain⟨l1,l2⟩:=yz (xs:=xs) (i:=i+1) (h:=h2) (f:=f2) e;refine⟨congrArg (· + 1) l1,λj hj=>?_⟩;cases j with
   |zero=>exact⟨h,f.l,rfl⟩
   |succ j =>obtain⟨hh,l,e3⟩:=l2 j (Nat.le_of_succ_le_succ hj);exact⟨hh,l,by rw[List.getElem?_cons_succ];rw[show i+(j+1)=i+1+j by omega];exact e3⟩
theorem CI{n:Nat}{h h':Hd}{f':Fl}{xs:List W1}(e:sO n h (xs.map .one)=.ok h' f'):Cs (TL n [] 0 h f0 (xs.map .one)) xs.length:=by obtain⟨h1,h2⟩:=yz e;exact⟨h1,λj hj=>by obtain⟨hh,l,z⟩:=h2 j hj;exact⟨hh,l,by rw[z,Nat.zero_add];rfl⟩⟩
def Ml(K:S7)(H:Hp)(n:Nat)(ss:Hd)(ws:List Wk)(pi:List Int)(Q:VK):Prop:=∃(xs:List W1)(i:Nat),ws=xs.map .one/\pi=[(i:Int)]/\i<=xs.length/\(∀x∈xs,gc x/\kY x)/\(∀i,i<xs.length->Fw (TL n [] 0 ss f0 ws) i<=1000)/\∀u H',aE H H'->aV K H' (dF (nF (Fw (TL n [] 0 ss f0 ws)) xs i)) u->Q u H'
def Kw(K:S7)(C CP:Addr)(n:Nat):Sp:=λvs H Q E=>∃(l p pa:Addr)(us:List V)(ss:Hd)(ws:List Wk)(pi:List Int),vs=[.ref l,.ref p,.ref pa]/\pG K H l us ss/\ss.length<=6/\nW n H p ws/\DG n ws/\H pa=some (.tup (pi.map V.int))/\2*n<=100/\bnd n<=100000/\
 (∀x s,sO n ss ws=.no x s->OK C H x s E)/\
 (∀h f,sO n ss ws=.ok h f->(seek (TL n [] 0 ss f0 ws) pi=none->∀(e:Addr)(H':Hp),aE H H'->H' e=some (xO e CP none)->E (.ref CP) (some e) H')/\∀b,seek (TL n [] 0 ss f0 ws) pi=some b->Ml K H n ss ws pi Q)
abbrev kX:Stmt:=top 73
theorem nj:au ["kind","pipe","place","seen"] ["kind","pipe","place"] (ao kX):=fs
theorem vL{C CP:Addr}{n L:Nat}(F:FA K mg "facts_at" kX)
  (y6:bB bE P w K mg base 1 "head_of" ["kind"] (K8 K))
  (AI:bB (vf P w) P w K mg base (L+7) "survey" ["head","pipe"] (BM C n))
  (yO:bB (vf P w) P w K mg base 1 "look_up" ["seen","place"] (Dc CP))
  (ue:bB bE P w K mg base 5 "all_facts" ["pipe","seen"] (KL K)) :
  bB (vf P w) P w K mg base (L+8) "facts_at" ["kind","pipe","place"] (Kw K C CP n):=by
 refine F.Iq nj λf cdv A outer s H vs Q E hr h=>?_;have hu:=gX hr;have hu1:=jn hr;obtain⟨l,p,pa,us,ss,ws,pi,rfl,hK,h6,hP,hok,hpa,hn2,hbn,qx,q⟩:=h;refine⟨_,(ak (aX (i:=3) nj.nd rfl (SQ rfl) (qP AI hr rfl xM (aa (aM y6 hr (aa (pv 0) ah)) (aa (pv 1) ah))))
   (ak (cY (qP yO hr rfl xM (aa (pv 3) (aa (pv 2) ah))))
   (ax (x2 hu1 (aM ue hr (aa (pv 1) (aa (pv 3) ah))) (pv 2) (λ_ _=>rfl))))),?_⟩
 refine⟨_,rfl,l,us,ss,rfl,hK,R4 h6 (by decide),λu H1 s1 hu=>?_⟩;refine⟨_,rfl,u,p,ss,ws,rfl,⟨hu,h6,hP.keep (aQ.of s1),hok⟩,hn2,hbn,λx s he e dx q' H' s'=>qx x s he e dx q' H' (s1.trans s'),λh f he l2 H2 bs s2 hl2 hT=>aj ?_⟩;dsimp only;have s12:=s1.trans s2;obtain⟨q1,q2⟩:=q h f he;refine⟨_,rfl,_,rfl,l2,pa,bs,_,pi,rfl,hl2,hT,s12 _ _ hpa,λhs e H' s' he'=>q1 hs e H' (s12.trans s') he',λb hs u' hh H3 s3 hu' _=>?_⟩;obtain⟨xs,i,rfl,rfl,hi,hsm,K7,q3⟩:=q2 b hs;have vk:=s12.trans s3;have t1:=CI he;refine⟨_,rfl,_,rfl,p,l2,xs,bs,_,rfl,?_,s3 _ _ hl2,hT.keep (aQ.of s3),t1,hsm,?_,K7,λfd H4 s4 hF=>?_⟩
 ·obtain⟨b2,hP⟩:=hP;refine⟨b2,vk _ _ hP.tup,by rw[hP.len,R7],λj a x e1 e2=>?_⟩;have:=hP.at_ j a (.one x) e1 (by rw[Sw,e2];rfl);exact(eF.mp this).keep (aQ.of vk)
 ·have:=hok.len;rw[R7]at this;omega
 ·obtain⟨kv,f1,f2,f3⟩:=hF;obtain⟨v,e1,e2⟩:=f3 i (by omega);refine⟨_,rfl,fd,v,rfl,?_,q3 v H4 (vk.trans s4) e2⟩;rw[←e1];exact vZ.t f1 (by rw[Jt];exact(vk.trans s4) _ _ hpa)
end My
namespace L2
open PySem PySem.Spec PyProof.Rows
def j3(lo hi:Int):List V:=(List.range (hi-lo).toNat).map λi=>V.int (lo+(i:Nat))
section
variable{X:Cx}
theorem AX:ft X (.type "range") (λxs H Q=>∃i j,xs=[.int i,.int j]/\∀r,H r=none->Q (.ref r) (upd H r (.y9 i j))):=by intro ac s σ H xs us Q I r h;obtain⟨i,j,rfl,q⟩:=h;obtain⟨u1,u2,rfl,⟨t,rfl⟩,⟨t',rfl⟩⟩:=vals2 r;refine call_range_2 ?_;refine⟨.ref s.heap.objs.size,_,I.laid (t':=_) (o:=.y9 i j) (λb ob q=>RZ _ q) (R3 _) ⟨_,_,_,R1 _ rfl⟩,rfl,q _ (I.hok.fresh (R3 _))⟩
theorem qv(hc:X.calm=true):ft X (.type "list") (λxs H Q=>∃p lo hi,xs=[.ref p]/\H p=some (.y9 lo hi)/\0<=lo/\lo<=hi/\hi<=1000/\∀l,H l=none->Q (.ref l) (upd H l (.lst (j3 lo hi)))):=by
 intro ac s σ H xs us Q I r h;obtain⟨p,lo,hi,rfl,hp,h0,h1,h2,q⟩:=h;obtain⟨u,rfl,rx⟩:=vals1 r;cases rx;obtain⟨t,u,v,e⟩:=I.hok p _ hp;have xX:Builtin.Range.rangeSize lo hi 1=((hi-lo).toNat:Int):=by unfold Builtin.Range.rangeSize;rw[SM (by decide),Int.ediv_one];split<;>omega
 refine call_list_range (I.ok.hd hc) e ?_ xX (by omega) λh' tk acc' c' hk hl hi'=>?_
 ·unfold Builtin.Range.small;rw[xX];have f:∀z:Int,0<=z->z<=1001->Builtin.Range.rangeFitsLong z=true:=λz a b=>by unfold Builtin.Range.rangeFitsLong;simp;omega
  rw[f lo (by omega) (by omega),f hi (by omega) (by omega),f 1 (by omega) (by omega),f _ (by omega) (by omega),SM (by decide),f (hi+(1-1)) (by omega) (by omega)];simp
 ·have hV:Vals (j3 lo hi) acc'.toList:=by
   have hlen:acc'.toList.length=(hi-lo).toNat:=by rw[S3];exact hi'.1
   have gen:∀(us:List Value)(k:Nat),(∀j v,us[j]? = some v->∃t,v=Value.int (lo+((k+j:Nat):Int)) t)->Vals ((List.range' k us.length).map λi=>V.int (lo+(i:Nat))) us:=by
    intro us;induction us with
    |nil=>intro k _;exact .nil
    |cons w us ih =>
     intro k hw;rw[SG,List.range'_succ,S2];exact .cons (by obtain⟨t,z⟩:=hw 0 w rfl;exact⟨t,z⟩) (ih (k+1) λj v hj=>by obtain⟨t,z⟩:=hw (j+1) v (by simpa using hj);exact⟨t,by rw[z];congr 1;omega⟩)
   have:=gen acc'.toList 0 λj v hj=>by obtain⟨t,z⟩:=hi'.2 j v (by simpa using hj);exact⟨t,by rw[z,Nat.zero_add,Int.mul_one]⟩
   unfold j3;rw[hlen,←List.range_eq_range']at this;exact this
  refine⟨.ref s.heap.objs.size,_,I.laid (t':=tk) (o:=.lst (j3 lo hi)) hk (R3 _) ⟨?_,acc'.toList,c',hV,by simpa using hl⟩,rfl,q _ (I.hok.fresh (R3 _))⟩;unfold j3;rw[R7,List.length_range];exact R4 (show(hi-lo).toNat<=1000 by omega) (by decide)
end
end L2
namespace L2
open PySem
section
variable{X:Cx}{e c:Expr}{te:TE}{tc:TT}{t u:TS}{st:Stmt}{rest body:List Stmt}{pos pos2:Pos}
theorem j7(h1:PS X st t)(h2:SO X rest u):SO X (st::rest) (uA t u):=⟨ak h1 h2.h⟩
theorem il(he:EO X e te):SO X [.Return (some e) pos] (EI te):=⟨ax he.h⟩
theorem lq(hc:PT X c tc)(hb:SO X body t)(hr:SO X rest u):SO X (.If c body [] pos::rest) (uA (Eh tc t sZ) u):=⟨ak (gN hc hb.h dk) hr.h⟩
theorem bj(h:PE X e te):EO X e te:=⟨h⟩
end
end L2
namespace My
open PySem L2
def cellsV(s:Str):List V:=if s="w" then [.str "a",.str "b",.str "cc",.str "zzzzzzzz"]else [.int 0,.int 1,.int 2,.int 7,.int (-(10 ^ 59))]
def rP:Sp:=λvs H Q _=>∃(s:Str),vs=[.str s]/\∀l H',H l=none->aE H H'->H' l=some (.lst (cellsV s))->Q (.ref l) H'
theorem mj(s:Str):4<=(cellsV s).length/\(cellsV s).length<=5:=by unfold cellsV;split<;>decide
theorem gC{s:Str}{v:V}(h:v∈cellsV s):ky v/\(s="n"\/s="w"->sW v=s):=by
 unfold cellsV at h;split at h
 ·rename_i e;simp only[Sm,SN,or_false]at h;rcases h with rfl|rfl|rfl|rfl<;>exact⟨.inr ⟨_,rfl⟩,λ_=>by rw[e];rfl⟩
 ·rename_i e;simp only[Sm,SN,or_false]at h;have k:s="n"\/s="w"->("n" : Str)=s:=λz=>by
   rcases z with z|z
   ·exact z.symm
   ·exact SJ z e
  rcases h with rfl|rfl|rfl|rfl|rfl<;>exact⟨.inl ⟨_,rfl⟩,k⟩
abbrev iU:Stmt:=top 79
theorem qw:au ["_law_sort"] ["_law_sort"] (ao iU):=fs
variable{P:Program}{w:World}{K:S7}{mg:Str->Option Value}{base:Heap}
theorem z_(F:FA K mg "_law_cells" iU) :
  bB bE P w K mg base 1 "_law_cells" ["_law_sort"] rP:=by
 refine F.ok qw λf cdv A outer s H vs Q E hr h=>?_;obtain⟨s,rfl,q⟩:=h;refine⟨_,(bq (bu bM (pv 0) av) (bJ (aa av (aa av (aa av (aa av ah)))))
   (ax (bJ (aa ai (aa ai (aa ai (aa ai (aa (F5 CY (aU AN ai ai)) ah)))))))),?_⟩
 refine⟨_,rfl,rfl,_,rfl,?_⟩;rw[du];by_cases e:s="w"
 ·rw[R6 e];refine cB ⟨BE,λl hl=>q l _ hl (ag hl _) ?_⟩;rw[ae,cellsV,SM e]
 ·rw[R5 e];refine cq (bL ⟨_,_,rfl,rfl,⟨by decide,by decide,by decide⟩,_,rfl,Jx,λl hl=>q l _ hl (ag hl _) ?_⟩);rw[ae,cellsV,SK e];rfl
def yZ(s:Str):Str:=if s="w" then "w" else "n"
def Br:Sp:=λvs H Q _=>∃(p:Addr)(s:Str),vs=[.ref p,.str s]/\ez H p/\∀(a:Addr) xs H',bf p H H'->H' a=some (.tup (.str (yZ s)::xs))->Q (.ref a) H'
abbrev ll:Stmt:=top 80
theorem uE:au ["_law_pot_here","_law_sort"] ["_law_pot_here","_law_sort"] (ao ll):=fs
theorem E5(F:FA K mg "_law_set" ll)
  (aI:bB bE P w K mg base 1 "_law_draw" ["_law_pot_here","_law_many"] gu) :
  bB bE P w K mg base 2 "_law_set" ["_law_pot_here","_law_sort"] Br:=by
 refine F.ok uE λf cdv A outer s H vs Q E hr h=>?_;have hu:=gX hr;obtain⟨p,s,rfl,hP,q⟩:=h;refine CC (lq (bu bM (pv 1) av) (il (bF (ar (bj av) (ar (bj (eY bM (aM aI hr (aa (pv 0) (aa ai ah))) ai)) (ar (xx (r:=jj K) vX (bF (ar (bF (ar (bj av) bA)) (ar (bF (ar (bj av) (ar (bj av) bA))) (ar (bF (ar (bj av) (ar (bj av) bA))) (ar (bF bA) bA))))) (bj (aM aI hr (aa (pv 0) (aa ai ah)))) (λ_ _=>rfl)) bA)))))
  (il (bF (ar (bj av) (ar (xx (r:=jj K) vX (bF (ar (bF (ar (bF (ar (bj ai) (ar (bj ai) bA))) bA)) (ar (bF (ar (bF (ar (bj fh) (ar (bj ai) bA))) (ar (bF (ar (bj ai) (ar (bj ai) bA))) bA))) (ar (bF (ar (bF (ar (bj ai) (ar (bj fh) bA))) bA)) (ar (bF bA) bA))))) (bj (aM aI hr (aa (pv 0) (aa ai ah)))) (λ_ _=>rfl)) bA))))) ?_
 refine⟨_,rfl,rfl,_,rfl,?_⟩;rw[du];by_cases e:s="w"
 ·rw[R6 e];have q:∀(a:Addr) xs H',bf p H H'->H' a=some (.tup (.str "w"::xs))->Q (.ref a) H':=by rw[yZ,SM e]at q;exact q
  refine cB ⟨_,rfl,p,_,rfl,hP,by decide,by decide,λd H1 g1 a1 b1=>⟨rfl,dH,λu1 h1=>⟨c5,λu2 h2=>⟨c5,λu3 h3=>⟨vM,λu4 h4=>⟨BE,λu5 h5=>?_⟩⟩⟩⟩⟩⟩;have g5:=bf.new (o:=.tup [.ref u1,.ref u2,.ref u3,.ref u4]) ((((g1.new h1).new h2).new h3).new h4) h5;have hu:upd (upd (upd (upd (upd H1 u1 (.tup [.str "a"])) u2 (.tup [.str "a",.str "cc"])) u3 (.tup [.str "b",.str "d"])) u4 (.tup [])) u5 (.tup [.ref u1,.ref u2,.ref u3,.ref u4]) u5=some (.tup [.ref u1,.ref u2,.ref u3,.ref u4]):=ae;refine⟨_,rfl,p,_,rfl,g5.df,by decide,by decide,λd2 H2 g2 a2 b2=>?_⟩;obtain⟨v,hv,_⟩:=hU (xs:=[V.ref u1,.ref u2,.ref u3,.ref u4]) a2 b2;exact⟨u5,_,_,v,rfl,rfl,aP.of (jC g5.df g2 hu),hv,cM,λu6 h6=>q u6 _ _ ((g5.trans g2).new h6) ae⟩
 ·rw[R5 e];have q:∀(a:Addr) xs H',bf p H H'->H' a=some (.tup (.str "n"::xs))->Q (.ref a) H':=by rw[yZ,SK e]at q;exact q
  have g0:=bf.refl hP;refine cq (bL ⟨c5,λu1 h1=>⟨dH,λu2 h2=>⟨c5,λu3 h3=>⟨c5,λu4 h4=>⟨c5,λu5 h5=>⟨c5,λu6 h6=>⟨dH,λu7 h7=>⟨vM,λu8 h8=>⟨BE,λu9 h9=>?_⟩⟩⟩⟩⟩⟩⟩⟩⟩);have g9:=bf.new (o:=.tup [.ref u2,.ref u5,.ref u7,.ref u8]) ((((((((g0.new h1).new h2).new h3).new h4).new h5).new h6).new h7).new h8) h9;refine⟨_,rfl,p,_,rfl,g9.df,by decide,by decide,λd2 H2 g2 a2 b2=>?_⟩;obtain⟨v,hv,_⟩:=hU (xs:=[V.ref u2,.ref u5,.ref u7,.ref u8]) a2 b2;exact⟨u9,_,_,v,rfl,rfl,aP.of (jC g9.df g2 ae),hv,c5,λu6 h6=>q u6 _ _ ((g9.trans g2).new h6) ae⟩
def rm:Sp:=λvs H Q _=>∃(p:Addr)(w lo hi:Nat),vs=[.ref p,.int (w:Nat),.int (lo:Nat),.int (hi:Nat)]/\ez H p/\1<=w/\w<=100/\lo<=hi/\hi<=100/\∀(t:Addr)(cs:List Int) H',bf p H H'->H' t=some (.tup (cs.map V.int))->lo<=cs.length->cs.length<=hi->(∀c∈cs,1<=c/\c<=w)->Q (.ref t) H'
abbrev gv:Stmt:=top 82
theorem nV:au ["_law_pot_here","_law_wide","_law_least","_law_most"] ["_law_pot_here","_law_wide","_law_least","_law_most"] (ao gv):=fs
theorem BR(B:j5 mg)(F:FA K mg "_law_columns" gv)
  (aI:bB bE P w K mg base 1 "_law_draw" ["_law_pot_here","_law_many"] gu) :
  bB bE P w K mg base 2 "_law_columns" ["_law_pot_here","_law_wide","_law_least","_law_most"] rm:=by
 refine F.ok nV λf cdv A outer s H vs Q E hr h=>?_;obtain⟨p,w,lo,hi,rfl,hP,w1,w2,l1,l2,q⟩:=h;refine⟨_,(ax (bx bo rfl B.tuple SV (aa (bw (N':=["_law_k","_law_pot_here","_law_wide"]) (src:=[none,some 0,some 1]) rfl (ba.jb (by kernel_rfl)) (cV rfl B.range (aa (aU cv (pv 2) (aM aI hr (aa (pv 0) (aa (aU cv (aU ck (pv 3) (pv 2)) ai) ah)))) ah)) (λcl C s H fp=>(e7 (i:=0))) (λcl C s H fp=>bg) (te:=(eZ (vj λi j=>V.int (i+j)) (tC (.int 1)) (kF gu [] E0 (eN (bp 1) (eN (bp 2) nI))))) (λcl C s H fp=>(aU cv ai (aM (hg:=Dh) aI hr (aa (oY 1) (aa (oY 2) ah)))))) ah))),?_⟩;refine⟨_,rfl,_,rfl,_,rfl,_,rfl,_,_,rfl,rfl,_,_,rfl,rfl,p,_,rfl,hP,by omega,cD (by omega) (by omega),λd H1 g1 a1 b1=>⟨_,_,rfl,rfl,_,rfl,(iH (by omega) (by omega)).1,(iH (by omega) (by omega)).2,λD hD=>?_⟩⟩;have nD:=g1.ne hD;have LM:H1 D=none:=hD;refine de (n:=((lo:Int)+d).toNat) (λi σ ys H'=>(∃o,σ=[o,some (.ref p),some (.int (w:Nat))])/\(∃ns:List Int,ys=ns.map V.int/\ns.length=i/\∀n∈ns,1<=n/\n<=w)/\H' D=some (.lst ys)/\bf p H1 H')
  ⟨⟨none,rfl⟩,⟨[],rfl,rfl,by simp⟩,ae,(bf.refl g1.df).new hD⟩ ?_ ?_ ?_ ?_
 ·rintro i σ ys H' _ ⟨_,⟨ns,rfl,rfl,_⟩,h,_⟩;exact⟨h,by rw[R7];exact R3 _⟩
 ·exact R4 (show((lo:Int)+d).toNat<=300 by omega) (by decide)
 ·rintro i σ ys H' hi ⟨⟨o,rfl⟩,⟨ns,rfl,rfl,hp⟩,h,g⟩;refine aj ?_;refine⟨_,rfl,_,rfl,p,_,rfl,g.df,by omega,cD (by omega) (by omega),λn H2 g2 n1 n2=>⟨_,_,rfl,rfl,g2.keep D _ nD h,⟨_,rfl⟩,⟨ns++[1+n],by rw[R9];rfl,by rw[R8];rfl,λk hk=>?_⟩,ae,(bf.refl g1.df).put hD nD (g.trans g2)⟩⟩;rcases So.mp hk with z|z
  ·exact hp k z
  ·rw[Sk.mp z];omega
 ·rintro σ ys H' ⟨_,⟨ns,rfl,hn,hp⟩,h,g⟩;exact⟨D,_,rfl,.inl ⟨bc.of h,λt ht=>q t ns _ ((g1.trans g).new ht) ae (by omega) (by omega) hp⟩⟩
def uH:Sp:=λvs H Q _=>∃(p:Addr)(s g:Str),vs=[.ref p,.str s,.str g]/\ez H p/\∀(t:Addr)(bs:List Addr)(ps:List (V×V)) H',bf p H H'->bW rM H' t bs ps->1<=ps.length->ps.length<=3->(∀q∈ps,q.1∈cellsV s/\q.2∈cellsV g)->Q (.ref t) H'
theorem lr{α:Type}{At:Hp->Addr->α->Prop}{H H':Hp}{bs:List Addr}{xs:List α}{a:Addr}{x:α}(hl:bs.length=xs.length)(h:∀(i:Nat) a x,bs[i]? = some a->xs[i]? = some x->At H a x)(k:∀a x,At H a x->At H' a x)(hx:At H' a x):(bs++[a]).length=(xs++[x]).length/\∀(i:Nat) b y,(bs++[a])[i]? = some b->(xs++[x])[i]? = some y->At H' b y:=by
 refine⟨by rw[R8,R8,hl];rfl,λi b y e1 e2=>?_⟩;by_cases hi:i<bs.length
 ·rw[Sv hi]at e1;rw[Sv (by omega)]at e2;exact k _ _ (h i b y e1 e2)
 ·have hi':i=bs.length:=by have:=(Sj.mp e1).1;rw[R8]at this;simp at this;omega
  rw[hi',Su (R3 _),Nat.sub_self]at e1;rw[hi',hl,Su (R3 _),Nat.sub_self]at e2;cases e1;cases e2;exact hx
abbrev iZ:Stmt:=top 81
theorem dU:au ["_law_pot_here","_law_sort","_law_goal","_law_cells_here","_law_goals","_law_begin","_law_found","_law_k"] ["_law_pot_here","_law_sort","_law_goal"] (ao iZ):=fs
theorem yK(B:j5 mg)(F:FA K mg "_law_pairs" iZ)
  (aI:bB bE P w K mg base 1 "_law_draw" ["_law_pot_here","_law_many"] gu)
  (fV:bB bE P w K mg base 1 "_law_cells" ["_law_sort"] rP) :
  bB bE P w K mg base 2 "_law_pairs" ["_law_pot_here","_law_sort","_law_goal"] uH:=by
 refine F.ok dU λf cdv A outer s H vs Q E hr h=>?_;obtain⟨p,s,g,rfl,hP,q⟩:=h;refine⟨_,(ak (As (i:=3) (j:=4) rfl dU.nd rfl rfl (by decide) rfl rfl (aa (aM fV hr (aa (pv 1) ah)) (aa (aM fV hr (aa (pv 2) ah)) ah)) rfl)
   (ak (aX (i:=5) dU.nd rfl (SQ rfl) (aM aI hr (aa (pv 0) (aa (aK aN rfl B.len S5 (aa (pv 3) ah)) ah))))
   (ak (aX (i:=6) dU.nd rfl (SQ rfl) (bJ ah))
   (ak (fi PassesOwn.never rfl (cV rfl B.range (aa (aU cv ai (aM aI hr (aa (pv 0) (aa ai ah)))) ah)) (aL (i:=7) dU.nd rfl (SQ rfl))
    (cb (cY (jc PySem.F.plainAttrs_list PySem.F.slot_list_append PySem.F.type_list_append cj (pv 6) (aa (aY (aa (bK K (pv 3) (aU ot (aU cv (pv 5) (pv 7)) (aK aN rfl B.len S5 (aa (pv 3) ah)))) (aa (bK K (pv 4) (aM aI hr (aa (pv 0) (aa (aK aN rfl B.len S5 (aa (pv 4) ah)) ah)))) ah))) ah)))))
   (ax (bx bo rfl B.tuple SV (aa (pv 6) ah))))))),?_⟩
 obtain⟨c1,c2⟩:=mj s;obtain⟨c3,c4⟩:=mj g;have gP:=bf.refl hP;refine⟨_,rfl,s,rfl,λl1 H1 n1 s1 hl1=>⟨_,rfl,g,rfl,λl2 H2 n2 s2 hl2=>⟨_,_,rfl,?_⟩⟩⟩;dsimp only;have s12:=s1.trans s2;have g2:bf p H H2:=bf.same hP s12;have m1:l1≠p:=gP.ne n1;have m2:l2≠p:=(bf.same hP s1).ne n2;refine⟨_,rfl,_,rfl,l1,_,rfl,.inl (bc.of (s2 _ _ hl1)),p,_,rfl,g2.df,by omega,cD (by omega) (by omega),λd1 H3 g3 a1 b1=>aj ?_⟩;dsimp only;refine⟨Sr _,λL hL=>aj ?_⟩;dsimp only;have gL:=(bf.refl g3.df).new (o:=.lst []) hL;have mL:L≠p:=g3.ne hL;have e1:upd H3 L (.lst []) l1=some (.lst (cellsV s)):=ag hL _ _ _ (g3.keep _ _ m1 (s2 _ _ hl1));have e2:upd H3 L (.lst []) l2=some (.lst (cellsV g)):=ag hL _ _ _ (g3.keep _ _ m2 hl2);have k1:l1≠L:=λz=>by rw[z,ae]at e1;have:=congrArg (λo=>match o with|some (HO.lst x)=>x.length|_=>0) e1;simp at this;omega
 have k2:l2≠L:=λz=>by rw[z,ae]at e2;have:=congrArg (λo=>match o with|some (HO.lst x)=>x.length|_=>0) e2;simp at this;omega
 have ME:H2 L=none:=by
  cases z:H2 L with
  |none=>rfl
  |some o=>exact SJ hL (by rw[g3.keep _ _ mL z];simp)
 have Bv:upd H3 L (.lst []) L=some (.lst []):=ae;have g0:bf p H2 (upd H3 L (.lst [])):=g3.trans gL;revert gL e1 e2 Bv g0;generalize upd H3 L (.lst [])=H4;intro gL e1 e2 Bv g0;refine⟨_,rfl,p,_,rfl,g0.df,by decide,by decide,λd2 H5 g5 a2 b2=>⟨_,_,rfl,rfl,_,rfl,(iH (by omega) (by omega)).1,(iH (by omega) (by omega)).2,?_⟩⟩;refine iF (n:=(1+d2).toNat) (λi σ H'=>∃(o:Option V)(bs:List Addr)(ps:List (V×V)),σ=[some (.ref p),some (.str s),some (.str g),some (.ref l1),some (.ref l2),some (.int d1),some (.ref L),o]/\H' L=some (.lst (bs.map V.ref))/\(bs.length=ps.length/\∀(i:Nat) a x,bs[i]? = some a->ps[i]? = some x->rM H' a x)/\ps.length=i/\(∀q∈ps,q.1∈cellsV s/\q.2∈cellsV g)/\bf p H2 H'/\H' l1=some (.lst (cellsV s))/\H' l2=some (.lst (cellsV g)))
  ⟨none,[],[],rfl,g5.keep _ _ mL Bv,⟨rfl,λi a x e=>by cases e⟩,rfl,(λ_ z=>nomatch z),g0.trans g5,g5.keep _ _ m1 e1,g5.keep _ _ m2 e2⟩ ?_ ?_
 ·rintro i σ H' hi ⟨o,bs,ps,rfl,hL',⟨rK,hbt⟩,hpl,hpm,g',f1,f2⟩;refine aj ?_;dsimp only;have z0:=Int.emod_nonneg (d1+(0+(i:Int))) (show((cellsV s).length:Int)≠0 by omega);have z1:=Int.emod_lt_of_pos (d1+(0+(i:Int))) (show(0:Int)<(cellsV s).length by omega);obtain⟨v1,hv1,hm1⟩:=hU z0 z1;refine⟨_,rfl,.inl ⟨rfl,_,bc.of hL'⟩,_,rfl,_,rfl,_,rfl,_,_,rfl,rfl,_,rfl,l1,_,rfl,.inl (bc.of f1),_,_,rfl,rfl,(by omega),l1,_,_,v1,rfl,rfl,bc.of f1,hv1,_,rfl,_,rfl,_,rfl,l2,_,rfl,.inl (bc.of f2),p,_,rfl,g'.df,by omega,cD (by omega) (by omega),λd3 H6 g6 a3 b3=>?_⟩;obtain⟨v2,hv2,hm2⟩:=hU a3 b3;have EM:=g6.keep _ _ m2 f2;refine⟨l2,_,_,v2,rfl,rfl,bc.of EM,hv2,c5,λT hT=>?_⟩;have sT:=ag hT (.tup [v1,v2]);have Di:=sT _ _ (g6.keep _ _ mL hL');refine⟨L,_,_,rfl,rfl,Di,?_,_,bs++[T],ps++[(v1,v2)],rfl,by rw[ae,R9];rfl,lr rK hbt (λa x z=>?_) ?_,by rw[R8,hpl];rfl,λq hq=>?_,(bf.refl g2.df).put ME mL ((g'.trans g6).new hT),?_,?_⟩
  ·rw[R7,rK,hpl];exact Sb (show i<10 by omega) (by decide)
  ·exact(aQ.of sT).iw Di _ _ (jC g'.df g6 z)
  ·exact aQ.refl.iw Di _ _ ae
  ·rcases So.mp hq with z|z
   ·exact hpm q z
   ·rw[Sk.mp z];exact⟨Sf hm1,Sf hm2⟩
  ·rw[aH k1];exact sT _ _ (g6.keep _ _ m1 f1)
  ·rw[aH k2];exact sT _ _ EM
 ·rintro σ H' ⟨o,bs,ps,rfl,hL',⟨rK,hbt⟩,hpl,hpm,g',f1,f2⟩;dsimp only;refine⟨_,rfl,L,_,rfl,.inl ⟨bc.of hL',λt ht=>q t bs ps _ ((g2.trans g').new ht) ⟨ae,rK,λi a x e1 e2=>ag ht _ _ _ (hbt i a x e1 e2)⟩ (by omega) (by omega) hpm⟩⟩
abbrev gJ(H:Hp)(l:Addr)(ss:Hd):Prop:=H l=some (.lst (ss.map V.str))
def eE(ss:Hd):List Int:=((List.range ss.length).filter λk=>!decide (ss.getD k ""="t")).map λ(k:Nat)=>(k:Int)+1
def r6:Sp:=λvs H Q _=>∃(l:Addr)(ss:Hd),vs=[.ref l]/\gJ H l ss/\ss.length<=1000/\∀u H',H u=none->aE H H'->H' u=some (.lst ((eE ss).map V.int))->Q (.ref u) H'
theorem xK{ss:Hd}{i:Nat}(h:i<ss.length):vi (ss.map V.str) (i:Int)=some (.str (ss.getD i "")):=ay (j:=i) (by rw[Sw,Sd h,List.getD_eq_getElem?_getD,Sd h];rfl)
theorem FV{x y:Str}:(!decide (V.str x=V.str y)) = !decide (x=y):=by rw[du]
abbrev iY:Stmt:=top 84
theorem qC:au ["_law_sorts"] ["_law_sorts"] (ao iY):=fs
theorem zk(B:j5 mg)(F:FA K mg "_law_plain" iY) :
  bB bE P w K mg base 1 "_law_plain" ["_law_sorts"] r6:=by
 refine F.ok qC λf cdv A outer s H vs Q E hr h=>?_;obtain⟨l,ss,rfl,hl,hz,q⟩:=h;refine⟨_,(ax (bw (N':=["_law_k","_law_sorts"]) (src:=[none,some 0]) rfl (ba.jb (by kernel_rfl)) (cV rfl B.range (aa (aK aN rfl B.len S5 (aa (pv 0) ah)) ah)) (λcl C s H fp=>(e7 (i:=0))) (tc:=(jf (eZ NN (eZ (mY K) (bp 1) (bp 0)) (tC (.str "t"))))) (λcl C s H fp=>dR (bu uQ (bK K (oY 1) (fP 0)) av)) (te:=(eZ (vj λi j=>V.int (i+j)) (bp 0) (tC (.int 1)))) (λcl C s H fp=>(aU cv (fP 0) ai)))),?_⟩;have hn:(ss.map V.str).length=ss.length:=R7 ..;refine⟨_,rfl,l,_,rfl,.inl (bc.of hl),_,rfl,(iH (by omega) (by rw[hn];omega)).1,(iH (by omega) (by rw[hn];omega)).2,λD hD=>?_⟩;refine de (n:=(((ss.map V.str).length:Nat):Int).toNat) (λi σ ys H'=>(∃o,σ=[o,some (.ref l)])/\ys=(((List.range i).filter λk=>!decide (ss.getD k ""="t")).map λ(k:Nat)=>(k:Int)+1).map V.int/\ys.length<=i/\H' D=some (.lst ys)/\aE H H') ⟨⟨none,rfl⟩,rfl,R3 _,ae,ag hD _⟩ ?_ ?_ ?_ ?_
 ·rintro i σ ys H' _ ⟨_,_,hi,h,_⟩;exact⟨h,hi⟩
 ·rw[hn];exact R4 (show((ss.length:Nat):Int).toNat<=1000 by omega) (by decide)
 ·rintro i σ ys H' hi ⟨⟨o,rfl⟩,rfl,hz',h,sm⟩;have hi':i<ss.length:=by rw[hn]at hi;omega
  refine aj ?_;refine⟨_,rfl,_,rfl,l,_,_,_,rfl,rfl,bc.of (sm _ _ hl),by rw[show(0:Int)+(i:Int)=(i:Int) by omega];exact xK hi',rfl,_,rfl,?_⟩;rw[FV];by_cases e:ss.getD i ""="t"
  ·rw[R6 e];refine cq ⟨⟨_,rfl⟩,?_,Nat.le_succ_of_le hz',h,sm⟩;rw[List.range_succ,List.filter_append,List.filter_cons_of_neg (by rw[R6 e];exact Sh)];simp
  ·rw[R5 e];refine cB ⟨_,rfl,_,_,rfl,rfl,h,⟨_,rfl⟩,?_,?_,ae,a_ hD sm⟩
   ·rw[List.range_succ,List.filter_append,List.filter_cons_of_pos (by rw[R5 e];rfl),R9,R9];simp
   ·rw[R8];exact Nat.succ_le_succ hz'
 ·rintro σ ys H' ⟨_,rfl,_,h,sm⟩;refine q D _ hD sm ?_;rw[h,hn];rfl
def Mg:D:=.tup [.str "n",.tup [.tup [.non,.non]]]
def MU:D:=.tup [.str "n",.tup [.tup [.int 0,.int 9]]]
def MC:D:=.tup [.str "w",.bl false,.tup []]
def MW:D:=.tup [.str "w",.bl true,.tup [.str "a",.str "b",.str "cc"]]
def Jm:List D:=[Mg,MU,MC,MW]
def yt:D->Str
 | .tup (.str s::_)=>s
 |_=>""
theorem gV{d:D}(h:d∈Jm):EW d=true/\(yt d="n"\/yt d="w")/\d.depth<=3/\∃s r,d=.tup (.str s::r):=by
 simp only[Jm,Sm,SN,or_false]at h;rcases h with rfl|rfl|rfl|rfl
 ·exact⟨rfl,.inl rfl,by simp[Mg,D.depth,b_],_,_,rfl⟩
 ·exact⟨rfl,.inl rfl,by simp[MU,D.depth,b_],_,_,rfl⟩
 ·exact⟨rfl,.inr rfl,by simp[MC,D.depth,b_],_,_,rfl⟩
 ·exact⟨rfl,.inr rfl,by simp[MW,D.depth,b_],_,_,rfl⟩
structure vp(K:S7)(H:Hp)(l:Addr)(us:List V)(ds:List D):Prop where
 lst:H l=some (.lst us)
 dat:aD K H ds us
 mem:∀d∈ds,d∈Jm
 pos:1<=ds.length
 few:ds.length<=4
theorem vp.same{K:S7}{H H':Hp}{l:Addr}{us:List V}{ds:List D}(s:aE H H')(h:vp K H l us ds):vp K H' l us ds:=⟨s _ _ h.lst,h.dat.same s,h.mem,h.pos,h.few⟩
theorem vp.kd{K:S7}{H:Hp}{l:Addr}{us:List V}{ds:List D}(h:vp K H l us ds):pG K H l us (ds.map yt):=by refine⟨h.lst,by rw[R7,h.dat.length],λi v s e1 e2=>?_⟩;obtain⟨d,e3,e4⟩:=h.dat.get e1;rw[Sw,e3]at e2;cases e2;obtain⟨_,_,_,s,r,rfl⟩:=gV (h.mem d (Sf e3));obtain⟨a,vs,rfl,h1,h2⟩:=g_ e4;obtain⟨v1,r1,rfl,h3,h4⟩:=f9 h2;rw[A7 h3]at h1;exact⟨a,r1,rfl,h1⟩
def xu(K:S7):Sp:=λvs H Q _=>∃(p:Addr),vs=[.ref p]/\ez H p/\∀(l:Addr) us ds H',bf p H H'->vp K H' l us ds->Q (.ref l) H'
abbrev jI:Stmt:=top 78
theorem lx:au ["_law_pot_here","_law_some"] ["_law_pot_here"] (ao jI):=fs
theorem Cy(B:j5 mg)(F:FA K mg "_law_kind" jI)
  (aI:bB bE P w K mg base 1 "_law_draw" ["_law_pot_here","_law_many"] gu) :
  bB bE P w K mg base 2 "_law_kind" ["_law_pot_here"] (xu K):=by
 refine F.ok lx λf cdv A outer s H vs Q E hr h=>?_;obtain⟨p,rfl,hP,q⟩:=h;refine CC (GV (i:=1) lx.nd rfl (Or.inr rfl) (Ak (ar (bF (ar (bj av) (ar (bF (ar (bF (ar (bj fh) (ar (bj fh) bA))) bA)) bA))) (ar (bF (ar (bj av) (ar (bF (ar (bF (ar (bj ai) (ar (bj ai) bA))) bA)) bA))) (ar (bF (ar (bj av) (ar (bj cC) (ar (bF bA) bA)))) (ar (bF (ar (bj av) (ar (bj cC) (ar (bF (ar (bj av) (ar (bj av) (ar (bj av) bA)))) bA)))) bA)))))
  (il (bj (bw (N':=["_law_k","_law_pot_here","_law_some"]) (src:=[none,some 0,some 1]) rfl (ba.jb (by kernel_rfl)) (cV rfl B.range (aa (aU cv ai (aM aI hr (aa (pv 0) (aa ai ah)))) ah)) (λcl C s H fp=>(e7 (i:=0))) (λcl C s H fp=>bg) (te:=(eZ (mY K) (bp 2) (kF gu [] E0 (eN (bp 1) (eN (tC (.int 4)) nI))))) (λcl C s H fp=>(bK K (oY 2) (aM (hg:=Dh) aI hr (aa (oY 1) (aa ai ah))))))))) ?_
 have g0:=bf.refl hP;refine⟨c5,λu1 h1=>⟨dH,λu2 h2=>⟨c5,λu3 h3=>⟨c5,λu4 h4=>⟨dH,λu5 h5=>⟨c5,λu6 h6=>⟨vM,λu7 h7=>⟨cM,λu8 h8=>⟨cM,λu9 h9=>⟨cM,λIm h10=>?_⟩⟩⟩⟩⟩⟩⟩⟩⟩⟩;have s1:=ag h1 (.tup [.non,.non]);have s2:=ag h2 (.tup [.ref u1]);have s3:=ag h3 (.tup [.str "n",.ref u2]);have s4:=ag h4 (.tup [.int 0,.int 9]);have s5:=ag h5 (.tup [.ref u4]);have s6:=ag h6 (.tup [.str "n",.ref u5]);have s7:=ag h7 (.tup []);have s8:=ag h8 (.tup [.str "w",.bl false,.ref u7]);have s9:=ag h9 (.tup [.str "a",.str "b",.str "cc"]);have p7:=ag h10 (.tup [.str "w",.bl true,.ref u9]);have dA:aV K _ Mg (.ref u3):=aV.same (s4.trans (s5.trans (s6.trans (s7.trans (s8.trans (s9.trans p7)))))) (cE ae (aD.cons (gY _) (aD.cons (aV.same s3 (cE ae (aD.cons (aV.same s2 (cE ae (aD.cons rL (aD.cons rL aD.nil)))) aD.nil))) aD.nil)));have dB:aV K _ MU (.ref u6):=aV.same (s7.trans (s8.trans (s9.trans p7))) (cE ae (aD.cons (gY _) (aD.cons (aV.same s6 (cE ae (aD.cons (aV.same s5 (cE ae (aD.cons (lY _) (aD.cons (lY _) aD.nil)))) aD.nil))) aD.nil)));have dC:aV K _ MC (.ref u8):=aV.same (s9.trans p7) (cE ae (aD.cons (gY _) (aD.cons (sq _) (aD.cons (aV.same s8 (cE ae aD.nil)) aD.nil))));have dD:aV K _ MW (.ref Im):=cE ae (aD.cons (gY _) (aD.cons (sq _) (aD.cons (aV.same p7 (cE ae (aD.cons (gY _) (aD.cons (gY _) (aD.cons (gY _) aD.nil))))) aD.nil)));have dd:=aD.cons dA (aD.cons dB (aD.cons dC (aD.cons dD aD.nil)));have sA:=s1.trans (s2.trans (s3.trans (s4.trans (s5.trans (s6.trans (s7.trans (s8.trans (s9.trans p7))))))));revert sA dd;generalize upd (upd (upd (upd (upd (upd (upd (upd (upd (upd H u1 (.tup [.non,.non])) u2 (.tup [.ref u1])) u3 (.tup [.str "n",.ref u2])) u4 (.tup [.int 0,.int 9])) u5 (.tup [.ref u4])) u6 (.tup [.str "n",.ref u5])) u7 (.tup [])) u8 (.tup [.str "w",.bl false,.ref u7])) u9 (.tup [.str "a",.str "b",.str "cc"])) Im (.tup [.str "w",.bl true,.ref u9])=H0;intro dd sA;clear dA dB dC dD s1 s2 s3 s4 s5 s6 s7 s8 s9 p7 h1 h2 h3 h4 h5 h6 h7 h8 h9 h10;refine⟨BE,λL hL=>aj ?_⟩;dsimp only;have sL:=ag hL (.lst [.ref u3,.ref u6,.ref u8,.ref Im]);have Bv:upd H0 L (.lst [.ref u3,.ref u6,.ref u8,.ref Im]) L=some (.lst [.ref u3,.ref u6,.ref u8,.ref Im]):=ae;have dd:=dd.same sL;have sB:=sA.trans sL;revert sB dd Bv;generalize upd H0 L (.lst [.ref u3,.ref u6,.ref u8,.ref Im])=H1;intro Bv dd sB;have g1:bf p H H1:=bf.same hP sB;have mL:L≠p:=λz=>by obtain⟨x,y,e,_⟩:=hP;have:=sA _ _ e;rw[←z,hL]at this;cases this
 refine⟨_,rfl,p,_,rfl,g1.df,by decide,by decide,λd H2 g2 a1 b1=>⟨_,_,rfl,rfl,_,rfl,(iH (by omega) (by omega)).1,(iH (by omega) (by omega)).2,λD hD=>?_⟩⟩;have nD:=g2.ne hD;have LM:H1 D=none:=by
  cases z:H1 D with
  |none=>rfl
  |some o=>exact SJ hD (by rw[g2.keep _ _ nD z];simp)
 have nl:nE Jm=true:=jL.mpr λd hd=>(gV hd).1;refine de (n:=(1+d).toNat) (λi σ ys H'=>(∃o,σ=[o,some (.ref p),some (.ref L)])/\(∃ds,aD K H' ds ys/\ds.length=i/\∀d∈ds,d∈Jm)/\H' D=some (.lst ys)/\bf p H1 H')
  ⟨⟨none,rfl⟩,⟨[],aD.nil,rfl,by simp⟩,ae,g2.new hD⟩ ?_ ?_ ?_ ?_
 ·rintro i σ ys H' _ ⟨_,⟨ds,h1,rfl,_⟩,h,_⟩;exact⟨h,by rw[h1.length];exact R3 _⟩
 ·exact R4 (show(1+d).toNat<=300 by omega) (by decide)
 ·rintro i σ ys H' hi ⟨⟨o,rfl⟩,⟨ds,h1,h2,h3⟩,h,g⟩;refine aj ?_;refine⟨_,rfl,_,rfl,p,_,rfl,g.df,by decide,by decide,λn H3 g3 n1 n2=>?_⟩;obtain⟨v,hv,hm⟩:=hU (xs:=[V.ref u3,.ref u6,.ref u8,.ref Im]) n1 n2;obtain⟨dv,e1,e2⟩:=dd.get hm;have hd:=Sf e1;have IS:=g.trans g3;have yo:=g3.keep D _ nD h;refine⟨L,_,_,v,rfl,rfl,bc.of (IS.keep _ _ mL Bv),hv,yo,⟨_,rfl⟩,⟨ds++[dv],?_,by rw[R8,h2];rfl,λx hx=>?_⟩,ae,(bf.refl g1.df).put LM nD IS⟩
  ·have Qj:nE (ds++[dv])=true:=jL.mpr λx hx=>by
    rcases So.mp hx with z|z
    ·exact(gV (h3 x z)).1
    ·rw[Sk.mp z];exact(gV hd).1
   refine aD.cL (KS.iw yo) Qj ?_;refine(aD.grow g.df g3 (jL.mpr λx hx=>(gV (h3 x hx)).1) h1).append (aD.cons (aV.grow g1.df IS (gV hd).1 e2) aD.nil)
  ·rcases So.mp hx with z|z
   ·exact h3 x z
   ·rw[Sk.mp z];exact hd
 ·rintro σ ys H' ⟨_,⟨ds,h1,h2,h3⟩,h,g⟩;exact q D ys ds H' (g1.trans g) ⟨h,h1,h3,by omega,by omega⟩
theorem rd{α β:Type}(g:α->β):∀(l:List α)(k:Nat),(l.map g).eraseIdx k=(l.eraseIdx k).map g
 |[],_=>rfl
 |_::_,0=>rfl
 |x::l,k+1=>congrArg (g x :: ·) (rd g l k)
def F0:Sp:=λvs H Q _=>∃(p:Addr)(wd:Nat),vs=[.ref p,.int (wd:Nat)]/\ez H p/\1<=wd/\wd<=100/\
 ∀(t:Addr)(bs:List Addr)(od:Od)(H':Hp),bf p H H'->bW Ej H' t bs od->od.length<=wd->(∀q∈od,1<=q.1/\q.1<=wd)->Q (.ref t) H'
abbrev iq:Stmt:=top 83
theorem eO:au ["_law_pot_here","_law_wide","_law_left","_law_found","_law_k"] ["_law_pot_here","_law_wide"] (ao iq):=fs
theorem EU(B:j5 mg)(F:FA K mg "_law_unlike" iq)
  (aI:bB bE P w K mg base 1 "_law_draw" ["_law_pot_here","_law_many"] gu) :
  bB bE P w K mg base 2 "_law_unlike" ["_law_pot_here","_law_wide"] F0:=by
 refine F.ok eO λf cdv A outer s H vs Q E hr h=>?_;obtain⟨p,wd,rfl,hP,w1,w2,q⟩:=h;refine⟨_,(ak (aX (i:=2) eO.nd rfl (SQ rfl) (bx (qv rfl) rfl B.list PyProof.Rows.boot_list (aa (bx AX rfl B.range PyProof.Rows.boot_range (aa ai (aa (aU cv (pv 1) ai) ah))) ah)))
   (ak (aX (i:=3) eO.nd rfl (SQ rfl) (bJ ah))
   (ak (fi PassesOwn.never rfl (cV rfl B.range (aa (aU cv ai (aM aI hr (aa (pv 0) (aa (pv 1) ah)))) ah)) (aL (i:=4) eO.nd rfl (SQ rfl))
    (cb (cY (jc PySem.F.plainAttrs_list PySem.F.slot_list_append PySem.F.type_list_append cj (pv 3) (aa (aY (aa (jc PySem.F.plainAttrs_list PySem.F.slot_list_pop PySem.F.type_list_pop Bj (pv 2) (aa (aM aI hr (aa (pv 0) (aa (aK aN rfl B.len S5 (aa (pv 2) ah)) ah))) ah)) (aa (eY bM (aM aI hr (aa (pv 0) (aa ai ah))) ai) ah))) ah)))))
   (ax (bx bo rfl B.tuple SV (aa (pv 3) ah)))))),?_⟩
 refine⟨_,rfl,_,_,rfl,rfl,_,_,rfl,λr hr1=>⟨r,_,_,rfl,ae,by omega,by omega,by omega,λL hL=>aj ?_⟩⟩;dsimp only;refine⟨Sr _,λD hD=>aj ?_⟩;dsimp only;have g1:bf p H (upd H r (.y9 1 ((wd:Nat)+1))):=(bf.refl hP).new hr1;have g2:bf p H (upd (upd H r (.y9 1 ((wd:Nat)+1))) L (.lst (j3 1 ((wd:Nat)+1)))):=g1.trans ((bf.refl g1.df).new hL);have g3:bf p H (upd (upd (upd H r (.y9 1 ((wd:Nat)+1))) L (.lst (j3 1 ((wd:Nat)+1)))) D (.lst [])):=g2.trans ((bf.refl g2.df).new hD);have nL:L≠p:=(bf.refl g1.df).ne hL;have nD:D≠p:=(bf.refl g2.df).ne hD;have L6:L≠D:=λz=>by rw[←z,ae]at hD;cases hD
 have hL0:(upd (upd (upd H r (.y9 1 ((wd:Nat)+1))) L (.lst (j3 1 ((wd:Nat)+1)))) D (.lst [])) L=some (.lst (((List.range wd).map λi=>(1:Int)+(i:Nat)).map V.int)):=by rw[aH L6,ae,List.map_map];unfold j3;rw[show(((wd:Nat):Int)+1-1).toNat=wd by omega];rfl
 have MO:(upd (upd (upd H r (.y9 1 ((wd:Nat)+1))) L (.lst (j3 1 ((wd:Nat)+1)))) D (.lst [])) D=some (.lst []):=ae;have ME:H L=none:=by
  cases z:H L with
  |none=>rfl
  |some o=>rw[aH (aW z hr1),z]at hL;cases hL
 have LM:H D=none:=by
  cases z:H D with
  |none=>rfl
  |some o =>
   by_cases e:D=L
   ·exact SJ e.symm L6
   ·rw[aH e,aH (aW z hr1),z]at hD;cases hD
 revert g3 hL0 MO;generalize (upd (upd (upd H r (.y9 1 ((wd:Nat)+1))) L (.lst (j3 1 ((wd:Nat)+1)))) D (.lst []))=H0;intro g3 hL0 MO;have ng:∀{H':Hp}{o:HO}{a:Addr},H a=none->a≠p->bf p H H'->bf p H (upd H' a o):=λ{H' o a} ha na g'=>(bf.refl hP).put ha na g';refine⟨_,rfl,_,rfl,p,_,rfl,g3.df,by omega,cD (by omega) (by omega),λd H1 gd a1 b1=>⟨_,_,rfl,rfl,_,rfl,(iH (j:=1+d) (by omega) (by omega)).1,(iH (j:=1+d) (by omega) (by omega)).2,?_⟩⟩;refine iF (n:=(1+d).toNat) (λi σ H'=>∃(o:Option V)(ms:List Int)(bs:List Addr)(od:Od),σ=[some (.ref p),some (.int (wd:Nat)),some (.ref L),some (.ref D),o]/\H' L=some (.lst (ms.map V.int))/\ms.length+i=wd/\(∀m∈ms,1<=m/\m<=wd)/\
   H' D=some (.lst (bs.map V.ref))/\(bs.length=od.length/\∀(i:Nat) b q,bs[i]? = some b->od[i]? = some q->Ej H' b q)/\od.length=i/\(∀q∈od,1<=q.1/\q.1<=wd)/\bf p H H')
  ⟨none,_,[],[],rfl,gd.keep _ _ nL hL0,by simp,λm hm=>?_,gd.keep _ _ nD MO,⟨rfl,λi b q e=>by cases e⟩,rfl,(λ_ z=>nomatch z),g3.trans gd⟩ ?_ ?_
 ·obtain⟨i,hi,rfl⟩:=Sl.mp hm;have:i<wd:=by simpa using hi
  omega
 ·rintro i σ H' hi ⟨o,ms,bs,od,rfl,hL',MY,hmb,hD',⟨rK,hbt⟩,hol,hob,g'⟩;have hms:1<=ms.length:=by omega
  have FE:(ms.map V.int).length=ms.length:=R7 ..;refine aj ?_;dsimp only;refine⟨_,rfl,.inl ⟨rfl,_,bc.of hD'⟩,_,rfl,.inl ⟨rfl,_,bc.of hL'⟩,_,rfl,_,rfl,L,_,rfl,.inl (bc.of hL'),p,_,rfl,g'.df,by rw[FE];omega,cD (by rw[FE];omega) (by rw[FE];omega),λd1 H2 Jr a2 b2=>?_⟩;rw[FE]at b2;have hL2:=Jr.keep _ _ nL hL';have hk:d1.toNat<ms.length:=by omega
  refine⟨L,_,d1,d1.toNat,V.int ms[d1.toNat],rfl,rfl,hL2,?_,?_,?_,by simp[hk],?_⟩
  ·have e:((2:Int) ^ 63)=9223372036854775808:=by decide
   rw[e];omega
  ·have e:((2:Int) ^ 63)=9223372036854775808:=by decide
   rw[e];omega
  ·rw[FE];exact PySem.seqIndex_of a2 b2
  ·have gA:bf p H (upd H2 L (.lst ((ms.map V.int).eraseIdx d1.toNat))):=ng ME nL (g'.trans Jr);refine⟨_,rfl,p,_,rfl,gA.df,by omega,cD (by omega) (by omega),λd2 H4 g4 a4 b4=>⟨rfl,c5,λT hT=>?_⟩⟩;have QD:H4 L=some (.lst ((ms.eraseIdx d1.toNat).map V.int)):=by have:=g4.keep _ _ nL ae;rw[this,rd]
   have yo:(upd H2 L (.lst ((ms.map V.int).eraseIdx d1.toNat))) D=some (.lst (bs.map V.ref)):=by rw[aH L6.symm];exact Jr.keep _ _ nD hD'
   have Nr:=g4.keep _ _ nD yo;have sT:=ag hT (.tup [.int ms[d1.toNat],.bl (decide (V.int d2=V.int 1))]);have tp:aQ H' H4:=((aQ.grow g'.df Jr).iw hL2).trans (aQ.grow gA.df g4);have hDT:=sT _ _ Nr;refine⟨D,_,.ref T,rfl,rfl,hDT,?_,?_⟩
   ·rw[R7,rK];exact R_ (show od.length<=1000 by omega) (by decide)
   ·refine⟨_,ms.eraseIdx d1.toNat,bs++[T],od++[(ms[d1.toNat],decide (V.int d2=V.int 1))],rfl,?_,?_,λm hm=>hmb m (List.mem_of_mem_eraseIdx hm),by rw[ae,R9];rfl,lr rK hbt (λa x z=>(tp.trans (aQ.of sT)).iw hDT _ _ z) (aQ.refl.iw hDT _ _ ae),by rw[R8,hol];rfl,λq' hq'=>?_,ng LM nD ((gA.trans g4).trans ((bf.refl (gA.trans g4).df).new hT))⟩
    ·rw[aH L6];exact sT _ _ QD
    ·rw[List.length_eraseIdx_of_lt hk];omega
    ·rcases So.mp hq' with z|z
     ·exact hob q' z
     ·rw[Sk.mp z];exact hmb _ (List.getElem_mem hk)
 ·rintro σ H' ⟨o,ms,bs,od,rfl,hL',MY,hmb,hD',⟨rK,hbt⟩,hol,hob,g'⟩;dsimp only;exact⟨_,rfl,D,_,rfl,.inl ⟨bc.of hD',λt ht=>q t bs od _ (g'.new ht) ⟨ae,rK,λi a x e1 e2=>ag ht _ _ _ (hbt i a x e1 e2)⟩ (by omega) hob⟩⟩
end My
namespace L2
open PySem
def Jv(neg:Bool):R2:=λx y H Q=>∃a b xs,x=.ref a/\y=.ref b/\H a=some (.lst xs)/\H b=some (.lst [])/\Q (.bl (if neg then !xs.isEmpty else xs.isEmpty)) H
theorem uU{X:Cx}(hu:X.A.units+8<cLine):jk X (compareOp .NotEq) (Jv true):=by
 intro ac s σ H x y v u Q I rx ry h;obtain⟨a,b,xs,rfl,rfl,ha,hb,q⟩:=h;cases xs with
 |nil =>
  refine v9 ac s σ H _ _ v u Q I rx ry ⟨.lst [],.lst [],kg ha aD.nil,kg hb aD.nil,?_,?_⟩
  ·have:(D.lst []).depth<=8:=by simp[D.depth,b_]
   omega
  ·have e:cI (.lst []) (.lst [])=true:=lC _;rw[e];exact q
 |cons z zs=>exact C5 (by omega) ac s σ H _ _ v u Q I rx ry ⟨a,b,_,_,rfl,rfl,bc.of ha,bc.of hb,by simp,q⟩
theorem pQ{X:Cx}(hu:X.A.units+8<cLine):jk X (compareOp .Eq) (Jv false):=by
 intro ac s σ H x y v u Q I rx ry h;obtain⟨a,b,xs,rfl,rfl,ha,hb,q⟩:=h;cases xs with
 |nil =>
  refine w6 ac s σ H _ _ v u Q I rx ry ⟨.lst [],.lst [],kg ha aD.nil,kg hb aD.nil,?_,?_⟩
  ·have:(D.lst []).depth<=8:=by simp[D.depth,b_]
   omega
  ·have e:cI (.lst []) (.lst [])=true:=lC _;rw[e];exact q
 |cons z zs=>exact B8 (by omega) ac s σ H _ _ v u Q I rx ry ⟨a,b,_,_,rfl,rfl,bc.of ha,bc.of hb,by simp,q⟩
end L2
namespace My
open PySem L2
theorem bV{tc:TT}{a t2:TS}{D:Ends}{σ:St}{H:Hp}(Pb:Bool->Hp->Prop)(hc:∀T:Bool->Hp->Prop,(∀c H',Pb c H'->T c H')->tc σ H T)(ha:∀H',Pb true H'->a {D with nx:=t2 D} σ H')(hb:∀H',Pb false H'->t2 D σ H'):uA (Eh tc a sZ) t2 D σ H :=
 hc _ λc H' h=>by
  cases c with
  |true=>exact cB (ha H' h)
  |false=>exact cq (hb H' h)
structure eD(ss:Hd):Prop where
 pos:1<=ss.length
 six:ss.length<=6
 E8:∀s∈ss,s="n"\/s="w"\/s="t"
structure iC(ss:Hd)(x:W1):Prop where
 col:∀c∈dN x,1<=c/\c<=ss.length
 E8:bR (.one x) [ss]=true
 hd:eD (bh (.one x) [ss])
 ok:uK (.one x)
 le:kY x
theorem oK{ss:Hd}{c:Int}(h:1<=c/\c<=ss.length):bD ss c∈ss:=by
 have hi:(c-1).toNat<ss.length:=by omega
 unfold bD;rw[List.getD_eq_getElem?_getD,Sd hi];exact List.getElem_mem hi
theorem eD.map{ss:Hd}(h:eD ss){cs:List Int}(hc:∀c∈cs,1<=c/\c<=ss.length):∀s∈cs.map (bD ss),s="n"\/s="w"\/s="t":=λs hs=>by obtain⟨c,hc',rfl⟩:=Sl.mp hs;exact h.E8 _ (oK (hc c hc'))
theorem jg{x:W1}(h1:gc x)(h2:FI x)(h3:M3 (.one x)):uK (.one x):=⟨h1,h2,h3,λp hp=>(by cases hp)⟩
theorem j6{ss:Hd}{c:Int}(h:c∈eE ss):(1<=c/\c<=ss.length)/\bD ss c≠"t":=by obtain⟨k,hk,rfl⟩:=Sl.mp h;obtain⟨h1,h2⟩:=List.mem_filter.mp hk;have h1:k<ss.length:=List.mem_range.mp h1;refine⟨by omega,λz=>?_⟩;unfold bD at z;rw[show((k:Int)+1-1).toNat=k by omega]at z;rw[z]at h2;exact SJ h2 (by decide)
theorem BJ{ss:Hd}(h:eD ss){c:Int}(hc:1<=c/\c<=ss.length)(ht:bD ss c≠"t"):bD ss c="n"\/bD ss c="w":=by
 rcases h.E8 _ (oK hc)with z|z|z
 ·exact .inl z
 ·exact .inr z
 ·exact SJ z ht
theorem Bp{ss:Hd}{c:Int}(h:eD ss)(hc:1<=c/\c<=ss.length):iC ss (.keep c (yZ (bD ss c))):=by refine⟨λd hd=>by rw[Sk.mp hd];exact hc,?_,h,jg trivial trivial trivial,trivial⟩;show decide (yZ (bD ss c)=cL (bD ss c))=true;rcases h.E8 _ (oK hc)with z|z|z<;>rw[z]<;>decide +kernel
theorem EB{ss:Hd}{cs:List Int}(h:eD ss)(hc:∀c∈cs,1<=c/\c<=ss.length)(l1:1<=cs.length)(l2:cs.length<=6):iC ss (.cut cs) :=
 ⟨hc,rfl,⟨by show 1<=(cs.map _).length;rw[R7];exact l1,by show(cs.map _).length<=6;rw[R7];exact l2,h.map hc⟩,jg (show cs.length<=1000 by omega) trivial trivial,trivial⟩
theorem B0{ss:Hd}{c d:Int}(h:eD ss)(hc:1<=c/\c<=ss.length)(hd:1<=d/\d<=ss.length)(ht:bD ss c≠"t")(e:bD ss d=bD ss c):iC ss (.same c d):=by
 refine⟨λb hb=>?_,?_,h,jg trivial trivial trivial,trivial⟩
 ·simp only[dN,Sm,SN,or_false]at hb;rcases hb with rfl|rfl
  ·exact hc
  ·exact hd
 ·show(decide (bD ss c=bD ss d) && !decide (bD ss c="t"))=true;rw[e,R6 rfl,R5 ht];rfl
theorem mq{s:Str}{vs:List V}(hs:s="n"\/s="w")(h:∀v∈vs,v∈cellsV s):gT vs s=true:=by unfold gT;rw[R5 (by rcases hs with z|z<;>rw[z]<;>decide +kernel)];refine(SH _ _).mpr ⟨rfl,List.all_eq_true.mpr λv hv=>R6 ((gC (h v hv)).2 hs)⟩
theorem BB{ss:Hd}{c:Int}{ps:List (V×V)}(h:eD ss)(hc:1<=c/\c<=ss.length)(ht:bD ss c≠"t")(l2:ps.length<=3)(hp:∀q∈ps,q.1∈cellsV (bD ss c)/\q.2∈cellsV (bD ss c)):iC ss (.turn c ps):=by
 refine⟨λd hd=>by rw[Sk.mp hd];exact hc,?_,h,jg (show ps.length<=1000 by omega) (λq hq=>⟨(gC (hp q hq).1).1,(gC (hp q hq).2).1⟩) trivial,trivial⟩;refine mq (BJ h hc ht) λv hv=>?_;obtain⟨q,hq,hv⟩:=List.mem_flatMap.mp hv;simp only[Sm,SN,or_false]at hv;rcases hv with rfl|rfl
 ·exact(hp q hq).1
 ·exact(hp q hq).2
theorem Ao{ss:Hd}{c:Int}{g:Str}{ps:List (V×V)}(h:eD ss)(hc:1<=c/\c<=ss.length)(ht:bD ss c≠"t")(hg:g="n"\/g="w")(l1:1<=ps.length)(l2:ps.length<=3)(hp:∀q∈ps,q.1∈cellsV (bD ss c)/\q.2∈cellsV g):iC ss (.must c ps):=by
 have hn:ps≠[]:=λz=>by rw[z]at l1;cases l1
 have e2:∀q∈ps,sW q.2=g:=λq hq=>(gC (hp q hq).2).2 hg;have eh:bh (.one (.must c ps)) [ss]=ss.take (c-1).toNat++[g]++ss.drop c.toNat:=by
  cases ps with
  |nil=>exact SJ rfl hn
  |cons q r=>show ss.take _++[sW q.2]++_=_;rw[e2 q (by simp)];rfl
 refine⟨λd hd=>by rw[Sk.mp hd];exact hc,?_,?_,jg (show ps.length<=1000 by omega) (λq hq=>⟨(gC (hp q hq).1).1,(gC (hp q hq).2).1⟩) hn,trivial⟩
 ·refine(SH _ _).mpr ⟨?_,mq (BJ h hc ht) λv hv=>?_⟩
  ·unfold gU;refine List.all_eq_true.mpr λs hs=>?_;obtain⟨q,hq,rfl⟩:=Sl.mp hs;cases ps with
   |nil=>cases hq
   |cons q0 r=>exact R6 (by rw[e2 q hq];exact(e2 q0 (by simp)).symm)
  ·obtain⟨q,hq,rfl⟩:=Sl.mp hv;exact(hp q hq).1
 ·rw[eh];have:=h.six;have l:(ss.take (c-1).toNat++[g]++ss.drop c.toNat).length=ss.length:=by rw[R8,R8,Sx,List.length_drop,List.length_singleton];omega
  refine⟨by rw[l];exact h.pos,by rw[l];exact h.six,λs hs=>?_⟩;rcases So.mp hs with z|z
  ·rcases So.mp z with z|z
   ·exact h.E8 s (List.mem_of_mem_take z)
   ·rw[Sk.mp z];rcases hg with z|z<;>simp[z]
  ·exact h.E8 s (List.mem_of_mem_drop z)
def tK:Sp:=λvs H Q _=>∃(p l:Addr)(ss:Hd)(lo:Bool),vs=[.ref p,.ref l,.bl lo]/\ez H p/\gJ H l ss/\eD ss/\∀(a:Addr)(x:W1) H',bf p H H'->fO H' a x->iC ss x->bZ x.nm=true->(fF (.one x)=true->lo=false)->Q (.ref a) H'
theorem x5{H:Hp}{p l:Addr}{ss:Hd}(hP:ez H p)(hl:gJ H l ss)(h1:1<=ss.length):l≠p:=λz=>by
 obtain⟨a,b,e,_⟩:=hP;have hl:H l=some (.lst (ss.map V.str)):=hl;rw[z,e]at hl;cases ss with
 |nil=>cases h1
 |cons s r=>injection hl with hl;injection hl with hl;injection hl with hl;cases hl
theorem kh{ss:Hd}{c:Int}(h:1<=c/\c<=ss.length):vi (ss.map V.str) (c-1)=some (.str (bD ss c)):=fE h
theorem oo{a b:Int}:decide (V.int a=V.int b)=decide (a=b):=by
 by_cases e:a=b
 ·rw[e];simp
 ·rw[R5 e,R5 (λz=>e (V.int.inj z))]
theorem Ed:bZ "keep"=true:=by decide +kernel
theorem IC:bZ "cut"=true:=by decide +kernel
theorem EV:bZ "same"=true:=by decide +kernel
theorem DN:bZ "turn"=true:=by decide +kernel
theorem EL:bZ "must"=true:=by decide +kernel
theorem sF{cs:List Int}{i:Int}{v:V}(h0:0<=i)(h1:i<((cs.map V.int).length:Nat)):∃c,vi (cs.map V.int) i=some (.int c)/\c∈cs:=by
 obtain⟨v,hv,hm⟩:=hU h0 h1;rw[Sw]at hm;cases e:cs[i.toNat]? with
 |none=>rw[e]at hm;cases hm
 |some c =>rw[e]at hm;have hm:V.int c=v:=Ss hm;subst hm;exact⟨c,hv,Sf e⟩
abbrev gm:Stmt:=top 85
theorem cm:au ["_law_pot_here","_law_sorts","_law_loose","_law_way","_law_some","_law_column","_law_sort","_law_alike"] ["_law_pot_here","_law_sorts","_law_loose"] (ao gm):=fs
variable{P:Program}{w:World}{K:S7}{mg:Str->Option Value}{base:Heap}
theorem zi(B:j5 mg)(F:FA K mg "_law_one_row" gm)
  (aI:bB bE P w K mg base 1 "_law_draw" ["_law_pot_here","_law_many"] gu)
  (i6:bB bE P w K mg base 1 "_law_plain" ["_law_sorts"] r6)
  (vJ:bB bE P w K mg base 2 "_law_set" ["_law_pot_here","_law_sort"] Br)
  (eT:bB bE P w K mg base 2 "_law_columns" ["_law_pot_here","_law_wide","_law_least","_law_most"] rm)
  (l4:bB bE P w K mg base 2 "_law_pairs" ["_law_pot_here","_law_sort","_law_goal"] uH) :
  bB bE P w K mg base 3 "_law_one_row" ["_law_pot_here","_law_sorts","_law_loose"] tK:=by
 refine F.ok cm λf cdv A outer s H vs Q E hr h=>?_;have hu:=gX hr;obtain⟨p,l,ss,lo,rfl,hP,hl,hs,q⟩:=h;refine⟨_,(ak (aX (i:=3) cm.nd rfl (SQ rfl) (aM aI hr (aa (pv 0) (aa ai ah))))
   (ak (aX (i:=4) cm.nd rfl (SQ rfl) (aM i6 hr (aa (pv 1) ah)))
   (ak (gN (bu bM (pv 3) ai)
    (ak (aX (i:=5) cm.nd rfl (SQ rfl) (aU cv ai (aM aI hr (aa (pv 0) (aa (aK aN rfl B.len S5 (aa (pv 1) ah)) ah)))))
     (ax (aY (aa av (aa (pv 5) (aa (aM vJ hr (aa (pv 0) (aa (bK K (pv 1) (aU ck (pv 5) ai)) ah))) ah))))))
    dk)
   (bq (PW.pt (tE (bu bM (pv 3) ai) (oN (bu (pQ hu) (pv 4) (bJ ah))))) (aY (aa av (aa (aM eT hr (aa (pv 0) (aa (aK aN rfl B.len S5 (aa (pv 1) ah)) (aa ai (aa ai ah))))) ah)))
   (ak (aX (i:=5) cm.nd rfl (SQ rfl) (bK K (pv 4) (aM aI hr (aa (pv 0) (aa (aK aN rfl B.len S5 (aa (pv 4) ah)) ah)))))
   (ak (aX (i:=6) cm.nd rfl (Or.inr rfl) (bK K (pv 1) (aU ck (pv 5) ai)))
   (ak (fe (i:=7) (N':=["_law_other_here","_law_sorts","_law_sort"]) (src:=[none,some 1,some 6]) cm.nd rfl (SQ rfl) rfl rfl (ba.jb (by kernel_rfl)) (c0 (pv 4)) (λcl C s H fp=>(e7 (i:=0))) (tc:=(jf (eZ JM (eZ (mY K) (bp 1) (eZ (vj λi j=>V.int (i-j)) (bp 0) (tC (.int 1)))) (bp 2)))) (λcl C s H fp=>dR (bu bM (bK K (oY 1) (aU ck (fP 0) ai)) (oY 2))) (te:=(bp 0)) (λcl C s H fp=>(fP 0)))
   (bq (bu bM (pv 3) ai) (aY (aa av (aa (pv 5) (aa (bK K (pv 7) (aM aI hr (aa (pv 0) (aa (aK aN rfl B.len S5 (aa (pv 7) ah)) ah)))) ah))))
   (bq (PW.pt (tE (bu bM (pv 3) ai) (oN (fA (pv 2))))) (aY (aa av (aa (pv 5) (aa (aM l4 hr (aa (pv 0) (aa (pv 6) (aa (pv 6) ah)))) ah))))
   (ax (aY (aa av (aa (pv 5) (aa (aM l4 hr (aa (pv 0) (aa (pv 6) (aa (bK K (bJ (aa av (aa av ah))) (aM aI hr (aa (pv 0) (aa ai ah)))) ah)))) ah)))))))))))))),?_⟩
 have s1:=hs.pos;have s6:=hs.six;have hn:(ss.map V.str).length=ss.length:=R7 ..;have nl:l≠p:=x5 hP hl hs.pos;refine⟨_,rfl,p,_,rfl,hP,by decide,by decide,λd H1 g1 a1 b1=>aj ?_⟩;dsimp only;have hl1:gJ H1 l ss:=g1.keep _ _ nl hl;refine⟨_,rfl,l,ss,rfl,hl1,R4 s6 (by decide),λu H2 Nh s2 hu'=>aj ?_⟩;dsimp only;have g2:bf p H H2:=g1.trans (bf.same g1.df s2);have hl2:gJ H2 l ss:=s2 _ _ hl1;have nu:u≠p:=g1.ne Nh;refine bV (λb H'=>b=decide (d=0)/\H2=H') (λT hT=>⟨_,rfl,rfl,_,rfl,hT _ _ ⟨oo,rfl⟩⟩) ?_ ?_
 ·rintro H' ⟨e,rfl⟩;refine⟨_,rfl,_,rfl,l,_,rfl,.inl (bc.of hl2),p,_,rfl,g2.df,by omega,cD (by omega) (by omega),λd1 H3 g3 a3 b3=>⟨_,_,rfl,rfl,aj ?_⟩⟩;dsimp only;have hc:1<=1+d1/\1+d1<=ss.length:=by omega
  have LN:=g2.trans g3;refine⟨_,rfl,_,rfl,_,rfl,_,rfl,_,_,rfl,rfl,l,_,_,_,rfl,rfl,bc.of (g3.keep _ _ nl hl2),kh hc,p,bD ss (1+d1),rfl,g3.df,λa xs H4 g4 ha=>⟨cM,λT hT=>?_⟩⟩;exact q T (.keep (1+d1) (yZ (bD ss (1+d1)))) _ ((LN.trans g4).new hT) ⟨a,xs,ae,ag hT _ _ _ ha⟩ (Bp hs hc) Ed (λz=>by cases z)
 rintro H' ⟨_,rfl⟩;refine bV (λb H'=>(b=false->eE ss≠[])/\aE H2 H') (λT hT=>?_) ?_ ?_
 ·refine uq ⟨_,rfl,rfl,_,rfl,?_⟩;refine fJ (λ_=>hT _ _ ⟨λz=>(by cases z),aE.refl _⟩) λ_=>?_;refine⟨_,rfl,Sr _,λL hL=>⟨u,L,_,rfl,rfl,ag hL _ _ _ hu',ae,_,rfl,hT _ _ ⟨λz e=>?_,ag hL _⟩⟩⟩;rw[e]at z;cases z
 ·rintro H3 ⟨_,s3⟩;have g3:bf p H H3:=g2.trans (bf.same g2.df s3);refine⟨_,rfl,_,rfl,l,_,rfl,.inl (bc.of (s3 _ _ hl2)),p,ss.length,1,6,by rw[hn];rfl,g3.df,s1,by omega,by omega,by omega,λt cs H4 g4 ht c1 c2 hc=>⟨c5,λT hT=>?_⟩⟩;exact q T (.cut cs) _ ((g3.trans g4).new hT) ⟨t,ae,ag hT _ _ _ ht⟩ (EB hs hc c1 c2) IC (λz=>by cases z)
 rintro H3 ⟨hne,s3⟩;have hne:=hne rfl;have g3:bf p H H3:=g2.trans (bf.same g2.df s3);have sR:=s3 _ _ hu';have FE:1<=((eE ss).map V.int).length:=by rw[R7];exact List.length_pos_iff.mpr hne
 have L5:((eE ss).map V.int).length<=6:=by rw[R7,eE,R7];exact R4 (List.length_filter_le _ _) (by rw[List.length_range];exact s6)
 refine⟨_,rfl,_,rfl,_,rfl,u,_,rfl,.inl (bc.of sR),p,_,rfl,g3.df,by omega,cD (by omega) (by omega),λd1 H4 g4 a4 b4=>?_⟩;obtain⟨c,hca,hcm⟩:=sF (v:=.non) a4 b4;obtain⟨hc,ht⟩:=j6 hcm;have p5:=g4.keep _ _ nu sR;have LQ:gJ H4 l ss:=g4.keep _ _ nl (s3 _ _ hl2);have Jb:=g3.trans g4;refine⟨u,_,_,_,rfl,rfl,bc.of p5,hca,aj ?_⟩;dsimp only;refine⟨_,rfl,_,rfl,_,_,rfl,rfl,l,_,_,_,rfl,rfl,bc.of LQ,kh hc,aj ?_⟩;dsimp only;refine⟨_,rfl,u,rfl,⟨_,bc.of p5⟩,λD hD=>?_⟩;refine dn (xs:=(eE ss).map V.int) (λi σ ys H'=>(∃o1,σ=[o1,some (.ref l),some (.str (bD ss c))])/\ys=(((eE ss).take i).filter λe=>decide (bD ss e=bD ss c)).map V.int/\ys.length<=i/\H' D=some (.lst ys)/\aE H4 H') ⟨⟨none,rfl⟩,rfl,R3 _,ae,ag hD _⟩ ?_ ?_ ?_ ?_ ?_
 ·rintro i σ ys H' _ ⟨_,_,hi,h,_⟩;exact⟨h,hi⟩
 ·rintro i σ ys H' _ ⟨_,_,_,_,sm⟩;exact bc.of (sm _ _ p5)
 ·exact R4 L5 (by decide)
 ·rintro i v σ ys H' hv ⟨⟨o1,rfl⟩,rfl,hi,h,sm⟩;rw[Sw]at hv;cases ee:(eE ss)[i]? with
  |none=>rw[ee]at hv;cases hv
  |some e =>
   rw[ee]at hv;have hv:V.int e=v:=Ss hv;subst hv;obtain⟨he,_⟩:=j6 (Sf ee);refine aj ?_;refine⟨_,rfl,_,rfl,_,_,rfl,rfl,l,_,_,_,rfl,rfl,bc.of (sm _ _ LQ),kh he,_,rfl,rfl,_,rfl,?_⟩;rw[du];by_cases k:bD ss e=bD ss c
   ·rw[R6 k];refine cB ⟨_,rfl,h,⟨_,rfl⟩,?_,?_,ae,a_ hD sm⟩
    ·rw[take_one ee,List.filter_append,List.filter_cons_of_pos (by rw[R6 k]),R9];rfl
    ·rw[R8];exact Nat.succ_le_succ hi
   ·rw[R5 k];refine cq ⟨⟨_,rfl⟩,?_,Nat.le_succ_of_le hi,h,sm⟩;rw[take_one ee,List.filter_append,List.filter_cons_of_neg (by rw[R5 k];exact Sh)];simp
 rintro σ ys H5 ⟨_,rfl,_,Jq,sm⟩;rw[R7,SR]at Jq;have g5:bf p H H5:=Jb.trans (bf.same Jb.df sm);have nD:D≠p:=Jb.ne hD;refine aj ?_;dsimp only;refine bV (λb H'=>b=decide (d=2)/\H5=H') (λT hT=>⟨_,rfl,rfl,_,rfl,hT _ _ ⟨oo,rfl⟩⟩) ?_ ?_
 ·rintro H' ⟨_,rfl⟩;have hal:1<=((((eE ss).filter λe=>decide (bD ss e=bD ss c))).map V.int).length:=by rw[R7];exact List.length_pos_of_mem (List.mem_filter.mpr ⟨hcm,R6 rfl⟩)
  have QW:((((eE ss).filter λe=>decide (bD ss e=bD ss c))).map V.int).length<=6:=by rw[R7]at L5⊢;exact R4 (List.length_filter_le _ _) L5
  refine⟨_,rfl,_,rfl,_,rfl,_,rfl,D,_,rfl,.inl (bc.of Jq),p,_,rfl,g5.df,by omega,cD (by omega) (by omega),λd2 H6 g6 a6 b6=>?_⟩;obtain⟨e,Mb,LB⟩:=sF (v:=.non) a6 b6;obtain⟨Ra,Q5⟩:=List.mem_filter.mp LB;refine⟨D,_,_,_,rfl,rfl,bc.of (g6.keep _ _ nD Jq),Mb,cM,λT hT=>?_⟩;exact q T (.same c e) _ ((g5.trans g6).new hT) ae (B0 hs hc (j6 Ra).1 ht (SI Q5)) EV (λz=>by cases z)
 rintro H' ⟨_,rfl⟩;refine bV (λb H'=>(b=false->lo=false)/\H5=H') (λT hT=>?_) ?_ ?_
 ·refine uq ⟨_,rfl,rfl,_,rfl,?_⟩;refine fJ (λ_=>hT _ _ ⟨λz=>(by cases z),rfl⟩) λ_=>?_;exact⟨_,rfl,lo,rfl,hT _ _ ⟨λz=>z,rfl⟩⟩
 ·rintro H' ⟨_,rfl⟩;refine⟨_,rfl,_,rfl,_,rfl,_,rfl,p,_,_,rfl,g5.df,λt bs ps H6 g6 hI p1 p2 hp=>⟨cM,λT hT=>?_⟩⟩;exact q T (.turn c ps) _ ((g5.trans g6).new hT) ⟨t,bs,ae,hI.keep (aQ.of (ag hT _)) λ_ _ z=>ag hT _ _ _ z⟩ (BB hs hc ht p2 hp) DN (λz=>by cases z)
 rintro H' ⟨hlo,rfl⟩;have hlo:=hlo rfl;refine⟨_,rfl,_,rfl,_,rfl,c5,λL hL=>⟨_,rfl,p,_,rfl,(g5.new hL).df,by decide,by decide,λd2 H6 g6 a6 b6=>?_⟩⟩;have nL:L≠p:=g5.ne hL;obtain⟨v,hv,hm⟩:=hU (xs:=[V.str "n",.str "w"]) a6 b6;obtain⟨gg,LX,eg⟩ :∃gg:Str,(gg="n"\/gg="w")/\v=.str gg:=by
  have:=Sf hm;simp only[Sm,SN,or_false]at this;rcases this with rfl|rfl
  ·exact⟨_,.inl rfl,rfl⟩
  ·exact⟨_,.inr rfl,rfl⟩
 subst eg;refine⟨L,_,_,_,rfl,rfl,bc.of (g6.keep _ _ nL ae),hv,p,_,gg,rfl,g6.df,λt bs ps H7 g7 hI p1 p2 hp=>⟨cM,λT hT=>?_⟩⟩;exact q T (.must c ps) _ ((((g5.new hL).trans g6).trans g7).new hT) ⟨t,bs,ae,hI.keep (aQ.of (ag hT _)) λ_ _ z=>ag hT _ _ _ z⟩ (Ao hs hc ht LX p1 p2 hp) EL (λ_=>hlo)
theorem mm{t u:TT}{σ:St}{H:Hp}{Q:Bool->Hp->Prop}(h:t σ H λc H1=>if c=true then u σ H1 Q else Q false H1):JE t u σ H Q:=h
def cK:W1->Bool
 | .walk ..=>true
 |_=>false
theorem eD.snoc{hs:Hd}{s:Str}(h1:hs.length<=5)(h2:∀s∈hs,s="n"\/s="w"\/s="t")(h3:s="n"\/s="w"\/s="t"):eD (hs++[s]):=by
 refine⟨by rw[R8];exact Nat.le_add_left _ _,by rw[R8];exact Nat.succ_le_succ h1,λx hx=>?_⟩;rcases So.mp hx with z|z
 ·exact h2 x z
 ·rw[Sk.mp z];exact h3
theorem AU{ss:Hd}{od:Od}(h:eD ss)(hl:od.length<=ss.length)(hc:∀e∈od,1<=e.1/\e.1<=ss.length):iC ss (.sort od):=by have:=h.six;refine⟨λc hcm=>?_,rfl,h,jg (show od.length<=1000 by omega) trivial trivial,show od.length<=12 by omega⟩;obtain⟨e,he,rfl⟩:=Sl.mp hcm;exact hc e he
theorem zN{ss:Hd}{cs:List Int}(h:eD ss)(hc:∀c∈cs,1<=c/\c<=ss.length)(l2:cs.length<=5):iC ss (.count cs) :=
 ⟨hc,rfl,eD.snoc (by rw[R7];exact l2) (h.map hc) (.inr (.inr rfl)),jg (show cs.length<=1000 by omega) trivial trivial,trivial⟩
theorem Ez{ss:Hd}{cs:List Int}{c:Int}(h:eD ss)(hc:∀c∈cs,1<=c/\c<=ss.length)(l2:cs.length<=5)(hd:1<=c/\c<=ss.length)(hw:bD ss c≠"w"):iC ss (.sum cs c):=by
 refine⟨λd hdm=>?_,?_,eD.snoc (by rw[R7];exact l2) (h.map hc) (.inr (.inr rfl)),jg (show cs.length<=1000 by omega) trivial trivial,trivial⟩
 ·rcases So.mp hdm with z|z
  ·exact hc d z
  ·rw[Sk.mp z];exact hd
 ·show(!decide (bD ss c="w"))=true;rw[R5 hw];rfl
theorem vY{ss:Hd}(h:eD ss)(hw:ss.length<6):iC ss .number:=⟨λd hd=>(by cases hd),rfl,eD.snoc (Nat.le_of_lt_succ hw) h.E8 (.inr (.inr rfl)),jg trivial trivial trivial,trivial⟩
theorem zK{ss:Hd}{n:Int}(h:eD ss):iC ss (.first n):=⟨λd hd=>(by cases hd),rfl,h,jg trivial trivial trivial,trivial⟩
theorem zD{ss:Hd}(h:eD ss):iC ss .apart:=⟨λd hd=>(by cases hd),rfl,h,jg trivial trivial trivial,trivial⟩
theorem BG{ss:Hd}{c:Int}{v:V}(h:eD ss)(hw:ss.length<6)(hc:1<=c/\c<=ss.length)(ht:bD ss c≠"t")(hv:v∈cellsV (bD ss c)):iC ss (.walk c [v,.non,.non]):=by
 have hcl:=gC hv;refine⟨λd hd=>by rw[Sk.mp hd];exact hc,?_,eD.snoc (Nat.le_of_lt_succ hw) h.E8 (.inr (.inl rfl)),jg (show 3<=1000 by decide) (λu hu=>?_) trivial,trivial⟩
 ·refine mq (BJ h hc ht) λu hu=>?_;obtain⟨h1,h2⟩:=List.mem_filter.mp hu;simp only[Sm,SN,or_false]at h1;rcases h1 with rfl|rfl|rfl
  ·exact hv
  ·cases h2
  ·cases h2
 ·simp only[Sm,SN,or_false]at hu;rcases hu with rfl|rfl|rfl
  ·exact .inr hcl.1
  ·exact .inl rfl
  ·exact .inl rfl
def Bz(ss:Hd):List Int:=((List.range ss.length).filter λk=>!decide (ss.getD k ""="w")).map λ(k:Nat)=>(k:Int)+1
theorem yc{ss:Hd}{c:Int}(h:c∈Bz ss):(1<=c/\c<=ss.length)/\bD ss c≠"w":=by obtain⟨k,hk,rfl⟩:=Sl.mp h;obtain⟨h1,h2⟩:=List.mem_filter.mp hk;have h1:k<ss.length:=List.mem_range.mp h1;refine⟨by omega,λz=>?_⟩;unfold bD at z;rw[show((k:Int)+1-1).toNat=k by omega]at z;rw[z]at h2;exact SJ h2 (by decide)
theorem xQ{n:Nat}{p:Nat->Bool}{g:Nat->Int}:(((List.range n).filter p).map g).length<=n:=by rw[R7];exact R4 (List.length_filter_le _ _) (by rw[List.length_range];exact R3 _)
def yr:Sp:=λvs H Q _=>∃(p l:Addr)(ss:Hd)(fr:Bool),vs=[.ref p,.ref l,.bl fr]/\ez H p/\gJ H l ss/\eD ss/\∀(a:Addr)(x:W1) H',bf p H H'->fO H' a x->iC ss x->fF (.one x)=false->(cK x=true->fr=true)->(∀n,x=.first n->0<=n)->Q (.ref a) H'
abbrev i4:Stmt:=top 86
theorem cJ:au ["_law_pot_here","_law_sorts","_law_free","_law_way","_law_wide","_law_numbers","_law_some","_law_column","_law_cell"] ["_law_pot_here","_law_sorts","_law_free"] (ao i4):=fs
theorem AR(B:j5 mg)(F:FA K mg "_law_other" i4)
  (aI:bB bE P w K mg base 1 "_law_draw" ["_law_pot_here","_law_many"] gu)
  (i6:bB bE P w K mg base 1 "_law_plain" ["_law_sorts"] r6)
  (fV:bB bE P w K mg base 1 "_law_cells" ["_law_sort"] rP)
  (eT:bB bE P w K mg base 2 "_law_columns" ["_law_pot_here","_law_wide","_law_least","_law_most"] rm)
  (qp:bB bE P w K mg base 2 "_law_unlike" ["_law_pot_here","_law_wide"] F0) :
  bB bE P w K mg base 3 "_law_other" ["_law_pot_here","_law_sorts","_law_free"] yr:=by
 refine F.ok cJ λf cdv A outer s H vs Q E hr h=>?_;have hu:=gX hr;obtain⟨p,l,ss,fr,rfl,hP,hl,hs,q⟩:=h;refine CC (j7 (aX (i:=3) cJ.nd rfl (SQ rfl) (aM aI hr (aa (pv 0) (aa ai ah))))
  (j7 (aX (i:=4) cJ.nd rfl (SQ rfl) (aK aN rfl B.len S5 (aa (pv 1) ah)))
  (j7 (fe (i:=5) (N':=["_law_k","_law_sorts"]) (src:=[none,some 1]) cJ.nd rfl (SQ rfl) rfl rfl (ba.jb (by kernel_rfl)) (cV rfl B.range (aa (pv 4) ah)) (λcl C s H fp=>(e7 (i:=0))) (tc:=(jf (eZ NN (eZ (mY K) (bp 1) (bp 0)) (tC (.str "w"))))) (λcl C s H fp=>dR (bu uQ (bK K (oY 1) (fP 0)) av)) (te:=(eZ (vj λi j=>V.int (i+j)) (bp 0) (tC (.int 1)))) (λcl C s H fp=>(aU cv (fP 0) ai)))
  (j7 (aX (i:=6) cJ.nd rfl (SQ rfl) (aM i6 hr (aa (pv 1) ah)))
  (lq (bu bM (pv 3) ai) (il (bF (ar (bj av) (ar (bj (aM qp hr (aa (pv 0) (aa (pv 4) ah)))) bA))))
  (lq (bu bM (pv 3) ai) (il (bF (ar (bj av) (ar (bj (aM eT hr (aa (pv 0) (aa (pv 4) (aa ai (aa ai ah)))))) bA))))
  (lq (PW.pt (jX (bu bM (pv 3) ai) (j9 (bu (uU hu) (pv 5) (bJ ah))))) (il (bF (ar (bj av) (ar (bj (aM eT hr (aa (pv 0) (aa (pv 4) (aa ai (aa ai ah)))))) (ar (xx (r:=mY K) fW (bj (pv 5)) (bj (aM aI hr (aa (pv 0) (aa (aK aN rfl B.len S5 (aa (pv 5) ah)) ah)))) (λ_ _=>rfl)) bA)))))
  (lq (PW.pt (jX (bu bM (pv 3) ai) (j9 (bu ya (pv 4) ai)))) (il (bF (ar (bj av) bA)))
  (lq (bu bM (pv 3) ai) (il (bF (ar (bj av) (ar (xx (r:=mY K) fW (Ak (ar (bj (aM aI hr (aa (pv 0) (aa ai ah)))) (ar (bj (aM aI hr (aa (pv 0) (aa ai ah)))) bA))) (bj (aM aI hr (aa (pv 0) (aa ai ah)))) (λ_ _=>rfl)) bA))))
  (lq (PW.pt (jX (bu bM (pv 3) ai) (jX (fA (pv 2)) (jX (bu ya (pv 4) ai) (j9 (bu (uU hu) (pv 6) (bJ ah))))))) (j7 (aX (i:=7) cJ.nd rfl (SQ rfl) (bK K (pv 6) (aM aI hr (aa (pv 0) (aa (aK aN rfl B.len S5 (aa (pv 6) ah)) ah)))))
  (j7 (aX (i:=8) cJ.nd rfl (SQ rfl) (bK K (aM fV hr (aa (bK K (pv 1) (aU ck (pv 7) ai)) ah)) (aM aI hr (aa (pv 0) (aa ai ah)))))
  (il (bF (ar (bj av) (ar (bj (pv 7)) (ar (bj av) (ar (bF (ar (bF (ar (bj av) (ar (bj (pv 8)) (ar (bj av) bA)))) (ar (bF (ar (bj av) (ar (bj fh) (ar (bj av) bA)))) (ar (bF (ar (bj av) (ar (bj fh) (ar (bj av) bA)))) bA)))) bA))))))))
  (il (bF (ar (bj av) bA))))))))))))) ?_
 have s1:=hs.pos;have s6:=hs.six;have hn:(ss.map V.str).length=ss.length:=R7 ..;have nl:l≠p:=x5 hP hl hs.pos;refine⟨_,rfl,p,_,rfl,hP,by decide,by decide,λd H1 g1 a1 b1=>aj ?_⟩;dsimp only;have hl1:gJ H1 l ss:=g1.keep _ _ nl hl;refine⟨_,rfl,l,_,rfl,.inl (bc.of hl1),aj ?_⟩;dsimp only;rw[hn];refine⟨_,rfl,_,rfl,(iH (by omega) (by omega)).1,(iH (by omega) (by omega)).2,λD hD=>?_⟩;refine de (n:=((ss.length:Nat):Int).toNat) (λi σ ys H'=>(∃o,σ=[o,some (.ref l)])/\ys=(((List.range i).filter λk=>!decide (ss.getD k ""="w")).map λ(k:Nat)=>(k:Int)+1).map V.int/\ys.length<=i/\H' D=some (.lst ys)/\aE H1 H') ⟨⟨none,rfl⟩,rfl,R3 _,ae,ag hD _⟩ ?_ ?_ ?_ ?_
 ·rintro i σ ys H' _ ⟨_,_,hi,h,_⟩;exact⟨h,hi⟩
 ·exact R4 (show((ss.length:Nat):Int).toNat<=1000 by omega) (by decide)
 ·rintro i σ ys H' hi ⟨⟨o,rfl⟩,rfl,hz',h,sm⟩;have hi':i<ss.length:=by omega
  refine aj ?_;refine⟨_,rfl,_,rfl,l,_,_,_,rfl,rfl,bc.of (sm _ _ hl1),by rw[show(0:Int)+(i:Int)=(i:Int) by omega];exact xK hi',rfl,_,rfl,?_⟩;rw[FV];by_cases e:ss.getD i ""="w"
  ·rw[R6 e];refine cq ⟨⟨_,rfl⟩,?_,Nat.le_succ_of_le hz',h,sm⟩;rw[List.range_succ,List.filter_append,List.filter_cons_of_neg (by rw[R6 e];exact Sh)];simp
  ·rw[R5 e];refine cB ⟨_,rfl,_,_,rfl,rfl,h,⟨_,rfl⟩,?_,?_,ae,a_ hD sm⟩
   ·rw[List.range_succ,List.filter_append,List.filter_cons_of_pos (by rw[R5 e];rfl),R9,R9];simp
   ·rw[R8];exact Nat.succ_le_succ hz'
 rintro σ ys H2 ⟨_,rfl,_,hD2,sm⟩;have hD2:H2 D=some (.lst ((Bz ss).map V.int)):=hD2;have RV:((Bz ss).map V.int).length<=6:=by rw[R7];exact R4 xQ s6
 have nD:D≠p:=g1.ne hD;refine aj ?_;dsimp only;refine⟨_,rfl,l,ss,rfl,sm _ _ hl1,R4 s6 (by decide),λu H3 Nh s3 hu'=>aj ?_⟩;dsimp only;have g2:bf p H H2:=g1.trans (bf.same g1.df sm);have nu:u≠p:=g2.ne Nh;have g3:bf p H H3:=g2.trans (bf.same g2.df s3);have hl3:gJ H3 l ss:=s3 _ _ (sm _ _ hl1);have yo:=s3 _ _ hD2;refine bV (λb H'=>b=decide (d=0)/\H3=H') (λT hT=>⟨_,rfl,rfl,_,rfl,hT _ _ ⟨oo,rfl⟩⟩) ?_ ?_
 ·rintro H' ⟨_,rfl⟩;refine⟨_,rfl,_,rfl,p,ss.length,rfl,g3.df,s1,by omega,λt bs od H4 g4 hI o1 o2=>⟨c5,λT hT=>?_⟩⟩;exact q T (.sort od) _ ((g3.trans g4).new hT) ⟨t,bs,ae,hI.keep (aQ.of (ag hT _)) λ_ _ z=>ag hT _ _ _ z⟩ (AU hs o1 o2) rfl (λz=>by cases z) (λn z=>by cases z)
 rintro H' ⟨_,rfl⟩;refine bV (λb H'=>b=decide (d=1)/\H3=H') (λT hT=>⟨_,rfl,rfl,_,rfl,hT _ _ ⟨oo,rfl⟩⟩) ?_ ?_
 ·rintro H' ⟨_,rfl⟩;refine⟨_,rfl,_,rfl,p,ss.length,0,5,rfl,g3.df,s1,by omega,by omega,by omega,λt cs H4 g4 ht c1 c2 hc=>⟨c5,λT hT=>?_⟩⟩;exact q T (.count cs) _ ((g3.trans g4).new hT) ⟨t,ae,ag hT _ _ _ ht⟩ (zN hs hc c2) rfl (λz=>by cases z) (λn z=>by cases z)
 rintro H' ⟨_,rfl⟩;refine bV (λb H'=>(b=true->Bz ss≠[])/\aE H3 H') (λT hT=>?_) ?_ ?_
 ·refine mm ⟨_,rfl,rfl,_,rfl,fJ (λ_=>?_) λ_=>hT _ _ ⟨λz=>(by cases z),aE.refl _⟩⟩;refine⟨_,rfl,Sr _,λL hL=>⟨D,L,_,rfl,rfl,ag hL _ _ _ yo,ae,_,rfl,hT _ _ ⟨λz e=>?_,ag hL _⟩⟩⟩;rw[e]at z;cases z
 ·rintro H4 ⟨hne,s4⟩;have hne:=hne rfl;have FE:1<=((Bz ss).map V.int).length:=by rw[R7];exact List.length_pos_iff.mpr hne
  have g4:bf p H H4:=g3.trans (bf.same g3.df s4);refine⟨_,rfl,_,rfl,p,ss.length,0,5,rfl,g4.df,s1,by omega,by omega,by omega,λt cs H5 g5 ht c1 c2 hc=>?_⟩;have Jq:=g5.keep _ _ nD (s4 _ _ yo);refine⟨_,rfl,_,rfl,_,rfl,D,_,rfl,.inl (bc.of Jq),p,_,rfl,g5.df,by omega,cD (by omega) (by omega),λd2 H6 g6 a6 b6=>?_⟩;obtain⟨e,Mb,LB⟩:=sF (v:=.non) a6 b6;refine⟨D,_,_,_,rfl,rfl,bc.of (g6.keep _ _ nD Jq),Mb,cM,λT hT=>?_⟩;exact q T (.sum cs e) _ (((g4.trans g5).trans g6).new hT) ⟨t,ae,ag hT _ _ _ (jC g5.df g6 ht)⟩ (Ez hs hc c2 (yc LB).1 (yc LB).2) rfl (λz=>by cases z) (λn z=>by cases z)
 rintro H4 ⟨_,s4⟩;have g4:bf p H H4:=g3.trans (bf.same g3.df s4);have LQ:gJ H4 l ss:=s4 _ _ hl3;have p5:=s4 _ _ hu';clear yo hD2;refine bV (λb H'=>(b=true->ss.length<6)/\H4=H') (λT hT=>?_) ?_ ?_
 ·refine mm ⟨_,rfl,rfl,_,rfl,fJ (λ_=>?_) λ_=>hT _ _ ⟨λz=>(by cases z),rfl⟩⟩;exact⟨_,rfl,_,_,rfl,rfl,_,rfl,hT _ _ ⟨λz=>by have:=SI z;omega,rfl⟩⟩
 ·rintro H' ⟨hw,rfl⟩;exact⟨dH,λT hT=>q T .number _ (g4.new hT) ae (vY hs (hw rfl)) rfl (λz=>by cases z) (λn z=>by cases z)⟩
 rintro H' ⟨_,rfl⟩;refine bV (λb H'=>b=decide (d=4)/\H4=H') (λT hT=>⟨_,rfl,rfl,_,rfl,hT _ _ ⟨oo,rfl⟩⟩) ?_ ?_
 ·rintro H' ⟨_,rfl⟩;refine⟨_,rfl,p,_,rfl,g4.df,by decide,by decide,λe1 H5 g5 a5 b5=>⟨_,rfl,p,_,rfl,g5.df,by decide,by decide,λe2 H6 g6 a6 b6=>⟨c5,λL hL=>⟨_,rfl,p,_,rfl,(g6.new hL).df,by decide,by decide,λe3 H7 g7 a7 b7=>?_⟩⟩⟩⟩;have nL:L≠p:=g6.ne hL;obtain⟨v,hv,hm⟩:=hU (xs:=[V.int e1,.int e2]) a7 b7;obtain⟨n,hn0,en⟩ :∃n:Int,0<=n/\v=.int n:=by
   have:=Sf hm;simp only[Sm,SN,or_false]at this;rcases this with rfl|rfl
   ·exact⟨_,a5,rfl⟩
   ·exact⟨_,a6,rfl⟩
  subst en;refine⟨L,_,_,_,rfl,rfl,bc.of (g7.keep _ _ nL ae),hv,c5,λT hT=>?_⟩;exact q T (.first n) _ (((((g4.trans g5).trans g6).new hL).trans g7).new hT) ae (zK hs) rfl (λz=>by cases z) (λm z=>by cases z;exact hn0)
 rintro H' ⟨_,rfl⟩;refine bV (λb H'=>(b=true->fr=true/\ss.length<6/\eE ss≠[])/\aE H4 H') (λT hT=>?_) ?_ ?_
 ·have no:∀H',aE H4 H'->T false H':=λH' s'=>hT _ _ ⟨λz=>(by cases z),s'⟩;refine mm ⟨_,rfl,rfl,_,rfl,fJ (λ_=>?_) λ_=>no _ (aE.refl _)⟩;refine mm ⟨_,rfl,fr,rfl,fJ (λhfr=>?_) λ_=>no _ (aE.refl _)⟩;refine mm ⟨_,rfl,_,_,rfl,rfl,_,rfl,fJ (λhw=>?_) λ_=>no _ (aE.refl _)⟩;refine⟨_,rfl,Sr _,λL hL=>⟨u,L,_,rfl,rfl,ag hL _ _ _ p5,ae,_,rfl,hT _ _ ⟨λz=>⟨hfr,by have:=SI hw;omega,λe=>?_⟩,ag hL _⟩⟩⟩;rw[e]at z;cases z
 ·rintro H5 ⟨hh,s5⟩;obtain⟨hfr,hw,hne⟩:=hh rfl;have g5:bf p H H5:=g4.trans (bf.same g4.df s5);have Iz:=s5 _ _ p5;have FE:1<=((eE ss).map V.int).length:=by rw[R7];exact List.length_pos_iff.mpr hne
  have L5:((eE ss).map V.int).length<=6:=by rw[R7];exact R4 xQ s6
  refine⟨_,rfl,_,rfl,_,rfl,u,_,rfl,.inl (bc.of Iz),p,_,rfl,g5.df,by omega,cD (by omega) (by omega),λd1 H6 g6 a6 b6=>?_⟩;obtain⟨c,hca,hcm⟩:=sF (v:=.non) a6 b6;obtain⟨hc,ht⟩:=j6 hcm;refine⟨u,_,_,_,rfl,rfl,bc.of (g6.keep _ _ nu Iz),hca,aj ?_⟩;dsimp only;have Rk:gJ H6 l ss:=g6.keep _ _ nl (s5 _ _ LQ);refine⟨_,rfl,_,rfl,_,_,rfl,rfl,l,_,_,_,rfl,rfl,bc.of Rk,kh hc,_,rfl,λlc H7 LD s7 vh=>?_⟩;have g7:=bf.same g6.df s7;have Ry:lc≠p:=g6.ne LD;obtain⟨c1,c2⟩:=mj (bD ss c);refine⟨_,rfl,p,_,rfl,g7.df,by decide,by decide,λd2 H8 g8 a8 b8=>?_⟩;obtain⟨v,hv,hm⟩:=hU (xs:=cellsV (bD ss c)) a8 (by omega);refine⟨lc,_,_,v,rfl,rfl,bc.of (g8.keep _ _ Ry vh),hv,aj ?_⟩;dsimp only;have PU:=((g5.trans g6).trans g7).trans g8;refine⟨_,rfl,_,rfl,cM,λu1 h1=>⟨cM,λu2 h2=>⟨cM,λu3 h3=>⟨cM,λu4 h4=>⟨BE,λT hT=>?_⟩⟩⟩⟩⟩;have z1:=ag h1 (.tup [.str "s",v,.str "t"]);have z2:=ag h2 (.tup [.str "s",.non,.str "s"]);have z3:=ag h3 (.tup [.str "t",.non,.str "s"]);have z4:=ag h4 (.tup [.ref u1,.ref u2,.ref u3]);have z5:=ag hT (.tup [.str "walk",.int c,.str "s",.ref u4]);refine q T (.walk c [v,.non,.non]) _ (((((PU.new h1).new h2).new h3).new h4).new hT) ⟨"s",u4,[u1,u2,u3],ae,z5 _ _ ae,rfl,λi a x e1 e2=>?_⟩ (BG hs hw hc ht (Sf hm)) rfl (λ_=>hfr) (λm z=>by cases z);match i with
  | 0=>cases e1;cases e2;exact⟨_,_,(z2.trans (z3.trans (z4.trans z5))) _ _ ae⟩
  | 1=>cases e1;cases e2;exact⟨_,_,(z3.trans (z4.trans z5)) _ _ ae⟩
  | 2=>cases e1;cases e2;exact⟨_,_,(z4.trans z5) _ _ ae⟩
  |i+3=>cases e1
 rintro H5 ⟨_,s5⟩;exact⟨dH,λT hT=>q T .apart _ ((g4.trans (bf.same g4.df s5)).new hT) ae (zD hs) rfl (λz=>by cases z) (λn z=>by cases z)⟩
section
variable{x:W1}
theorem AV(h:x.nm="cut"):∃cs,x=.cut cs:=by cases x<;>first|exact⟨_,rfl⟩ | (simp only[W1.nm]at h;exact SJ h (by decide +kernel))
theorem HA(h:x.nm="must"):∃c ps,x=.must c ps:=by cases x<;>first|exact⟨_,_,rfl⟩ | (simp only[W1.nm]at h;exact SJ h (by decide +kernel))
theorem C1(h:x.nm="count"\/x.nm="sum"):(∃cs,x=.count cs)\/∃cs c,x=.sum cs c:=by cases x<;>first|exact .inl ⟨_,rfl⟩|exact .inr ⟨_,_,rfl⟩ | (simp only[W1.nm]at h;exact SJ h (by decide +kernel))
theorem J1(h:x.nm="walk"\/x.nm="number"):(∃c mv,x=.walk c mv)\/x=.number:=by cases x<;>first|exact .inl ⟨_,_,rfl⟩|exact .inr rfl | (simp only[W1.nm]at h;exact SJ h (by decide +kernel))
end
theorem PF{s a b:Str}:inV (.str s) [.str a,.str b]=true↔s=a\/s=b:=by show((a==s)||((b==s)||false))=true↔_;rw[Bool.or_false,Bool.or_eq_true,beq_iff_eq,beq_iff_eq];exact or_congr eq_comm eq_comm
theorem D1{s a b:Str}:inV (.str s) [.str a,.str b]=decide (s=a\/s=b):=by rw[Bool.eq_iff_iff,PF,decide_eq_true_eq]
def Ik:Sp:=λvs H Q _=>∃(l a:Addr)(ss:Hd)(x:W1),vs=[.ref l,.ref a]/\gJ H l ss/\fO H a x/\iC ss x/\eD ss/\∀u H',aE H H'->gJ H' u (bh (.one x) [ss])->Q (.ref u) H'
theorem Dt{xs:List V}{i:Int}(h0:0<=i)(h:i<=xs.length):fq xs none (some i)=xs.take i.toNat:=by have:=oA (xs:=xs) (n:=i.toNat) (by omega);rw[show((i.toNat:Nat):Int)=i by omega]at this;exact this
theorem yW{xs:List V}{i:Int}(h0:0<=i)(h:i<=xs.length):fq xs (some i) none=xs.drop i.toNat:=by have:=sV (xs:=xs) (n:=i.toNat) (by omega);rw[show((i.toNat:Nat):Int)=i by omega]at this;exact this
theorem xf{ps:List (V×V)}{c:Int}(h:uK (.one (.must c ps))):∃q r,ps=q::r/\ky q.2:=by
 cases ps with
 |nil=>exact SJ rfl h.ne
 |cons q r=>exact⟨q,r,rfl,(h.good q (by simp)).2⟩
abbrev dz:Stmt:=top 87
theorem fw:au ["_law_sorts","_law_worker","_law_word"] ["_law_sorts","_law_worker"] (ao dz):=fs
theorem vO(B:j5 mg)(B2:pP mg)(B3:Bu mg)(Ki:PySem.W.kitOne K (.type "int") (.type "str")=some false)(F:FA K mg "_law_sorts_behind" dz) :
  bB bE P w K mg base 1 "_law_sorts_behind" ["_law_sorts","_law_worker"] Ik:=by
 refine F.ok fw λf cdv A outer s H vs Q E hr h=>?_;have hu:=gX hr;have hu1:=jn hr;obtain⟨l,a,ss,x,rfl,hl,ha,hf,hs,q⟩:=h;refine⟨_,(ak (aX (i:=2) fw.nd rfl (SQ rfl) (aG K (pv 1) ai))
   (bq (bu bM (pv 2) av) (bw (N':=["_law_column","_law_sorts"]) (src:=[none,some 0]) rfl (ba.jb (by kernel_rfl)) (cu (aG K (pv 1) ai)) (λcl C s H fp=>(e7 (i:=0))) (λcl C s H fp=>bg) (te:=(eZ (mY K) (bp 1) (eZ (vj λi j=>V.int (i-j)) (bp 0) (tC (.int 1))))) (λcl C s H fp=>(bK K (oY 1) (aU ck (fP 0) ai))))
   (bq (bu bM (pv 2) av) (aU iS (aU iS (c_ (r:=Fq K) rW (pv 0) fX (dg (aU ck (aG K (pv 1) ai) ai))) (bJ (aa (bK K (bJ (aa av (aa av ah))) (bx mx rfl B2.int SW (aa (aK (jO (n:="str")) rfl B.isinstance PyProof.Rows.boot_isinstance (aa (aG K (aG K (aG K (pv 1) ai) ai) ai) (aa (mP (n:="str") rfl B3.str (by decide +kernel)) ah))) ah))) ah))) (c_ (r:=Fq K) rW (pv 0) (dg (aG K (pv 1) ai)) fX))
   (bq (dm cP (pv 2) (bJ (aa av (aa av ah))) rfl) (aU iS (bw (N':=["_law_column","_law_sorts"]) (src:=[none,some 0]) rfl (ba.jb (by kernel_rfl)) (cu (aG K (pv 1) ai)) (λcl C s H fp=>(e7 (i:=0))) (λcl C s H fp=>bg) (te:=(eZ (mY K) (bp 1) (eZ (vj λi j=>V.int (i-j)) (bp 0) (tC (.int 1))))) (λcl C s H fp=>(bK K (oY 1) (aU ck (fP 0) ai)))) (bJ (aa av ah)))
   (bq (dm cP (pv 2) (bJ (aa av (aa av ah))) rfl) (aU iS (pv 0) (bJ (aa (bK K (bJ (aa av (aa av ah))) (bx mx rfl B2.int SW (aa (eY bM (pv 2) av) ah))) ah)))
   (ax (pv 0))))))),?_⟩
 have s1:=hs.pos;have s6:=hs.six;have hn:(ss.map V.str).length=ss.length:=R7 ..;have cp:∀{t D:Addr}{cs:List Int}{H0:Hp}{R:VK},H t=some (.tup (cs.map V.int))->cs.length<=6->(∀c∈cs,1<=c/\c<=ss.length)->H0 D=none->aE H H0->(∀H',aE H0 H'->H' D=some (.lst ((cs.map (bD ss)).map V.str))->R (.ref D) H')->∃W:Nat->Nat->St->List V->Hp->Prop,(∃m,W 0 m [none,some (.ref l)] [] (upd H0 D (.lst [])))/\ny (Df K t) (bT 0) A3 (eZ (mY K) (bp 1) (eZ (vj λi j=>V.int (i-j)) (bp 0) (tC (.int 1)))) D R W:=λ{t D cs H0 R} ht hz hc hD s0 hr'=>by
  refine cG (xs:=cs.map V.int) (λi σ ys H'=>(∃o,σ=[o,some (.ref l)])/\ys=((cs.take i).map (bD ss)).map V.str/\ys.length=i/\H' D=some (.lst ys)/\aE H0 H') ⟨⟨none,rfl⟩,rfl,rfl,ae,ag hD _⟩ ?_ ?_ ?_ ?_ ?_
  ·rintro i σ ys H' _ ⟨_,_,hi,h,_⟩;exact⟨h,S0 hi⟩
  ·rintro i σ ys H' _ ⟨_,_,_,_,sm⟩;exact aP.of (sm _ _ (s0 _ _ ht))
  ·rw[R7];exact R4 hz (by decide)
  ·rintro i v σ ys H' hv ⟨⟨o,rfl⟩,rfl,hi,h,sm⟩;rw[Sw]at hv;cases ee:cs[i]? with
   |none=>rw[ee]at hv;cases hv
   |some e =>
    rw[ee]at hv;have hv:V.int e=v:=Ss hv;subst hv;refine aj ?_;refine⟨_,rfl,_,rfl,_,_,rfl,rfl,l,_,_,_,rfl,rfl,bc.of (sm _ _ (s0 _ _ hl)),kh (hc e (Sf ee)),h,⟨_,rfl⟩,?_,?_,ae,a_ hD sm⟩
    ·rw[take_one ee,R9,R9];rfl
    ·rw[R8,hi];rfl
  ·rintro σ ys H' ⟨_,rfl,_,h,sm⟩;rw[R7,SR]at h;exact hr' H' sm h
 obtain⟨xs,hx1⟩:=ha.first;refine⟨_,rfl,a,_,0,_,rfl,rfl,aP.of hx1,ay (j:=0) rfl,aj ?_⟩;dsimp only;refine bV (λb H'=>b=decide (x.nm="cut")/\H=H') (λT hT=>⟨_,rfl,rfl,_,rfl,hT _ _ ⟨du _ _,rfl⟩⟩) ?_ ?_
 ·rintro H' ⟨e,rfl⟩;obtain⟨cs,rfl⟩:=AV (SI e.symm);obtain⟨t,h1,h2⟩:=ha;have hz:cs.length<=6:=by have:=hf.hd.six;rw[show bh (.one (.cut cs)) [ss]=cs.map (bD ss) from rfl,R7]at this;exact this
  refine⟨_,rfl,a,_,1,_,rfl,rfl,aP.of h1,rfl,t,rfl,⟨_,aP.of h2⟩,λD hD=>cp h2 hz hf.col hD (aE.refl _) λH' s' h'=>q D H' s' h'⟩
 rintro H' ⟨e1,rfl⟩;have e1:x.nm≠"cut":=of_decide_eq_false e1.symm;refine bV (λb H'=>b=decide (x.nm="must")/\H=H') (λT hT=>⟨_,rfl,rfl,_,rfl,hT _ _ ⟨du _ _,rfl⟩⟩) ?_ ?_
 ·rintro H' ⟨e,rfl⟩;obtain⟨c,ps,rfl⟩:=HA (SI e.symm);obtain⟨t,bs,h1,hI⟩:=ha;have hc:=hf.col c (by simp[dN]);obtain⟨pq,pr,rfl,hcl⟩:=xf hf.ok;obtain⟨b0,br,rfl⟩ :∃b0 br,bs=b0::br:=by
   cases bs with
   |nil=>have:=hI.len;cases this
   |cons b0 br=>exact⟨b0,br,rfl⟩
  have hb0:H b0=some (.tup [pq.1,pq.2]):=hI.at_ 0 b0 pq rfl rfl;refine⟨_,rfl,_,rfl,a,_,1,_,rfl,rfl,aP.of h1,rfl,_,_,rfl,rfl,_,rfl,l,_,rfl,bc.of hl,λu1 hu1=>?_⟩;have z1:=ag hu1 (.lst (fq (ss.map V.str) none (some (c-1))));refine⟨c5,λu2 hu2=>?_⟩;have z2:=ag hu2 (.lst [.str "n",.str "w"]);have LP:=z1.trans z2;refine⟨_,rfl,a,_,2,_,rfl,rfl,aP.of (LP _ _ h1),rfl,t,_,0,_,rfl,rfl,aP.of (LP _ _ hI.tup),ay (j:=0) rfl,b0,_,1,_,rfl,rfl,aP.of (LP _ _ hb0),rfl,?_⟩;have e0:bh (.one (.must c (pq::pr))) [ss]=ss.take (c-1).toNat++[sW pq.2]++ss.drop c.toNat:=rfl;have c1:fq (ss.map V.str) none (some (c-1))=(ss.take (c-1).toNat).map V.str:=by rw[Dt (by omega) (by rw[hn];omega),List.map_take]
  have c2:fq (ss.map V.str) (some c) none=(ss.drop c.toNat).map V.str:=by rw[yW (by omega) (by rw[hn];omega),List.map_drop]
  have hk:∃(k:Bool)(t':Value),lN K (upd (upd H u1 (.lst (fq (ss.map V.str) none (some (c-1))))) u2 (.lst [.str "n",.str "w"])) pq.2 t'/\PySem.W.kitOne K t' (.type "str")=some k/\vi [V.str "n",.str "w"] (if k then 1 else 0)=some (.str (sW pq.2)):=by
   rcases hcl with⟨n,e⟩|⟨y,e⟩
   ·rw[e];exact⟨false,_,.int n,Ki,rfl⟩
   ·rw[e];exact⟨true,_,.str y,md (by decide),rfl⟩
  obtain⟨k,t',k1,k2,k3⟩:=hk;refine⟨_,t',k,rfl,k1,k2,.inr ⟨k,rfl,u2,_,_,_,rfl,rfl,bc.of ae,k3,dH,λu3 sR=>?_⟩⟩;have z3:=ag sR (.lst [.str (sW pq.2)]);refine⟨u1,u3,_,_,rfl,rfl,(z2.trans z3) _ _ ae,ae,?_,λu4 p5=>?_⟩
  ·rw[c1,R7,Sx];exact R4 (show min (c-1).toNat ss.length+1<=100 by omega) (by decide)
  have z4:=ag p5 (.lst (fq (ss.map V.str) none (some (c-1))++[.str (sW pq.2)]));have Mr:=LP.trans (z3.trans z4);refine⟨_,rfl,_,rfl,a,_,1,_,rfl,rfl,aP.of (Mr _ _ h1),rfl,_,rfl,l,_,rfl,bc.of (Mr _ _ hl),λu5 Iz=>?_⟩;refine⟨u4,u5,_,_,rfl,rfl,ag Iz _ _ _ ae,ae,?_,λu6 Lu=>q u6 _ (Mr.trans ((ag Iz _).trans (ag Lu _))) ?_⟩
  ·rw[c1,c2,R8,R7,R7,Sx,List.length_drop];exact R4 (show min (c-1).toNat ss.length+1+(ss.length-c.toNat)<=100 by omega) (by decide)
  ·rw[e0,gJ,ae,c1,c2,R9,R9];rfl
 rintro H' ⟨e2,rfl⟩;have e2:x.nm≠"must":=of_decide_eq_false e2.symm;refine bV (λb H'=>b=decide (x.nm="count"\/x.nm="sum")/\aE H H') (λT hT=>⟨_,rfl,c5,λL hL=>⟨L,_,rfl,.inl (bc.of ae),rfl,rfl,_,rfl,hT _ _ ⟨D1,ag hL _⟩⟩⟩) ?_ ?_
 ·rintro H1 ⟨e,z1⟩;have tail:∀{D:Addr}{cs:List Int}{H':Hp},cs.length<=6->aE H H'->H' D=some (.lst ((cs.map (bD ss)).map V.str))->bh (.one x) [ss]=cs.map (bD ss)++(["t"]:Hd)->eZ J8 (tC (.ref D)) (GU (eN (tC (.str "t")) nI)) [] H' Q:=λ{D cs H'} hz s' hD e=>by
   refine⟨dH,λu hu=>⟨D,u,_,_,rfl,rfl,ag hu _ _ _ hD,ae,?_,λw hw=>q w _ (s'.trans ((ag hu _).trans (ag hw _))) ?_⟩⟩
   ·rw[R7,R7];exact R4 (Nat.succ_le_succ hz) (by decide)
   ·rw[e,gJ,ae,R9];rfl
  rcases C1 (SI e.symm)with⟨cs,rfl⟩|⟨cs,c,rfl⟩
  ·obtain⟨t,h1,h2⟩:=ha;have e0:bh (.one (.count cs)) [ss]=cs.map (bD ss)++(["t"]:Hd):=rfl;have hz:cs.length<=6:=by have:=hf.hd.six;rw[e0,R8,R7]at this;exact Nat.le_of_succ_le this
   exact⟨_,rfl,a,_,1,_,rfl,rfl,aP.of (z1 _ _ h1),rfl,t,rfl,⟨_,aP.of (z1 _ _ h2)⟩,λD hD=>cp h2 hz hf.col hD z1 λH' s' h'=>tail hz (z1.trans s') h' e0⟩
  ·obtain⟨t,h1,h2⟩:=ha;have e0:bh (.one (.sum cs c)) [ss]=cs.map (bD ss)++(["t"]:Hd):=rfl;have hz:cs.length<=6:=by have:=hf.hd.six;rw[e0,R8,R7]at this;exact Nat.le_of_succ_le this
   exact⟨_,rfl,a,_,1,_,rfl,rfl,aP.of (z1 _ _ h1),rfl,t,rfl,⟨_,aP.of (z1 _ _ h2)⟩,λD hD=>cp h2 hz (λc' hc'=>hf.col c' (So.mpr (.inl hc'))) hD z1 λH' s' h'=>tail hz (z1.trans s') h' e0⟩
 rintro H1 ⟨e3,z1⟩;have e3:¬(x.nm="count"\/x.nm="sum"):=of_decide_eq_false e3.symm;refine bV (λb H'=>b=decide (x.nm="walk"\/x.nm="number")/\aE H H') (λT hT=>⟨_,rfl,c5,λL hL=>⟨L,_,rfl,.inl (bc.of ae),rfl,rfl,_,rfl,hT _ _ ⟨D1,z1.trans (ag hL _)⟩⟩⟩) ?_ ?_
 ·rintro H2 ⟨e,z2⟩;have hk:∃g:Str,vi [V.str "t",.str "w"] (if decide (V.str x.nm=V.str "walk")=true then 1 else 0)=some (.str g)/\bh (.one x) [ss]=ss++[g]:=by
   rw[du];rcases J1 (SI e.symm)with⟨c,mv,rfl⟩|rfl
   ·exact⟨"w",by rw[show decide ((W1.walk c mv).nm="walk")=true from R6 rfl];rfl,rfl⟩
   ·exact⟨"t",by rw[show decide ((W1.number).nm="walk")=false from R5 (by show("number" : Str)≠"walk";decide +kernel)];rfl,rfl⟩
  obtain⟨g,k1,k2⟩:=hk;refine⟨_,rfl,c5,λu2 hu2=>⟨_,rfl,rfl,.inr ⟨_,rfl,u2,_,_,_,rfl,rfl,bc.of ae,k1,dH,λu3 sR=>?_⟩⟩⟩;refine⟨l,u3,_,_,rfl,rfl,ag sR _ _ _ (ag hu2 _ _ _ (z2 _ _ hl)),ae,?_,λw hw=>q w _ (z2.trans ((ag hu2 _).trans ((ag sR _).trans (ag hw _)))) ?_⟩
  ·rw[hn];exact R4 (Nat.succ_le_succ s6) (by decide)
  ·rw[k2,gJ,ae,R9];rfl
 rintro H2 ⟨e4,z2⟩;have e4:¬(x.nm="walk"\/x.nm="number"):=of_decide_eq_false e4.symm;refine⟨_,rfl,q l H2 z2 ?_⟩;have:bh (.one x) [ss]=ss:=by cases x<;>first|rfl|exact SJ rfl e1|exact SJ rfl e2|exact SJ (.inl rfl) e3|exact SJ (.inr rfl) e3|exact SJ (.inl rfl) e4|exact SJ (.inr rfl) e4
 rw[this];exact z2 _ _ hl
def f_(ss:Hd)(xs:List W1):Nat->Hd
 | 0=>ss
 |i+1=>match xs[i]? with
  |some x=>bh (.one x) [f_ ss xs i]
  |none=>f_ ss xs i
theorem oe{ss:Hd}{xs ys:List W1}:∀{i:Nat},i<=xs.length->f_ ss (xs++ys) i=f_ ss xs i
 | 0,_=>rfl
 |i+1,h=>by rw[f_,f_,Sv h,oe (Nat.le_of_succ_le h)]
theorem uM{ss:Hd}{x:W1}{xs:List W1}:∀{i:Nat},f_ ss (x::xs) (i+1)=f_ (bh (.one x) [ss]) xs i
 | 0=>rfl
 |i+1=>by rw[f_,List.getElem?_cons_succ,uM (i:=i)];rfl
theorem uY{ss:Hd}{xs:List W1}{x:W1}:f_ ss (xs++[x]) (xs.length+1)=bh (.one x) [f_ ss xs xs.length]:=by rw[f_,Su (R3 _),Nat.sub_self,oe (R3 _)];rfl
structure Good(ss:Hd)(xs:List W1):Prop where
 fit:∀(i:Nat) x,xs[i]? = some x->iC (f_ ss xs i) x
 ss:eD ss
theorem Good.at{ss:Hd}{xs:List W1}(h:Good ss xs):∀{i:Nat},eD (f_ ss xs i)
 | 0=>h.ss
 |i+1=>by
  rw[f_];cases e:xs[i]? with
  |none=>exact h.at
  |some x=>exact(h.fit i x e).hd
theorem Good.snoc{ss:Hd}{xs:List W1}{x:W1}(h:Good ss xs)(hx:iC (f_ ss xs xs.length) x):Good ss (xs++[x]):=by
 refine⟨λi y e=>?_,h.ss⟩;by_cases hi:i<xs.length
 ·rw[Sv hi]at e;rw[oe (Nat.le_of_lt hi)];exact h.fit i y e
 ·have hi':i=xs.length:=by have:=(Sj.mp e).1;rw[R8]at this;simp at this;omega
  subst hi';rw[Su (R3 _),Nat.sub_self]at e;cases e;rw[oe (R3 _)];exact hx
theorem yh{n:Nat}{h:Hd}{f:Fl}{pl:List Int}{x:W1}:bY n h f pl (.one x)=pR (.one x) h f pl [(h,f)]:=by cases n<;>rfl
theorem Hr{n:Nat}{h h':Hd}{f f':Fl}{pl:List Int}{x:W1}(e:bY n h f pl (.one x)=.ok h' f'):h'=bh (.one x) [h]/\f'=xl (.one x) h f [f]:=by
 rw[yh,pR]at e;split at e
 ·cases e
 ·cases e;exact⟨rfl,rfl⟩
theorem tV{n:Nat}{pl:List Int}{x:Wk}:∀{ws:List Wk}{i:Nat}{h:Hd}{f:Fl},putL (bY n) pl i h f (ws++[x])=gW (putL (bY n) pl i h f ws) λh' f'=>bY n h' f' (pl++[((i+ws.length:Nat):Int)]) x
 |[],i,h,f=>by show gW (bY n h f (pl++[(i:Int)]) x) (λh' f'=>.ok h' f')=bY n h f (pl++[((i+0:Nat):Int)]) x;rw[Nat.add_zero];cases bY n h f (pl++[(i:Int)]) x<;>rfl
 |y::ws,i,h,f=>by
  show gW (bY n h f (pl++[(i:Int)]) y) (λh' f'=>putL (bY n) pl (i+1) h' f' (ws++[x]))=gW (gW (bY n h f (pl++[(i:Int)]) y) λh' f'=>putL (bY n) pl (i+1) h' f' ws) _;cases bY n h f (pl++[(i:Int)]) y with
  |no a s=>rfl
  |ok h' f' =>show putL (bY n) pl (i+1) h' f' (ws++[x])=gW (putL (bY n) pl (i+1) h' f' ws) _;rw[tV (ws:=ws)];rw[show i+1+ws.length=i+(y::ws).length by rw[SG];omega]
theorem Ay{ss:Hd}{x:W1}{f:Fl}(h:iC ss x)(hm:fF (.one x)=true->f.l=false)(hw:cK x=true->f.o=false):oP (.one x) f [ss]=none:=by
 unfold oP;have c1:eG (.one x) [ss]=true:=by refine List.all_eq_true.mpr λc hc=>?_;show(decide (1<=c)&&decide (c<=(ss.length:Nat)))=true;have:=h.col c hc;rw[R6 this.1,R6 this.2];rfl
 have c4:CG (.one x) f=true:=by cases x<;>first|rfl | (show(!f.o)=true;rw[hw rfl];rfl)
 rw[SM c1,SM h.E8,SM h.hd.six,SM c4];refine SK λz=>?_;rw[SH]at z;rw[hm z.1]at z;exact SJ z.2 Sh
theorem uT{n:Nat}{pl:List Int}:∀{xs:List W1}{i:Nat}{h h':Hd}{f f':Fl},putL (bY n) pl i h f (xs.map .one)=.ok h' f'->∀j,j<=xs.length->((TL n pl i h f (xs.map .one))[j]?).map (λe=>e.2.1)=some (f_ h xs j)
 |[],i,h,h',f,f',e,j,hj=>by have:j=0:=Nat.le_zero.mp hj;subst this;rfl
 |x::xs,i,h,h',f,f',e,j,hj=>by
  have e:gW (bY n h f (pl++[(i:Int)]) (.one x)) (λh' f'=>putL (bY n) pl (i+1) h' f' (xs.map .one))=.ok h' f':=e;rw[S2,rE,yx,List.nil_append];cases ep:bY n h f (pl++[(i:Int)]) (.one x)with
  |no a s=>rw[ep]at e;cases e
  |ok h2 f2 =>
   rw[ep]at e;cases j with
   |zero=>rfl
   |succ j =>rw[List.getElem?_cons_succ,uM,←(Hr ep).1];exact uT (xs:=xs) (i:=i+1) e j (Nat.le_of_succ_le_succ hj)
theorem FO{n:Nat}{ss h':Hd}{f':Fl}{xs:List W1}(e:sO n ss (xs.map .one)=.ok h' f'){i:Nat}(hi:i<=xs.length):Fw (TL n [] 0 ss f0 (xs.map .one)) i=(f_ ss xs i).length:=by
 have:=uT e i hi;unfold Fw;cases q:(TL n [] 0 ss f0 (xs.map .one))[i]? with
 |none=>rw[q]at this;cases this
 |some z =>rw[q]at this;rw[←Ss this];rfl
structure wK(ss:Hd)(xs:List W1)(fr lo st:Bool):Prop where
 good:Good ss xs
 put:∃f,sO 0 ss (xs.map .one)=.ok (f_ ss xs xs.length) f/\fr = !f.o/\st=f.w/\f.j=f.w/\lo=f.l
 pos:∀x∈xs,∀n,x=.first n->0<=n
theorem wK.nil{ss:Hd}(h:eD ss):wK ss [] true false false:=⟨⟨λi x e=>(by cases e),h⟩,⟨f0,rfl,rfl,rfl,rfl,rfl⟩,λx hx=>(by cases hx)⟩
def Jl(ss:Hd):W1->Bool
 | .keep c _=>decide (bD ss c="t")
 |_=>false
def isF:W1->Bool
 | .first n=>decide (0<n)
 |_=>false
theorem Ar{x:W1}{h:Hd}{f:Fl}(e:f.j=f.w):(xl (.one x) h f [f]).o=(f.o || !bZ x.nm)/\(xl (.one x) h f [f]).w=(f.w||cK x)/\(xl (.one x) h f [f]).j=(f.w||cK x)/\(xl (.one x) h f [f]).l=((f.l||Jl h x)||(isF x&&(f.w||cK x))):=by
 have eo:(xl (.one x) h f [f]).o=((f.o||false)||pO (aJ (.one x))):=rfl;have ej:(xl (.one x) h f [f]).j=((f.j||false)||pJ (aJ (.one x))):=rfl;have ew:(xl (.one x) h f [f]).w=((f.w||false)||pW (aJ (.one x))):=rfl;have el:(xl (.one x) h f [f]).l=(looseW (.one x) h f||(f.l||false)):=rfl;rw[eo,ej,ew,el,Bool.or_false,Bool.or_false,Bool.or_false,Bool.or_false,e];have kn:∀s:Str,pO s = !bZ s:=λs=>rfl;cases x with
 |first n =>
  have en:aJ (.one (.first n))=(if n<=0 then("first 0" : Str)else "first"):=rfl;have k1:pO (aJ (.one (.first n)))=true/\pW (aJ (.one (.first n)))=false/\pJ (aJ (.one (.first n)))=false:=by rw[en];split<;>decide +kernel
  have k2:bZ (W1.first n).nm=false:=by show bZ "first"=false;decide +kernel
  have k3:looseW (.one (.first n)) h f=(decide (¬n<=0)&&f.j):=rfl;have k4:isF (.first n)=decide (¬n<=0):=by show decide (0<n)=_;rw[decide_eq_decide];omega
  rw[k1.1,k1.2.1,k1.2.2,k2,k3,k4,e];refine⟨rfl,rfl,rfl,?_⟩;show _=((f.l||false)||(decide (¬n<=0)&&(f.w||false)));rw[Bool.or_false,Bool.or_false,Bool.or_comm]
 |keep c t =>
  refine⟨rfl,?_,?_,?_⟩
  ·show(f.w||pW "keep")=_;rw[show pW "keep"=false by decide +kernel];rfl
  ·show(f.w||pJ "keep")=_;rw[show pJ "keep"=false by decide +kernel];rfl
  ·show(decide (bD h c="t")||f.l)=((f.l||decide (bD h c="t"))||(false&&_));rw[Bool.false_and,Bool.or_false,Bool.or_comm]
 |walk c mv =>
  refine⟨rfl,?_,?_,?_⟩
  ·show(f.w||pW "walk")=_;rw[show pW "walk"=true by decide +kernel];rfl
  ·show(f.w||pJ "walk")=_;rw[show pJ "walk"=true by decide +kernel];rfl
  ·show(false||f.l)=((f.l||false)||(false&&_));rw[Bool.false_and,Bool.or_false,Bool.or_false,Bool.false_or]
 |_ =>
  refine⟨rfl,?_,?_,?_⟩
  ·show(f.w||pW _)=_;rw[show∀s:Str,s∈(["same","cut","turn","must","sort","apart","count","sum","number"]:List Str)->pW s=false by decide +kernel]
   ·rfl
   ·simp only[aJ,Wk.nm,W1.nm];decide +kernel
  ·show(f.w||pJ _)=_;rw[show∀s:Str,s∈(["same","cut","turn","must","sort","apart","count","sum","number"]:List Str)->pJ s=false by decide +kernel]
   ·rfl
   ·simp only[aJ,Wk.nm,W1.nm];decide +kernel
  ·show(false||f.l)=((f.l||false)||(false&&_));rw[Bool.false_and,Bool.or_false,Bool.or_false,Bool.false_or]
theorem wK.snoc{ss:Hd}{xs:List W1}{fr lo st:Bool}{x:W1}(h:wK ss xs fr lo st)(hx:iC (f_ ss xs xs.length) x)(hm:fF (.one x)=true->lo=false)(hw:cK x=true->fr=true)(hp:∀n,x=.first n->0<=n) :
  wK ss (xs++[x]) (fr&&bZ x.nm) ((lo||Jl (f_ ss xs xs.length) x)||(isF x&&(st||cK x))) (st||cK x):=by
 obtain⟨f,e1,e2,e3,e4,e5⟩:=h.put;obtain⟨n1,n2,n3,n4⟩:=Ar (x:=x) (h:=f_ ss xs xs.length) e4;refine⟨h.good.snoc hx,⟨xl (.one x) (f_ ss xs xs.length) f [f],?_,?_,?_,?_,?_⟩,λy hy=>?_⟩
 ·unfold sO at e1⊢;rw[R9,List.map_singleton,tV,e1];show bY 0 _ f _ (.one x)=_;rw[yh,pR];show(match oP (.one x) f [f_ ss xs xs.length]with|some s=>_|none=>_)=_;rw[Ay hx (λz=>by rw[←e5];exact hm z) (λz=>by have:=hw z;rw[e2]at this;simpa using this)];rw[R8];show Res.ok _ _=Res.ok (f_ ss (xs++[x]) (xs.length+1)) _;rw[uY];rfl
 ·rw[n1,e2,Bool.not_or,Bool.not_not]
 ·rw[n2,e3]
 ·rw[n3,n2]
 ·rw[n4,e5,e3]
 ·rcases So.mp hy with z|z
  ·exact h.pos y z
  ·rw[Sk.mp z];exact hp
theorem lP{te:TE}{i:Nat}{t2:TS}{D:Ends}{σ:St}{H:Hp}(v:V)(h:∀R:VK,(∀H',aE H H'->R v H')->te σ H R)(k:∀H',aE H H'->t2 D (σ.set i (some v)) H'):uA (za te (bT i)) t2 D σ H:=h _ k
theorem iN{ta tb:TE}{σ:St}{H:Hp}{Q:VK}(h:ta σ H λx H1=>∃c,x=.bl c/\if c=true then tb σ H1 Q else Q (.bl false) H1):xp ta tb σ H Q:=h
theorem vC{ta tb:TE}{σ:St}{H:Hp}{Q:VK}(h:ta σ H λx H1=>∃c,x=.bl c/\if c=true then Q (.bl true) H1 else tb σ H1 Q):KU ta tb σ H Q:=h
structure kP(ss:Hd)(xs:List W1):Prop where
 good:Good ss xs
 put:∃f,sO 0 ss (xs.map .one)=.ok (f_ ss xs xs.length) f
 pos:∀x∈xs,∀n,x=.first n->0<=n
 few:xs.length<=12
def xt:Sp:=λvs H Q _=>∃(p l:Addr)(ss:Hd),vs=[.ref p,.ref l]/\ez H p/\gJ H l ss/\eD ss/\∀(t:Addr)(bs:List Addr)(xs:List W1) H',bf p H H'->bW fO H' t bs xs->kP ss xs->Q (.ref t) H'
theorem Bm{x:W1}:decide (x.nm="walk")=cK x:=by cases x<;>first|rfl | (simp only[W1.nm,cK];decide +kernel)
theorem JS{x:W1}(h:x.nm="keep"):∃c t,x=.keep c t:=by cases x<;>first|exact⟨_,_,rfl⟩ | (simp only[W1.nm]at h;exact SJ h (by decide +kernel))
theorem F6{x:W1}(h:x.nm="first"):∃n,x=.first n:=by cases x<;>first|exact⟨_,rfl⟩ | (simp only[W1.nm]at h;exact SJ h (by decide +kernel))
theorem IY{ss:Hd}{x:W1}(h:x.nm≠"keep"):Jl ss x=false:=by cases x<;>first|rfl|exact SJ rfl h
theorem IZ{x:W1}(h:x.nm≠"first"):isF x=false:=by cases x<;>first|rfl|exact SJ rfl h
abbrev jv:Stmt:=top 88
theorem bN:au ["_law_pot_here","_law_sorts","_law_free","_law_loose","_law_steps","_law_found","_law_k","_law_worker"] ["_law_pot_here","_law_sorts"] (ao jv):=fs
variable{P:Program}{w:World}{K:S7}{mg:Str->Option Value}{base:Heap}
theorem CN(B:j5 mg)(F:FA K mg "_law_pipe" jv)
  (aI:bB bE P w K mg base 1 "_law_draw" ["_law_pot_here","_law_many"] gu)
  (o_:bB bE P w K mg base 3 "_law_one_row" ["_law_pot_here","_law_sorts","_law_loose"] tK)
  (rj:bB bE P w K mg base 3 "_law_other" ["_law_pot_here","_law_sorts","_law_free"] yr)
  (dy:bB bE P w K mg base 1 "_law_sorts_behind" ["_law_sorts","_law_worker"] Ik) :
  bB bE P w K mg base 4 "_law_pipe" ["_law_pot_here","_law_sorts"] xt:=by
 refine F.ok bN λf cdv A outer s H vs Q E hr h=>?_;obtain⟨p,l,ss,rfl,hP,hl,hs,q⟩:=h;refine⟨_,(ak (fk (aY (aa cC (aa cC (aa cC ah)))) (bS rfl (aq (aL (i:=2) bN.nd rfl (SQ rfl)) (aq (aL (i:=3) bN.nd rfl (SQ rfl)) (aq (aL (i:=4) bN.nd rfl (SQ rfl)) bz)))))
   (ak (aX (i:=5) bN.nd rfl (SQ rfl) (bJ ah))
   (ak (fi PassesOwn.never rfl (cV rfl B.range (aa (aM aI hr (aa (pv 0) (aa ai ah))) ah)) (aL (i:=6) bN.nd rfl (SQ rfl))
    (ak (gN (bu bM (aM aI hr (aa (pv 0) (aa ai ah))) ai)
      (cb (aX (i:=7) bN.nd rfl (SQ rfl) (aM o_ hr (aa (pv 0) (aa (pv 1) (aa (pv 3) ah))))))
      (cb (aX (i:=7) bN.nd rfl (SQ rfl) (aM rj hr (aa (pv 0) (aa (pv 1) (aa (pv 2) ah)))))))
     (ak (aX (i:=2) bN.nd rfl (SQ rfl) (gr (pv 2) (d_ (iO cP (aG K (pv 7) ai) (bJ (aa av (aa av (aa av (aa av (aa av ah)))))) rfl))))
     (ak (aX (i:=4) bN.nd rfl (SQ rfl) (x8 (pv 4) (d_ (eY bM (aG K (pv 7) ai) av))))
     (ak (aX (i:=3) bN.nd rfl (SQ rfl) (x8 (pv 3) (d_ (gr (eY bM (aG K (pv 7) ai) av) (d_ (eY bM (bK K (pv 1) (aU ck (aG K (pv 7) ai) ai)) av))))))
     (ak (aX (i:=3) bN.nd rfl (SQ rfl) (x8 (pv 3) (d_ (gr (eY bM (aG K (pv 7) ai) av) (gr (eY xy (aG K (pv 7) ai) ai) (d_ (pv 4)))))))
     (ak (aX (i:=1) bN.nd rfl (SQ rfl) (aM dy hr (aa (pv 1) (aa (pv 7) ah))))
     (cb (cY (jc PySem.F.plainAttrs_list PySem.F.slot_list_append PySem.F.type_list_append cj (pv 5) (aa (pv 7) ah)))))))))))
   (ax (bx bo rfl B.tuple SV (aa (pv 5) ah)))))),?_⟩
 have nl:l≠p:=x5 hP hl hs.pos;refine⟨cM,λT hT=>⟨T,_,rfl,aP.of ae,rfl,_,_,rfl,aj ⟨_,_,rfl,aj ⟨_,_,rfl,aj ⟨rfl,?_⟩⟩⟩⟩⟩;have sA:=ag hT (.tup [.bl true,.bl false,.bl false]);revert sA;generalize upd H T (.tup [.bl true,.bl false,.bl false])=Ha;intro sA;dsimp only;refine⟨Sr _,λL Lo=>aj ?_⟩;dsimp only;have gA:bf p H Ha:=bf.same hP sA;have g0:=gA.new (o:=.lst []) Lo;have nL:L≠p:=gA.ne Lo;have hL:H L=none:=by
  cases z:H L with
  |none=>rfl
  |some o=>rw[sA _ _ z]at Lo;cases Lo
 have Bv:upd Ha L (.lst []) L=some (.lst []):=ae;have hl0:upd Ha L (.lst []) l=some (.lst (ss.map V.str)):=ag Lo _ _ _ (sA _ _ hl);revert g0 Bv hl0;generalize upd Ha L (.lst [])=H0;intro g0 Bv hl0;refine⟨_,rfl,p,_,rfl,g0.df,by decide,by decide,λd H1 g1 a1 b1=>⟨_,rfl,(iH (by omega) (by omega)).1,(iH (by omega) (by omega)).2,?_⟩⟩;refine iF (n:=d.toNat) (λi σ H'=>∃(lc:Addr)(fr lo st:Bool)(o6 o7:Option V)(bs:List Addr)(xs:List W1),σ=[some (.ref p),some (.ref lc),some (.bl fr),some (.bl lo),some (.bl st),some (.ref L),o6,o7]/\gJ H' lc (f_ ss xs xs.length)/\H' L=some (.lst (bs.map V.ref))/\(bs.length=xs.length/\∀(i:Nat) a x,bs[i]? = some a->xs[i]? = some x->fO H' a x)/\xs.length=i/\wK ss xs fr lo st/\bf p H H')
  ⟨l,true,false,false,none,none,[],[],rfl,g1.keep _ _ nl hl0,g1.keep _ _ nL Bv,⟨rfl,λi a x e=>by cases e⟩,rfl,wK.nil hs,g0.trans g1⟩ ?_ ?_
 ·rintro i σ H' hi ⟨lc,fr,lo,st,o6,o7,bs,xs,rfl,vh,hL',⟨rK,hbt⟩,KN,hd,g'⟩;have hss:=hd.good.at (i:=xs.length);have LD:lc≠p:=x5 g'.df vh hss.pos;have RW:lc≠L:=λz=>by
   have vh:H' lc=some (.lst ((f_ ss xs xs.length).map V.str)):=vh;rw[z,hL']at vh;have h1:=hss.pos;injection vh with e1;injection e1 with e1;cases eh:f_ ss xs xs.length with
   |nil=>rw[eh]at h1;cases h1
   |cons s r =>
    rw[eh]at e1;cases bs with
    |nil=>cases e1
    |cons b bs=>injection e1 with e1;cases e1
  refine aj ?_;dsimp only;refine rY (λσ' H2=>∃(a:Addr)(x:W1),σ'=[some (.ref p),some (.ref lc),some (.bl fr),some (.bl lo),some (.bl st),some (.ref L),some (.int (0+(i:Int))),some (.ref a)]/\bf p H' H2/\fO H2 a x/\iC (f_ ss xs xs.length) x/\(fF (.one x)=true->lo=false)/\(cK x=true->fr=true)/\∀n,x=.first n->0<=n) (λT hT=>?_) ?_
  ·refine⟨_,rfl,p,_,rfl,g'.df,by decide,by decide,λd2 H2 g2 a2 b2=>⟨rfl,_,rfl,?_⟩⟩;have BS:gJ H2 lc (f_ ss xs xs.length):=g2.keep _ _ LD vh;refine fJ (λ_=>?_) λ_=>?_
   ·refine⟨_,rfl,_,rfl,_,rfl,p,lc,_,lo,rfl,g2.df,BS,hss,λa x H3 g3 ha hf h1 h2=>aj (hT _ _ ⟨a,x,rfl,g2.trans g3,ha,hf,h2,λz=>?_,λn z=>?_⟩)⟩
    ·cases x<;>first|exact SJ h1 (by show¬bZ "walk"=true;decide +kernel)|cases z
    ·rw[z]at h1;exact SJ h1 (by show¬bZ "first"=true;decide +kernel)
   ·exact⟨_,rfl,_,rfl,_,rfl,p,lc,_,fr,rfl,g2.df,BS,hss,λa x H3 g3 ha hf h1 h2 h3=>aj (hT _ _ ⟨a,x,rfl,g2.trans g3,ha,hf,λz=>(by rw[h1]at z;cases z),h2,h3⟩)⟩
  rintro σ H2 ⟨a,x,rfl,g2,ha,hf,hm,hw,hp⟩;have BS:gJ H2 lc (f_ ss xs xs.length):=g2.keep _ _ LD vh;obtain⟨r,hx1⟩:=ha.first;have hnm:∀{H'},aE H2 H'->aP K H' a (.str x.nm::r):=λs'=>aP.of (s' _ _ hx1);refine lP (.bl (fr&&bZ x.nm)) (λR hR=>?_) λH3 s3=>?_
  ·refine iN ⟨_,rfl,fr,rfl,?_⟩;cases fr with
   |false=>exact cq (hR _ (aE.refl _))
   |true=>exact cB ⟨_,rfl,a,_,0,_,rfl,rfl,hnm (aE.refl _),ay (j:=0) rfl,Jx,λQ1 Rn=>⟨Q1,_,rfl,.inl (bc.of ae),rfl,rfl,hR _ (ag Rn _)⟩⟩
  refine lP (.bl (st||cK x)) (λR hR=>?_) λH4 s4=>?_
  ·refine vC ⟨_,rfl,st,rfl,?_⟩;cases st with
   |true=>exact cB (hR _ (aE.refl _))
   |false =>refine cq ⟨_,rfl,a,_,0,_,rfl,rfl,hnm s3,ay (j:=0) rfl,rfl,?_⟩;rw[du,Bm];exact hR _ (aE.refl _)
  have DD:=s3.trans s4;refine lP (.bl (lo||Jl (f_ ss xs xs.length) x)) (λR hR=>?_) λH5 s5=>?_
  ·refine vC ⟨_,rfl,lo,rfl,?_⟩;cases lo with
   |true=>exact cB (hR _ (aE.refl _))
   |false =>
    refine cq (iN ⟨_,rfl,a,_,0,_,rfl,rfl,hnm DD,ay (j:=0) rfl,rfl,_,rfl,?_⟩);rw[du];by_cases e:x.nm="keep"
    ·rw[R6 e];obtain⟨c,t,rfl⟩:=JS e;obtain⟨s0,r0,h1,h2⟩:=ha;have hc:=hf.col c (by simp[dN]);refine cB ⟨_,rfl,_,rfl,a,_,1,_,rfl,rfl,aP.of (DD _ _ h1),rfl,_,_,rfl,rfl,lc,_,_,_,rfl,rfl,bc.of (DD _ _ BS),kh hc,rfl,?_⟩;rw[du];exact hR _ (aE.refl _)
    ·rw[R5 e];rw[IY e]at hR;exact cq (hR _ (aE.refl _))
  have M9:=DD.trans s5;refine lP (.bl ((lo||Jl (f_ ss xs xs.length) x)||(isF x&&(st||cK x)))) (λR hR=>?_) λH6 s6=>?_
  ·refine vC ⟨_,rfl,_,rfl,?_⟩;cases ek:(lo||Jl (f_ ss xs xs.length) x)with
   |true=>rw[ek]at hR;exact cB (hR _ (aE.refl _))
   |false =>
    rw[ek,Bool.false_or]at hR;refine cq (iN ⟨_,rfl,a,_,0,_,rfl,rfl,hnm M9,ay (j:=0) rfl,rfl,_,rfl,?_⟩);rw[du];by_cases e:x.nm="first"
    ·rw[R6 e];obtain⟨n,rfl⟩:=F6 e;have h1:H2 a=some (.tup [.str "first",.int n]):=ha;refine cB (iN ⟨_,rfl,a,_,1,_,rfl,rfl,aP.of (M9 _ _ h1),rfl,_,_,rfl,rfl,_,rfl,?_⟩);have hR:∀H',aE H5 H'->R (.bl (decide (0<n)&&(st||cK (.first n)))) H':=hR;refine fJ (λk=>?_) λk=>?_
     ·rw[k,Bool.true_and]at hR;exact⟨_,rfl,hR _ (aE.refl _)⟩
     ·rw[Sn.mpr k,Bool.false_and]at hR;exact hR _ (aE.refl _)
    ·rw[R5 e];rw[IZ e,Bool.false_and]at hR;exact cq (hR _ (aE.refl _))
  have Nw:=M9.trans s6;refine⟨_,rfl,_,rfl,lc,a,_,x,rfl,Nw _ _ BS,ha.keep (aQ.of Nw),hf,hss,λu H7 s7 GQ=>aj ?_⟩;have LU:=Nw.trans s7;have Je:H7 L=some (.lst (bs.map V.ref)):=LU _ _ (g2.keep _ _ nL hL');have g7:bf p H H7:=(g'.trans g2).trans (bf.same g2.df LU);have RH:u≠L:=λz=>by
   have GQ:H7 u=some (.lst ((bh (.one x) [f_ ss xs xs.length]).map V.str)):=GQ;rw[z,Je]at GQ;have h1:=hf.hd.pos;injection GQ with e1;injection e1 with e1;cases eh:bh (.one x) [f_ ss xs xs.length]with
   |nil=>rw[eh]at h1;cases h1
   |cons s r =>
    rw[eh]at e1;cases bs with
    |nil=>cases e1
    |cons b bs=>injection e1 with e1;cases e1
  dsimp only;refine⟨_,rfl,.inl ⟨rfl,_,bc.of Je⟩,_,rfl,L,_,_,rfl,rfl,Je,?_,u,_,_,_,_,_,bs++[a],xs++[x],rfl,?_,by rw[ae,R9];rfl,lr rK hbt (λb y z=>?_) ?_,by rw[R8,KN];rfl,hd.snoc hf hm hw hp,?_⟩
  ·rw[R7,rK,KN];exact Sb (show i<100 by omega) (by decide)
  ·rw[R8,List.length_singleton,uY];show upd _ _ _ u=_;rw[aH RH];exact GQ
  ·exact z.keep (((aQ.grow g'.df g2).trans (aQ.of LU)).iw Je)
  ·exact ha.keep ((aQ.of LU).iw Je)
  ·exact(bf.refl hP).put hL nL g7
 ·rintro σ H' ⟨lc,fr,lo,st,o6,o7,bs,xs,rfl,vh,hL',⟨rK,hbt⟩,KN,hd,g'⟩;dsimp only;obtain⟨f,e1,_⟩:=hd.put;exact⟨_,rfl,L,_,rfl,.inl ⟨bc.of hL',λt ht=>q t bs xs _ (g'.new ht) ⟨ae,rK,λi a x e1 e2=>(hbt i a x e1 e2).keep (aQ.of (ag ht _))⟩ ⟨hd.good,⟨f,e1⟩,hd.pos,by omega⟩⟩⟩
def p0(cs:List Int)(c:Int):List Int:=((List.range cs.length).filter λk=>decide (cs[k]? = some c)).map λ(k:Nat)=>(k:Int)+1
theorem Ck{cs:List Int}{c:Int}(h:c∉cs):p0 cs c=[]:=by
 unfold p0;rw[List.filter_eq_nil_iff.mpr λk _=>?_]
 ·rfl
 ·rw[decide_eq_true_eq];exact λz=>h (Sf z)
theorem Bs{cs:List Int}{c:Int}(h:c∈cs):∃r,p0 cs c=(((cs.idxOf c:Nat):Int)+1)::r:=by
 obtain⟨h1,h2⟩:=Cg h;have hl:cs.idxOf c<cs.length:=List.idxOf_lt_length_iff.mpr h;obtain⟨m,hm⟩ :∃m,cs.length=cs.idxOf c+(m+1):=⟨cs.length-cs.idxOf c-1,by omega⟩;unfold p0;rw[hm,List.range_add,List.filter_append,List.filter_eq_nil_iff.mpr λk hk=>?_,List.nil_append,List.range_succ_eq_map,S2,List.filter_cons_of_pos (by rw[decide_eq_true_eq];exact h1)]
 ·exact⟨_,rfl⟩
 ·rw[decide_eq_true_eq];exact h2 k (List.mem_range.mp hk)
def HP(K:S7)(H:Hp)(l:Addr)(od:Od):Prop:=∃ws,H l=some (.lst ws)/\aD K H (od.map dE) ws
theorem HP.same{K:S7}{H H':Hp}{l:Addr}{od:Od}(s:aE H H')(h:HP K H l od):HP K H' l od:=by obtain⟨ws,h1,h2⟩:=h;exact⟨ws,s _ _ h1,h2.same s⟩
def xm(K:S7):Sp:=λvs H Q _=>∃(l t:Addr)(od:Od)(cs:List Int),vs=[.ref l,.ref t]/\HP K H l od/\H t=some (.tup (cs.map V.int))/\od.length<=1000/\cs.length<=1000/\∀u H',aE H H'->HP K H' u (jW od cs)->Q (.ref u) H'
theorem Fv{cs:List Int}{i:Nat}(h:i<cs.length):vi (cs.map V.int) (i:Int)=some (.int cs[i]):=ay (j:=i) (by rw[Sw,Sd h];rfl)
abbrev i_:Stmt:=top 89
theorem dP:au ["_law_order","_law_columns_here","_law_found","_law_column","_law_down","_law_spots"] ["_law_order","_law_columns_here"] (ao i_):=fs
theorem Cc(B:j5 mg)(F:FA K mg "_law_shown" i_) :
  bB bE P w K mg base 1 "_law_shown" ["_law_order","_law_columns_here"] (xm K):=by
 refine F.ok dP λf cdv A outer s H vs Q E hr h=>?_;have hu:=gX hr;obtain⟨l,t,od,cs,rfl,ho,ht,hz1,hz2,q⟩:=h;refine⟨_,(ak (aX (i:=2) dP.nd rfl (SQ rfl) (bJ ah))
   (ak (fi PassesOwn.never rfl (c0 (pv 0)) (bS rfl (aq (aL (i:=3) dP.nd rfl (Or.inr rfl)) (aq (aL (i:=4) dP.nd rfl (SQ rfl)) bz)))
    (ak (fe (i:=5) (N':=["_law_k","_law_columns_here","_law_column"]) (src:=[none,some 1,some 3]) dP.nd rfl (SQ rfl) rfl rfl (ba.jb (by kernel_rfl)) (cV rfl B.range (aa (aK aN rfl B.len S5 (aa (pv 1) ah)) ah)) (λcl C s H fp=>(e7 (i:=0))) (tc:=(jf (eZ JM (eZ (jj K) (bp 1) (bp 0)) (bp 2)))) (λcl C s H fp=>dR (bu bM (aG K (oY 1) (fP 0)) (oY 2))) (te:=(eZ (vj λi j=>V.int (i+j)) (bp 0) (tC (.int 1)))) (λcl C s H fp=>(aU cv (fP 0) ai)))
     (bq (bu (pQ hu) (pv 5) (bJ ah)) (pv 2)
     (cb (cY (jc PySem.F.plainAttrs_list PySem.F.slot_list_append PySem.F.type_list_append cj (pv 2) (aa (aY (aa (bK K (pv 5) ai) (aa (pv 4) ah))) ah)))))))
   (ax (pv 2)))),?_⟩
 obtain⟨ws,hl,hD⟩:=ho;have hwl:=gS hD;have hcl:(cs.map V.int).length=cs.length:=R7 ..;refine⟨Sr _,λL hL=>aj ?_⟩;dsimp only;refine⟨_,rfl,l,rfl,⟨_,bc.of (ag hL _ _ _ hl)⟩,?_⟩;refine tL (xs:=ws) (λi σ H'=>(∃o3 o4 o5,σ=[some (.ref l),some (.ref t),some (.ref L),o3,o4,o5])/\(∃xs,H' L=some (.lst xs)/\aD K H' (((od.take i).map (M8 cs)).map dE) xs)/\aE H H'/\∀e∈od.take i,decide (e.1∈cs)=true) ⟨⟨none,none,none,rfl⟩,⟨[],ae,aD.nil⟩,ag hL _,by simp⟩ ?_ ?_ ?_
 ·rintro i σ H' _ ⟨_,_,s',_⟩;exact bc.of (s' _ _ hl)
 ·rintro i x σ H' hx ⟨⟨o3,o4,o5,rfl⟩,⟨xs,hL',hX⟩,s',hall⟩;obtain⟨e,b,he,rfl,hb⟩:=gO hD hx;refine⟨b,_,rfl,s'.eC hb,rfl,_,_,rfl,aj ⟨_,_,rfl,aj ⟨rfl,?_⟩⟩⟩;dsimp only;refine⟨_,rfl,t,_,rfl,.inr (aP.of (s' _ _ ht)),_,rfl,(iH (by omega) (by omega)).1,(iH (by omega) (by omega)).2,λD hD'=>?_⟩;refine de (n:=(((cs.map V.int).length:Nat):Int).toNat) (λi σ ys H2=>(∃o,σ=[o,some (.ref t),some (.int e.1)])/\ys=(((List.range i).filter λk=>decide (cs[k]? = some e.1)).map λ(k:Nat)=>(k:Int)+1).map V.int/\ys.length<=i/\H2 D=some (.lst ys)/\aE H' H2) ⟨⟨none,rfl⟩,rfl,R3 _,ae,ag hD' _⟩ ?_ ?_ ?_ ?_
  ·rintro i σ ys H2 _ ⟨_,_,hi,h,_⟩;exact⟨h,hi⟩
  ·exact R4 (show(((cs.map V.int).length:Nat):Int).toNat<=1000 by omega) (by decide)
  ·rintro j σ ys H2 hj ⟨⟨o,rfl⟩,rfl,hz',h,sm⟩;have hj':j<cs.length:=by omega
   refine aj ?_;refine⟨_,rfl,_,rfl,t,_,_,_,rfl,rfl,aP.of (sm _ _ (s' _ _ ht)),by rw[show(0:Int)+(j:Int)=(j:Int) by omega];exact Fv hj',_,rfl,rfl,_,rfl,?_⟩;rw[oo];have ek:decide (cs[j]? = some e.1)=decide (cs[j]=e.1):=by rw[Sd hj',decide_eq_decide];exact⟨λz=>Ss z,λz=>by rw[z]⟩
   by_cases k:cs[j]=e.1
   ·rw[R6 k];refine cB ⟨_,rfl,_,_,rfl,rfl,h,⟨_,rfl⟩,?_,?_,ae,a_ hD' sm⟩
    ·rw[List.range_succ,List.filter_append,List.filter_cons_of_pos (by rw[ek,R6 k]),R9,R9];simp
    ·rw[R8];exact Nat.succ_le_succ hz'
   ·rw[R5 k];refine cq ⟨⟨_,rfl⟩,?_,Nat.le_succ_of_le hz',h,sm⟩;rw[List.range_succ,List.filter_append,List.filter_cons_of_neg (by rw[ek,R5 k];exact Sh)];simp
  rintro σ ys H2 ⟨_,rfl,_,hD2,sm⟩;have hD2:H2 D=some (.lst ((p0 cs e.1).map V.int)):=by rw[hD2,hcl];rfl
  refine aj ?_;dsimp only;have hL2:=sm _ _ hL';refine⟨_,rfl,Sr _,λN hN=>⟨D,N,_,rfl,rfl,ag hN _ _ _ hD2,ae,_,rfl,?_⟩⟩;have sN:=ag hN (.lst []);have s2:=s'.trans (sm.trans sN);by_cases k:e.1∈cs
  ·obtain⟨r,er⟩:=Bs k;rw[er]at hD2⊢;refine cq (bL ?_);refine⟨_,rfl,.inl ⟨rfl,_,bc.of (sN _ _ hL2)⟩,_,rfl,D,_,0,_,rfl,rfl,bc.of (sN _ _ hD2),ay (j:=0) rfl,_,rfl,c5,λu hu=>?_⟩;have su:=ag hu (.tup [.int (((cs.idxOf e.1:Nat):Int)+1),.bl e.2]);have hLu:=su _ _ (sN _ _ hL2);refine⟨L,_,_,rfl,rfl,hLu,?_,⟨_,_,_,rfl⟩,⟨_,ae,?_⟩,a_ hL (s2.trans su),take_all hall he (R6 k)⟩
   ·rw[←hX.length,R7,R7,Sx];exact R_ (R4 (Nat.min_le_right _ _) hz1) (by decide)
   ·rw[take_one he,R9,R9];refine aD.cL (KS.iw hLu) ?_ ((hX.same (sm.trans (sN.trans su))).append (aD.cons (ur (aP.of ae)) aD.nil));rw[←R9];exact wc _
  ·rw[Ck k];refine cB ⟨_,rfl,q L _ s2 ⟨_,sN _ _ hL2,?_⟩⟩;rw[jW,x6 hall he (R5 k)];exact hX.same (sm.trans sN)
 ·rintro σ H' ⟨⟨o3,o4,o5,rfl⟩,⟨xs,hL',hX⟩,s',hall⟩;rw[hwl,SR]at hall hX;refine⟨_,rfl,q L _ s' ⟨_,hL',?_⟩⟩;rw[jW,wD hall];exact hX
def Ft(K:S7)(H:Hp)(a:Addr)(k:Kf):Prop:=∃l,H a=some (.tup [.ref l,mV k.mo,.bl k.un])/\HP K H l k.od
theorem Ft.same{K:S7}{H H':Hp}{a:Addr}{k:Kf}(s:aE H H')(h:Ft K H a k):Ft K H' a k:=by obtain⟨l,h1,h2⟩:=h;exact⟨l,s _ _ h1,h2.same s⟩
section
variable{x:W1}
theorem Lp(h:x.nm="sort"):∃o,x=.sort o:=by cases x<;>first|exact⟨_,rfl⟩ | (simp only[W1.nm]at h;exact SJ h (by decide +kernel))
theorem KQ(h:x.nm="number"):x=.number:=by cases x<;>first|rfl | (simp only[W1.nm]at h;exact SJ h (by decide +kernel))
theorem Lq(h:x.nm="turn"\/x.nm="must"):∃c ps,x=.turn c ps\/x=.must c ps:=by cases x<;>first|exact⟨_,_,.inl rfl⟩|exact⟨_,_,.inr rfl⟩ | (simp only[W1.nm]at h;exact SJ h (by decide +kernel))
end
theorem Dw{cs:List Int}{w:Nat}{g:Nat->V}:(((List.range w).filter λ(i:Nat)=>!decide ((1:Int)+i∈cs)).map g).isEmpty=allIn cs w:=by
 rw[List.isEmpty_map];unfold allIn;rw[Bool.eq_iff_iff,List.isEmpty_iff,List.filter_eq_nil_iff,List.all_eq_true];constructor
 ·intro h i hi;have:=h i hi;simpa using this
 ·intro h i hi;have:=h i hi;simpa using this
theorem wU{od:Od}{c:Int}:∃r,(((List.range od.length).filter λi=>decide ((od.getD i (0,false)).1=c)).map λ(k:Nat)=>(k:Int))++[(od.length:Int)]=(((cF od c).length:Nat):Int)::r/\cF od c=od.take (cF od c).length:=by
 unfold cF;induction od with
 |nil=>exact⟨[],rfl,rfl⟩
 |cons e od ih =>
  obtain⟨r,e1,e2⟩:=ih;rw[List.takeWhile_cons];by_cases k:e.1=c
  ·rw[R5 (λz=>z k)];rw[SG,List.range_succ_eq_map,List.filter_cons_of_pos (by rw[decide_eq_true_eq];exact k)];exact⟨_,rfl,rfl⟩
  ·rw[R6 k,SM rfl];have er:(((List.range (e::od).length).filter λi=>decide (((e::od).getD i (0,false)).1=c)).map λ(k:Nat)=>(k:Int))++[((e::od).length:Int)]=((((List.range od.length).filter λi=>decide ((od.getD i (0,false)).1=c)).map λ(k:Nat)=>(k:Int))++[(od.length:Int)]).map λk=>k+1:=by rw[SG,List.range_succ_eq_map,List.filter_cons_of_neg (by rw[decide_eq_true_eq];exact k),List.filter_map,R9,List.map_map,List.map_map];congr 1
   refine⟨r.map λk=>k+1,?_,?_⟩
   ·rw[er,e1];rfl
   ·rw[SG,List.take_succ_cons];exact congrArg (e :: ·) e2
theorem A_{ta tb:TE}{σ:St}{H:Hp}{Q:VK}(v:V)(h:∀R:VK,R v H->xp ta tb σ H R)(k:Q v H):xp ta tb σ H Q:=h Q k
def Gb(K:S7):Sp:=λvs H Q _=>∃(a b:Addr)(k:Kf)(x:W1)(w:Nat),vs=[.ref a,.ref b,.int (w:Nat)]/\Ft K H a k/\fO H b x/\gc x/\k.od.length<=1000/\w<=1000/\∀u H',aE H H'->Ft K H' u (FQ x k w)->Q (.ref u) H'
theorem m_{K:S7}{H:Hp}{u l:Addr}{o:Od}{m:Option Int}{b:Bool}(hu:H u=none)(ho:HP K H l o):Ft K (upd H u (.tup [.ref l,mV m,.bl b])) u ⟨o,m,b⟩:=⟨l,ae,ho.same (ag hu _)⟩
theorem Az{m:Option Int}{n M:Int}(h1:M∈n::(match m with|none=>[]|some k=>[k]))(h2:∀a∈n::(match m with|none=>[]|some k=>[k]),M<=a):M=lh m n:=by
 cases m with
 |none=>simpa[lh] using h1
 |some k =>have z1:=h2 n (by simp);have z2:=h2 k (by simp);simp only[Sm,SN,or_false]at h1;unfold lh;dsimp only;split<;>omega
abbrev ig:Stmt:=top 90
theorem cc:au ["_law_known","_law_worker","_law_wide","_law_order","_law_most","_law_unlike_here","_law_word","_law_named","_law_stays","_law_ends"] ["_law_known","_law_worker","_law_wide"] (ao ig):=fs
theorem xh(B:j5 mg)(B2:pP mg)(F:FA K mg "_law_behind" ig)
  (lX:bB bE P w K mg base 1 "_law_shown" ["_law_order","_law_columns_here"] (xm K)) :
  bB bE P w K mg base 2 "_law_behind" ["_law_known","_law_worker","_law_wide"] (Gb K):=by
 refine F.ok cc λf cdv A outer s H vs Q E hr h=>?_;have hu:=gX hr;obtain⟨a,b,k,x,w,rfl,hk,hx,hsm,hz,hw,q⟩:=h;refine⟨_,(ak (fk (pv 0) (bS rfl (aq (aL (i:=3) cc.nd rfl (Or.inr rfl)) (aq (aL (i:=4) cc.nd rfl (SQ rfl)) (aq (aL (i:=5) cc.nd rfl (SQ rfl)) bz)))))
   (ak (aX (i:=6) cc.nd rfl (SQ rfl) (aG K (pv 1) ai))
   (ak (gN (bu bM (pv 6) av)
    (ak (aX (i:=7) cc.nd rfl (Or.inr rfl) (bw (N':=["_law_part"]) (src:=[none]) rfl (ba.jb (by kernel_rfl)) (cu (aG K (pv 1) ai)) (λcl C s H fp=>(e7 (i:=0))) (λcl C s H fp=>bg) (te:=(eZ (jj K) (bp 0) (tC (.int 0)))) (λcl C s H fp=>(aG K (fP 0) ai))))
     (ax (aY (aa (aU iS (bx lT rfl B.list PyProof.Rows.boot_list (aa (aG K (pv 1) ai) ah)) (bw (N':=["_law_part","_law_named"]) (src:=[none,some 7]) rfl (ba.jb (by kernel_rfl)) (c0 (pv 3)) (λcl C s H fp=>(e7 (i:=0))) (tc:=(jf (eZ (Dg K true) (eZ (jj K) (bp 0) (tC (.int 0))) (bp 1)))) (λcl C s H fp=>dR (dm fU (aG K (fP 0) ai) (oY 1) rfl)) (te:=(bp 0)) (λcl C s H fp=>(fP 0)))) (aa (pv 4) (aa cC ah))))))
    dk)
   (ak (gN (bu bM (pv 6) av)
    (ak (aX (i:=8) cc.nd rfl (SQ rfl) (gr (pv 5) (d_ (eY (pQ hu) (bw (N':=["_law_column","_law_worker"]) (src:=[none,some 1]) rfl (ba.jb (by kernel_rfl)) (mR rfl B.range (aa ai (aa (aU cv (pv 2) ai) ah))) (λcl C s H fp=>(e7 (i:=0))) (tc:=(jf (eZ (Dg K true) (bp 0) (eZ (jj K) (bp 1) (tC (.int 1)))))) (λcl C s H fp=>dR (dm fU (fP 0) (aG K (oY 1) ai) rfl)) (te:=(bp 0)) (λcl C s H fp=>(fP 0))) (bJ ah)))))
     (ax (aY (aa (aM lX hr (aa (pv 3) (aa (aG K (pv 1) ai) ah))) (aa (pv 4) (aa (pv 8) ah))))))
    dk)
   (bq (dm cP (pv 6) (bJ (aa av (aa av ah))) rfl) (aY (aa (aM lX hr (aa (pv 3) (aa (aG K (pv 1) ai) ah))) (aa (pv 4) (aa cC ah))))
   (bq (bu bM (pv 6) av) (aY (aa (aU iS (pv 3) (bJ (aa (aY (aa (aU cv (pv 2) ai) (aa cC ah))) ah))) (aa (pv 4) (aa cC ah))))
   (bq (bu bM (pv 6) av) (aY (aa (pv 3) (aa (aK (y0 rfl) rfl B2.min PyProof.Rows.boot_min (aa (aU iS (bJ (aa (aG K (pv 1) ai) ah)) (bw (N':=["_law_one"]) (src:=[none]) rfl (ba.jb (by kernel_rfl)) (c0 (bJ (aa (pv 4) ah))) (λcl C s H fp=>(e7 (i:=0))) (tc:=(jf (eZ (λx y H Q=>y=.non/\Q (.bl (!decide (x=.non))) H) (bp 0) (tC .non)))) (λcl C s H fp=>dR (bu n_ (fP 0) fh)) (te:=(bp 0)) (λcl C s H fp=>(fP 0)))) ah)) (aa (pv 5) ah))))
   (ak (gN (dm cP (pv 6) (bJ (aa av (aa av ah))) rfl)
    (ak (aX (i:=9) cc.nd rfl (SQ rfl) (aU iS (bw (N':=["_law_k","_law_worker","_law_order"]) (src:=[none,some 1,some 3]) rfl (ba.jb (by kernel_rfl)) (cV rfl B.range (aa (aK aN rfl B.len S5 (aa (pv 3) ah)) ah)) (λcl C s H fp=>(e7 (i:=0))) (tc:=(jf (eZ JM (eZ (jj K) (eZ (mY K) (bp 2) (bp 0)) (tC (.int 0))) (eZ (jj K) (bp 1) (tC (.int 1)))))) (λcl C s H fp=>dR (bu bM (aG K (bK K (oY 2) (fP 0)) ai) (aG K (oY 1) ai))) (te:=(bp 0)) (λcl C s H fp=>(fP 0))) (bJ (aa (aK aN rfl B.len S5 (aa (pv 3) ah)) ah))))
     (ax (aY (aa (c_ (r:=Fq K) rW (pv 3) fX (dg (bK K (pv 9) ai))) (aa (pv 4) (aa cC ah))))))
    dk)
   (ax (aY (aa (pv 3) (aa (pv 4) (aa (bK K (bJ (aa (gr (pv 5) (d_ (eY bM (pv 6) av))) (aa cC ah))) (bx mx rfl B2.int SW (aa (eY bM (pv 6) av) ah))) ah))))))))))))),?_⟩
 obtain⟨l,ha,ho⟩:=hk;obtain⟨ws,hl,hD⟩:=id ho;have hwl:=gS hD;obtain⟨r,hx1⟩:=hx.first;refine⟨_,rfl,a,_,rfl,aP.of ha,rfl,_,_,rfl,aj ⟨_,_,rfl,aj ⟨_,_,rfl,aj ⟨rfl,?_⟩⟩⟩⟩;dsimp only;refine⟨_,rfl,b,_,0,_,rfl,rfl,aP.of hx1,ay (j:=0) rfl,aj ?_⟩;dsimp only;refine bV (λc H'=>c=decide (x.nm="sort")/\H=H') (λT hT=>⟨_,rfl,rfl,_,rfl,hT _ _ ⟨du _ _,rfl⟩⟩) ?_ ?_
 ·rintro H' ⟨e,rfl⟩;obtain⟨o,rfl⟩:=Lp (SI e.symm);obtain⟨t,bs,h1,hI⟩:=hx;have hsm:o.length<=1000:=hsm;obtain⟨_,_,et,hS,hD2⟩:=g_ (Bn (K:=K) hI);cases et;have rK:(bs.map V.ref).length=o.length:=by rw[R7,hI.len]
  refine⟨_,rfl,b,_,1,_,rfl,rfl,aP.of h1,rfl,t,rfl,⟨_,aP.of hI.tup⟩,λN hN=>?_⟩;refine cG (xs:=bs.map V.ref) (λi σ ys H'=>(∃o1,σ=[o1])/\ys=((o.take i).map λe=>e.1).map V.int/\ys.length=i/\H' N=some (.lst ys)/\aE H H') ⟨⟨none,rfl⟩,rfl,rfl,ae,ag hN _⟩ ?_ ?_ ?_ ?_ ?_
  ·rintro i σ ys H' _ ⟨_,_,hi,h,_⟩;exact⟨h,S0 hi⟩
  ·rintro i σ ys H' _ ⟨_,_,_,_,sm⟩;exact aP.of (sm _ _ hI.tup)
  ·rw[rK];exact R4 hsm (by decide)
  ·rintro i v σ ys H' hv ⟨⟨o1,rfl⟩,rfl,hi,h,sm⟩;obtain⟨c,e',rfl,he,hc⟩:=hI.get hv;refine aj ?_;refine⟨_,rfl,c,_,0,_,rfl,rfl,aP.of (sm _ _ hc),ay (j:=0) rfl,h,⟨_,rfl⟩,?_,?_,ae,a_ hN sm⟩
   ·rw[take_one he,R9,R9];rfl
   ·rw[R8,hi];rfl
  rintro σ ys H1 ⟨_,rfl,_,OO,s1⟩;rw[rK,SR]at OO;refine aj ?_;dsimp only;refine⟨_,rfl,b,_,1,_,rfl,rfl,aP.of (s1 _ _ h1),rfl,t,_,rfl,.inr (aP.of (s1 _ _ hI.tup)),λL1 hL1=>?_⟩;have sL:=ag hL1 (.lst (bs.map V.ref));have L7:=s1.trans sL;refine⟨_,rfl,l,rfl,⟨_,bc.of (L7 _ _ hl)⟩,λD hD'=>?_⟩;refine dn (xs:=ws) (λi σ ys H'=>(∃o1,σ=[o1,some (.ref N)])/\aD K H (((k.od.take i).filter λe=>decide (e.1∉o.map λe=>e.1)).map dE) ys/\ys.length<=i/\H' D=some (.lst ys)/\aE (upd H1 L1 (.lst (bs.map V.ref))) H') ⟨⟨none,rfl⟩,aD.nil,R3 _,ae,ag hD' _⟩ ?_ ?_ ?_ ?_ ?_
  ·rintro i σ ys H' _ ⟨_,_,hi,h,_⟩;exact⟨h,hi⟩
  ·rintro i σ ys H' _ ⟨_,_,_,_,sm⟩;exact bc.of (sm _ _ (L7 _ _ hl))
  ·rw[hwl];exact R4 hz (by decide)
  ·rintro i v σ ys H' hv ⟨⟨o1,rfl⟩,hY,hi,h,sm⟩;obtain⟨e',c,he,rfl,hc⟩:=gO hD hv;refine aj ?_;refine⟨_,rfl,c,_,0,_,rfl,rfl,(L7.trans sm).eC hc,ay (j:=0) rfl,_,rfl,N,_,rfl,.inl (bc.of (sm _ _ (sL _ _ OO))),rfl,tU _,_,rfl,?_⟩;show if(!inV (.int e'.1) ((o.map λe=>e.1).map V.int))=true then _ else _
   rw[Ln];by_cases kk:e'.1∈o.map λe=>e.1
   ·rw[R6 kk];refine cq ⟨⟨_,rfl⟩,?_,Nat.le_succ_of_le hi,h,sm⟩;rw[take_one he,List.filter_append,List.filter_cons_of_neg (by rw[decide_eq_true_eq];exact λz=>z kk)];simpa using hY
   ·rw[R5 kk];refine cB ⟨_,rfl,h,⟨_,rfl⟩,?_,?_,ae,a_ hD' sm⟩
    ·rw[take_one he,List.filter_append,R9,List.filter_cons_of_pos (by rw[decide_eq_true_eq];exact kk)];exact hY.append (aD.cons (ur hc) aD.nil)
    ·rw[R8];exact Nat.succ_le_succ hi
  rintro σ ys H2 ⟨_,hY,hi,h2,sm⟩;rw[hwl,SR]at hY;have s2:=L7.trans sm;refine⟨L1,D,_,_,rfl,rfl,sm _ _ ae,h2,?_,λu hu'=>⟨_,rfl,cM,λp hp=>q _ _ (s2.trans ((ag hu' _).trans (ag hp _))) (m_ hp ⟨_,ae,?_⟩)⟩⟩
  ·rw[rK];exact R4 (show o.length+ys.length<=2000 by omega) (by decide)
  ·rw[withOther,R9];have s3:=s2.trans (ag hu' (.lst (bs.map V.ref++ys)));refine aD.append (aD.same s3 ?_) (hY.same s3);refine aD.of (by rw[R7,R7,hI.len]) λi d v e1 e2=>?_;obtain⟨a',e',rfl,e3,e4⟩:=hI.get e2;rw[Sw,e3]at e1;cases e1;exact ur (aP.of e4)
 rintro H' ⟨e1,rfl⟩;have e1:x.nm≠"sort":=of_decide_eq_false e1.symm;refine bV (λc H'=>c=decide (x.nm="cut")/\H=H') (λT hT=>⟨_,rfl,rfl,_,rfl,hT _ _ ⟨du _ _,rfl⟩⟩) ?_ ?_
 ·rintro H' ⟨e,rfl⟩;obtain⟨cs,rfl⟩:=AV (SI e.symm);obtain⟨t,h1,h2⟩:=hx;have hsm:cs.length<=1000:=hsm;refine lP (.bl (k.un&&allIn cs w)) (λR hR=>?_) λH1 s1=>?_
  ·refine iN ⟨_,rfl,k.un,rfl,?_⟩;cases eu:k.un with
   |false=>rw[eu]at hR;exact cq (hR _ (aE.refl _))
   |true =>
    rw[eu,Bool.true_and]at hR;have hn:((w:Int)+1-1).toNat=w:=by omega
    refine cB ⟨_,rfl,_,_,rfl,rfl,1,(w:Int)+1,rfl,⟨by decide,by decide,?_,?_⟩,λD hD'=>?_⟩
    ·have e:((2:Int) ^ 62)=4611686018427387904:=by decide
     rw[e];omega
    ·have e:((2:Int) ^ 62)=4611686018427387904:=by decide
     rw[e];omega
    rw[hn];refine de (lo:=1) (n:=w) (λi σ ys H'=>(∃o,σ=[o,some (.ref b)])/\ys=((List.range i).filter λ(i:Nat)=>!decide ((1:Int)+i∈cs)).map (λ(i:Nat)=>V.int ((1:Int)+i))/\ys.length<=i/\H' D=some (.lst ys)/\aE H H') ⟨⟨none,rfl⟩,rfl,R3 _,ae,ag hD' _⟩ ?_ ?_ ?_ ?_
    ·rintro i σ ys H' _ ⟨_,_,hi,h,_⟩;exact⟨h,hi⟩
    ·exact R4 hw (by decide)
    ·rintro i σ ys H' _ ⟨⟨o,rfl⟩,rfl,hi,h,sm⟩;refine aj ?_;refine⟨_,rfl,_,rfl,b,_,1,_,rfl,rfl,aP.of (sm _ _ h1),rfl,t,_,rfl,.inr (aP.of (sm _ _ h2)),rfl,tU cs,_,rfl,?_⟩;show if(!inV (.int (1+(i:Int))) (cs.map V.int))=true then _ else _
     rw[Ln];by_cases kk:(1:Int)+i∈cs
     ·rw[R6 kk];refine cq ⟨⟨_,rfl⟩,?_,Nat.le_succ_of_le hi,h,sm⟩;rw[List.range_succ,List.filter_append,List.filter_cons_of_neg (by rw[R6 kk];exact Sh)];simp
     ·rw[R5 kk];refine cB ⟨_,rfl,h,⟨_,rfl⟩,?_,?_,ae,a_ hD' sm⟩
      ·rw[List.range_succ,List.filter_append,List.filter_cons_of_pos (by rw[R5 kk];rfl),R9];rfl
      ·rw[R8];exact Nat.succ_le_succ hi
    rintro σ ys H1 ⟨_,rfl,_,h,sm⟩;refine⟨Sr _,λN hN=>⟨D,N,_,rfl,rfl,ag hN _ _ _ h,ae,?_⟩⟩;have hR:=hR _ (sm.trans (ag hN (.lst [])));rw[←Dw (g:=λ(i:Nat)=>V.int ((1:Int)+i))]at hR;exact hR
  exact⟨_,rfl,_,rfl,b,_,1,_,rfl,rfl,aP.of (s1 _ _ h1),rfl,l,t,k.od,cs,rfl,ho.same s1,s1 _ _ h2,hz,hsm,λu H' s' hu'=>⟨_,rfl,_,rfl,cM,λp hp=>q _ _ (s1.trans (s'.trans (ag hp _))) (m_ hp hu')⟩⟩
 rintro H' ⟨e2,rfl⟩;have e2:x.nm≠"cut":=of_decide_eq_false e2.symm;refine bV (λc H'=>c=decide (x.nm="count"\/x.nm="sum")/\aE H H') (λT hT=>⟨_,rfl,c5,λL hL=>⟨L,_,rfl,.inl (bc.of ae),rfl,rfl,_,rfl,hT _ _ ⟨D1,ag hL _⟩⟩⟩) ?_ ?_
 ·rintro H1 ⟨e,z1⟩;have hm1:1=1:=rfl;rcases C1 (SI e.symm)with⟨cs,rfl⟩|⟨cs,c,rfl⟩
  ·obtain⟨t,h1,h2⟩:=hx;exact⟨_,rfl,_,rfl,b,_,1,_,rfl,rfl,aP.of (z1 _ _ h1),rfl,l,t,k.od,cs,rfl,ho.same z1,z1 _ _ h2,hz,hsm,λu H' s' hu'=>⟨_,rfl,cM,λp hp=>q _ _ (z1.trans (s'.trans (ag hp _))) (m_ hp hu')⟩⟩
  ·obtain⟨t,h1,h2⟩:=hx;exact⟨_,rfl,_,rfl,b,_,1,_,rfl,rfl,aP.of (z1 _ _ h1),rfl,l,t,k.od,cs,rfl,ho.same z1,z1 _ _ h2,hz,hsm,λu H' s' hu'=>⟨_,rfl,cM,λp hp=>q _ _ (z1.trans (s'.trans (ag hp _))) (m_ hp hu')⟩⟩
 rintro H1 ⟨e3,z1⟩;have e3:¬(x.nm="count"\/x.nm="sum"):=of_decide_eq_false e3.symm;refine bV (λc H'=>c=decide (x.nm="number")/\H1=H') (λT hT=>⟨_,rfl,rfl,_,rfl,hT _ _ ⟨du _ _,rfl⟩⟩) ?_ ?_
 ·rintro H' ⟨e,rfl⟩;cases KQ (SI e.symm);refine⟨_,rfl,_,rfl,_,_,rfl,rfl,c5,λp1 hp1=>⟨dH,λp2 hp2=>?_⟩⟩;have s1:=ag hp1 (.tup [.int ((w:Int)+1),.bl false]);have s2:=ag hp2 (.lst [.ref p1]);have s12:=z1.trans (s1.trans s2);refine⟨l,p2,_,_,rfl,rfl,s12 _ _ hl,ae,?_,λu hu'=>⟨_,rfl,cM,λp hp=>q _ _ (s12.trans ((ag hu' _).trans (ag hp _))) (m_ hp ⟨_,ae,?_⟩)⟩⟩
  ·rw[hwl];exact R4 (Nat.succ_le_succ hz) (by decide)
  ·rw[R9];exact(hD.same (s12.trans (ag hu' _))).append (aD.cons (ur (aP.of (ag hu' _ _ _ (s2 _ _ ae)))) aD.nil)
 rintro H' ⟨e4,rfl⟩;have e4:x.nm≠"number":=of_decide_eq_false e4.symm;refine bV (λc H'=>c=decide (x.nm="first")/\H1=H') (λT hT=>⟨_,rfl,rfl,_,rfl,hT _ _ ⟨du _ _,rfl⟩⟩) ?_ ?_
 ·rintro H' ⟨e,rfl⟩;obtain⟨n,rfl⟩:=F6 (SI e.symm);have h1:H b=some (.tup [.str "first",.int n]):=hx;refine⟨_,rfl,_,rfl,b,_,1,_,rfl,rfl,aP.of (z1 _ _ h1),rfl,dH,λL1 hL1=>?_⟩;have s1:=ag hL1 (.lst [.int n]);refine⟨_,rfl,dH,λL2 hL2=>⟨L2,rfl,⟨_,bc.of ae⟩,λD hD'=>?_⟩⟩;have s2:=ag hL2 (.lst [mV k.mo]);have Ii:upd (upd H1 L1 (.lst [.int n])) L2 (.lst [mV k.mo]) L2=some (.lst [mV k.mo]):=ae;have HM:upd (upd H1 L1 (.lst [.int n])) L2 (.lst [mV k.mo]) L1=some (.lst [.int n]):=s2 _ _ ae;have s12:=z1.trans (s1.trans s2);revert Ii HM s12 hD';generalize upd (upd H1 L1 (.lst [.int n])) L2 (.lst [mV k.mo])=H3;intro hD' Ii HM s12;let ms:List Int:=match k.mo with|none=>[]|some m=>[m]
  have MD:ms=match k.mo with|none=>[]|some m=>[m]:=rfl
  refine dn (xs:=[mV k.mo]) (λi σ ys H'=>(∃o1,σ=[o1])/\ys=(if i=0 then []else ms.map V.int)/\ys.length<=i/\H' D=some (.lst ys)/\aE H3 H') ⟨⟨none,rfl⟩,rfl,R3 _,ae,ag hD' _⟩ ?_ ?_ ?_ ?_ ?_
  ·rintro i σ ys H' _ ⟨_,_,hi,h,_⟩;exact⟨h,hi⟩
  ·rintro i σ ys H' _ ⟨_,_,_,_,sm⟩;exact bc.of (sm _ _ Ii)
  ·exact dH
  ·rintro i v σ ys H' hv ⟨⟨o1,rfl⟩,ey,hi,h,sm⟩;have hi0:i=0:=by have:=(Sj.mp hv).1;simpa using this
   subst hi0;have ev:mV k.mo=v:=Ss hv;subst ev;have ey:ys=[]:=ey;subst ey;refine aj ?_;refine⟨_,rfl,rfl,_,rfl,?_⟩;cases em:k.mo with
   |none =>refine cq ⟨⟨_,rfl⟩,?_,Sr _,h,sm⟩;rw[MD,em];rfl
   |some m =>refine cB ⟨_,rfl,h,⟨_,rfl⟩,?_,R3 _,ae,a_ hD' sm⟩;rw[MD,em];rfl
  rintro σ ys H4 ⟨_,ey,_,Nr,sm⟩;have ey:ys=ms.map V.int:=ey;subst ey;refine⟨L1,D,_,_,rfl,rfl,sm _ _ HM,Nr,?_,λu hu'=>?_⟩
  ·rw[R7,MD];cases k.mo with
   |none=>exact dH
   |some m=>exact c5
  refine⟨u,n::ms,rfl,bc.of ae,(by simp),λM m1 m2=>?_⟩;have eM:=Az m1 m2;subst eM;have s5:=s12.trans (sm.trans (ag hu' (.lst ([.int n]++ms.map V.int))));exact⟨_,rfl,cM,λp hp=>q _ _ (s5.trans (ag hp _)) (m_ (m:=some (lh k.mo n)) hp (ho.same s5))⟩
 rintro H' ⟨e5,rfl⟩;have e5:x.nm≠"first":=of_decide_eq_false e5.symm;refine bV (λc H'=>c=decide (x.nm="turn"\/x.nm="must")/\aE H H') (λT hT=>⟨_,rfl,c5,λL hL=>⟨L,_,rfl,.inl (bc.of ae),rfl,rfl,_,rfl,hT _ _ ⟨D1,z1.trans (ag hL _)⟩⟩⟩) ?_ ?_
 ·rintro H2 ⟨e,z2⟩;have hc:∃c,(∃r,H b=some (.tup (.str x.nm :: .int c::r)))/\FQ x k w=⟨cF k.od c,k.mo,false⟩:=by
   obtain⟨c,ps,rfl|rfl⟩:=Lq (SI e.symm)
   ·obtain⟨t,bs,h1,_⟩:=hx;exact⟨c,⟨_,h1⟩,rfl⟩
   ·obtain⟨t,bs,h1,_⟩:=hx;exact⟨c,⟨_,h1⟩,rfl⟩
  obtain⟨c,⟨r',h1⟩,Jh⟩:=hc;rw[Jh]at q;refine⟨_,rfl,l,_,rfl,.inl (bc.of (z2 _ _ hl)),_,rfl,(iH (by omega) (by omega)).1,(iH (by omega) (by omega)).2,λD hD'=>?_⟩;refine de (n:=(((ws.length:Nat):Int)).toNat) (λi σ ys H'=>(∃o,σ=[o,some (.ref b),some (.ref l)])/\ys=(((List.range i).filter λi=>decide ((k.od.getD i (0,false)).1=c)).map λ(k:Nat)=>(k:Int)).map V.int/\ys.length<=i/\H' D=some (.lst ys)/\aE H2 H') ⟨⟨none,rfl⟩,rfl,R3 _,ae,ag hD' _⟩ ?_ ?_ ?_ ?_
  ·rintro i σ ys H' _ ⟨_,_,hi,h,_⟩;exact⟨h,hi⟩
  ·exact R4 (show(((ws.length:Nat):Int)).toNat<=1000 by omega) (by decide)
  ·rintro i σ ys H' hi ⟨⟨o,rfl⟩,rfl,hz',h,sm⟩;have hi':i<ws.length:=by omega
   have ev:ws[i]? = some ws[i]:=Sd hi';obtain⟨e',c',he,ec,hc'⟩:=gO hD ev;have ed:k.od.getD i (0,false)=e':=by rw[List.getD_eq_getElem?_getD,he];rfl
   refine aj ?_;refine⟨_,rfl,_,rfl,l,_,_,_,rfl,rfl,bc.of (sm _ _ (z2 _ _ hl)),by rw[show(0:Int)+(i:Int)=(i:Int) by omega];exact ay (j:=i) ev,c',_,0,_,ec,rfl,(z2.trans sm).eC hc',ay (j:=0) rfl,_,rfl,b,_,1,_,rfl,rfl,aP.of (sm _ _ (z2 _ _ h1)),ay (j:=1) rfl,rfl,_,rfl,?_⟩;rw[oo];by_cases kk:e'.1=c
   ·rw[R6 kk];refine cB ⟨_,rfl,h,⟨_,rfl⟩,?_,?_,ae,a_ hD' sm⟩
    ·rw[List.range_succ,List.filter_append,List.filter_cons_of_pos (by rw[ed,R6 kk]),R9,R9];simp
    ·rw[R8];exact Nat.succ_le_succ hz'
   ·rw[R5 kk];refine cq ⟨⟨_,rfl⟩,?_,Nat.le_succ_of_le hz',h,sm⟩;rw[List.range_succ,List.filter_append,List.filter_cons_of_neg (by rw[ed,R5 kk];exact Sh)];simp
  rintro σ ys H3 ⟨_,rfl,hyl,yo,sm⟩;have Ql:(((ws.length:Nat):Int)).toNat=k.od.length:=by omega
  rw[Ql]at yo hyl;have z3:=z2.trans sm;refine⟨_,rfl,l,_,rfl,.inl (bc.of (z3 _ _ hl)),dH,λN hN=>?_⟩;have sN:=ag hN (.lst [.int ((ws.length:Nat):Int)]);refine⟨D,N,_,_,rfl,rfl,sN _ _ yo,ae,R4 (Nat.succ_le_succ (R4 hyl hz)) (by decide),λE hE=>aj ?_⟩;dsimp only;obtain⟨r2,er,et⟩:=wU (od:=k.od) (c:=c);have P0:upd (upd H3 N (.lst [.int ((ws.length:Nat):Int)])) E (.lst ((((List.range k.od.length).filter λi=>decide ((k.od.getD i (0,false)).1=c)).map λ(k:Nat)=>(k:Int)).map V.int++[.int ((ws.length:Nat):Int)])) E=some (.lst (.int (((cF k.od c).length:Nat):Int)::r2.map V.int)):=by rw[ae,hwl,show [V.int ((k.od.length:Nat):Int)]=([((k.od.length:Nat):Int)]).map V.int from rfl,←R9,er];rfl
  have z4:=z3.trans (sN.trans (ag hE (.lst ((((List.range k.od.length).filter λi=>decide ((k.od.getD i (0,false)).1=c)).map λ(k:Nat)=>(k:Int)).map V.int++[.int ((ws.length:Nat):Int)]))));refine⟨_,rfl,_,rfl,E,_,0,_,rfl,rfl,bc.of P0,ay (j:=0) rfl,_,rfl,l,_,rfl,bc.of (z4 _ _ hl),λu hu'=>⟨_,rfl,cM,λp hp=>q _ _ (z4.trans ((ag hu' _).trans (ag hp _))) (m_ hp ⟨_,ae,?_⟩)⟩⟩;have hle:(cF k.od c).length<=ws.length:=by rw[hwl];exact(List.takeWhile_prefix _).length_le
  rw[oA hle];have:=(hD.take (cF k.od c).length).same (z4.trans (ag hu' (.lst (ws.take (cF k.od c).length))));rw[←List.map_take,←et]at this;rw[oA hle]at hp;exact this
 rintro H2 ⟨e6,z2⟩;have e6:¬(x.nm="turn"\/x.nm="must"):=of_decide_eq_false e6.symm;have Jh:FQ x k w=⟨k.od,k.mo,if cK x then k.un else decide (x.nm="apart")⟩/\(x.nm="apart"->cK x=false):=by cases x<;>first|exact SJ rfl e1|exact SJ rfl e2|exact SJ (.inl rfl) e3|exact SJ (.inr rfl) e3|exact SJ rfl e4|exact SJ rfl e5|exact SJ (.inl rfl) e6|exact SJ (.inr rfl) e6|exact⟨rfl,λz=>SJ z (by show("walk" : Str)≠"apart";decide +kernel)⟩|exact⟨rfl,λ_=>rfl⟩
 refine⟨_,rfl,_,rfl,?_⟩;refine A_ (.bl (k.un&&cK x)) (λR hR=>?_) ?_
 ·refine iN ⟨_,rfl,k.un,rfl,?_⟩;cases eu:k.un with
  |false=>rw[eu]at hR;exact cq hR
  |true =>rw[eu,Bool.true_and]at hR;refine cB ⟨_,rfl,rfl,?_⟩;rw[du,Bm];exact hR
 refine⟨c5,λL hL=>⟨_,rfl,rfl,.inr ⟨_,rfl,?_⟩⟩⟩;rw[du];have sL:=ag hL (.lst [.bl (k.un&&cK x),.bl true]);have fin:∀c:Bool,c=(FQ x k w).un->3<=sizeLine/\∀p,upd H2 L (.lst [.bl (k.un&&cK x),.bl true]) p=none->Q (.ref p) (upd (upd H2 L (.lst [.bl (k.un&&cK x),.bl true])) p (.tup [.ref l,mV k.mo,.bl c])):=λc hc=>by refine⟨cM,λp hp=>q _ _ ((z2.trans sL).trans (ag hp _)) ?_⟩;rw[hc,Jh.1];exact m_ hp (ho.same (z2.trans sL))
 by_cases ea:x.nm="apart"
 ·rw[R6 ea];refine⟨L,_,1,_,rfl,rfl,bc.of ae,rfl,fin _ ?_⟩;rw[Jh.1,Jh.2 ea,ea];rfl
 ·rw[R5 ea];refine⟨L,_,0,_,rfl,rfl,bc.of ae,ay (j:=0) rfl,fin _ ?_⟩;rw[Jh.1,R5 ea];cases k.un<;>cases cK x<;>rfl
end My
namespace L2
open PySem PySem.Spec PyProof.Rows
theorem C7{X:Cx}:ft X (.builtin "isinstance") (λxs H Q=>∃a ys,xs=[.ref a,.ty "tuple"]/\aP X.K H a ys/\Q (.bl true) H):=by intro ac s σ H xs us Q I r h;obtain⟨a,ys,rfl,hq,q⟩:=h;obtain⟨u,w',rfl,r1,r2⟩:=vals2 r;cases(show w'=Value.type "tuple" from r2);cases r1;obtain⟨its,_,pl,_⟩:=I.tuple hq;obtain⟨o,h1,h2,_⟩:=pl;exact PySem.W.kia_one PySem.W.kitx_tuple I.kH ⟨o,h1,h2⟩ (show PySem.W.kitOne X.K (.type "tuple") (.type "tuple")=some true from by unfold PySem.W.kitOne;exact SM (by decide)) (λz=>nomatch z) λtk=>⟨.bl true,H,I.tok _,rfl,q⟩
end L2
namespace My
open PySem L2
theorem rb{hw hw':Nat->Nat}{xs:List W1}:∀{i:Nat},(∀j,j<i->hw j=hw' j)->nF hw xs i=nF hw' xs i
 | 0,_=>rfl
 |i+1,h=>by rw[nF,nF,rb (i:=i) λj hj=>h j (Nat.lt_succ_of_lt hj),h i (Nat.lt_succ_self _)]
def GY(ss:Hd)(xs:List W1)(i:Nat):Nat:=(f_ ss xs i).length
theorem AM(o:Od):b_ (o.map dE)<=1:=by
 induction o with
 |nil=>exact Sr _
 |cons e o ih =>rw[S2,b_];exact Nat.max_le.mpr ⟨by simp[dE,D.depth,b_],ih⟩
theorem El(k:Kf):(dF k).depth<=3:=by
 have h1:(dO k.od).depth<=2:=by show(D.tup (k.od.map dE)).depth<=2;rw[D.depth];have:=AM k.od;omega
 have h2:(dM k.mo).depth=0:=by cases k.mo<;>rfl
 show(D.tup [dO k.od,dM k.mo,.bl k.un]).depth<=3;rw[D.depth,b_,b_,b_,b_,h2];have h3:(D.bl k.un).depth=0:=by rw[D.depth];all_goals simp
 rw[h3];omega
theorem Bi{t:Tr}{n i:Nat}(h:Cs t n)(hi:i<=n):∃b,seek t [(i:Int)]=some b:=by
 obtain⟨hh,l,e⟩:=h.2 i hi;refine⟨_,xI (i:=i) (λe' he'=>?_) e rfl⟩;obtain⟨j,hj,rfl⟩:=List.mem_iff_getElem.mp he';rw[Sx]at hj;have hj':j<i:=by omega
 have e2:=h.2 j (by omega);obtain⟨h2,l2,e3⟩:=e2;have hjt:j<t.length:=by omega
 rw[Sd hjt]at e3;rw[List.getElem_take,Ss e3];intro z;injection z with z;omega
def wI(K:S7):Sp:=λvs H Q _=>∃(l p pa ka:Addr)(us:List V)(ss:Hd)(bs:List Addr)(xs:List W1)(i:Nat),vs=[.ref l,.ref p,.ref pa,.ref ka]/\pG K H l us ss/\bW fO H p bs xs/\kP ss xs/\H pa=some (.tup [.int (i:Nat)])/\i<=xs.length/\Ft K H ka (nF (GY ss xs) xs i)/\∀H',aE H H'->Q (.bl true) H'
theorem kP.Pt{ss:Hd}{xs:List W1}(h:kP ss xs):DG 0 (xs.map .one):=⟨by rw[R7];exact h.few,λx hx=>by obtain⟨y,hy,rfl⟩:=Sl.mp hx;obtain⟨i,hi,rfl⟩:=List.mem_iff_getElem.mp hy;exact(h.good.fit i _ (Sd hi)).ok⟩
theorem kP.sm{ss:Hd}{xs:List W1}(h:kP ss xs):∀x∈xs,gc x/\kY x:=λx hx=>by obtain⟨i,hi,rfl⟩:=List.mem_iff_getElem.mp hx;have:=h.good.fit i _ (Sd hi);exact⟨this.ok.sm,this.le⟩
theorem Ow{d:D}:(!cI d d)=false:=by rw[lC];rfl
abbrev eX:Stmt:=top 91
theorem jh:au ["_law_kind_here","_law_pipe_here","_law_place","_law_known","_law_found"] ["_law_kind_here","_law_pipe_here","_law_place","_law_known"] (ao eX):=fs
variable{P:Program}{w:World}{K:S7}{mg:Str->Option Value}{base:Heap}
theorem D6{C CP:Addr}{L:Nat}(B:j5 mg)(B2:pP mg)(mb:mg "bool"=none)(Kb:PySem.W.kitOne K (.type "int") (.type "bool")=some false)(F:FA K mg "_law_is_told" eX)
  (vP:bB (vf P w) P w K mg base (L+8) "facts_at" ["kind","pipe","place"] (Kw K C CP 0)) :
  bB bE P w K mg base (L+9) "_law_is_told" ["_law_kind_here","_law_pipe_here","_law_place","_law_known"] (wI K):=by
 refine F.ok jh λf cdv A outer s H vs Q E hr h=>?_;have hu:=gX hr;have hu1:=jn hr;obtain⟨l,p,pa,ka,us,ss,bs,xs,i,rfl,hK,hI,hP,hpa,hi,hk,q⟩:=h;refine⟨_,(ak (aX (i:=4) jh.nd rfl (SQ rfl) (qP vP hr rfl K0 (aa (pv 0) (aa (pv 1) (aa (pv 2) ah)))))
   (bq (PW.pt (tE (kR (fA (aK C7 rfl B.isinstance PyProof.Rows.boot_isinstance (aa (pv 4) (aa (mP (n:="tuple") rfl B.tuple SV) ah))))) (oN (bu v9 (pv 4) (aY (aa (bx bo rfl B.tuple SV (aa (aG K (pv 3) ai) ah)) (aa (aG K (pv 3) ai) (aa (aG K (pv 3) ai) ah)))))))) cC
   (bq (PW.pt (jX (bu n_ (aG K (pv 4) ai) fh) (j9 (fA (aK (jO (n:="bool")) rfl B.isinstance PyProof.Rows.boot_isinstance (aa (aG K (pv 4) ai) (aa (mP (n:="bool") rfl mb (by decide +kernel)) ah))))))) cC
   (ax (gr (aK (jO (n:="bool")) rfl B.isinstance PyProof.Rows.boot_isinstance (aa (aG K (pv 4) ai) (aa (mP (n:="bool") rfl mb (by decide +kernel)) ah))) (d_ (aK (fZ rfl) rfl B2.all PyProof.Rows.boot_all (aa (bw (N':=["_law_column","_law_down"]) (src:=[none,none]) rfl (ba.jb (by kernel_rfl)) (cu (aG K (pv 4) ai)) (g:=(mM K 2 (cx (bT 0) (cx (bT 1) mK)))) (λcl C s H fp=>(bS rfl (aq (e7 (i:=0)) (aq (e7 (i:=1)) bz)))) (λcl C s H fp=>bg) (te:=(Mj (J_ K "bool") (eN (bp 1) (eN (tC (.ty "bool")) nI)))) (λcl C s H fp=>(aK (jO (n:="bool")) Dh B.isinstance PyProof.Rows.boot_isinstance (aa (fP 1) (aa (mP (n:="bool") Dh mb (by decide +kernel)) ah))))) ah)))))))),?_⟩
 obtain⟨f',E6⟩:=hP.put;have t1:=CI E6;obtain⟨bb,hbb⟩:=Bi t1 hi;have NC:nW 0 H p (xs.map .one):=⟨bs,hI.tup,by rw[R7,hI.len],λj a x e1 e2=>by
  rw[Sw]at e2;cases ex:xs[j]? with
  |none=>rw[ex]at e2;cases e2
  |some y=>rw[ex]at e2;cases e2;exact hI.at_ j a y e1 ex⟩
 obtain⟨lo,hka,hod⟩:=hk;obtain⟨ws,hlo,MX⟩:=hod;refine⟨_,rfl,_,rfl,_,rfl,l,p,pa,us,ss,xs.map .one,[(i:Int)],rfl,hK,hP.good.ss.six,NC,hP.Pt,hpa,by decide,by decide,λx s he=>(by rw[E6]at he;cases he),λhh ff he=>⟨λz=>(by rw[hbb]at z;cases z),λb _=>⟨xs,i,rfl,rfl,hi,hP.sm,λj hj=>?_,λu H1 s1 hu1=>aj ?_⟩⟩⟩
 ·rw[FO E6 (Nat.le_of_lt hj)];exact R4 hP.good.at.six (by decide)
 rw[rb (hw':=GY ss xs) λj hj=>FO E6 (by omega)]at hu1;dsimp only;have hkz:(nF (GY ss xs) xs i).od.length<=1000:=R4 (n0 (λx hx=>(hP.sm x hx).2) i) (by have:=hP.few;omega);revert hka MX hu1 q hkz;generalize nF (GY ss xs) xs i=k;intro q hka MX hu1 hkz;obtain⟨a,t,rfl,ha,ht⟩:=lE hu1;obtain⟨ta,zs,rfl,hS,Oj⟩:=g_ ht;have Hm:=gS Oj;refine bV (λb H'=>b=false/\aE H1 H') (λT hT=>?_) (λH' z=>SJ z.1 (by decide)) (λH2 z2=>?_)
 ·refine uq ⟨_,rfl,a,_,rfl,ha,_,rfl,cq ?_⟩;have IV:=s1 _ _ hka;refine⟨_,rfl,_,rfl,ka,_,0,_,rfl,rfl,aP.of IV,ay (j:=0) rfl,lo,ws,rfl,.inl ⟨bc.of (s1 _ _ hlo),λT1 hT1=>?_⟩⟩;have z1:=ag hT1 (.tup ws);refine⟨_,rfl,ka,_,1,_,rfl,rfl,aP.of (z1 _ _ IV),rfl,_,rfl,ka,_,2,_,rfl,rfl,aP.of (z1 _ _ IV),rfl,cM,λT2 hT2=>?_⟩;have z2:=ag hT2 (.tup [.ref T1,mV k.mo,.bl k.un]);have hd:(A.deeper (PyProof.Rows.envOfC "_law_is_told" (ao eX) s.heap.objs.size f cdv)).units+(dF k).depth<cLine:=by have:=El k;have:=hu;omega
  refine⟨dF k,dF k,hu1.same (z1.trans z2),GW (aP.of ae) (cE (z2 _ _ ae) (MX.same (s1.trans (z1.trans z2)))),hd,_,rfl,?_⟩;exact hT _ _ ⟨Ow,z1.trans z2⟩
 have ha2:=z2.2.eC ha;refine bV (λb H'=>b=false/\H2=H') (λT hT=>?_) (λH' z=>SJ z.1 (by decide)) ?_
 ·refine mm ⟨_,rfl,a,_,1,_,rfl,rfl,ha2,rfl,rfl,_,rfl,?_⟩;cases em:k.mo with
  |none=>exact cq (hT _ _ ⟨rfl,rfl⟩)
  |some m =>rw[em]at ha2;exact cB ⟨_,rfl,a,_,1,_,rfl,rfl,ha2,rfl,_,_,false,rfl,.int m,Kb,_,rfl,hT _ _ ⟨rfl,rfl⟩⟩
 rintro H' ⟨_,rfl⟩;refine iN ⟨_,rfl,a,_,2,_,rfl,rfl,ha2,rfl,_,_,true,rfl,.bl _,md (by decide),_,rfl,cB ?_⟩;refine⟨_,rfl,a,_,0,_,rfl,rfl,ha2,ay (j:=0) rfl,ta,rfl,⟨_,z2.2.eC hS⟩,λD hD=>?_⟩;refine cG (xs:=zs) (λi σ ys H'=>(∃o1 o2,σ=[o1,o2])/\ys=(List.replicate i true).map V.bl/\ys.length=i/\H' D=some (.lst ys)/\aE H2 H') ⟨⟨none,none,rfl⟩,rfl,rfl,ae,ag hD _⟩ ?_ ?_ ?_ ?_ ?_
 ·rintro i σ ys H' _ ⟨_,_,hi,h,_⟩;exact⟨h,S0 hi⟩
 ·rintro i σ ys H' _ ⟨_,_,_,_,sm⟩;exact(z2.2.trans sm).eC hS
 ·rw[Hm];exact R4 hkz (by decide)
 ·rintro i v σ ys H' hv ⟨⟨o1,o2,rfl⟩,rfl,hi,h,sm⟩;obtain⟨e,c,he,rfl,hc⟩:=gO Oj hv;refine⟨c,_,rfl,(z2.2.trans sm).eC hc,rfl,_,_,rfl,aj ⟨_,_,rfl,aj ⟨rfl,?_⟩⟩⟩;refine⟨_,rfl,_,_,true,rfl,.bl _,md (by decide),h,⟨_,_,rfl⟩,?_,?_,ae,a_ hD sm⟩
  ·rw[List.replicate_succ',R9];rfl
  ·rw[R8,hi];rfl
 rintro σ ys H3 ⟨_,rfl,_,h3,sm⟩;refine⟨D,_,rfl,bc.of h3,?_⟩;rw[show(List.replicate zs.length true).all id=true by simp];exact q _ (s1.trans (z2.2.trans sm))
theorem pE{p:Addr}{H H1 H2:Hp}(hp:H p=none)(s:aE H H1)(g:bf p H1 H2):aE H H2:=λb o e=>g.keep b o (aW e hp) (s _ _ e)
theorem oC{K:S7}{H:Hp}{l D:Addr}{us:List V}{ss:Hd}{R:VK}(hK:pG K H l us ss)(hz:ss.length<=6)(hD:H D=none)(k:∀H',aE H H'->gJ H' D ss->R (.ref D) H'):∃W:Nat->Nat->St->List V->Hp->Prop,(∃m,W 0 m [none] [] (upd H D (.lst [])))/\ny (EF K l) (bT 0) A3 (eZ (jj K) (bp 0) (tC (.int 0))) D R W:=by
 have hl:=hK.len;refine dn (xs:=us) (λi σ ys H'=>(∃o1,σ=[o1])/\ys=(ss.take i).map V.str/\ys.length=i/\H' D=some (.lst ys)/\aE H H') ⟨⟨none,rfl⟩,rfl,rfl,ae,ag hD _⟩ ?_ ?_ ?_ ?_ ?_
 ·rintro i σ ys H' _ ⟨_,_,hi,h,_⟩;exact⟨h,S0 hi⟩
 ·rintro i σ ys H' _ ⟨_,_,_,_,sm⟩;exact bc.of (sm _ _ hK.lst)
 ·rw[hl];exact R4 hz (by decide)
 ·rintro i x σ ys H' hx ⟨⟨o1,rfl⟩,rfl,hi,h,sm⟩;obtain⟨b,s',r,rfl,es,hb⟩:=hK.get hx;refine aj ?_;refine⟨_,rfl,b,_,0,_,rfl,rfl,sm.eC hb,ay (j:=0) rfl,h,⟨_,rfl⟩,?_,?_,ae,a_ hD sm⟩
  ·rw[take_one es,R9];rfl
  ·rw[R8,hi];rfl
 rintro σ ys H' ⟨_,rfl,_,h,sm⟩;rw[hl,SR]at h;exact k H' sm h
def x4(K:S7):Sp:=λvs H Q _=>∃(l p:Addr)(us:List V)(ss:Hd)(bs:List Addr)(xs:List W1),vs=[.ref l,.ref p]/\pG K H l us ss/\bW fO H p bs xs/\kP ss xs/\∀H',aE H H'->Q (.bl true) H'
theorem DJ{ss:Hd}{xs:List W1}{i:Nat}(h:xs.length<=i):f_ ss xs (i+1)=f_ ss xs i:=by rw[f_,List.getElem?_eq_none_iff.mpr h]
theorem DK{hw:Nat->Nat}{xs:List W1}{i:Nat}(h:xs.length<=i):nF hw xs (i+1)=nF hw xs i:=by rw[nF,List.getElem?_eq_none_iff.mpr h]
abbrev iV:Stmt:=top 92
theorem cT:au ["_law_kind_here","_law_pipe_here","_law_sorts","_law_known","_law_k"] ["_law_kind_here","_law_pipe_here"] (ao iV):=fs
theorem C_{L:Nat}(B:j5 mg)(F:FA K mg "_law_right" iV)
  (jJ:bB bE P w K mg base (L+9) "_law_is_told" ["_law_kind_here","_law_pipe_here","_law_place","_law_known"] (wI K))
  (qu:bB bE P w K mg base 2 "_law_behind" ["_law_known","_law_worker","_law_wide"] (Gb K))
  (dy:bB bE P w K mg base 1 "_law_sorts_behind" ["_law_sorts","_law_worker"] Ik) :
  bB bE P w K mg base (L+10) "_law_right" ["_law_kind_here","_law_pipe_here"] (x4 K):=by
 refine F.ok cT λf cdv A outer s H vs Q E hr h=>?_;have hu:=gX hr;obtain⟨l,p,us,ss,bs,xs,rfl,hK,hI,hP,q⟩:=h;refine⟨_,(ak (fe (i:=2) (N':=["_law_here"]) (src:=[none]) cT.nd rfl (SQ rfl) rfl rfl (ba.jb (by kernel_rfl)) (c0 (pv 0)) (λcl C s H fp=>(e7 (i:=0))) (λcl C s H fp=>bg) (te:=(eZ (jj K) (bp 0) (tC (.int 0)))) (λcl C s H fp=>(aG K (fP 0) ai)))
   (ak (aX (i:=3) cT.nd rfl (SQ rfl) (aY (aa (bJ ah) (aa fh (aa cC ah)))))
   (ak (fi PassesOwn.never rfl (cV rfl B.range (aa (aU cv (aK aN rfl B.len S5 (aa (pv 1) ah)) ai) ah)) (aL (i:=4) cT.nd rfl (SQ rfl))
    (bq (PW.pt (tE (kR (fA (aM jJ hr (aa (pv 0) (aa (pv 1) (aa (aY (aa (pv 4) ah)) (aa (pv 3) ah))))))) (oN (kR (fA (aM jJ hr (aa (pv 0) (aa (pv 1) (aa (aY (aa (pv 4) ah)) (aa (pv 3) ah)))))))))) cC
     (cb (gN (bu ya (pv 4) (aK aN rfl B.len S5 (aa (pv 1) ah)))
      (ak (aX (i:=3) cT.nd rfl (SQ rfl) (aM qu hr (aa (pv 3) (aa (aG K (pv 1) (pv 4)) (aa (aK aN rfl B.len S5 (aa (pv 2) ah)) ah)))))
       (cb (aX (i:=2) cT.nd rfl (SQ rfl) (aM dy hr (aa (pv 2) (aa (aG K (pv 1) (pv 4)) ah))))))
      dk))))
   (ax cC)))),?_⟩
 have rK:(bs.map V.ref).length=xs.length:=by rw[R7,hI.len]
 have hfew:=hP.few;refine⟨_,rfl,l,rfl,⟨_,bc.of hK.lst⟩,λD hD=>oC hK hP.good.ss.six hD λH1 s1 h1=>aj ?_⟩;dsimp only;refine⟨Sr _,λL0 hL0=>⟨cM,λT0 hT0=>aj ?_⟩⟩;dsimp only;have z0:=ag hL0 (.lst []);have z1:=ag hT0 (.tup [.ref L0,.non,.bl false]);have s2:=s1.trans (z0.trans z1);have hk0:Ft K (upd (upd H1 L0 (.lst [])) T0 (.tup [.ref L0,.non,.bl false])) T0 (nF (GY ss xs) xs 0):=⟨L0,ae,[],z1 _ _ ae,aD.nil⟩;have hs0:=(z0.trans z1) _ _ h1;revert s2 hk0 hs0;generalize upd (upd H1 L0 (.lst [])) T0 (.tup [.ref L0,.non,.bl false])=H2;intro s2 hk0 hs0;refine⟨_,rfl,p,_,rfl,.inr (aP.of (s2 _ _ hI.tup)),_,_,rfl,rfl,_,rfl,(iH (by omega) (by omega)).1,(iH (by omega) (by omega)).2,?_⟩;refine iF (n:=((((bs.map V.ref).length:Nat):Int)+1).toNat) (λi σ H'=>∃(lc ka:Addr)(o4:Option V),σ=[some (.ref l),some (.ref p),some (.ref lc),some (.ref ka),o4]/\gJ H' lc (f_ ss xs i)/\Ft K H' ka (nF (GY ss xs) xs i)/\aE H H') ⟨D,T0,none,rfl,hs0,hk0,s2⟩ ?_ ?_
 ·rintro i σ H' hi ⟨lc,ka,o4,rfl,vh,hka,s'⟩;have hi':i<=xs.length:=by omega
  refine aj ?_;dsimp only;refine bV (λb H3=>b=false/\aE H' H3) (λT hT=>?_) (λH3 z=>SJ z.1 (by decide)) (λH3 z3=>?_)
  ·have one:∀{Ha:Hp}{R:VK},aE H' Ha->(∀Hb,aE Ha Hb->R (.bl true) Hb)->kF (wI K) [] E0 (eN (bp 0) (eN (bp 1) (eN (Jc (eN (bp 4) nI)) (eN (bp 3) nI)))) [some (.ref l),some (.ref p),some (.ref lc),some (.ref ka),some (.int (0+(i:Int)))] Ha R:=λ{Ha R} sa hR=>by refine⟨_,rfl,_,rfl,_,rfl,dH,λu hu'=>?_⟩;have zu:=ag hu' (.tup [.int (0+(i:Int))]);have sA:=s'.trans (sa.trans zu);refine⟨_,rfl,l,p,u,ka,us,ss,bs,xs,i,rfl,hK.same sA,hI.keep (aQ.of sA) (λ_ _ z=>z.keep (aQ.of sA)),hP,by rw[ae,show(0:Int)+(i:Int)=(i:Int) by omega],hi',hka.same (sa.trans zu),λHb sb=>hR Hb (zu.trans sb)⟩
   refine uq (one (aE.refl _) λHb sb=>⟨_,rfl,cq ?_⟩);exact one sb λHc sc=>⟨_,rfl,hT _ _ ⟨rfl,sb.trans sc⟩⟩
  have s3:=s'.trans z3.2;refine⟨_,rfl,_,rfl,p,_,rfl,.inr (aP.of (s3 _ _ hI.tup)),_,_,rfl,rfl,_,rfl,?_⟩;refine fJ (λc=>?_) λc=>bL ?_
  ·have hlt:i<xs.length:=by have:=SI c;omega
   have ex:xs[i]? = some xs[i]:=Sd hlt;have hib:i<bs.length:=by rw[hI.len];exact hlt
   have eb:(bs.map V.ref)[i]? = some (.ref bs[i]):=by rw[Sw,Sd hib];rfl
   have hw:=hI.at_ i _ _ (Sd hib) ex;have hf:=hP.good.fit i _ ex;have hss:=hP.good.at (i:=i);have ev:vi (bs.map V.ref) (0+(i:Int))=some (.ref bs[i]):=by rw[show(0:Int)+(i:Int)=(i:Int) by omega];exact ay (j:=i) eb
   refine⟨_,rfl,_,rfl,_,rfl,p,_,_,_,rfl,rfl,aP.of (s3 _ _ hI.tup),ev,_,rfl,lc,_,rfl,.inl (bc.of (z3.2 _ _ vh)),ka,bs[i],nF (GY ss xs) xs i,xs[i],(f_ ss xs i).length,by rw[R7];rfl,hka.same z3.2,hw.keep (aQ.of s3),hf.ok.sm,R4 (n0 (λx hx=>(hP.sm x hx).2) i) (by omega),R4 hss.six (by decide),λu H4 s4 p5=>aj ?_⟩;dsimp only;have DD:=z3.2.trans s4;refine⟨_,rfl,_,rfl,_,rfl,p,_,_,_,rfl,rfl,aP.of ((s'.trans DD) _ _ hI.tup),ev,lc,bs[i],f_ ss xs i,xs[i],rfl,DD _ _ vh,hw.keep (aQ.of (s'.trans DD)),hf,hss,λw' H5 s5 QF=>aj ?_⟩;refine⟨w',u,_,rfl,?_,?_,(s'.trans DD).trans s5⟩
   ·rw[f_,ex];exact QF
   ·rw[nF,ex];exact p5.same s5
  ·have hge:xs.length<=i:=by have:¬((0:Int)+i<(((bs.map V.ref).length:Nat):Int)):=λz=>c (R6 z);omega
   exact⟨lc,ka,_,rfl,by rw[DJ hge];exact z3.2 _ _ vh,by rw[DK hge];exact hka.same z3.2,s3⟩
 ·rintro σ H' ⟨lc,ka,o4,rfl,_,_,s'⟩;exact q _ s'
def xJ(K:S7):Sp:=λvs H Q _=>∃(a:Addr)(ns:List Int),vs=[.ref a]/\bc K H a (ns.map V.int)/\ns.length<=63/\∀H',Q (.bl true) H'
theorem FH{K:S7}{H H':Hp}{a:Addr}{xs:List V}(s:aE H H')(h:bc K H a xs):bc K H' a xs:=by
 rcases h with(h|⟨o,h⟩)|h
 ·exact .inl (.inl (s _ _ h))
 ·exact .inl (.inr ⟨o,s _ _ h⟩)
 ·exact .inr h
theorem JP{K:S7}{H:Hp}{l:Addr}{us:List V}{ds:List D}(h:vp K H l us ds):eD (ds.map yt):=by
 refine⟨by rw[R7];exact h.pos,by rw[R7];exact R4 h.few (by decide),λs hs=>?_⟩;obtain⟨d,hd,rfl⟩:=Sl.mp hs;rcases(gV (h.mem d hd)).2.1 with z|z
 ·exact .inl z
 ·exact .inr (.inl z)
theorem CO{ds:List D}(h:∀d∈ds,d∈Jm):(D.lst ds).depth<=4:=by
 rw[D.depth];have:b_ ds<=3:=by
  induction ds with
  |nil=>exact Sr _
  |cons d ds ih =>rw[b_];exact Nat.max_le.mpr ⟨(gV (h d (by simp))).2.2.1,ih λd hd=>h d (Sg _ hd)⟩
 omega
abbrev kM:Stmt:=top 93
theorem oz:au ["_law_script","_law_kind_here","_law_same_kind","_law_k","_law_pipe_here"] ["_law_script"] (ao kM):=fs
section
variable{P:Program}{w:World}{K:S7}{mg:Str->Option Value}{base:Heap}
theorem GL{f:Addr}{fd:FuncData}{L:Nat}(B:j5 mg)(B2:pP mg)(F:Ae K "law" "law" kM f fd)
  (oZ:bB bE P w K mg base L "_law_pot" ["_law_script","_law_k"] (Fx K))
  (uW:bB bE P w K mg base L "_law_kind" ["_law_pot_here"] (xu K))
  (tx:bB bE P w K mg base L "_law_pipe" ["_law_pot_here","_law_sorts"] xt)
  (rJ:bB bE P w K mg base L "_law_right" ["_law_kind_here","_law_pipe_here"] (x4 K)) :
  e8 P w K mg base bE (L+1) f fd ["_law_script"] (xJ K):=by
 refine F.ok oz (λvs H Q E h=>?_) (λcdv A outer s H vs Q E hr h=>?_)
 ·obtain⟨a,ns,rfl,_⟩:=h;rfl
 have hu:=gX hr;obtain⟨a,ns,rfl,hS,h63,q⟩:=h;refine⟨_,(ak (aX (i:=1) oz.nd rfl (SQ rfl) (aM uW hr (aa (aM oZ hr (aa (pv 0) (aa ai ah))) ah)))
   (ak (aX (i:=2) oz.nd rfl (SQ rfl) (bx lT rfl B.list PyProof.Rows.boot_list (aa (pv 1) ah)))
   (ak (fi PassesOwn.never rfl (mR rfl B.range (aa ai (aa (aU cv ai (aK (qQ rfl) rfl B2.min PyProof.Rows.boot_min (aa ai (aa (aK (qY rfl) rfl B.max PyProof.Rows.boot_max (aa ai (aa (aU ck (aK aN rfl B.len S5 (aa (pv 0) ah)) ai) ah))) ah)))) ah))) (aL (i:=3) oz.nd rfl (SQ rfl))
    (ak (aX (i:=4) oz.nd rfl (SQ rfl) (aM tx hr (aa (aM oZ hr (aa (pv 0) (aa (pv 3) ah))) (aa (bw (N':=["_law_here"]) (src:=[none]) rfl (ba.jb (by kernel_rfl)) (c0 (pv 1)) (λcl C s H fp=>(e7 (i:=0))) (λcl C s H fp=>bg) (te:=(eZ (jj K) (bp 0) (tC (.int 0)))) (λcl C s H fp=>(aG K (fP 0) ai))) ah))))
     (cb (gN (PW.pt (tE (kR (fA (aM rJ hr (aa (pv 1) (aa (pv 4) ah))))) (oN (bu v9 (pv 1) (pv 2)))))
      (ax cC)
      dk))))
   (ax cC)))),?_⟩
 have hl:(ns.map V.int).length=ns.length:=R7 _;refine⟨_,rfl,a,ns,0,rfl,hS,by decide,by decide,λp H1 hp s1 hP=>?_⟩;refine⟨p,rfl,hP,λl us ds H2 g2 OI=>aj ?_⟩;dsimp only;have s2:=pE hp s1 g2;refine⟨_,rfl,l,_,rfl,.inl (bc.of OI.lst),λm hm=>aj ?_⟩;dsimp only;have s3:=s2.trans (ag hm (.lst us));have LY:=OI.same (ag hm (.lst us));have M1:upd H2 m (.lst us) m=some (.lst us):=ae;revert s3 LY M1;generalize upd H2 m (.lst us)=H3;intro s3 LY M1;have hdd:(A.deeper (PyProof.Rows.envOfC "law" (ao kM) s.heap.objs.size f cdv)).units+(D.lst ds).depth<cLine:=by have:=CO LY.mem;have:=hu;omega
 refine⟨_,rfl,a,_,rfl,.inl (FH s3 hS),_,_,rfl,rfl,_,_,rfl,_,_,rfl,_,_,rfl,rfl,2,_,rfl,?_,?_⟩
 ·have e:((2:Int) ^ 62)=4611686018427387904:=by decide
  rw[e];refine⟨by decide,by decide,?_,?_⟩
  ·split<;>split<;>omega
  ·split<;>split<;>omega
 refine iF (λi σ H'=>(∃o3 o4,σ=[some (.ref a),some (.ref l),some (.ref m),o3,o4])/\aE H3 H') ⟨⟨none,none,rfl⟩,aE.refl _⟩ ?_ ?_
 ·rintro i σ Hi hi ⟨⟨o3,o4,rfl⟩,si⟩;have N8:(i:Int)<=20:=by revert hi;split<;>split<;>omega
  refine aj ?_;dsimp only;have Oz:=LY.same si;refine⟨_,rfl,_,rfl,a,ns,_,rfl,FH (s3.trans si) hS,by omega,by omega,λp4 H4 Rt s4 P8=>?_⟩;have NJ:=Oz.same s4;have hss:=JP NJ;refine⟨_,rfl,l,rfl,⟨_,bc.of NJ.lst⟩,λD hD=>oC NJ.kd hss.six hD λH5 s5 h5=>?_⟩;have Qy:ez H5 p4:=(bf.same P8 s5).df;refine⟨p4,D,_,rfl,Qy,h5,hss,λt bs xs H6 g6 Rj hok=>aj ?_⟩;dsimp only;have s6:=pE Rt (s4.trans s5) g6;have N_:=Oz.same s6;have RI:=s6 _ _ (si _ _ M1);refine uq ⟨_,rfl,_,rfl,l,t,us,_,bs,xs,rfl,N_.kd,Rj,hok,λH7 s7=>⟨_,rfl,cq ?_⟩⟩;have Nc:=N_.same s7;refine⟨_,rfl,_,rfl,.lst ds,.lst ds,kg Nc.lst Nc.dat,kg (s7 _ _ RI) Nc.dat,hdd,_,rfl,?_⟩;rw[Ow];exact cq (bL ⟨⟨_,_,rfl⟩,si.trans (s6.trans s7)⟩)
 ·rintro σ H' ⟨⟨o3,o4,rfl⟩,_⟩;exact q _
end
def xZ(K:S7)(C PE:Addr):Bool:=(match PySem.W.clsIn K C with|some cd=>cd.mro == .ref C :: .ref PE::rq&&cd.hasDict|none=>false)&&PySem.W.mroIn K C (.type "object")==some true &&
 PySem.W.findIn K (.ref C) "__setattr__"==some (some (.builtin "object.__setattr__"))&&PySem.W.findIn K (.ref C) "__getattribute__"==some (some (.builtin "BaseException.__getattribute__"))&&PySem.W.findIn K (.ref C) "__getattr__"==some none&&PySem.W.mroIn K C (.type "BaseException")==some true&&PySem.W.findIn K (.ref C) "__class__"==some (some (.builtin "object.__class__"))
theorem xU{K:S7}{C PE:Addr}(h:xZ K C PE=true)(cg:PySem.W.specialIn K (.builtin "object.__class__") "__get__"=some (some (.builtin "getset_descriptor.__get__")))(ct:PySem.W.takesIn K (.builtin "object.__class__")=some true):tM K C:=by
 unfold xZ at h;simp only[SH,beq_iff_eq]at h;obtain⟨⟨⟨⟨⟨⟨h1,h2⟩,h3⟩,h4⟩,h6⟩,h7⟩,h5⟩:=h;split at h1
 ·rename_i cd e;simp only[SH,beq_iff_eq]at h1;exact⟨⟨cd,PE,e,h1.1,h1.2⟩,h2,h3,h4,h6,h7,h5,cg,ct⟩
 ·cases h1
def iE(K:S7)(d:Addr)(key:Str)(f:Addr):Bool:=match K.lookup d with
 |some o=>o.cls == .type "dict"&&o.dict==none&&o.slots.isEmpty&&(match o.data with
  | .dict es _=>es.all (λe=>isExactStrKey e.key)&&(match es.findIdx? (λe=>e.key.isStr key)with
   |some i=>(match es[i]? with
    |some e=>(match e.key,e.val with
     | .str k _,.ref g=>k==key&&g==f
     |_,_=>false)
    |none=>false)
   |none=>false)
  |_=>false)
 |none=>false
theorem bU{K:S7}{d:Addr}{key:Str}{f:Addr}(h:iE K d key f=true):cy K d key f:=by
 unfold iE at h;split at h
 ·rename_i o e;obtain⟨c,di,dt,sl⟩:=o;simp only[SH,beq_iff_eq]at h;obtain⟨⟨⟨h1,h2⟩,h3⟩,h4⟩:=h;subst h1 h2;have h3':sl = #[]:=by simpa using h3
  subst h3';split at h4
  ·rename_i es ep;simp only[SH]at h4;obtain⟨h5,h6⟩:=h4;split at h6
   ·rename_i i ei;split at h6
    ·rename_i en Ri;obtain⟨x,k,v⟩:=en;split at h6
     ·rename_i k' t g e1 e2;have e1':k=.str k' t:=e1;have e2':v=.ref g:=e2;subst e1' e2';simp only[SH,beq_iff_eq]at h6;obtain⟨h7,h8⟩:=h6;subst h7 h8;exact⟨es,ep,i,x,t,e,h5,ei,Ri⟩
     ·cases h6
    ·cases h6
   ·cases h6
  ·cases h4
 ·cases h
def vg(K:S7)(d:Addr)(key:Str):Bool:=!(d==sysModules)&&match K.lookup d with
 |some o=>o.cls == .type "dict"&&o.dict==none&&o.slots.isEmpty&&(match o.data with
  | .dict es _=>es.all (λe=>isExactStrKey e.key)&&(es.findIdx? (λe=>e.key.isStr key)).isNone
  |_=>false)
 |none=>false
theorem gM{K:S7}{d:Addr}{key:Str}(h:vg K d key=true):iP K d key:=by
 unfold vg at h;simp only[SH,Bool.not_eq_true']at h;obtain⟨h0,h⟩:=h;refine⟨h0,?_⟩;split at h
 ·rename_i o e;obtain⟨c,di,dt,sl⟩:=o;simp only[SH,beq_iff_eq]at h;obtain⟨⟨⟨h1,h2⟩,h3⟩,h4⟩:=h;subst h1 h2;have h3':sl = #[]:=by simpa using h3
  subst h3';split at h4
  ·rename_i es ep;simp only[SH]at h4;exact⟨es,ep,e,h4.1,Option.isNone_iff_eq_none.mp h4.2⟩
  ·cases h4
 ·cases h
theorem HK{C:Addr}{L:Nat}(F:FA K mg "go_through" fR):bB (vf P w) P w K mg base (L+1) "go_through" ["pipe","begun","prefix","found"] (xT C 0) :=
 F.Iq bQ λ_ _ _ _ _ _ _ _ _ _ h=>SS h
theorem Fe{L:Nat}(F:FA K mg "follow" l6):bB bE P w K mg base (L+1) "follow" ["pipe","begun","prefix","heads","found"] K_ :=
 F.ok cU λ_ _ _ _ _ _ _ _ _ _ h=>SS h
theorem c6{K:S7}{x:Str}{st:Stmt}{f:Addr}{oc:Value}{od an:Option Addr}{osl:Array (Option Value)}{kV doc pm cdv ct:Value}(a:PySem.W.nsIn K mainGlobals x=some (some (.ref f)):=by k_is)
  (l:K.lookup f=some ⟨oc,od,.func (PySem.W.fnOf x x (dZ st) (cO st) (ao st) .none kV doc pm an cdv ct),osl⟩:=by k_is) (c:PySem.W.codeIn K cdv x=true:=by k_is) (k:PySem.W.keepIn K (.ref f)=true:=by k_is):FK K x st f:=JF a l c k
theorem all_mk{l:PySem.W.OpenLaw}{w:World}{K:S7}{h:Heap}{mg:Str->Option Value}{fa:Addr}(X:K.In h)(G:h.Ns mainGlobals mg)(hfa:mg "law"=some (.ref fa))
  {CF CP PE aC aS aT aB aO aF aA aZ:Addr} {P1 Ro PY PH:Option Addr} {tT tW OC tb2 OQ to2 to3 Ot Oy:Tok} {nB nO nA n1:Nat} {QR PN Qk Qu:Array (Option Value)}
  {yB:Addr} {Kc KH:Option Addr} {KG:Array (Option Value)} {J9 KZ K5 Jy Ge Km:Value}
  {oF vn uD yT eU eK kE fb jD kC wC p9 nN tF m9 ni pe m8 m4 m5 nz m7 vc BL jq iK kL eV jH jy tS qd qg vE qe z6 ow sE AZ zY qf v8 jB Es ix fL kJ jV gw jd jY lH pk CJ ub zE wt sx wH pC rC rF uz qa pU sr kr uP sf qA pB sP:Addr}
  (a0:FK K "_law_cell_at" BK oF:=by exact My.c6)
  (a1:FK K "_law_pot" Ih vn:=by exact My.c6)
  (a2:FK K "_law_draw" C8 uD:=by exact My.c6)
  (a3:FK K "sort_of" mw yT:=by exact My.c6)
  (a4:FK K "no_columns" iX eU:=by exact My.c6)
  (a5:FK K "one_column" i8 eK:=by exact My.c6)
  (a6:FK K "two_columns" iu kE:=by exact My.c6)
  (a7:FK K "listed_columns" fg fb:=by exact My.c6)
  (a8:FK K "sort_columns" gb jD:=by exact My.c6)
  (a9:FK K "sum_columns" ib kC:=by exact My.c6)
  (a10:FK K "is_there" k_ wC:=by exact My.c6)
  (a11:FK K "columns_fit" hZ p9:=by exact My.c6)
  (a12:FK K "are_same_sort" fG nN:=by exact My.c6)
  (a13:FK K "cells_fit" jK tF:=by exact My.c6)
  (a14:FK K "keep_fits" ju m9:=by exact My.c6)
  (a15:FK K "same_fits" jr ni:=by exact My.c6)
  (a16:FK K "sum_fits" kW pe:=by exact My.c6)
  (a17:FK K "meet_fits" jE m8:=by exact My.c6)
  (a18:FK K "both_fits" jP m4:=by exact My.c6)
  (a19:FK K "turn_fits" jt m5:=by exact My.c6)
  (a20:FK K "walk_fits" jZ nz:=by exact My.c6)
  (a21:FK K "must_fits" jG m7:=by exact My.c6)
  (a22:FK K "sorts_fit" j0 vc:=by exact My.c6)
  (a23:FK K "picked" oB BL:=by exact My.c6)
  (a24:FK K "head_of_walk" gB jq:=by exact My.c6)
  (a25:FK K "head_of_number" fj iK:=by exact My.c6)
  (a26:FK K "head_of_cut" ic kL:=by exact My.c6)
  (a27:FK K "head_of_tallied" eR eV:=by exact My.c6)
  (a28:FK K "head_of_meet" gD jH:=by exact My.c6)
  (a29:FK K "head_of_must" gj jy:=by exact My.c6)
  (a30:FK K "head_told" jw tS:=by exact My.c6)
  (a31:FK K "branches_of" gZ qd:=by exact My.c6)
  (a32:FK K "name_passed" ik qg:=by exact My.c6)
  (a33:FK K "rows_fit" lb vE:=by exact My.c6)
  (a34:FK K "makes_loose" ip qe:=by exact My.c6)
  (a35:FK K "why_not" mO z6:=by exact My.c6)
  (a36:FK K "known_behind" gF ow:=by exact My.c6)
  (a37:FK K "go_through" fR sE:=by exact My.c6)
  (a38:FK K "survey" pA AZ:=by exact My.c6)
  (a39:FK K "look_up" j8 zY:=by exact My.c6)
  (a40:FK K "order_ahead" iy qf:=by exact My.c6)
  (a41:FK K "order_in" kO v8:=by exact My.c6)
  (a42:FK K "with_other_columns" dc jB:=by exact My.c6)
  (a43:FK K "least" rX Es:=by exact My.c6)
  (a44:FK K "behind_test" ir ix:=by exact My.c6)
  (a45:FK K "behind_change" fK fL:=by exact My.c6)
  (a46:FK K "behind_sort" ia kJ:=by exact My.c6)
  (a47:FK K "behind_apart" gx jV:=by exact My.c6)
  (a48:FK K "behind_tally" gz gw:=by exact My.c6)
  (a49:FK K "behind_number" fH jd:=by exact My.c6)
  (a50:FK K "behind_first" gf jY:=by exact My.c6)
  (a51:FK K "behind_cut" i5 lH:=by exact My.c6)
  (a52:FK K "facts_behind" gn pk:=by exact My.c6)
  (a53:FK K "follow" l6 CJ:=by exact My.c6)
  (a54:FK K "all_facts" jx ub:=by exact My.c6)
  (a55:FK K "head_of" mU zE:=by exact My.c6)
  (a56:FK K "facts_at" kX wt:=by exact My.c6)
  (a57:FK K "_law_cells" iU sx:=by exact My.c6)
  (a58:FK K "_law_set" ll wH:=by exact My.c6)
  (a59:FK K "_law_columns" gv pC:=by exact My.c6)
  (a60:FK K "_law_pairs" iZ rC:=by exact My.c6)
  (a61:FK K "_law_plain" iY rF:=by exact My.c6)
  (a62:FK K "_law_kind" jI uz:=by exact My.c6)
  (a63:FK K "_law_unlike" iq qa:=by exact My.c6)
  (a64:FK K "_law_one_row" gm pU:=by exact My.c6)
  (Rq:FK K "_law_other" i4 sr:=by exact My.c6)
  (QO:FK K "_law_sorts_behind" dz kr:=by exact My.c6)
  (Qz:FK K "_law_pipe" jv uP:=by exact My.c6)
  (PV:FK K "_law_shown" i_ sf:=by exact My.c6)
  (Pf:FK K "_law_behind" ig qA:=by exact My.c6)
  (Rv:FK K "_law_is_told" eX pB:=by exact My.c6)
  (Rz:FK K "_law_right" iV sP:=by exact My.c6)
  (Lh:PySem.W.nsIn K mainGlobals "len"=some none:=by k_is)
  (Kl:PySem.W.nsIn K mainGlobals "max"=some none:=by k_is)
  (La:PySem.W.nsIn K mainGlobals "abs"=some none:=by k_is)
  (Cv:PySem.W.nsIn K mainGlobals "divmod"=some none:=by k_is)
  (Fu:PySem.W.nsIn K mainGlobals "range"=some none:=by k_is)
  (Ec:PySem.W.nsIn K mainGlobals "tuple"=some none:=by k_is)
  (G_:PySem.W.nsIn K mainGlobals "list"=some none:=by k_is)
  (sJ:PySem.W.nsIn K mainGlobals "isinstance"=some none:=by k_is)
  (JQ:PySem.W.nsIn K mainGlobals "int"=some none:=by k_is)
  (Ka:PySem.W.nsIn K mainGlobals "min"=some none:=by k_is)
  (JC:PySem.W.nsIn K mainGlobals "all"=some none:=by k_is)
  (C6:PySem.W.nsIn K mainGlobals "sorted"=some none:=by k_is)
  (Kz:PySem.W.nsIn K mainGlobals "set"=some none:=by k_is)
  (Ly:PySem.W.nsIn K mainGlobals "str"=some none:=by k_is)
  (J7:PySem.W.nsIn K mainGlobals "any"=some none:=by k_is)
  (KO:PySem.W.nsIn K mainGlobals "zip"=some none:=by k_is)
  (nh:PySem.W.nsIn K mainGlobals "enumerate"=some none:=by k_is)
  (II:PySem.W.nsIn K mainGlobals "bool"=some none:=by k_is)
  {Cu:Addr} {GJ Au:Option Addr} {IH:Array (Option Value)} {IX A9 Ca Bo xi Aq:Value}
  (Jz:PySem.W.nsIn K mainGlobals "law"=some (some (.ref Cu)):=by k_is) (JV:K.lookup Cu=some ⟨IX,GJ,.func (PySem.W.fnOf "law" "law" (dZ kM) (cO kM) (ao kM) .none A9 Ca Bo Au xi Aq),IH⟩:=by k_is) (Kh:PySem.W.codeIn K xi "law"=true:=by k_is) (JD:PySem.W.keepIn K (.ref Cu)=true:=by k_is)
  (Rc:PySem.W.nsIn K mainGlobals "NoPipe"=some (some (.ref CF)):=by k_is)
  (Qb:PySem.W.nsIn K mainGlobals "NoPlace"=some (some (.ref CP)):=by k_is)
  (RL:PySem.W.nsIn K mainGlobals "PipeError"=some (some (.ref PE)):=by k_is)
  (zC:PySem.W.nsIn K mainGlobals "COLUMNS_OF"=some (some (.ref aC)):=by k_is)
  (zS:PySem.W.nsIn K mainGlobals "SORTS_FIT"=some (some (.ref aS)):=by k_is)
  (zT:PySem.W.nsIn K mainGlobals "HEADS_TOLD"=some (some (.ref aT)):=by k_is)
  (zF:PySem.W.nsIn K mainGlobals "FACTS_BEHIND"=some (some (.ref aF)):=by k_is)
  (zA:PySem.W.nsIn K mainGlobals "AT_FIRST"=some (some (.ref aA)):=by k_is)
  (lA:K.lookup aA=some ⟨.type "tuple",PY,.seq #[.ref aZ,.none,.bool false] nA,Qk⟩:=by k_is)
  (lZ:K.lookup aZ=some ⟨.type "tuple",PH,.seq #[] n1,Qu⟩:=by k_is)
  (zB:PySem.W.nsIn K mainGlobals "BRANCHED"=some (some (.ref aB)):=by k_is)
  (zO:PySem.W.nsIn K mainGlobals "ONE_ROW"=some (some (.ref aO)):=by k_is)
  (PQ:PySem.W.nsIn K mainGlobals "TALLY"=some (some (.str "t" tT)):=by k_is)
  (zW:PySem.W.nsIn K mainGlobals "WIDEST_ROW"=some (some (.int 6 tW)):=by k_is)
  (lB:K.lookup aB=some ⟨.type "tuple",P1,.seq #[.str "both" OC,.str "meet" tb2] nB,QR⟩:=by k_is)
  (lO:K.lookup aO=some ⟨.type "tuple",Ro,.seq #[.str "keep" OQ,.str "same" to2,.str "cut" to3,.str "turn" Ot,.str "must" Oy] nO,PN⟩:=by k_is)
  (OW:PySem.W.findIn K (.ref CF) "__init__"=some (some (.ref yB)):=by k_is)
  (Mc:K.lookup yB=some ⟨J9,Kc,.func (PySem.W.fnOf "__init__" "NoPipe.__init__" (dZ mX) (cO mX) (ao mX) .none KZ K5 Jy KH Ge Km),KG⟩:=by k_is)
  (Mw:PySem.W.codeIn K Ge "NoPipe.__init__"=true:=by k_is)
  (Ms:PySem.W.keepIn K (.ref yB)=true:=by k_is)
  (Pa:PySem.W.keepIn K (.ref CF)=true:=by k_is)
  (Pc:PySem.W.isFn K (.ref yB)=true:=by k_is)
  (Qd:PySem.W.findIn K (.ref CF) "place"=some none:=by k_is)
  (Pp:PySem.W.findIn K (.ref CF) "why"=some none:=by k_is)
  (cg:PySem.W.specialIn K (.builtin "object.__class__") "__get__"=some (some (.builtin "getset_descriptor.__get__")):=by k_is)
  (ct:PySem.W.takesIn K (.builtin "object.__class__")=some true:=by k_is)
  (x0:xZ K CF PE=true:=by kernel_rfl)
  (e0:iQ K CF rq "ValueError.__new__" (some (.ref yB))=true:=by kernel_rfl)
  (x1:xZ K CP PE=true:=by kernel_rfl)
  (e1:iQ K CP rq "ValueError.__new__" none=true:=by kernel_rfl)
  (PX:PySem.W.kitOne K (.type "int") (.type "bool")=some false:=by kernel_rfl)
  (NX:PySem.W.kitOne K (.type "int") (.type "str")=some false:=by kernel_rfl)
  (HD:iE K aC "keep" eK=true:=by kernel_rfl)
  (Io:iE K aC "same" kE=true:=by kernel_rfl)
  (Kr:iE K aC "cut" fb=true:=by kernel_rfl)
  (Hj:iE K aC "turn" eK=true:=by kernel_rfl)
  (Gn:iE K aC "must" eK=true:=by kernel_rfl)
  (Hs:iE K aC "walk" eK=true:=by kernel_rfl)
  (Il:iE K aC "sort" jD=true:=by kernel_rfl)
  (D8:iE K aC "apart" eU=true:=by kernel_rfl)
  (EN:iE K aC "count" fb=true:=by kernel_rfl)
  (JR:iE K aC "sum" kC=true:=by kernel_rfl)
  (Cd:iE K aC "number" eU=true:=by kernel_rfl)
  (EA:iE K aC "first" eU=true:=by kernel_rfl)
  (Ht:iE K aC "both" eU=true:=by kernel_rfl)
  (GR:iE K aS "keep" m9=true:=by kernel_rfl)
  (s_same:iE K aS "same" ni=true:=by kernel_rfl)
  (HG:iE K aS "turn" m5=true:=by kernel_rfl)
  (IE:iE K aS "must" m7=true:=by kernel_rfl)
  (GG:iE K aS "walk" nz=true:=by kernel_rfl)
  (Ju:iE K aS "sum" pe=true:=by kernel_rfl)
  (HQ:iE K aS "both" m4=true:=by kernel_rfl)
  (Gw:iE K aS "meet" m8=true:=by kernel_rfl)
  (IM:vg K aS "cut"=true:=by kernel_rfl)
  (En:vg K aS "sort"=true:=by kernel_rfl)
  (AJ:vg K aS "apart"=true:=by kernel_rfl)
  (A8:vg K aS "count"=true:=by kernel_rfl)
  (y8:vg K aS "number"=true:=by kernel_rfl)
  (Ah:vg K aS "first"=true:=by kernel_rfl)
  (Gu:iE K aT "cut" kL=true:=by kernel_rfl)
  (Ek:iE K aT "must" jy=true:=by kernel_rfl)
  (ET:iE K aT "walk" jq=true:=by kernel_rfl)
  (A1:iE K aT "count" eV=true:=by kernel_rfl)
  (GA:iE K aT "sum" eV=true:=by kernel_rfl)
  (yE:iE K aT "number" iK=true:=by kernel_rfl)
  (DY:iE K aT "meet" jH=true:=by kernel_rfl)
  (DT:vg K aT "keep"=true:=by kernel_rfl)
  (Et:vg K aT "same"=true:=by kernel_rfl)
  (Ff:vg K aT "turn"=true:=by kernel_rfl)
  (D_:vg K aT "sort"=true:=by kernel_rfl)
  (Bd:vg K aT "apart"=true:=by kernel_rfl)
  (De:vg K aT "first"=true:=by kernel_rfl)
  (Fh:vg K aT "both"=true:=by kernel_rfl)
  (Ic:iE K aF "keep" ix=true:=by kernel_rfl)
  (Gz:iE K aF "same" ix=true:=by kernel_rfl)
  (K2:iE K aF "cut" lH=true:=by kernel_rfl)
  (HL:iE K aF "turn" fL=true:=by kernel_rfl)
  (HX:iE K aF "must" fL=true:=by kernel_rfl)
  (GD:iE K aF "sort" kJ=true:=by kernel_rfl)
  (D4:iE K aF "apart" jV=true:=by kernel_rfl)
  (Fp:iE K aF "count" gw=true:=by kernel_rfl)
  (Kv:iE K aF "sum" gw=true:=by kernel_rfl)
  (BV:iE K aF "number" jd=true:=by kernel_rfl)
  (Fj:iE K aF "first" jY=true:=by kernel_rfl)
  (EG:vg K aF "walk"=true:=by kernel_rfl) :
  ∃fd:FuncData,(∀(s:Shared)(v:Value),BindsTo s fd ⟨[v],[]⟩ [("_law_script",v)])/\∀base:Heap,K.In base->base.Ns mainGlobals mg->e8 l.prog w K mg base bE 11 fa fd ["_law_script"] (xJ K):=by
 have F:=λ{x:Str} {st:Stmt} {f:Addr} (a:FK K x st f)=>a.fa X G;have h:=λ{x:Str} {st:Stmt} {f:Addr} (a:FK K x st f)=>a.h X G;cases hfa.symm.trans (S6 X G Jz);have Fl:=vq (st:=kM) JV Kh JD;have B:j5 mg:=⟨SU X G Lh,SU X G Kl,SU X G La,SU X G Cv,SU X G Fu,SU X G Ec,SU X G G_,SU X G sJ⟩;have B2:pP mg:=⟨SU X G JQ,SU X G Ka,SU X G JC,SU X G C6,SU X G Kz⟩;have B3:Bu mg:=⟨SU X G Ly,SU X G J7,SU X G KO,SU X G nh⟩;have mE:=SU X G nh;have mT:=S6 X G PQ;have mW:=S6 X G zW;have mC:=S6 X G zC;have QZ:=S6 X G zS;have mH:=S6 X G zT;have Cb:DW K mg "BRANCHED" aB KY:=⟨S6 X G zB,λH=>.inr ⟨_,_,_,lB,rfl,rfl,(by show 2<=sizeLine;decide),.cons ⟨OC,rfl⟩ (.cons ⟨tb2,rfl⟩ .nil)⟩⟩;have Co:DW K mg "ONE_ROW" aO Bx:=⟨S6 X G zO,λH=>.inr ⟨_,_,_,lO,rfl,rfl,(by show 5<=sizeLine;decide),.cons ⟨OQ,rfl⟩ (.cons ⟨to2,rfl⟩ (.cons ⟨to3,rfl⟩ (.cons ⟨Ot,rfl⟩ (.cons ⟨Oy,rfl⟩ .nil))))⟩⟩;have Cf:J6 K mg CF yB:=⟨xU x0 cg ct,Qd,Pp,e0,Pa,Pc,S6 X G Rc⟩;have Cp:Kp K mg CP:=⟨xU x1 cg ct,e1,S6 X G Qb⟩;have mF:=S6 X G zF;have mA:=S6 X G zA;have mb:=SU X G II;have cA:Ef K aA aZ:=⟨λH=>.inr ⟨_,_,_,lA,rfl,rfl,(by show 3<=sizeLine;decide),.cons rfl (.cons rfl (.cons rfl .nil))⟩,λH=>.inr ⟨_,_,_,lZ,rfl,rfl,(by show 0<=sizeLine;decide),.nil⟩⟩;have K3:=vq (st:=mX) Mc Mw Ms;have MM:=K3.binds (ps:=["self","place","why"]) (by intro _ _ _ _ _ _;refine L2.Em ?_;intro _ _ _;rfl);refine⟨PySem.W.fnOf "law" "law" (dZ kM) (cO kM) (ao kM) .none A9 Ca Bo Au xi Aq,λs v=>.of_eq rfl,λbase _ _=>?_⟩;have g0:=DI (P:=l.prog) (w:=w) (base:=base) B (F a0);have g1:=IT B (F a1) g0.m;have g2:=DE (P:=l.prog) (w:=w) (base:=base) B (F a2);have g3:=zV (P:=l.prog) (w:=w) (base:=base) B B3 NX (F a3);have g4:=z7 (P:=l.prog) (w:=w) (base:=base) (F a4);have g5:=yN (P:=l.prog) (w:=w) (base:=base) (F a5);have g6:=wo (P:=l.prog) (w:=w) (base:=base) (F a6);have g7:=uj (P:=l.prog) (w:=w) (base:=base) (F a7);have g8:=tG (P:=l.prog) (w:=w) (base:=base) B (F a8);have g9:=wW (P:=l.prog) (w:=w) (base:=base) (F a9);have QK:=BC (P:=l.prog) (w:=w) (base:=base) B (F a10);have QS:=zR (aR:=aC) (bU HD) (bU Io) (bU Kr) (bU Hj) (bU Gn) (bU Hs) (bU Il) (bU D8) (bU EN) (bU JR) (bU Cd) (bU EA) (g4.at (h a4)) (g5.at (h a5)) (g6.at (h a6)) (g7.at (h a7)) (g8.at (h a8)) (g9.at (h a9));have P6:=λ(n:Nat)=>Hu (n:=n) QS (bU Ht) (g4.at (h a4));have Q3:=λ(n:Nat)=>zx (n:=n) B B2 mC (P6 n) (F a11) QK.m;have OE:=Bw (P:=l.prog) (w:=w) (base:=base) mT (F a12);have IS:=uN B2 mT (F a13) g3.m;have Pg:=λ(n:Nat)=>uS (n:=n) (P:=l.prog) (w:=w) (base:=base) mT (F a14);have Qp:=λ(n:Nat)=>va (n:=n) (F a15) OE.m;have QU:=λ(n:Nat)=>xg (n:=n) (P:=l.prog) (w:=w) (base:=base) (F a16);have Rh:=λ(n:Nat)=>tO (n:=n) (F a17) OE.m;have QT:=λ(n:Nat)=>uO (n:=n) (P:=l.prog) (w:=w) (base:=base) (F a18);have Pq:=λ(n:Nat)=>s_ (n:=n) (F a19) IS.m;have QV:=λ(n:Nat)=>u0 (n:=n) (F a20) IS.m;have Qt:=λ(n:Nat)=>ux (n:=n) B (F a21) g3.m IS.m;have P_:=λ(n:Nat)=>yX (n:=n) (aS:=aS) (bU GR) (bU s_same) (bU HG) (bU IE) (bU GG) (bU Ju) (bU HQ) (bU Gw) (gM IM) (gM En) (gM AJ) (gM A8) (gM y8) (gM Ah) ((Pg n).at (h a14)) ((Qp n).at (h a15)) ((Pq n).at (h a19)) ((Qt n).at (h a21)) ((QV n).at (h a20)) ((QU n).at (h a16)) ((QT n).at (h a18)) ((Rh n).at (h a17));have Pw:=λ(n:Nat)=>uv (n:=n) QZ (P_ n) (F a22);have LN:=zQ (P:=l.prog) (w:=w) (base:=base) B (F a23);have Pd:=λ(n:Nat)=>B4 (n:=n) (P:=l.prog) (w:=w) (base:=base) (F a24);have Pl:=λ(n:Nat)=>wj (n:=n) (P:=l.prog) (w:=w) (base:=base) mT (F a25);have Rr:=λ(n:Nat)=>Dr (n:=n) (F a26) LN.m;have QA:=λ(n:Nat)=>AB (n:=n) mT (F a27) LN.m;have Q_:=λ(n:Nat)=>B9 (n:=n) (P:=l.prog) (w:=w) (base:=base) (F a28);have RA:=λ(n:Nat)=>CH (n:=n) B (F a29) g3.m;have O_:=λ(n:Nat)=>wg (n:=n) (aT:=aT) (bU Gu) (bU Ek) (bU ET) (bU A1) (bU GA) (bU yE) (bU DY) (gM DT) (gM Et) (gM Ff) (gM D_) (gM Bd) (gM De) (gM Fh) ((Rr n).at (h a26)) ((RA n).at (h a29)) ((Pd n).at (h a24)) ((QA n).at (h a27)) ((Pl n).at (h a25)) ((Q_ n).at (h a28));have OG:=λ(n:Nat)=>uG (n:=n) mH (O_ n) (F a30);have Ni:=λ(n:Nat)=>Ip (n:=n) (P:=l.prog) (w:=w) (base:=base) Cb (F a31);have NU:=λ(n:Nat)=>Er (n:=n) (P:=l.prog) (w:=w) (base:=base) (F a32);have Qh:=λ(n:Nat)=>vy (n:=n) B2 Co (F a33) (Ni n).m;have Rg:=λ(n:Nat)=>BH (n:=n) B3 mT (F a34) (NU n).m;have Qr:=λ(n:Nat)=>zr (n:=n) B mW (F a35) (Q3 n).m (Pw n).m (OG n).m (Qh n).m;have Qe:=λ(n:Nat)=>zb (n:=n) B B2 B3 (F a36) (OG n).m (NU n).m (Rg n).m;have O2:=EX (P:=l.prog) (w:=w) (base:=base) Cp (F a39);have QE:=ze (P:=l.prog) (w:=w) (base:=base) B (F a40);have Oi:=HV (P:=l.prog) (w:=w) (base:=base) B (F a41);have QH:=yV (P:=l.prog) (w:=w) (base:=base) B (F a42);have Qi:=AF (P:=l.prog) (w:=w) (base:=base) B2 (F a43);have Pe:=CQ (P:=l.prog) (w:=w) (base:=base) (F a44);have QX:=EE (F a45) QE.m;have O8:=B1 (F a46) QH.m;have QN:=zU (P:=l.prog) (w:=w) (base:=base) (F a47);have O9:=zX (F a48) Oi.m;have QJ:=vK (P:=l.prog) (w:=w) (base:=base) (F a49);have RC:=yQ (F a50) Qi.m;have RB:=EZ B B2 (F a51) Oi.m;have O5:=BY (aF:=aF) (bU Ic) (bU Gz) (bU K2) (bU HL) (bU HX) (bU GD) (bU D4) (bU Fp) (bU Kv) (bU BV) (bU Fj) (gM EG) (Pe.at (h a44)) (RB.at (h a51)) (QX.at (h a45)) (O8.at (h a46)) (QN.at (h a47)) (O9.at (h a48)) (QJ.at (h a49)) (RC.at (h a50));have PK:=zh mF O5 (F a52);have QM:=y3 (P:=l.prog) (w:=w) (base:=base) B (F a55);have NY:=z_ (P:=l.prog) (w:=w) (base:=base) (F a57);have Ru:=E5 (F a58) g2.m;have OV:=BR B (F a59) g2.m;have Rp:=yK B (F a60) g2.m NY.m;have Oq:=zk (P:=l.prog) (w:=w) (base:=base) B (F a61);have QY:=Cy B (F a62) g2.m;have RE:=EU B (F a63) g2.m;have RF:=zi B (F a64) g2.m Oq.m Ru.m OV.m Rp.m;have Q9:=AR B (F Rq) g2.m Oq.m NY.m OV.m RE.m;have N6:=vO (P:=l.prog) (w:=w) (base:=base) B B2 B3 NX (F QO);have Rb:=CN B (F Qz) g2.m RF.m Q9.m N6.m;have QI:=Cc (P:=l.prog) (w:=w) (base:=base) B (F PV);have Qm:=xh B B2 (F Pf) QI.m;have Mx:=AD (P:=l.prog) (w:=w) (base:=base) (mg:=mg) (C:=CF) K3;have Px:=HK (P:=l.prog) (w:=w) (base:=base) (C:=CF) (L:=4) (F a37);have Qw:=Ig (C:=CF) (n:=0) (L:=0) B mE Cf (F a37) Mx MM (Ni 0).m Px.m (Qr 0).m (Qe 0).m;have sv:=zt (C:=CF) (n:=0) (L:=0) (F a38) Qw.m;have Qf:=Fe (P:=l.prog) (w:=w) (base:=base) (L:=2) (F a53);have OZ:=zJ B mE (F a53) (Ni 0).m Qf.m PK.m;have af:=Eg (aA:=aA) (a1:=aZ) mA cA (F a54) OZ.m;have fa:=vL (C:=CF) (CP:=CP) (n:=0) (L:=0) (F a56) QM.m sv.m O2.m af.m;have told:=D6 (C:=CF) (CP:=CP) (L:=0) B B2 mb PX (F Rv) fa.m;have ri:=C_ (L:=0) B (F Rz) told.m Qm.m N6.m;exact GL (L:=10) B B2 Fl g1.m QY.m Rb.m ri.m
theorem walk{l:PySem.W.OpenLaw}{q:Program}{loose:List Str}{XP:(Str->Option Value)->Heap->Prop}{YP:World->Heap->Prop}{d:DefRec}{K:Params->S7}(hn:l.most=some 63)(hdf:d.params.defaults=[])
  (hY:∀(w:World)(h:Heap),YP w h->(K w.params).In h)
  (F:∀(w:World)(mg:Str->Option Value)(fa:Addr)(h:Heap),(K w.params).In h->h.Ns mainGlobals mg->mg d.name=some (.ref fa)->
   ∃fd:FuncData,(∀(s:Shared)(u:Value),BindsTo s fd ⟨[u],[]⟩ [("_law_script",u)])/\∀base:Heap,(K w.params).In base->base.Ns mainGlobals mg->e8 l.prog w (K w.params) mg base bE 11 fa fd ["_law_script"] (xJ (K w.params))) :
  PySem.W.WalkO q loose XP YP l.row.toRowW d [] (λf vs=>PySem.call f vs) :=
 L2.Eb (n:=63) (k:=11) (x:="_law_script") (CX:=λ_=>bE) (sp:=λw=>xJ (K w.params)) hn (by decide) hdf ⟨rfl,by decide,by decide⟩ hY F (λ_ _ a ns hl _ hS=>⟨a,ns,rfl,hS,hl,λ_=>rfl⟩) λ_ _ _ _ _ z=>z
end My
namespace PySem.W.Fast
def tw12224317142751294446:=0
def tw8852049801101924671:=0
def tw3963226613102581428:=0
def tw1693674712294671675:=0
def tw5102319539706206874:=0
def tw2878880310191047727:=0
def tw3148648078515948253:=0
def tw5878246736473924996:=0
def tw7707773720896396678:=0
def tw13910910860017015173:=0
def tw3833707749214135502:=0
def tw6402459486348212196:=0
def tw15009939647086255129:=0
def tw10693290260700402831:=0
def tw679719904976476450:=0
def tw816681261759476241:=0
def tw4733181720524712383:=0
def tw14358454752416754832:=0
def tw4547418331615627602:=0
def tw13845666332724981504:=0
def tw14483219438589494333:=0
def tw2045004509760053967:=0
def tw2564756089579455015:=0
def tw5563982746217632376:=0
def tw1768237433928550280:=0
def tw134916648944156970:=0
def tw12030152886451667142:=0
def tw15990943069800586113:=0
def tw13496202169634990393:=0
def tw2148361903653853006:=0
def tw4294615527030428048:=0
def tw11996499422987862399:=0
def tw16018781073508160648:=0
def tw432381953728286471:=0
def tw14722767782736427493:=0
def tw3429208079365923342:=0
def tw14765532251696519567:=0
def tw7410412547552550383:=0
def tw13141266667892774689:=0
def tw12896905263493792626:=0
def tw10361484048957148147:=0
def tw17878398843808537984:=0
def tw7561833226871376446:=0
def tw1920664067638244360:=0
def tw1067602696015434550:=0
def tw340083806300455490:=0
def tw9139607456130358094:=0
def tw4178074638211723494:=0
def tw15620058469472502860:=0
def tw2676377620340467447:=0
def tw760205609975437251:=0
def tw4584511981005078328:=0
def tw2807504768060073765:=0
def tw13913314014242730517:=0
def tw5752417259098727294:=0
def tw6443339292272627120:=0
def tw9718020582134376799:=0
def tw5401671015402855996:=0
def tw11215612215666932685:=0
def tw8973738159019405571:=0
def tw8387806822120981916:=0
def tw14772997096853214275:=0
def tw3721954335952789698:=0
def tw5143200327548117807:=0
def tw12076677224127831315:=0
def tw16259313001013960757:=0
def tw15861116813388174706:=0
def tw2511420681224652892:=0
def tw18353630241098728721:=0
def tw12072008915209303434:=0
def tw12160535616717310624:=0
def tw3549739692393414484:=0
def tw11134915664950120101:=0
def tw17449545303651476564:=0
def tw13595075946990895197:=0
def tw7516064106855966251:=0
def tw6967857940417635059:=0
def tw250248101320093663:=0
def tw4655261473333465409:=0
def tw1734078971758854648:=0
def tw936963197416895587:=0
def tw9659970653475031380:=0
def tw3770366931261258949:=0
def tw12283798822825157132:=0
def tw18031282670439937704:=0
def tw8583428386850012316:=0
def tw2601393920521931992:=0
def tw8185056030182937852:=0
def tw5790582032049649942:=0
def tw15004593806720033493:=0
def tw9778935532093610853:=0
def tw18065597300190477886:=0
def tw17452458243132597465:=0
def tw1391049513680471753:=0
def tw10218870729345586356:=0
def tw9123931858097030733:=0
def tw9849296039810912392:=0
def tw14897222205196577355:=0
def tw4051699385096759041:=0
def tw15463978632195667623:=0
def tw12955371295119755107:=0
def tw746769817382911735:=0
def tw753988672851571409:=0
def tw18344039239295643953:=0
def tw11516702015976676456:=0
def tw13283211381604094636:=0
def tw9941310394548525282:=0
def tw8426226659872281602:=0
def tw17520364501279428149:=0
def tw8740917864250794914:=0
def tw13784883396051989979:=0
def tw4209381420289320172:=0
def tw5985205757122136398:=0
def tw15732869100207335523:=0
def tw11707486159805452138:=0
def tw13399679781988582557:=0
def tw2270191852972110302:=0
def tw5135510441991041320:=0
def tw496647627760989467:=0
def tw11887142682302526182:=0
def tw7295787192745154612:=0
def tw2375403886765185734:=0
def tw244151252653209919:=0
def tw9378044893298872833:=0
def tw12797684066655260383:=0
def tw13396016749670722865:=0
def tw6611937483182561889:=0
def tw17710090892349985565:=0
def tw1655995432617431708:=0
def tw10276310653613643418:=0
def tw18371794798656891417:=0
def tw5383090215736990122:=0
def tw2418117464634103801:=0
def tw1060012949860924826:=0
def tw1324308011438116083:=0
def tw16154389358020540013:=0
def tw11906737458515914426:=0
def tw11921088587125342414:=0
def tw17202812904784784627:=0
def tw18020052577028299049:=0
def tw3177253453334187695:=0
def tw5665253548035079673:=0
def tw3729556356872528237:=0
def tw3344049386900920062:=0
def tw10946257434136680251:=0
def tw5211361659607467209:=0
def tw8749103782827586209:=0
def tw16350468097650630091:=0
def tw6288982558434496204:=0
def tw11204685341440793517:=0
def tw18201036376192543072:=0
def tw18315494580279476627:=0
def tw17332814684242000111:=0
def tw7644069688279782424:=0
def tw7218986727347300872:=0
def tw8599754165846248871:=0
def tw5011516566705040889:=0
def tw2134694459668202217:=0
def tw13882427244697663867:=0
def tw5219437830594675793:=0
def tw16872340296678221:=0
def tw9397600721388360098:=0
def tw2276064289158791696:=0
def tw11924132139990654554:=0
def tw14139590631143831909:=0
def tw12100225626276580912:=0
def tw8695217537315854642:=0
def tw15652091853399814014:=0
def tw5839121908830325613:=0
def tw5275959655843592477:=0
def tw683263737349329965:=0
def tw6902845053735288598:=0
def tw17753100235928286407:=0
def tw12044184189392539212:=0
def tw9628292565544083302:=0
def tw17042643091133282655:=0
def tw11801757794603517805:=0
def tw16832882073275406852:=0
def tw11670696714203589830:=0
def tw15198420720516486445:=0
def tw16327207936648719869:=0
def tw10076504219849423650:=0
def tw12471106147373624809:=0
def tw8994781578296805663:=0
def tw9137231144060448426:=0
def tw16349101031694747269:=0
def tw9069730061129001617:=0
def tw3476941817708491023:=0
def tw15842123588429554590:=0
def tw16057116255437428043:=0
def tw12867276008194778329:=0
def tw13491831168211220260:=0
def tw10549957580362463513:=0
def tw4543804566451907839:=0
def tw13299034585520220095:=0
def tw11800650111341836452:=0
def tw16532395278548043480:=0
def tw2013437497274671166:=0
def tw10834705310316146589:=0
def tw8092737142587581103:=0
def tw7405083785799307763:=0
def tw6724901672743611032:=0
def tw4935025260197153518:=0
def tw14810499537240768696:=0
def tw7488389859776138777:=0
def tw14690940208597387530:=0
def tw7637588991199869570:=0
def tw1411375139405444516:=0
def tw12552812912516085690:=0
def tw9778158955810846136:=0
def tw1432458762405254450:=0
def tw4804394738364135333:=0
def tw7466851695273858780:=0
def tw15966531474041764306:=0
def tw4503842583229539897:=0
def tw11419967979487783581:=0
def tw5529093235328689287:=0
def tw9093799218643592916:=0
def tw16856735471851529885:=0
def tw11421830689225039716:=0
def tw15253410542079334040:=0
def tw14665616739394938487:=0
def tw16176978149335549285:=0
def tw11923804961494532324:=0
def tw12065976969180072363:=0
def tw9391995141049041332:=0
def tw2334411521700945322:=0
def tw5545156019248100169:=0
def tw24371203968787786:=0
def tw13922344097044629293:=0
def tw4211751864077710427:=0
def tw18306465619487375036:=0
def tw10221985100429967426:=0
def tw6025632289456909737:=0
def tw11737633905566766549:=0
def tw2833932350436289212:=0
def tw1044052707246367840:=0
def tw2711308069407130786:=0
def tw3965108238463120285:=0
def tw6206728751148350242:=0
def tw6842500641583060847:=0
def tw1618110350807416242:=0
def tw2316726761617910059:=0
def tw11389117428421317544:=0
def tw7747922451172320384:=0
def tw15140820313574020907:=0
def tw675915061340394949:=0
def tw17795799712084498520:=0
def tw8376914087219709181:=0
def tw12483944674075344718:=0
def tw16655699025026431050:=0
def tw7664565379514553631:=0
def tw3334771659396520785:=0
def tw10507633699891646971:=0
def tw16305728659442881538:=0
def tw5318998978326533014:=0
def tw2354394642756735873:=0
def tw14337157616478163370:=0
def tw4089449858003798530:=0
def tw8613980763259427774:=0
def tw18235822212716722337:=0
def tw15682711087310992562:=0
def tw12505299326582838637:=0
def tw13339072961475820137:=0
def tw8373619089999494146:=0
def tw312515343833310349:=0
def tw14509852370950614464:=0
def tw9957753780303418033:=0
def tw9246754243954593571:=0
def tw7330700730129735343:=0
def tw15220692389551594883:=0
def tw15122024881947281121:=0
def tw8761506379106804928:=0
def tw9529036866459291898:=0
def tw9024346671035662051:=0
def tw553160029359252266:=0
def tw13317411107032461741:=0
def tw9289873432124471759:=0
def tw12125940970648944734:=0
def tw17161656377004744614:=0
def tw4553025774656914485:=0
def tw3155503827071964712:=0
def tw569991899414437843:=0
def tw17914806335288707062:=0
def tw14516641783765418157:=0
def tw12749080913828060587:=0
def tw8280508347817453539:=0
def tw10334299797786265642:=0
def tw2175305489053944100:=0
def tw2384821277270967559:=0
def tw15970369810070036768:=0
def tw14585089901360111666:=0
def tw18001394701859590330:=0
def tw18386020758613793598:=0
def tw7920728927873481398:=0
def tw10732202712203879551:=0
def tw4338624915815654484:=0
def tw15795180705458973732:=0
def tw5436399116815968923:=0
def tw7806623237515703268:=0
def tw7785644883588247469:=0
def tw16326146916040989441:=0
def tw9530776840035194978:=0
def tw17992370469160833842:=0
def tw10941127724060206085:=0
def tw6415606982020542366:=0
def tw9312840974527509939:=0
def tw8483528990551093033:=0
def tw7837764537512108426:=0
def tw856585110085566420:=0
def tw17879412514435357493:=0
def tw4224868282728505021:=0
def tw18053014260531520403:=0
def tw7862769812341652287:=0
def tw3286923872616946703:=0
def tw12071684956796030068:=0
def tw12999449244702569196:=0
def tw13465130409318363710:=0
def tw13233191151269050807:=0
def tw12995736645996990625:=0
def tw18259365109051169567:=0
def tw14057652420116309048:=0
def tw8496994956380797528:=0
def tw10203390292176874906:=0
def tw17241581139836476244:=0
def tw13079584910067080621:=0
def tw3819179155638786122:=0
def tw13747213817371688583:=0
def tw6063627116343874213:=0
def tw12508359294635876752:=0
def tw14626194707280426673:=0
def tw51501461359681102:=0
def tw11704928989296853941:=0
def tw3524065245578909557:=0
def tw1604874708952902571:=0
def tw3597598145617595922:=0
def tw15398131667595615315:=0
def tw11547904024652789220:=0
def tw6851891810130965129:=0
def tw6507743563866247399:=0
def tw8135175279443754119:=0
def tw3940723749530030066:=0
def tw4651386116503218735:=0
def tw14770257197573711613:=0
def tw11436462369229831524:=0
def tw13650700223732091958:=0
def tw13286326647444016586:=0
def tw15264174342163634346:=0
def tw3433759167250506790:=0
def tw6314839087739966134:=0
def tw7601792420916924427:=0
def tw16899822092734794483:=0
def tw16068820134109733363:=0
def tw1407395781587258299:=0
def tw5076568424958669739:=0
def tw6295685496748585294:=0
def tw7241090894078519175:=0
def tw12413800945586053080:=0
def tw9426120076166572701:=0
def tw8203559189557184530:=0
def tw10554549843294748022:=0
def tw13588897347740403703:=0
def tw6937994890539727664:=0
def tw13839944561645371618:=0
def tw10201556738739300039:=0
def tw10667588131922959897:=0
def tw14249746420656234670:=0
def tw5069450661442902448:=0
def tw8255905744933773531:=0
def tw303361952837978554:=0
def tw11942420228400006571:=0
def tw18226613287721548962:=0
def tw3806702324009362135:=0
def tw10986644833269591338:=0
def tw3327617409568227049:=0
def tw12349515469185385149:=0
def tw2686236735089188371:=0
def tw4736227704395820906:=0
def tw15365379569682550676:=0
def tw11042016590990677516:=0
def tw6810047587369321843:=0
def tw8602728059291648912:=0
def tw8672177486792153001:=0
def tw10029579684198803572:=0
def tw5983015749145953904:=0
def tw7239833862930559084:=0
def tw8997368585925874322:=0
def tw12185225302451913385:=0
def tw9877284906386422691:=0
def tw17467983755960392232:=0
def tw8620508563912403685:=0
def tw2167278914058344927:=0
def tw616570825977848443:=0
def tw2271604498986529649:=0
def tw11092661980041549466:=0
def tw13200448648818456620:=0
def tw16596249068603810495:=0
def tw7669499281192538296:=0
def tw5335329703880372830:=0
def tw8054631608525712114:=0
def tw14145567429177505413:=0
def tw17967271009833605883:=0
def tw11839536378207618030:=0
def tw4104181950067859379:=0
def tw16851346052573826425:=0
def tw16970676972181147684:=0
def tw12135021507144253711:=0
def tw9383772825935629761:=0
def tw4317508897291677869:=0
def tw12236225795159795179:=0
def tw14658027644613740629:=0
def tw7091313802441805611:=0
def tw9202077094571579431:=0
def tw6132696971696287100:=0
def tw6812422337366030302:=0
def tw13087099767066200487:=0
def tw2360623455376734820:=0
def tw4715134945977704465:=0
def tw14764008288194002169:=0
def tw3307044233641409828:=0
def tw17514807833760221092:=0
def tw10901174888555890053:=0
def tw16060167847611038892:=0
def tw12839424829937875273:=0
def tw17268465419349218525:=0
def tw4964096221202588630:=0
def tw13359741845962493244:=0
def tw5069639209991843159:=0
def tw12293226546030452346:=0
def tw765565556089706124:=0
def tw1107515136126578591:=0
def tw11263809910493290428:=0
def tw5393199647716403593:=0
def tw1139558461851931899:=0
def tw12835431026427831146:=0
def tw186124623841937243:=0
def tw503128905293771788:=0
def tw6523404968658117497:=0
def tw15101314345335051461:=0
def tw1295886312405521136:=0
def tw17352352897419688211:=0
def tw14791651405043736647:=0
def tw9001503990392122143:=0
def tw2378755741735901431:=0
def tw9582925484215929379:=0
def tw17299398910409717646:=0
def tw12297927436350949310:=0
def tw16928678364926007426:=0
def tw5574868090167927160:=0
def tw8144472072064822401:=0
def tw9228465600547951960:=0
def tw13125498359244878847:=0
def tw17233368051675835108:=0
def tw17477864740116847990:=0
def tw15870450969013765535:=0
def tw15034733735843957508:=0
def tw11560503259417213144:=0
def tw15354991928918951943:=0
def tw3496883984721110804:=0
def tw14909965850938273777:=0
def tw5436452735715964926:=0
def tw4676447164127456132:=0
def tw7021139991229371936:=0
def tw4307683636308129714:=0
def tw16939230485434924382:=0
def tw9695690108975235177:=0
def tw13275320594250392796:=0
def tw11889784379539965385:=0
def tw10642295055667239562:=0
def tw2740464877442095354:=0
def tw17496207806658361758:=0
def tw15664441641402504338:=0
def tw8353743387651781823:=0
def tw723890383718587733:=0
def tw4850727293493795907:=0
def tw15477687247649732803:=0
def tw11442899552163940019:=0
def tw14644768259545045268:=0
def tw4336752230009293381:=0
def tw10770724002155503786:=0
def tw8857482718161061272:=0
def tw7450641030378242214:=0
def tw15904164412291031337:=0
def tw9746168157137773215:=0
def tw8275588402492163276:=0
def tw3364888769268729117:=0
def tw7062376668255799001:=0
def tw5600790923378294107:=0
def tw6638313825638788394:=0
def tw11810072331716842721:=0
end PySem.W.Fast
open PySem PySem.W PyProof.Rows
set_option maxRecDepth 100000 in
set_option maxHeartbeats 0 in
theorem PySem.Challenge.cw_rowpipes_k71_facts_along_workers_holds : PySem.Challenge.rw_rowpipes_k71_facts_along_workers.Holds := by
 w_on;o_law;k_head;(case hw=>w_witness2)
 k_fill
 refine My.walk (l:=PySem.Challenge.rw_rowpipes_k71_facts_along_workers) rfl rfl (λw h Y=>PySem.W.kIn_of Y) ?F
 case F =>intro w mg fa h KX G hmg;exact My.all_mk KX G hmg
