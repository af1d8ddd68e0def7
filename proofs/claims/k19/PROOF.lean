import PyProof.Rows.All
import Wide.All
import OpenK.AllK
import Wide.FinOn
import Lean
import PyProof.EqAt
import PyProof.EqKinds
import PyProof.TupleCall
import PySem.Challenge.RW_ringhouse_k19_two_rings_by_turns
set_option Elab.async false
set_option linter.all false
open PySem.W (instObj methodObj Frag lookIn InstAt plainGet hasDictIn findIn plainOver takerIn makesIn emptyDict keepIn fnOf codeIn excIn clsIn nsIn)
open List (replicate length all_cons any_cons foldl forIn_nil map_drop Nodup)
open Nat (le_of_eq add_comm mul_comm zero_add)
open Int (le_total le_of_dvd)
open PySem.Heap (SameBut ExtBut FlyingW HeldW MadeExcOf)
open Option (getD_none)
open Array (toList)
set_option maxRecDepth 100000
local macro_rules | `(tactic| walk_at "z") => `(tactic| first|exact .inl rfl|exact .inr rfl|assumption)
def aa{p:Prop}(h:p:=by omega):p:=h
def ac{p:Prop}(h:p:=by decide):p:=h
def ad{p:Prop}(h:p:=by lia):p:=h
def ae{p:Prop}(h:p:=by simp):p:=h
def af{p:Prop}(h:p:=by decide +kernel):p:=h
def ag{p:Prop}(h:p:=by walk_at "n"):p:=h
def ah{p:Prop}(h:p:=by walk_at "b2"):p:=h
def aJ:= @List.getD_eq_getElem?_getD
def aA:= @PySem.wpAny_bind
def aO:= @List.getElem?_eq_getElem
def a6:= @if_neg
def a9:= @if_pos
def aF:= @Nat.le_refl
def aU:= @PySem.Heap.get?_push_of_some
def aK:= @List.length_map
def aH:= @PySem.wpAny_pure
def aM:= @Nat.le_trans
def b6:= @Nat.lt_of_lt_of_le
def b7:= @List.size_toArray
def bC:= @List.mem_cons_self
def bD:= @Bool.false_ne_true
def aV:= @PySem.Heap.lt_size
def aX:= @List.mem_cons
def bM:= @List.mem_cons_of_mem
def bJ:= @List.getElem?_map
def bU:= @PySem.Heap.get?_push_size
def bO:= @List.length_append
def cE:= @Int.emod_lt_of_pos
def bV:= @List.getElem_mem
def d7:= @List.mem_append_right
def bG:= @Nat.ne_of_lt
def bW:= @List.mem_append
def bZ:= @Int.emod_nonneg
def cF:= @List.map_append
def cM:= @List.not_mem_nil
def fM:= @List.getElem?_append_left
def cU:= @List.lookup_cons
def cV:= @Nat.zero_lt_succ
def dZ:= @List.forall_mem_cons
def gW:= @Int.mul_le_mul_of_nonneg_left
def eM:= @List.getElem?_eq_none
def gD:= @List.getElem?_append_right
def bP:= @Int.mul_zero
def bI:= @PySem.wpAny_mono
def dN:= @Bool.and_eq_true
def dO:= @List.all_eq_true
def cN:= @List.map_cons
def cO:= @PySem.W.mg_of
def eA:= @List.length_cons
def eB:= @Int.toNat_natCast
def eC:= @Int.emod_eq_of_lt
def dP:= @List.range_succ
def dS:= @List.length_set
def d8:= @Nat.lt_irrefl
noncomputable def dC:= @Int.zero_emod
def j9:= @PyProof.Rows.callWith_type1
def dU:= @List.mem_range
def fN:= @Nat.add_sub_cancel
def fO:= @PySem.W.mg_none_of
def cP:= @Nat.zero_le
def dD:= @Int.zero_add
def dE:= @List.mem_map
def fP:= @decide_eq_true_eq
def cW:= @PySem.wpAny_field
def gX:= @Nat.pow_le_pow_right
def eO:= @Int.natAbs_mul
def iH:= @Int.emod_add_mul_ediv
def bQ:= @congrArg
def jY:= @List.getElem?_eq_some_iff
def fQ:= @decide_eq_false
def cQ:= @And.right
def jZ:= @PySem.wpAny_callSpecial?_slot
def fS:= @Nat.mul_le_mul
def gE:= @Option.some.inj
def gY:= @PySem.wpAny_loadPart'
def iI:= @List.mem_singleton
def eP:= @List.map_map
def gF:= @Nat.not_lt_zero
def jA:= @List.filterMap_cons
def jB:= @List.replicate_succ
def iJ:= @PySem.wpAny_newObj_type
def cR:= @or_false
def gZ:= @PySem.PassesOwn.never
def jC:= @List.pairwise_cons
def mS:= @List.getElem?_cons_zero
def mT:= @Int.dvd_of_emod_eq_zero
def k7:= @PySem.Heap.get?_none_of_le
def k8:= @List.mem_append_left
def iK:= @PySem.wpAny_call_entry
def iL:= @List.ext_getElem
def fT:= @Int.mul_emod
def pI:= @Int.natAbs_ediv_le_natAbs
def gG:= @Int.mul_comm
def gH:= @Int.zero_mul
def iM:= @PySem.Heap.size_push
def pJ:= @Int.dvd_mul_of_dvd_left
def kA:= @Nat.lt_succ_of_lt
def kB:= @List.length_range
def jD:= @List.append_nil
def mU:= @List.map_congr_left
def gI:= @Nat.pow_add
def hG:= @Int.add_zero
def hJ:= @Int.add_emod
def iN:= @PySem.wpAny_holding
def fU:= @beq_iff_eq
def iO:= @Int.emod_emod
def yV:= @PySem.F.slot_tuple_iterator_next
def pK:= @PySem.Heap.get?_update_self
def jE:= @decide_eq_true
def pL:= @Bool.beq_eq_decide_eq
def mV:= @Nat.lt_of_le_of_lt
def yW:= @PyProof.Rows.slot_tuple_getitem
def pM:= @PySem.wpAny_loadName_local
def iP:= @List.map_nil
def mW:= @List.length_nil
def pN:= @Nat.mul_le_mul_right
def iQ:= @Int.pow_zero
def mY:= @List.flatten_cons
def mZ:= @PySem.wpAny_loadPart_at
def n6:= @List.ext_getElem?
def tL:= @List.getElem?_replicate
def tM:= @List.length_eq_zero_iff
def pO:= @beq_eq_false_iff_ne
def pP:= @PySem.mem_of_lookup
def pQ:= @Nat.mul_le_mul_left
def kC:= @Bool.false_xor
def kD:= @PySem.wpAny_seqItems
def pR:= @PySem.wpAny_Call_Name_kw
def pS:= @PySem.Obj.data_mapFields
def pT:= @PySem.wpAny_setField_rec
def nA:= @List.mem_filter
def nB:= @PySem.wpAny_execs_nil
def nE:= @PySem.wpAny_passesOwn
def tN:= @List.length_replicate
def nF:= @Nat.min_eq_left
def yX:= @PySem.F.excBase_ValueError
def pU:= @PySem.wpAny_truthy_bool
def pV:= @PySem.Heap.get?_push_ne
def pW:= @of_decide_eq_true
def yY:= @Decidable.byContradiction
def jF:= @Int.mul_one
def jG:= @PySem.wpAny_of_eq
def kE:= @Nat.le_of_lt
def pX:= @Nat.lt_succ_self
def gJ:= @Prod.ext
def pY:= @List.length_drop
def tO:= @PySem.Heap.SameBut.update
def aK1:= @PySem.plainObj_wpAny_Assign_Attribute
def yZ:= @List.getElem?_cons_succ
def zA:= @List.pairwise_singleton
def nG:= @PySem.wpAny_standAt
def nI:= @Bool.true_xor
def nJ:= @List.map_take
def nK:= @Int.mul_assoc
def tP:= @PySem.W.of_hideAll
def jH:= @PySem.call_meets
def zB:= @List.take_of_length_le
def gK:= @if_true
def zC:= @PySem.F.slot_zip_next
def pZ:= @PySem.isSubtype_type
def zD:= @PySem.builtinLookup_eq_fast
def nL:= @Nat.sub_self
def qA:= @Int.mul_nonneg
def tQ:= @PySem.wpAny_execs_cons
def tT:= @List.length_take
def zE:= @List.mem_of_getElem?
def tU:= @PySem.Heap.size_update
def zF:= @List.pairwise_append
def qB:= @Nat.add_assoc
def zG:= @PySem.Heap.get?_update_ne
def zH:= @PySem.wpAny_isSubtype_exc
def zI:= @List.getElem_of_mem
def tV:= @Bool.eq_iff_iff
def qC:= @Nat.ne_of_gt
def aK2:= @PySem.F.args_tuple_add_2
def aK3:= @PySem.AutoSeq1.wpAny_loadPart'
def aK4:= @PySem.F.args_tuple_mul_2
def aK5:= @List.mem_of_mem_eraseIdx
def zJ:= @List.filter_append
def qD:= @Int.pow_succ
def aK6:= @Int.mul_ediv_cancel_left
def nM:= @PySem.wpAny_Name
def nN:= @PySem.wpAny_rule
def tW:= @PySem.wpAny_setField
def aK7:= @PySem.F.entry_tuple_add
def aK8:= @PySem.F.entry_tuple_mul
def aK9:= @decide_eq_false_iff_not
def aL0:= @Int.emod_eq_zero_of_dvd
def zK:= @Int.natAbs_sub_le
def zL:= @Int.lt_trichotomy
def aL1:= @PySem.wpAny_pyIter_rangeiter
def aL2:= @PySem.W.cellsFrom_some
def aL3:= @PySem.F.slot_tuple_add
def aL4:= @PySem.Heap.get?_update_other
def aL5:= @PySem.F.slot_tuple_mul
def tX:= @PySem.wpAny_attempt
def zM:= @PySem.AutoSeq1.idx_int
def aL6:= @List.length_singleton
def aL7:= @PySem.Obj.isFreed_of_fields
def tY:= @PySem.codeAny_mono
def zN:= @List.nodup_cons
def zO:= @List.of_mem_zip
def aL8:= @PySem.Calls.evalArgs_plain
def zP:= @List.nil_append
def zQ:= @List.forIn_cons
def aL9:= @PySem.wpAny_updateSeq_pair
def zR:= @PySem.typeLookup_type
def zS:= @Option.map_some
def aM0:= @Nat.pow_lt_pow_right
def tZ:= @Nat.sub_zero
def u4:= @Int.sub_emod
def zT:= @Bool.or_eq_true
def aM1:= @Array.length_toList
def aM2:= @PySem.W.looks_clsIn
def nO:= @if_false
def zU:= @Int.natAbs_neg
def zV:= @Int.mul_le_mul
def u5:= @Nat.le_succ
def u6:= @Int.mul_add
def u7:= @Int.mul_neg
def u8:= @Int.dvd_add
def aM3:= @PyProof.Rows.assignInOrder_cons
def qE:= @PyProof.Rows.IsTup.new
def aM4:= @List.mem_filterMap
def aM5:= @PySem.W.callWith_K
def aM6:= @List.zip_cons_cons
def aM7:= @List.contains_cons
def b90:= @List.set_cons_zero
def b91:= @List.set_cons_succ
def zW:= @PySem.wpAny_onRaise
def aM8:= @List.getElem?_set
def aM9:= @PySem.wpAny_pyIter_list
def aN0:= @Bool.not_eq_true'
def aN1:= @Nat.le_succ_of_le
def aN2:= @Int.natAbs_add_le
def u9:= @PySem.wpAny_call
def uA:= @PySem.typeIs_int
def aN3:= @PySem.noFill_tuple_add
def zX:= @PySem.wpAny_typeOf
def zY:= @PySem.seqIndex_neg
def aN4:= @beq_self_eq_true
def aN5:= @Option.bind_some
def zZ:= @Nat.pow_succ
def a00:= @Nat.mul_succ
def a01:= @Int.add_comm
def aN6:= @PySem.pushCells_keeps
def aN7:= @Int.natCast_mul
def a02:= @PySem.seqIndex_of
def a03:= @Int.one_mul
def a04:= @Int.add_mul
set_option compiler.extract_closed false
set_option bootstrap.genMatcherCode false
namespace L2
open PySem PySem.Spec PyProof.Rows
abbrev Key:=Sum Int Str
noncomputable def dK6:Key->Value->Bool
 | .inl k,v=>Value.isInt k v
 | .inr x,v=>Value.isStrOf x v
noncomputable def keyH (w:World):Key->Int
 | .inl k=>hashInt k
 | .inr x=>hashStr w x
theorem iA: ∀{k:Key} {v:Value},dK6 k v=true->(∃i t,k=Sum.inl i/\v=Value.int i t)\/(∃x t,k=Sum.inr x/\v=Value.str x t)
 | .inl i,v,h=>by
  obtain⟨t,e⟩:=Value.isInt_shape (k:=i) (v:=v) h;exact .inl ⟨i,t,rfl,e⟩
 | .inr x,v,h=>by
  obtain⟨t,e⟩:=Value.isStrOf_shape (x:=x) (v:=v) h;exact .inr ⟨x,t,rfl,e⟩
theorem key_ll (a b:Int):decide ((Sum.inl a:Key)=Sum.inl b)=(a==b):=by
 by_cases e:a=b
 ·subst e;simp
 ·have h: ¬(Sum.inl a:Key)=Sum.inl b:=λq=>e (Sum.inl.inj q)
  rw[fQ h];exact(pO.mpr e).symm
theorem key_rr (a b:Str):decide ((Sum.inr a:Key)=Sum.inr b)=decide (a=b):=by
 by_cases e:a=b
 ·subst e;simp
 ·have h: ¬(Sum.inr a:Key)=Sum.inr b:=λq=>e (Sum.inr.inj q)
  rw[fQ h,fQ e]
theorem key_lr (a:Int)(b:Str):decide ((Sum.inl a:Key)=Sum.inr b)=false:=fQ (λq=>nomatch q)
theorem key_rl (a:Str)(b:Int):decide ((Sum.inr a:Key)=Sum.inl b)=false:=fQ (λq=>nomatch q)
noncomputable def cI5 (prog:Program)(w:World):PySem.KeyKind prog w Key where
 is:=dK6
 hash:=keyH w
 inj:=λv a b ha hb=>by
  rcases iA ha with⟨i,t,rfl,rfl⟩| ⟨x,t,rfl,rfl⟩
  ·rcases iA hb with⟨j,u,rfl,e⟩| ⟨y,u,rfl,e⟩
   ·injection e with e1 _;rw[e1]
   ·exact nomatch e
  ·rcases iA hb with⟨j,u,rfl,e⟩| ⟨y,u,rfl,e⟩
   ·exact nomatch e
   ·injection e with e1 _;rw[e1]
 byValue:=λk v h=>by
  rcases iA h with⟨i,t,rfl,rfl⟩| ⟨x,t,rfl,rfl⟩<;>rfl
 pyHash:=λhv h=>by
  rcases iA hv with⟨i,t,rfl,rfl⟩| ⟨x,t,rfl,rfl⟩
  ·exact wpAny_pyHash_int h
  ·exact wpAny_pyHash_str h
 eqBool:=λhu hv h=>by
  rcases iA hu with⟨i,t,rfl,rfl⟩| ⟨x,t,rfl,rfl⟩
  ·rcases iA hv with⟨j,u,rfl,rfl⟩| ⟨y,u,rfl,rfl⟩
   ·rw[key_ll]at h;exact wpAny_eqBool_int h
   ·rw[key_lr]at h;exact SeqAt.EqAt.int_str i t y u _ _ _ _ h
  ·rcases iA hv with⟨j,u,rfl,rfl⟩| ⟨y,u,rfl,rfl⟩
   ·rw[key_rl]at h;exact SeqAt.EqAt.str_int x t j u _ _ _ _ h
   ·rw[key_rr]at h;exact wpAny_eqBool_str h
 «strs» :=λk x t v h=>by
  rcases iA h with⟨i,u,rfl,e⟩| ⟨y,u,rfl,e⟩
  ·exact nomatch e
  ·injection e with e1 _
   subst e1;cases v<;>rfl
end L2
namespace L2
open PySem PySem.Spec PyProof.Rows
inductive V where
 | non|bl (b:Bool)|int (i:Int)|str (x:Str)|byt (b:Array UInt8)|flt (b:UInt64)|ref (a:Addr)|ty (n:String)
 deriving DecidableEq
def RelV:V->Value->Prop
 | .non,u=>u=Value.none
 | .bl b,u=>u=Value.bool b
 | .int i,u=> ∃t,u=Value.int i t
 | .str x,u=> ∃t,u=Value.str x t
 | .byt b,u=> ∃t,u=Value.bytes b t
 | .flt b,u=> ∃t,u=Value.float b t
 | .ref a,u=>u=Value.ref a
 | .ty n,u=>u=Value.type n
abbrev Vals:List V->List Value->Prop:=Paired RelV
theorem Vals.length {xs:List V}{us:List Value}(r:Vals xs us):xs.length=us.length:=Paired.length r
theorem Vals.get: ∀{xs:List V} {us:List Value} {i:Nat} {x:V},Vals xs us->xs[i]? =some x-> ∃u,us[i]? =some u/\RelV x u
 | _,_,_,_,.nil,e=>by simp at e
 | _,_,0,_,.cons r _,e=>by simp at e;subst e;exact⟨_,rfl,r⟩
 | _,_,i+1,x,.cons _ t,e=>by
  obtain⟨u,h1,h2⟩:=Vals.get (i:=i) (x:=x) t (by simpa using e)
  exact⟨u,by simpa using h1,h2⟩
theorem Vals.set {x:V}{u:Value}(r:RelV x u): ∀{xs:List V} {us:List Value} (i:Nat),Vals xs us->Vals (xs.set i x) (us.set i u)
 | _,_,_,.nil=> .nil
 | _,_,0,.cons _ t=> .cons r t
 | _,_,i+1,.cons q t=> .cons q (Vals.set r i t)
theorem Vals.append: ∀{xs ys:List V} {us ws:List Value},Vals xs us->Vals ys ws->Vals (xs++ys) (us++ws)
 | _,_,_,_,.nil,s=>s
 | _,_,_,_,.cons r t,s=> .cons r (Vals.append t s)
theorem Vals.take: ∀{xs:List V} {us:List Value} (n:Nat),Vals xs us->Vals (xs.take n) (us.take n)
 | _,_,0,_=> .nil
 | _,_,_+1,.nil=> .nil
 | _,_,n+1,.cons r t=> .cons r (Vals.take n t)
theorem Vals.drop: ∀{xs:List V} {us:List Value} (n:Nat),Vals xs us->Vals (xs.drop n) (us.drop n)
 | _,_,0,r=>r
 | _,_,_+1,.nil=> .nil
 | _,_,n+1,.cons _ t=>Vals.drop n t
def cB2:Option V->Option Value->Prop
 | some v,some u=>RelV v u
 | none,none=>True
 | _,_=>False
def KV {κ:Type}:List (κ×V)->List (κ×Value)->Prop:=Paired fun(p:κ×V) (q:κ×Value)=>p.1=q.1/\RelV p.2 q.2
noncomputable def kV:Key->V
 | .inl i=> .int i
 | .inr x=> .str x
inductive HO where
 | lst (xs:List V)
 | tup (xs:List V)
 | dK (kvs:List (Key×V))|dT (kvs:List (List Key×V))
 | set (S:Int->Bool) (n:Nat)
 | ins (C dx:Addr) (fs:List (Str×V))
 | own (x:Addr)
 | xd (fs:List (Str×V))
 | met (f x:Addr)
 | rng (lo hi:Int)
 | frz (o:Obj) (u:HO)
 | tbl (ps:Array Value)
 | ext (φ:Heap->Prop)
abbrev Hp:=Addr->Option HO
noncomputable def upd (H:Hp)(a:Addr)(o:HO):Hp:=λb=>if b=a then some o else H b
theorem iB {H:Hp}{a:Addr}{o:HO}:upd H a o a=some o:=by unfold upd;rw[a9 rfl]
theorem cG {H:Hp}{a b:Addr}{o:HO}(h:b≠a):upd H a o b=H b:=by unfold upd;rw[a6 h]
theorem cX {H:Hp}{a b:Addr}{o:HO}(h:H a=some o)(h':H b=none):a≠b:=by
 intro e;subst e;rw[h]at h';cases h'
section
variable (P:Program)(w:World)
noncomputable def rC (H:Hp)(h:Heap)(a:Addr):HO->Prop
 | .lst xs=>xs.length<=sizeLine/\ ∃(its:List Value) (n:Nat),Vals xs its/\h.get? a=some {cls:= .type "list",data:= .seq its.toArray n}
 | .tup xs=>xs.length<=sizeLine/\ ∃its:List Value,Vals xs its/\IsTup h a its.toArray
 | .dK kvs=>kvs.length<=sizeLine/\(a==sysModules)=false/\ ∃vs,KV kvs vs/\h.DictOf (cI5 P w) a vs
 | .dT kvs=>kvs.length<=sizeLine/\(a==sysModules)=false/\ ∃xs:List (List Key×Addr×Value),
   Paired (fun(p:List Key×V) (q:List Key×Addr×Value)=>p.1=q.1/\H q.2.1=some (.tup<|p.1.map kV)/\RelV p.2 q.2.2) kvs xs/\
   ∃o es ep,h.get? a=some o/\o.ExactDict/\o.data= .dict es ep/\es.toList=xs.map (entryOfKey<|tupleKind<|cI5 P w)/\(xs.map (·.1)).Nodup
 | .set S n=>h.SetOf (intKind P w) a S n
 | .ins C dx fs=>H dx=some (.own a)/\fs.length<=1000/\dx≠a/\h.get? a=some (instObj C dx)/\
   ∃mA,h.Ns1 dx mA/\(∀f,cB2 (fs.lookup f)<|mA f)/\PySem.Within mA (fs.map (·.1))
 | .own _=> ∃o,h.get? a=some o
 | .xd fs=> ∃mA,h.Ns1 a mA/\ ∀f,cB2 (fs.lookup f) (mA f)
 | .rng lo hi=> ∃t u v,h.get? a=some {cls:= .type "range",data:= .fields #[.int lo t,.int hi u,.int 1 v]}
 | .frz o u=>h.get? a=some o/\rC H h a u
 | .tbl ps=>h.get? a=some {cls:= .none,data:= .fields ps}
 | .met f x=>h.get? a=some (methodObj (.ref f)<|.ref x)
 | .ext φ=>φ h/\(∃o,h.get? a=some o)/\ ∀h1 h2:Heap,φ h1->(∀o,h1.get? a=some o->h2.get? a=some o)->φ h2
def HOk (H:Hp)(h:Heap):Prop:= ∀a o,H a=some o->rC P w H h a o
end
section
variable {P:Program}{w:World}{H H':Hp}{h h':Heap}{a:Addr}{o:HO}
theorem rC.lt (x:rC P w H h a o):a<h.objs.size:=by
 cases o with
 | lst xs=>obtain⟨_,_,_,_,e⟩:=x;exact aV e
 | tup xs=>obtain⟨_,_,_,p⟩:=x;exact p.lt
 | dK kvs=>obtain⟨_,_,_,_,o,_,_,e,_⟩:=x;exact aV e
 | dT kvs=>obtain⟨_,_,_,_,o,_,_,e,_⟩:=x;exact aV e
 | set S n=>obtain⟨o,_,_,_,e,_⟩:=x;exact aV e
 | ins C dx fs=>obtain⟨_,_,_,e,_⟩:=x;exact aV e
 | own y=>obtain⟨_,e⟩:=x;exact aV e
 | xd fs=>obtain⟨_,⟨_,_,_,e,_⟩,_⟩:=x;exact aV e
 | rng lo hi=>obtain⟨_,_,_,e⟩:=x;exact aV e
 | frz ob u=>obtain⟨e,_⟩:=x;exact aV e
 | tbl ps=>exact aV (show h.get? a=some _ from x)
 | met f y=>exact aV (show h.get? a=some _ from x)
 | ext φ=>obtain⟨_,⟨_,e⟩,_⟩:=x;exact aV e
theorem Paired.mapP {α β:Type}{F G:α->β->Prop}: ∀{l₁:List α} {l₂:List β},Paired F l₁ l₂->(∀a b,F a b->G a b)->Paired G l₁ l₂
 | _,_,.nil,_=> .nil
 | _,_,.cons r t,f=> .cons (f _ _ r) (Paired.mapP t f)
theorem rC.stay (x:rC P w H h a o)(k: ∀b u,(b=a\/H b=some (.own a))->h.get? b=some u->h'.get? b=some u)
  (ho: ∀b,H b=some (.own a)->H' b=some (.own a)) (ht: ∀b xs,H b=some (.tup xs)->H' b=some (.tup xs)):rC P w H' h' a o:=by
 induction o with
 | lst xs=>obtain⟨z,its,n,r,e⟩:=x;exact⟨z,its,n,r,k _ _ (.inl rfl) e⟩
 | tup xs=>obtain⟨z,its,r,ob,e,c⟩:=x;exact⟨z,its,r,ob,k _ _ (.inl rfl) e,c⟩
 | dK kvs=>obtain⟨z,y,vs,r,ob,es,ep,e,c⟩:=x;exact⟨z,y,vs,r,ob,es,ep,k _ _ (.inl rfl) e,c⟩
 | dT kvs=>
  obtain⟨z,y,xs,r,ob,es,ep,e,c⟩:=x;exact⟨z,y,xs,Paired.mapP r λp q z=>⟨z.1,ht _ _ z.2.1,z.2.2⟩,ob,es,ep,k _ _ (.inl rfl) e,c⟩
 | set S n=>obtain⟨ob,es,ep,t,e,c⟩:=x;exact⟨ob,es,ep,t,k _ _ (.inl rfl) e,c⟩
 | ins C dx fs=>
  obtain⟨d,z,ne,e,mA,⟨od,es,ep,e2,c⟩,r⟩:=x;exact⟨ho _ d,z,ne,k _ _ (.inl rfl) e,mA,⟨od,es,ep,k _ _ (.inr d) e2,c⟩,r⟩
 | own y=>obtain⟨ob,e⟩:=x;exact⟨ob,k _ _ (.inl rfl) e⟩
 | xd fs=>obtain⟨mA,⟨od,es,ep,e,c⟩,r⟩:=x;exact⟨mA,⟨od,es,ep,k _ _ (.inl rfl) e,c⟩,r⟩
 | rng lo hi=>obtain⟨t,u,v,e⟩:=x;exact⟨t,u,v,k _ _ (.inl rfl) e⟩
 | frz ob u ih=>obtain⟨e,q⟩:=x;exact⟨k _ _ (.inl rfl) e,ih q⟩
 | tbl ps=>
  have e:h.get? a=some {cls:= .none,data:= .fields ps}:=x;show h'.get? a=some {cls:= .none,data:= .fields ps};exact k a _ (.inl rfl) e
 | met f y=>
  have e:h.get? a=some (methodObj (.ref f)<|.ref y):=x;show h'.get? a=some (methodObj (.ref f)<|.ref y);exact k a _ (.inl rfl) e
 | ext φ=>obtain⟨p,⟨o,e⟩,st⟩:=x;exact⟨st _ _ p λo q=>k _ _ (.inl rfl) q,⟨o,k _ _ (.inl rfl) e⟩,st⟩
theorem HOk.lt (x:HOk P w H h)(e:H a=some o):a<h.objs.size:=(x a o e).lt
theorem HOk.fresh (x:HOk P w H h)(e:h.objs.size<=a):H a=none:=by
 cases q:H a with
 | none=>rfl
 | some u=>exact absurd (b6 (x.lt q) e) (d8 _)
theorem HOk.kept (x:HOk P w H h)(k: ∀b u,h.get? b=some u->h'.get? b=some u):HOk P w H h':=λa o e=>
 (x a o e).stay (λb u _ q=>k b u q) (λ_ q=>q) λ_ _ q=>q
theorem HOk.laid (x:HOk P w H h)(k: ∀b u,h.get? b=some u->h'.get? b=some u)(hp:h.objs.size<=a)(new:rC P w (upd H a o) h' a o):HOk P w (upd H a o) h':=λb u e=>by
 have hn:=x.fresh hp
 by_cases hb:b=a
 ·subst hb;rw[iB]at e;cases e;exact new
 ·rw[cG hb]at e;exact(x b u e).stay (λc v _ q=>k c v q) (λc q=>by rw[cG<|cX q hn];exact q) λc xs q=>by rw[cG<|cX q hn];exact q
end
def Rd (H:Hp)(a:Addr)(u:HO):Prop:=H a=some u\/ ∃o,H a=some (.frz o u)
theorem Rd.ok {P:Program}{w:World}{H:Hp}{h:Heap}{a:Addr}{u:HO}(r:Rd H a u)(x:HOk P w H h):rC P w H h a u:=by
 rcases r with r| ⟨o,r⟩
 ·exact x a u r
 ·obtain⟨_,q⟩:=x a _ r;exact q
def Mut:Option HO->Prop
 | some (.lst _)=>True
 | some (.dK _)=>True
 | some (.dT _)=>True
 | some (.set _ _)=>True
 | some (.ins _ _ _)=>True
 | some (.ext _)=>True
 | _=>False
section
variable {P:Program}{w:World}{H:Hp}{h h':Heap}{x e:Addr}{o':HO}
theorem HOk.write (ok:HOk P w H h)(mu:Mut (H x))(he:e=x\/H e=some (.own x))(k: ∀b u,b≠e->h.get? b=some u->h'.get? b=some u)(heo: ∃u,h'.get? e=some u)
  (new:rC P w (upd H x o') h' x o'):HOk P w (upd H x o') h':=λb u q=>by
 have nown: ∀c y,H c=some (.own y)->c≠x:=λc y r z=>by subst z;rw[r]at mu;exact mu
 have ntup: ∀c xs,H c=some (.tup xs)->c≠x:=λc xs r z=>by subst z;rw[r]at mu;exact mu
 by_cases hb:b=x
 ·subst hb;rw[iB]at q;cases q;exact new
 ·rw[cG hb]at q
  by_cases hbe:b=e
  ·have q':H b=some (.own x):=by
    rcases he with z|z
    ·exact absurd (hbe.trans z) hb
    ·rw[hbe];exact z
   rw[q]at q';cases q';obtain⟨v,hv⟩:=heo;exact⟨v,by rw[hbe];exact hv⟩
  ·refine(ok b u q).stay (λc v hc r=>k c v ?_ r) (λc r=>by rw[cG<|nown c b r];exact r) λc xs r=>by rw[cG<|ntup c xs r];exact r
   rcases hc with rfl|hc
   ·exact hbe
   ·rintro rfl;rcases he with z|z
    ·exact nown c b hc z
    ·rw[hc]at z;cases z;exact hb rfl
end
structure Un (fs ex:List Addr)(H H':Hp)(h h':Heap):Prop where
 keep: ∀b o,h.get? b=some o->H b=none->b ∉ fs->b ∉ ex->h'.get? b=some o
 slot: ∀b o,h.get? b=some o->H b=none->b∈fs->b ∉ ex-> ∃sl,h'.get? b=some {o with slots:=sl}
 free: ∀b o,h.get? b=some o->H b=none->b ∉ ex->H' b=none
 there: ∀b o,h.get? b=some o->b ∉ ex-> ∃o',h'.get? b=some o'
 tups: ∀b xs,H b=some (.tup xs)->H' b=some (.tup xs)
 frzs: ∀b o u,H b=some (.frz o u)->H' b=some (.frz o u)
 tbls: ∀b ps,H b=some (.tbl ps)-> ∃more,H' b=some (.tbl<|ps++more)
section
variable {fs fs' ex ex':List Addr}{H H1 H2:Hp}{h h1 h2 h':Heap}{a x e:Addr}{o:HO}
theorem Un.any (u:Un fs ex H H1 h h1){b:Addr}{ob:Obj}(q:h.get? b=some ob)(n:H b=none)(hx:b ∉ ex): ∃sl,h1.get? b=some {ob with slots:=sl}:=by
 by_cases hb:b∈fs
 ·exact u.slot b ob q n hb hx
 ·exact⟨ob.slots,u.keep b ob q n hb hx⟩
theorem Un.kept (k: ∀b u,h.get? b=some u->h'.get? b=some u):Un fs ex H H h h':=
 ⟨λb ob q _ _ _=>k b ob q,λb ob q _ _ _=>⟨ob.slots,k b ob q⟩,λ_ _ _ n _=>n,λb ob q _=>⟨ob,k b ob q⟩,λ_ _ q=>q,λ_ _ _ q=>q,λ_ ps q=>⟨#[],by rw[q];simp⟩⟩
theorem Un.refl:Un fs ex H H h h:=Un.kept λ_ _ q=>q
theorem Un.laid (k: ∀b u,h.get? b=some u->h'.get? b=some u)(hp:h.objs.size<=a)(hn:H a=none):Un fs ex H (upd H a o) h h' where
 keep:=λb u q _ _ _=>k b u q
 slot:=λb u q _ _ _=>⟨u.slots,k b u q⟩
 free:=λb u q n _=>by rw[cG<|bG<|b6 (aV q) hp];exact n
 there:=λb u q _=>⟨u,k b u q⟩
 tups:=λb xs q=>by rw[cG<|cX q hn];exact q
 frzs:=λb u xs q=>by rw[cG<|cX q hn];exact q
 tbls:=λb ps q=>⟨#[],by rw[cG<|cX q hn,q];simp⟩
theorem Un.write (mu:Mut (H x))(he:e=x\/H e=some (.own x))(k: ∀b u,b≠e->h.get? b=some u->h'.get? b=some u)(heo: ∃u,h'.get? e=some u):Un fs ex H (upd H x o) h h':=by
 have hx: ∀b,H b=none->b≠x:=λb n z=>by subst z;rw[n]at mu;exact mu
 have hb: ∀b,H b=none->b≠e:=λb n z=>by
  subst z;rcases he with r|r
  ·exact hx b n r
  ·rw[n]at r;cases r
 have hm: ∀b u,H b=some u-> ¬Mut (some u)->b≠x:=λb u q nm z=>by subst z;rw[q]at mu;exact nm mu
 refine⟨λb u q n _ _=>k b u (hb b n) q,λb u q n _ _=>⟨u.slots,k b u (hb b n) q⟩,λb u q n _=>by rw[cG<|hx b n];exact n,λb u q _=> ?_,
  λb xs q=>by rw[cG<|hm b _ q λz=>z];exact q,λb u xs q=>by rw[cG<|hm b _ q λz=>z];exact q,λb ps q=>⟨#[],by rw[cG<|hm b _ q λz=>z,q];simp⟩⟩
 by_cases hbe:b=e
 ·subst hbe;exact heo
 ·exact⟨u,k b u hbe q⟩
end
noncomputable def trk (h:Heap)(H:Hp):List Addr:=(List.range h.objs.size).filter λa=>(H a).isSome
noncomputable def bR5 (h:Heap)(H:Hp):Heap:=PySem.W.hideAll h (trk h H)
theorem cO6 (h:Heap)(H:Hp):(bR5 h H).objs.size=h.objs.size:=PySem.W.hideAll_size _ _
theorem cV9 {h:Heap}{H:Hp}{b:Addr}{o:Obj}(e:h.get? b=some o)(n:H b=none):(bR5 h H).get? b=some o:=
 PySem.W.hideAll_get _ e λhm=>by
  have q:(H b).isSome=true:=(nA.mp hm).2;rw[n]at q;simp at q
theorem dA0 {h:Heap}{H:Hp}{b:Addr}{o:Obj}(e:(bR5 h H).get? b=some o):h.get? b=some o/\H b=none:=by
 have e':h.get? b=some o:=tP (trk h H) e;refine⟨e',?_⟩;cases q:H b with
 | none=>rfl
 | some x=>
  have hm:b∈trk h H:=nA.mpr ⟨dU.mpr<|aV e',by simp[q]⟩
  have z:(bR5 h H).get? b=none:=PySem.W.hideAll_none (trk h H) hm;rw[z]at e;cases e
noncomputable def dA1 (g h:Heap)(L:Addr):List (Addr×Obj):=(List.range h.objs.size).filterMap λa=>if a=L\/(g.get? a).isSome=true then none else(h.get? a).map λo=>(a,o)
noncomputable def rW (g h:Heap)(L d:Addr):List (Addr×Obj):=(dA1 g h L).filter λp=>decide (p.1≠d)
end L2
namespace L2
open PySem PySem.Spec PyProof.Rows
structure Mod (K:Frag)(mg:Str->Option Value)(base:Heap):Prop where
 kin:K.In base
 glob:base.Ns mainGlobals mg
 blt: ∃mb,base.Ns builtinsNs mb/\ ∀x:Str,x≠"__name__"->mb x=bootBuiltins x
 nolimit:base.NoLimit
structure Cx where
 prog:Program
 w:World
 K:Frag
 mg:Str->Option Value
 base:Heap
 A:Around
 N:List Str
 s₀:Shared
 H₀:Hp
 env:Env
 outer:List Env
 stack:List Env
 ex:List Addr
 fn:Str->Bool
 calm:Bool
 pn:List (Addr×Obj)
 xe:Value->Shared->Prop
noncomputable def frs (l:List Env):List Addr:=l.filterMap (·.frame)
noncomputable abbrev Cx.fs (X:Cx):List Addr:=frs X.outer
def Vis (sc:Scope)(x:Str):Prop:=sc.names.lookup x=some .local\/sc.names.lookup x=some .cell\/sc.names.lookup x=some .free
def Loc (sc:Scope)(x:Str):Prop:=sc.names.lookup x=some .local\/sc.names.lookup x=some .cell
def Look (env:Env)(h:Heap)(m:Str->Option Value)(x:Str)(u:Value):Prop:=
 (env.kindOf x=some .local/\m x=some u)\/((env.kindOf x=some .cell\/env.kindOf x=some .free)/\ ∃c,env.cells.lookup x=some c/\h.IsCell c (some u))
structure Cx.Ok (X:Cx):Prop where
 mod:Mod X.K X.mg X.base
 kind:X.env.scope.kind= .function
 glob:X.env.globals=mainGlobals
 blt:X.env.builtins=builtinsNs
 above:X.s₀.heap.objs.size<=X.env.locals
 inj: ∀x y c,X.env.cells.lookup x=some c->X.env.cells.lookup y=some c->x=y
 has: ∀x,(X.env.kindOf x=some .cell\/X.env.kindOf x=some .free)-> ∃c,X.env.cells.lookup x=some c
 cab: ∀x c,X.fn x=true->X.env.cells.lookup x=some c->X.s₀.heap.objs.size<=c
 hd:X.calm=true->X.A.handled=none
 frames:X.A.frames=some X.stack
 stk:X.stack=X.outer\/(X.stack=X.env::X.outer/\X.env.frame=some X.env.locals)
 exf: ∀b∈X.ex,b≠X.env.locals/\ ∀x c,X.env.cells.lookup x=some c->c≠b
 bs: ∀b o,X.base.get? b=some o->X.s₀.heap.get? b=some o/\X.H₀ b=none
 bsz:X.base.objs.size<=X.s₀.heap.objs.size
 noex: ∀b o,X.base.get? b=some o->b ∉ X.ex
 exfs: ∀b∈X.ex,b ∉ X.fs
 funs:X.s₀.heap.FunFrames X.base X.outer
 frf: ∀b∈X.fs,X.H₀ b=none
structure Inv (X:Cx)(pins:List (Addr×Obj))(σ:List (Option V))(H:Hp)(s:Shared):Prop where
 ok:X.Ok
 os:s.os=X.s₀.os
 bare:AllBare s.gens
 base:Un X.fs X.ex X.H₀ H X.s₀.heap s.heap
 loc: ∃m,s.heap.Ns X.env.locals m/\ ∀(i:Nat) (x:Str) (v:V),X.N[i]? =some x->σ[i]? =some (some v)->Vis X.env.scope x-> ∃u,RelV v u/\Look X.env s.heap m x u
 cell: ∀x c,X.env.cells.lookup x=some c-> ∃v,s.heap.IsCell c v
 free:H X.env.locals=none
 freeC: ∀x c,X.env.cells.lookup x=some c->H c=none
 pin: ∀p∈X.pn++pins,s.heap.get? p.1=some p.2/\H p.1=none/\p.1≠X.env.locals/\p.1 ∉ X.fs/\ ∀v,p.2.data≠ .cell v
 hok:HOk X.prog X.w H s.heap
 len:σ.length=X.N.length
section
variable {X:Cx}{pins:List (Addr×Obj)}{σ:List (Option V)}{H H':Hp}{s:Shared}{h':Heap}
theorem Cx.Ok.nofr (ok:X.Ok){b:Addr}{o:Obj}(e:X.base.get? b=some o):b ∉ X.fs:=λhb=>by
 have:=(ok.funs.mem hb).1;rw[e]at this;cases this
theorem Inv.bs (I:Inv X pins σ H s): ∀b o,X.base.get? b=some o->s.heap.get? b=some o/\H b=none:=λb o e=>
 ⟨I.base.keep b o (I.ok.bs b o e).1 (I.ok.bs b o e).2 (I.ok.nofr e)<|I.ok.noex b o e,I.base.free b o (I.ok.bs b o e).1 (I.ok.bs b o e).2<|I.ok.noex b o e⟩
theorem Inv.bk (I:Inv X pins σ H s): ∀b o,X.base.get? b=some o->s.heap.get? b=some o:=λb o e=>(I.bs b o e).1
theorem Inv.mod (I:Inv X pins σ H s):Mod X.K X.mg X.base:=I.ok.mod
theorem Inv.kIn (I:Inv X pins σ H s):X.K.In s.heap:=I.ok.mod.kin.keeps I.bk
theorem Inv.nolimit (I:Inv X pins σ H s):s.heap.NoLimit:=I.ok.mod.nolimit.keeps I.bk
theorem Inv.lt (I:Inv X pins σ H s):X.env.locals<s.heap.objs.size:=let ⟨_,hn,_⟩:=I.loc;hn.lt
theorem Inv.sz (I:Inv X pins σ H s):X.s₀.heap.objs.size<=s.heap.objs.size:=aM I.ok.above (kE I.lt)
theorem Inv.nofs (I:Inv X pins σ H s){a:Addr}(h:s.heap.objs.size<=a):a ∉ X.fs:=λhb=>by
 obtain⟨_,o,ho,_⟩:=I.ok.funs.mem hb;exact absurd (b6 (aV ho)<|aM I.sz h) (d8 _)
theorem Inv.cne (I:Inv X pins σ H s): ∀x c,X.env.cells.lookup x=some c->c≠X.env.locals:=λx c e z=>by
 obtain⟨v,o,ho,hd⟩:=I.cell x c e;obtain⟨m,⟨o',es,ep,ho',hd',_⟩,_⟩:=I.loc;rw[z,ho']at ho;cases ho;rw[hd']at hd;cases hd
theorem Inv.funs (I:Inv X pins σ H s):s.heap.FunFrames X.base X.outer:=by
 have all: ∀(l:List Env),(∀b∈frs l,b∈X.fs)->X.s₀.heap.FunFrames X.base l->s.heap.FunFrames X.base l:=by
  intro l
  induction l with
  | nil=>intro _ _;trivial
  | cons env r ih=>
   intro hs hl;obtain⟨hk,⟨L,o,hf,hn,ho,hd⟩,hr⟩:=hl;have hL:L∈X.fs:=hs L (by unfold frs;rw[jA,hf];exact bC)
   obtain⟨sl,e⟩:=I.base.slot L o ho (I.ok.frf L hL) hL λz=>I.ok.exfs L z hL
   exact⟨hk,⟨L,_,hf,hn,e,hd⟩,ih (λb hb=>hs b (by unfold frs;rw[jA,hf];exact bM _ hb)) hr⟩
 exact all X.outer (λ_ hb=>hb) I.ok.funs
theorem Inv.stack (I:Inv X pins σ H s):s.heap.FunFrames X.base X.stack:=by
 rcases I.ok.stk with e| ⟨e,hf⟩
 ·rw[e];exact I.funs
 ·rw[e];obtain⟨m,hn,_⟩:=I.loc;refine .cons (by rw[I.ok.kind];decide) hf hn ?_ I.funs
  exact k7 (aM I.ok.bsz I.ok.above)
theorem Inv.stkSub (I:Inv X pins σ H s): ∀b∈frs X.stack,b∈X.env.locals::X.fs:=λb hb=>by
 rcases I.ok.stk with e| ⟨e,hf⟩
 ·rw[e]at hb;exact bM _ hb
 ·rw[e]at hb;unfold frs at hb;rw[jA,hf]at hb;exact hb
theorem Inv.stkFree (I:Inv X pins σ H s): ∀b∈frs X.stack,H b=none:=λb hb=>by
 rcases aX.mp (I.stkSub b hb)with e|hb
 ·rw[e];exact I.free
 ·obtain⟨_,o,ho,_⟩:=I.ok.funs.mem hb;exact I.base.free b o ho (I.ok.frf b hb) λz=>I.ok.exfs b z hb
theorem Inv.step {g':Array GenState}{t':Nat}{d':Drawn}{ch:List Addr}(I:Inv X pins σ H s)
  (hch: ∀b∈ch,(b∈X.ex\/X.s₀.heap.objs.size<=b)/\b≠X.env.locals/\(∀x c,X.env.cells.lookup x=some c->c≠b)/\ ∀p∈X.pn++pins,p.1≠b)
  (keep: ∀b o,b≠X.env.locals->b ∉ X.fs->b ∉ ch->s.heap.get? b=some o->H b=none->h'.get? b=some o)
  (slot: ∀b o,b≠X.env.locals->b∈X.fs->b ∉ ch->s.heap.get? b=some o->H b=none-> ∃sl,h'.get? b=some {o with slots:=sl}) (free: ∀b o,b ∉ ch->s.heap.get? b=some o->H b=none->H' b=none)
  (there: ∀b o,b ∉ ch->s.heap.get? b=some o-> ∃o',h'.get? b=some o')
  (tups: ∀b xs,H b=some (.tup xs)->H' b=some (.tup xs)) (frzs: ∀b o u,H b=some (.frz o u)->H' b=some (.frz o u)) (tbls: ∀b ps,H b=some (.tbl ps)-> ∃more,H' b=some (.tbl<|ps++more))
  (ns: ∀m,s.heap.Ns X.env.locals m->h'.Ns X.env.locals m) (hok:HOk X.prog X.w H' h') (hg:AllBare g') :
  Inv X pins σ H' {s with heap:=h',gens:=g',drawn:=d',toks:=t'}:=by
 have neL: ∀b o,X.s₀.heap.get? b=some o->b≠X.env.locals:=λb o e=>bG (b6 (aV e) I.ok.above)
 have neC: ∀b o,X.s₀.heap.get? b=some o->b ∉ X.ex->b ∉ ch:=λb o e hx hb=>by
  rcases(hch b hb).1 with z|z
  ·exact hx z
  ·exact absurd (b6 (aV e) z) (d8 _)
 have cellK: ∀x c,X.env.cells.lookup x=some c-> ∀v,s.heap.IsCell c v->h'.IsCell c v:=λx c e v ⟨o,ho,hd⟩=>by
  have nch:c ∉ ch:=λz=>(hch c z).2.2.1 x c e rfl
  by_cases hc:c∈X.fs
  ·obtain⟨sl,q⟩:=slot c o (I.cne x c e) hc nch ho (I.freeC x c e);exact⟨_,q,hd⟩
  ·exact⟨o,keep c o (I.cne x c e) hc nch ho<|I.freeC x c e,hd⟩
 refine⟨I.ok,I.os,hg,⟨λb o e n hb hx=> ?_,λb o e n hb hx=> ?_,λb o e n hx=> ?_,λb o e hx=> ?_,λb xs e=>tups b xs (I.base.tups b xs e),λb o xs e=>frzs b o xs (I.base.frzs b o xs e),λb ps e=> ?_⟩,?_,λx c e=> ?_,?_,λx c e=> ?_,λp hp=> ?_,hok,I.len⟩
 ·exact keep b o (neL b o e) hb (neC b o e hx) (I.base.keep b o e n hb hx) (I.base.free b o e n hx)
 ·obtain⟨sl,e1⟩:=I.base.slot b o e n hb hx;obtain⟨sl',e2⟩:=slot b _ (neL b o e) hb (neC b o e hx) e1 (I.base.free b o e n hx);exact⟨sl',e2⟩
 ·obtain⟨o',e1⟩:=I.base.there b o e hx;exact free b o' (neC b o e hx) e1 (I.base.free b o e n hx)
 ·obtain⟨o',e1⟩:=I.base.there b o e hx;exact there b o' (neC b o e hx) e1
 ·obtain⟨m1,e1⟩:=I.base.tbls b ps e;obtain⟨m2,e2⟩:=tbls b _ e1;exact⟨m1++m2,by rw[e2,Array.append_assoc]⟩
 ·obtain⟨m,hn,hl⟩:=I.loc;refine⟨m,ns m hn,λi x v e1 e2 e3=> ?_⟩
  obtain⟨u,r,l⟩:=hl i x v e1 e2 e3;refine⟨u,r,?_⟩;rcases l with l| ⟨k,c,e,z⟩
  ·exact .inl l
  ·exact .inr ⟨k,c,e,cellK x c e _ z⟩
 ·obtain⟨v,z⟩:=I.cell x c e;exact⟨v,cellK x c e v z⟩
 ·obtain⟨m,⟨o,_,_,ho,_⟩,_⟩:=I.loc;exact free _ o (λz=>(hch _ z).2.1 rfl) ho I.free
 ·obtain⟨v,o,ho,hd⟩:=I.cell x c e;exact free c o (λz=>(hch c z).2.2.1 x c e rfl) ho (I.freeC x c e)
 ·obtain⟨e,n,ne,nf,d⟩:=I.pin p hp;have nch:p.1 ∉ ch:=λz=>(hch p.1 z).2.2.2 p hp rfl
  exact⟨keep p.1 p.2 ne nf nch e n,free p.1 p.2 nch e n,ne,nf,d⟩
theorem Inv.un {t':Nat}(I:Inv X pins σ H s)(u:Un X.fs [] H H' s.heap h')(hok:HOk X.prog X.w H' h'):Inv X pins σ H' {s with heap:=h',toks:=t'}:=by
 obtain⟨m,⟨o,es,ep,ho,r⟩,_⟩:=id I.loc;obtain⟨sl,hL⟩:=u.any ho I.free ae
 exact I.step (g':=s.gens) (d':=s.drawn) (ch:=[]) (λ_ z=>nomatch z) (λb o _ hb _ e n=>u.keep b o e n hb ae) (λb o _ hb _ e n=>u.slot b o e n hb ae) (λb o _ e n=>u.free b o e n ae) (λb o _ e=>u.there b o e ae) u.tups u.frzs u.tbls (λm' hm=>by
  obtain⟨o',es',ep',ho',r'⟩:=hm;rw[ho]at ho';cases ho';exact⟨_,es',ep',hL,r'⟩) hok I.bare
theorem Inv.call {g':Array GenState}{t':Nat}{d':Drawn}{ch:List Addr}(I:Inv X pins σ H s)(u:Un (frs X.stack) ch H H' s.heap h')(hok:HOk X.prog X.w H' h')(hg:AllBare g')
  (hch: ∀b∈ch,(b∈X.ex\/X.s₀.heap.objs.size<=b)/\b≠X.env.locals/\(∀x c,X.env.cells.lookup x=some c->c≠b)/\ ∀p∈X.pn++pins,p.1≠b) :
  Inv X pins σ H' {s with heap:=h',gens:=g',drawn:=d',toks:=t'}:=by
 obtain⟨m,⟨o,es,ep,ho,r⟩,_⟩:=id I.loc;obtain⟨sl,hL⟩:=u.any ho I.free λz=>(hch _ z).2.1 rfl
 exact I.step (ch:=ch) hch (λb o hL hb hc e n=>u.keep b o e n (λz=>(aX.mp<|I.stkSub b z).elim hL hb) hc) (λb o _ _ hc e n=>u.any e n hc) (λb o hc e n=>u.free b o e n hc) (λb o hc e=>u.there b o e hc) u.tups u.frzs u.tbls (λm' hm=>by
  obtain⟨o',es',ep',ho',r'⟩:=hm;rw[ho]at ho';cases ho';exact⟨_,es',ep',hL,r'⟩) hok hg
theorem Inv.turned {t':Nat}{it:Addr}(I:Inv X pins σ H s)(k: ∀b o,b≠it->s.heap.get? b=some o->h'.get? b=some o)(hn:H it=none)(hL:it≠X.env.locals)
  (h1:it∈X.ex\/X.s₀.heap.objs.size<=it) (h2: ∀x c,X.env.cells.lookup x=some c->c≠it) (h3: ∀p∈X.pn++pins,p.1≠it):Inv X pins σ H {s with heap:=h',toks:=t'}:=by
 have nit: ∀b u,H b=some u->b≠it:=λb u e z=>by rw[z,hn]at e;cases e
 refine I.step (g':=s.gens) (d':=s.drawn) (ch:=[it]) (λb hb=> ?_) (λb o _ _ hc e _=>k b o (λz=>hc (by simp[z])) e) (λb o _ _ hc e _=>⟨o.slots,k b o (λz=>hc (by simp[z])) e⟩) (λ_ _ _ _ n=>n)
  (λb o hc e=>⟨o,k b o (λz=>hc (by simp[z])) e⟩) (λ_ _ e=>e) (λ_ _ _ e=>e) (λb ps e=>⟨#[],by rw[e];simp⟩) (λm hm=> ?_) (λb u e=> ?_) I.bare
 ·have e:b=it:=by simpa using hb
  subst e;exact⟨h1,hL,h2,h3⟩
 ·obtain⟨o,es,ep,ho,r⟩:=hm;exact⟨o,es,ep,k _ o (Ne.symm hL) ho,r⟩
 ·refine(I.hok b u e).stay (λc v hc q=>k c v ?_ q) (λ_ q=>q) λ_ _ q=>q
  rcases hc with z|z
  ·rw[z];exact nit b u e
  ·exact nit c _ z
theorem Inv.tok (I:Inv X pins σ H s)(t:Nat):Inv X pins σ H {s with toks:=t}:=I.un (h':=s.heap) (t':=t) Un.refl I.hok
theorem Inv.kept {t':Nat}(I:Inv X pins σ H s)(k: ∀b u,s.heap.get? b=some u->h'.get? b=some u):Inv X pins σ H {s with heap:=h',toks:=t'}:=I.un (Un.kept k) (I.hok.kept k)
theorem Inv.laid {a:Addr}{o:HO}{t':Nat}(I:Inv X pins σ H s)(k: ∀b u,s.heap.get? b=some u->h'.get? b=some u)(hp:s.heap.objs.size<=a)(new:rC X.prog X.w (upd H a o) h' a o) :
  Inv X pins σ (upd H a o) {s with heap:=h',toks:=t'}:=I.un (Un.laid k hp<|I.hok.fresh hp) (I.hok.laid k hp new)
theorem Inv.write {x e:Addr}{o:HO}{t':Nat}(I:Inv X pins σ H s)(mu:Mut (H x))(he:e=x\/H e=some (.own x))(k: ∀b u,b≠e->s.heap.get? b=some u->h'.get? b=some u)(heo: ∃u,h'.get? e=some u)
  (new:rC X.prog X.w (upd H x o) h' x o):Inv X pins σ (upd H x o) {s with heap:=h',toks:=t'}:=I.un (Un.write mu he k heo) (I.hok.write mu he k heo new)
theorem Inv.pins_of {pins':List (Addr×Obj)}(I:Inv X pins σ H s)(h: ∀p∈pins',s.heap.get? p.1=some p.2/\H p.1=none/\p.1≠X.env.locals/\p.1 ∉ X.fs/\ ∀v,p.2.data≠ .cell v):Inv X pins' σ H s:=
 ⟨I.ok,I.os,I.bare,I.base,I.loc,I.cell,I.free,I.freeC,λp hp=>(bW.mp hp).elim (λz=>I.pin p (k8 _ z)) (h p),I.hok,I.len⟩
theorem c05 {N:List Str}(hN:N.Nodup){i j:Nat}{x:Str}(a:N[i]? =some x)(b:N[j]? =some x):i=j:=by
 obtain⟨h1,e1⟩:=jY.mp a;obtain⟨h2,e2⟩:=jY.mp b;exact(List.getElem_inj hN).mp (e1.trans e2.symm)
theorem cO7 {M:Model}{A:Around}{E:Value->Shared->Prop}{i:Nat}{x:Str}{v:V}{u:Value}{Q:Unit->Shared->Prop}(I:Inv X pins σ H s)(hN:X.N.Nodup)(hi:X.N[i]? =some x)(hx:Loc X.env.scope x)(r:RelV v u)
  (h: ∀s',Inv X pins (σ.set i<|some v) H s'->(∃a,SameBut a s.heap s'.heap/\(a=X.env.locals\/X.env.cells.lookup x=some a))->Q () s') (hf:X.fn x=true\/X.env.scope.names.lookup x=some .local:=by walk_at "z"):wpAny M A (storeName X.env x u) Q E s:=by
 obtain⟨m,hn,hl⟩:=id I.loc;have hcls:(X.env.scope.kind== .class||(X.env.scope.kind== .module&&X.env.locals != X.env.globals))=false:=by rw[I.ok.kind];rfl
 have hiσ:i<σ.length:=by rw[I.len];exact(jY.mp hi).1
 have cne:=I.cne;have tracked: ∀{a:Addr} {h':Heap},(∃o,s.heap.get? a=some o/\H a=none)->SameBut a s.heap h'->HOk X.prog X.w H h':=λ{a h'} ha hs b ob e=>by
  obtain⟨_,_,hfree⟩:=ha;refine(I.hok b ob e).stay (λc w' hc q=>(hs.2 c ?_).trans q) (λ_ q=>q) λ_ _ q=>q
  rintro rfl;rcases hc with rfl|hc
  ·rw[hfree]at e;cases e
  ·rw[hfree]at hc;cases hc
 rcases hx with hk|hk
 ·refine wpAny_storeName_local hk hn (λh' hn' hs=> ?_) hcls
  obtain⟨oL,_,_,hoL,_⟩:=id hn;refine h _ ⟨I.ok,I.os,I.bare,⟨λb o e n hb hx=> ?_,λb o e n hb hx=> ?_,I.base.free,λb o e hx=> ?_,I.base.tups,I.base.frzs,I.base.tbls⟩,⟨_,hn',λj y v' e1 e2 e3=> ?_⟩,λy c e=> ?_,I.free,I.freeC,λp hp=> ?_,tracked ⟨oL,hoL,I.free⟩ hs,by simpa using I.len⟩ ⟨_,hs,.inl rfl⟩
  ·exact(hs.2 b<|bG<|b6 (aV e) I.ok.above).trans (I.base.keep b o e n hb hx)
  ·obtain⟨sl,e1⟩:=I.base.slot b o e n hb hx;exact⟨sl,(hs.2 b<|bG<|b6 (aV e) I.ok.above).trans e1⟩
  ·obtain⟨o',e1⟩:=I.base.there b o e hx;exact⟨o',(hs.2 b<|bG<|b6 (aV e) I.ok.above).trans e1⟩
  ·by_cases hj:j=i
   ·subst hj;rw[hi]at e1;cases e1;rw[List.getElem?_set_self hiσ]at e2;cases e2;exact⟨u,r,.inl ⟨hk,ae⟩⟩
   ·rw[List.getElem?_set_ne<|Ne.symm hj]at e2;obtain⟨u',r',q⟩:=hl j y v' e1 e2 e3;refine⟨u',r',?_⟩;rcases q with⟨k,e⟩| ⟨k,c,e,z⟩
    ·refine .inl ⟨k,?_⟩
     have:y≠x:=λe=>hj (c05 hN e1<|e▸hi)
     simp[this,e]
    ·exact .inr ⟨k,c,e,z.sameBut hs<|cne y c e⟩
  ·obtain⟨w',z⟩:=I.cell y c e;exact⟨w',z.sameBut hs<|cne y c e⟩
  ·obtain⟨e,n,ne,nf,d⟩:=I.pin p hp;exact⟨(hs.2 p.1 ne).trans e,n,ne,nf,d⟩
 ·have hfn:X.fn x=true:=by
   rcases hf with z|z
   ·exact z
   ·rw[z]at hk;cases hk
  obtain⟨c,hc⟩:=I.ok.has x (.inl hk);obtain⟨w',z⟩:=I.cell x c hc;refine wpAny_storeName_cell I.ok.kind hk hc z (λh' hc' hs=> ?_)
  obtain⟨oc,hoc,hocd⟩:=id z;refine h {s with heap:=h'} ⟨I.ok,I.os,I.bare,⟨λb o e n hb hx=> ?_,λb o e n hb hx=> ?_,I.base.free,λb o e hx=> ?_,I.base.tups,I.base.frzs,I.base.tbls⟩,⟨m,hn.sameBut hs<|Ne.symm<|cne x c hc,λj y v' e1 e2 e3=> ?_⟩,λy c' e=> ?_,I.free,I.freeC,λp hp=> ?_,tracked ⟨oc,hoc,I.freeC x c hc⟩ hs,by simpa using I.len⟩ ⟨c,hs,.inr hc⟩
  ·exact(hs.2 b<|bG<|b6 (aV e)<|I.ok.cab x c hfn hc).trans (I.base.keep b o e n hb hx)
  ·obtain⟨sl,e1⟩:=I.base.slot b o e n hb hx;exact⟨sl,(hs.2 b<|bG<|b6 (aV e)<|I.ok.cab x c hfn hc).trans e1⟩
  ·obtain⟨o',e1⟩:=I.base.there b o e hx;exact⟨o',(hs.2 b<|bG<|b6 (aV e)<|I.ok.cab x c hfn hc).trans e1⟩
  ·by_cases hj:j=i
   ·subst hj;rw[hi]at e1;cases e1;rw[List.getElem?_set_self hiσ]at e2;cases e2;exact⟨u,r,.inr ⟨.inl hk,c,hc,hc'⟩⟩
   ·rw[List.getElem?_set_ne<|Ne.symm hj]at e2;obtain⟨u',r',q⟩:=hl j y v' e1 e2 e3;refine⟨u',r',?_⟩;rcases q with q| ⟨k,c',e,z'⟩
    ·exact .inl q
    ·refine .inr ⟨k,c',e,z'.sameBut hs ?_⟩
     rintro rfl;exact hj (c05 hN e1<|I.ok.inj _ _ _ e hc▸hi)
  ·by_cases hcc:c'=c
   ·subst hcc;exact⟨_,hc'⟩
   ·obtain⟨w2,z2⟩:=I.cell y c' e;exact⟨w2,z2.sameBut hs hcc⟩
  ·obtain⟨e,n,ne,nf,d⟩:=I.pin p hp;refine⟨(hs.2 p.1 ?_).trans e,n,ne,nf,d⟩;intro q;rw[q,hoc]at e;have q':oc=p.2:=gE e;exact d w' (by rw[<-q'];exact hocd)
theorem y8 {M:Model}{A:Around}{E:Value->Shared->Prop}{i:Nat}{x:Str}{v:V}{u:Value}{Q:Unit->Shared->Prop}(I:Inv X pins σ H s)(hN:X.N.Nodup)(hi:X.N[i]? =some x)(hx:Loc X.env.scope x)(r:RelV v u)
  (h: ∀s',Inv X pins (σ.set i<|some v) H s'->Q () s') (hf:X.fn x=true\/X.env.scope.names.lookup x=some .local:=by walk_at "z"):wpAny M A (storeName X.env x u) Q E s:=
 cO7 I hN hi hx r (λs' I' _=>h s' I') hf
theorem Inv.call' {s':Shared}{ch:List Addr}(I:Inv X pins σ H s)(ho:s'.os=s.os)(u:Un (frs X.stack) ch H H' s.heap s'.heap)(hok:HOk X.prog X.w H' s'.heap)(hg:AllBare s'.gens)
  (hch: ∀b∈ch,(b∈X.ex\/X.s₀.heap.objs.size<=b)/\b≠X.env.locals/\(∀x c,X.env.cells.lookup x=some c->c≠b)/\ ∀p∈X.pn++pins,p.1≠b):Inv X pins σ H' s':=by
 obtain⟨h',g',d',t',o'⟩:=s';have e:o'=s.os:=ho;subst e;exact I.call (g':=g') (t':=t') (d':=d') u hok hg hch
end
abbrev XK:=Value->Option Addr->Hp->Prop
abbrev St:=List (Option V)
abbrev VK:=V->Hp->Prop
abbrev TE:=St->Hp->VK->Prop
abbrev TT:=St->Hp->(Bool->Hp->Prop)->Prop
abbrev TA:=St->Hp->(List V->Hp->Prop)->Prop
structure bJ1 where
 nx:St->Hp->Prop
 rt:VK
 bk:St->Hp->Prop:=λ_ _=>False
 ct:St->Hp->Prop:=λ_ _=>False
abbrev TS:=bJ1->St->Hp->Prop
def EP (X:Cx)(pins:List (Addr×Obj))(σ:St)(Q:VK)(u:Value)(s':Shared):Prop:= ∃v H',Inv X pins σ H' s'/\RelV v u/\Q v H'
def TP (X:Cx)(pins:List (Addr×Obj))(σ:St)(Q:Bool->Hp->Prop)(b:Bool)(s':Shared):Prop:= ∃H',Inv X pins σ H' s'/\Q b H'
def AP (X:Cx)(pins:List (Addr×Obj))(σ:St)(Q:List V->Hp->Prop)(us:List Value)(s':Shared):Prop:= ∃vs H',Inv X pins σ H' s'/\Vals vs us/\Q vs H'
def SP (X:Cx)(pins:List (Addr×Obj))(D:bJ1)(f:Flow)(s':Shared):Prop:=
 match f with
 | .next=> ∃σ' H',Inv X pins σ' H' s'/\D.nx σ' H'
 | .brk=> ∃σ' H',Inv X pins σ' H' s'/\D.bk σ' H'
 | .cont=> ∃σ' H',Inv X pins σ' H' s'/\D.ct σ' H'
 | .ret u=> ∃v σ' H',Inv X pins σ' H' s'/\RelV v u/\D.rt v H'
def PE (X:Cx)(e:Expr)(t:TE):Prop:=
 ∀(pins:List (Addr×Obj)) (s:Shared) (σ:St) (H:Hp) (Q:VK),Inv X pins σ H s->t σ H Q->wpAny (model X.prog X.w) X.A (eval e X.env) (EP X pins σ Q) X.xe s
def PT (X:Cx)(e:Expr)(t:TT):Prop:=
 ∀(pins:List (Addr×Obj)) (s:Shared) (σ:St) (H:Hp) (Q:Bool->Hp->Prop),Inv X pins σ H s->t σ H Q->wpAny (model X.prog X.w) X.A (isTrue e X.env<|eval e X.env) (TP X pins σ Q) X.xe s
def PW (X:Cx)(e:Expr)(t:TT):Prop:=
 ∀(whole:Sem Value) (pins:List (Addr×Obj)) (s:Shared) (σ:St) (H:Hp) (Q:Bool->Hp->Prop),Inv X pins σ H s->t σ H Q->wpAny (model X.prog X.w) X.A (isTrue e X.env whole) (TP X pins σ Q) X.xe s
theorem PW.pt {X:Cx}{e:Expr}{t:TT}(h:PW X e t):PT X e t:=h _
def PA (X:Cx)(es:List Expr)(t:TA):Prop:=
 ∀(pos:Pos) (pins:List (Addr×Obj)) (s:Shared) (σ:St) (H:Hp) (Q:List V->Hp->Prop),Inv X pins σ H s->t σ H Q->wpAny (model X.prog X.w) X.A (spliced<|backTo pos<|starEach es X.env) (AP X pins σ Q) X.xe s
def PS (X:Cx)(st:Stmt)(t:TS):Prop:=
 ∀(pins:List (Addr×Obj)) (s:Shared) (σ:St) (H:Hp) (D:bJ1),Inv X pins σ H s->t D σ H->wpAny (model X.prog X.w) X.A (exec st X.env) (SP X pins D) X.xe s
def PSs (X:Cx)(st:List Stmt)(t:TS):Prop:=
 ∀(pins:List (Addr×Obj)) (s:Shared) (σ:St) (H:Hp) (D:bJ1),Inv X pins σ H s->t D σ H->wpAny (model X.prog X.w) X.A (execs st X.env) (SP X pins D) X.xe s
theorem thn {α:Type}{t:Sem α}{Q Q':α->Shared->Prop}{M:Model}{A:Around}{E:Value->Shared->Prop}{s:Shared}(h:wpAny M A t Q E s)(hQ: ∀a s,Q a s->Q' a s):wpAny M A t Q' E s:=bI h hQ λ_ _ x=>x
end L2
namespace L2
open PySem PySem.Spec PyProof.Rows
section
variable {X:Cx}
def aG6 (i:Nat):TE:=λσ H Q=> ∃v,σ[i]? =some (some v)/\Q v H
def tC (v:V):TE:=λ_ H Q=>Q v H
theorem pe_var {i:Nat}{x:Str}{pos:Pos}(hN:X.N[i]? =some x)(hv:Vis X.env.scope x)(hd:(x==("__debug__":Str))=false:=by decide)(hcd:(x==("__classdict__":Str))=false:=by decide):PE X (.Name x pos) (aG6 i):=by
 intro pins s σ H Q I h;obtain⟨v,e,h⟩:=h;obtain⟨m,hn,hl⟩:=I.loc;obtain⟨u,r,l⟩:=hl i x v hN e hv;have fin:EP X pins σ Q u s:=⟨v,H,I,r,h⟩;rcases l with⟨hk,hm⟩| ⟨hk,c,hc,hcell⟩
 ·exact nM (pM I.ok.kind hk hn hm fin) hd
 ·rcases hk with hk|hk
  ·exact nM (wpAny_loadName_cell I.ok.kind hk hc hcell fin) hd
  ·exact nM (wpAny_loadName_free I.ok.kind hk hc hcell fin hcd) hd
theorem pe_int {i j pos}:PE X (.Constant (.int i) j pos) (tC<|.int i):=λ_ _ _ H _ I h=>wpAny_Constant_int ⟨.int i,H,I.tok _,⟨_,rfl⟩,h⟩
theorem pe_bl {b j pos}:PE X (.Constant (.bool b) j pos) (tC<|.bl b):=λ_ _ _ H _ I h=>Constant_bool ⟨.bl b,H,I,rfl,h⟩
theorem pe_non {j pos}:PE X (.Constant .none j pos) (tC .non):=λ_ _ _ H _ I h=>Constant_none ⟨.non,H,I,rfl,h⟩
theorem pe_str {x j pos}:PE X (.Constant (.str x) j pos) (tC<|.str x):=λ_ _ _ H _ I h=>Calls.Constant_str ⟨.str x,H,I.tok _,⟨_,rfl⟩,h⟩
def Gl (X:Cx)(x:Str):Prop:=X.env.kindOf x=some .globalImplicit
theorem vQ {E:Value->Shared->Prop}{pins:List (Addr×Obj)}{s:Shared}{σ:St}{H:Hp}{x:Str}{u:Value}{pos:Pos}{Q:Value->Shared->Prop}(I:Inv X pins σ H s)(hg:Gl X x)(hm:X.mg x=some u)(h:Q u s)
  (hd:(x==("__debug__":Str))=false:=by decide):wpAny (model X.prog X.w) X.A (eval (.Name x pos) X.env) Q E s:=
 Calls.Name_function_global I.ok.kind hg (Calls.loadGlobal_global (by rw[I.ok.glob];exact I.mod.glob.keeps I.bk) hm h) hd
theorem wJ {E:Value->Shared->Prop}{pins:List (Addr×Obj)}{s:Shared}{σ:St}{H:Hp}{x:Str}{u:Value}{pos:Pos}{Q:Value->Shared->Prop}(I:Inv X pins σ H s)(hg:Gl X x)(hm:X.mg x=none)(hv:bootBuiltins x=some u)(h:Q u s)
  (hn:x≠"__name__":=by decide) (hd:(x==("__debug__":Str))=false:=by decide):wpAny (model X.prog X.w) X.A (eval (.Name x pos) X.env) Q E s:=by
 obtain⟨mb,h1,h2⟩:=I.mod.blt;exact Calls.Name_function_global I.ok.kind hg (Calls.loadGlobal_builtin (by rw[I.ok.glob];exact I.mod.glob.keeps I.bk) hm (by rw[I.ok.blt];exact h1.keeps I.bk) ((h2 x hn).trans hv) h) hd
theorem cI6 {x:Str}{v:V}{u:Value}{pos:Pos}(hg:Gl X x)(hm:X.mg x=some u)(r:RelV v u)(hd:(x==("__debug__":Str))=false:=by decide):PE X (.Name x pos) (tC v):=
 λ_ _ _ H _ I h=>vQ I hg hm ⟨v,H,I,r,h⟩ hd
variable {a b:Expr}{ta tb:TE}{pos:Pos}
def PC (X:Cx)(op:CmpOp)(a b:Expr)(t:TE):Prop:=
 ∀(pins:List (Addr×Obj)) (s:Shared) (σ:St) (H:Hp) (Q:VK),Inv X pins σ H s->t σ H Q->
  wpAny (model X.prog X.w) X.A (eval a X.env) (λv s₁=>wpAny (model X.prog X.w) X.A (eval b X.env) (λu s₂=>wpAny (model X.prog X.w) X.A (compareOp op v u) (EP X pins σ Q) X.xe s₂) X.xe s₁) X.xe s
theorem cW0 (b:Expr){op:CmpOp}(h:op≠ .In)(h2:op≠ .NotIn):behindInMarks op b=false:=by
 have e1:(op==CmpOp.In)=false:=by cases op<;>first|rfl|exact absurd rfl h
 have e2:(op==CmpOp.NotIn)=false:=by cases op<;>first|rfl|exact absurd rfl h2
 cases b<;>simp[behindInMarks,e1,e2]
def tIsN (ta:TE):TE:=λσ H Q=>ta σ H λx H1=>Q (.bl<|decide (x= .non)) H1
def dK7 (ta:TE):TE:=λσ H Q=>ta σ H λx H1=>Q (.bl<|!decide (x= .non)) H1
theorem RelV.none_iff {x:V}{v:Value}(r:RelV x v):(v==Value.none)=decide (x= .non):=by
 cases x with
 | non=>cases r;rfl
 | bl _=>cases r;rfl
 | int _=>obtain⟨t,rfl⟩:=r;rfl
 | str _=>obtain⟨t,rfl⟩:=r;rfl
 | byt _=>obtain⟨t,rfl⟩:=r;rfl
 | flt _=>obtain⟨t,rfl⟩:=r;rfl
 | ref _=>cases r;rfl
 | ty _=>cases r;rfl
theorem pc_isN {j pos'}(ha:PE X a ta):PC X .Is a (.Constant .none j pos') (tIsN ta):=by
 intro pins s σ H Q I h;refine thn (ha pins s σ H _ I h) λv s1 ⟨x,H1,I1,r1,q1⟩=> ?_
 exact Constant_none (is_none_gen ⟨.bl _,H1,I1,by rw[r1.none_iff];rfl,q1⟩)
theorem dA2 {j pos'}(ha:PE X a ta):PC X .IsNot a (.Constant .none j pos') (dK7 ta):=by
 intro pins s σ H Q I h;refine thn (ha pins s σ H _ I h) λv s1 ⟨x,H1,I1,r1,q1⟩=> ?_
 exact Constant_none (isnot_none_gen ⟨.bl _,H1,I1,by rw[r1.none_iff];rfl,q1⟩)
def tB (t:TE):TT:=λσ H Q=>t σ H λx H1=> ∃c,x= .bl c/\Q c H1
theorem cW1 {op:CmpOp}{t:TE}(h:PC X op a b t)(h1:behindInMarks op b=false:=by first|exact cW0 _ ac ac|rfl):PT X (.Compare a [op] [b] pos) (tB t):=by
 intro pins s σ H Q I hw;refine wpAny_isTrue_Compare1 (thn (h pins s σ H _ I hw) λv s1 h1=>thn h1 λu s2 h2=>thn h2 λc s3 ⟨x,H1,I1,r1,q1⟩=> ?_) h1
 obtain⟨d,rfl,q⟩:=q1;cases r1;exact pU ⟨H1,I1,q⟩
theorem pt_val {e:Expr}{t:TE}(h:PE X e t)(he: ∀whole,isTrue e X.env whole=(do let v<-whole;standAt e.pos;holding [v] (truthy v)):=by intro _;rfl):PT X e (tB t):=by
 intro pins s σ H Q I hw;refine isTrue_plain (thn (h pins s σ H _ I hw) λv s1 ⟨x,H1,I1,r1,q1⟩=> ?_) (he _)
 obtain⟨d,rfl,q⟩:=q1;cases r1;exact pU ⟨H1,I1,q⟩
variable {tA tB':TT}{rW:List Expr}
def tAnd (t u:TT):TT:=λσ H Q=>t σ H λc H1=>if c=true then u σ H1 Q else Q false H1
def tOr (t u:TT):TT:=λσ H Q=>t σ H λc H1=>if c=true then Q true H1 else u σ H1 Q
def tNot (t:TT):TT:=λσ H Q=>t σ H λc H1=>Q (!c) H1
theorem dA3 (ha:PT X a tA):PW X (.BoolOp .And [a] pos) tA:=by
 intro wh pins s σ H Q I h;refine isTrue_and (thn (ha pins s σ H Q I h) λc s1 e=> ?_)
 cases c with
 | true=>exact isTrue_and_nil e
 | false=>exact e
theorem pw_or1 (ha:PT X a tA):PW X (.BoolOp .Or [a] pos) tA:=by
 intro wh pins s σ H Q I h;refine isTrue_or (thn (ha pins s σ H Q I h) λc s1 e=> ?_)
 cases c with
 | false=>exact isTrue_or_nil e
 | true=>exact e
theorem pw_and (ha:PT X a tA)(hb:PW X (.BoolOp .And (b::rW) pos) tB'):PW X (.BoolOp .And (a::b::rW) pos) (tAnd tA tB'):=by
 intro wh pins s σ H Q I h;refine isTrue_and (thn (ha pins s σ H _ I h) λc s1 ⟨H1,I1,q1⟩=> ?_)
 cases c with
 | true=>exact hb wh pins s1 σ H1 Q I1 q1
 | false=>exact⟨H1,I1,q1⟩
theorem pw_or (ha:PT X a tA)(hb:PW X (.BoolOp .Or (b::rW) pos) tB'):PW X (.BoolOp .Or (a::b::rW) pos) (tOr tA tB'):=by
 intro wh pins s σ H Q I h;refine isTrue_or (thn (ha pins s σ H _ I h) λc s1 ⟨H1,I1,q1⟩=> ?_)
 cases c with
 | true=>exact⟨H1,I1,q1⟩
 | false=>exact hb wh pins s1 σ H1 Q I1 q1
theorem pt_not (ha:PT X a tA):PT X (.UnaryOp .Not a pos) (tNot tA):=by
 intro pins s σ H Q I h;exact isTrue_not (ha pins s σ H (λc H1=>Q (!c) H1) I h)
def tAndV (ta tb:TE):TE:=λσ H Q=>ta σ H λx H1=> ∃c,x= .bl c/\if c=true then tb σ H1 Q else Q (.bl false) H1
def tOrV (ta tb:TE):TE:=λσ H Q=>ta σ H λx H1=> ∃c,x= .bl c/\if c=true then Q (.bl true) H1 else tb σ H1 Q
theorem pe_one {op}{t:TE}(h:PE X a t):PE X (.BoolOp op [a] pos) t:=λpins s σ H Q I hw=>BoolOp_one (h pins s σ H Q I hw)
theorem pe_and (ha:PE X a ta)(hb:PE X (.BoolOp .And (b::rW) pos) tb):PE X (.BoolOp .And (a::b::rW) pos) (tAndV ta tb):=by
 intro pins s σ H Q I h;refine BoolOp_and (thn (ha pins s σ H _ I h) λv s1 ⟨x,H1,I1,r1,q1⟩=> ?_)
 obtain⟨c,rfl,q1⟩:=q1;cases r1;refine pU ?_;cases c with
 | true=>exact hb pins s1 σ H1 Q I1 q1
 | false=>exact⟨.bl false,H1,I1,rfl,q1⟩
theorem pe_or (ha:PE X a ta)(hb:PE X (.BoolOp .Or (b::rW) pos) tb):PE X (.BoolOp .Or (a::b::rW) pos) (tOrV ta tb):=by
 intro pins s σ H Q I h;refine BoolOp_or (thn (ha pins s σ H _ I h) λv s1 ⟨x,H1,I1,r1,q1⟩=> ?_)
 obtain⟨c,rfl,q1⟩:=q1;cases r1;refine pU ?_;cases c with
 | false=>exact hb pins s1 σ H1 Q I1 q1
 | true=>exact⟨.bl true,H1,I1,rfl,q1⟩
def tIf (t:TT)(ta tb:TE):TE:=λσ H Q=>t σ H λc H1=>if c=true then ta σ H1 Q else tb σ H1 Q
theorem cW2 {c:Expr}(hc:PT X c tA)(ha:PE X a ta)(hb:PE X b tb):PE X (.IfExp c a b pos) (tIf tA ta tb):=by
 intro pins s σ H Q I h;refine wpAny_IfExp (thn (hc pins s σ H _ I h) λd s1 ⟨H1,I1,q1⟩=> ?_)
 cases d with
 | true=>exact ha pins s1 σ H1 Q I1 q1
 | false=>exact hb pins s1 σ H1 Q I1 q1
end
end L2
namespace L2
open PySem PySem.Spec PyProof.Rows
def SqL (K:Frag)(H:Hp)(a:Addr)(xs:List V):Prop:=
 Rd H a (.lst xs)\/
  ∃(o:Obj) (its:Array Value) (n:Nat),K.lookup a=some o/\o.cls= .type "list"/\o.dict=none/\o.data= .seq its n/\its.size<=sizeLine/\Vals xs its.toList
def SqT (K:Frag)(H:Hp)(a:Addr)(xs:List V):Prop:=
 Rd H a (.tup xs)\/
  ∃(o:Obj) (its:Array Value) (n:Nat),K.lookup a=some o/\o.cls= .type "tuple"/\o.data= .seq its n/\its.size<=sizeLine/\Vals xs its.toList
noncomputable def absV:Value->Option V
 | .none=>some .non
 | .bool b=>some (.bl b)
 | .int i _=>some (.int i)
 | .str x _=>some (.str x)
 | .bytes b _=>some (.byt b)
 | .float b _=>some (.flt b)
 | .ref a=>some (.ref a)
 | .type n=>some (.ty n)
 | _=>none
theorem RelV.abs {x:V}{u:Value}(r:RelV x u):absV u=some x:=by
 cases x with
 | non=>cases r;rfl
 | bl _=>cases r;rfl
 | int _=>obtain⟨t,rfl⟩:=r;rfl
 | str _=>obtain⟨t,rfl⟩:=r;rfl
 | byt _=>obtain⟨t,rfl⟩:=r;rfl
 | flt _=>obtain⟨t,rfl⟩:=r;rfl
 | ref _=>cases r;rfl
 | ty _=>cases r;rfl
theorem RelV.inj {x y:V}{u:Value}(r:RelV x u)(q:RelV y u):x=y:=gE (r.abs.symm.trans q.abs)
theorem Vals.inj: ∀{xs ys:List V} {us:List Value},Vals xs us->Vals ys us->xs=ys
 | _,_,_,.nil,.nil=>rfl
 | _,_,_,.cons r t,.cons r' t'=>by rw[r.inj r',Vals.inj t t']
section
variable {X:Cx}{pins:List (Addr×Obj)}{σ:St}{H:Hp}{s:Shared}{a:Addr}{xs ys:List V}
theorem SqL.of {K:Frag}(h:H a=some (.lst xs)):SqL K H a xs:= .inl (.inl h)
theorem Inv.list (I:Inv X pins σ H s)(h:SqL X.K H a xs): ∃its:List Value,Vals xs its/\PlainL s.heap a its.toArray/\xs.length<=sizeLine:=by
 rcases h with h| ⟨o,its,n,hk,hc,hd,hs,hz,r⟩
 ·obtain⟨z,its,n,r,e⟩:=h.ok I.hok;exact⟨its,r,⟨_,n,e,rfl,rfl,rfl⟩,z⟩
 ·refine⟨its.toList,r,⟨o,n,I.kIn a o hk,hc,hd,by simpa using hs⟩,?_⟩
  have e:=r.length;simp only[aM1]at e
  lia
theorem Inv.tuple (I:Inv X pins σ H s)(h:SqT X.K H a xs): ∃its:List Value,Vals xs its/\IsTup s.heap a its.toArray/\xs.length<=sizeLine:=by
 rcases h with h| ⟨o,its,n,hk,hc,hs,hz,r⟩
 ·obtain⟨z,its,r,p⟩:=h.ok I.hok;exact⟨its,r,p,z⟩
 ·refine⟨its.toList,r,⟨o,I.kIn a o hk,hc,n,by simpa using hs⟩,?_⟩
  have e:=r.length;simp only[aM1]at e
  lia
theorem Inv.list_inj (I:Inv X pins σ H s)(h:SqL X.K H a xs)(h':SqL X.K H a ys):xs=ys:=by
 obtain⟨its,r,⟨o,n,e,_,_,d⟩,_⟩:=I.list h;obtain⟨its',r',⟨o',n',e',_,_,d'⟩,_⟩:=I.list h';rw[e]at e';cases e';rw[d]at d'
 injection d' with d1 _
 have:its=its':=by simpa using bQ toList d1
 subst this;exact r.inj r'
theorem Inv.tuple_inj (I:Inv X pins σ H s)(h:SqT X.K H a xs)(h':SqT X.K H a ys):xs=ys:=by
 obtain⟨its,r,⟨o,e,_,n,d⟩,_⟩:=I.tuple h;obtain⟨its',r',⟨o',e',_,n',d'⟩,_⟩:=I.tuple h';rw[e]at e';cases e';rw[d]at d'
 injection d' with d1 _
 have:its=its':=by simpa using bQ toList d1
 subst this;exact r.inj r'
end
noncomputable abbrev Cx.wish (X:Cx)(E:Value->Shared->Prop):Cx:={X with xe:=E}
noncomputable abbrev Cx.nox (X:Cx):Cx:=X.wish λ_ _=>False
theorem Cx.Ok.wish {X:Cx}(ok:X.Ok)(E:Value->Shared->Prop):(X.wish E).Ok:=
 ⟨ok.mod,ok.kind,ok.glob,ok.blt,ok.above,ok.inj,ok.has,ok.cab,ok.hd,ok.frames,ok.stk,ok.exf,ok.bs,ok.bsz,ok.noex,ok.exfs,ok.funs,ok.frf⟩
theorem Cx.Ok.unwish {X:Cx}{E:Value->Shared->Prop}(ok:(X.wish E).Ok):X.Ok:=
 ⟨ok.mod,ok.kind,ok.glob,ok.blt,ok.above,ok.inj,ok.has,ok.cab,ok.hd,ok.frames,ok.stk,ok.exf,ok.bs,ok.bsz,ok.noex,ok.exfs,ok.funs,ok.frf⟩
section
variable {X:Cx}{pins:List (Addr×Obj)}{σ:St}{H:Hp}{s:Shared}{E:Value->Shared->Prop}
theorem Inv.wish (I:Inv X pins σ H s)(E:Value->Shared->Prop):Inv (X.wish E) pins σ H s:=⟨I.ok.wish E,I.os,I.bare,I.base,I.loc,I.cell,I.free,I.freeC,I.pin,I.hok,I.len⟩
theorem Inv.unwish (I:Inv (X.wish E) pins σ H s):Inv X pins σ H s:=⟨I.ok.unwish,I.os,I.bare,I.base,I.loc,I.cell,I.free,I.freeC,I.pin,I.hok,I.len⟩
theorem SP.unwish {D:bJ1}{f:Flow}{s':Shared}(h:SP (X.wish E) pins D f s'):SP X pins D f s':=by
 cases f with
 | next=>obtain⟨σ',H',I,q⟩:=h;exact⟨σ',H',I.unwish,q⟩
 | brk=>obtain⟨σ',H',I,q⟩:=h;exact⟨σ',H',I.unwish,q⟩
 | cont=>obtain⟨σ',H',I,q⟩:=h;exact⟨σ',H',I.unwish,q⟩
 | ret u=>obtain⟨v,σ',H',I,r,q⟩:=h;exact⟨v,σ',H',I.unwish,r,q⟩
theorem PSs.nox {st:List Stmt}{t:TS}(h:PSs X.nox st t):PSs X st t:=λpins s σ H D I hw=>
 bI (h pins s σ H D (I.wish _) hw) (λ_ _ q=>q.unwish) λ_ _ z=>False.elim z
end
section
variable {X:Cx}{st:Stmt}{rW:List Stmt}{t u:TS}{e:Expr}{te:TE}{pos:Pos}
def tNext:TS:=λD σ H=>D.nx σ H
def tSeq (t u:TS):TS:=λD σ H=>t {D with nx:=u D} σ H
theorem dA4:PSs X [] tNext:=λ_ _ σ H _ I h=>nB ⟨σ,H,I,h⟩
theorem y9 (h1:PS X st t)(h2:PSs X rW u):PSs X (st::rW) (tSeq t u):=by
 intro pins s σ H D I h;refine tQ (thn (h1 pins s σ H {D with nx:=u D} I h) λf s1 q=> ?_)
 cases f with
 | next=>
  obtain⟨σ',H',I',q⟩:=q;exact h2 pins s1 σ' H' D I' q
 | ret v=>exact q
 | brk=>exact q
 | cont=>exact q
theorem bR6 (h1:PS X st t):PSs X [st] t:=by
 intro pins s σ H D I h;refine tQ (thn (h1 pins s σ H D I h) λf s1 q=> ?_)
 cases f with
 | next=>exact nB q
 | ret v=>exact q
 | brk=>exact q
 | cont=>exact q
theorem Inv.quiet {pins:List (Addr×Obj)}{σ:St}{H:Hp}{s:Shared}(I:Inv X pins σ H s):interactive X.env=false:=by simp[interactive,I.ok.kind]
def tDrop (te:TE):TS:=λD σ H=>te σ H λ_ H1=>D.nx σ H1
theorem b69 (he:PE X e te)(hs:swapsWith e none pos.line X.env=pure false:=by rfl):PS X (.Expr e pos) (tDrop te):=by
 intro pins s σ H D I h;exact wpAny_Expr_any (thn (he pins s σ H _ I h) λv s1 ⟨x,H1,I1,r1,q1⟩=>⟨σ,H1,I1,q1⟩) I.quiet hs
def tRet (te:TE):TS:=λD σ H=>te σ H D.rt
theorem cW3 (he:PE X e te):PS X (.Return (some e) pos) (tRet te):=by
 intro pins s σ H D I h;exact wpAny_Return_some (thn (he pins s σ H _ I h) λv s1 ⟨x,H1,I1,r1,q1⟩=>⟨x,σ,H1,I1,r1,q1⟩)
def tIfS (c:TT)(t u:TS):TS:=λD σ H=>c σ H λb H1=>if b=true then t D σ H1 else u D σ H1
theorem dK8 {c:Expr}{a b:List Stmt}{tc:TT}(hc:PT X c tc)(ha:PSs X a t)(hb:PSs X b u):PS X (.If c a b pos) (tIfS tc t u):=by
 intro pins s σ H D I h;refine wpAny_If (thn (hc pins s σ H _ I h) λd s1 ⟨H1,I1,q1⟩=> ?_)
 cases d with
 | true=>exact ha pins s1 σ H1 D I1 q1
 | false=>exact hb pins s1 σ H1 D I1 q1
def tNever:TS:=λ_ _ _=>False
theorem cW4:PS X st tNever:=λ_ _ _ _ _ _ h=>h.elim
end
abbrev TG:=V->St->Hp->(St->Hp->Prop)->Prop
abbrev TGs:=List V->St->Hp->(St->Hp->Prop)->Prop
def PG (X:Cx)(target:Expr)(t:TG):Prop:=
 ∀(pins:List (Addr×Obj)) (s:Shared) (σ:St) (H:Hp) (v:V) (u:Value) (Q:St->Hp->Prop),Inv X pins σ H s->RelV v u->t v σ H Q->
  wpAny (model X.prog X.w) X.A (assign target X.env u) (λ_ s'=> ∃σ' H',Inv X pins σ' H' s'/\Q σ' H') X.xe s
def PGs (X:Cx)(ts:List Expr)(t:TGs):Prop:=
 ∀(pins:List (Addr×Obj)) (s:Shared) (σ:St) (H:Hp) (vs:List V) (us:List Value) (Q:St->Hp->Prop),Inv X pins σ H s->Vals vs us->t vs σ H Q->
  wpAny (model X.prog X.w) X.A (assignInOrder ((assignEach ts X.env).map (·.2)) us) (λ_ s'=> ∃σ' H',Inv X pins σ' H' s'/\Q σ' H') X.xe s
abbrev cW5:=V->V->V->Hp->(Hp->Prop)->Prop
def PSet (X:Cx)(t:cW5):Prop:=
 ∀(pins:List (Addr×Obj)) (s:Shared) (σ:St) (H:Hp) (o i v:V) (ov iv u:Value) (Q:Hp->Prop),Inv X pins σ H s->RelV o ov->RelV i iv->RelV v u->t o i v H Q->
  wpAny (model X.prog X.w) X.A (setItem ov iv u) (λ_ s'=> ∃H',Inv X pins σ H' s'/\Q H') X.xe s
abbrev TIp:=V->V->Hp->VK->Prop
def PIp (X:Cx)(op:Operator)(t:TIp):Prop:=
 ∀(pins:List (Addr×Obj)) (s:Shared) (σ:St) (H:Hp) (x y:V) (v u:Value) (Q:VK),Inv X pins σ H s->RelV x v->RelV y u->t x y H Q->
  wpAny (model X.prog X.w) X.A (inplaceOp op v u) (EP X pins σ Q) X.xe s
section
variable {X:Cx}{pos:Pos}
def aR0 (i:Nat):TG:=λv σ H Q=>Q (σ.set i<|some v) H
theorem cI {i:Nat}{x:Str}(hN:X.N.Nodup)(hi:X.N[i]? =some x)(hx:Loc X.env.scope x)(hf:X.fn x=true\/X.env.scope.names.lookup x=some .local:=by walk_at "z"):PG X (.Name x pos) (aR0 i):=by
 intro pins s σ H v u Q I r h;exact wpAny_assign_Name (y8 I hN hi hx r (λs' I'=>⟨_,H,I',h⟩) hf)
def gNil:TGs:=λvs σ H Q=>vs=[]/\Q σ H
def gCons (t:TG)(u:TGs):TGs:=λvs σ H Q=> ∃v r,vs=v::r/\t v σ H λσ' H'=>u r σ' H' Q
theorem dA5:PGs X [] gNil:=by
 intro pins s σ H vs us Q I r h;obtain⟨e,h⟩:=h;subst e;cases r;exact assignInOrder_nil ⟨σ,H,I,h⟩
theorem cW6 {e:Expr}{es:List Expr}{t:TG}{u:TGs}(h1:PG X e t)(h2:PGs X es u)
  (hs:(assignEach (e::es) X.env).map (·.2)=assign e X.env::(assignEach es X.env).map (·.2):=by rfl):PGs X (e::es) (gCons t u):=by
 intro pins s σ H vs us Q I r h;obtain⟨v,vr,e1,h⟩:=h;subst e1;cases r with
 | cons r rr=>
  rw[hs];refine aM3 (thn (h1 pins s σ H _ _ _ I r h) λ_ s1 ⟨σ1,H1,I1,q1⟩=> ?_)
  exact h2 pins s1 σ1 H1 _ _ Q I1 rr q1
def gTup (K:Frag)(n:Nat)(t:TGs):TG:=λv σ H Q=> ∃a xs,v= .ref a/\SqT K H a xs/\xs.length=n/\t xs σ H Q
theorem pg_tup {es:List Expr}{k:Nat}{t:TGs}{n:Nat}(hc:X.calm=true)(h:PGs X es t)
  (hn:(assignEach es X.env).length=n:=by rfl) (hst:(assignEach es X.env).findIdx? (·.1)=none:=by rfl):PG X (.Tuple es k pos) (gTup X.K n t):=by
 intro pins s σ H v u Q I r hw;obtain⟨a,xs,e1,hq,hl,hw⟩:=hw;subst e1;cases r;obtain⟨its,rv,ht,hz⟩:=I.tuple hq;refine assign_Tuple_tuple (I.ok.hd hc) ht (by simp[hn,<-hl,rv.length]) hst λh' hx=> ?_
 have I1:Inv X pins σ H {s with heap:=h'}:=I.kept (t':=s.toks) λb o e=>hx b o (bG<|aV e) e
 exact h pins _ σ H xs _ Q I1 (by simpa using rv) hw
def gSub (to ti:TE)(t:cW5):TG:=λv σ H Q=>to σ H λo H1=>ti σ H1 λi H2=>t o i v H2 λH3=>Q σ H3
theorem pg_sub {o i:Expr}{to ti:TE}{t:cW5}(ho:PE X o to)(hi:PE X i ti)(hs:PSet X t)
  (ha: ∀v,assign (.Subscript o i pos) X.env v=(do
   let ov<-holding [v] (eval o X.env)
   let iv<-holding [v,ov] (eval i X.env)
   standAt pos
   holding [v,ov,iv] (setItem ov iv v)
   release [v,ov,iv] []):=by intro _;rfl):PG X (.Subscript o i pos) (gSub to ti t):=by
 intro pins s σ H v u Q I r h;rw[ha];refine aA (iN<|thn (ho pins s σ H _ I h) λov s1 ⟨x,H1,I1,r1,q1⟩=> ?_)
 refine aA (iN<|thn (hi pins s1 σ H1 _ I1 q1) λiv s2 ⟨y,H2,I2,r2,q2⟩=> ?_)
 refine aA (nG<|aA<|iN<|thn (hs pins s2 σ H2 x y v ov iv u _ I2 r1 r2 r q2) λ_ s3 ⟨H3,I3,q3⟩=> ?_)
 exact wpAny_release ⟨σ,H3,I3,q3⟩
def dA6 (te:TE)(g:TG):TS:=λD σ H=>te σ H λx H1=>g x σ H1 D.nx
theorem cW7 {tg e:Expr}{te:TE}{g:TG}(he:PE X e te)(hg:PG X tg g)(hs:swapsWithSole [tg] e pos.line X.env=pure false:=by rfl)(hw:swappedStores [tg] e X.env=pure none:=by rfl)
  (h1:(assignEach [tg] X.env).map (·.2)=[assign tg X.env]:=by rfl):PS X (.Assign [tg] e pos) (dA6 te g):=by
 intro pins s σ H D I h;refine wpAny_Assign_stores (thn (he pins s σ H _ I h) λv s1 ⟨x,H1,I1,r1,q1⟩=> ?_) hs hw
 rw[h1];exact thn (hg pins s1 σ H1 x v _ I1 r1 q1) λ_ s2 q=>q
theorem ps_set {i:Nat}{x:Str}{e:Expr}{te:TE}{pos':Pos}(hN:X.N.Nodup)(hi:X.N[i]? =some x)(hx:Loc X.env.scope x)(he:PE X e te)(hs:swapsWith e (some<|.Name x pos') pos.line X.env=pure false:=by rfl)(hf:X.fn x=true\/X.env.scope.names.lookup x=some .local:=by walk_at "z") :
  PS X (.Assign [.Name x pos'] e pos) (dA6 te<|aR0 i):=by
 intro pins s σ H D I h;refine wpAny_Assign_Name (thn (he pins s σ H _ I h) λv s1 ⟨y,H1,I1,r1,q1⟩=> ?_) hs
 exact y8 I1 hN hi hx r1 (λs2 I2=>⟨_,H1,I2,q1⟩) hf
def tPar (i j:Nat)(ta:TA):TS:=λD σ H=>ta σ H λvs H1=> ∃v w,vs=[v,w]/\D.nx ((σ.set i<|some v).set j<|some w) H1
theorem ps_par {i j:Nat}{x y:Str}{a b:Expr}{ta:TA}{px py pt:Pos}{kt k2 pt2}(hc:X.calm=true)(hN:X.N.Nodup)(hi:X.N[i]? =some x)(hj:X.N[j]? =some y)(hij:i≠j)
  (hx:X.env.scope.names.lookup x=some .local) (hy:X.env.scope.names.lookup y=some .local) (ha:PA X [a,b] ta)
  (hw:swappedStores [.Tuple [.Name x px,.Name y py] kt pt] (.Tuple [a,b] k2 pt2) X.env=pure (some [x,y]))
  (hs:swapsWithSole [.Tuple [.Name x px,.Name y py] kt pt] (.Tuple [a,b] k2 pt2) pos.line X.env=pure false:=by rfl) :
  PS X (.Assign [.Tuple [.Name x px,.Name y py] kt pt] (.Tuple [a,b] k2 pt2) pos) (tPar i j ta):=by
 intro pins s σ H D I h;rw[exec_Assign_arm];refine aA (nG ?_);rw[hs];refine aA (aH ?_);rw[a6 ac]
 refine aA (Tuple_<|thn (ha _ pins s σ H _ I h) λus s1 ⟨vs,H1,I1,r1,q1⟩=> ?_)
 obtain⟨v,w,e1,q1⟩:=q1;subst e1;obtain⟨u1,u2,rfl,rv,rw'⟩: ∃u1 u2,us=[u1,u2]/\RelV v u1/\RelV w u2:=by
  cases r1 with
  | cons p q=>
   cases q with
   | cons p' q'=>
    cases q';exact⟨_,_,rfl,p,p'⟩
 refine iJ ?_ (by show 2<=sizeLine;decide)
 have I2:Inv X pins σ H1 {s1 with heap:=s1.heap.push {cls:= .type "tuple",data:= .seq [u1,u2].toArray}}:=I1.kept (t':=s1.toks) λb o e=>aU _ e
 rw[hw];refine aA (aH ?_);show wpAny (model X.prog X.w) X.A (do rule "assign.swapped-stores";let items<-unpackItems (.ref s1.heap.objs.size) 2 none;assignInOrder [λv=>bindName X.env y v,λv=>bindName X.env x v] items.reverse;pure Flow.next) _ _ _
 refine aA (nN<|aA<|unpackItems_tuple (items:= #[u1,u2]) (I.ok.hd hc) (qE s1.heap _) λh' hx'=> ?_)
 have I3:=I2.kept (h':=h') (t':=s1.toks) λb o e=>hx' b o (bG<|aV e) e
 show wpAny _ _ (assignInOrder [λv=>bindName X.env y v,λv=>bindName X.env x v] [u2,u1] >>= λ_=>pure Flow.next) _ _ _
 refine aA (aM3<|wpAny_bindName<|y8 I3 hN hj (.inl hy) rw' (λs2 I4=> ?_)<|.inr hy)
 refine aM3 (wpAny_bindName<|y8 I4 hN hi (.inl hx) rv (λs3 I5=>assignInOrder_nil (aH ?_))<|.inr hx)
 rw[List.set_comm _ _<|Ne.symm hij]at I5;exact⟨_,H1,I5,q1⟩
def tAug (i:Nat)(te:TE)(ti:TIp):TS:=λD σ H=> ∃x,σ[i]? =some (some x)/\te σ H λy H1=>ti x y H1 λz H2=>D.nx (σ.set i<|some z) H2
theorem ps_aug {i:Nat}{x:Str}{e:Expr}{te:TE}{op:Operator}{ti:TIp}{pos':Pos}(hN:X.N.Nodup)(hi:X.N[i]? =some x)(hx:Loc X.env.scope x)(he:PE X e te)(ho:PIp X op ti)(hf:X.fn x=true\/X.env.scope.names.lookup x=some .local:=by walk_at "z") :
  PS X (.AugAssign (.Name x pos') op e pos) (tAug i te ti):=by
 intro pins s σ H D I h;obtain⟨v,e1,h⟩:=h;obtain⟨m,hn,hl⟩:=I.loc;have vis:Vis X.env.scope x:=by rcases hx with k|k;exact .inl k;exact .inr (.inl k)
 obtain⟨u,r,l⟩:=hl i x v hi e1 vis;refine wpAny_AugAssign_Name ?_;have go:wpAny (model X.prog X.w) X.A (eval e X.env) (λw s₂=>wpAny (model X.prog X.w) X.A (inplaceOp op u w) (λr s₃=>wpAny (model X.prog X.w) X.A (storeName X.env x r) (λ_=>SP X pins D .next) X.xe s₃) X.xe s₂) X.xe s:=by
  refine thn (he pins s σ H _ I h) λw s1 ⟨y,H1,I1,r1,q1⟩=> ?_
  refine thn (ho pins s1 σ H1 v y u w _ I1 r r1 q1) λz s2 ⟨zv,H2,I2,r2,q2⟩=> ?_
  exact y8 I2 hN hi hx r2 (λs3 I3=>⟨_,H2,I3,q2⟩) hf
 rcases l with⟨hk,hm⟩| ⟨hk,c,hc,hcell⟩
 ·exact pM I.ok.kind hk hn hm go
 ·rcases hk with hk|hk
  ·exact wpAny_loadName_cell I.ok.kind hk hc hcell go
  ·rcases hx with k|k
   ·have:X.env.scope.names.lookup x=some .free:=hk;rw[k]at this;cases this
   ·have:X.env.scope.names.lookup x=some .free:=hk;rw[k]at this;cases this
def tAugS (to ti te:TE)(tget:V->V->Hp->VK->Prop)(tip:TIp)(tset:cW5):TS:=λD σ H=>to σ H λo H1=>ti σ H1 λi H2=>tget o i H2 λx H3=>te σ H3 λy H4=>tip x y H4 λz H5=>tset o i z H5 λH6=>D.nx σ H6
def PGet (X:Cx)(t:V->V->Hp->VK->Prop):Prop:=
 ∀(pins:List (Addr×Obj)) (s:Shared) (σ:St) (H:Hp) (o i:V) (ov iv:Value) (Q:VK),Inv X pins σ H s->RelV o ov->RelV i iv->t o i H Q->
  wpAny (model X.prog X.w) X.A (getItem ov iv) (EP X pins σ Q) X.xe s
theorem dA7 {o i e:Expr}{to ti te:TE}{tget:V->V->Hp->VK->Prop}{tip:TIp}{tset:cW5}{op:Operator}{tpos:Pos}(ho:PE X o to)(hi:PE X i ti)(hg:PGet X tget)(he:PE X e te)(hp:PIp X op tip)(hs:PSet X tset)
  (ha: ∀ov iv new,augStore i ov iv new=(do holding [new,ov,iv] (setItem ov iv new);release [new,ov,iv] [];pure .next):=by intros;rfl):PS X (.AugAssign (.Subscript o i tpos) op e pos) (tAugS to ti te tget tip tset):=by
 intro pins s σ H D I h;refine wpAny_AugAssign_SubscriptAny (thn (ho pins s σ H _ I h) λov s1 ⟨x1,H1,I1,r1,q1⟩=> ?_) ha
 refine thn (hi pins s1 σ H1 _ I1 q1) λiv s2 ⟨x2,H2,I2,r2,q2⟩=> ?_
 refine thn (hg pins s2 σ H2 x1 x2 ov iv _ I2 r1 r2 q2) λold s3 ⟨x3,H3,I3,r3,q3⟩=> ?_
 refine thn (he pins s3 σ H3 _ I3 q3) λv s4 ⟨x4,H4,I4,r4,q4⟩=> ?_
 refine thn (hp pins s4 σ H4 x3 x4 old v _ I4 r3 r4 q4) λnew s5 ⟨x5,H5,I5,r5,q5⟩=> ?_
 exact thn (hs pins s5 σ H5 x1 x2 x5 ov iv new _ I5 r1 r2 r5 q5) λ_ s6 ⟨H6,I6,q6⟩=>⟨σ,H6,I6,q6⟩
def ipI (f:Int->Int->Int):TIp:=λx y H Q=> ∃i j,x= .int i/\y= .int j/\Q (.int<|f i j) H
theorem ip_add:PIp X .Add (ipI λi j=>i+j):=by
 intro pins s σ H x y v u Q I r1 r2 h;obtain⟨i,j,e1,e2,q⟩:=h;subst e1;subst e2;obtain⟨t,rfl⟩:=r1;obtain⟨t',rfl⟩:=r2;exact iadd_int ⟨.int _,H,I.tok _,⟨_,rfl⟩,q⟩
theorem cW8:PIp X .Sub (ipI λi j=>i-j):=by
 intro pins s σ H x y v u Q I r1 r2 h;obtain⟨i,j,e1,e2,q⟩:=h;subst e1;subst e2;obtain⟨t,rfl⟩:=r1;obtain⟨t',rfl⟩:=r2;exact isub_int ⟨.int _,H,I.tok _,⟨_,rfl⟩,q⟩
end
section
variable {X:Cx}{pos:Pos}
def tWhile (c:TT)(tb:TS):TS:=λD σ H=> ∃W:Nat->St->Hp->Prop,(∃m,W m σ H)/\ ∀m σ H,W m σ H->
 c σ H λb H1=>if b=true then ∃N:St->Hp->Prop,(∀σ' H',N σ' H'-> ∃m',m'<m/\W m' σ' H')/\tb {D with nx:=N,ct:=N,bk:=D.nx} σ H1 else D.nx σ H1
theorem cW9 {c:Expr}{body:List Stmt}{tc:TT}{tb:TS}(hp:PassesOwn (model X.prog X.w) X.A X.env X.xe)(hc:PT X c tc)(hb:PSs X body tb):PS X (.While c body [] pos) (tWhile tc tb):=by
 intro pins s σ H D I h;obtain⟨W,⟨m0,w0⟩,turn⟩:=h;refine wpAny_While (codeAny_whileLoop (λn s'=> ∃σ' H',Inv X pins σ' H' s'/\W n σ' H') ?_ m0 ⟨σ,H,I,w0⟩)
 rintro n s1 ⟨σ1,H1,I1,w1⟩;refine nE hp (thn (hc pins s1 σ1 H1 _ I1<|turn n σ1 H1 w1) λb s2 ⟨H2,I2,q2⟩=> ?_)
 cases b with
 | true=>
  obtain⟨N,hN,q2⟩:=q2;rw[a9 rfl];refine nE hp (thn (hb pins s2 σ1 H2 _ I2 q2) λf s3 q3=> ?_)
  cases f with
  | next=>
   obtain⟨σ3,H3,I3,n3⟩:=q3;obtain⟨m',hm,w3⟩:=hN σ3 H3 n3;exact⟨m',hm,σ3,H3,I3,w3⟩
  | cont=>
   obtain⟨σ3,H3,I3,n3⟩:=q3;obtain⟨m',hm,w3⟩:=hN σ3 H3 n3;exact⟨m',hm,σ3,H3,I3,w3⟩
  | brk=>exact q3
  | ret v=>exact q3
 | false=>
  rw[a6 bD];exact nB ⟨σ1,H2,I2,q2⟩
end
structure It where
 go:Nat->Hp->Prop
 yld:Nat->Hp->V->Hp->Prop
 stop:Nat->Hp->Prop
def aW4 (X:Cx)(pins:List (Addr×Obj))(H:Hp)(b:Addr):Prop:=
 H b=none/\b≠X.env.locals/\b ∉ X.fs/\(b∈X.ex\/X.s₀.heap.objs.size<=b)/\(∀x c,X.env.cells.lookup x=some c->c≠b)/\ ∀p∈X.pn++pins,p.1≠b
theorem Inv.fpOk {X:Cx}{pins:List (Addr×Obj)}{σ:St}{H H':Hp}{s:Shared}{b:Addr}(I:Inv X pins σ H s)(hb:s.heap.objs.size<=b)(hn:H' b=none):aW4 X pins H' b:=by
 refine⟨hn,qC<|b6 I.lt hb,I.nofs hb,.inr<|aM I.sz hb,λx c e z=> ?_,λp hp z=> ?_⟩
 ·obtain⟨v,q⟩:=I.cell x c e;exact absurd (b6 q.lt (by rw[z];exact hb)) (d8 _)
 ·exact absurd (b6 (aV (I.pin p hp).1) (by rw[z];exact hb)) (d8 _)
structure c06 (P:Program)(w:World)(K:Frag)(tg:Expr)(J:It)(fp:List Addr)(it:Addr)(tn:Nat->Heap->Prop):Prop where
 mem:it∈fp
 obj: ∀i h,tn i h-> ∀b∈fp,∃o,h.get? b=some o/\ ∀v,o.data≠ .cell v
 keep: ∀i h h',tn i h->(∀b∈fp,∀o,h.get? b=some o->h'.get? b=some o)->tn i h'
 item: ∀(X:Cx),X.prog=P->X.w=w->X.K=K->X.calm=true-> ∀(i:Nat) (pins:List (Addr×Obj)) (s:Shared) (σ:St) (H:Hp) (E:Value->Shared->Prop),Inv X pins σ H s->(∀b∈fp,aW4 X pins H b)->tn i s.heap->J.go i H->
  wpAny (model P w) X.A (pyNext<|.ref it) (λr s1=> ∃u,r=some u/\
   wpAny (model P w) X.A (letOwnedTupleGo tg (.ref it) u) (λ_ s2=> ∃x H',Inv X pins σ H' s2/\RelV x u/\J.yld i H x H'/\tn (i+1) s2.heap/\ ∀b∈fp,H' b=none) E s1) E s
 done: ∀(X:Cx),X.prog=P->X.w=w->X.K=K->X.calm=true-> ∀(i:Nat) (pins:List (Addr×Obj)) (s:Shared) (σ:St) (H:Hp) (E:Value->Shared->Prop),Inv X pins σ H s->(∀b∈fp,aW4 X pins H b)->tn i s.heap->J.stop i H->
  wpAny (model P w) X.A (pyNext<|.ref it) (λr s1=>r=none/\Inv X pins σ H s1) E s
 self: ∀(A:Around) (i:Nat) (s:Shared) (Q:Value->Shared->Prop) (E:Value->Shared->Prop),tn i s.heap->Q (.ref it) s->wpAny (model P w) A (pyIter<|.ref it) Q E s
abbrev TI:=St->Hp->(It->Hp->Prop)->Prop
def PIE (X:Cx)(pins:List (Addr×Obj))(σ:St)(tg:Expr)(R:It->Hp->Prop)(itv:Value)(s2:Shared):Prop:=
 ∃(it:Addr) (fp:List Addr) (tn:Nat->Heap->Prop) (J:It) (H':Hp),itv= .ref it/\Inv X pins σ H' s2/\c06 X.prog X.w X.K tg J fp it tn/\tn 0 s2.heap/\(∀b∈fp,aW4 X pins H' b)/\R J H'
def PI (X:Cx)(tg iter:Expr)(wi:TI):Prop:=
 ∀(pins:List (Addr×Obj)) (s:Shared) (σ:St) (H:Hp) (R:It->Hp->Prop),Inv X pins σ H s->wi σ H R->
  wpAny (model X.prog X.w) X.A (eval iter X.env) (λv s1=>wpAny (model X.prog X.w) X.A (pyIter v) (PIE X pins σ tg R) X.xe s1) X.xe s
theorem c07 {M:Model}{A:Around}{E:Value->Shared->Prop}{s:Shared}{tg:Expr}{it:Addr}{u:Value}{o:Obj}{n:String}{vs:Array Value}{Q:Unit->Shared->Prop}(ho:s.heap.get? it=some o)(hc:o.cls= .type n)(hd:o.data= .fields vs)
  (hn:["enumerate","zip","dict_itemiterator","dict_reverseitemiterator","odict_iterator","itertools.zip_longest","itertools.pairwise"].contains n=false) (hQ:Q () s):wpAny M A (letOwnedTupleGo tg (.ref it) u) Q E s:=by
 unfold letOwnedTupleGo;cases tg<;>first
  | exact aH hQ
  | (cases u<;>first
    | exact aH hQ
    | (refine aA (wpAny_load ho ?_)
       rw[hc,hd];show wpAny M A (if(["enumerate","zip","dict_itemiterator","dict_reverseitemiterator","odict_iterator","itertools.zip_longest","itertools.pairwise"].contains n&&vs[0]? ==some (rawInt _))=true then _ else _) Q E s;rw[a6 (by intro h;rw[hn,Bool.false_and]at h;cases h)]
       exact aH hQ))
noncomputable def Itl (K:Frag)(a:Addr):It:=
 ⟨λi H=> ∃xs x,SqL K H a xs/\xs[i]? =some x,λi H x H'=>H'=H/\ ∀xs,SqL K H a xs->xs[i]? =some x,λi H=> ∃xs,SqL K H a xs/\xs.length<=i⟩
noncomputable def Itt (K:Frag)(a:Addr):It:=
 ⟨λi H=> ∃xs x,SqT K H a xs/\xs[i]? =some x,λi H x H'=>H'=H/\ ∀xs,SqT K H a xs->xs[i]? =some x,λi H=> ∃xs,SqT K H a xs/\xs.length<=i⟩
noncomputable def Itr (lo:Int)(n:Nat):It:=⟨λi _=>i<n,λi H x H'=>H'=H/\x= .int (lo+i),λi _=>n<=i⟩
theorem cO8 {P:Program}{w:World}{K:Frag}{tg:Expr}(a it:Addr):c06 P w K tg (Itl K a) [it] it (λi h=>h.IsListIter it a i) where
 mem:=ae
 obj:=λi h st b hb=>by
  have e:b=it:=by simpa using hb
  subst e;obtain⟨o,e,c,d⟩:=st;exact⟨o,e,λv z=>by rw[d]at z;cases z⟩
 keep:=λi h h' st k=>st.at λo e=>k it ae o e
 item:=by
  intro X hP hw hK hc i pins s σ H E I hf st hg;subst hP hw hK;obtain⟨xs,x,hq,hx⟩:=hg;obtain⟨its,rv,p,hz⟩:=I.list hq;obtain⟨u,hu,ru⟩:=rv.get hx;obtain⟨f0,f1,f2,f3,f4,f5⟩:=hf it ae
  refine wpAny_pyNext_list_item st p.isList (x:=u) (by simpa using hu) λh' st' sb=> ?_
  have I1:Inv X pins σ H {s with heap:=h'}:=I.turned (t':=s.toks) (λb o hb e=>(sb.2 b hb).trans e) f0 f1 f3 f4 f5
  obtain⟨o,e,c,d⟩:=id st';exact⟨u,rfl,c07 (s:={s with heap:=h'}) e c d ac ⟨x,H,I1,ru,⟨rfl,λys hy=>by rw[I.list_inj hy hq];exact hx⟩,st',λb hb=>(hf b hb).1⟩⟩
 done:=by
  intro X hP hw hK hc i pins s σ H E I hf st hg;subst hP hw hK;obtain⟨xs,hq,hx⟩:=hg;obtain⟨its,rv,p,hz⟩:=I.list hq;obtain⟨f0,f1,f2,f3,f4,f5⟩:=hf it ae
  have hl:=rv.length;exact wpAny_pyNext_list_end (I.ok.hd hc) st p.isList (by simp;lia) λh' eb=>⟨rfl,I.turned (t':=s.toks) (λb o hb e=>eb b o hb e) f0 f1 f3 f4 f5⟩
 self:=λ_ _ _ _ _ st h=>wpAny_pyIter_listiter st h
theorem cB3 {P:Program}{w:World}{K:Frag}{tg:Expr}(a it:Addr):c06 P w K tg (Itt K a) [it] it (λi h=>h.IsTupleIter it a i) where
 mem:=ae
 obj:=λi h st b hb=>by
  have e:b=it:=by simpa using hb
  subst e;obtain⟨o,e,c,d⟩:=st;exact⟨o,e,λv z=>by rw[d]at z;cases z⟩
 keep:=λi h h' st k=>st.at λo e=>k it ae o e
 item:=by
  intro X hP hw hK hc i pins s σ H E I hf st hg;subst hP hw hK;obtain⟨xs,x,hq,hx⟩:=hg;obtain⟨its,rv,p,hz⟩:=I.tuple hq;obtain⟨u,hu,ru⟩:=rv.get hx;obtain⟨f0,f1,f2,f3,f4,f5⟩:=hf it ae
  refine wpAny_pyNext_tuple_item st (show s.heap.IsTuple a its.toArray from p) (x:=u) (by simpa using hu) λh' st' sb=> ?_
  have I1:Inv X pins σ H {s with heap:=h'}:=I.turned (t':=s.toks) (λb o hb e=>(sb.2 b hb).trans e) f0 f1 f3 f4 f5
  obtain⟨o,e,c,d⟩:=id st';exact⟨u,rfl,c07 (s:={s with heap:=h'}) e c d ac ⟨x,H,I1,ru,⟨rfl,λys hy=>by rw[I.tuple_inj hy hq];exact hx⟩,st',λb hb=>(hf b hb).1⟩⟩
 done:=by
  intro X hP hw hK hc i pins s σ H E I hf st hg;subst hP hw hK;obtain⟨xs,hq,hx⟩:=hg;obtain⟨its,rv,p,hz⟩:=I.tuple hq;obtain⟨f0,f1,f2,f3,f4,f5⟩:=hf it ae
  have hl:=rv.length;exact wpAny_pyNext_tuple_end (I.ok.hd hc) st (show s.heap.IsTuple a its.toArray from p) (by simp;lia) λh' eb=>⟨rfl,I.turned (t':=s.toks) (λb o hb e=>eb b o hb e) f0 f1 f3 f4 f5⟩
 self:=λ_ _ _ _ _ st h=>wpAny_pyIter_tupleiter st h
theorem cB4 {P:Program}{w:World}{K:Frag}{tg:Expr}(it:Addr)(lo:Int)(n:Nat):c06 P w K tg (Itr lo n) [it] it (λi h=>IsRangeIter h it (lo+(i:Nat)*1) ((n:Int)-(i:Nat)) 1) where
 mem:=ae
 obj:=λi h st b hb=>by
  have e:b=it:=by simpa using hb
  subst e;exact⟨_,st,λv z=>by
   have z':Data.fields _=Data.cell v:=z;cases z'⟩
 keep:=λi h h' st k=>k it ae _ st
 item:=by
  intro X hP hw hK hc i pins s σ H E I hf st hg;subst hP hw hK;obtain⟨f0,f1,f2,f3,f4,f5⟩:=hf it ae
  have W:=Walks.range (prog:=X.prog) (w:=X.w) (I.ok.hd hc) it lo 1 n;refine W.item i s _ _ hg st λv h' tk hv st' kk=> ?_
  obtain⟨t,rfl⟩:=hv;have I1:Inv X pins σ H {s with heap:=h',toks:=tk}:=I.turned (λb o hb e=>kk b o (by simpa using hb) e) f0 f1 f3 f4 f5
  refine⟨_,rfl,c07 (s:={s with heap:=h',toks:=tk}) (n:="range_iterator") st' rfl rfl ac ⟨.int<|lo+i,H,I1,⟨t,?_⟩,⟨rfl,rfl⟩,st',λb hb=>(hf b hb).1⟩⟩
  rw[jF]
 done:=by
  intro X hP hw hK hc i pins s σ H E I hf st hg;subst hP hw hK;obtain⟨f0,f1,f2,f3,f4,f5⟩:=hf it ae
  exact wpAny_pyNext_range_end (I.ok.hd hc) st (by have:n<=i:=hg;lia) λh' eb=>⟨rfl,I.turned (t':=s.toks) (λb o hb e=>eb b o hb e) f0 f1 f3 f4 f5⟩
 self:=λ_ _ _ _ _ st h=>aL1 st h
end L2
namespace L2
open PySem PySem.Spec PyProof.Rows
section
variable {X:Cx}{tg:Expr}
theorem c08 {pins:List (Addr×Obj)}{σ:St}{H:Hp}{s:Shared}{R:It->Hp->Prop}{E:Value->Shared->Prop}{lo hi:Int}{t u v:Tok}{tk:Nat}(I:Inv X pins σ H s)(h1: -(2^62)<=lo)(h2:lo<2^62)(h3: -(2^62)<=hi)(h4:hi<2^62)
  (q:R (Itr lo (hi-lo).toNat) H):wpAny (model X.prog X.w) X.A (pyIter<|.ref s.heap.objs.size) (PIE X pins σ tg R) E {s with heap:=s.heap.push {cls:= .type "range",data:= .fields #[.int lo t,.int hi u,.int 1 v]},toks:=tk}:=by
 refine wpAny_pyIter_range (IsRange.new ..) (small_one h1 h2 h3 h4) ?_
 have I1:Inv X pins σ H {s with heap:=s.heap.push {cls:= .type "range",data:= .fields #[.int lo t,.int hi u,.int 1 v]},toks:=tk}:=I.kept λb o e=>aU _ e
 refine⟨(s.heap.push {cls:= .type "range",data:= .fields #[.int lo t,.int hi u,.int 1 v]}).objs.size,[(s.heap.push {cls:= .type "range",data:= .fields #[.int lo t,.int hi u,.int 1 v]}).objs.size],_,_,H,rfl,
  I1.kept (t':=tk) λb o e=>aU _ e,cB4 _ lo (hi-lo).toNat,?_,λb hb=> ?_,q⟩
 ·have e1:lo+((0:Nat):Int)*1=lo:=ae
  have e2:(((hi-lo).toNat:Nat):Int)-((0:Nat):Int)=Builtin.Range.rangeSize lo hi 1:=by rw[rangeSize_one];split<;>lia
  show IsRangeIter _ _ (lo+((0:Nat):Int)*1) ((((hi-lo).toNat:Nat):Int)-((0:Nat):Int)) 1
  rw[e1,e2];exact bU _ rfl
 ·have e:b=(s.heap.push {cls:= .type "range",data:= .fields #[.int lo t,.int hi u,.int 1 v]}).objs.size:=by simpa using hb
  subst e;exact I1.fpOk (aF _) (I1.hok.fresh<|aF _)
def iRng1 (ta:TA):TI:=λσ H R=>ta σ H λvs H1=> ∃j:Int,vs=[.int j]/\ -(2^62)<=j/\j<2^62/\R (Itr 0 j.toNat) H1
def iRng2 (ta:TA):TI:=λσ H R=>ta σ H λvs H1=> ∃i j:Int,vs=[.int i,.int j]/\(-(2^62)<=i/\i<2^62/\ -(2^62)<=j/\j<2^62)/\R (Itr i (j-i).toNat) H1
theorem cO9 {a:Expr}{ta:TA}{p pos:Pos}(hg:Gl X "range")(hm:X.mg "range"=none)(ha:PA X [a] ta)(hs:starEach [a] X.env=[(false,eval a X.env)]:=by rfl):PI X tg (.Call (.Name "range" p) [a] [] pos) (iRng1 ta):=by
 intro pins s σ H R I h;refine Call_ (wJ I hg hm boot_range<|j9 (thn (ha pos pins s σ H _ I h) λus s1 ⟨vs,H1,I1,r1,q1⟩=> ?_) hs rfl)
 obtain⟨j,e,q1,q2,q⟩:=q1;subst e;cases r1 with
 | cons r rr=>
  cases rr;obtain⟨t,rfl⟩:=r;exact call_range_1 (c08 I1 ad ad q1 q2<|by simpa using q)
theorem cP0 {a b:Expr}{ta:TA}{p pos:Pos}(hg:Gl X "range")(hm:X.mg "range"=none)(ha:PA X [a,b] ta)(hs:starEach [a,b] X.env=[(false,eval a X.env),(false,eval b X.env)]:=by rfl)(hs2:starEach [b] X.env=[(false,eval b X.env)]:=by rfl) :
  PI X tg (.Call (.Name "range" p) [a,b] [] pos) (iRng2 ta):=by
 intro pins s σ H R I h;refine Call_ (wJ I hg hm boot_range<|j9 (thn (ha pos pins s σ H _ I h) λus s1 ⟨vs,H1,I1,r1,q1⟩=> ?_) (by rw[hs,hs2]) (by rw[hs2];rfl))
 obtain⟨i,j,e,⟨q1,q2,q3,q4⟩,q⟩:=q1;subst e;cases r1 with
 | cons r rr=>
  cases rr with
  | cons r' rr=>
   cases rr;obtain⟨t,rfl⟩:=r;obtain⟨t',rfl⟩:=r';exact call_range_2 (c08 I1 q1 q2 q3 q4 q)
def tFor (wi:TI)(g:TG)(tb:TS):TS:=λD σ H=>wi σ H λJ H1=> ∃W:Nat->Nat->St->Hp->Prop,(∃m,W 0 m σ H1)/\ ∀i m σ H,W i m σ H->
 (J.stop i H/\D.nx σ H)\/(J.go i H/\ ∃N:St->Hp->Prop,(∀σ' H',N σ' H'-> ∃m',m'<m/\W (i+1) m' σ' H')/\ ∀x H',J.yld i H x H'->g x σ H' λσ2 H2=>tb {D with nx:=N,ct:=N,bk:=D.nx} σ2 H2)
noncomputable def b92 (fp:List Addr)(h:Heap):List (Addr×Obj):=fp.filterMap λb=>(h.get? b).map λo=>(b,o)
theorem a05 {fp:List Addr}{h:Heap}{b:Addr}{o:Obj}(hb:b∈fp)(e:h.get? b=some o):(b,o)∈b92 fp h:=aM4.mpr ⟨b,hb,by rw[e];rfl⟩
theorem cP1 {fp:List Addr}{h:Heap}{p:Addr×Obj}(hp:p∈b92 fp h):p.1∈fp/\h.get? p.1=some p.2:=by
 obtain⟨b,hb,e⟩:=aM4.mp hp;cases q:h.get? b with
 | none=>rw[q]at e;cases e
 | some o=>
  rw[q]at e;have e':(b,o)=p:=gE e;subst e';exact⟨hb,q⟩
theorem Inv.pinned {pins:List (Addr×Obj)}{σ:St}{H:Hp}{s:Shared}{fp:List Addr}(I:Inv X pins σ H s)(hf: ∀b∈fp,aW4 X pins H b)(ho: ∀b∈fp,∃o,s.heap.get? b=some o/\ ∀v,o.data≠ .cell v):Inv X (pins++b92 fp s.heap) σ H s:=
 I.pins_of λp hp=>(bW.mp hp).elim (λz=>I.pin p (d7 _ z)) λz=>by
  obtain⟨hb,e⟩:=cP1 z;obtain⟨f0,f1,f2,_⟩:=hf p.1 hb;obtain⟨o,e',d⟩:=ho p.1 hb;rw[e]at e';cases e';exact⟨e,f0,f1,f2,d⟩
theorem Inv.unpinned {pins pl:List (Addr×Obj)}{σ:St}{H:Hp}{s:Shared}(I:Inv X (pins++pl) σ H s):Inv X pins σ H s:=I.pins_of λp hp=>I.pin p (d7 _<|k8 _ hp)
theorem ps_for {iter:Expr}{body:List Stmt}{wi:TI}{g:TG}{tb:TS}{pos:Pos}(hp:PassesOwn (model X.prog X.w) X.A X.env X.xe)(hc:X.calm=true)(hi:PI X tg iter wi)(hg:PG X tg g)(hb:PSs X body tb)
  (hs: ∀x,foldedSetIterable iter X.env x=pure x:=by intro _;rfl):PS X (.For tg iter body [] pos) (tFor wi g tb):=by
 intro pins s σ H D I h;refine wpAny_For (thn (hi pins s σ H _ I h) λv s1 h1=>thn h1 λitv s2 h2=> ?_) hs
 obtain⟨it,fp,tn,J,H2,e,I2,T,st2,f2,W,⟨m0,w0⟩,turn⟩:=h2;subst e;have stat: ∀{H':Hp},(∀b∈fp,H' b=none)-> ∀b∈fp,aW4 X pins H' b:=λhn b hb=>⟨hn b hb,(f2 b hb).2⟩
 refine codeAny_forLoop_any (λn s'=> ∃i σ' H',Inv X pins σ' H' s'/\tn i s'.heap/\(∀b∈fp,H' b=none)/\W i n σ' H') ?_ m0 ⟨0,σ,H2,I2,st2,λb hb=>(f2 b hb).1,w0⟩
 rintro n s3 ⟨i,σ3,H3,I3,st3,fr3,w3⟩;rcases turn i n σ3 H3 w3 with⟨stop,qn⟩| ⟨go,N,hN,step⟩
 ·refine nE hp (thn (T.done X rfl rfl rfl hc i pins s3 σ3 H3 X.xe I3 (stat fr3) st3 stop) λr s4 ⟨hr,I4⟩=> ?_)
  subst hr;exact nB ⟨σ3,H3,I4,qn⟩
 ·refine nE hp (thn (T.item X rfl rfl rfl hc i pins s3 σ3 H3 X.xe I3 (stat fr3) st3 go) λr s4 ⟨u,hr,h4⟩=> ?_)
  subst hr;refine nE hp (thn h4 λ_ s5 ⟨x,H5,I5,r5,y5,st5,fr5⟩=> ?_)
  have I5':=I5.pinned (stat fr5) (T.obj _ _ st5);refine nE hp (thn (hg _ s5 σ3 H5 x u _ I5' r5<|step x H5 y5) λ_ s6 ⟨σ6,H6,I6,q6⟩=> ?_)
  refine nE hp (thn (hb _ s6 σ6 H6 _ I6 q6) λf s7 q7=> ?_)
  have again: ∀{σ7:St} {H7:Hp},Inv X (pins++b92 fp s5.heap) σ7 H7 s7->N σ7 H7-> ∃m,m<n/\ ∃i σ' H',Inv X pins σ' H' s7/\tn i s7.heap/\(∀b∈fp,H' b=none)/\W i m σ' H':=λ{σ7 H7} I7 n7=>by
   obtain⟨m',hm,w7⟩:=hN σ7 H7 n7;refine⟨m',hm,i+1,σ7,H7,I7.unpinned,T.keep _ _ _ st5 λb hb o e=>(I7.pin (b,o)<|d7 _<|d7 _<|a05 hb e).1,λb hb=> ?_,w7⟩
   obtain⟨o,e,d⟩:=T.obj _ _ st5 b hb;exact(I7.pin (b,o)<|d7 _<|d7 _<|a05 hb e).2.1
  cases f with
  | next=>obtain⟨σ7,H7,I7,n7⟩:=q7;exact again I7 n7
  | cont=>obtain⟨σ7,H7,I7,n7⟩:=q7;exact again I7 n7
  | brk=>obtain⟨σ7,H7,I7,q7⟩:=q7;exact⟨σ7,H7,I7.unpinned,q7⟩
  | ret v=>obtain⟨x7,σ7,H7,I7,r7,q7⟩:=q7;exact⟨x7,σ7,H7,I7.unpinned,r7,q7⟩
end
end L2
namespace L2
open PySem PySem.Spec PyProof.Rows
abbrev R2:=V->V->Hp->VK->Prop
def OpR (X:Cx)(f:Value->Value->Sem Value)(r:R2):Prop:=
 ∀(pins:List (Addr×Obj)) (s:Shared) (σ:St) (H:Hp) (x y:V) (v u:Value) (Q:VK),Inv X pins σ H s->RelV x v->RelV y u->r x y H Q->
  wpAny (model X.prog X.w) X.A (f v u) (EP X pins σ Q) X.xe s
def UnR (X:Cx)(f:Value->Sem Value)(r:V->Hp->VK->Prop):Prop:=
 ∀(pins:List (Addr×Obj)) (s:Shared) (σ:St) (H:Hp) (x:V) (v:Value) (Q:VK),Inv X pins σ H s->RelV x v->r x H Q->
  wpAny (model X.prog X.w) X.A (f v) (EP X pins σ Q) X.xe s
def uB (X:Cx)(f:Value)(r:List V->Hp->VK->Prop):Prop:=
 ∀(pins:List (Addr×Obj)) (s:Shared) (σ:St) (H:Hp) (xs:List V) (us:List Value) (Q:VK),Inv X pins σ H s->Vals xs us->r xs H Q->
  wpAny (model X.prog X.w) X.A (call f us) (EP X pins σ Q) X.xe s
def tOp (r:R2)(ta tb:TE):TE:=λσ H Q=>ta σ H λx H1=>tb σ H1 λy H2=>r x y H2 Q
def tUn (r:V->Hp->VK->Prop)(ta:TE):TE:=λσ H Q=>ta σ H λx H1=>r x H1 Q
def rI (C:Int->Int->Prop)(g:Int->Int->V):R2:=λx y H Q=> ∃i j,x= .int i/\y= .int j/\C i j/\Q (g i j) H
def rI0 (g:Int->Int->V):R2:=λx y H Q=> ∃i j,x= .int i/\y= .int j/\Q (g i j) H
def rU (g:Int->V):V->Hp->VK->Prop:=λx H Q=> ∃i,x= .int i/\Q (g i) H
section
variable {X:Cx}{a b c:Expr}{ta tb tc:TE}{pos:Pos}
theorem binT (ha:PE X a ta)(hb:PE X b tb){pins:List (Addr×Obj)}{s:Shared}{σ:St}{H:Hp}{R:V->V->Hp->Prop}(I:Inv X pins σ H s)
  (h:ta σ H λx H1=>tb σ H1 λy H2=>R x y H2) {Q:Value->Shared->Prop} {f:Value->Value->Sem Value}
  (hf: ∀v u s2 x y H2,Inv X pins σ H2 s2->RelV x v->RelV y u->R x y H2->wpAny (model X.prog X.w) X.A (f v u) Q X.xe s2) :
  wpAny (model X.prog X.w) X.A (eval a X.env) (λv s₁=>wpAny (model X.prog X.w) X.A (eval b X.env) (λu s₂=>wpAny (model X.prog X.w) X.A (f v u) Q X.xe s₂) X.xe s₁) X.xe s:=by
 refine thn (ha pins s σ H _ I h) λv s1 ⟨x,H1,I1,r1,q1⟩=> ?_
 refine thn (hb pins s1 σ H1 _ I1 q1) λu s2 ⟨y,H2,I2,r2,q2⟩=> ?_
 exact hf v u s2 x y H2 I2 r1 r2 q2
theorem pe_op {op:Operator}{r:R2}(ho:OpR X (binaryOp op) r)(ha:PE X a ta)(hb:PE X b tb):PE X (.BinOp a op b pos) (tOp r ta tb):=by
 intro pins s σ H Q I h;exact wpAny_BinOp (binT ha hb I h λv u s2 x y H2 I2 rx ry q=>ho pins s2 σ H2 x y v u Q I2 rx ry q)
theorem pe_un {op:UnaryOp}{r:V->Hp->VK->Prop}(ho:UnR X (unaryOp op) r)(ha:PE X a ta):PE X (.UnaryOp op a pos) (tUn r ta):=by
 intro pins s σ H Q I h;exact UnaryOp_ (thn (ha pins s σ H _ I h) λv s1 ⟨x,H1,I1,r1,q1⟩=>ho pins s1 σ H1 x v Q I1 r1 q1)
theorem opI {f:Value->Value->Sem Value}{C:Int->Int->Prop}{g:Int->Int->Int}
  (rule: ∀(i j:Int) (t u:Tok) (s:Shared) (Q:Value->Shared->Prop) (E:Value->Shared->Prop),C i j->Q (.int (g i j) s.toks) {s with toks:=s.toks+1}->wpAny (model X.prog X.w) X.A (f (.int i t)<|.int j u) Q E s) :
  OpR X f (rI C λi j=> .int (g i j)):=by
 intro pins s σ H x y v u Q I rx ry h;obtain⟨i,j,rfl,rfl,hc,q⟩:=h;obtain⟨t,rfl⟩:=rx;obtain⟨t',rfl⟩:=ry;exact rule i j t t' s _ _ hc ⟨.int<|g i j,H,I.tok _,⟨_,rfl⟩,q⟩
theorem opI0 {f:Value->Value->Sem Value}{g:Int->Int->Int}
  (rule: ∀(i j:Int) (t u:Tok) (s:Shared) (Q:Value->Shared->Prop) (E:Value->Shared->Prop),Q (.int (g i j) s.toks) {s with toks:=s.toks+1}->wpAny (model X.prog X.w) X.A (f (.int i t)<|.int j u) Q E s) :
  OpR X f (rI0 λi j=> .int (g i j)):=by
 intro pins s σ H x y v u Q I rx ry h;obtain⟨i,j,rfl,rfl,q⟩:=h;obtain⟨t,rfl⟩:=rx;obtain⟨t',rfl⟩:=ry;exact rule i j t t' s _ _ ⟨.int<|g i j,H,I.tok _,⟨_,rfl⟩,q⟩
theorem dA8 {f:Value->Value->Sem Value}{g:Int->Int->Bool}
  (rule: ∀(i j:Int) (t u:Tok) (s:Shared) (Q:Value->Shared->Prop) (E:Value->Shared->Prop),Q (.bool<|g i j) s->wpAny (model X.prog X.w) X.A (f (.int i t)<|.int j u) Q E s) :
  OpR X f (rI0 λi j=> .bl (g i j)):=by
 intro pins s σ H x y v u Q I rx ry h;obtain⟨i,j,rfl,rfl,q⟩:=h;obtain⟨t,rfl⟩:=rx;obtain⟨t',rfl⟩:=ry;exact rule i j t t' s _ _ ⟨.bl<|g i j,H,I,rfl,q⟩
def dA9 (i j:Int):Prop:=0<=j/\j<=1000000/\i.natAbs<2^64
def cB5 (i j:Int):Prop:=(-(2^64)<i/\i<2^64)\/(-(2^64)<j/\j<2^64)
theorem cB5.ok {i j:Int}(h:cB5 i j):IntMulOk i j:=by
 rcases h with⟨h1,h2⟩| ⟨h1,h2⟩
 ·exact .of_left (intBits_le_64 h1 h2)
 ·exact .of_right (intBits_le_64 h1 h2)
theorem op_add:OpR X (binaryOp .Add) (rI0 λi j=> .int (i+j)):=opI0 λ_ _ _ _ _ _ _ q=>add_int q
theorem op_sub:OpR X (binaryOp .Sub) (rI0 λi j=> .int (i-j)):=opI0 λ_ _ _ _ _ _ _ q=>sub_int q
theorem dB0:OpR X (binaryOp .Mod) (rI (λ_ j=>j≠0) λi j=> .int (i.fmod j)):=opI λ_ _ _ _ _ _ _ hc q=>mod_int' hc q
theorem op_pow:OpR X (binaryOp .Pow) (rI dA9 λi j=> .int (i^j.toNat)):=opI λ_ _ _ _ _ _ _ hc q=>pow_int_small hc.1 hc.2.1 hc.2.2 q
theorem unI {f:Value->Sem Value}{g:Int->Int}
  (rule: ∀(i:Int) (t:Tok) (s:Shared) (Q:Value->Shared->Prop) (E:Value->Shared->Prop),Q (.int (g i) s.toks) {s with toks:=s.toks+1}->wpAny (model X.prog X.w) X.A (f<|.int i t) Q E s) :
  UnR X f (rU λi=> .int (g i)):=by
 intro pins s σ H x v Q I rx h;obtain⟨i,rfl,q⟩:=h;obtain⟨t,rfl⟩:=rx;exact rule i t s _ _ ⟨.int<|g i,H,I.tok _,⟨_,rfl⟩,q⟩
theorem un_neg:UnR X (unaryOp .USub) (rU λi=> .int (-i)):=unI λ_ _ _ _ _ q=>neg_int q
end
noncomputable def scal:V->V->Bool
 | .non,.non=>true| .non,.int _=>true| .int _,.non=>true| .non,.bl _=>true| .bl _,.non=>true| .non,.str _=>true| .str _,.non=>true
 | .int _,.int _=>true| .bl _,.bl _=>true| .str _,.str _=>true| .byt _,.byt _=>true
 | .int _,.str _=>true| .str _,.int _=>true| .bl _,.str _=>true| .str _,.bl _=>true
 | _,_=>false
noncomputable def rEq:R2:=λx y H Q=>scal x y=true/\Q (.bl<|decide (x=y)) H
noncomputable def rNe:R2:=λx y H Q=>scal x y=true/\Q (.bl<|!decide (x=y)) H
theorem b70 {i j:Int}:decide (V.int i=V.int j)=(i==j):=by
 rw[tV];simp
theorem bR7 {i j:Bool}:decide (V.bl i=V.bl j)=(i==j):=by
 rw[tV];simp
theorem b71 {i j:Str}:decide (V.str i=V.str j)=(i==j):=by
 rw[tV];simp
theorem cI7 {i j:Array UInt8}:decide (V.byt i=V.byt j)=(i.toList==j.toList):=by
 rw[tV];cases i;cases j;simp
section
variable {X:Cx}{a b c:Expr}{ta tb tc:TE}{pos:Pos}
theorem eU {pins:List (Addr×Obj)}{σ:St}{H:Hp}{s:Shared}{Q:VK}{k k':Bool}(I:Inv X pins σ H s)(q:Q (.bl k) H)(e:k=k'):EP X pins σ Q (.bool k') s:=by
 subst e;exact⟨.bl k,H,I,rfl,q⟩
theorem cX0:OpR X (compareOp .Eq) rEq:=by
 intro pins s σ H x y v u Q I rx ry h;obtain⟨hs,q⟩:=h;cases x with
 | non=>
  cases rx;cases y with
  | non=>cases ry;exact PySem.EqNone.eq_none_none (eU I q ae)
  | bl j=>cases ry;exact PySem.EqNone.eq_none_bool (eU I q ae)
  | int j=>obtain⟨t',rfl⟩:=ry;exact PySem.EqNone.eq_none_int (eU I q ae)
  | str j=>obtain⟨t',rfl⟩:=ry;exact PySem.EqNone.eq_none_str (eU I q ae)
  | _=>exact absurd (show false=true from hs) bD
 | bl i=>
  cases rx;cases y with
  | non=>cases ry;exact PySem.EqNone.eq_bool_none (eU I q ae)
  | bl j=>cases ry;exact eq_bool (eU I q bR7)
  | str j=>obtain⟨t',rfl⟩:=ry;exact PySem.EqMixed.eq_bool_str (eU I q ae)
  | _=>exact absurd (show false=true from hs) bD
 | int i=>
  obtain⟨t,rfl⟩:=rx;cases y with
  | non=>cases ry;exact PySem.EqNone.eq_int_none (eU I q ae)
  | int j=>obtain⟨t',rfl⟩:=ry;exact eq_int (eU I q b70)
  | str j=>obtain⟨t',rfl⟩:=ry;exact PySem.EqMixed.eq_int_str (eU I q ae)
  | _=>exact absurd (show false=true from hs) bD
 | str i=>
  obtain⟨t,rfl⟩:=rx;cases y with
  | non=>cases ry;exact PySem.EqNone.eq_str_none (eU I q ae)
  | bl j=>cases ry;exact PySem.EqMixed.eq_str_bool (eU I q ae)
  | int j=>obtain⟨t',rfl⟩:=ry;exact PySem.EqMixed.eq_str_int (eU I q ae)
  | str j=>obtain⟨t',rfl⟩:=ry;exact eq_str (eU I q b71)
  | _=>exact absurd (show false=true from hs) bD
 | byt i=>
  obtain⟨t,rfl⟩:=rx;cases y with
  | byt j=>obtain⟨t',rfl⟩:=ry;exact PySem.W.eq_bytes (eU I q cI7)
  | _=>exact absurd (show false=true from hs) bD
 | _=>cases y<;>exact absurd (show false=true from hs) bD
theorem cX1:OpR X (compareOp .NotEq) rNe:=by
 intro pins s σ H x y v u Q I rx ry h;obtain⟨hs,q⟩:=h;cases x with
 | non=>
  cases rx;cases y with
  | non=>cases ry;exact PySem.EqNone.ne_none_none (eU I q ae)
  | bl j=>cases ry;exact PySem.EqNone.ne_none_bool (eU I q ae)
  | int j=>obtain⟨t',rfl⟩:=ry;exact PySem.EqNone.ne_none_int (eU I q ae)
  | str j=>obtain⟨t',rfl⟩:=ry;exact PySem.EqNone.ne_none_str (eU I q ae)
  | _=>exact absurd (show false=true from hs) bD
 | bl i=>
  cases rx;cases y with
  | non=>cases ry;exact PySem.EqNone.ne_bool_none (eU I q ae)
  | bl j=>cases ry;exact ne_bool (eU I q<|bQ not bR7)
  | str j=>obtain⟨t',rfl⟩:=ry;exact PySem.EqMixed.ne_bool_str (eU I q ae)
  | _=>exact absurd (show false=true from hs) bD
 | int i=>
  obtain⟨t,rfl⟩:=rx;cases y with
  | non=>cases ry;exact PySem.EqNone.ne_int_none (eU I q ae)
  | int j=>obtain⟨t',rfl⟩:=ry;exact ne_int (eU I q<|bQ not b70)
  | str j=>obtain⟨t',rfl⟩:=ry;exact PySem.EqMixed.ne_int_str (eU I q ae)
  | _=>exact absurd (show false=true from hs) bD
 | str i=>
  obtain⟨t,rfl⟩:=rx;cases y with
  | non=>cases ry;exact PySem.EqNone.ne_str_none (eU I q ae)
  | bl j=>cases ry;exact PySem.EqMixed.ne_str_bool (eU I q ae)
  | int j=>obtain⟨t',rfl⟩:=ry;exact PySem.EqMixed.ne_str_int (eU I q ae)
  | str j=>obtain⟨t',rfl⟩:=ry;exact ne_str (eU I q<|bQ not b71)
  | _=>exact absurd (show false=true from hs) bD
 | byt i=>
  obtain⟨t,rfl⟩:=rx;cases y with
  | byt j=>obtain⟨t',rfl⟩:=ry;exact PySem.W.ne_bytes (eU I q<|bQ not cI7)
  | _=>exact absurd (show false=true from hs) bD
 | _=>cases y<;>exact absurd (show false=true from hs) bD
theorem op_lt:OpR X (compareOp .Lt) (rI0 λi j=> .bl (decide (i<j))):=dA8 λ_ _ _ _ _ _ _ q=>lt_int q
theorem op_le:OpR X (compareOp .LtE) (rI0 λi j=> .bl (decide (i<=j))):=dA8 λ_ _ _ _ _ _ _ q=>le_int q
theorem op_gt:OpR X (compareOp .Gt) (rI0 λi j=> .bl (decide (j<i))):=dA8 λ_ _ _ _ _ _ _ q=>gt_int q
theorem op_ge:OpR X (compareOp .GtE) (rI0 λi j=> .bl (decide (j<=i))):=dA8 λ_ _ _ _ _ _ _ q=>ge_int q
theorem b93 (b:Expr){op:CmpOp}(h:op≠ .In:=by decide)(h2:op≠ .NotIn:=by decide):behindInMarks op b=false:=by
 have e1:(op==CmpOp.In)=false:=by cases op<;>first|rfl|exact absurd rfl h
 have e2:(op==CmpOp.NotIn)=false:=by cases op<;>first|rfl|exact absurd rfl h2
 cases b<;>simp[behindInMarks,e1,e2]
theorem dB1 {op:CmpOp}{r:R2}(ho:OpR X (compareOp op) r)(ha:PE X a ta)(hb:PE X b tb)(hm:behindInMarks op b=false):PE X (.Compare a [op] [b] pos) (tOp r ta tb):=by
 intro pins s σ H Q I h;exact wpAny_Compare1 (binT ha hb I h λv u s2 x y H2 I2 rx ry q=>ho pins s2 σ H2 x y v u Q I2 rx ry q) hm
def tTest (t:TE):TT:=λσ H Q=>t σ H λx H'=> ∃k,x= .bl k/\Q k H'
theorem dB2 {op:CmpOp}{r:R2}(ho:OpR X (compareOp op) r)(ha:PE X a ta)(hb:PE X b tb)(hm:behindInMarks op b=false):PT X (.Compare a [op] [b] pos) (tTest<|tOp r ta tb):=by
 intro pins s σ H Q I h;refine wpAny_isTrue_Compare1 (thn (ha pins s σ H _ I h) λv s1 ⟨x,H1,I1,r1,q1⟩=>thn (hb pins s1 σ H1 _ I1 q1) λu s2 ⟨y,H2,I2,r2,q2⟩=>
  thn (ho pins s2 σ H2 x y v u _ I2 r1 r2 q2) λc s3 ⟨z,H3,I3,r3,k,e,q3⟩=> ?_) hm
 subst e;cases r3;exact pU ⟨H3,I3,q3⟩
theorem aW5:(sizeLine:Nat)<2^63:=by rw[sizeLine_eq];decide
theorem vals1 {x:V}{us:List Value}(r:Vals [x] us): ∃u,us=[u]/\RelV x u:=by
 cases r with
 | cons r1 r2=>cases r2;exact⟨_,rfl,r1⟩
theorem vals2 {x y:V}{us:List Value}(r:Vals [x,y] us): ∃u w',us=[u,w']/\RelV x u/\RelV y w':=by
 cases r with
 | cons r1 r2=>
  cases r2 with
  | cons r3 r4=>cases r4;exact⟨_,_,rfl,r1,r3⟩
theorem cX2:uB X (.builtin "abs") (λxs H Q=> ∃i,xs=[.int i]/\Q (.int<|if i<0 then -i else i) H):=by
 intro pins s σ H xs us Q I r h;obtain⟨i,rfl,q⟩:=h;obtain⟨u,rfl,t,rfl⟩:=vals1 r;exact call_abs_int λu tk=>⟨.int<|if i<0 then -i else i,H,I.tok _,⟨_,rfl⟩,q⟩
theorem cP2 (hc:X.calm=true):uB X (.builtin "max") (λxs H Q=> ∃i j,xs=[.int i,.int j]/\Q (.int<|if j>i then j else i) H):=by
 intro pins s σ H xs us Q I r h;obtain⟨i,j,rfl,q⟩:=h;obtain⟨u,w',rfl,⟨t,rfl⟩,⟨t',rfl⟩⟩:=vals2 r;refine max_two_ints (I.ok.hd hc) λh' tk k=>⟨_,H,I.kept k,?_,q⟩
 by_cases hj:j>i
 ·rw[a9 hj,a9 hj];exact⟨_,rfl⟩
 ·rw[a6 hj,a6 hj];exact⟨_,rfl⟩
theorem cP3 (hc:X.calm=true):uB X (.builtin "min") (λxs H Q=> ∃i j,xs=[.int i,.int j]/\Q (.int<|if j<i then j else i) H):=by
 intro pins s σ H xs us Q I r h;obtain⟨i,j,rfl,q⟩:=h;obtain⟨u,w',rfl,⟨t,rfl⟩,⟨t',rfl⟩⟩:=vals2 r;refine min_two_ints (I.ok.hd hc) λh' tk k=>⟨_,H,I.kept k,?_,q⟩
 by_cases hj:j<i
 ·rw[a9 hj,a9 hj];exact⟨_,rfl⟩
 ·rw[a6 hj,a6 hj];exact⟨_,rfl⟩
end
end L2
namespace L2
open PySem PySem.Spec PyProof.Rows
structure cP4 (h:Heap)(x dx C:Addr)(mA:Str->Option Value):Prop where
 obj:h.get? x=some (instObj C dx)
 ns:h.Ns1 dx mA
 ne:dx≠x
theorem cP5 {h:Heap}{dx:Addr}{mA:Str->Option Value}(n:h.Ns1 dx mA): ∃od,h.get? dx=some od/\ ∀name,lookIn name od=some (mA name):=by
 obtain⟨o,es,ep,ho,hd,hk,_,hm⟩:=n;refine⟨o,ho,λname=> ?_⟩
 have e:=hm name;unfold nsFind findBy at e;rw[<-Array.find?_toList]at e;unfold lookIn;rw[hd];dsimp only;split
 ·rename_i y q
  rw[q]at e;exact bQ some e
 ·rename_i q
  rw[q]at e;have a:es.toList.any (·.refKey)=false:=by
   rw[List.any_eq_false];intro y hy;obtain⟨z,t,hkey⟩:=hk y (Array.mem_toList_iff.mp hy);simp[DictEntry.refKey,hkey]
  have a': ¬es.toList.any (·.refKey)=true:=by rw[a];exact bD
  rw[a6 a'];exact bQ some e
theorem cP4.look {h:Heap}{x dx C:Addr}{mA:Str->Option Value}(I:cP4 h x dx C mA): ∃od,InstAt h x (instObj C dx) C (some od)/\ ∀name,lookIn name od=some (mA name):=
 let ⟨od,ho,hl⟩:=cP5 I.ns
 ⟨od,⟨I.obj,rfl,rfl,ho⟩,hl⟩
section
variable {prog:Program}{w:World}{A:Around}{E:Value->Shared->Prop}{s:Shared}{K:Frag}{x dx C f:Addr}{mA:Str->Option Value}{name:Str}{v:Value}
theorem dB3 {expr:Bool}{Q:Value->Shared->Prop}(X:K.In s.heap)(I:cP4 s.heap x dx C mA)(hg:plainGet K C name=true)(hh:hasDictIn K C=true)
  (ha:findIn K (.ref C) name=some none) (hv:mA name=some v) (hv':PySem.W.handedIn v=true) (h:Q v {s with toks:=s.toks+1}) :
  wpAny (model prog w) A (getAttr (.ref x) name expr) Q E s:=by
 obtain⟨od,J,hl⟩:=I.look;exact PySem.W.get_value X J (PySem.W.plainGet_of hg).1 (PySem.W.findObj_own hh ha rfl (by rw[hl,hv])) hv' h
theorem dB4 {ns:List Str}{Q:Unit->Shared->Prop}(X:K.In s.heap)(I:cP4 s.heap x dx C mA)
  (hs:findIn K (.ref C) "__setattr__"=some (some<|.builtin "object.__setattr__")) (hp:plainOver K C=true) (ht:takerIn K C name=some none) (hh:hasDictIn K C=true)
  (hw:PySem.Within mA ns) (hsz:ns.length<=sizeLine)
  (h: ∀h',cP4 h' x dx C (λy=>if y=name then some v else mA y)->SameBut dx s.heap h'->Q () {s with heap:=h',toks:=s.toks+2}) :
  wpAny (model prog w) A (setAttr (.ref x) name v) Q E s:=by
 obtain⟨od,J,hl⟩:=I.look;refine PySem.W.set_plain X J hs (PySem.W.osa_open (s:={s with toks:=s.toks+1}) (r:=none) X J hp ht λb=> ?_)
 obtain⟨cd,hc,hd'⟩:=PySem.W.any_some hh;have hx:s.heap.get? x=some ⟨.ref C,some dx,.plain,#[]⟩:=I.obj;refine aA (aH<|aA<|aA<|wpAny_loadPart hx<|aA<|PySem.W.Looks.here (s:={s with toks:=s.toks+1}) (aM2 X hc) ?_);rw[hd'];refine aH (a:=some dx) (aA<|aH<|aA ?_);refine wpAny_nsSet1 (s:={s with toks:=s.toks+1}) I.ns λh' hn2 hs2=> ?_
 obtain⟨oD,esD,epD,hoD,hdD,hcD⟩:=hn2.count (PySem.Within.cons name v hw);refine aA (wpAny_lookBehind hoD (by rw[hdD];exact pastItsLine_dict (aM hcD (by rw[eA];lia))) ?_)
 exact aH (h _ ⟨(hs2.2 _<|Ne.symm I.ne).trans I.obj,hn2,I.ne⟩ hs2)
theorem c09 {R:Result->Shared->Prop}{vs:List Value}{kw:List (Str×Value)}(X:K.In s.heap)(hm:makesIn K C=true)
  (hi:findIn K (.ref C) "__init__"=some (some<|.ref f)) (hf:PySem.W.typeIn K (.ref f)=some (.type "function"))
  (h:codeAny (model prog w) (A.under<|.builtin "type.__call__" ⟨.ref C::vs,kw⟩) (.call (.ref f) ⟨.ref (s.heap.objs.size+1)::vs,kw⟩) (PySem.W.InitBack (s.heap.objs.size+1) R)
   {s with heap:=(s.heap.push emptyDict).push (instObj C s.heap.objs.size)}) :
  codeAny (model prog w) A (.call (.ref C) ⟨vs,kw⟩) R s:=by
 obtain⟨hh,g,d,t,os⟩:=s;exact PySem.W.make_core (PySem.W.makes_of X hm) (PySem.W.looks_findIn X hi) (λself=>PySem.W.bind_fn X self hf) (.inl rfl) h
end
noncomputable def vJ (f:Str)(v:V):List (Str×V)->List (Str×V)
 | []=>[(f,v)]
 | (g,x)::r=>if g=f then(g,v)::r else(g,x)::vJ f v r
theorem b17 (f g:Str)(v:V): ∀fs:List (Str×V),(vJ f v fs).lookup g=if g=f then some v else fs.lookup g
 | []=>by
  show List.lookup g [(f,v)]=_
  by_cases h:g=f
  ·have hb:(g==f)=true:=fU.mpr h;simp only[List.lookup,hb,a9 h]
  ·have hb:(g==f)=false:=pO.mpr h;simp only[List.lookup,hb,a6 h]
 | (k,x)::r=>by
  have ih:=b17 f g v r;rw[show vJ f v ((k,x)::r)=(if k=f then(k,v)::r else(k,x)::vJ f v r)from rfl]
  by_cases hk:k=f
  ·rw[a9 hk]
   by_cases h:g=k
   ·have hb:(g==k)=true:=fU.mpr h;simp only[List.lookup,hb,a9<|h.trans hk]
   ·have hb:(g==k)=false:=pO.mpr h;simp only[List.lookup,hb,a6 (λe:g=f=>h (e.trans hk.symm))]
  ·rw[a6 hk]
   by_cases h:g=k
   ·have hb:(g==k)=true:=fU.mpr h;simp only[List.lookup,hb,a6 (λe:g=f=>hk (h.symm.trans e))]
   ·have hb:(g==k)=false:=pO.mpr h;simp only[List.lookup,hb];exact ih
theorem aW6 (f:Str)(v:V): ∀fs:List (Str×V),f∈(vJ f v fs).map (·.1)/\ ∀g,g∈fs.map (·.1)->g∈(vJ f v fs).map (·.1)
 | []=>⟨by simp[vJ],λg h=>by simp at h⟩
 | (k,x)::r=>by
  obtain⟨i1,i2⟩:=aW6 f v r;rw[show vJ f v ((k,x)::r)=(if k=f then(k,v)::r else(k,x)::vJ f v r)from rfl]
  by_cases hk:k=f
  ·rw[a9 hk];subst hk;exact⟨ae,λg h=>by simpa using h⟩
  ·rw[a6 hk];refine⟨?_,λg h=> ?_⟩
   ·rw[cN];exact bM _ i1
   ·rw[cN]at h⊢;rcases aX.mp h with e|e
    ·exact aX.mpr (.inl e)
    ·exact bM _ (i2 g e)
theorem b18 (f:Str)(v:V): ∀fs:List (Str×V),(vJ f v fs).length<=fs.length+1
 | []=>by simp[vJ]
 | (k,x)::r=>by
  have ih:=b18 f v r;rw[show vJ f v ((k,x)::r)=(if k=f then(k,v)::r else(k,x)::vJ f v r)from rfl]
  by_cases hk:k=f
  ·rw[a9 hk,eA,eA];lia
  ·rw[a6 hk,eA,eA];lia
theorem cB2.some_of {v:V}{o:Option Value}(r:cB2 (some v) o): ∃u,o=some u/\RelV v u:=by
 cases o with
 | none=>exact(show False from r).elim
 | some u=>exact⟨u,rfl,r⟩
theorem cP6 {v:V}{u:Value}(r:RelV v u):PySem.W.handedIn u=true:=by
 cases v with
 | non=>cases (show u=Value.none from r);rfl
 | bl b=>cases (show u=Value.bool b from r);rfl
 | int i=>obtain⟨t,e⟩:=(show ∃t,u=Value.int i t from r);cases e;rfl
 | str x=>obtain⟨t,e⟩:=(show ∃t,u=Value.str x t from r);cases e;rfl
 | byt b=>obtain⟨t,e⟩:=(show ∃t,u=Value.bytes b t from r);cases e;rfl
 | flt b=>obtain⟨t,e⟩:=(show ∃t,u=Value.float b t from r);cases e;rfl
 | ref a=>cases (show u=Value.ref a from r);rfl
 | ty n=>cases (show u=Value.type n from r);rfl
section
variable {P:Program}{w:World}{H H':Hp}{h h':Heap}{a C dx:Addr}{fs fs':List (Str×V)}
theorem cI8 (hok:HOk P w H h)(e:H a=some (.ins C dx fs)): ∃mA,cP4 h a dx C mA/\(∀f,cB2 (fs.lookup f)<|mA f)/\PySem.Within mA (fs.map (·.1))/\fs.length<=1000/\H dx=some (.own a):=by
 obtain⟨d,z,ne,ob,mA,n,r,q⟩:=(show rC P w H h a (.ins C dx fs)from hok a _ e)
 exact⟨mA,⟨ob,n,ne⟩,r,q,z,d⟩
end
structure Cls (K:Frag)(C:Addr):Prop where
 pg:plainGet K C Str.empty=true
 hd:hasDictIn K C=true
 po:plainOver K C=true
 sa:findIn K (.ref C) "__setattr__"=some (some<|.builtin "object.__setattr__")
theorem Cls.get {K:Frag}{C:Addr}(c:Cls K C)(f:Str):plainGet K C f=true:=c.pg
def a73 (K:Frag)(C:Addr)(f:Str):Prop:=findIn K (.ref C) f=some none
theorem a73.taker {K:Frag}{C:Addr}{f:Str}(n:a73 K C f):takerIn K C f=some none:=by
 unfold takerIn;rw[show findIn K (.ref C) f=some none from n]
 rfl
section
variable {X:Cx}{pins:List (Addr×Obj)}{σ:St}{H:Hp}{s:Shared}{a C dx:Addr}{fs:List (Str×V)}{f:Str}{v:V}{A:Around}{E:Value->Shared->Prop}
theorem cB6 {b:Bool}{Q:Value->Shared->Prop}(I:Inv X pins σ H s)(e:H a=some (.ins C dx fs))(c:Cls X.K C)(n:a73 X.K C f)(l:fs.lookup f=some v)
  (h: ∀u s',Inv X pins σ H s'->RelV v u->Q u s'):wpAny (model X.prog X.w) A (getAttr (.ref a) f b) Q E s:=by
 obtain⟨mA,O,r,_,_,_⟩:=cI8 I.hok e;obtain⟨u,hu,ru⟩:=cB2.some_of (v:=v) (o:=mA f) (by rw[<-l];exact r f)
 exact dB3 I.kIn O (c.get f) c.hd n hu (cP6 ru) (h u _ (I.tok _) ru)
theorem cB7 {y:V}{u:Value}{Q:Unit->Shared->Prop}(I:Inv X pins σ H s)(e:H a=some (.ins C dx fs))(c:Cls X.K C)(n:a73 X.K C f)(hl:fs.length<1000)(ry:RelV y u)
  (h: ∀s',Inv X pins σ (upd H a<|.ins C dx<|vJ f y fs) s'->Q () s'):wpAny (model X.prog X.w) A (setAttr (.ref a) f u) Q E s:=by
 obtain⟨mA,O,r,wi,_,ho⟩:=cI8 I.hok e;have hz:(fs.map (·.1)).length<=sizeLine:=by rw[aK,sizeLine_eq];lia
 refine dB4 I.kIn O c.sa c.po n.taker c.hd wi hz λh' O' sb=>h _ ?_
 have hd: ∃o,h'.get? dx=some o:=let ⟨o,_,_,e',_⟩:=O'.ns;⟨o,e'⟩;refine I.write (x:=a) (e:=dx) (by rw[e];exact True.intro) (.inr ho) (λb q hb z=>(sb.2 b hb).trans z) hd ?_
 refine⟨by rw[cG O.ne];exact ho,?_,O.ne,O'.obj,_,O'.ns,λg=> ?_,λg hg=> ?_⟩
 ·have:=b18 f y fs;lia
 ·show cB2 ((vJ f y fs).lookup g) (if g=f then some u else mA g)
  rw[b17]
  by_cases q:g=f
  ·rw[a9 q,a9 q];exact ry
  ·rw[a6 q,a6 q];exact r g
 ·by_cases q:g=f
  ·rw[q];exact(aW6 f y fs).1
  ·refine(aW6 f y fs).2 g (wi g λz=>hg ?_)
   show(if g=f then some u else mA g)=none
   rw[a6 q];exact z
theorem Inv.made (I:Inv X pins σ H s):Inv X pins σ (upd (upd H s.heap.objs.size<|.own<|s.heap.objs.size+1) (s.heap.objs.size+1)<|.ins C s.heap.objs.size [])
  {s with heap:=(s.heap.push emptyDict).push (instObj C s.heap.objs.size)}:=by
 have e1:(s.heap.push emptyDict).get? s.heap.objs.size=some emptyDict:=bU s.heap rfl;have e2:((s.heap.push emptyDict).push<|instObj C s.heap.objs.size).get? (s.heap.objs.size+1)=some (instObj C s.heap.objs.size):=by
  have:=bU (s.heap.push emptyDict) (o:=instObj C s.heap.objs.size) rfl
  rwa [iM]at this
 have e3:(s.heap.push emptyDict).Ns s.heap.objs.size (λ_=>none):=⟨emptyDict,#[],_,e1,rfl,(λe he=>absurd he ae),λ_=>rfl⟩
 have I1:=I.laid (a:=s.heap.objs.size) (o:= .own (s.heap.objs.size+1)) (h':=s.heap.push emptyDict) (t':=s.toks) (λb u q=>aU _ q) (aF _) ⟨_,e1⟩
 refine I1.laid (a:=s.heap.objs.size+1) (o:= .ins C s.heap.objs.size []) (t':=s.toks) (λb u q=>aU _ q) (le_of_eq<|iM _ _) ?_
 have ne:s.heap.objs.size≠s.heap.objs.size+1:=bG (pX _);refine⟨by rw[cG ne,iB],cP _,ne,e2,λ_=>none,(Heap.Ns1.of_empty e3).at λo q=>aU _ q,λ_=>True.intro,λy hy=>absurd rfl hy⟩
theorem dB5 {prog:Program}{w:World}{env:Env}{e:Expr}{f:Str}{pos:Pos}{s:Shared}{Q:Value->Shared->Prop}(hb:attributeBase e f env (eval e env)=eval e env)
  (h:wpAny (model prog w) A (eval e env) (λo s₁=>wpAny (model prog w) A (getAttr o f true) Q E s₁) E s):wpAny (model prog w) A (eval (.Attribute e f pos) env) Q E s:=
 Attribute_any_ h (by rw[arm_eval_Attribute,hb])
end
def tFld (K:Frag)(ta:TE)(f:Str):TE:=λσ H Q=>ta σ H λx H1=> ∃a C dx fs v,x= .ref a/\H1 a=some (.ins C dx fs)/\Cls K C/\a73 K C f/\fs.lookup f=some v/\Q v H1
def cX3 (K:Frag)(ta tv:TE)(f:Str):TS:=λD σ H=>tv σ H λy H1=>ta σ H1 λx H2=> ∃a C dx fs,x= .ref a/\H2 a=some (.ins C dx fs)/\Cls K C/\a73 K C f/\fs.length<1000/\
 D.nx σ (upd H2 a<|.ins C dx<|vJ f y fs)
section
variable {X:Cx}{o e value:Expr}{f:Str}{pos pos' tpos:Pos}{ta tv:TE}
theorem pe_fld (he:PE X e ta)(hb:attributeBase e f X.env (eval e X.env)=eval e X.env):PE X (.Attribute e f pos) (tFld X.K ta f):=by
 intro pins s σ H Q I h;refine dB5 hb (thn (he pins s σ H _ I h) λu s1 zz=> ?_)
 obtain⟨x,H1,I1,rx,a,C,dx,fs,v,ex,ea,c,n,l,q⟩:=zz;subst ex;obtain rfl:u=Value.ref a:=rx;exact cB6 I1 ea c n l λu' s2 I2 ru=>⟨v,H1,I2,ru,q⟩
theorem cB8 (ha:PE X o ta)(hv:PE X value tv)(hs:swapsWith value (some<|.Attribute o f pos') pos.line X.env=pure false):PS X (.Assign [.Attribute o f pos'] value pos) (cX3 X.K ta tv f):=by
 intro pins s σ H D I h;refine aK1 (thn (hv pins s σ H _ I h) λu s1 ⟨y,H1,I1,ry,q⟩=>thn (ha pins s1 σ H1 _ I1 q) λov s2 zz=> ?_) hs
 obtain⟨x,H2,I2,rx,a,C,dx,fs,ex,ea,c,n,l,q2⟩:=zz;subst ex;obtain rfl:ov=Value.ref a:=rx;exact cB7 I2 ea c n l ry λs3 I3=>⟨σ,_,I3,q2⟩
end
end L2
namespace L2
open PySem PySem.Spec PyProof.Rows
structure gO (k:Nat)(A:Around):Prop where
 hd:A.handled=none
 dp:A.depth+3*k+5<recursionLimit
 un:A.units+16*k+200<cLine
theorem gO.mono {j k:Nat}{A:Around}(r:gO k A)(h:j<=k):gO j A:=⟨r.hd,by have:=r.dp;lia,by have:=r.un;lia⟩
theorem gO.deeper {k:Nat}{A:Around}(r:gO (k+1) A)(env:Env):gO k (A.deeper env):=
 ⟨r.hd,by have:=r.dp;show A.depth+1+3*k+5<_;lia,by have:=r.un;show A.units+3+16*k+200<_;lia⟩
theorem cB9 {A:Around}{C:Addr}{us:List Value}{kw:List (Str×Value)}:(A.under<|.builtin "type.__call__" ⟨.ref C::us,kw⟩).depth=A.depth+1:=by
 first|rfl|simp[Around.under,Code.weight,Code.isCreation,Code.isGuard,Code.isCaller,Code.frames,Code.isFrame,guardIds]
theorem cC0 {A:Around}{C:Addr}{us:List Value}{kw:List (Str×Value)}:(A.under<|.builtin "type.__call__" ⟨.ref C::us,kw⟩).units=A.units+1:=by
 first|rfl|simp[Around.under,Code.cUnits,Code.frames,Code.isFrame]
theorem gO.make {k:Nat}{A:Around}(r:gO (k+1) A)(C:Addr)(us:List Value)(kw:List (Str×Value)):gO k (A.under<|.builtin "type.__call__" ⟨.ref C::us,kw⟩):=
 ⟨r.hd,by have:=r.dp;rw[cB9];omega,by have:=r.un;rw[cC0];omega⟩
theorem gO.depth {k:Nat}{A:Around}(r:gO k A):A.depth<recursionLimit:=by have:=r.dp;lia
theorem gO.units {k:Nat}{A:Around}(r:gO k A):A.units+64<cLine:=by have:=r.un;lia
def tNil:TA:=λ_ H Q=>Q [] H
def tCons (ta:TE)(tr:TA):TA:=λσ H Q=>ta σ H λx H1=>tr σ H1 λxs H2=>Q (x::xs) H2
section
variable {X:Cx}{e:Expr}{es:List Expr}{te:TE}{t:TA}{pos:Pos}
theorem bR8:PA X [] tNil:=λ_ _ _ _ H Q I h=>Calls.spliced_nil ⟨[],H,I,.nil,h⟩
theorem b72 (ha:PE X e te)(hr:PA X es t)(hs:starEach (e::es) X.env=(false,eval e X.env)::starEach es X.env:=by rfl):PA X (e::es) (tCons te t):=by
 intro pos pins s σ H Q I h;rw[hs];show wpAny _ _ (spliced ((false,eval e X.env)::backTo pos (starEach es X.env))) _ _ s;refine Calls.spliced_cons (thn (ha pins s σ H _ I h) λu s1 ⟨x,H1,I1,r1,q1⟩=> ?_)
 exact thn (hr pos pins s1 σ H1 _ I1 q1) λus s2 ⟨xs,H2,I2,r2,q2⟩=>⟨x::xs,H2,I2,.cons r1 r2,q2⟩
def tTup (t:TA):TE:=λσ H Q=>t σ H λxs H1=>xs.length<=sizeLine/\ ∀p,H1 p=none->Q (.ref p) (upd H1 p<|.tup xs)
def tLst (t:TA):TE:=λσ H Q=>t σ H λxs H1=>xs.length<=sizeLine/\ ∀p,H1 p=none->Q (.ref p) (upd H1 p<|.lst xs)
theorem pe_tup {x1}(h:PA X es t):PE X (.Tuple es x1 pos) (tTup t):=by
 intro pins s σ H Q I hq;refine wpAny_Tuple_spliced (thn (h pos pins s σ H _ I hq) λus s1 ⟨xs,H1,I1,r,z,q⟩=>⟨by rw[<-r.length];exact z,?_⟩)
 have hf:H1 s1.heap.objs.size=none:=I1.hok.fresh (aF _);refine⟨.ref s1.heap.objs.size,upd H1 s1.heap.objs.size<|.tup xs,I1.laid (t':=s1.toks) (λb u e=>aU _ e) (aF _) ?_,rfl,q _ hf⟩
 exact⟨z,us,r,⟨_,bU _ rfl,rfl,_,rfl⟩⟩
theorem pe_lst (h:PA X es t):PE X (.List es pos) (tLst t):=by
 intro pins s σ H Q I hq;refine wpAny_List_spliced (thn (h pos pins s σ H _ I hq) λus s1 ⟨xs,H1,I1,r,z,q⟩=>⟨by rw[<-r.length];exact z,?_⟩)
 have hf:H1 s1.heap.objs.size=none:=I1.hok.fresh (aF _);refine⟨.ref s1.heap.objs.size,upd H1 s1.heap.objs.size<|.lst xs,I1.laid (t':=s1.toks) (λb u e=>aU _ e) (aF _) ?_,rfl,q _ hf⟩
 exact⟨z,us,0,r,bU _ rfl⟩
end
abbrev Sp:=List V->Hp->VK->XK->Prop
abbrev CXT:=List Env->Hp->Shared->XK->Value->Shared->Prop
structure cC1 (P:Program)(w:World)(K:Frag)(mg:Str->Option Value)(base:Heap)(A:Around)(outer:List Env)(s:Shared)(H:Hp):Prop where
 frames:A.frames=some outer
 mod:Mod K mg base
 bs: ∀b o,base.get? b=some o->s.heap.get? b=some o/\H b=none
 bsz:base.objs.size<=s.heap.objs.size
 funs:s.heap.FunFrames base outer
 frf: ∀b∈frs outer,H b=none
 hok:HOk P w H s.heap
 bare:AllBare s.gens
def CE (outer:List Env)(P:Program)(w:World)(H:Hp)(s:Shared)(Q:VK)(u:Value)(s':Shared):Prop:=
 ∃v H',s'.os=s.os/\AllBare s'.gens/\Un (frs outer) [] H H' s.heap s'.heap/\HOk P w H' s'.heap/\RelV v u/\Q v H'
def CR (CX:CXT)(outer:List Env)(P:Program)(w:World)(H:Hp)(s:Shared)(Q:VK)(E:XK)(r:Result)(s':Shared):Prop:=
 match r with
 | .ok (.ret u)=>CE outer P w H s Q u s'
 | .ok _=>False
 | .error e=>CX outer H s E e s'
structure sU (P:Program)(w:World)(K:Frag)(mg:Str->Option Value)(base:Heap)(CX:CXT)(k:Nat)(f:Addr)(fd:FuncData)(ps:List Str)(sp:Sp):Prop where
 len: ∀vs H Q E,sp vs H Q E->vs.length=ps.length
 run: ∀(A:Around) (outer:List Env) (s:Shared) (H:Hp) (args:Args) (us:List Value) (vs:List V) (Q:VK) (E:XK),gO k A->cC1 P w K mg base A outer s H->BindsTo s fd args (ps.zip us)->Vals vs us->sp vs H Q E->
  codeAny (model P w) A (.call (.ref f) args) (CR CX outer P w H s Q E) s
theorem sU.mono {P:Program}{w:World}{K:Frag}{mg:Str->Option Value}{base:Heap}{CX:CXT}{j k:Nat}{f:Addr}{fd:FuncData}{ps:List Str}{sp:Sp}(F:sU P w K mg base CX j f fd ps sp)(h:j<=k) :
  sU P w K mg base CX k f fd ps sp:=⟨F.len,λA outer s H args us vs Q E hr=>F.run A outer s H args us vs Q E (hr.mono h)⟩
theorem cC1.make {P:Program}{w:World}{K:Frag}{mg:Str->Option Value}{base:Heap}{A:Around}{outer:List Env}{s:Shared}{H:Hp}(e:cC1 P w K mg base A outer s H)(C:Addr)(us:List Value)(kw:List (Str×Value)) :
  cC1 P w K mg base (A.under<|.builtin "type.__call__" ⟨.ref C::us,kw⟩) outer s H:=⟨by first|exact e.frames| (simpa[Around.under,Code.envs,Code.isFrame,pushEnvs]using e.frames),e.mod,e.bs,e.bsz,e.funs,e.frf,e.hok,e.bare⟩
section
variable {X:Cx}{pins:List (Addr×Obj)}{σ:St}{H:Hp}{s s':Shared}
theorem Inv.env0 (I:Inv X pins σ H s):cC1 X.prog X.w X.K X.mg X.base X.A X.stack s H:=
 ⟨I.ok.frames,I.ok.mod,I.bs,aM I.ok.bsz I.sz,I.stack,I.stkFree,I.hok,I.bare⟩
theorem Inv.after {Q:VK}{u:Value}(I:Inv X pins σ H s)(h:CE X.stack X.prog X.w H s Q u s'):EP X pins σ Q u s':=by
 obtain⟨v,H',os,bare,un,hok,r,q⟩:=h;obtain⟨hh,g,d,t,os'⟩:=s';obtain rfl:os'=s.os:=os;exact⟨v,H',I.call (h':=hh) (g':=g) (d':=d) (t':=t) (ch:=[]) un hok bare λb z=>absurd z ae,r,q⟩
end
def cX4 (sp:Sp)(dvs:List V)(E:XK)(t:TA):TE:=λσ H Q=>t σ H λvs H1=>sp (vs++dvs) H1 Q E
def cI9 (C:Addr)(sp:Sp)(dvs:List V)(E:XK)(t:TA):TE:=λσ H Q=>t σ H λvs H1=> ∀x dx,H1 x=none->H1 dx=none->dx≠x->
 sp (.ref x::(vs++dvs)) (upd (upd H1 dx<|.own x) x<|.ins C dx []) (λv H2=>v= .non/\Q (.ref x) H2) E
def Binds (K:Frag)(fd:FuncData)(ps:List Str)(ds:List Value):Prop:=
 ∀(s:Shared) (us:List Value),K.In s.heap->(us++ds).length=ps.length->BindsTo s fd ⟨us,[]⟩ (ps.zip<|us++ds)
theorem Binds.all {K:Frag}{fd:FuncData}{ps:List Str}(h: ∀us:List Value,us.length=ps.length->bindArgs fd ⟨us,[]⟩=pure (ps.zip us)):Binds K fd ps []:=λs us _ hl=>by
 rw[jD]at hl⊢;exact .of_eq (h us hl)
def wK (CX:CXT)(X:Cx)(E:XK):Prop:= ∀(pins:List (Addr×Obj)) (σ:St) (H:Hp) (s:Shared) (e:Value) (s':Shared),Inv X pins σ H s->CX X.stack H s E e s'->X.xe e s'
section
variable {X:Cx}{CX:CXT}{k:Nat}{f C:Addr}{fd:FuncData}{ps:List Str}{sp:Sp}{dvs:List V}{ds:List Value}{E:XK}{x m:Str}{p pos apos:Pos}{e o:Expr}{es:List Expr}{ta:TE}{t:TA}
theorem cX5 {pins:List (Addr×Obj)}{σ:St}{H:Hp}{s:Shared}{Q:VK}{us:List Value}{vs:List V}(F:sU X.prog X.w X.K X.mg X.base CX k f fd ps sp)(hr:gO k X.A)(hb:Binds X.K fd ps ds)(hd:Vals dvs ds)(hx:wK CX X E)
  (I:Inv X pins σ H s) (r:Vals vs us) (h:sp (vs++dvs) H Q E):wpAny (model X.prog X.w) X.A (call (.ref f) us) (EP X pins σ Q) X.xe s:=by
 have r2:Vals (vs++dvs) (us++ds):=r.append hd;have hl:(us++ds).length=ps.length:=by rw[<-r2.length];exact F.len _ _ _ _ h
 refine u9 (tY (F.run X.A X.stack s H ⟨us,[]⟩ (us++ds) (vs++dvs) Q E hr I.env0 (hb s us I.kIn hl) r2 h) λr s' hq=> ?_)
 cases r with
 | error e=>exact hx pins σ H s e s' I hq
 | ok fl=>
  cases fl with
  | ret u=>exact I.after hq
  | next=>exact False.elim hq
  | brk=>exact False.elim hq
  | cont=>exact False.elim hq
theorem cJ0 (F:sU X.prog X.w X.K X.mg X.base CX k f fd ps sp)(hr:gO k X.A)(hg:Gl X x)(hm:X.mg x=some (.ref f))(hk:keepIn X.K (.ref f)=true)(hb:Binds X.K fd ps ds)(hd:Vals dvs ds)(hx:wK CX X E)
  (ha:PA X (e::es) t) (hdb:(x==("__debug__":Str))=false:=by decide) (he:starEach (e::es) X.env=(false,eval e X.env)::starEach es X.env:=by rfl) (hpl:(backTo pos<|starEach es X.env).any (·.1)=false:=by rfl) :
  PE X (.Call (.Name x p) (e::es) [] pos) (cX4 sp dvs E t):=by
 intro pins s σ H Q I h;refine pR (vQ I hg hm ?_ hdb);refine aM5 (h₀:=X.base) I.ok.mod.kin hk (thn (ha pos pins s σ H _ I h) λus s1 ⟨vs,H1,I1,r,q⟩=>⟨I1.kIn,?_⟩) he hpl
 exact cX5 F hr hb hd hx I1 r q
theorem cX6 (F:sU X.prog X.w X.K X.mg X.base CX k f fd ps sp)(hr:gO k X.A)(hg:Gl X x)(hm:X.mg x=some (.ref f))(hk:keepIn X.K (.ref f)=true)(hb:Binds X.K fd ps ds)(hd:Vals dvs ds)(hx:wK CX X E)
  (hdb:(x==("__debug__":Str))=false:=by decide):PE X (.Call (.Name x p) [] [] pos) (cX4 sp dvs E tNil):=by
 intro pins s σ H Q I h;refine pR (vQ I hg hm ?_ hdb);exact PySem.W.callWith_K0 I.kIn hk (cX5 (us:=[]) F hr hb hd hx I .nil h)
structure Mk (K:Frag)(C f:Addr):Prop where
 makes:makesIn K C=true
 init:findIn K (.ref C) "__init__"=some (some<|.ref f)
 fn:PySem.W.isFn K (.ref f)=true
 kp:keepIn K (.ref C)=true
theorem cX7 {pins:List (Addr×Obj)}{σ:St}{H:Hp}{s:Shared}{Q:VK}{us:List Value}{vs:List V}(M:Mk X.K C f)(F:sU X.prog X.w X.K X.mg X.base CX k f fd ps sp)(hr:gO (k+1) X.A)(hb:Binds X.K fd ps ds)(hd:Vals dvs ds)
  (hx:wK CX X E) (I:Inv X pins σ H s) (r:Vals vs us)
  (h: ∀x dx,H x=none->H dx=none->dx≠x->sp (.ref x::(vs++dvs)) (upd (upd H dx<|.own x) x<|.ins C dx []) (λv H2=>v= .non/\Q (.ref x) H2) E) :
  wpAny (model X.prog X.w) X.A (call (.ref C) us) (EP X pins σ Q) X.xe s:=by
 have hq:=h (s.heap.objs.size+1) s.heap.objs.size (I.hok.fresh<|u5 _) (I.hok.fresh<|aF _) (bG<|pX _);have I2:=Inv.made (C:=C) I;have r2:Vals (V.ref (s.heap.objs.size+1)::(vs++dvs)) (Value.ref (s.heap.objs.size+1)::(us++ds)):= .cons rfl (r.append hd);have hl:(Value.ref (s.heap.objs.size+1)::us++ds).length=ps.length:=by
  have e:=r2.length;rw[F.len _ _ _ _ hq]at e;exact e.symm
 refine u9 (c09 (f:=f) I.kIn M.makes M.init (fU.mp M.fn) (tY (F.run _ X.stack _ _ ⟨Value.ref (s.heap.objs.size+1)::us,[]⟩ (Value.ref (s.heap.objs.size+1)::(us++ds)) _ _ E (hr.make C us [])
  (I2.env0.make C us []) (hb _ (Value.ref (s.heap.objs.size+1)::us) I2.kIn hl) r2 hq) λr s' hq'=> ?_))
 cases r with
 | error e=>exact hx pins σ _ _ e s' I2 hq'
 | ok fl=>
  cases fl with
  | ret u=>
   obtain⟨v,H',I3,rv,ev,q3⟩:=I2.after hq';subst ev;exact⟨rv,⟨V.ref<|s.heap.objs.size+1,H',I3,rfl,q3⟩⟩
  | next=>exact False.elim hq'
  | brk=>exact False.elim hq'
  | cont=>exact False.elim hq'
theorem dB6 (M:Mk X.K C f)(F:sU X.prog X.w X.K X.mg X.base CX k f fd ps sp)(hr:gO (k+1) X.A)(hg:Gl X x)(hm:X.mg x=some (.ref C))(hb:Binds X.K fd ps ds)(hd:Vals dvs ds)(hx:wK CX X E)
  (ha:PA X (e::es) t) (hdb:(x==("__debug__":Str))=false:=by decide) (he:starEach (e::es) X.env=(false,eval e X.env)::starEach es X.env:=by rfl) (hpl:(backTo pos<|starEach es X.env).any (·.1)=false:=by rfl) :
  PE X (.Call (.Name x p) (e::es) [] pos) (cI9 C sp dvs E t):=by
 intro pins s σ H Q I h;refine pR (vQ I hg hm ?_ hdb);refine aM5 (h₀:=X.base) I.ok.mod.kin M.kp (thn (ha pos pins s σ H _ I h) λus s1 ⟨vs,H1,I1,r,q⟩=>⟨I1.kIn,?_⟩) he hpl
 exact cX7 M F hr hb hd hx I1 r q
end
section
variable {X:Cx}{CX:CXT}{k:Nat}{f C:Addr}{fd:FuncData}{ps ks:List Str}{sp:Sp}{E:XK}{x m:Str}{p pos apos kpos:Pos}{e o:Expr}{es:List Expr}{kws:List Keyword}{te ta:TE}{t tk:TA}{nm:Option Str}
variable {g:List Value->List Value->List Value}{gV:List V->List V->List V}
end
structure aY (N P:List Str)(sc:Scope):Prop where
 kind:sc.kind= .function
 co:sc.isCoroutine=false
 gen:sc.isGenerator=false
 nd:N.Nodup
 pre:N.take P.length=P
 par: ∀x∈P,sc.names.lookup x=some .local\/sc.names.lookup x=some .cell
 nofree: ∀y∈sc.names,y.2≠ .free
theorem bN0 {kindOf:Str->Option NameKind}{x:Str}: ∀{binds:List (Str×Value)} {m:Str->Option Value},(∀v,(x,v) ∉ binds)->bindL kindOf binds m x=m x
 | [],_,_=>rfl
 | (n,v)::r,m,h=>by
  unfold bindL;rw[bN0 λw hw=>h w (bM _ hw)]
  split
  ·have:x≠n:=by rintro rfl;exact h v bC
   simp[this]
  ·rfl
theorem bN1 {kindOf:Str->Option NameKind}{x:Str}: ∀{binds:List (Str×Value)} {m:Str->Option Value},(∀v,(x,v) ∉ binds)->bindC kindOf binds m x=m x
 | [],_,_=>rfl
 | (n,v)::r,m,h=>by
  unfold bindC;rw[bN1 λw hw=>h w (bM _ hw)]
  split
  ·rfl
  ·have:x≠n:=by rintro rfl;exact h v bC
   simp[this]
theorem bN2 {kindOf:Str->Option NameKind}{x:Str}{v:Value}: ∀{P:List Str} {vs:List Value} {i:Nat} {m:Str->Option Value},P.Nodup->P[i]? =some x->vs[i]? =some v->kindOf x=some .local->
  bindL kindOf (P.zip vs) m x=some v
 | [],_,_,_,_,h,_,_=>by simp at h
 | _::_,[],_,_,_,_,h,_=>by simp at h
 | p::P,w::vs,0,m,nd,h1,h2,hk=>by
  simp at h1 h2;subst h1;subst h2
  show bindL kindOf ((p,w)::P.zip vs) m p=_
  unfold bindL;rw[bN0 λv hv=>(zN.mp nd).1 (zO hv).1,a9 hk]
  simp
 | p::P,w::vs,i+1,m,nd,h1,h2,hk=>by
  show bindL kindOf ((p,w)::P.zip vs) m x=_
  unfold bindL;exact bN2 (i:=i) (zN.mp nd).2 (by simpa using h1) (by simpa using h2) hk
theorem bN3 {kindOf:Str->Option NameKind}{x:Str}{v:Value}: ∀{P:List Str} {vs:List Value} {i:Nat} {m:Str->Option Value},P.Nodup->P[i]? =some x->vs[i]? =some v->kindOf x≠some .local->
  bindC kindOf (P.zip vs) m x=some v
 | [],_,_,_,_,h,_,_=>by simp at h
 | _::_,[],_,_,_,_,h,_=>by simp at h
 | p::P,w::vs,0,m,nd,h1,h2,hk=>by
  simp at h1 h2;subst h1;subst h2
  show bindC kindOf ((p,w)::P.zip vs) m p=_
  unfold bindC;rw[bN1 λv hv=>(zN.mp nd).1 (zO hv).1,a6 hk]
  simp
 | p::P,w::vs,i+1,m,nd,h1,h2,hk=>by
  show bindC kindOf ((p,w)::P.zip vs) m x=_
  unfold bindC;exact bN3 (i:=i) (zN.mp nd).2 (by simpa using h1) (by simpa using h2) hk
noncomputable def start (N:List Str)(vs:List V):St:=vs.map some++replicate (N.length-vs.length) none
noncomputable def uD (CX:CXT)(P:Program)(w:World)(K:Frag)(mg:Str->Option Value)(base:Heap)(N:List Str)(qual:Str)(scope:Scope)(f:Addr)(cd:Value)(A:Around)(outer:List Env)(s:Shared)(H:Hp)(E:XK):Cx where
 prog:=P
 w:=w
 K:=K
 mg:=mg
 base:=base
 A:=A.deeper (envOfC qual scope s.heap.objs.size f cd)
 N:=N
 s₀:=s
 H₀:=H
 env:=envOfC qual scope s.heap.objs.size f cd
 outer:=outer
 stack:=envOfC qual scope s.heap.objs.size f cd::outer
 ex:=[]
 calm:=true
 fn:=λ_=>true
 pn:=[]
 xe:=λe s'=>wpAny (model P w) (A.deeper<|envOfC qual scope s.heap.objs.size f cd) (leaving (envOfC qual scope s.heap.objs.size f cd) e) (λ_ s''=>CX outer H s E e s'') (λe' s''=>CX outer H s E e' s'') s'
theorem c12 {sc:Scope}{n:Nat}{x:Str}(h:sc.names.lookup x=some .cell): ∃c,(cellsFrom n sc.names []).lookup x=some c:=by
 have q:=aL2 sc.names n [] (.inl h);exact Option.isSome_iff_exists.mp q
theorem bN4 {CX:CXT}{P:Program}{w:World}{K:Frag}{mg:Str->Option Value}{base:Heap}{N ps:List Str}{qual:Str}{scope:Scope}{f:Addr}{cd:Value}{A:Around}{outer:List Env}{s s1:Shared}{H:Hp}{E:XK}{us:List Value}{vs:List V}
  (S:aY N ps scope) (hd:A.handled=none) (e0:cC1 P w K mg base A outer s H) (hl:vs.length=ps.length) (r:Vals vs us)
  (x:InCallC s s.heap.objs.size (bindL (envOfC qual scope s.heap.objs.size f cd).kindOf (ps.zip us) λ_=>none) (cellsFrom (s.heap.objs.size+1) scope.names []) (bindC (envOfC qual scope s.heap.objs.size f cd).kindOf (ps.zip us) λ_=>none) s1) :
  Inv (uD CX P w K mg base N qual scope f cd A outer s H E) [] (start N vs) H s1:=by
 have hpl:ps.length<=N.length:=by have:=bQ length S.pre;rw[tT]at this;lia
 obtain⟨h1,tk,rfl,hk⟩:=x.done;have noA: ∀b:Addr,b ∉ (uD CX P w K mg base N qual scope f cd A outer s H E).ex:=λb z=>absurd (show b∈([]:List Addr)from z) ae
 refine⟨⟨e0.mod,S.kind,rfl,rfl,aF _,λy z c h1 h2=> ?_,λy hy=> ?_,λy c _ h=> ?_,λ_=>hd,Around.frames_deeper e0.frames,.inr ⟨rfl,rfl⟩,λb z=>absurd z (noA b),e0.bs,e0.bsz,λb _ _=>noA b,λb z=>absurd z (noA b),e0.funs,e0.frf⟩,
  rfl,e0.bare,Un.kept hk,⟨_,x.toInCall.ns,λi y v h1 h2 h3=> ?_⟩,λy c h=>⟨_,x.cell y c h⟩,e0.hok.fresh<|aF _,λy c h=> ?_,λp hp=>absurd (show p∈([]:List (Addr×Obj))from hp) ae,e0.hok.kept hk,?_⟩
 ·exact name_of_addr x.apart (pP h1) (pP h2)
 ·have hy:scope.names.lookup y=some .cell\/scope.names.lookup y=some .free:=hy;rcases hy with hy|hy
  ·exact c12 hy
  ·exact absurd rfl (S.nofree _<|pP hy)
 ·exact kE (x.above y c<|pP h)
 ·have hi:i<vs.length:=by
   unfold start at h2
   by_cases hi:i<vs.length
   ·exact hi
   ·rw[gD<|by simpa using hi]at h2
    rw[tL]at h2;split at h2<;>cases h2
  have ha:vs[i]? =some v:=by
   unfold start at h2;rw[fM<|by simpa using hi,bJ]at h2
   cases e:vs[i]? with
   | none=>rw[e]at h2;cases h2
   | some a=>rw[e]at h2;cases h2;rfl
  obtain⟨u,hu,rv⟩:=r.get ha;have hp:ps[i]? =some y:=by
   rw[<-S.pre,List.getElem?_take_of_lt ad];exact h1
  have ndP:ps.Nodup:=by rw[<-S.pre];exact S.nd.sublist (List.take_sublist _ _)
  refine⟨u,rv,?_⟩
  rcases S.par y (zE hp)with k|k
  ·exact .inl ⟨k,bN2 ndP hp hu k⟩
  ·obtain⟨c,e⟩:=c12 (n:=s.heap.objs.size+1) k;refine .inr ⟨.inl k,c,e,?_⟩;have q:=x.cell y c e;rw[bN3 ndP hp hu (by show scope.names.lookup y≠_;rw[k];decide)]at q
   exact q
 ·exact e0.hok.fresh (kE<|x.above y c<|pP h)
 ·unfold start;show _=N.length;rw[bO,aK,tN]
  lia
theorem cX8 {CX:CXT}{P:Program}{w:World}{K:Frag}{mg:Str->Option Value}{base:Heap}{k:Nat}{f:Addr}{name qual:Str}{params:Arguments}{body:List Stmt}{scope:Scope}{dV kV doc pm cdv ct oc:Value}{an od:Option Addr}
  {osl:Array (Option Value)} {N ps:List Str} {sp:Sp} (lk:K.lookup f=some ⟨oc,od,.func<|fnOf name qual params body scope dV kV doc pm an cdv ct,osl⟩) (hcd:codeIn K cdv qual=true) (S:aY N ps scope)
  (len: ∀vs H Q E,sp vs H Q E->vs.length=ps.length)
  (hbody: ∀(A:Around) (outer:List Env) (s:Shared) (H:Hp) (vs:List V) (Q:VK) (E:XK),gO k (A.deeper<|envOfC qual scope s.heap.objs.size f cdv)->sp vs H Q E->
   ∃t,PSs (uD CX P w K mg base N qual scope f cdv A outer s H E) body t/\t {nx:=λ_ H'=>Q .non H',rt:=Q} (start N vs) H) :
  sU P w K mg base CX (k+1) f (fnOf name qual params body scope dV kV doc pm an cdv ct) ps sp:=by
 refine⟨len,λA outer s H args us vs Q E hr e0 hb r hsp=> ?_⟩
 have hl:=len _ _ _ _ hsp;have KX:K.In s.heap:=e0.mod.kin.keeps λb o e=>(e0.bs b o e).1
 have lim:s.heap.NoLimit:=e0.mod.nolimit.keeps λb o e=>(e0.bs b o e).1
 have hkind: ∀y∈ps.zip us,scope.names.lookup y.1=some .local\/(scope.names.lookup y.1=some .cell/\((cellsFrom (s.heap.objs.size+1) scope.names []).lookup y.1).isSome=true):=λ⟨n,v⟩ hy=>by
  rcases S.par n (zO hy).1 with q|q
  ·exact .inl q
  ·exact .inr ⟨q,aL2 _ _ _<|.inl q⟩
 refine codeAny_call_function hr.depth (KX _ _ lk) rfl S.co S.gen rfl (PySem.W.codeRec_of KX hcd) (hb _ _ _ _ ?_)
 refine wpAny_newFunctionEnv_cells S.kind hkind λenv he s1 x=> ?_
 subst he;refine⟨lim.keeps x.toInCall.keep,codeAny_func ?_⟩;obtain⟨t,ht,hq⟩:=hbody A outer s H vs Q E (hr.deeper _) hsp;have I:Inv (uD CX P w K mg base N qual scope f cdv A outer s H E) [] (start N vs) H s1:=bN4 S hr.hd e0 hl r x;refine bI (ht [] s1 (start N vs) H _ I hq) (λfl s' hs=> ?_) λe s' hs=>hs
 have fin: ∀{σ':St} {H':Hp} {v:V} {u:Value},Inv (uD CX P w K mg base N qual scope f cdv A outer s H E) [] σ' H' s'->RelV v u->Q v H'->CE outer P w H s Q u s':=
  λ{σ' H' v u} J rv q=>⟨v,H',J.os,J.bare,J.base,J.hok,rv,q⟩
 cases fl with
 | ret u=>
  obtain⟨v,σ',H',J,rv,q⟩:=hs;exact fin J rv q
 | next=>
  obtain⟨σ',H',J,q⟩:=hs;exact fin (v:=V.non) (u:=Value.none) J rfl q
 | brk=>
  obtain⟨_,_,_,q⟩:=hs;exact False.elim q
 | cont=>
  obtain⟨_,_,_,q⟩:=hs;exact False.elim q
end L2
namespace L2
open PySem PySem.Spec PyProof.Rows
section
variable {X:Cx}{x:Str}{p pos:Pos}{e:Expr}{es:List Expr}{t:TA}{id T:String}{r:List V->Hp->VK->Prop}
def tCB (r:List V->Hp->VK->Prop)(t:TA):TE:=λσ H Q=>t σ H λvs H1=>r vs H1 Q
theorem c13 (hc:uB X (.builtin id) r)(hg:Gl X x)(hm:X.mg x=none)(hv:bootBuiltins x=some (.builtin id))(ha:PA X (e::es) t)(hn:x≠"__name__":=by decide)(hdb:(x==("__debug__":Str))=false:=by decide)
  (he:starEach (e::es) X.env=(false,eval e X.env)::starEach es X.env:=by rfl) (hpl:(backTo pos<|starEach es X.env).any (·.1)=false:=by rfl):PE X (.Call (.Name x p) (e::es) [] pos) (tCB r t):=by
 intro pins s σ H Q I h;refine pR (wJ I hg hm hv ?_ hn hdb);exact PyProof.Rows.callWith_builtin1 (thn (ha pos pins s σ H _ I h) λus s1 ⟨vs,H1,I1,r1,q1⟩=>hc pins s1 σ H1 vs us Q I1 r1 q1) he hpl
theorem cP7 (hc:uB X (.type T) r)(hg:Gl X x)(hm:X.mg x=none)(hv:bootBuiltins x=some (.type T))(ha:PA X (e::es) t)(hn:x≠"__name__":=by decide)(hdb:(x==("__debug__":Str))=false:=by decide)
  (he:starEach (e::es) X.env=(false,eval e X.env)::starEach es X.env:=by rfl) (hpl:(backTo pos<|starEach es X.env).any (·.1)=false:=by rfl):PE X (.Call (.Name x p) (e::es) [] pos) (tCB r t):=by
 intro pins s σ H Q I h;refine pR (wJ I hg hm hv ?_ hn hdb);exact j9 (thn (ha pos pins s σ H _ I h) λus s1 ⟨vs,H1,I1,r1,q1⟩=>hc pins s1 σ H1 vs us Q I1 r1 q1) he hpl
end
end L2
namespace HT
open PySem PyProof.Rows
section
open PySem.SeqAt
open PySem.AutoSeq1 (wpAny_loadPart')
open PySem.MeetsSeq PySem.MeetsSeq2 PySem.MeetsSeq3
end
section
variable {prog:Program}{w:World}{A:Around}{E:Value->Shared->Prop}{s:Shared}
theorem cat_tup {t b:Addr}{vs ws:List Value}{Q:Value->Shared->Prop}(ht:IsTup s.heap t vs.toArray)(hb:IsTup s.heap b ws.toArray)(hv:vs≠[])
  (h1:ws=[]->Q (.ref t) s) (h2:ws≠[]->Q (.ref s.heap.objs.size) {s with heap:=s.heap.push {cls:= .type "tuple",data:= .seq (vs++ws).toArray}})
  (hsz:vs.length+ws.length<=sizeLine):wpAny (model prog w) A (binaryOp .Add (.ref t)<|.ref b) Q E s:=by
 obtain⟨⟨cls,dd,data,sl⟩,ho,hc,n,hd⟩:=id ht;obtain⟨⟨cls2,dd2,data2,sl2⟩,ho2,hc2,n2,hd2⟩:=id hb;simp only at hc hd hc2 hd2;subst hc hd hc2 hd2;have e:vs.toArray++ws.toArray=(vs++ws).toArray:=ae
 by_cases hw:ws=[]
 ·exact concat_meets ⟨_,ho,rfl⟩ ⟨_,ho2,rfl⟩ aN3 seq_tuple_add aL3 aK7 (aK2 _ _)
   (tuple_addW1 t b vs.toArray ws.toArray n n2 dd dd2 sl sl2 (by simpa using hv)<|by simp[hw]) ⟨ho,ho2,h1 hw⟩
 ·refine concat_meets ⟨_,ho,rfl⟩ ⟨_,ho2,rfl⟩ aN3 seq_tuple_add aL3 aK7 (aK2 _ _)
   (tuple_addW2 t b vs.toArray ws.toArray n n2 dd dd2 sl sl2 (by simpa using hv) (by simpa using hw) (by rw[b7,b7];exact hsz)) ⟨ho,ho2,?_⟩
  rw[e];exact h2 hw
noncomputable def sIx (n d:Nat):Option Int->Nat
 | none=>d
 | some v=>if v<0 then(v+(n:Int)).toNat else min v.toNat n
theorem sIx_none (n d:Nat):sIx n d none=d:=rfl
theorem sIx_nat (n d k:Nat):sIx n d (some (k:Int))=min k n:=by
 show(if(k:Int)<0 then((k:Int)+(n:Int)).toNat else min (k:Int).toNat n)=min k n
 rw[a6 ad,eB]
theorem sIx_le (n d:Nat)(hd:d<=n)(o:Option Int):sIx n d o<=n:=by
 cases o with
 | none=>exact hd
 | some v=>
  show(if v<0 then(v+(n:Int)).toNat else min v.toNat n)<=n
  by_cases hv:v<0
  ·rw[a9 hv];lia
  ·rw[a6 hv];exact Nat.min_le_right _ _
theorem cJ1 (v:Int)(n d:Nat):(if v<0 then max (v+(n:Int)) 0 else min v (n:Int))=((sIx n d (some v):Nat):Int):=by
 show(if v<0 then max (v+(n:Int)) 0 else min v (n:Int))=(((if v<0 then(v+(n:Int)).toNat else min v.toNat n):Nat):Int)
 by_cases hv:v<0
 ·simp only[a9 hv];lia
 ·simp only[a6 hv];lia
theorem cC2 (lo hi:Option Int)(n:Nat):Builtin.Slice.sliceAdjust lo hi 1 (n:Int)=(((sIx n 0 lo:Nat):Int),((sIx n n hi:Nat):Int)):=by
 have h1: ¬((1:Int)<0):=ad
 unfold Builtin.Slice.sliceAdjust;simp only[h1,nO];refine gJ ?_ ?_
 ·cases lo with
  | none=>rfl
  | some v=>exact cJ1 v n 0
 ·cases hi with
  | none=>rfl
  | some v=>exact cJ1 v n n
theorem cC3 (i j:Nat):Builtin.Slice.slicePlaces (i:Int) (j:Int) 1=j-i:=by
 unfold Builtin.Slice.slicePlaces;have h1:(1:Int)>0:=ad
 simp only[h1,gK,Int.ediv_one];split<;>lia
theorem b94 {v:Value}{o:Option Int}{Q:Option Int->Shared->Prop}(p:IsPart v o)(h:Q o s):wpAny (model prog w) A (Builtin.Slice.slicePartIndex v) Q E s:=by
 cases p with
 | none=>exact slicePart_none h
 | int i t=>exact slicePart_int h
theorem yA {sl:Addr}{vl vu:Value}{lo hi:Option Int}{n:Nat}{Q:Int×Int×Nat->Shared->Prop}(hs:s.heap.IsSliceOf sl vl vu .none)(pl:IsPart vl lo)(pu:IsPart vu hi)
  (h:Q (((sIx n 0 lo:Nat):Int),1,sIx n n hi-sIx n 0 lo) s):wpAny (model prog w) A (Builtin.Slice.sliceApplied (.ref sl)<|pure (n:Int)) Q E s:=by
 obtain⟨os,hos,hcs,hds⟩:=id hs;unfold Builtin.Slice.sliceApplied Builtin.Slice.sliceFields;refine aA (aA<|cW hos hds (x:=vl) rfl (aA<|cW hos hds (x:=vu) rfl (aA<|cW hos hds (x:= .none) rfl (aH ?_))));refine aA (slicePart_none ?_);show wpAny _ _ (if((1:Int)==0)=true then _ else _) _ _ s;rw[a6 ac]
 refine aA (b94 pl<|aA<|b94 pu<|aA<|aH ?_)
 show wpAny _ _ (match Builtin.Slice.sliceAdjust lo hi 1 (n:Int)with| (lo,hi)=>pure (lo,(1:Int),Builtin.Slice.slicePlaces lo hi 1)) _ _ s
 rw[cC2 lo hi n];show wpAny _ _ (pure (((sIx n 0 lo:Nat):Int),(1:Int),Builtin.Slice.slicePlaces ((sIx n 0 lo:Nat):Int) ((sIx n n hi:Nat):Int) 1)) _ _ s;rw[cC3];exact aH h
theorem cX9 (xs:Array Value)(i k:Nat):((List.range k).filterMap fun(m:Nat)=>xs[((i:Int)+(m:Int)*1).toNat]?).toArray=((xs.toList.drop i).take k).toArray:=by
 have e:(fun(m:Nat)=>xs[((i:Int)+(m:Int)*1).toNat]?)=λm=>xs[i+m]? :=by
  funext m
  have:((i:Int)+(m:Int)*1).toNat=i+m:=ad
  rw[this]
 rw[e];have:=pick_run xs i k;rw[List.filterMap_map]at this;have e2:((λx=>xs[x]?)∘λx=>i+x)=λm=>xs[i+m]? :=rfl
 rw[e2]at this;rw[this]
theorem getItem_tuple_cut {t sl:Addr}{items:Array Value}{vl vu:Value}{lo hi:Option Int}{Q:Value->Shared->Prop}(ht:IsTup s.heap t items)(hs:s.heap.IsSliceOf sl vl vu .none)(pl:IsPart vl lo)(pu:IsPart vu hi)
  (hw: ¬(sIx items.size 0 lo=0/\sIx items.size items.size hi=items.size))
  (h:Q (.ref s.heap.objs.size) {s with heap:=s.heap.push {cls:= .type "tuple",data:= .seq ((items.toList.drop<|sIx items.size 0 lo).take<|sIx items.size items.size hi-sIx items.size 0 lo).toArray}})
  (hsz:items.size<=sizeLine):wpAny (model prog w) A (getItem (.ref t)<|.ref sl) Q E s:=by
 have htake:sizeOk (.seq ((items.toList.drop<|sIx items.size 0 lo).take<|sIx items.size items.size hi-sIx items.size 0 lo).toArray):=by
  show((items.toList.drop<|sIx items.size 0 lo).take<|sIx items.size items.size hi-sIx items.size 0 lo).toArray.size<=sizeLine
  rw[b7,tT,pY,aM1];omega
 have hj:sIx items.size items.size hi<=items.size:=sIx_le _ _ (aF _) hi;obtain⟨os,hos,hcs,hds⟩:=id hs;have hTs:s.TypeIs (.ref sl) "slice":=⟨os,hos,hcs⟩;unfold getItem;try with_reducible refine iN ?_
 first|refine aA (aH ?_)|skip
 refine aA (wpAny_sequenceKey ht.typeIs ac ?_)
 refine aA (jZ (name:=Str.ofString "__getitem__") ht.typeIs yW
  (iK yW ht.typeIs entry_tuple_getitem ?_<|args_tuple_getitem _ _))
 show wpAny _ _ (Builtin.Tuple.tupleItemsOf (.ref t) >>= _) _ _ s
 refine aA (tupleItemsOf_ ht ?_)
 refine aA (zX hTs ?_)
 rw[a9 ac]
 refine aA (yA hs pl pu ?_)
 have hno: ¬((((sIx items.size 0 lo:Nat):Int)==0&&(1:Int)==1&&(sIx items.size items.size hi-sIx items.size 0 lo)==items.size)=true):=by
  intro q;rw[dN,dN]at q;have q1:((sIx items.size 0 lo:Nat):Int)=0:=eq_of_beq q.1.1;have q2:sIx items.size items.size hi-sIx items.size 0 lo=items.size:=eq_of_beq q.2;exact hw ⟨aa,aa⟩
 show wpAny _ _ (if(((sIx items.size 0 lo:Nat):Int)==0&&(1:Int)==1&&(sIx items.size items.size hi-sIx items.size 0 lo)==items.size)=true then _ else _) _ _ s
 rw[a6 hno,cX9]
 first
  | exact aA (m:=Builtin.Tuple.tupleExact _) (iJ (aH ⟨_,rfl,aH h⟩) htake)
  | exact aA (m:=Builtin.Tuple.tupleExact _) (iJ (aA<|aH<|aH ⟨_,rfl,aH h⟩) htake)
  | exact aA (aA (m:=Builtin.Tuple.tupleExact _)<|iJ (aH<|aH ⟨_,rfl,aH h⟩) htake)
  | exact aA (aA (m:=Builtin.Tuple.tupleExact _)<|iJ (aH ⟨_,rfl,aH h⟩) htake)
end
end HT
namespace L2
open PySem PySem.Spec PyProof.Rows
abbrev TO:=St->Hp->(Option Int->Hp->Prop)->Prop
def PO (X:Cx)(e:Option Expr)(t:TO):Prop:=
 ∀(pins:List (Addr×Obj)) (s:Shared) (σ:St) (H:Hp) (Q:Option Int->Hp->Prop),Inv X pins σ H s->t σ H Q->
  wpAny (model X.prog X.w) X.A (evalPart e X.env) (λu s'=> ∃o H',Inv X pins σ H' s'/\IsPart u o/\Q o H') X.xe s
def dB7:TO:=λ_ H Q=>Q none H
def tPart (t:TE):TO:=λσ H Q=>t σ H λx H1=> ∃i,x= .int i/\Q (some i) H1
theorem intsAre_of {ns:List Int}: ∀{us:List Value},Vals (ns.map V.int) us->IntsAre us ns:=by
 induction ns with
 | nil=>intro us r;rw[iP]at r;cases r;exact .nil
 | cons n ns ih=>
  intro us r;rw[cN]at r;cases r with
  | cons r1 r2=>
   obtain⟨t,e⟩:=r1;subst e;exact .cons n t (ih r2)
section
variable {X:Cx}{e:Expr}{te:TE}{lo hi:Option Expr}{tl th:TO}{pos p2:Pos}
theorem dB8:PO X none dB7:=by
 intro pins s σ H Q I h;rw[evalPart_none];exact aH ⟨none,H,I,.none,h⟩
theorem dB9 (h:PE X e te):PO X (some e) (tPart te):=by
 intro pins s σ H Q I hw;rw[evalPart_some];refine thn (h pins s σ H _ I hw) λu s1 ⟨x,H1,I1,r1,q1⟩=> ?_
 obtain⟨i,rfl,q⟩:=q1;obtain⟨t,rfl⟩:=r1;exact⟨some i,H1,I1,.int i t,q⟩
def SlR (X:Cx)(r:V->Option Int->Option Int->Hp->VK->Prop):Prop:=
 ∀(pins:List (Addr×Obj)) (s:Shared) (σ:St) (H:Hp) (x:V) (v vl vu:Value) (lo hi:Option Int) (sl:Addr) (Q:VK),Inv X pins σ H s->RelV x v->s.heap.IsSliceOf sl vl vu .none->IsPart vl lo->IsPart vu hi->r x lo hi H Q->
  ∃T id,typeLookup (.type T) "__getitem__"=pure (some<|.builtin id)/\s.TypeIs v T/\wpAny (model X.prog X.w) X.A (getItem v<|.ref sl) (EP X pins σ Q) X.xe s
theorem SlR.or {r r':V->Option Int->Option Int->Hp->VK->Prop}(h:SlR X r)(h':SlR X r'):SlR X (λx lo hi H Q=>r x lo hi H Q\/r' x lo hi H Q):=by
 intro pins s σ H x v vl vu lo hi sl Q I rx hs pl pu q;rcases q with q|q
 ·exact h pins s σ H x v vl vu lo hi sl Q I rx hs pl pu q
 ·exact h' pins s σ H x v vl vu lo hi sl Q I rx hs pl pu q
def tSl (r:V->Option Int->Option Int->Hp->VK->Prop)(te:TE)(tl th:TO):TE:=λσ H Q=>te σ H λx H1=>tl σ H1 λl H2=>th σ H2 λu H3=>r x l u H3 Q
theorem c14 {r:V->Option Int->Option Int->Hp->VK->Prop}(hr:SlR X r)(he:PE X e te)(hl:PO X lo tl)(hu:PO X hi th):PE X (.Subscript e (.Slice lo hi none p2) pos) (tSl r te tl th):=by
 intro pins s σ H Q I h;refine Subscript_ (thn (he pins s σ H _ I h) λv s1 ⟨x,H1,I1,r1,q1⟩=> ?_)
 refine wpAny_Slice (thn (hl pins s1 σ H1 _ I1 q1) λvl s2 ⟨l,H2,I2,pl,q2⟩=>thn (hu pins s2 σ H2 _ I2 q2) λvu s3 ⟨u,H3,I3,pu,q3⟩=> ?_)
 rw[evalPart_none];refine aH ?_;have I4:Inv X pins σ H3 {s3 with heap:=s3.heap.push {cls:= .type "slice",data:= .fields #[vl,vu,.none]}}:=I3.kept (t':=s3.toks) λb ob q=>aU _ q
 obtain⟨T,id,hT,ht,hg⟩:=hr pins {s3 with heap:=s3.heap.push {cls:= .type "slice",data:= .fields #[vl,vu,.none]}} σ H3 x v vl vu l u s3.heap.objs.size Q I4 r1 (Heap.IsSliceOf.new ..) pl pu q3;show wpAny (model X.prog X.w) X.A (subscriptTail e (.Slice lo hi none p2) v<|.ref s3.heap.objs.size) (EP X pins σ Q) X.xe {s3 with heap:=s3.heap.push {cls:= .type "slice",data:= .fields #[vl,vu,.none]}}
 exact tail_any (ops:=[.ref s3.heap.objs.size,v]) ht hT hg (by with_unfolding_all rfl)
noncomputable def c15 (xs:List V)(lo hi:Option Int):List V:=(xs.drop<|HT.sIx xs.length 0 lo).take (HT.sIx xs.length xs.length hi-HT.sIx xs.length 0 lo)
theorem b19 (xs:List V)(lo hi:Option Int):(c15 xs lo hi).length<=xs.length:=by
 unfold c15;rw[tT,pY]
 lia
noncomputable def rSlT (K:Frag):V->Option Int->Option Int->Hp->VK->Prop:=λx lo hi H Q=> ∃a xs,x= .ref a/\SqT K H a xs/\
 ¬(HT.sIx xs.length 0 lo=0/\HT.sIx xs.length xs.length hi=xs.length)/\ ∀p,H p=none->Q (.ref p) (upd H p<|.tup<|c15 xs lo hi)
theorem cY0:SlR X (rSlT X.K):=by
 intro pins s σ H x v vl vu lo hi sl Q I rx hs pl pu h;obtain⟨a,xs,rfl,hx,hw,q⟩:=h;cases rx;obtain⟨its,r,ht,hz⟩:=I.tuple hx;have hlen:its.toArray.size=xs.length:=by rw[b7];exact r.length.symm
 refine⟨"tuple",_,PyProof.Rows.slot_tuple_getitem.lookup,ht.typeIs,?_⟩
 refine HT.getItem_tuple_cut ht hs pl pu (by rw[hlen];exact hw) ?_ (by rw[hlen];exact hz)
 rw[hlen];refine⟨.ref s.heap.objs.size,_,I.laid (t':=s.toks) (o:= .tup (c15 xs lo hi)) (λb ob q=>aU _ q) (aF _) ?_,rfl,q _<|I.hok.fresh<|aF _⟩
 exact⟨aM (b19 xs lo hi) hz,_,(r.drop<|HT.sIx xs.length 0 lo).take<|HT.sIx xs.length xs.length hi-HT.sIx xs.length 0 lo,qE _ _⟩
noncomputable def rCatT (K:Frag):R2:=λx y H Q=> ∃a b xs ys,x= .ref a/\y= .ref b/\SqT K H a xs/\SqT K H b ys/\xs≠[]/\xs.length+ys.length<=sizeLine/\
 (ys=[]->Q (.ref a) H)/\(ys≠[]-> ∀p,H p=none->Q (.ref p) (upd H p<|.tup<|xs++ys))
theorem Vals.nil_iff {xs:List V}{us:List Value}(r:Vals xs us):us=[]↔xs=[]:=by
 cases r with
 | nil=>simp
 | cons _ _=>simp
theorem dC0:OpR X (binaryOp .Add) (rCatT X.K):=by
 intro pins s σ H x y v u Q I rx ry h;obtain⟨a,b,xs,ys,rfl,rfl,ha,hb,hx,hz,q1,q2⟩:=h;cases rx;cases ry;obtain⟨its,r1,p1,_⟩:=I.tuple ha;obtain⟨its2,r2,p2,_⟩:=I.tuple hb;refine HT.cat_tup p1 p2 (λz=>hx (r1.nil_iff.mp z)) (λz=>⟨.ref a,H,I,rfl,q1<|r2.nil_iff.mp z⟩) (λz=> ?_) (by rw[<-r1.length,<-r2.length];exact hz)
 refine⟨.ref s.heap.objs.size,_,I.laid (t':=s.toks) (o:= .tup (xs++ys)) (λb ob q=>aU _ q) (aF _) ?_,rfl,q2 (λw=>z (r2.nil_iff.mpr w)) _<|I.hok.fresh<|aF _⟩
 exact⟨by rw[bO];exact hz,_,r1.append r2,qE _ _⟩
end
end L2
namespace L2
open PySem PySem.Spec PyProof.Rows
noncomputable def ixN (n:Nat)(i:Int):Option Nat:=if 0<=i then(if i<n then some i.toNat else none)else if -(n:Int)<=i then some (i+n).toNat else none
noncomputable def atI {α:Type}(xs:List α)(i:Int):Option α:=(ixN xs.length i).bind λj=>xs[j]?
theorem cJ2 {n:Nat}{i:Int}{j:Nat}(h:ixN n i=some j):seqIndex? i n=some j/\j<n/\ -(n:Int)<=i/\i<n:=by
 unfold ixN at h
 by_cases h0:0<=i
 ·rw[a9 h0]at h
  by_cases h1:i<n
  ·rw[a9 h1]at h;have e:i.toNat=j:=gE h;exact⟨by rw[a02 h0 h1,e],ad,ad,h1⟩
  ·rw[a6 h1]at h;cases h
 ·rw[a6 h0]at h
  by_cases h1: -(n:Int)<=i
  ·rw[a9 h1]at h;have e:(i+n).toNat=j:=gE h;exact⟨by rw[zY ad h1,e],ad,h1,ad⟩
  ·rw[a6 h1]at h;cases h
theorem b73 {α:Type}{xs:List α}{i:Int}{v:α}(h:atI xs i=some v): ∃j,seqIndex? i xs.length=some j/\xs[j]? =some v/\j<xs.length/\ -(xs.length:Int)<=i/\i<xs.length:=by
 unfold atI at h;cases e:ixN xs.length i with
 | none=>rw[e]at h;cases h
 | some j=>
  rw[e]at h;obtain⟨h1,h2,h3,h4⟩:=cJ2 e;exact⟨j,h1,h,h2,h3,h4⟩
theorem d5 {α:Type}{xs:List α}{j:Nat}{v:α}(h:xs[j]? =some v):atI xs (j:Int)=some v:=by
 have hj:j<xs.length:=(jY.mp h).1;have e:ixN xs.length (j:Int)=some j:=by
  unfold ixN;rw[a9 ad,a9 ad];simp
 unfold atI;rw[e];exact h
theorem cY1 {α:Type}(xs:List α)(v:α):atI (xs++[v]) (-1)=some v:=by
 have hl:(xs++[v]).length=xs.length+1:=ae
 have e:ixN (xs++[v]).length (-1)=some xs.length:=by
  unfold ixN;rw[hl,a6 ac,a9 ad]
  congr 1
  lia
 unfold atI;rw[e];show(xs++[v])[xs.length]? =some v;simp
def bR9 (b:Expr):Prop:= ∀o i,subscripted b false o i=operate [o,i] (getItem o i)
def IxR (X:Cx)(r:R2):Prop:=
 ∀(value slice:Expr) (pins:List (Addr×Obj)) (s:Shared) (σ:St) (H:Hp) (x y:V) (v u:Value) (Q:VK),Inv X pins σ H s->RelV x v->RelV y u->r x y H Q->
  subscripted slice false v u=operate [v,u] (getItem v u)->wpAny (model X.prog X.w) X.A (subscriptTail value slice v u) (EP X pins σ Q) X.xe s
def MtR (X:Cx)(id:String)(r:V->List V->Hp->VK->Prop):Prop:=
 ∀(pins:List (Addr×Obj)) (s:Shared) (σ:St) (H:Hp) (x:V) (xs:List V) (v:Value) (us:List Value) (Q:VK),Inv X pins σ H s->RelV x v->Vals xs us->r x xs H Q->
  wpAny (model X.prog X.w) X.A (call (.builtin id) (v::us)) (EP X pins σ Q) X.xe s
section
variable {X:Cx}{a b:Expr}{ta tb:TE}{pos:Pos}
theorem IxR.or {r r':R2}(h:IxR X r)(h':IxR X r'):IxR X (λx y H Q=>r x y H Q\/r' x y H Q):=by
 intro value slice pins s σ H x y v u Q I rx ry q hs;rcases q with q|q
 ·exact h value slice pins s σ H x y v u Q I rx ry q hs
 ·exact h' value slice pins s σ H x y v u Q I rx ry q hs
theorem pe_ix {r:R2}(hr:IxR X r)(ha:PE X a ta)(hb:PE X b tb)(hs:bR9 b):PE X (.Subscript a b pos) (tOp r ta tb):=by
 intro pins s σ H Q I h;exact Subscript_ (binT ha hb I h λv u s2 x y H2 I2 rx ry q=>hr a b pins s2 σ H2 x y v u Q I2 rx ry q (hs _ _))
noncomputable def rIxL (K:Frag):R2:=λx y H Q=> ∃p xs i v,x= .ref p/\y= .int i/\SqL K H p xs/\atI xs i=some v/\Q v H
noncomputable def rIxT (K:Frag):R2:=λx y H Q=> ∃p xs i v,x= .ref p/\y= .int i/\SqT K H p xs/\atI xs i=some v/\Q v H
noncomputable def rIxS:R2:=λx y H Q=> ∃z i c,x= .str z/\y= .int i/\z.length<=sizeLine/\atI z.cps.toList i=some c/\Q (.str ⟨#[c]⟩) H
theorem dC1:IxR X (rIxL X.K):=by
 intro value slice pins s σ H x y v u Q I rx ry h hs;obtain⟨p,xs,i,z,rfl,rfl,hq,he,q⟩:=h;cases rx;obtain⟨t,rfl⟩:=ry;obtain⟨its,r,pl,hz⟩:=I.list hq;obtain⟨j,h1,h2,h3,h4,h5⟩:=b73 he;obtain⟨w,ew,rw'⟩:=r.get h2;have hl:=r.length;have hn:=aW5;have fin:EP X pins σ Q w s:=⟨z,H,I,rw',q⟩
 by_cases h0:0<=i
 ·have hj:i.toNat=j:=by
   rw[a02 h0 h5]at h1;exact gE h1
  exact item_listR pl.isList h0 ad (by rw[hj];simpa using ew) fin hs
 ·have hj:(i+(its.toArray.size:Int)).toNat=j:=by
   rw[zY ad h4]at h1
   rw[b7,<-hl];exact gE h1
  exact subscriptTail_builtinR (x:=w) pl.isList.typeIs slot_list_getitem.lookup
   (wpAny_getItem_list_neg (Q:=λr s'=>r=w/\EP X pins σ Q r s') pl.isList ad (by rw[b7]<;>lia) ad (by rw[hj];simpa using ew) ⟨rfl,fin⟩) hs
theorem ix_tup:IxR X (rIxT X.K):=by
 intro value slice pins s σ H x y v u Q I rx ry h hs;obtain⟨p,xs,i,z,rfl,rfl,hq,he,q⟩:=h;cases rx;obtain⟨t,rfl⟩:=ry;obtain⟨its,r,pl,hz⟩:=I.tuple hq;obtain⟨j,h1,h2,h3,h4,h5⟩:=b73 he;obtain⟨w,ew,rw'⟩:=r.get h2;have hl:=r.length;have hn:=aW5;have fin:EP X pins σ Q w s:=⟨z,H,I,rw',q⟩;exact subscriptTail_builtinR (x:=w) pl.typeIs slot_tuple_getitem.lookup
  (getItem_tuple (j:=j) (Q:=λr s'=>r=w/\EP X pins σ Q r s') pl ad ad (by rw[b7,<-hl];exact h1) (by simpa using ew) ⟨rfl,fin⟩) hs
theorem ix_str:IxR X rIxS:=by
 intro value slice pins s σ H x y v u Q I rx ry h hs;obtain⟨z,i,c,rfl,rfl,hz,he,q⟩:=h;obtain⟨t,rfl⟩:=rx;obtain⟨t',rfl⟩:=ry;obtain⟨j,h1,h2,h3,h4,h5⟩:=b73 he;have hl:z.cps.toList.length=z.length:=by simp[Str.length]
 rw[hl]at h1 h4 h5;have hn:=aW5;exact tail_any (typeIs_str s z t) slot_str_getitem.lookup (getItem_str (c:=c) (by
  have e1:decide (i< -(2^63:Int))=false:=fQ ad
  have e2:decide (i≥2^63)=false:=fQ ad
  rw[e1,e2,Bool.or_false]) (by rw[h1];simpa using h2) ⟨.str ⟨#[c]⟩,H,I.tok _,⟨_,rfl⟩,q⟩) hs
noncomputable def rIx (K:Frag):R2:=λx y H Q=>rIxL K x y H Q\/rIxT K x y H Q\/rIxS x y H Q
theorem ix_seq:IxR X (rIx X.K):=dC1.or (ix_tup.or ix_str)
theorem cC4 (its:List Value)(n j:Nat)(u:Value):Obj.mapSeq (·.setIfInBounds j u) {cls:= .type "list",data:= .seq its.toArray n}={cls:= .type "list",data:= .seq (its.set j u).toArray n}:=by
 simp[Obj.mapSeq]
theorem Inv.lst {pins:List (Addr×Obj)}{σ:St}{H:Hp}{s:Shared}{p:Addr}{xs:List V}(I:Inv X pins σ H s)(h:H p=some (.lst xs)) :
  ∃(its:List Value) (n:Nat),Vals xs its/\s.heap.get? p=some {cls:= .type "list",data:= .seq its.toArray n}/\xs.length<=sizeLine:=by
 obtain⟨z,its,n,r,e⟩:=I.hok p _ h;exact⟨its,n,r,e,z⟩
theorem Inv.lstUpd {pins:List (Addr×Obj)}{σ:St}{H:Hp}{s:Shared}{p:Addr}{xs ys:List V}{its its':List Value}{n n':Nat}{f:Obj->Obj}(I:Inv X pins σ H s)(h:H p=some (.lst xs))
  (ho:s.heap.get? p=some {cls:= .type "list",data:= .seq its.toArray n}) (hf:f {cls:= .type "list",data:= .seq its.toArray n}={cls:= .type "list",data:= .seq its'.toArray n'}) (r:Vals ys its') (hz:ys.length<=sizeLine) (t:Nat) :
  Inv X pins σ (upd H p<|.lst ys) {s with heap:=s.heap.update p f,toks:=t}:=by
 have e:(s.heap.update p f).get? p=some {cls:= .type "list",data:= .seq its'.toArray n'}:=by
  rw[pK f ho (by rw[hf]<;>rfl),hf]
 refine I.write (x:=p) (e:=p) (by rw[h];trivial) (.inl rfl) (λb u hb q=>(aL4 _ _<|Ne.symm hb).trans q) ⟨_,e⟩ ?_
 exact⟨hz,its',n',r,e⟩
noncomputable def rSetL:V->V->V->Hp->(Hp->Prop)->Prop:=λo i v H Q=> ∃p xs k j,o= .ref p/\i= .int k/\H p=some (.lst xs)/\ixN xs.length k=some j/\Q (upd H p<|.lst<|xs.set j v)
theorem c16:PSet X rSetL:=by
 intro pins s σ H o i v ov iv u Q I ro ri rv h;obtain⟨p,xs,k,j,rfl,rfl,hp,hj,q⟩:=h;cases ro;obtain⟨t,rfl⟩:=ri;obtain⟨its,n,r,ho,hz⟩:=I.lst hp;obtain⟨h1,h2,h3,h4⟩:=cJ2 hj;have hl:=r.length;have hn:=aW5;have I':Inv X pins σ (upd H p<|.lst<|xs.set j v) {s with heap:=s.heap.update p (Obj.mapSeq (·.setIfInBounds j u))}:=
  I.lstUpd hp ho (cC4 its n j u) (r.set rv j) (by rw[dS];exact hz) s.toks
 by_cases h0:0<=k
 ·have hk:k.toNat=j:=by
   rw[a02 h0 h4]at h1;exact gE h1
  exact PySem.W.ki_setAt ho h0 ad (by rw[b7,<-hl];exact h4) (by rw[hk];exact⟨_,I',q⟩)
 ·have hk:(k+(its.toArray.size:Int)).toNat=j:=by
   rw[zY ad h3]at h1
   rw[b7,<-hl];exact gE h1
  exact PySem.W.ki_setBack ho ad (by rw[b7,<-hl];exact h3) ad (by rw[hk];exact⟨_,I',q⟩)
theorem bS0 (lo hi:Option Int)(n:Nat):(sliceBounds lo hi none n).1=((HT.sIx n 0 lo:Nat):Int)/\(sliceBounds lo hi none n).2.1=((HT.sIx n n hi:Nat):Int)/\(sliceBounds lo hi none n).2.2=1:=by
 refine⟨?_,?_,rfl⟩
 ·cases lo with
  | none=>simp[sliceBounds,HT.sIx]
  | some i=>
   simp only[sliceBounds,HT.sIx,getD_none,show(1:Int)>0 by decide,gK]
   by_cases h:i<0
   ·simp only[h,gK]<;>lia
   ·simp only[h,nO]<;>lia
 ·cases hi with
  | none=>simp[sliceBounds,HT.sIx]
  | some i=>
   simp only[sliceBounds,HT.sIx,getD_none,show(1:Int)>0 by decide,gK]
   by_cases h:i<0
   ·simp only[h,gK]<;>lia
   ·simp only[h,nO]<;>lia
theorem bJ2 (its:List Value)(lo hi:Option Int):slicePick its.toArray lo hi none=((its.drop<|HT.sIx its.length 0 lo).take<|HT.sIx its.length its.length hi-HT.sIx its.length 0 lo).toArray:=by
 obtain⟨h1,h2,h3⟩:=bS0 lo hi its.toArray.size;unfold slicePick;rw[h1,h2,h3];simp only[sliceRange_one,pick_run,b7]<;>rfl
noncomputable def rSlL (K:Frag):V->Option Int->Option Int->Hp->VK->Prop:=λx lo hi H Q=> ∃a xs,x= .ref a/\SqL K H a xs/\ ∀p,H p=none->Q (.ref p) (upd H p<|.lst<|c15 xs lo hi)
theorem cJ3:SlR X (rSlL X.K):=by
 intro pins s σ H x v vl vu lo hi sl Q I rx hs pl pu h;obtain⟨a,xs,rfl,hx,q⟩:=h;cases rx;obtain⟨its,r,ht,hz⟩:=I.list hx;have hlen:=r.length;refine⟨"list",_,slot_list_getitem.lookup,ht.isList.typeIs,?_⟩;refine wpAny_getItem_list_slice ht.isList hs pl pu .none ae ?_ (by rw[b7]<;>lia)
 rw[bJ2,<-hlen];refine⟨.ref s.heap.objs.size,_,I.laid (t':=s.toks) (o:= .lst (c15 xs lo hi)) (λb ob q=>aU _ q) (aF _) ?_,rfl,q _<|I.hok.fresh<|aF _⟩
 exact⟨aM (b19 xs lo hi) hz,_,0,(r.drop<|HT.sIx xs.length 0 lo).take<|HT.sIx xs.length xs.length hi-HT.sIx xs.length 0 lo,bU _ rfl⟩
noncomputable def aR1:V->Bool
 | .non=>true
 | .bl _=>true
 | .int _=>true
 | .str _=>true
 | _=>false
noncomputable def eqV:V->V->Bool
 | .non,.non=>true
 | .bl a,.bl b=>a==b
 | .bl a,.int b=>(if a then 1 else 0)==b
 | .int a,.bl b=>a==(if b then 1 else 0)
 | .int a,.int b=>a==b
 | .str a,.str b=>a==b
 | _,_=>false
theorem eqAt_V {A:Around}{s:Shared}{y x:V}{u v:Value}(ry:RelV y u)(rx:RelV x v)(fy:aR1 y=true)(fx:aR1 x=true):SeqAt.EqAt A s u v (eqV y x):=by
 cases y with
 | non=>
  cases ry;cases x with
  | non=>cases rx;exact SeqAt.EqAt.same _
  | bl b=>cases rx;exact SeqAt.EqAt.none_bool b
  | int b=>obtain⟨t,rfl⟩:=rx;exact SeqAt.EqAt.none_int b t
  | str b=>obtain⟨t,rfl⟩:=rx;exact SeqAt.EqAt.none_str b t
  | _=>exact absurd (show false=true from fx) bD
 | bl a=>
  cases ry;cases x with
  | non=>cases rx;exact SeqAt.EqAt.bool_none a
  | bl b=>cases rx;exact SeqAt.EqAt.bool_bool a b
  | int b=>obtain⟨t,rfl⟩:=rx;exact SeqAt.EqAt.bool_int a b t
  | str b=>obtain⟨t,rfl⟩:=rx;exact SeqAt.EqAt.bool_str a b t
  | _=>exact absurd (show false=true from fx) bD
 | int a=>
  obtain⟨t',rfl⟩:=ry;cases x with
  | non=>cases rx;exact SeqAt.EqAt.int_none a t'
  | bl b=>cases rx;exact SeqAt.EqAt.int_bool a t' b
  | int b=>obtain⟨t,rfl⟩:=rx;exact SeqAt.EqAt.int_int a t' b t
  | str b=>obtain⟨t,rfl⟩:=rx;exact SeqAt.EqAt.int_str a t' b t
  | _=>exact absurd (show false=true from fx) bD
 | str a=>
  obtain⟨t',rfl⟩:=ry;cases x with
  | non=>cases rx;exact SeqAt.EqAt.str_none a t'
  | bl b=>cases rx;exact SeqAt.EqAt.str_bool a t' b
  | int b=>obtain⟨t,rfl⟩:=rx;exact SeqAt.EqAt.str_int a t' b t
  | str b=>obtain⟨t,rfl⟩:=rx;exact SeqAt.EqAt.str_str a t' b t
  | _=>exact absurd (show false=true from fx) bD
 | _=>exact absurd (show false=true from fy) bD
noncomputable def eqU (x:V)(u:Value):Bool:=match u with
 | .none=>eqV .non x
 | .bool b=>eqV (.bl b) x
 | .int i _=>eqV (.int i) x
 | .str z _=>eqV (.str z) x
 | _=>false
theorem cY2 {x y:V}{u:Value}(r:RelV y u)(f:aR1 y=true):eqU x u=eqV y x:=by
 cases y with
 | non=>cases r;rfl
 | bl b=>cases r;rfl
 | int i=>obtain⟨t,rfl⟩:=r;rfl
 | str z=>obtain⟨t,rfl⟩:=r;rfl
 | _=>exact absurd (show false=true from f) bD
theorem bS1 {x:V}: ∀{xs:List V} {us:List Value},Vals xs us->xs.all aR1=true->us.any (eqU x)=xs.any λy=>eqV y x
 | _,_,.nil,_=>rfl
 | y::xs,u::us,.cons r t,f=>by
  rw[all_cons,dN]at f;rw[any_cons,any_cons,cY2 r f.1,bS1 t f.2]
theorem b95 {A:Around}{s:Shared}{x:V}{v:Value}(rx:RelV x v)(fx:aR1 x=true): ∀{xs:List V} {us:List Value},Vals xs us->xs.all aR1=true-> ∀u∈us,SeqAt.EqAt A s u v (eqU x u)
 | _,_,.nil,_=>λu hu=>by cases hu
 | y::xs,u::us,.cons r t,f=>λu' hu=>by
  rw[all_cons,dN]at f;rcases aX.mp hu with rfl|hu
  ·rw[cY2 r f.1];exact eqAt_V r rx f.1 fx
  ·exact b95 rx fx t f.2 u' hu
noncomputable def inV (x:V)(xs:List V):Bool:=xs.any λy=>eqV y x
noncomputable def rIn (K:Frag)(neg:Bool):R2:=λx y H Q=> ∃p xs,y= .ref p/\(SqL K H p xs\/SqT K H p xs)/\aR1 x=true/\xs.all aR1=true/\Q (.bl<|if neg then !inV x xs else inV x xs) H
theorem bS2:OpR X (compareOp .NotIn) (rIn X.K true):=by
 intro pins s σ H x y v u Q I rx ry h;obtain⟨p,xs,rfl,hq,fx,fs,q⟩:=h;cases ry;rcases hq with hq|hq
 ·obtain⟨its,r,pl,hz⟩:=I.list hq;refine SeqAt.notIn_listAt (eqU x) pl.isList (λw hw=>b95 rx fx r fs w (by simpa using hw)) ⟨.bl _,H,I,rfl,?_⟩
  rw[show its.toArray.any (eqU x)=its.any (eqU x)by simp,bS1 r fs]
  exact q
 ·obtain⟨its,r,pl,hz⟩:=I.tuple hq;refine SeqAt.notIn_tupleAt (eqU x) pl (λw hw=>b95 rx fx r fs w (by simpa using hw)) ⟨.bl _,H,I,rfl,?_⟩
  rw[show its.toArray.any (eqU x)=its.any (eqU x)by simp,bS1 r fs]
  exact q
theorem bS3:uB X (.builtin "len") (λxs H Q=> ∃p ys,xs=[.ref p]/\(SqL X.K H p ys\/SqT X.K H p ys)/\Q (.int ys.length) H):=by
 intro pins s σ H xs us Q I r h;obtain⟨p,ys,rfl,hq,q⟩:=h;obtain⟨u,rfl,rx⟩:=vals1 r;cases rx;have hn:=aW5;rcases hq with hq|hq
 ·obtain⟨its,r',pl,hz⟩:=I.list hq;have hlen:=r'.length;exact Calls.call_len_list pl.isList (by simp only[b7]<;>lia) ⟨.int ys.length,H,I.tok _,⟨s.toks+1,by rw[b7,hlen]⟩,q⟩
 ·obtain⟨its,r',pl,hz⟩:=I.tuple hq;have hlen:=r'.length;exact len_tuple pl (by simp only[b7]<;>lia) ⟨.int ys.length,H,I.tok _,⟨s.toks+1,by rw[b7,hlen]⟩,q⟩
theorem bS4:uB X (.type "list") (λxs H Q=> ∃p ys,xs=[.ref p]/\(SqL X.K H p ys\/SqT X.K H p ys)/\ ∀l,H l=none->Q (.ref l) (upd H l<|.lst ys)):=by
 intro pins s σ H xs us Q I r h;obtain⟨p,ys,rfl,hq,q⟩:=h;obtain⟨u,rfl,rx⟩:=vals1 r;cases rx;have fin: ∀(its:List Value),Vals ys its->ys.length<=sizeLine-> ∀(h':Heap) (c':Nat),(∀b o',s.heap.get? b=some o'->h'.get? b=some o')->
   h'.get? s.heap.objs.size=some {cls:= .type "list",dict:=none,data:= .seq its.toArray c',slots:= #[]}->EP X pins σ Q (.ref s.heap.objs.size) {s with heap:=h'}:=λits r' hz h' c' kp e=>
  ⟨.ref s.heap.objs.size,_,I.laid (t':=s.toks) kp (aF _)<|show rC X.prog X.w _ h' _ (.lst ys)from⟨hz,its,c',r',e⟩,rfl,q _<|I.hok.fresh<|aF _⟩
 rcases hq with hq|hq
 ·obtain⟨its,r',pl,hz⟩:=I.list hq;have hlen:=r'.length;obtain⟨o,ho,hc,n,hd⟩:=pl.isList;exact call_list_seq p (.inl rfl) ho hc hd (λh' c' kp e=>fin its r' hz h' c' kp e) (by simp only[b7]<;>lia)
 ·obtain⟨its,r',pl,hz⟩:=I.tuple hq;have hlen:=r'.length;obtain⟨o,ho,hc,n,hd⟩:=pl;exact call_list_seq p (.inr rfl) ho hc hd (λh' c' kp e=>fin its r' hz h' c' kp e) (by simp only[b7]<;>lia)
theorem wL:uB X (.type "tuple") (λxs H Q=> ∃p ys,xs=[.ref p]/\((SqL X.K H p ys/\ ∀l,H l=none->Q (.ref l) (upd H l<|.tup ys))\/(SqT X.K H p ys/\Q (.ref p) H))):=by
 intro pins s σ H xs us Q I r h;obtain⟨p,ys,rfl,h⟩:=h;obtain⟨u,rfl,rx⟩:=vals1 r;cases rx;rcases h with⟨hq,q⟩| ⟨hq,q⟩
 ·obtain⟨its,r',pl,hz⟩:=I.list hq;have hlen:=r'.length;refine call_tuple_list pl.isList (λh' kp=> ?_) (by simp only[b7]<;>lia)
  have I1:Inv X pins σ H {s with heap:=h'}:=I.kept (t':=s.toks) kp;have I2:Inv X pins σ (upd H h'.objs.size<|.tup ys) {s with heap:=h'.push {cls:= .type "tuple",data:= .seq its.toArray}}:=
   I1.laid (t':=s.toks) (λb o e=>aU _ e) (aF _) (show rC X.prog X.w _ _ _ (.tup ys)from⟨hz,its,r',qE _ _⟩)
  exact⟨.ref h'.objs.size,_,I2,rfl,q _<|I1.hok.fresh<|aF _⟩
 ·obtain⟨its,r',pl,hz⟩:=I.tuple hq;exact call_tuple_same pl ⟨.ref p,H,I,rfl,q⟩
def tyV (K:Frag)(T:String)(x:V)(H:Hp):Prop:=match x with
 | .str _=>T="str"
 | .int _=>T="int"
 | .ref p=>(T="list"/\ ∃xs,SqL K H p xs)\/(T="tuple"/\ ∃o,K.lookup p=some o/\o.cls= .type "tuple"/\o.dict=none)\/
   (T="dict"/\((∃kvs,H p=some (.dK kvs))\/ ∃kvs,H p=some (.dT kvs)))\/(T="set"/\ ∃S n,H p=some (.set S n))
 | _=>False
theorem tyV_is {pins:List (Addr×Obj)}{σ:St}{H:Hp}{s:Shared}{T:String}{x:V}{v:Value}(I:Inv X pins σ H s)(r:RelV x v)(ty:tyV X.K T x H) :
  s.TypeIs v T/\ ∀a,v= .ref a-> ∃ob,s.heap.get? a=some ob/\ob.dict=none:=by
 cases x with
 | str z=>
  obtain⟨t,rfl⟩:=r;cases (show T="str" from ty)
  exact⟨typeIs_str s z t,λ_ e=>nomatch e⟩
 | int i=>
  obtain⟨t,rfl⟩:=r;cases (show T="int" from ty)
  exact⟨uA s i t,λ_ e=>nomatch e⟩
 | ref p=>
  cases r;rcases ty with⟨rfl,xs,hq⟩| ⟨rfl,o,hk,hc,hd⟩| ⟨rfl,hk⟩| ⟨rfl,S,n,hk⟩
  ·obtain⟨its,_,pl,_⟩:=I.list hq;refine⟨pl.isList.typeIs,λa e=> ?_⟩
   cases e;obtain⟨o,n,e,c,hd,_⟩:=pl;exact⟨o,e,hd⟩
  ·refine⟨⟨o,I.kIn p o hk,hc⟩,λa e=> ?_⟩
   cases e;exact⟨o,I.kIn _ o hk,hd⟩
  ·have z: ∃o,s.heap.get? p=some o/\o.ExactDict:=by
    rcases hk with⟨kvs,hk⟩| ⟨kvs,hk⟩
    ·obtain⟨_,_,_,_,o,_,_,e,ex,_⟩:=I.hok p _ hk;exact⟨o,e,ex⟩
    ·obtain⟨_,_,_,_,o,_,_,e,ex,_⟩:=I.hok p _ hk;exact⟨o,e,ex⟩
   obtain⟨o,e,ex⟩:=z;refine⟨⟨o,e,ex.1⟩,λa e2=> ?_⟩
   cases e2;exact⟨o,e,ex.2.1⟩
  ·obtain⟨o,_,_,_,e,ex,_⟩:=I.hok p _ hk;refine⟨⟨o,e,ex.1⟩,λa e2=> ?_⟩
   cases e2;exact⟨o,e,ex.2.1⟩
 | _=>exact False.elim ty
def tBM (K:Frag)(T:String)(r:V->List V->Hp->VK->Prop)(to:TE)(t:TA):TE:=λσ H Q=>to σ H λx H1=>tyV K T x H1/\t σ H1 λxs H2=>r x xs H2 Q
variable {o e:Expr}{es:List Expr}{to:TE}{t:TA}{name:Str}{apos cpos:Pos}{T id:String}{r:V->List V->Hp->VK->Prop}
theorem dK9 (pa:PlainAttrs T)(slot:Slot T name id)(hty:typeOf (.builtin id)=pure (.type "method_descriptor"))(hm:MtR X id r)(ho:PE X o to)(ha:PA X (e::es) t)
  (hbase:attributeBase o name X.env (eval o X.env)=eval o X.env:=by rfl)
  (hfew:((backTo cpos<|starEach (e::es) X.env).all (λx=> !x.1)&&(backToKw cpos<|keywordEach [] X.env).all (λx=>x.1.isSome)
   &&decide ((e::es).length+([]:List Keyword).length+(if([]:List Keyword).isEmpty then 0 else 1)<30))=true:=by rfl)
  (hline:(apos.endLine==cpos.line)=true:=by rfl) (hs:starEach (e::es) X.env=(false,eval e X.env)::starEach es X.env:=by rfl) (hplain:(backTo cpos<|starEach es X.env).any (·.1)=false:=by rfl) :
  PE X (.Call (.Attribute o name apos) (e::es) [] cpos) (tBM X.K T r to t):=by
 intro pins s σ H Q I h;refine wpAny_Call_method_late hbase hfew hline rfl (thn (ho pins s σ H _ I h) λv s1 ⟨x,H1,I1,r1,ty,q1⟩=> ?_)
 obtain⟨h1,h2⟩:=tyV_is I1 r1 ty;refine⟨T,id,pa,slot,hty,h1,h2,?_⟩;have hA:=ha cpos pins s1 σ H1 _ I1 q1;rw[hs]at hA⊢;refine Calls.callWith_builtin (by show(false||(backTo cpos<|starEach es X.env).any (·.1))=false;rw[hplain]<;>rfl) (aL8 ?_)
 exact thn hA λus s2 ⟨vs,H2,I2,r2,q2⟩=>hm pins s2 σ H2 x vs v us Q I2 r1 r2 q2
end
end L2
namespace L2
open PySem PySem.Spec PyProof.Rows
def MtM (X:Cx)(id:String)(r:V->List V->Hp->VK->Prop):Prop:=
 ∀(pins:List (Addr×Obj)) (s:Shared) (σ:St) (H:Hp) (x:V) (xs:List V) (v:Value) (us:List Value) (Q:VK),Inv X pins σ H s->RelV x v->Vals xs us->r x xs H Q->
  wpAny (model X.prog X.w) X.A (call (.builtin id) (v::us)) (EP X pins σ Q) X.xe s
theorem Vals.one {x:V}{us:List Value}(h:Vals [x] us): ∃u,us=[u]/\RelV x u:=by
 cases h with
 | cons r q=>cases q;exact⟨_,rfl,r⟩
theorem Vals.two {x y:V}{us:List Value}(h:Vals [x,y] us): ∃u v,us=[u,v]/\RelV x u/\RelV y v:=by
 cases h with
 | cons r q=>obtain⟨u,rfl,s⟩:=Vals.one q;exact⟨_,_,rfl,r,s⟩
theorem Vals.rep {xs:List V}{us:List Value}(h:Vals xs us): ∀k:Nat,Vals (replicate k xs).flatten (replicate k us).flatten
 | 0=> .nil
 | k+1=>by
  rw[jB,jB,mY,mY];exact Vals.append h (Vals.rep h k)
theorem foldl_rep (its:List Value): ∀(k:Nat) (acc:List Value),
  foldl (λx1 x2=>x1++x2) acc.toArray (replicate k its.toArray)=(acc++(replicate k its).flatten).toArray
 | 0,acc=>ae
 | k+1,acc=>by
  have e:acc.toArray++its.toArray=(acc++its).toArray:=ae
  have e2:(acc++its)++(replicate k its).flatten=acc++(replicate (k+1) its).flatten:=by
   rw[jB,mY,List.append_assoc]
  rw[<-e2,<-foldl_rep its k (acc++its),<-e,jB,List.foldl_cons]
section
variable {X:Cx}{pins:List (Addr×Obj)}{σ:St}{H:Hp}{s:Shared}{l b:Addr}{xs ys zs:List V}
theorem Inv.lset {its its':List Value}{n:Nat}{f:Array Value->Array Value}{t':Nat}(I:Inv X pins σ H s)(hH:H l=some (.lst xs))
  (e:s.heap.get? l=some {cls:= .type "list",data:= .seq its.toArray n}) (hf:f its.toArray=its'.toArray) (hv:Vals ys its') (hz:ys.length<=sizeLine) :
  Inv X pins σ (upd H l<|.lst ys) {s with heap:=s.heap.update l (Obj.mapSeq f),toks:=t'}:=by
 have q:=PySem.IsL.update e f;rw[hf]at q;refine I.write (x:=l) (e:=l) (by rw[hH];exact trivial) (.inl rfl) (λb' u hb hu=>(aL4 s.heap (Obj.mapSeq f)<|Ne.symm hb).trans hu) ⟨_,q⟩ ?_
 exact⟨hz,its',_,hv,q⟩
theorem Inv.lnew {its:List Value}{t':Nat}(I:Inv X pins σ H s)(hv:Vals ys its)(hz:ys.length<=sizeLine) :
  Inv X pins σ (upd H s.heap.objs.size<|.lst ys) {s with heap:=s.heap.push {cls:= .type "list",data:= .seq its.toArray},toks:=t'}:=
 I.laid (λ_ _ q=>aU _ q) (aF _) ⟨hz,its,0,hv,bU _ rfl⟩
theorem Inv.fresh (I:Inv X pins σ H s):H s.heap.objs.size=none:=I.hok.fresh (aF _)
theorem Inv.lstM (I:Inv X pins σ H s)(hH:H l=some (.lst xs)):xs.length<=sizeLine/\ ∃(its:List Value) (n:Nat),Vals xs its/\xs.length=its.length/\s.heap.get? l=some {cls:= .type "list",data:= .seq its.toArray n}:=by
 obtain⟨z,its,n,r,e⟩:=I.hok l _ hH;exact⟨z,its,n,r,r.length,e⟩
theorem c17 {n:Nat}(h:n<=sizeLine):Builtin.List.listTooLong n=false:=by
 unfold Builtin.List.listTooLong;exact fQ ad
end
section
variable {X:Cx}
noncomputable def dC2:V->List V->Hp->VK->Prop:=λx vs H Q=> ∃l xs y,x= .ref l/\vs=[y]/\H l=some (.lst xs)/\xs.length<sizeLine/\Q .non (upd H l<|.lst<|xs++[y])
theorem bN5:MtM X "list.append" dC2:=by
 intro pins s σ H x vs v us Q I rx rv h;obtain⟨l,xs,y,rfl,rfl,hH,hz,q⟩:=h;cases rx;obtain⟨u,rfl,ru⟩:=rv.one;obtain⟨z,its,n,r,hl,e⟩:=I.lstM hH;refine jH F.slot_list_append ⟨_,e,rfl⟩ F.entry_list_append (F.args_list_append_2 _ _) (PySem.list_append l its.toArray n u (by rw[b7];lia)) ⟨e,?_⟩
 refine⟨.non,_,I.lset (its':=its++[u]) hH e ae (r.append<|.cons ru .nil) ?_,rfl,q⟩
 rw[bO,aL6]
 lia
noncomputable def rCat:R2:=λx y H Q=> ∃l b xs zs,x= .ref l/\y= .ref b/\H l=some (.lst xs)/\H b=some (.lst zs)/\xs.length+zs.length<=sizeLine/\ ∀p,H p=none->Q (.ref p) (upd H p<|.lst<|xs++zs)
theorem op_cat:OpR X (binaryOp .Add) rCat:=by
 intro pins s σ H x y v u Q I rx ry h;obtain⟨l,b,xs,zs,rfl,rfl,hH,hB,hz,q⟩:=h;cases rx;cases ry;obtain⟨z,its,n,r,hl,e⟩:=I.lstM hH;obtain⟨z2,its2,n2,r2,hl2,e2⟩:=I.lstM hB;refine PySem.P.add_list e e2 ?_ (by rw[b7,b7];omega)
 have ea:its.toArray++its2.toArray=(its++its2).toArray:=ae
 rw[ea];exact⟨.ref _,_,I.lnew (t':=s.toks) (r.append r2) (by rw[bO];omega),rfl,q _ I.fresh⟩
noncomputable def rRep:R2:=λx y H Q=> ∃l k xs,x= .ref l/\y= .int k/\H l=some (.lst xs)/\ -(2^63)<=k/\k<2^63/\xs.length*k.toNat<=sizeLine/\
 ∀p,H p=none->Q (.ref p) (upd H p<|.lst (replicate k.toNat xs).flatten)
theorem bS5 {α:Type}(xs:List α)(k:Nat):(replicate k xs).flatten.length=k*xs.length:=by
 induction k with
 | zero=>simp
 | succ k ih=>rw[jB,mY,bO,ih,Nat.succ_mul,add_comm]
theorem op_rep:OpR X (binaryOp .Mult) rRep:=by
 intro pins s σ H x y v u Q I rx ry h;obtain⟨l,k,xs,rfl,rfl,hH,h1,h2,hz,q⟩:=h;cases rx;obtain⟨t,rfl⟩:=ry;obtain⟨z,its,n,r,hl,e⟩:=I.lstM hH;have hlen:its.toArray.size*k.toNat<=sizeLine:=by rw[b7,<-hl];exact hz
 have hcap: ¬its.toArray.size*k.toNat>(2^63-1)/8:=by
  have:(sizeLine:Nat)<=(2^63-1)/8:=ac
  lia
 have hfit: ¬(!Builtin.List.listFitsIndex k)=true:=by
  rw[fitsIndex_both h1 h2];exact bD
 have hlong: ¬Builtin.List.listTooLong (its.toArray.size*k.toNat)=true:=by
  rw[c17 hlen];exact bD
 have hnew:foldl (λx1 x2=>x1++x2) #[] (replicate (if its.toArray.isEmpty=true then 0 else k.toNat) its.toArray)=(replicate k.toNat its).flatten.toArray:=by
  have f0: ∀m:Nat,foldl (λx1 x2=>x1++x2) #[] (replicate m its.toArray)=(replicate m its).flatten.toArray:=λm=>by
   have:=foldl_rep its m [];rw[zP]at this;exact this
  rw[f0];cases its with
  | nil=>simp
  | cons a r'=>rw[a6 ae]
 refine wpAny_binaryOp_repeat_ref (T:="list") (U:="int") ac ⟨_,e,rfl⟩ (λs'=>uA s' k t) noFill_list_mul F.fills_int_mul F.slot_int_rmul repeat_list F.slot_int_index.lookup
  (jH F.slot_int_rmul (uA s k t) F.entry_int_rmul (F.args_int_rmul_2 _ _) (int___rmul___int_list k t l its.toArray n)
   ⟨e,rfl,⟨_,e,rfl⟩,jH F.slot_list_mul ⟨_,e,rfl⟩ F.entry_list_mul (F.args_list_mul_2 _ _) (AutoListH.list___mul___list_int_3 l its.toArray n k t hfit hcap hlong) ⟨e,?_⟩⟩)
 rw[hnew];exact⟨.ref _,_,I.lnew (t':=s.toks) (r.rep k.toNat) (by rw[bS5,mul_comm];exact hz),rfl,q _ I.fresh⟩
end
section
variable {prog:Program}{w:World}{A:Around}{E:Value->Shared->Prop}{s:Shared}
set_option maxRecDepth 100000 in
end
end L2
namespace Att
open PySem PySem.W PySem.Calls PyProof.Rows
theorem b46 {P:Params}{h:Heap}: ∀(ns:List Int) (vs:List Value),WellAll P h vs (ns.map WData.int)->IntsAre vs ns:=by
 intro ns
 induction ns with
 | nil=>
  intro vs w;rw[iP]at w;cases w;exact .nil
 | cons n ns ih=>
  intro vs w;rw[cN]at w;cases w with
  | cons a b=>
   cases a;exact .cons _ _ (ih _ b)
theorem cP8 {l:OpenLaw}{n:Nat}(hn:l.most=some n){P:Params}{h:Heap}{args:List WData}{vals:List Value}
  (hpre:l.row.toRowW.claim.pre args=true) (hwl:WellAll P h vals args) :
  ∃a vs ns,vals=[Value.ref a]/\args=[WData.list<|ns.map WData.int]/\h.get? a=some {cls:= .type "list",data:= .seq vs.toArray}/\IntsAre vs ns/\ns.length<=n:=by
 have hsh:WShape.hasAll [] args [.list .int]=true:=(pre_splitW hpre).1;have hc:l.pre.holds [] {args:=args}=true:=(pre_splitW hpre).2;obtain⟨d,r,rfl,h1,h2⟩:=hasAllW_cons hsh;obtain rfl:=hasAllW_nil h2;obtain⟨xs,rfl,h3⟩:=hasW_list h1;obtain⟨ns,rfl⟩:=items_int h3;have hlen:ns.length<=n:=by
  unfold OpenLaw.pre at hc;have h4:(WTm.not<|.lt (.lit<|.int (n:Int))<|.len<|.arg 0).holds [] {args:=[.list<|ns.map .int]}=true:=by
   have h4:=(holds_andW hc).1;rw[hn]at h4;exact h4
  have h5:=condW_of h4 (w_not<|w_lt w_lit<|w_len_list<|w_arg rfl);rw[aK]at h5;refine Nat.le_of_not_lt λq=> ?_
  have q':(n:Int)< ((ns.length:Nat):Int):=aa
  first
   | (rw[jE q']at h5;exact absurd h5 ac)
   | (simp at h5;omega)
 cases hwl with
 | cons w1 w2=>
  cases w2;cases w1 with
  | list ho hall=>exact⟨_,_,ns,rfl,rfl,ho,b46 ns _ hall,hlen⟩
theorem cP9 (l:OpenLaw)(args:List WData):l.row.toRowW.claim.post args (.bool true) args=true:=
 postW_of (r:=l.row.toRowW) (X:=(true==true))
  (show WShape.has [] (.bool true) .bool=true by first|rfl|decide|simp[WShape.has,WShape.arms,WShape.armsAll])
  (show(WTm.eq .res<|.lit<|.bool true).value [] {args:=args,res:=some (.bool true),after:=args}=some (.bool<|true==true)from w_eq_bool (w_res rfl) w_lit) rfl
theorem attach_call {l:OpenLaw}{n:Nat}{q:Program}{loose:List Str}{XP:(Str->Option Value)->Heap->Prop}{YP:World->Heap->Prop}{d:DefRec}
  (hn:l.most=some n) (hdf:d.params.defaults=[])
  (call: ∀(w:World) (s₀ s₁:Shared) (mg mb:Str->Option Value) (fa:Addr) (o:Obj) (pm cd doc:Value) (a:Addr) (vs:List Value) (ns:List Int),
   Ground q loose [] XP w s₀ mg mb s₁.heap->YP w s₁.heap->
   s₁.heap.get? fa=some o->o.data= .func (docDef d.name d.params d.body d.scope pm cd doc)->s₁.heap.CodeRec cd d.name->mg d.name=some (.ref fa)->
   s₁.heap.get? a=some {cls:= .type "list",data:= .seq vs.toArray}->IntsAre vs ns->ns.length<=n->s₁.gens= #[]->
   codeAny (model l.prog w) callerA (.call (.ref fa) ⟨[.ref a],[]⟩) (λr s'=>r= .ok (.ret<|.bool true)/\OldK s₁.heap s'.heap/\s'.os=s₁.os/\AllBare s'.gens) s₁) :
  WalkO q loose XP YP l.row.toRowW d [] (λf vs=>PySem.call f vs):=by
 intro w s₀ s₁ mg mb G Y fa o pm cd doc dV kV ho hd hcd hD hmg hg args vals as hpre hlay hrd hwl hlo;obtain rfl:dV= .none:=Dflts.none hD hdf;obtain rfl:kV= .none:=Dflts.noKw hD;obtain⟨a,vs,ns,rfl,rfl,hobj,hints,hlen⟩:=cP8 hn hpre hwl;refine enter_call (tY (call w s₀ s₁ mg mb fa o pm cd doc a vs ns G Y ho (fd_plain hd) hcd hmg hobj hints hlen hg) λr s' hq=> ?_)
 obtain⟨rfl,h2,h3,h4⟩:=hq;exact⟨.inl ⟨.bool true,.bool true,[],rfl,λ_=>rfl,.bool true,cP9 l _,λ_=>⟨List.Pairwise.nil,λ_ hm=>(nomatch hm)⟩⟩,h2,h3,h4⟩
end Att
namespace L2
open PySem PySem.Spec PyProof.Rows
theorem bN6: ∀{vs:List Value} {ns:List Int},IntsAre vs ns->Vals (ns.map V.int) vs
 | _,_,.nil=> .nil
 | _,_,.cons n t h=> .cons ⟨t,rfl⟩ (bN6 h)
def Only (H:Hp):Prop:= ∀b,H b=none\/ ∃o xs,H b=some (.frz o<|.lst xs)
theorem cY3 {P:Program}{w:World}{K:Frag}{mg mb:Str->Option Value}{CX:CXT}{k:Nat}{fa a:Addr}{fd:FuncData}{x:Str}{sp:Sp}{s₁:Shared}{vs:List Value}{ns:List Int}
  (KX:K.In s₁.heap) (hns:s₁.heap.Ns mainGlobals mg) (hb:s₁.heap.Ns builtinsNs mb) (hbb: ∀x:Str,x≠"__name__"->mb x=bootBuiltins x) (hlim:s₁.heap.NoLimit) (hg:s₁.gens= #[])
  (ha:s₁.heap.get? a=some {cls:= .type "list",data:= .seq vs.toArray}) (hi:IntsAre vs ns) (hl:ns.length<=sizeLine) (hr:gO k callerA)
  (F: ∀base:Heap,K.In base->base.Ns mainGlobals mg->sU P w K mg base CX k fa fd [x] sp) (hbind: ∀(s:Shared) (u:Value),BindsTo s fd ⟨[u],[]⟩ [(x,u)])
  (hsp: ∀H:Hp,Only H->SqL K H a (ns.map V.int)->sp [.ref a] H (λv _=>v= .bl true) λ_ _ _=>False)
  (hCX: ∀H e s',CX [] H s₁ (λ_ _ _=>False) e s'->False) :
  codeAny (model P w) callerA (.call (.ref fa) ⟨[.ref a],[]⟩) (λr s'=>r= .ok (.ret<|.bool true)/\OldK s₁.heap s'.heap/\s'.os=s₁.os/\AllBare s'.gens) s₁:=by
 have rv:=bN6 hi;have lenV:=hi.length;have core: ∀H:Hp,Only H->SqL K H a (ns.map V.int)->HOk P w H s₁.heap->(∀b,H b≠none->b=a)->(H a≠none->K.lookup a=none)->
   codeAny (model P w) callerA (.call (.ref fa) ⟨[.ref a],[]⟩) (λr s'=>r= .ok (.ret<|.bool true)/\OldK s₁.heap s'.heap/\s'.os=s₁.os/\AllBare s'.gens) s₁:=by
  intro H hO hS hok hA hK;have base_of: ∀{b:Addr} {o:Obj},s₁.heap.get? b=some o->H b=none->(bR5 s₁.heap H).get? b=some o:=λe n=>cV9 e n
  have noA: ∀{b:Addr} {o:Obj} {es:Array DictEntry} {ep:Nat},s₁.heap.get? b=some o->o.data= .dict es ep->H b=none:=λ{b o es ep} e d=>by
   cases q:H b with
   | none=>rfl
   | some u=>
    have e':b=a:=hA b (by rw[q];simp)
    subst e';rw[ha]at e;cases e;have d':Data.seq vs.toArray _=Data.dict es ep:=d;cases d'
  have nsK: ∀{b:Addr} {m:Str->Option Value},s₁.heap.Ns b m->(bR5 s₁.heap H).Ns b m:=λ{b m} ⟨o,es,ep,e,d,r⟩=>⟨o,es,ep,base_of e<|noA e d,d,r⟩
  have hKb:K.In (bR5 s₁.heap H):=λb o e=>base_of (KX b o e) (by
   cases q:H b with
   | none=>rfl
   | some u=>
    have e':b=a:=hA b (by rw[q];simp)
    subst e';rw[hK (by rw[q];simp)]at e;cases e)
  have hM:Mod K mg (bR5 s₁.heap H):=⟨hKb,nsK hns,⟨mb,nsK hb,hbb⟩,let ⟨mc,h1,h2⟩:=hlim;⟨mc,nsK h1,h2⟩⟩;have e0:cC1 P w K mg (bR5 s₁.heap H) callerA [] s₁ H:=⟨rfl,hM,λb o e=>dA0 e,le_of_eq<|cO6 _ _,trivial,λb hb=>absurd (show b∈([]:List Addr)from hb) ae,hok,.of_eq hg⟩
  refine tY ((F _ hKb<|nsK hns).run callerA [] s₁ H ⟨[.ref a],[]⟩ [.ref a] [.ref a] _ _ hr e0 (hbind s₁<|.ref a) (.cons rfl .nil)<|hsp H hO hS) λr s' h=> ?_
  cases r with
  | error e=>exact(hCX H e s' h).elim
  | ok fl=>
   cases fl with
   | next=>exact False.elim h
   | brk=>exact False.elim h
   | cont=>exact False.elim h
   | ret u=>
    obtain⟨v,H',os,bare,un,hok',r',q⟩:=h;have q':v= .bl true:=q;subst q';obtain rfl:u=Value.bool true:=r';refine⟨rfl,OldK.of_keep λb o e=> ?_,os,bare⟩
    cases q:H b with
    | none=>exact un.keep b o e q (by intro z;exact absurd (show b∈([]:List Addr)from z) ae) ae
    | some u=>
     rcases hO b with z| ⟨ob,xs,z⟩
     ·rw[q]at z;cases z
     ·have z2:=un.frzs b ob _ z;obtain⟨e1,_⟩:=hok b _ z;obtain⟨e2,_⟩:=hok' b _ z2;rw[e]at e1;cases e1;exact e2
 cases hk:K.lookup a with
 | some o=>
  have e:=KX a o hk;rw[ha]at e;cases e;refine core (λ_=>none) (λ_=> .inl rfl) (.inr ⟨_,vs.toArray,_,hk,rfl,rfl,rfl,by rw[b7,lenV];exact hl,by simpa using rv⟩) (λb u z=>by have z':(none:Option HO)=some u:=z;cases z') (λb z=>absurd rfl z) λz=>absurd rfl z
 | none=>
  refine core (λb=>if b=a then some (.frz {cls:= .type "list",data:= .seq vs.toArray}<|.lst<|ns.map V.int)else none) (λb=> ?_) (.inl<|.inr ⟨{cls:= .type "list",data:= .seq vs.toArray},a9 rfl⟩) (λb u z=> ?_) (λb z=> ?_) λ_=>hk
  ·by_cases hb:b=a
   ·exact .inr ⟨_,_,a9 hb⟩
   ·exact .inl (a6 hb)
  ·by_cases hb:b=a
   ·have z':=(a9 hb).symm.trans z;cases z';subst hb;exact⟨ha,by rw[aK];exact hl,vs,_,rv,ha⟩
   ·have z':=(a6 hb).symm.trans z;cases z'
  ·by_cases hb:b=a
   ·exact hb
   ·exact absurd (a6 hb) z
end L2
namespace L2
open PySem PySem.Spec PyProof.Rows
theorem walk_of {l:PySem.W.OpenLaw}{n k:Nat}{q:Program}{loose:List Str}{XP:(Str->Option Value)->Heap->Prop}{YP:World->Heap->Prop}{d:DefRec}{K:Params->Frag}{CX:World->CXT}{sp:World->Sp}{x:Str}
  (hn:l.most=some n) (hn2:n<=sizeLine) (hdf:d.params.defaults=[]) (hr:gO k callerA)
  (hY: ∀(w:World) (h:Heap),YP w h->(K w.params).In h)
  (F: ∀(w:World) (mg:Str->Option Value) (fa:Addr) (h:Heap),(K w.params).In h->h.Ns mainGlobals mg->mg d.name=some (.ref fa)->
   ∃fd:FuncData,(∀(s:Shared) (u:Value),BindsTo s fd ⟨[u],[]⟩ [(x,u)])/\
    ∀base:Heap,(K w.params).In base->base.Ns mainGlobals mg->sU l.prog w (K w.params) mg base (CX w) k fa fd [x] (sp w))
  (hsp: ∀(w:World) (H:Hp) (a:Addr) (ns:List Int),ns.length<=n->Only H->SqL (K w.params) H a (ns.map V.int)->sp w [.ref a] H (λv _=>v= .bl true) λ_ _ _=>False)
  (hCX: ∀(w:World) (H:Hp) (s:Shared) (e:Value) (s':Shared),CX w [] H s (λ_ _ _=>False) e s'->False) :
  PySem.W.WalkO q loose XP YP l.row.toRowW d [] (λf vs=>PySem.call f vs):=by
 refine Att.attach_call hn hdf λw s₀ s₁ mg mb fa o pm cd doc a vs ns G Y ho hd hcd hmg hobj hints hlen hg=> ?_
 have KX:=hY w _ Y;obtain⟨fd,hb,hF⟩:=F w mg fa _ KX G.T.g hmg;exact cY3 KX G.T.g G.T.b G.T.builtins G.T.nolimit hg hobj hints (aM hlen hn2) hr hF hb (λH hO hS=>hsp w H a ns hlen hO hS) λH e s'=>hCX w H s₁ e s'
end L2
namespace L2
open PySem PySem.Spec PyProof.Rows
noncomputable def jI (s:Stmt):Arguments:=match s with
 | .FunctionDef _ a _ _ _ _ _ _ _ _=>a
 | _=>{posonlyargs:=[],args:=[],vararg:=none,kwonlyargs:=[],kw_defaults:=[],kwarg:=none,defaults:=[]}
noncomputable def dR (s:Stmt):List Stmt:=match s with
 | .FunctionDef _ _ b _ _ _ _ _ _ _=>b
 | _=>[]
noncomputable def aG (s:Stmt):Scope:=match s with
 | .FunctionDef _ _ _ _ _ _ sc _ _ _=>sc
 | _=>{kind:= .function,names:=[],isGenerator:=false,isCoroutine:=false}
abbrev CX0:CXT:=λ_ _ _ _ _ _=>False
abbrev E0:XK:=λ_ _ _=>False
structure Fun (K:Frag)(x qual:Str)(st:Stmt)(f:Addr)(fd:FuncData):Prop where
 ex: ∃(oc:Value) (od:Option Addr) (kV doc pm:Value) (an:Option Addr) (cdv ct:Value) (osl:Array (Option Value)),
  fd=fnOf x qual (jI st) (dR st) (aG st) .none kV doc pm an cdv ct/\K.lookup f=some ⟨oc,od,.func fd,osl⟩/\codeIn K cdv qual=true
 kp:keepIn K (.ref f)=true
section
variable {P:Program}{w:World}{K:Frag}{mg:Str->Option Value}{base:Heap}
theorem Fun.ok {x qual:Str}{st:Stmt}{f:Addr}{fd:FuncData}{N ps:List Str}{k:Nat}{sp:Sp}(F:Fun K x qual st f fd)(S:aY N ps (aG st))(len: ∀vs H Q E,sp vs H Q E->vs.length=ps.length)
  (hbody: ∀(cdv:Value) (A:Around) (outer:List Env) (s:Shared) (H:Hp) (vs:List V) (Q:VK) (E:XK),gO k (A.deeper<|envOfC qual (aG st) s.heap.objs.size f cdv)->sp vs H Q E->
   ∃t,PSs (uD CX0 P w K mg base N qual (aG st) f cdv A outer s H E).nox (dR st) t/\t {nx:=λ_ H'=>Q .non H',rt:=Q} (start N vs) H):sU P w K mg base CX0 (k+1) f fd ps sp:=by
 obtain⟨oc,od,kV,doc,pm,an,cdv,ct,osl,rfl,lk,hcd⟩:=F.ex;refine cX8 lk hcd S len λA outer s H vs Q E hr hsp=> ?_
 obtain⟨t,h,q⟩:=hbody cdv A outer s H vs Q E hr hsp;exact⟨t,h.nox,q⟩
theorem Fun.binds {x qual:Str}{st:Stmt}{f:Addr}{fd:FuncData}{ps:List Str}(F:Fun K x qual st f fd)
  (h: ∀(kV doc pm:Value) (an:Option Addr) (cdv ct:Value) (us:List Value),us.length=ps.length->bindArgs (fnOf x qual (jI st) (dR st) (aG st) .none kV doc pm an cdv ct) ⟨us,[]⟩=pure (ps.zip us)):Binds K fd ps []:=by
 obtain⟨oc,od,kV,doc,pm,an,cdv,ct,osl,rfl,lk,hcd⟩:=F.ex;exact .all (h kV doc pm an cdv ct)
theorem aW7 {x qual:Str}{st:Stmt}{f:Addr}{oc:Value}{od an:Option Addr}{osl:Array (Option Value)}{kV doc pm cdv ct:Value}(l:K.lookup f=some ⟨oc,od,.func<|fnOf x qual (jI st) (dR st) (aG st) .none kV doc pm an cdv ct,osl⟩)
  (c:codeIn K cdv qual=true) (k:keepIn K (.ref f)=true):Fun K x qual st f (fnOf x qual (jI st) (dR st) (aG st) .none kV doc pm an cdv ct):=⟨⟨oc,od,kV,doc,pm,an,cdv,ct,osl,rfl,l,c⟩,k⟩
end
section
variable {X:Cx}
theorem pv (i:Nat){x:Str}{pos:Pos}(hN:X.N[i]? =some x:=by rfl)(hv:Vis X.env.scope x:=by first|exact Or.inl rfl|exact Or.inr (Or.inl rfl)|exact Or.inr (Or.inr rfl))(hd:(x==("__debug__":Str))=false:=by decide)
  (hcd:(x==("__classdict__":Str))=false:=by decide):PE X (.Name x pos) (aG6 i):=pe_var hN hv hd hcd
end
def gT (H H':Hp):Prop:= ∀b o,H b=some o->H' b=some o
theorem gT.refl (H:Hp):gT H H:=λ_ _ h=>h
theorem gT.trans {H H1 H2:Hp}(a:gT H H1)(b:gT H1 H2):gT H H2:=λc o h=>b c o (a c o h)
theorem gT.free {H H':Hp}(e:gT H H'){l:Addr}(h:H' l=Option.none):H l=Option.none:=by
 cases q:H l with
 | none=>rfl
 | some o=>
  rw[e l o q]at h;cases h
theorem gT.seq {K:Frag}{H H':Hp}{a:Addr}{xs:List V}(e:gT H H')(h:SqL K H a xs):SqL K H' a xs:=by
 rcases h with(h| ⟨o,h⟩)|h
 ·exact .inl (.inl<|e _ _ h)
 ·exact .inl (.inr ⟨o,e _ _ h⟩)
 ·exact .inr h
end L2
section
namespace M
open PySem PySem.Spec PyProof.Rows L2
inductive D where
 | non|bl (b:Bool)|int (i:Int)|str (x:Str)|ty (n:String)
 | tup (l:List D)|lst (l:List D)|rol (l:List D)
 | obj (C:Addr) (ks:List Str) (l:List D)
 | adr (a:Addr)
 | xob (a d:Addr) (ks:List Str) (l:List D)
abbrev AS:=Addr->Prop
def KT (K:Frag)(a:Addr)(vs:List V):Prop:=
 ∃(o:Obj) (its:Array Value) (n:Nat),K.lookup a=some o/\o.cls= .type "tuple"/\o.data= .seq its n/\its.size<=sizeLine/\Vals vs its.toList
def KL (K:Frag)(a:Addr)(vs:List V):Prop:=
 ∃(o:Obj) (its:Array Value) (n:Nat),K.lookup a=some o/\o.cls= .type "list"/\o.dict=none/\o.data= .seq its n/\its.size<=sizeLine/\Vals vs its.toList
def OkC (K:Frag)(C:Addr)(ks:List Str):Prop:=Cls K C/\ ∀f∈ks,a73 K C f
mutual
def Rep (K:Frag)(A:AS)(H:Hp):D->V->Prop
 | .non,v=>v= .non
 | .bl b,v=>v= .bl b
 | .int i,v=>v= .int i
 | .str x,v=>v= .str x
 | .ty n,v=>v= .ty n
 | .tup l,v=> ∃a vs,v= .ref a/\((¬A a/\Rd H a (.tup vs))\/KT K a vs)/\bK K A H l vs
 | .lst l,v=> ∃a vs,v= .ref a/\ ¬A a/\H a=some (.lst vs)/\bK K A H l vs
 | .rol l,v=> ∃a vs,v= .ref a/\((¬A a/\Rd H a (.lst vs))\/KL K a vs)/\bK K A H l vs
 | .obj C ks l,v=> ∃a dx vs,v= .ref a/\ ¬A a/\H a=some (.ins C dx<|ks.zip vs)/\ks.length=vs.length/\bK K A H l vs/\OkC K C ks
 | .adr a,v=>v= .ref a
 | .xob a d ks l,v=> ∃vs,v= .ref a/\ ¬A d/\H d=some (.xd<|ks.zip vs)/\ks.length=vs.length/\bK K A H l vs
def bK (K:Frag)(A:AS)(H:Hp):List D->List V->Prop
 | [],vs=>vs=[]
 | d::ds,vs=> ∃v vr,vs=v::vr/\Rep K A H d v/\bK K A H ds vr
end
section
variable {K:Frag}{A A':AS}{H H':Hp}
def lX (A:AS)(H:Hp)(A':AS)(H':Hp):Prop:= ∀b o,¬A b->H b=some o-> ¬A' b/\H' b=some o
theorem Rd.pres (p:lX A H A' H'){a:Addr}{u:HO}(n: ¬A a)(r:Rd H a u): ¬A' a/\Rd H' a u:=by
 rcases r with r| ⟨o,r⟩
 ·exact⟨(p a _ n r).1,.inl (p a _ n r).2⟩
 ·exact⟨(p a _ n r).1,.inr ⟨o,(p a _ n r).2⟩⟩
mutual
theorem Rep.mono (p:lX A H A' H'): ∀{d:D} {v:V},Rep K A H d v->Rep K A' H' d v
 | .non,_,h=>h
 | .bl _,_,h=>h
 | .int _,_,h=>h
 | .str _,_,h=>h
 | .ty _,_,h=>h
 | .tup l,v,h=>by
  simp only[Rep]at h⊢;obtain⟨a,vs,e,c,r⟩:=h;refine⟨a,vs,e,?_,bK.mono p r⟩;rcases c with⟨n,c⟩|c
  ·exact .inl (Rd.pres p n c)
  ·exact .inr c
 | .lst l,v,h=>by
  simp only[Rep]at h⊢;obtain⟨a,vs,e,n,c,r⟩:=h;exact⟨a,vs,e,(p a _ n c).1,(p a _ n c).2,bK.mono p r⟩
 | .rol l,v,h=>by
  simp only[Rep]at h⊢;obtain⟨a,vs,e,c,r⟩:=h;refine⟨a,vs,e,?_,bK.mono p r⟩;rcases c with⟨n,c⟩|c
  ·exact .inl (Rd.pres p n c)
  ·exact .inr c
 | .obj C ks l,v,h=>by
  simp only[Rep]at h⊢;obtain⟨a,dx,vs,e,n,c,hl,r,ok⟩:=h;exact⟨a,dx,vs,e,(p a _ n c).1,(p a _ n c).2,hl,bK.mono p r,ok⟩
 | .adr _,_,h=>h
 | .xob a d ks l,v,h=>by
  simp only[Rep]at h⊢;obtain⟨vs,e,n,c,hl,r⟩:=h;exact⟨vs,e,(p d _ n c).1,(p d _ n c).2,hl,bK.mono p r⟩
theorem bK.mono (p:lX A H A' H'): ∀{l:List D} {vs:List V},bK K A H l vs->bK K A' H' l vs
 | [],_,h=>by simp only[bK]at h ⊢; exact h
 | d::ds,vs,h=>by
  simp only[bK]at h⊢;obtain⟨v,vr,e,r,rs⟩:=h;exact⟨v,vr,e,Rep.mono p r,bK.mono p rs⟩
end
theorem bK.length: ∀{l:List D} {vs:List V},bK K A H l vs->l.length=vs.length
 | [],_,h=>by simp only[bK]at h;subst h;rfl
 | d::ds,vs,h=>by
  simp only[bK]at h;obtain⟨v,vr,rfl,_,rs⟩:=h;simp only[eA,bK.length rs]
theorem bK.nil:bK K A H [] []:=by simp only[bK]
theorem bK.cons {d:D}{v:V}{l:List D}{vs:List V}(r:Rep K A H d v)(rs:bK K A H l vs):bK K A H (d::l) (v::vs):=by
 simp only[bK];exact⟨v,vs,rfl,r,rs⟩
theorem bK.uncons {d:D}{l:List D}{vs:List V}(h:bK K A H (d::l) vs): ∃v vr,vs=v::vr/\Rep K A H d v/\bK K A H l vr:=by
 simpa only[bK]using h
theorem bK.unnil {vs:List V}(h:bK K A H [] vs):vs=[]:=by simpa only[bK]using h
theorem bK.append: ∀{l m:List D} {vs ws:List V},bK K A H l vs->bK K A H m ws->bK K A H (l++m) (vs++ws)
 | [],_,_,_,h,g=>by rw[h.unnil];exact g
 | d::l,m,vs,ws,h,g=>by
  obtain⟨v,vr,rfl,r,rs⟩:=h.uncons;exact .cons r (bK.append rs g)
theorem bK.get: ∀{l:List D} {vs:List V} {i:Nat} {d:D},bK K A H l vs->l[i]? =some d-> ∃v,vs[i]? =some v/\Rep K A H d v
 | [],_,_,_,_,e=>by simp at e
 | d::l,vs,0,d',h,e=>by
  obtain⟨v,vr,rfl,r,rs⟩:=h.uncons;simp at e;subst e;exact⟨v,ae,r⟩
 | d::l,vs,i+1,d',h,e=>by
  obtain⟨v,vr,rfl,r,rs⟩:=h.uncons;obtain⟨w,h1,h2⟩:=bK.get (i:=i) rs (by simpa using e)
  exact⟨w,by simpa using h1,h2⟩
theorem bK.set: ∀{l:List D} {vs:List V} {d:D} {v:V} (i:Nat),bK K A H l vs->Rep K A H d v->bK K A H (l.set i d) (vs.set i v)
 | [],_,_,_,_,h,_=>by rw[h.unnil];exact .nil
 | d'::l,vs,d,v,0,h,g=>by
  obtain⟨w,vr,rfl,r,rs⟩:=h.uncons;exact .cons g rs
 | d'::l,vs,d,v,i+1,h,g=>by
  obtain⟨w,vr,rfl,r,rs⟩:=h.uncons;exact .cons r (bK.set i rs g)
theorem bK.drop: ∀{l:List D} {vs:List V} (n:Nat),bK K A H l vs->bK K A H (l.drop n) (vs.drop n)
 | _,_,0,h=>h
 | [],_,n+1,h=>by rw[h.unnil];exact .nil
 | d::l,vs,n+1,h=>by
  obtain⟨v,vr,rfl,r,rs⟩:=h.uncons;exact bK.drop n rs
theorem bK.take: ∀{l:List D} {vs:List V} (n:Nat),bK K A H l vs->bK K A H (l.take n) (vs.take n)
 | _,_,0,h=>by simp only[List.take_zero];exact .nil
 | [],_,n+1,h=>by rw[h.unnil];exact .nil
 | d::l,vs,n+1,h=>by
  obtain⟨v,vr,rfl,r,rs⟩:=h.uncons;exact .cons r (bK.take n rs)
theorem bK.rep {l:List D}{vs:List V}(h:bK K A H l vs): ∀k:Nat,bK K A H (replicate k l).flatten (replicate k vs).flatten
 | 0=> .nil
 | k+1=>by
  rw[jB,jB,mY,mY];exact .append h (h.rep k)
theorem lX.same (s:gT H H'):lX A H A H':=λb o n e=>⟨n,s b o e⟩
theorem lX.sub (s:gT H H')(h: ∀a,A' a->A a):lX A H A' H':=λb o n e=>⟨λq=>n (h b q),s b o e⟩
theorem lX.fresh {a:Addr}(s:gT H H')(n:H a=none):lX A H (λb=>A b\/b=a) H':=λb o nb e=>
 ⟨λq=>q.elim nb λz=>(by subst z;rw[n]at e;cases e),s b o e⟩
theorem lX.upd {a:Addr}{o:HO}(h:A a):lX A H A (upd H a o):=λb o' nb e=>⟨nb,by rw[cG λz=>nb (by subst z;exact h)];exact e⟩
end
inductive B where
 | pu (d:D)|ow (l:List D)|bo (l:List D)
noncomputable def B.d:B->D
 | .pu d=>d
 | .ow l=> .lst l
 | .bo l=> .lst l
abbrev Ev:=List (Option B)
def Own (ρ:Ev)(σ:L2.St):AS:=λa=> ∃(i:Nat) (l:List D),ρ[i]? =some (some<|.ow l)/\σ[i]? =some (some<|.ref a)
structure C0 where
 H0:Hp
 A0:AS
def Av (C:C0)(ρ:Ev)(σ:L2.St):AS:=λa=>C.A0 a\/Own ρ σ a
structure EOk (K:Frag)(C:C0)(ρ:Ev)(σ:L2.St)(H:Hp):Prop where
 len:ρ.length=σ.length
 pu: ∀(i:Nat) (d:D),ρ[i]? =some (some<|.pu d)-> ∃v,σ[i]? =some (some v)/\Rep K (Av C ρ σ) H d v
 ow: ∀(i:Nat) (l:List D),ρ[i]? =some (some<|.ow l)-> ∃a vs,σ[i]? =some (some<|.ref a)/\H a=some (.lst vs)/\C.H0 a=none/\bK K (Av C ρ σ) H l vs
 inj: ∀(i j:Nat) (l l':List D) (a:Addr),ρ[i]? =some (some<|.ow l)->ρ[j]? =some (some<|.ow l')->σ[i]? =some (some<|.ref a)->σ[j]? =some (some<|.ref a)->i=j
 bo: ∀(i:Nat) (l:List D),ρ[i]? =some (some<|.bo l)-> ∃a vs,σ[i]? =some (some<|.ref a)/\C.A0 a/\C.H0 a=some (.lst vs)/\bK K (Av C ρ σ) H l vs
 ext:gT C.H0 H
 a0: ∀a,C.A0 a->C.H0 a≠none
section
variable {K:Frag}{C:C0}{ρ ρ':Ev}{σ σ':L2.St}{H H':Hp}
theorem EOk.avSome (I:EOk K C ρ σ H){a:Addr}(h:Av C ρ σ a):H a≠none:=by
 rcases h with h| ⟨i,l,h1,h2⟩
 ·intro z;cases e:C.H0 a with
  | none=>exact I.a0 a h e
  | some o=>rw[I.ext a o e]at z;cases z
 ·obtain⟨b,vs,h3,h4,_⟩:=I.ow i l h1;rw[h2]at h3;cases h3;rw[h4];simp
theorem EOk.same (I:EOk K C ρ σ H)(s:gT H H'):EOk K C ρ σ H' where
 len:=I.len
 pu:=λi d h=>let ⟨v,h1,h2⟩:=I.pu i d h;⟨v,h1,h2.mono<|.same s⟩
 ow:=λi l h=>let ⟨a,vs,h1,h2,h3,h4⟩:=I.ow i l h;⟨a,vs,h1,s _ _ h2,h3,h4.mono<|.same s⟩
 inj:=I.inj
 bo:=λi l h=>let ⟨a,vs,h1,h2,h3,h4⟩:=I.bo i l h;⟨a,vs,h1,h2,h3,h4.mono<|.same s⟩
 ext:=I.ext.trans s
 a0:=I.a0
theorem get_set_ne {α:Type}{l:List α}{i j:Nat}{x:α}(h:i≠j):(l.set i x)[j]? =l[j]? :=by
 rw[aM8];simp[h]
theorem hV {α:Type}{l:List α}{i:Nat}{x:α}(h:i<l.length):(l.set i x)[i]? =some x:=by
 rw[aM8];simp[h]
theorem bB {α:Type}{l:List α}{i j:Nat}{x y:α}(h:(l.set i x)[j]? =some y):(i=j/\y=x/\i<l.length)\/(i≠j/\l[j]? =some y):=by
 by_cases e:i=j
 ·subst e;rw[aM8]at h
  by_cases hl:i<l.length
  ·simp[hl]at h;exact .inl ⟨rfl,h.symm,hl⟩
  ·simp[hl]at h
 ·exact .inr ⟨e,by rw[get_set_ne e]at h;exact h⟩
def uE (K:Frag)(A:AS)(H H':Hp):B->V->Prop
 | .pu d,v=>Rep K A H' d v
 | .ow l,v=> ∃a vs,v= .ref a/\H a=none/\H' a=some (.lst vs)/\bK K (λb=>A b\/b=a) H' l vs
 | .bo _,_=>False
theorem uE.rep {A:AS}(hA: ∀a,A a->H a≠none): ∀{b:B} {v:V},uE K A H H' b v->Rep K A H' b.d v
 | .pu d,v,h=>h
 | .ow l,v,h=>by
  obtain⟨a,vs,e,n,h1,r⟩:=h;show Rep K A H' (.lst l) v;simp only[Rep];exact⟨a,vs,e,λz=>hA a z n,h1,r.mono λb o nb q=>⟨λz=>nb (.inl z),q⟩⟩
 | .bo l,v,h=>h.elim
theorem EOk.store (I:EOk K C ρ σ H){i:Nat}{b:B}{v:V}{H1:Hp}(s:gT H H1)(r:uE K (Av C ρ σ) H H1 b v)(hi:i<σ.length):EOk K C (ρ.set i<|some b) (σ.set i<|some v) H1:=by
 have I1:=I.same s;have hir:i<ρ.length:=by rw[I.len];exact hi
 cases b with
 | pu d=>
  have sub: ∀a,Av C (ρ.set i<|some<|.pu d) (σ.set i<|some v) a->Av C ρ σ a:=by
   rintro a (z| ⟨j,l,h1,h2⟩)
   ·exact .inl z
   ·rcases bB h1 with⟨rfl,h3,_⟩| ⟨ne,h3⟩
    ·cases h3
    ·rw[get_set_ne ne]at h2;exact .inr ⟨j,l,h3,h2⟩
  refine⟨by rw[dS,dS];exact I.len,?_,?_,?_,?_,I1.ext,I.a0⟩
  rotate_right
  ·intro j l h;rcases bB h with⟨rfl,h3,_⟩| ⟨ne,h3⟩
   ·cases h3
   ·obtain⟨a,vs,h4,h5,h6,h7⟩:=I1.bo j l h3;exact⟨a,vs,by rw[get_set_ne ne];exact h4,h5,h6,h7.mono<|.sub (.refl _) sub⟩
  ·intro j d' h;rcases bB h with⟨rfl,h3,_⟩| ⟨ne,h3⟩
   ·cases h3;exact⟨v,hV hi,Rep.mono (.sub (.refl _) sub) r⟩
   ·obtain⟨v',h4,h5⟩:=I1.pu j d' h3;exact⟨v',by rw[get_set_ne ne];exact h4,h5.mono<|.sub (.refl _) sub⟩
  ·intro j l h;rcases bB h with⟨rfl,h3,_⟩| ⟨ne,h3⟩
   ·cases h3
   ·obtain⟨a,vs,h4,h5,h6,h7⟩:=I1.ow j l h3;exact⟨a,vs,by rw[get_set_ne ne];exact h4,h5,h6,h7.mono<|.sub (.refl _) sub⟩
  ·intro j k l l' a h1 h2 h3 h4;rcases bB h1 with⟨rfl,z,_⟩| ⟨ne,z⟩
   ·cases z
   ·rcases bB h2 with⟨rfl,z',_⟩| ⟨ne',z'⟩
    ·cases z'
    ·rw[get_set_ne ne]at h3;rw[get_set_ne ne']at h4;exact I.inj j k l l' a z z' h3 h4
 | ow l0=>
  obtain⟨a0,vs0,rfl,n0,e0,r0⟩:=r;have sub: ∀a,Av C (ρ.set i<|some<|.ow l0) (σ.set i<|some<|.ref a0) a->Av C ρ σ a\/a=a0:=by
   rintro a (z| ⟨j,l,h1,h2⟩)
   ·exact .inl (.inl z)
   ·rcases bB h1 with⟨rfl,h3,_⟩| ⟨ne,h3⟩
    ·rw[hV hi]at h2;cases h2;exact .inr rfl
    ·rw[get_set_ne ne]at h2;exact .inl (.inr ⟨j,l,h3,h2⟩)
  have P:lX (Av C ρ σ) H (Av C (ρ.set i<|some<|.ow l0)<|σ.set i<|some<|.ref a0) H1:=λb o nb e=>
   ⟨λq=>(sub b q).elim nb λz=>(by subst z;rw[n0]at e;cases e),s b o e⟩
  refine⟨by rw[dS,dS];exact I.len,?_,?_,?_,?_,I1.ext,I.a0⟩
  rotate_right
  ·intro j l h;rcases bB h with⟨rfl,h3,_⟩| ⟨ne,h3⟩
   ·cases h3
   ·obtain⟨a,vs,h4,h5,h6,h7⟩:=I.bo j l h3;exact⟨a,vs,by rw[get_set_ne ne];exact h4,h5,h6,h7.mono P⟩
  ·intro j d' h;rcases bB h with⟨rfl,h3,_⟩| ⟨ne,h3⟩
   ·cases h3
   ·obtain⟨v',h4,h5⟩:=I.pu j d' h3;exact⟨v',by rw[get_set_ne ne];exact h4,h5.mono P⟩
  ·intro j l h;rcases bB h with⟨rfl,h3,_⟩| ⟨ne,h3⟩
   ·cases h3;refine⟨a0,vs0,hV hi,e0,?_,r0.mono λb o nb q=>⟨λz=>nb (sub b z),q⟩⟩
    cases e:C.H0 a0 with
    | none=>rfl
    | some o=>rw[I.ext _ _ e]at n0;cases n0
   ·obtain⟨a,vs,h4,h5,h6,h7⟩:=I.ow j l h3;exact⟨a,vs,by rw[get_set_ne ne];exact h4,s _ _ h5,h6,h7.mono P⟩
  ·intro j k l l' a h1 h2 h3 h4;have old: ∀{j:Nat} {l:List D},ρ[j]? =some (some<|.ow l)->σ[j]? ≠some (some<|.ref a0):=λ{j l} h z=>by
    obtain⟨b,vs,h4,h5,_⟩:=I.ow j l h;rw[z]at h4;cases h4;rw[n0]at h5;cases h5
   rcases bB h1 with⟨rfl,z,_⟩| ⟨ne,z⟩
   ·rw[hV hi]at h3;cases h3;rcases bB h2 with⟨rfl,z',_⟩| ⟨ne',z'⟩
    ·rfl
    ·rw[get_set_ne ne']at h4;exact absurd h4 (old z')
   ·rw[get_set_ne ne]at h3;rcases bB h2 with⟨rfl,z',_⟩| ⟨ne',z'⟩
    ·rw[hV hi]at h4;cases h4;exact absurd h3 (old z)
    ·rw[get_set_ne ne']at h4;exact I.inj j k l l' a z z' h3 h4
 | bo l0=>exact r.elim
theorem EOk.freeze (I:EOk K C ρ σ H){i:Nat}{l:List D}(h:ρ[i]? =some (some<|.ow l)) :
  EOk K C (ρ.set i<|some<|.pu<|.lst l) σ H/\(∀a,Own (ρ.set i<|some<|.pu<|.lst l) σ a->Own ρ σ a)/\ ∃v,σ[i]? =some (some v)/\Rep K (Av C (ρ.set i<|some<|.pu<|.lst l) σ) H (.lst l) v:=by
 have sub: ∀a,Own (ρ.set i<|some<|.pu<|.lst l) σ a->Own ρ σ a:=by
  rintro a ⟨j,l',h1,h2⟩;rcases bB h1 with⟨rfl,h3,_⟩| ⟨ne,h3⟩
  ·cases h3
  ·exact⟨j,l',h3,h2⟩
 have subA: ∀a,Av C (ρ.set i<|some<|.pu<|.lst l) σ a->Av C ρ σ a:=λa z=>z.imp id (sub a)
 obtain⟨a,vs,h1,h2,h3,h4⟩:=I.ow i l h;have na: ¬Av C (ρ.set i<|some<|.pu<|.lst l) σ a:=by
  rintro(z| ⟨j,l',g1,g2⟩)
  ·exact I.a0 a z h3
  ·rcases bB g1 with⟨rfl,g3,_⟩| ⟨ne,g3⟩
   ·cases g3
   ·exact ne (I.inj i j l l' a h g3 h1 g2)
 have R:Rep K (Av C (ρ.set i<|some<|.pu<|.lst l) σ) H (.lst l) (.ref a):=by
  simp only[Rep];exact⟨a,vs,rfl,na,h2,h4.mono<|.sub (.refl _) subA⟩
 refine⟨⟨by rw[dS];exact I.len,?_,?_,?_,?_,I.ext,I.a0⟩,sub,.ref a,h1,R⟩
 rotate_right
 ·intro j l' g;rcases bB g with⟨rfl,g3,_⟩| ⟨ne,g3⟩
  ·cases g3
  ·obtain⟨a',vs',g4,g5,g6,g7⟩:=I.bo j l' g3;exact⟨a',vs',g4,g5,g6,g7.mono<|.sub (.refl _) subA⟩
 ·intro j d' g;rcases bB g with⟨rfl,g3,_⟩| ⟨ne,g3⟩
  ·cases g3;exact⟨_,h1,R⟩
  ·obtain⟨v',g4,g5⟩:=I.pu j d' g3;exact⟨v',g4,g5.mono<|.sub (.refl _) subA⟩
 ·intro j l' g;rcases bB g with⟨rfl,g3,_⟩| ⟨ne,g3⟩
  ·cases g3
  ·obtain⟨a',vs',g4,g5,g6,g7⟩:=I.ow j l' g3;exact⟨a',vs',g4,g5,g6,g7.mono<|.sub (.refl _) subA⟩
 ·intro j k l1 l2 a' g1 g2 g3 g4;rcases bB g1 with⟨rfl,z,_⟩| ⟨ne,z⟩
  ·cases z
  ·rcases bB g2 with⟨rfl,z',_⟩| ⟨ne',z'⟩
   ·cases z'
   ·exact I.inj j k l1 l2 a' z z' g3 g4
theorem EOk.write (I:EOk K C ρ σ H){i:Nat}{l l':List D}{a:Addr}{vs':List V}(h:ρ[i]? =some (some<|.ow l))(hs:σ[i]? =some (some<|.ref a))(r:bK K (Av C ρ σ) H l' vs') :
  EOk K C (ρ.set i<|some<|.ow l') σ (upd H a<|.lst vs'):=by
 have hi:i<ρ.length:=(jY.mp h).1;have sub: ∀b,Av C (ρ.set i<|some<|.ow l') σ b->Av C ρ σ b:=by
  rintro b (z| ⟨j,l2,h1,h2⟩)
  ·exact .inl z
  ·rcases bB h1 with⟨rfl,h3,_⟩| ⟨ne,h3⟩
   ·exact .inr ⟨i,l,h,h2⟩
   ·exact .inr ⟨j,l2,h3,h2⟩
 have own:Av C ρ σ a:= .inr ⟨i,l,h,hs⟩;have P:lX (Av C ρ σ) H (Av C (ρ.set i<|some<|.ow l') σ) (upd H a<|.lst vs'):=λb o nb e=>⟨λz=>nb (sub b z),(lX.upd own b o nb e).2⟩
 obtain⟨a1,vs,h1,h2,h3,h4⟩:=I.ow i l h;rw[hs]at h1;cases h1;refine⟨by rw[dS];exact I.len,?_,?_,?_,?_,?_,I.a0⟩
 rotate_left 3
 ·intro j l2 g;rcases bB g with⟨rfl,g3,_⟩| ⟨ne,g3⟩
  ·cases g3
  ·obtain⟨a',vs',g4,g5,g6,g7⟩:=I.bo j l2 g3;exact⟨a',vs',g4,g5,g6,g7.mono P⟩
 rotate_left 1
 ·intro j d' g;rcases bB g with⟨rfl,g3,_⟩| ⟨ne,g3⟩
  ·cases g3
  ·obtain⟨v',g4,g5⟩:=I.pu j d' g3;exact⟨v',g4,g5.mono P⟩
 ·intro j l2 g;rcases bB g with⟨rfl,g3,_⟩| ⟨ne,g3⟩
  ·cases g3;exact⟨a,vs',hs,iB,h3,r.mono P⟩
  ·obtain⟨a',vs2,g4,g5,g6,g7⟩:=I.ow j l2 g3;refine⟨a',vs2,g4,?_,g6,g7.mono P⟩;rw[cG λz=> ?_]
   ·exact g5
   ·subst z;exact ne (I.inj i j l l2 a' h g3 hs g4)
 ·intro j k l1 l2 a' g1 g2 g3 g4;have old: ∀{j:Nat} {l1:List D},(ρ.set i<|some<|.ow l')[j]? =some (some<|.ow l1)-> ∃l3,ρ[j]? =some (some<|.ow l3):=λ{j l1} g=>by
   rcases bB g with⟨rfl,z,_⟩| ⟨ne,z⟩
   ·exact⟨l,h⟩
   ·exact⟨l1,z⟩
  obtain⟨_,q1⟩:=old g1;obtain⟨_,q2⟩:=old g2;exact I.inj j k _ _ a' q1 q2 g3 g4
 ·intro b o e;rw[cG λz=> ?_]
  ·exact I.ext b o e
  ·subst z;rw[h3]at e;cases e
noncomputable def C0.raise (C:C0)(ρ:Ev)(σ:L2.St)(H:Hp)(D:(a:Addr)->Decidable (Own ρ σ a)):C0:=⟨λb=> @ite _ (Own ρ σ b) (D b) none (H b),C.A0⟩
open Classical in
theorem EOk.raise (I:EOk K C ρ σ H):EOk K (C.raise ρ σ H λ_=>inferInstance) ρ σ H/\gT C.H0 (C.raise ρ σ H λ_=>inferInstance).H0:=by
 have e1: ∀b,Own ρ σ b->(C.raise ρ σ H λ_=>inferInstance).H0 b=none:=λb h=>a9 h
 have e2: ∀b,¬Own ρ σ b->(C.raise ρ σ H λ_=>inferInstance).H0 b=H b:=λb h=>a6 h
 have no: ∀b o,C.H0 b=some o-> ¬Own ρ σ b:=λb o e ⟨i,l,h1,h2⟩=>by
  obtain⟨a,vs,h3,h4,h5,_⟩:=I.ow i l h1;rw[h2]at h3;cases h3;rw[h5]at e;cases e
 have s1:gT C.H0 (C.raise ρ σ H λ_=>inferInstance).H0:=λb o e=>by rw[e2 b<|no b o e];exact I.ext b o e
 refine⟨⟨I.len,I.pu,λi l h=> ?_,I.inj,λi l h=> ?_,λb o e=> ?_,λa h z=> ?_⟩,s1⟩
 ·obtain⟨a,vs,h3,h4,h5,h6⟩:=I.ow i l h;exact⟨a,vs,h3,h4,e1 a ⟨i,l,h,h3⟩,h6⟩
 ·obtain⟨a,vs,h3,h4,h5,h6⟩:=I.bo i l h;exact⟨a,vs,h3,h4,s1 _ _ h5,h6⟩
 ·by_cases q:Own ρ σ b
  ·rw[e1 b q]at e;cases e
  ·rw[e2 b q]at e;exact e
 ·cases e:C.H0 a with
  | none=>exact I.a0 a h e
  | some o=>rw[s1 a o e]at z;cases z
theorem EOk.lower {C C':C0}(I:EOk K C' ρ σ H)(s:gT C.H0 C'.H0)(e:C'.A0=C.A0)(ha: ∀a,C.A0 a->C.H0 a≠none):EOk K C ρ σ H:=by
 obtain⟨H0',A0'⟩:=C';obtain⟨H0,A0⟩:=C;have e':A0'=A0:=e;subst e';refine⟨I.len,I.pu,λi l h=> ?_,I.inj,λi l h=> ?_,s.trans I.ext,ha⟩
 ·obtain⟨a,vs,h3,h4,h5,h6⟩:=I.ow i l h;exact⟨a,vs,h3,h4,s.free h5,h6⟩
 ·obtain⟨a,vs,h3,h4,h5,h6⟩:=I.bo i l h;refine⟨a,vs,h3,h4,?_,h6⟩;cases e:H0 a with
  | none=>exact absurd e (ha a h4)
  | some o=>
   have:=s a o e;have h5':H0' a=some (.lst vs):=h5;have this':H0' a=some o:=this;rw[h5']at this';cases this';exact e
end
end M
end
section
namespace M
open PySem PySem.Spec PyProof.Rows L2
def Frz (ρ ρ':Ev):Prop:=ρ'.length=ρ.length/\ ∀i:Nat,ρ'[i]? =ρ[i]? \/ ∃l:List D,ρ[i]? =some (some<|.ow l)/\ρ'[i]? =some (some<|.pu<|.lst l)
theorem Frz.refl (ρ:Ev):Frz ρ ρ:=⟨rfl,λ_=> .inl rfl⟩
theorem Frz.trans {a b c:Ev}(h:Frz a b)(g:Frz b c):Frz a c:=by
 refine⟨g.1.trans h.1,λi=> ?_⟩
 rcases g.2 i with e| ⟨l,e1,e2⟩
 ·rcases h.2 i with e'| ⟨l,e1,e2⟩
  ·exact .inl (e.trans e')
  ·exact .inr ⟨l,e1,e.trans e2⟩
 ·rcases h.2 i with e'| ⟨l',e3,e4⟩
  ·exact .inr ⟨l,e'▸e1,e2⟩
  ·rw[e4]at e1;cases e1
theorem Frz.own {ρ ρ':Ev}{σ:L2.St}(f:Frz ρ ρ'){a:Addr}(h:Own ρ' σ a):Own ρ σ a:=by
 obtain⟨i,l,h1,h2⟩:=h;rcases f.2 i with e| ⟨l',_,e2⟩
 ·exact⟨i,l,e▸h1,h2⟩
 ·rw[e2]at h1;cases h1
theorem Frz.set {ρ:Ev}{i:Nat}{l:List D}(h:ρ[i]? =some (some<|.ow l)):Frz ρ (ρ.set i<|some<|.pu<|.lst l):=by
 refine⟨dS,λj=> ?_⟩
 by_cases e:i=j
 ·subst e;exact .inr ⟨l,h,hV (jY.mp h).1⟩
 ·exact .inl (get_set_ne e)
section
variable {K:Frag}{C:C0}{ρ ρ':Ev}{σ:L2.St}{H H':Hp}
theorem Frz.av (f:Frz ρ ρ'){a:Addr}(h:Av C ρ' σ a):Av C ρ σ a:=h.imp id f.own
theorem EOk.frz (I:EOk K C ρ σ H)(f:Frz ρ ρ'):EOk K C ρ' σ H:=by
 have ow': ∀{j:Nat} {l:List D},ρ'[j]? =some (some<|.ow l)->ρ[j]? =some (some<|.ow l):=λ{j l} h=>by
  rcases f.2 j with e| ⟨l',_,e2⟩
  ·exact e▸h
  ·rw[e2]at h;cases h
 refine⟨by rw[f.1];exact I.len,λi d h=> ?_,λi l h=> ?_,λi j l l' a h1 h2=>I.inj i j l l' a (ow' h1) (ow' h2),λi l h=> ?_,I.ext,I.a0⟩
 ·rcases f.2 i with e| ⟨l,e1,e2⟩
  ·obtain⟨v,h1,h2⟩:=I.pu i d (e▸h);exact⟨v,h1,h2.mono<|.sub (.refl _) λa=>f.av⟩
  ·rw[e2]at h;cases h;obtain⟨a,vs,h1,h2,h3,h4⟩:=I.ow i l e1;refine⟨.ref a,h1,?_⟩;simp only[Rep];refine⟨a,vs,rfl,?_,h2,h4.mono<|.sub (.refl _) λa=>f.av⟩
   rintro(z| ⟨j,l',g1,g2⟩)
   ·exact I.a0 a z h3
   ·have:=I.inj i j l l' a e1 (ow' g1) h1 g2;subst this;rw[e2]at g1;cases g1
 ·obtain⟨a,vs,h1,h2,h3,h4⟩:=I.ow i l (ow' h);exact⟨a,vs,h1,h2,h3,h4.mono<|.sub (.refl _) λa=>f.av⟩
 ·have h':ρ[i]? =some (some<|.bo l):=by
   rcases f.2 i with e| ⟨l',_,e2⟩
   ·exact e▸h
   ·rw[e2]at h;cases h
  obtain⟨a,vs,h1,h2,h3,h4⟩:=I.bo i l h';exact⟨a,vs,h1,h2,h3,h4.mono<|.sub (.refl _) λa=>f.av⟩
end
abbrev UE:=Ev->(B->Ev->Prop)->Prop
abbrev UV:=Ev->(D->Ev->Prop)->Prop
abbrev UA:=Ev->(List D->Ev->Prop)->Prop
abbrev UT:=Ev->(Bool->Ev->Prop)->Prop
def lE (K:Frag)(t:UE):TE:=λσ H Q=> ∃C ρ Q0,EOk K C ρ σ H/\t ρ Q0/\
 ∀b ρ' v H',Q0 b ρ'->Frz ρ ρ'->gT H H'->uE K (Av C ρ' σ) H H' b v->Q v H'
def lA (K:Frag)(t:UA):TA:=λσ H Q=> ∃C ρ Q0,EOk K C ρ σ H/\t ρ Q0/\
 ∀ds ρ' vs H',Q0 ds ρ'->Frz ρ ρ'->gT H H'->bK K (Av C ρ' σ) H' ds vs->Q vs H'
def lT (K:Frag)(t:UT):TT:=λσ H Q=> ∃C ρ Q0,EOk K C ρ σ H/\t ρ Q0/\
 ∀b ρ' H',Q0 b ρ'->Frz ρ ρ'->gT H H'->Q b H'
def cC5 (K:Frag)(A:AS)(H:Hp):D->V->Prop
 | .tup l,v=> ∃a vs,v= .ref a/\SqT K H a vs/\bK K A H l vs
 | .lst l,v=> ∃a vs,v= .ref a/\H a=some (.lst vs)/\bK K A H l vs
 | .rol l,v=> ∃a vs,v= .ref a/\SqL K H a vs/\bK K A H l vs
 | d,v=>Rep K A H d v
def lV (K:Frag)(t:UV):TE:=λσ H Q=> ∃C ρ Q0,EOk K C ρ σ H/\t ρ Q0/\
 ∀d ρ' v H',Q0 d ρ'->Frz ρ ρ'->gT H H'->cC5 K (Av C ρ' σ) H' d v->Q v H'
def PU (X:Cx)(e:Expr)(t:UE):Prop:=PE X e (lE X.K t)
def PUV (X:Cx)(e:Expr)(t:UV):Prop:=PE X e (lV X.K t)
def PUA (X:Cx)(es:List Expr)(t:UA):Prop:=PA X es (lA X.K t)
def PUT (X:Cx)(e:Expr)(t:UT):Prop:=PT X e (lT X.K t)
def PUW (X:Cx)(e:Expr)(t:UT):Prop:=PW X e (lT X.K t)
section
variable {K:Frag}{A:AS}{H:Hp}
theorem Rep.one: ∀{d:D} {v:V},Rep K A H d v->cC5 K A H d v
 | .non,_,h=>h
 | .bl _,_,h=>h
 | .int _,_,h=>h
 | .str _,_,h=>h
 | .ty _,_,h=>h
 | .tup l,v,h=>by
  simp only[Rep]at h;obtain⟨a,vs,e,c,r⟩:=h;exact⟨a,vs,e,c.imp cQ id,r⟩
 | .lst l,v,h=>by
  simp only[Rep]at h;obtain⟨a,vs,e,n,c,r⟩:=h;exact⟨a,vs,e,c,r⟩
 | .rol l,v,h=>by
  simp only[Rep]at h;obtain⟨a,vs,e,c,r⟩:=h;exact⟨a,vs,e,c.imp cQ id,r⟩
 | .obj _ _ _,_,h=>h
 | .adr _,_,h=>h
 | .xob _ _ _ _,_,h=>h
end
theorem iU {X:Cx}{e:Expr}{t t':TE}(h:PE X e t)(i: ∀σ H Q,t' σ H Q->t σ H Q):PE X e t':=λpins s σ H Q I q=>h pins s σ H Q I (i σ H Q q)
theorem dL0 {X:Cx}{es:List Expr}{t t':TA}(h:PA X es t)(i: ∀σ H Q,t' σ H Q->t σ H Q):PA X es t':=λpos pins s σ H Q I q=>h pos pins s σ H Q I (i σ H Q q)
theorem c18 {X:Cx}{e:Expr}{t t':TT}(h:PT X e t)(i: ∀σ H Q,t' σ H Q->t σ H Q):PT X e t':=λpins s σ H Q I q=>h pins s σ H Q I (i σ H Q q)
theorem dL1 {X:Cx}{e:Expr}{t t':TT}(h:PW X e t)(i: ∀σ H Q,t' σ H Q->t σ H Q):PW X e t':=λw pins s σ H Q I q=>h w pins s σ H Q I (i σ H Q q)
section
variable {X:Cx}{a b c e o:Expr}{es rW:List Expr}{pos:Pos}{ta tb tc:UE}
def uC (d:D):UE:=λρ Q=>Q (.pu d) ρ
theorem aI {i j pos}:PU X (.Constant (.int i) j pos) (uC<|.int i):=iU pe_int λσ H Q ⟨C,ρ,Q0,I,h,k⟩=>k _ ρ _ H h (.refl _) (.refl _) (show Rep _ _ _ _ _ by simp only[Rep])
theorem dL2 {b j pos}:PU X (.Constant (.bool b) j pos) (uC<|.bl b):=iU pe_bl λσ H Q ⟨C,ρ,Q0,I,h,k⟩=>k _ ρ _ H h (.refl _) (.refl _) (show Rep _ _ _ _ _ by simp only[Rep])
theorem a74 {j pos}:PU X (.Constant .none j pos) (uC .non):=iU pe_non λσ H Q ⟨C,ρ,Q0,I,h,k⟩=>k _ ρ _ H h (.refl _) (.refl _) (show Rep _ _ _ _ _ by simp only[Rep])
theorem pu_str {x j pos}:PU X (.Constant (.str x) j pos) (uC<|.str x):=iU pe_str λσ H Q ⟨C,ρ,Q0,I,h,k⟩=>k _ ρ _ H h (.refl _) (.refl _) (show Rep _ _ _ _ _ by simp only[Rep])
def aR2 (ρ:Ev)(i:Nat)(Q:B->Ev->Prop):Prop:=match ρ[i]? with
 | some (some<|.pu d)=>Q (.pu d) ρ
 | some (some<|.ow l)=>Q (.pu<|.lst l) (ρ.set i<|some<|.pu<|.lst l)
 | _=>False
def aE (i:Nat):UE:=λρ Q=>aR2 ρ i Q
theorem eZ (i:Nat){x:Str}{pos:Pos}(h:PE X (.Name x pos) (aG6 i)):PU X (.Name x pos) (aE i):=iU h λσ H Q ⟨C,ρ,Q0,I,h,k⟩=>by
 unfold aE aR2 at h;split at h
 ·rename_i d e
  obtain⟨v,h1,h2⟩:=I.pu i d e;exact⟨v,h1,k _ ρ v H h (.refl _) (.refl _) h2⟩
 ·rename_i l e
  obtain⟨_,_,v,h1,h2⟩:=I.freeze e;exact⟨v,h1,k _ _ v H h (.set e) (.refl _) h2⟩
 ·exact h.elim
def b96 (ρ:Ev)(i:Nat)(Q:D->Ev->Prop):Prop:=match ρ[i]? with
 | some (some<|.pu d)=>Q d ρ
 | some (some<|.ow l)=>Q (.lst l) ρ
 | some (some<|.bo l)=>Q (.lst l) ρ
 | _=>False
def aZ (i:Nat):UV:=λρ Q=>b96 ρ i Q
theorem qF (i:Nat){x:Str}{pos:Pos}(h:PE X (.Name x pos) (aG6 i)):PUV X (.Name x pos) (aZ i):=iU h λσ H Q ⟨C,ρ,Q0,I,h,k⟩=>by
 unfold aZ b96 at h;split at h
 ·rename_i d e
  obtain⟨v,h1,h2⟩:=I.pu i d e;exact⟨v,h1,k _ ρ v H h (.refl _) (.refl _) h2.one⟩
 ·rename_i l e
  obtain⟨a,vs,h1,h2,h3,h4⟩:=I.ow i l e;exact⟨_,h1,k _ ρ _ H h (.refl _) (.refl _) ⟨a,vs,rfl,h2,h4⟩⟩
 ·rename_i l e
  obtain⟨a,vs,h1,h2,h3,h4⟩:=I.bo i l e;exact⟨_,h1,k _ ρ _ H h (.refl _) (.refl _) ⟨a,vs,rfl,I.ext _ _ h3,h4⟩⟩
 ·exact h.elim
def uV (t:UE):UV:=λρ Q=>t ρ λb ρ1=>Q b.d ρ1
theorem EOk.avF {K:Frag}{C:C0}{ρ ρ':Ev}{σ:L2.St}{H:Hp}(I:EOk K C ρ σ H)(f:Frz ρ ρ'){a:Addr}(h:Av C ρ' σ a):H a≠none:=I.avSome (f.av h)
theorem yB (h:PU X e ta):PUV X e (uV ta):=iU h λσ H Q ⟨C,ρ,Q0,I,h,k⟩=>
 ⟨C,ρ,_,I,h,λb ρ' v H' q f s r=>k b.d ρ' v H' q f s (r.rep λa z=>I.avF f z).one⟩
theorem cJ4 {x:Str}{v:V}{d:D}{pos:Pos}(h:PE X (.Name x pos) (tC v))(r: ∀A H,Rep X.K A H d v):PU X (.Name x pos) (uC d):=iU h λσ H Q ⟨C,ρ,Q0,I,h,k⟩=>k _ ρ _ H h (.refl _) (.refl _) (r _ _)
def OpU (X:Cx)(f:Value->Value->Sem Value)(g:D->D->(B->Prop)->Prop):Prop:=
 ∀(A:AS) (H:Hp) (d e:D) (v w:V) (Q0:B->Prop) (Q:VK),(∀a,A a->H a≠none)->Rep X.K A H d v->Rep X.K A H e w->g d e Q0->
  (∀b v' H',Q0 b->gT H H'->uE X.K A H H' b v'->Q v' H')-> ∃r,OpR X f r/\r v w H Q
def uOp (g:D->D->(B->Prop)->Prop)(ta tb:UE):UE:=λρ Q=>ta ρ λx ρ1=>tb ρ1 λy ρ2=>g x.d y.d λb=>Q b ρ2
theorem cY4 {f:Value->Value->Sem Value}:OpR X f (λx y H Q=> ∃r,OpR X f r/\r x y H Q):=λpins s σ H x y v u Q I rx ry ⟨r,hr,q⟩=>hr pins s σ H x y v u Q I rx ry q
theorem uE.from {K:Frag}{A:AS}{H0 H H':Hp}(s:gT H0 H): ∀{b:B} {v:V},uE K A H H' b v->uE K A H0 H' b v
 | .pu _,_,h=>h
 | .ow _,_,⟨a,vs,e,n,h1,r⟩=>⟨a,vs,e,s.free n,h1,r⟩
 | .bo _,_,h=>h.elim
theorem lOp {f:Value->Value->Sem Value}{g:D->D->(B->Prop)->Prop}(ho:OpU X f g)(σ:L2.St)(H:Hp)(Q:VK)(h:lE X.K (uOp g ta tb) σ H Q) :
  tOp (λx y H Q=> ∃r,OpR X f r/\r x y H Q) (lE X.K ta) (lE X.K tb) σ H Q:=by
 obtain⟨C,ρ,Q0,I,h,k⟩:=h;refine⟨C,ρ,_,I,h,λx ρ1 v H1 q1 f1 s1 r1=> ?_⟩
 have I1:=(I.frz f1).same s1;refine⟨C,ρ1,_,I1,q1,λy ρ2 w H2 q2 f2 s2 r2=> ?_⟩
 have I2:=(I1.frz f2).same s2;have hA: ∀a,Av C ρ2 σ a->H2 a≠none:=λa z=>I2.avSome z
 refine ho (Av C ρ2 σ) H2 x.d y.d v w _ Q hA ((r1.rep λa z=>I.avF f1 z).mono<|.sub s2 λa=>f2.av) (r2.rep λa z=>I1.avF f2 z) q2 λb v' H' q s r=> ?_
 exact k b ρ2 v' H' q (f1.trans f2) (s1.trans<|s2.trans s) (r.from<|s1.trans s2)
theorem aQ {op:Operator}{g:D->D->(B->Prop)->Prop}(ho:OpU X (binaryOp op) g)(ha:PU X a ta)(hb:PU X b tb):PU X (.BinOp a op b pos) (uOp g ta tb):=
 iU (pe_op cY4 ha hb) (lOp ho)
theorem pu_cmp {op:CmpOp}{g:D->D->(B->Prop)->Prop}(ho:OpU X (compareOp op) g)(ha:PU X a ta)(hb:PU X b tb)(hm:behindInMarks op b=false):PU X (.Compare a [op] [b] pos) (uOp g ta tb):=
 iU (dB1 cY4 ha hb hm) (lOp ho)
def isB (Q:Bool->Ev->Prop):B->Ev->Prop:=λb ρ=>match b with
 | .pu (.bl k)=>Q k ρ
 | _=>False
def eX (t:UE):UT:=λρ Q=>t ρ (isB Q)
theorem dC3 {t:UE}(σ:L2.St)(H:Hp)(Q:Bool->Hp->Prop)(h:lT X.K (eX t) σ H Q):lE X.K t σ H λx H'=> ∃k,x= .bl k/\Q k H':=by
 obtain⟨C,ρ,Q0,I,h,k⟩:=h;refine⟨C,ρ,_,I,h,λb ρ' v H' q f s r=> ?_⟩
 unfold isB at q;split at q
 ·rename_i k'
  refine⟨k',?_,k k' ρ' H' q f s⟩
  have r':Rep X.K (Av C ρ' σ) H' (.bl k') v:=r
  simpa only[Rep]using r'
 ·exact q.elim
theorem cY5 (h:PU X e ta)(he: ∀whole,isTrue e X.env whole=(do let v<-whole;standAt e.pos;holding [v] (truthy v)):=by intro _;rfl):PUT X e (eX ta):=
 c18 (pt_val h he) dC3
theorem aR3 {op:CmpOp}{g:D->D->(B->Prop)->Prop}(ho:OpU X (compareOp op) g)(ha:PU X a ta)(hb:PU X b tb)(hm:behindInMarks op b=false):PUT X (.Compare a [op] [b] pos) (eX<|uOp g ta tb):=
 c18 (dB2 cY4 ha hb hm) λσ H Q h=>lOp ho σ H _ (dC3 σ H Q h)
def cQ0 (t u:UT):UT:=λρ Q=>t ρ λc ρ1=>if c=true then u ρ1 Q else Q false ρ1
def uOr (t u:UT):UT:=λρ Q=>t ρ λc ρ1=>if c=true then Q true ρ1 else u ρ1 Q
def uNot (t:UT):UT:=λρ Q=>t ρ λc ρ1=>Q (!c) ρ1
variable {tA tB:UT}
theorem aR4 (ha:PUT X a tA):PUW X (.BoolOp .And [a] pos) tA:=dA3 ha
theorem cJ5 (ha:PUT X a tA):PUW X (.BoolOp .Or [a] pos) tA:=pw_or1 ha
theorem b74 (ha:PUT X a tA)(hb:PUW X (.BoolOp .And (b::rW) pos) tB):PUW X (.BoolOp .And (a::b::rW) pos) (cQ0 tA tB):=
 dL1 (pw_and ha hb) λσ H Q ⟨C,ρ,Q0,I,h,k⟩=>⟨C,ρ,_,I,h,λc ρ1 H1 q f s=>by
  cases c with
  | true=>
   rw[a9 rfl]at q⊢;exact⟨C,ρ1,Q0,(I.frz f).same s,q,λb ρ2 H2 q2 f2 s2=>k b ρ2 H2 q2 (f.trans f2) (s.trans s2)⟩
  | false=>
   rw[a6 bD]at q⊢;exact k _ _ _ q f s⟩
theorem cC6 (ha:PUT X a tA)(hb:PUW X (.BoolOp .Or (b::rW) pos) tB):PUW X (.BoolOp .Or (a::b::rW) pos) (uOr tA tB):=
 dL1 (pw_or ha hb) λσ H Q ⟨C,ρ,Q0,I,h,k⟩=>⟨C,ρ,_,I,h,λc ρ1 H1 q f s=>by
  cases c with
  | true=>
   rw[a9 rfl]at q⊢;exact k _ _ _ q f s
  | false=>
   rw[a6 bD]at q⊢;exact⟨C,ρ1,Q0,(I.frz f).same s,q,λb ρ2 H2 q2 f2 s2=>k b ρ2 H2 q2 (f.trans f2) (s.trans s2)⟩⟩
theorem PUW.pt (h:PUW X e tA):PUT X e tA:=PW.pt h
theorem dC4 (ha:PUT X a tA):PUT X (.UnaryOp .Not a pos) (uNot tA):=
 c18 (pt_not ha) λσ H Q ⟨C,ρ,Q0,I,h,k⟩=>⟨C,ρ,_,I,h,λc ρ1 H1 q f s=>k _ ρ1 H1 q f s⟩
def cJ6 (t u:UE):UE:=λρ Q=>t ρ λx ρ1=>isB (λc ρ1=>if c=true then u ρ1 Q else Q (.pu<|.bl false) ρ1) x ρ1
def dC5 (t u:UE):UE:=λρ Q=>t ρ λx ρ1=>isB (λc ρ1=>if c=true then Q (.pu<|.bl true) ρ1 else u ρ1 Q) x ρ1
theorem cJ7 {Q:Bool->Ev->Prop}{b:B}{ρ:Ev}{K:Frag}{A:AS}{H H':Hp}{v:V}(h:isB Q b ρ)(r:uE K A H H' b v): ∃k,v= .bl k/\Q k ρ:=by
 unfold isB at h;split at h
 ·rename_i k'
  have r':Rep K A H' (.bl k') v:=r;exact⟨k',by simpa only[Rep]using r',h⟩
 ·exact h.elim
theorem oC {K:Frag}{A:AS}{H H':Hp}{k:Bool}:uE K A H H' (.pu<|.bl k) (.bl k):=by
 show Rep K A H' (.bl k) (.bl k)
 simp only[Rep]
theorem cY6 {op}(h:PU X a ta):PU X (.BoolOp op [a] pos) ta:=pe_one h
theorem pu_and (ha:PU X a ta)(hb:PU X (.BoolOp .And (b::rW) pos) tb):PU X (.BoolOp .And (a::b::rW) pos) (cJ6 ta tb):=
 iU (pe_and ha hb) λσ H Q ⟨C,ρ,Q0,I,h,k⟩=>⟨C,ρ,_,I,h,λx ρ1 v H1 q f s r=>by
  obtain⟨c,rfl,q⟩:=cJ7 q r;refine⟨c,rfl,?_⟩;cases c with
  | true=>
   rw[a9 rfl]at q⊢;exact⟨C,ρ1,Q0,(I.frz f).same s,q,λb ρ2 v H2 q2 f2 s2 r2=>k b ρ2 v H2 q2 (f.trans f2) (s.trans s2) (r2.from s)⟩
  | false=>
   rw[a6 bD]at q⊢;exact k _ _ _ _ q f s oC⟩
theorem pu_or (ha:PU X a ta)(hb:PU X (.BoolOp .Or (b::rW) pos) tb):PU X (.BoolOp .Or (a::b::rW) pos) (dC5 ta tb):=
 iU (pe_or ha hb) λσ H Q ⟨C,ρ,Q0,I,h,k⟩=>⟨C,ρ,_,I,h,λx ρ1 v H1 q f s r=>by
  obtain⟨c,rfl,q⟩:=cJ7 q r;refine⟨c,rfl,?_⟩;cases c with
  | true=>
   rw[a9 rfl]at q⊢;exact k _ _ _ _ q f s oC
  | false=>
   rw[a6 bD]at q⊢;exact⟨C,ρ1,Q0,(I.frz f).same s,q,λb ρ2 v H2 q2 f2 s2 r2=>k b ρ2 v H2 q2 (f.trans f2) (s.trans s2) (r2.from s)⟩⟩
def uIf (t:UT)(ta tb:UE):UE:=λρ Q=>t ρ λc ρ1=>if c=true then ta ρ1 Q else tb ρ1 Q
theorem cY7 (hc:PUT X c tA)(ha:PU X a ta)(hb:PU X b tb):PU X (.IfExp c a b pos) (uIf tA ta tb):=
 iU (cW2 hc ha hb) λσ H Q ⟨C,ρ,Q0,I,h,k⟩=>⟨C,ρ,_,I,h,λc ρ1 H1 q f s=>by
  have I1:=(I.frz f).same s;cases c with
  | true=>
   dsimp only at q⊢;rw[a9 rfl]at q⊢;exact⟨C,ρ1,Q0,I1,q,λb ρ2 v H2 q2 f2 s2 r2=>k b ρ2 v H2 q2 (f.trans f2) (s.trans s2) (r2.from s)⟩
  | false=>
   dsimp only at q⊢;rw[a6 bD]at q⊢;exact⟨C,ρ1,Q0,I1,q,λb ρ2 v H2 q2 f2 s2 r2=>k b ρ2 v H2 q2 (f.trans f2) (s.trans s2) (r2.from s)⟩⟩
def aL:UA:=λρ Q=>Q [] ρ
def aB (t:UE)(u:UA):UA:=λρ Q=>t ρ λx ρ1=>u ρ1 λxs ρ2=>Q (x.d::xs) ρ2
theorem aC:PUA X [] aL:=dL0 bR8 λσ H Q ⟨C,ρ,Q0,I,h,k⟩=>k [] ρ [] H h (.refl _) (.refl _) .nil
theorem aD {t:UA}(ha:PU X e ta)(hr:PUA X es t)(hs:starEach (e::es) X.env=(false,eval e X.env)::starEach es X.env:=by rfl):PUA X (e::es) (aB ta t):=
 dL0 (b72 ha hr hs) λσ H Q ⟨C,ρ,Q0,I,h,k⟩=>⟨C,ρ,_,I,h,λx ρ1 v H1 q1 f1 s1 r1=>by
  have I1:=(I.frz f1).same s1;refine⟨C,ρ1,_,I1,q1,λxs ρ2 vs H2 q2 f2 s2 r2=> ?_⟩
  exact k _ ρ2 _ H2 q2 (f1.trans f2) (s1.trans s2) (.cons ((r1.rep λa z=>I.avF f1 z).mono<|.sub s2 λa=>f2.av) r2)⟩
def fY (t:UA):UE:=λρ Q=>t ρ λl ρ1=>l.length<=sizeLine/\Q (.pu<|.tup l) ρ1
def kF (t:UA):UE:=λρ Q=>t ρ λl ρ1=>l.length<=sizeLine/\Q (.ow l) ρ1
theorem eI {H:Hp}{p:Addr}(h:H p=none)(o:HO):gT H (upd H p o):=λb u q=>by rw[cG<|cX q h];exact q
theorem iC {K:Frag}{A:AS}{H:Hp}{p:Addr}{l:List D}{vs:List V}(hA: ∀a,A a->H a≠none)(n:H p=none)(r:bK K A H l vs):Rep K A (upd H p<|.tup vs) (.tup l) (.ref p):=by
 simp only[Rep];exact⟨p,vs,rfl,.inl ⟨λz=>hA p z n,.inl iB⟩,r.mono<|.same<|eI n _⟩
theorem gP {K:Frag}{A:AS}{H H0:Hp}{p:Addr}{l:List D}{vs:List V}(s:gT H0 H)(n:H p=none)(r:bK K A H l vs):uE K A H0 (upd H p<|.lst vs) (.ow l) (.ref p):=
 ⟨p,vs,rfl,s.free n,iB,r.mono<|.fresh (eI n _) n⟩
theorem cY {t:UA}{x1}(h:PUA X es t):PU X (.Tuple es x1 pos) (fY t):=
 iU (pe_tup h) λσ H Q ⟨C,ρ,Q0,I,h,k⟩=>⟨C,ρ,_,I,h,λl ρ1 vs H1 q f s r=>by
  obtain⟨hz,q⟩:=q;refine⟨by rw[<-r.length];exact hz,λp n=> ?_⟩
  have I1:=(I.frz f).same s;exact k _ ρ1 _ _ q f (s.trans<|eI n _) (iC (λa z=>I1.avSome z) n r)⟩
theorem eV {t:UA}(h:PUA X es t):PU X (.List es pos) (kF t):=
 iU (pe_lst h) λσ H Q ⟨C,ρ,Q0,I,h,k⟩=>⟨C,ρ,_,I,h,λl ρ1 vs H1 q f s r=>by
  obtain⟨hz,q⟩:=q;refine⟨by rw[<-r.length];exact hz,λp n=> ?_⟩
  exact k _ ρ1 _ _ q f (s.trans<|eI n _) (gP s n r)⟩
abbrev Φ:=List D->(B->Prop)->Prop
def spP (K:Frag)(φ:Φ):Sp:=λvs H Q _=> ∃A ds Q0,(∀a,A a->H a≠none)/\bK K A H ds vs/\φ ds Q0/\ ∀b v H',Q0 b->gT H H'->uE K A H H' b v->Q v H'
def aS (φ:Φ)(t:UA):UE:=λρ Q=>t ρ λds ρ1=>φ ds λb=>Q b ρ1
theorem lCall {φ:Φ}{t:UA}{E:XK}(σ:L2.St)(H:Hp)(Q:VK)(h:lE X.K (aS φ t) σ H Q):cX4 (spP X.K φ) [] E (lA X.K t) σ H Q:=by
 obtain⟨C,ρ,Q0,I,h,k⟩:=h;refine⟨C,ρ,_,I,h,λds ρ1 vs H1 q f s r=> ?_⟩
 have I1:=(I.frz f).same s;show spP X.K φ (vs++[]) H1 Q E;rw[jD];exact⟨Av C ρ1 σ,ds,_,λa z=>I1.avSome z,r,q,λb v H' q' s' r'=>k b ρ1 v H' q' f (s.trans s') (r'.from s)⟩
theorem dC6 {CX:CXT}{k:Nat}{f:Addr}{fd:FuncData}{ps:List Str}{φ:Φ}{E:XK}{x:Str}{p:Pos}{t:UA}(F:sU X.prog X.w X.K X.mg X.base CX k f fd ps (spP X.K φ))(hr:gO k X.A)(hg:Gl X x)(hm:X.mg x=some (.ref f))
  (hk:keepIn X.K (.ref f)=true) (hb:Binds X.K fd ps []) (hx:wK CX X E) (ha:PUA X (e::es) t) (hdb:(x==("__debug__":Str))=false:=by decide) (he:starEach (e::es) X.env=(false,eval e X.env)::starEach es X.env:=by rfl)
  (hpl:(backTo pos<|starEach es X.env).any (·.1)=false:=by rfl):PU X (.Call (.Name x p) (e::es) [] pos) (aS φ t):=
 iU (cJ0 F hr hg hm hk hb .nil hx ha hdb he hpl) lCall
theorem cY8 {CX:CXT}{k:Nat}{f:Addr}{fd:FuncData}{ps:List Str}{φ:Φ}{E:XK}{x:Str}{p:Pos}(F:sU X.prog X.w X.K X.mg X.base CX k f fd ps (spP X.K φ))(hr:gO k X.A)(hg:Gl X x)(hm:X.mg x=some (.ref f))
  (hk:keepIn X.K (.ref f)=true) (hb:Binds X.K fd ps []) (hx:wK CX X E) (hdb:(x==("__debug__":Str))=false:=by decide):PU X (.Call (.Name x p) [] [] pos) (aS φ aL):=
 iU (cX6 F hr hg hm hk hb .nil hx hdb) λσ H Q ⟨C,ρ,Q0,I,h,k⟩=>⟨Av C ρ σ,[],_,λa z=>I.avSome z,.nil,h,λb v H' q' s' r'=>k b ρ v H' q' (.refl _) s' r'⟩
def a75 (X:Cx)(f:Value)(g:List D->(B->Prop)->Prop):Prop:=
 ∀(A:AS) (H:Hp) (ds:List D) (vs:List V) (Q0:B->Prop) (Q:VK),(∀a,A a->H a≠none)->bK X.K A H ds vs->g ds Q0->
  (∀b v' H',Q0 b->gT H H'->uE X.K A H H' b v'->Q v' H')-> ∃r,uB X f r/\r vs H Q
theorem callAny {f:Value}:uB X f (λxs H Q=> ∃r,uB X f r/\r xs H Q):=λpins s σ H xs us Q I rx ⟨r,hr,q⟩=>hr pins s σ H xs us Q I rx q
theorem lCB {f:Value}{g:List D->(B->Prop)->Prop}{t:UA}(hc:a75 X f g)(σ:L2.St)(H:Hp)(Q:VK)(h:lE X.K (aS g t) σ H Q):tCB (λxs H Q=> ∃r,uB X f r/\r xs H Q) (lA X.K t) σ H Q:=by
 obtain⟨C,ρ,Q0,I,h,k⟩:=h;refine⟨C,ρ,_,I,h,λds ρ1 vs H1 q f s r=> ?_⟩
 have I1:=(I.frz f).same s;exact hc (Av C ρ1 σ) H1 ds vs _ Q (λa z=>I1.avSome z) r q λb v H' q' s' r'=>k b ρ1 v H' q' f (s.trans s') (r'.from s)
theorem hZ {id:String}{g:List D->(B->Prop)->Prop}{x:Str}{p:Pos}{t:UA}(hc:a75 X (.builtin id) g)(hg:Gl X x)(hm:X.mg x=none)(hv:bootBuiltins x=some (.builtin id))(ha:PUA X (e::es) t)(hn:x≠"__name__":=by decide)(hdb:(x==("__debug__":Str))=false:=by decide)
  (he:starEach (e::es) X.env=(false,eval e X.env)::starEach es X.env:=by rfl) (hpl:(backTo pos<|starEach es X.env).any (·.1)=false:=by rfl):PU X (.Call (.Name x p) (e::es) [] pos) (aS g t):=
 iU (c13 callAny hg hm hv ha hn hdb he hpl) (lCB hc)
theorem dL {T:String}{g:List D->(B->Prop)->Prop}{x:Str}{p:Pos}{t:UA}(hc:a75 X (.type T) g)(hg:Gl X x)(hm:X.mg x=none)(hv:bootBuiltins x=some (.type T))(ha:PUA X (e::es) t)(hn:x≠"__name__":=by decide)(hdb:(x==("__debug__":Str))=false:=by decide)
  (he:starEach (e::es) X.env=(false,eval e X.env)::starEach es X.env:=by rfl) (hpl:(backTo pos<|starEach es X.env).any (·.1)=false:=by rfl):PU X (.Call (.Name x p) (e::es) [] pos) (aS g t):=
 iU (cP7 callAny hg hm hv ha hn hdb he hpl) (lCB hc)
end
structure UD where
 nx:Ev->Prop
 rt:B->Prop
 bk:Ev->Prop:=λ_=>False
 ct:Ev->Prop:=λ_=>False
abbrev US:=UD->Ev->Prop
structure DOk (K:Frag)(C:C0)(D0:UD)(D:bJ1):Prop where
 nx: ∀ρ σ H,D0.nx ρ->EOk K C ρ σ H->D.nx σ H
 rt: ∀b v H,D0.rt b->gT C.H0 H->uE K C.A0 C.H0 H b v->D.rt v H
 bk: ∀ρ σ H,D0.bk ρ->EOk K C ρ σ H->D.bk σ H
 ct: ∀ρ σ H,D0.ct ρ->EOk K C ρ σ H->D.ct σ H
def lS (K:Frag)(t:US):TS:=λD σ H=> ∃C ρ D0,EOk K C ρ σ H/\t D0 ρ/\DOk K C D0 D
def PUS (X:Cx)(st:Stmt)(t:US):Prop:=PS X st (lS X.K t)
def rX (X:Cx)(sts:List Stmt)(t:US):Prop:=PSs X sts (lS X.K t)
theorem rD {X:Cx}{st:Stmt}{t t':TS}(h:PS X st t)(i: ∀D σ H,t' D σ H->t D σ H):PS X st t':=λpins s σ H D I q=>h pins s σ H D I (i D σ H q)
theorem b97 {X:Cx}{st:List Stmt}{t t':TS}(h:PSs X st t)(i: ∀D σ H,t' D σ H->t D σ H):PSs X st t':=λpins s σ H D I q=>h pins s σ H D I (i D σ H q)
section
variable {X:Cx}{st:Stmt}{sts:List Stmt}{e:Expr}{pos:Pos}{t u:US}{te:UE}{tc:UT}{K:Frag}
def fH:US:=λD ρ=>D.nx ρ
def aW (t u:US):US:=λD ρ=>t {D with nx:=u D} ρ
theorem bS6:rX X [] fH:=b97 dA4 λD σ H ⟨C,ρ,D0,I,h,k⟩=>k.nx ρ σ H h I
theorem bH (h1:PUS X st t)(h2:rX X sts u):rX X (st::sts) (aW t u):=
 b97 (y9 h1 h2) λD σ H ⟨C,ρ,D0,I,h,k⟩=>⟨C,ρ,{D0 with nx:=u D0},I,h,⟨λρ' σ' H' q I'=>⟨C,ρ',D0,I',q,k⟩,k.rt,k.bk,k.ct⟩⟩
theorem bF (h1:PUS X st t):rX X [st] t:=bR6 h1
def d6 (t:UE):US:=λD ρ=>t ρ λb _=>D.rt b
theorem uE.back {A A':AS}{H0 H H':Hp}(s:gT H0 H)(h: ∀a,A' a->A a): ∀{b:B} {v:V},uE K A H H' b v->uE K A' H0 H' b v
 | .pu _,_,r=>Rep.mono (.sub (.refl _) h) r
 | .ow _,_,⟨a,vs,e,n,h1,r⟩=>⟨a,vs,e,s.free n,h1,r.mono λb o nb q=>⟨λz=>nb (z.imp (h b) id),q⟩⟩
 | .bo _,_,r=>r.elim
theorem bS7 (he:PU X e te):PUS X (.Return (some e) pos) (d6 te):=
 rD (cW3 he) λD σ H ⟨C,ρ,D0,I,h,k⟩=>⟨C,ρ,_,I,h,λb ρ' v H' q f s r=>k.rt b v H' q (I.ext.trans s) (r.back I.ext λa z=> .inl z)⟩
def rE (i:Nat):US:=λD ρ=>match ρ[i]? with
 | some (some<|.pu d)=>D.rt (.pu d)
 | some (some<|.ow l)=>D.rt (.ow l)
 | _=>False
theorem kW (i:Nat){x:Str}{p:Pos}(h:PE X (.Name x p) (aG6 i)):PUS X (.Return (some<|.Name x p) pos) (rE i):=
 rD (cW3 h) λD σ H ⟨C,ρ,D0,I,h,k⟩=>by
  unfold rE at h;split at h
  ·rename_i d e
   obtain⟨v,h1,h2⟩:=I.pu i d e;exact⟨v,h1,k.rt _ v H h I.ext<|Rep.mono (.sub (.refl _) λa z=> .inl z) h2⟩
  ·rename_i l e
   obtain⟨a,vs,h1,h2,h3,h4⟩:=I.ow i l e;refine⟨_,h1,k.rt _ _ H h I.ext ⟨a,vs,rfl,h3,h2,h4.mono λb o nb q=>⟨λz=>nb (z.elim .inl λz=> .inr ?_),q⟩⟩⟩
   subst z;exact⟨i,l,e,h1⟩
  ·exact h.elim
def iD (c:UT)(t u:US):US:=λD ρ=>c ρ λb ρ1=>if b=true then t D ρ1 else u D ρ1
theorem bN7 {c:Expr}{a b:List Stmt}(hc:PUT X c tc)(ha:rX X a t)(hb:rX X b u):PUS X (.If c a b pos) (iD tc t u):=
 rD (dK8 hc ha hb) λD σ H ⟨C,ρ,D0,I,h,k⟩=>⟨C,ρ,_,I,h,λc ρ1 H1 q f s=>by
  have I1:=(I.frz f).same s;cases c with
  | true=>
   dsimp only at q⊢;rw[a9 rfl]at q⊢;exact⟨C,ρ1,D0,I1,q,k⟩
  | false=>
   dsimp only at q⊢;rw[a6 bD]at q⊢;exact⟨C,ρ1,D0,I1,q,k⟩⟩
theorem b98:PUS X st (λ_ _=>False):=rD cW4 λD σ H ⟨C,ρ,D0,I,h,k⟩=>h
abbrev UG:=B->Ev->(Ev->Prop)->Prop
def lG (K:Frag)(T:List Nat)(g:UG):TG:=λv σ H Q=> ∃C ρ b H00 Q0,EOk K C ρ σ H00/\gT H00 H/\uE K (Av C ρ σ) H00 H b v/\g b ρ Q0/\ ∀ρ' σ' H',Q0 ρ'->EOk K C ρ' σ' H'->(∀j:Nat,j ∉ T->σ'[j]? =σ[j]?)->Q σ' H'
def PUG (X:Cx)(e:Expr)(T:List Nat)(g:UG):Prop:=PG X e (lG X.K T g)
theorem dL3 {t t':TG}(h:PG X e t)(i: ∀v σ H Q,t' v σ H Q->t v σ H Q):PG X e t':=λpins s σ H v u Q I r q=>h pins s σ H v u Q I r (i v σ H Q q)
def cT (i:Nat):UG:=λb ρ Q=>i<ρ.length/\Q (ρ.set i<|some b)
theorem a06 (i:Nat)(h:PG X e (aR0 i)):PUG X e [i] (cT i):=dL3 h λv σ H Q z=>by
 obtain⟨C,ρ,b,H00,Q0,I,s,r,⟨hi,q⟩,k⟩:=z;exact k _ _ _ q (I.store s r (by rw[<-I.len];exact hi)) λj hj=>get_set_ne λz=>hj (by simp[z])
abbrev UGs:=List D->Ev->(Ev->Prop)->Prop
def lGs (K:Frag)(T:List Nat)(g:UGs):TGs:=λvs σ H Q=> ∃C ρ ds Q0,EOk K C ρ σ H/\bK K (Av C ρ σ) H ds vs/\g ds ρ Q0/\ ∀ρ' σ' H',Q0 ρ'->EOk K C ρ' σ' H'->(∀j:Nat,j ∉ T->σ'[j]? =σ[j]?)->Q σ' H'
def dC7 (X:Cx)(es:List Expr)(T:List Nat)(g:UGs):Prop:=PGs X es (lGs X.K T g)
def lY:UGs:=λds ρ Q=>ds=[]/\Q ρ
theorem Av.store_pu {C:C0}{ρ:Ev}{σ:L2.St}{i:Nat}{d:D}{v:V}{a:Addr}(h:Av C (ρ.set i<|some<|.pu d) (σ.set i<|some v) a):Av C ρ σ a:=by
 rcases h with z| ⟨j,l,h1,h2⟩
 ·exact .inl z
 ·rcases bB h1 with⟨rfl,h3,_⟩| ⟨ne,h3⟩
  ·cases h3
  ·rw[get_set_ne ne]at h2;exact .inr ⟨j,l,h3,h2⟩
theorem cY9 {es:List Expr}{t t':TGs}(h:PGs X es t)(i: ∀v σ H Q,t' v σ H Q->t v σ H Q):PGs X es t':=λpins s σ H v u Q I r q=>h pins s σ H v u Q I r (i v σ H Q q)
theorem kX:dC7 X [] [] lY:=cY9 dA5 λvs σ H Q z=>by
 obtain⟨C,ρ,ds,Q0,I,r,⟨e,q⟩,k⟩:=z;subst e;exact⟨r.unnil,k ρ σ H q I λ_ _=>rfl⟩
def cZ (i:Nat)(u:UGs):UGs:=λds ρ Q=>match ds with
 | d::r=>i<ρ.length/\u r (ρ.set i<|some<|.pu d) Q
 | []=>False
theorem cS {es:List Expr}{u:UGs}{T:List Nat}(i:Nat)(h1:PG X e (aR0 i))(h2:dC7 X es T u)
  (hs:(assignEach (e::es) X.env).map (·.2)=assign e X.env::(assignEach es X.env).map (·.2):=by rfl):dC7 X (e::es) (i::T) (cZ i u):=
 cY9 (cW6 h1 h2 hs) λvs σ H Q z=>by
  obtain⟨C,ρ,ds,Q0,I,r,g,k⟩:=z;cases ds with
  | nil=>exact(show False from g).elim
  | cons d dr=>
   obtain⟨hi,g⟩:i<ρ.length/\u dr (ρ.set i<|some<|.pu d) Q0:=g;obtain⟨v,vr,rfl,rv,rr⟩:=r.uncons;have I1:EOk X.K C (ρ.set i<|some<|.pu d) (σ.set i<|some v) H:=I.store (b:= .pu d) (.refl _) rv (by rw[<-I.len];exact hi)
   exact⟨v,vr,rfl,C,_,dr,Q0,I1,rr.mono<|.sub (.refl _) λa z=>Av.store_pu z,g,λρ' σ' H' q I' hT=>k ρ' σ' H' q I' λj hj=>(hT j λz=>hj (bM _ z)).trans (get_set_ne λz=>hj (by simp[z]))⟩
def lZ (u:UGs):UG:=λb ρ Q=>match b.d with
 | .tup ds=>u ds ρ Q
 | _=>False
theorem qG {es:List Expr}{u:UGs}{T:List Nat}{n k:Nat}(hc:X.calm=true)(h:dC7 X es T u)(hu: ∀ds ρ Q,u ds ρ Q->ds.length=n)
  (hn:(assignEach es X.env).length=n:=by rfl) (hst:(assignEach es X.env).findIdx? (·.1)=none:=by rfl):PUG X (.Tuple es k pos) T (lZ u):=
 dL3 (pg_tup hc h hn hst) λv σ H Q z=>by
  obtain⟨C,ρ,b,H00,Q0,I,s,r,g,k⟩:=z;have R:=r.rep λa z=>I.avSome z
  unfold lZ at g;split at g
  ·rename_i ds e
   rw[e]at R;simp only[Rep]at R;obtain⟨a,vs,rfl,c,rs⟩:=R;exact⟨a,vs,rfl,c.imp cQ id,by rw[<-rs.length];exact hu _ _ _ g,C,ρ,ds,Q0,I.same s,rs,g,k⟩
  ·exact g.elim
def cC7 (t:UE)(g:UG):US:=λD ρ=>t ρ λb ρ1=>g b ρ1 D.nx
theorem b99 {tg:Expr}{g:UG}{T:List Nat}(he:PU X e te)(hg:PUG X tg T g)(hs:swapsWithSole [tg] e pos.line X.env=pure false:=by rfl)(hw:swappedStores [tg] e X.env=pure none:=by rfl)
  (h1:(assignEach [tg] X.env).map (·.2)=[assign tg X.env]:=by rfl):PUS X (.Assign [tg] e pos) (cC7 te g):=
 rD (cW7 he hg hs hw h1) λD σ H ⟨C,ρ,D0,I,h,k⟩=>⟨C,ρ,_,I,h,λb ρ1 v H1 q f s r=>⟨C,ρ1,b,H,D0.nx,I.frz f,s,r,q,λρ' σ' H' q I' _=>k.nx ρ' σ' H' q I'⟩⟩
def cA (i:Nat)(t:UE):US:=λD ρ=>t ρ λb ρ1=>D.nx (ρ1.set i<|some b)
theorem a76 {x:Str}{pos':Pos}(i:Nat)(hN:X.N.Nodup)(hi:X.N[i]? =some x)(hx:Loc X.env.scope x)(he:PU X e te)(hs:swapsWith e (some<|.Name x pos') pos.line X.env=pure false:=by rfl)(hf:X.fn x=true\/X.env.scope.names.lookup x=some .local:=by walk_at "z")
  (hl: ∀pins σ H s,Inv X pins σ H s->i<σ.length:=by intro pins σ H s I;rw[I.len];decide):PUS X (.Assign [.Name x pos'] e pos) (cA i te):=by
 intro pins s σ H D I q;refine ps_set hN hi hx he hs hf pins s σ H D I ?_;obtain⟨C,ρ,D0,J,h,k⟩:=q;exact⟨C,ρ,_,J,h,λb ρ1 v H1 q f s1 r=>k.nx _ _ _ q ((J.frz f).store s1 r<|hl pins σ H s I)⟩
def cC8 (i j:Nat)(ta:UA):US:=λD ρ=>ta ρ λds ρ1=>match ds with
 | [d,d']=>D.nx ((ρ1.set i<|some<|.pu d).set j<|some<|.pu d')
 | _=>False
theorem bA0 {x y:Str}{a b:Expr}{ta:UA}{px py pt:Pos}{kt k2 pt2}(i j:Nat)(hc:X.calm=true)(hN:X.N.Nodup)(hi:X.N[i]? =some x)(hj:X.N[j]? =some y)(hij:i≠j)
  (hx:X.env.scope.names.lookup x=some .local) (hy:X.env.scope.names.lookup y=some .local) (ha:PUA X [a,b] ta)
  (hw:swappedStores [.Tuple [.Name x px,.Name y py] kt pt] (.Tuple [a,b] k2 pt2) X.env=pure (some [x,y]))
  (hs:swapsWithSole [.Tuple [.Name x px,.Name y py] kt pt] (.Tuple [a,b] k2 pt2) pos.line X.env=pure false:=by rfl)
  (hl: ∀pins σ H s,Inv X pins σ H s->i<σ.length/\j<σ.length:=by intro pins σ H s I;rw[I.len];decide) :
  PUS X (.Assign [.Tuple [.Name x px,.Name y py] kt pt] (.Tuple [a,b] k2 pt2) pos) (cC8 i j ta):=by
 intro pins s σ H D I q;refine ps_par hc hN hi hj hij hx hy ha hw hs pins s σ H D I ?_;obtain⟨C,ρ,D0,J,h,k⟩:=q;obtain⟨l1,l2⟩:=hl pins σ H s I;refine⟨C,ρ,_,J,h,λds ρ1 vs H1 q f s1 r=> ?_⟩
 split at q
 ·rename_i d d'
  obtain⟨v,vr,rfl,rv,rr⟩:=r.uncons;obtain⟨w,wr,rfl,rw',rr'⟩:=rr.uncons;have e:=rr'.unnil;subst e;have J1:EOk X.K C (ρ1.set i<|some<|.pu d) (σ.set i<|some v) H1:=((J.frz f).same s1).store (b:= .pu d) (.refl _) rv l1
  have J2:EOk X.K C ((ρ1.set i<|some<|.pu d).set j<|some<|.pu d') ((σ.set i<|some v).set j<|some w) H1:=J1.store (b:= .pu d') (.refl _) (Rep.mono (.sub (.refl _) λa z=>Av.store_pu z) rw') (by rw[dS];exact l2)
  exact⟨v,w,rfl,k.nx _ _ _ q J2⟩
 ·exact q.elim
def IpU (X:Cx)(op:Operator)(g:D->D->(B->Prop)->Prop):Prop:=
 ∀(A:AS) (H:Hp) (d e:D) (v w:V) (Q0:B->Prop) (Q:VK),(∀a,A a->H a≠none)->Rep X.K A H d v->Rep X.K A H e w->g d e Q0->
  (∀b v' H',Q0 b->gT H H'->uE X.K A H H' b v'->Q v' H')-> ∃r,PIp X op r/\r v w H Q
theorem ipAny {op:Operator}:PIp X op (λx y H Q=> ∃r,PIp X op r/\r x y H Q):=λpins s σ H x y v u Q I rx ry ⟨r,hr,q⟩=>hr pins s σ H x y v u Q I rx ry q
def c19 (i:Nat)(g:D->D->(B->Prop)->Prop)(te:UE):US:=λD ρ=>aR2 ρ i λx ρ0=>te ρ0 λy ρ1=>g x.d y.d λb=>D.nx (ρ1.set i<|some b)
theorem cZ0 {x:Str}{pos':Pos}{op:Operator}{g:D->D->(B->Prop)->Prop}(i:Nat)(hN:X.N.Nodup)(hi:X.N[i]? =some x)(hx:Loc X.env.scope x)(he:PU X e te)(ho:IpU X op g)(hf:X.fn x=true\/X.env.scope.names.lookup x=some .local:=by walk_at "z")
  (hl: ∀pins σ H s,Inv X pins σ H s->i<σ.length:=by intro pins σ H s I;rw[I.len];decide):PUS X (.AugAssign (.Name x pos') op e pos) (c19 i g te):=by
 intro pins s σ H D I q;refine ps_aug hN hi hx he ipAny hf pins s σ H D I ?_;obtain⟨C,ρ,D0,J,h,k⟩:=q;have go: ∀(d:M.D) (ρ0:Ev) (v:V),Frz ρ ρ0->σ[i]? =some (some v)->Rep X.K (Av C ρ0 σ) H d v->(te ρ0 λy ρ1=>g d y.d λb=>D0.nx (ρ1.set i<|some b))->
   tAug i (lE X.K te) (λx y H Q=> ∃r,PIp X op r/\r x y H Q) D σ H:=λd ρ0 v f0 h1 r0 h=>by
  have J0:=J.frz f0;refine⟨v,h1,C,ρ0,_,J0,h,λy ρ1 w H1 q1 f1 s1 r1=> ?_⟩
  have J1:=(J0.frz f1).same s1;refine ho (Av C ρ1 σ) H1 d y.d v w _ _ (λa z=>J1.avSome z) (r0.mono<|.sub s1 λa=>f1.av) (r1.rep λa z=>J0.avF f1 z) q1 λb v' H' q s r=> ?_
  exact k.nx _ _ _ q (J1.store s r<|hl pins σ _ _ I)
 unfold c19 aR2 at h;split at h
 ·rename_i d e
  obtain⟨v,h1,h2⟩:=J.pu i d e;exact go d ρ v (.refl _) h1 h2 h
 ·rename_i l e
  obtain⟨_,_,v,h1,h2⟩:=J.freeze e;exact go (.lst l) _ v (.set e) h1 h2 h
 ·exact h.elim
def aW8 (c:UT)(tb:US):US:=λD ρ=> ∃W:Nat->Ev->Prop,(∃m,W m ρ)/\ ∀m ρ,W m ρ->
 c ρ λb ρ1=>if b=true then tb {D with nx:=λρ'=> ∃m',m'<m/\W m' ρ',ct:=λρ'=> ∃m',m'<m/\W m' ρ',bk:=D.nx} ρ1 else D.nx ρ1
theorem a77 {c:Expr}{body:List Stmt}{tb:US}(hp:PassesOwn (model X.prog X.w) X.A X.env X.xe)(hc:PUT X c tc)(hb:rX X body tb):PUS X (.While c body [] pos) (aW8 tc tb):=
 rD (cW9 hp hc hb) λD σ H ⟨C,ρ,D0,I,⟨W,⟨m0,w0⟩,turn⟩,k⟩=>by
  refine⟨λm σ H=> ∃ρ,EOk X.K C ρ σ H/\W m ρ,⟨m0,ρ,I,w0⟩,?_⟩
  rintro m σ H ⟨ρ,I,w⟩;refine⟨C,ρ,_,I,turn m ρ w,λb ρ1 H1 q f s=> ?_⟩
  have I1:=(I.frz f).same s;cases b with
  | true=>
   dsimp only at q⊢;rw[a9 rfl]at q⊢;refine⟨λσ' H'=> ∃m',m'<m/\ ∃ρ',EOk X.K C ρ' σ' H'/\W m' ρ',λσ' H' z=>z,C,ρ1,_,I1,q,⟨?_,k.rt,k.nx,?_⟩⟩
   ·rintro ρ' σ' H' ⟨m',hm,w'⟩ I';exact⟨m',hm,ρ',I',w'⟩
   ·rintro ρ' σ' H' ⟨m',hm,w'⟩ I';exact⟨m',hm,ρ',I',w'⟩
  | false=>
   dsimp only at q⊢;rw[a6 bD]at q⊢;exact k.nx _ _ _ q I1
end
abbrev UI:=Ev->(Nat->(Nat->D)->Ev->Prop)->Prop
structure c20 (K:Frag)(A:AS)(H:Hp)(J:It)(n:Nat)(it:Nat->D):Prop where
 go: ∀A' H' i,lX A H A' H'->i<n->J.go i H'
 yld: ∀A' H' i x H'',lX A H A' H'->(∀a,A' a->H' a≠none)->i<n->J.yld i H' x H''->gT H' H''/\Rep K A' H'' (it i) x
 stop: ∀A' H',lX A H A' H'->J.stop n H'
def lI (K:Frag)(t:UI):TI:=λσ H R=> ∃C ρ Q0,EOk K C ρ σ H/\t ρ Q0/\
 ∀n it ρ' J H',Q0 n it ρ'->Frz ρ ρ'->gT H H'->c20 K (Av C ρ' σ) H' J n it->R J H'
def PUI (X:Cx)(tg iter:Expr)(t:UI):Prop:=PI X tg iter (lI X.K t)
def kY (ui:UI)(g:UG)(tb:US):US:=λD ρ=>ui ρ λn it ρ1=> ∃Pv:Nat->Ev->Prop,Pv 0 ρ1/\
 (∀i ρ,i<n->Pv i ρ->g (.pu<|it i) ρ λρ2=>tb {D with nx:=Pv (i+1),ct:=Pv (i+1),bk:=D.nx} ρ2)/\ ∀ρ,Pv n ρ->D.nx ρ
noncomputable def C0.rz (C:C0) (ρ:Ev) (σ:L2.St) (H:Hp):C0:=C.raise ρ σ H λ_=>Classical.propDecidable _
section
variable {X:Cx}{e:Expr}{pos:Pos}{te:UE}{K:Frag}{C:C0}{ρ ρ':Ev}{σ σ':L2.St}{H H':Hp}
theorem EOk.rz (I:EOk K C ρ σ H):EOk K (C.rz ρ σ H) ρ σ H/\gT C.H0 (C.rz ρ σ H).H0:=I.raise
theorem dC8 (I':EOk K (C.rz ρ σ H) ρ' σ' H'):lX (Av C ρ σ) H (Av (C.rz ρ σ H) ρ' σ') H':=λb o nb e=>by
 have e0:(C.rz ρ σ H).H0 b=some o:=by
  show @ite _ (Own ρ σ b) (Classical.propDecidable _) none (H b)=some o
  rw[a6 λz=>nb (.inr z)]
  exact e
 refine⟨?_,I'.ext b o e0⟩
 rintro(z| ⟨i,l,h1,h2⟩)
 ·exact nb (.inl z)
 ·obtain⟨a,vs,h3,h4,h5,_⟩:=I'.ow i l h1;rw[h2]at h3;cases h3;rw[e0]at h5;cases h5
theorem aW9 {tg iter:Expr}{body:List Stmt}{ui:UI}{g:UG}{T:List Nat}{tb:US}(hp:PassesOwn (model X.prog X.w) X.A X.env X.xe)(hc:X.calm=true)(hi:PUI X tg iter ui)(hg:PUG X tg T g)(hb:rX X body tb)
  (hs: ∀x,foldedSetIterable iter X.env x=pure x:=by intro _;rfl):PUS X (.For tg iter body [] pos) (kY ui g tb):=
 rD (ps_for hp hc hi hg hb hs) λD σ H ⟨C,ρ,D0,I,h,k⟩=>⟨C,ρ,_,I,h,λn it ρ1 J H1 q f s ok=>by
  obtain⟨Pv,p0,turn,fin⟩:=q;have I1:=(I.frz f).same s;obtain⟨Ir,sub⟩:=I1.rz;refine⟨λi m σ' H'=>m=n-i/\i<=n/\ ∃ρ',EOk X.K (C.rz ρ1 σ H1) ρ' σ' H'/\Pv i ρ',⟨n,rfl,cP _,ρ1,Ir,p0⟩,?_⟩
  rintro i m σ' H' ⟨rfl,hi,ρ',I',p'⟩;have P:=dC8 I';have lo: ∀ρ2 σ2 H2,EOk X.K (C.rz ρ1 σ H1) ρ2 σ2 H2->EOk X.K C ρ2 σ2 H2:=λρ2 σ2 H2 J2=>J2.lower sub rfl I.a0
  by_cases hlt:i<n
  ·refine .inr ⟨ok.go _ _ i P hlt,λσ2 H2=> ∃ρ2,EOk X.K (C.rz ρ1 σ H1) ρ2 σ2 H2/\Pv (i+1) ρ2,λσ2 H2 z=>⟨n-(i+1),aa,rfl,hlt,z⟩,λx H2 y=> ?_⟩
   obtain⟨s2,r2⟩:=ok.yld _ _ i x H2 P (λa z=>I'.avSome z) hlt y
   refine⟨C.rz ρ1 σ H1,ρ',.pu<|it i,H',_,I',s2,r2,turn i ρ' hlt p',λρ2 σ2 H3 q I3 _=>⟨C.rz ρ1 σ H1,ρ2,_,I3,q,⟨?_,?_,?_,?_⟩⟩⟩
   ·exact λρ3 σ3 H4 q I4=>⟨ρ3,I4,q⟩
   ·exact λb v H4 q s4 r4=>k.rt b v H4 q (sub.trans s4) (r4.from sub)
   ·exact λρ3 σ3 H4 q I4=>k.nx ρ3 σ3 H4 q (lo _ _ _ I4)
   ·exact λρ3 σ3 H4 q I4=>⟨ρ3,I4,q⟩
  ·have e:i=n:=aa
   subst e;exact .inl ⟨ok.stop _ _ P,k.nx _ _ _ (fin ρ' p')<|lo _ _ _ I'⟩⟩
noncomputable def nZ:D->Option (List D)
 | .tup l=>some l
 | .lst l=>some l
 | .rol l=>some l
 | _=>none
def iV (t:UE):UI:=λρ Q=>t ρ λb ρ1=>match nZ b.d with
 | some l=>Q l.length (λi=>l.getD i .non) ρ1
 | none=>False
theorem pi_any {l:Expr}{tl:TE}{tg:Expr}(hl:PE X l tl):PI X tg l (λσ H R=>tl σ H λx H1=> ∃a,x= .ref a/\((∃xs,SqL X.K H1 a xs/\R (Itl X.K a) H1)\/ ∃xs,SqT X.K H1 a xs/\R (Itt X.K a) H1)):=by
 intro pins s σ H R I h;refine thn (hl pins s σ H _ I h) λv s1 ⟨x,H1,I1,r1,q1⟩=> ?_
 obtain⟨a,e,q⟩:=q1;subst e;cases r1;rcases q with⟨xs,hq,q⟩| ⟨xs,hq,q⟩
 ·obtain⟨its,rv,p,hz⟩:=I1.list hq;refine aM9 p.isList ?_;refine⟨s1.heap.objs.size,[s1.heap.objs.size],_,_,H1,rfl,I1.kept (t':=s1.toks) λb o e=>aU _ e,cO8 a _,⟨_,bU _ rfl,rfl,rfl⟩,λb hb=> ?_,q⟩
  have e:b=s1.heap.objs.size:=by simpa using hb
  subst e;exact I1.fpOk (aF _) (I1.hok.fresh<|aF _)
 ·obtain⟨its,rv,p,hz⟩:=I1.tuple hq;refine wpAny_pyIter_tuple (show s1.heap.IsTuple a its.toArray from p) ?_
  refine⟨s1.heap.objs.size,[s1.heap.objs.size],_,_,H1,rfl,I1.kept (t':=s1.toks) λb o e=>aU _ e,cB3 a _,⟨_,bU _ rfl,rfl,rfl⟩,λb hb=> ?_,q⟩
  have e:b=s1.heap.objs.size:=by simpa using hb
  subst e;exact I1.fpOk (aF _) (I1.hok.fresh<|aF _)
theorem b20 {tg iter:Expr}{t t':TI}(h:PI X tg iter t)(i: ∀σ H R,t' σ H R->t σ H R):PI X tg iter t':=λpins s σ H R I q=>h pins s σ H R I (i σ H R q)
theorem bN8 {A:AS}{a:Addr}{vs:List V}{l:List D}(c:(¬A a/\Rd H a (.lst vs))\/KL K a vs)(r:bK K A H l vs):c20 K A H (Itl K a) l.length (λi=>l.getD i .non):=by
 have sq: ∀A' H',lX A H A' H'->SqL K H' a vs:=λA' H' P=>by
  rcases c with⟨n,c⟩|c
  ·exact .inl (Rd.pres P n c).2
  ·exact .inr c
 have get: ∀i,i<l.length-> ∃x,vs[i]? =some x/\Rep K A H (l.getD i .non) x:=λi hi=>r.get (by rw[aJ,aO hi];rfl)
 refine⟨λA' H' i P hi=> ?_,λA' H' i x H'' P hA hi y=> ?_,λA' H' P=>⟨vs,sq _ _ P,by rw[r.length];exact aF _⟩⟩
 ·obtain⟨x,e,_⟩:=get i hi;exact⟨vs,x,sq _ _ P,e⟩
 ·obtain⟨x',e,r'⟩:=get i hi;obtain⟨rfl,y⟩:=y;have:=y vs (sq _ _ P);rw[e]at this;cases this;exact⟨.refl _,r'.mono P⟩
theorem cZ1 {A:AS}{a:Addr}{vs:List V}{l:List D}(c:(¬A a/\Rd H a (.tup vs))\/KT K a vs)(r:bK K A H l vs):c20 K A H (Itt K a) l.length (λi=>l.getD i .non):=by
 have sq: ∀A' H',lX A H A' H'->SqT K H' a vs:=λA' H' P=>by
  rcases c with⟨n,c⟩|c
  ·exact .inl (Rd.pres P n c).2
  ·exact .inr c
 have get: ∀i,i<l.length-> ∃x,vs[i]? =some x/\Rep K A H (l.getD i .non) x:=λi hi=>r.get (by rw[aJ,aO hi];rfl)
 refine⟨λA' H' i P hi=> ?_,λA' H' i x H'' P hA hi y=> ?_,λA' H' P=>⟨vs,sq _ _ P,by rw[r.length];exact aF _⟩⟩
 ·obtain⟨x,e,_⟩:=get i hi;exact⟨vs,x,sq _ _ P,e⟩
 ·obtain⟨x',e,r'⟩:=get i hi;obtain⟨rfl,y⟩:=y;have:=y vs (sq _ _ P);rw[e]at this;cases this;exact⟨.refl _,r'.mono P⟩
theorem jJ {tg:Expr}(h:PU X e te):PUI X tg e (iV te):=b20 (pi_any h) λσ H R ⟨C,ρ,Q0,I,h,k⟩=>⟨C,ρ,_,I,h,λb ρ1 v H1 q f s r=>by
 have rr:=r.rep λa z=>I.avF f z
 generalize b.d=d at q rr;cases d with
 | tup l=>
  simp only[Rep]at rr;obtain⟨a,vs,rfl,c,rs⟩:=rr;exact⟨a,rfl,.inr ⟨vs,c.imp cQ id,k _ _ ρ1 _ H1 q f s<|cZ1 c rs⟩⟩
 | lst l=>
  simp only[Rep]at rr;obtain⟨a,vs,rfl,n,c,rs⟩:=rr;exact⟨a,rfl,.inl ⟨vs,.inl<|.inl c,k _ _ ρ1 _ H1 q f s<|bN8 (.inl ⟨n,.inl c⟩) rs⟩⟩
 | rol l=>
  simp only[Rep]at rr;obtain⟨a,vs,rfl,c,rs⟩:=rr;exact⟨a,rfl,.inl ⟨vs,c.imp cQ id,k _ _ ρ1 _ H1 q f s<|bN8 c rs⟩⟩
 | _=>exact(show False from q).elim⟩
theorem bA1 {A:AS}{lo:Int}{n:Nat}:c20 K A H (Itr lo n) n (λi=> .int (lo+i)):=
 ⟨λ_ _ _ _ h=>h,λ_ _ i x H'' _ _ _ ⟨e,y⟩=>by subst e;subst y;exact⟨.refl _,by simp only[Rep]⟩,λ_ _ _=>aF n⟩
def iX (ta:UA):UI:=λρ Q=>ta ρ λds ρ1=>match ds with
 | [.int j]=>(-(2^62)<=j/\j<2^62)/\Q j.toNat (λi=> .int (0+i)) ρ1
 | _=>False
def a78 (ta:UA):UI:=λρ Q=>ta ρ λds ρ1=>match ds with
 | [.int i,.int j]=>(-(2^62)<=i/\i<2^62/\ -(2^62)<=j/\j<2^62)/\Q (j-i).toNat (λk=> .int (i+k)) ρ1
 | _=>False
theorem bL {A:AS}{i:Int}{v:V}(h:Rep K A H (.int i) v):v= .int i:=by simpa only[Rep]using h
theorem eR {tg a:Expr}{ta:UA}{p:Pos}(hg:Gl X "range")(hm:X.mg "range"=none)(ha:PUA X [a] ta)(hs:starEach [a] X.env=[(false,eval a X.env)]:=by rfl):PUI X tg (.Call (.Name "range" p) [a] [] pos) (iX ta):=
 b20 (cO9 hg hm ha hs) λσ H R ⟨C,ρ,Q0,I,h,k⟩=>⟨C,ρ,_,I,h,λds ρ1 vs H1 q f s r=>by
  split at q
  ·rename_i j
   obtain⟨v,vr,rfl,rv,rr⟩:=r.uncons;have:=rr.unnil;subst this;have:=bL rv;subst this;obtain⟨⟨h1,h2⟩,q⟩:=q;exact⟨j,rfl,h1,h2,k _ _ ρ1 _ H1 q f s bA1⟩
  ·exact q.elim⟩
theorem yC {tg a b:Expr}{ta:UA}{p:Pos}(hg:Gl X "range")(hm:X.mg "range"=none)(ha:PUA X [a,b] ta)(hs:starEach [a,b] X.env=[(false,eval a X.env),(false,eval b X.env)]:=by rfl)(hs2:starEach [b] X.env=[(false,eval b X.env)]:=by rfl) :
  PUI X tg (.Call (.Name "range" p) [a,b] [] pos) (a78 ta):=
 b20 (cP0 hg hm ha hs hs2) λσ H R ⟨C,ρ,Q0,I,h,k⟩=>⟨C,ρ,_,I,h,λds ρ1 vs H1 q f s r=>by
  split at q
  ·rename_i i j
   obtain⟨v,vr,rfl,rv,rr⟩:=r.uncons;obtain⟨w,wr,rfl,rw',rr'⟩:=rr.uncons;have:=rr'.unnil;subst this;have:=bL rv;subst this;have:=bL rw';subst this;obtain⟨hb,q⟩:=q;exact⟨i,j,rfl,hb,k _ _ ρ1 _ H1 q f s bA1⟩
  ·exact q.elim⟩
end
section
variable {X:Cx}{a b e o:Expr}{es:List Expr}{pos:Pos}{ta tb te ti:UE}{K:Frag}{C:C0}{ρ ρ':Ev}{σ σ':L2.St}{H H':Hp}{A:AS}
theorem Frz.ow {i:Nat}{l:List D}(f:Frz ρ ρ')(h:ρ'[i]? =some (some<|.ow l)):ρ[i]? =some (some<|.ow l):=by
 rcases f.2 i with q| ⟨l',_,q⟩
 ·exact q▸h
 ·rw[q]at h;cases h
def o7 (ρ:Ev)(i:Nat)(Q:List D->Prop):Prop:=match ρ[i]? with
 | some (some<|.ow l)=>Q l
 | _=>False
theorem iY {i:Nat}{Q:List D->Prop}(h:o7 ρ i Q): ∃l,ρ[i]? =some (some<|.ow l)/\Q l:=by
 unfold o7 at h;split at h
 ·rename_i l e
  exact⟨l,e,h⟩
 ·exact h.elim
def aR5 (i:Nat)(t:UE):US:=λD ρ=>o7 ρ i λ_=>t ρ λb ρ1=>o7 ρ1 i λl=>l.length<sizeLine/\D.nx (ρ1.set i<|some<|.ow<|l++[b.d])
theorem kZ {x:Str}{p apos cpos:Pos}(i:Nat)(hx:PE X (.Name x p) (aG6 i))(he:PU X e te)
  (hbase:attributeBase (.Name x p) "append" X.env (eval (.Name x p) X.env)=eval (.Name x p) X.env:=by rfl)
  (hfew:((backTo cpos<|starEach [e] X.env).all (λx=> !x.1)&&(backToKw cpos<|keywordEach [] X.env).all (λx=>x.1.isSome)
   &&decide ([e].length+([]:List Keyword).length+(if([]:List Keyword).isEmpty then 0 else 1)<30))=true:=by rfl)
  (hline:(apos.endLine==cpos.line)=true:=by rfl) (hs:starEach [e] X.env=(false,eval e X.env)::starEach [] X.env:=by rfl) (hplain:(backTo cpos<|starEach [] X.env).any (·.1)=false:=by rfl)
  (hw:swapsWith (.Call (.Attribute (.Name x p) "append" apos) [e] [] cpos) none pos.line X.env=pure false:=by rfl) :
  PUS X (.Expr (.Call (.Attribute (.Name x p) "append" apos) [e] [] cpos) pos) (aR5 i te):=
 rD (b69 (dK9 PySem.F.plainAttrs_list PySem.F.slot_list_append PySem.F.type_list_append bN5 hx (b72 he bR8 hs) hbase hfew hline hs hplain) hw) λD σ H ⟨C,ρ,D0,I,h,k⟩=>by
  obtain⟨l,hl,h⟩:=iY h;obtain⟨a,vs,h1,h2,h3,h4⟩:=I.ow i l hl;refine⟨.ref a,h1,.inl ⟨rfl,vs,SqL.of h2⟩,C,ρ,_,I,h,λb ρ1 v H1 q f s r=> ?_⟩
  obtain⟨l',hl',hz,q⟩:=iY q;have e:=f.ow hl';rw[hl]at e;cases e;have I1:=(I.frz f).same s;obtain⟨a',vs',g1,g2,g3,g4⟩:=I1.ow i l hl';rw[h1]at g1;cases g1;refine⟨a,vs',v,rfl,rfl,g2,by rw[<-g4.length];exact hz,k.nx _ _ _ q ?_⟩
  exact I1.write hl' h1 (g4.append<|.cons (r.rep λa z=>I.avF f z) .nil)
def b21 (i:Nat)(t ti:UE):US:=λD ρ=>t ρ λb ρ1=>o7 ρ1 i λ_=>ti ρ1 λj ρ2=>o7 ρ2 i λl=>match j.d with
 | .int k=>(match ixN l.length k with
  | some n=>D.nx (ρ2.set i<|some<|.ow<|l.set n b.d)
  | none=>False)
 | _=>False
theorem qH {x:Str}{p tpos:Pos}{ix:Expr}(i:Nat)(hx:PE X (.Name x p) (aG6 i))(he:PU X e te)(hi:PU X ix ti)
  (ha: ∀v,assign (.Subscript (.Name x p) ix tpos) X.env v=(do
   let ov<-holding [v] (eval (.Name x p) X.env)
   let iv<-holding [v,ov] (eval ix X.env)
   standAt tpos
   holding [v,ov,iv] (setItem ov iv v)
   release [v,ov,iv] []):=by intro _;rfl)
  (hs:swapsWithSole [.Subscript (.Name x p) ix tpos] e pos.line X.env=pure false:=by rfl) (hw:swappedStores [.Subscript (.Name x p) ix tpos] e X.env=pure none:=by rfl)
  (h1:(assignEach [.Subscript (.Name x p) ix tpos] X.env).map (·.2)=[assign (.Subscript (.Name x p) ix tpos) X.env]:=by rfl):PUS X (.Assign [.Subscript (.Name x p) ix tpos] e pos) (b21 i te ti):=
 rD (cW7 he (pg_sub hx hi c16 ha) hs hw h1) λD σ H ⟨C,ρ,D0,I,h,k⟩=>⟨C,ρ,_,I,h,λb ρ1 v H1 q f s r=>by
  obtain⟨l,hl,q⟩:=iY q;have I1:=(I.frz f).same s;obtain⟨a,vs,h1,h2,h3,h4⟩:=I1.ow i l hl;refine⟨.ref a,h1,C,ρ1,_,I1,q,λj ρ2 w H2 q2 f2 s2 r2=> ?_⟩
  obtain⟨l',hl',q2⟩:=iY q2;have e:=f2.ow hl';rw[hl]at e;cases e;have I2:=(I1.frz f2).same s2;obtain⟨a',vs',g1,g2,g3,g4⟩:=I2.ow i l hl';rw[h1]at g1;cases g1;have rj:=r2.rep λa z=>I1.avF f2 z
  generalize j.d=dj at q2 rj;split at q2
  ·rename_i kk
   have:=bL rj;subst this;split at q2
   ·rename_i n hn
    refine⟨a,vs',kk,n,rfl,rfl,g2,by rw[<-g4.length];exact hn,k.nx _ _ _ q2 ?_⟩
    exact I2.write hl' h1 (g4.set n<|(r.rep λa z=>I.avF f z).mono<|.sub s2 λa=>f2.av)
   ·exact q2.elim
  ·exact q2.elim⟩
def gIx (d i:D)(Q:D->Prop):Prop:=match nZ d,i with
 | some l,.int k=>(match atI l k with
  | some x=>Q x
  | none=>False)
 | _,_=>False
def uIx (t:UV)(ti:UE):UE:=λρ Q=>t ρ λd ρ1=>ti ρ1 λi ρ2=>gIx d i.d λx=>Q (.pu x) ρ2
theorem bK.atI {l:List D}{vs:List V}{k:Int}{x:D}(r:bK K A H l vs)(h:atI l k=some x): ∃v,L2.atI vs k=some v/\Rep K A H x v:=by
 unfold L2.atI at h⊢;cases e:ixN l.length k with
 | none=>rw[e]at h;cases h
 | some j=>
  rw[e]at h;rw[<-r.length,e];exact r.get h
theorem cC5.mono {A':AS}(s:gT H H')(h: ∀a,A' a->A a): ∀{d:D} {v:V},cC5 K A H d v->cC5 K A' H' d v
 | .non,_,r=>Rep.mono (.sub s h) r
 | .bl _,_,r=>Rep.mono (.sub s h) r
 | .int _,_,r=>Rep.mono (.sub s h) r
 | .str _,_,r=>Rep.mono (.sub s h) r
 | .ty _,_,r=>Rep.mono (.sub s h) r
 | .tup _,_,⟨a,vs,e,c,r⟩=>⟨a,vs,e,c.imp (λc=>c.imp (s _ _) λ⟨o,z⟩=>⟨o,s _ _ z⟩) id,r.mono<|.sub s h⟩
 | .lst _,_,⟨a,vs,e,c,r⟩=>⟨a,vs,e,s _ _ c,r.mono<|.sub s h⟩
 | .rol _,_,⟨a,vs,e,c,r⟩=>⟨a,vs,e,s.seq c,r.mono<|.sub s h⟩
 | .obj _ _ _,_,r=>Rep.mono (.sub s h) r
 | .adr _,_,r=>Rep.mono (.sub s h) r
 | .xob _ _ _ _,_,r=>Rep.mono (.sub s h) r
theorem cC5.seq {d:D}{v:V}{l:List D}(r:cC5 K A H d v)(h:nZ d=some l): ∃a vs,v= .ref a/\(SqL K H a vs\/SqT K H a vs)/\bK K A H l vs:=by
 cases d with
 | tup l'=>cases h;obtain⟨a,vs,e,c,r⟩:=r;exact⟨a,vs,e,.inr c,r⟩
 | lst l'=>cases h;obtain⟨a,vs,e,c,r⟩:=r;exact⟨a,vs,e,.inl<|SqL.of c,r⟩
 | rol l'=>cases h;obtain⟨a,vs,e,c,r⟩:=r;exact⟨a,vs,e,.inl c,r⟩
 | _=>cases h
theorem dC9 {d i:D}{Q:D->Prop}(h:gIx d i Q): ∃l k x,nZ d=some l/\i= .int k/\atI l k=some x/\Q x:=by
 unfold gIx at h;split at h
 ·rename_i l k e
  split at h
  ·rename_i x ex
   exact⟨l,k,x,e,rfl,ex,h⟩
  ·exact h.elim
 ·exact h.elim
theorem a79 {t:UV}(ha:PUV X a t)(hb:PU X b ti)(hs:bR9 b):PU X (.Subscript a b pos) (uIx t ti):=
 iU (pe_ix ix_seq ha hb hs) λσ H Q ⟨C,ρ,Q0,I,h,k⟩=>⟨C,ρ,_,I,h,λd ρ1 v H1 q f s r=>by
  have I1:=(I.frz f).same s;refine⟨C,ρ1,_,I1,q,λi ρ2 w H2 q2 f2 s2 r2=> ?_⟩
  obtain⟨l,kk,x,e1,e2,e3,q2⟩:=dC9 q2;have ri:=r2.rep λa z=>I1.avF f2 z
  rw[e2]at ri;have:=bL ri;subst this;obtain⟨a,vs,rfl,c,rs⟩:=(r.mono (A':=Av C ρ2 σ) s2 λa=>f2.av).seq e1
  obtain⟨u,e4,r4⟩:=rs.atI e3;have fin:=k (.pu x) ρ2 u H2 q2 (f.trans f2) (s.trans s2) r4;rcases c with c|c
  ·exact .inl ⟨a,vs,kk,u,rfl,rfl,c,e4,fin⟩
  ·exact .inr (.inl ⟨a,vs,kk,u,rfl,rfl,c,e4,fin⟩)⟩
abbrev UO:=Ev->(Option Int->Ev->Prop)->Prop
def lO (K:Frag)(t:UO):TO:=λσ H Q=> ∃C ρ Q0,EOk K C ρ σ H/\t ρ Q0/\ ∀i ρ' H',Q0 i ρ'->Frz ρ ρ'->gT H H'->Q i H'
def PUO (X:Cx)(e:Option Expr)(t:UO):Prop:=PO X e (lO X.K t)
theorem dL4 {e:Option Expr}{t t':TO}(h:PO X e t)(i: ∀σ H Q,t' σ H Q->t σ H Q):PO X e t':=λpins s σ H Q I q=>h pins s σ H Q I (i σ H Q q)
def mI:UO:=λρ Q=>Q none ρ
def o8 (t:UE):UO:=λρ Q=>t ρ λb ρ1=>match b.d with
 | .int i=>Q (some i) ρ1
 | _=>False
theorem mC:PUO X none mI:=dL4 dB8 λσ H Q ⟨C,ρ,Q0,I,h,k⟩=>k _ _ _ h (.refl _) (.refl _)
theorem gM (h:PU X e te):PUO X (some e) (o8 te):=dL4 (dB9 h) λσ H Q ⟨C,ρ,Q0,I,h,k⟩=>⟨C,ρ,_,I,h,λb ρ1 v H1 q f s r=>by
 have r':=r.rep λa z=>I.avF f z
 generalize b.d=d at q r';split at q
 ·exact⟨_,bL r',k _ _ _ q f s⟩
 ·exact q.elim⟩
noncomputable def cutD (l:List D)(lo hi:Option Int):List D:=(l.drop<|HT.sIx l.length 0 lo).take (HT.sIx l.length l.length hi-HT.sIx l.length 0 lo)
theorem bK.cut {l:List D}{vs:List V}(r:bK K A H l vs)(lo hi:Option Int):bK K A H (cutD l lo hi) (c15 vs lo hi):=by
 unfold cutD c15;rw[r.length];exact(r.drop _).take _
def gSl (d:D)(lo hi:Option Int)(Q:B->Prop):Prop:=match d with
 | .tup l=> ¬(HT.sIx l.length 0 lo=0/\HT.sIx l.length l.length hi=l.length)/\Q (.pu<|.tup<|cutD l lo hi)
 | .lst l=>Q (.ow<|cutD l lo hi)
 | .rol l=>Q (.ow<|cutD l lo hi)
 | _=>False
def uSl (t:UV)(tl th:UO):UE:=λρ Q=>t ρ λd ρ1=>tl ρ1 λlo ρ2=>th ρ2 λhi ρ3=>gSl d lo hi λb=>Q b ρ3
theorem uF {t:UV}{tl th:UO}{lo hi:Option Expr}{p2:Pos}(he:PUV X e t)(hl:PUO X lo tl)(hu:PUO X hi th):PU X (.Subscript e (.Slice lo hi none p2) pos) (uSl t tl th):=
 iU (c14 (cJ3.or cY0) he hl hu) λσ H Q ⟨C,ρ,Q0,I,h,k⟩=>⟨C,ρ,_,I,h,λd ρ1 v H1 q f s r=>by
  have I1:=(I.frz f).same s;refine⟨C,ρ1,_,I1,q,λl2 ρ2 H2 q2 f2 s2=> ?_⟩
  have I2:=(I1.frz f2).same s2;refine⟨C,ρ2,_,I2,q2,λh3 ρ3 H3 q3 f3 s3=> ?_⟩
  have I3:=(I2.frz f3).same s3;have s13:=s2.trans s3;have sAll:=s.trans s13;have fAll:=f.trans (f2.trans f3);have r':=r.mono (A':=Av C ρ3 σ) s13 λa z=>f2.av (f3.av z)
  cases d with
  | tup l=>
   obtain⟨hw,q3⟩:=q3;obtain⟨a,vs,rfl,c,rs⟩:=r';exact .inr ⟨a,vs,rfl,c,by rw[<-rs.length];exact hw,λp n=>k _ ρ3 _ _ q3 fAll (sAll.trans<|eI n _) (iC (λa z=>I3.avSome z) n<|rs.cut l2 h3)⟩
  | lst l=>
   obtain⟨a,vs,rfl,c,rs⟩:=r';exact .inl ⟨a,vs,rfl,SqL.of c,λp n=>k _ ρ3 _ _ q3 fAll (sAll.trans<|eI n _) (gP sAll n<|rs.cut l2 h3)⟩
  | rol l=>
   obtain⟨a,vs,rfl,c,rs⟩:=r';exact .inl ⟨a,vs,rfl,c,λp n=>k _ ρ3 _ _ q3 fAll (sAll.trans<|eI n _) (gP sAll n<|rs.cut l2 h3)⟩
  | _=>exact(show False from q3).elim⟩
def Sm (i:Int):Prop:=i.natAbs<2^9000
theorem Sm.log {i:Int}(h:Sm i):i.natAbs.log2<9000:=by
 by_cases z:i.natAbs=0
 ·rw[z];decide
 ·exact(Nat.log2_lt z).mpr h
def iZ (d e:D)(Q:B->Prop):Prop:=match d,e with
 | .int i,.int j=>Q (.pu<|.int<|i+j)
 | .lst l,.lst m=>l.length+m.length<=sizeLine/\Q (.ow<|l++m)
 | .tup l,.tup m=>l.length+m.length<=sizeLine/\Q (.pu<|.tup<|l++m)
 | _,_=>False
theorem cZ2:OpR X (binaryOp .Add) (λx y H Q=> ∃a b ys,x= .ref a/\y= .ref b/\SqT X.K H a []/\SqT X.K H b ys/\Q (.ref b) H):=by
 intro pins s σ H x y v u Q I rx ry h;obtain⟨a,b,ys,rfl,rfl,ha,hb,q⟩:=h;cases rx;cases ry;obtain⟨its,r1,p1,_⟩:=I.tuple ha;obtain⟨its2,r2,p2,_⟩:=I.tuple hb;have e:its=[]:=by
  have:=r1.length;exact tM.mp this.symm
 subst e;obtain⟨⟨cls,dd,data,sl⟩,ho,hc,n,hd⟩:=id p1;obtain⟨⟨cls2,dd2,data2,sl2⟩,ho2,hc2,n2,hd2⟩:=id p2;simp only at hc hd hc2 hd2;subst hc hd hc2 hd2;exact concat_meets ⟨_,ho,rfl⟩ ⟨_,ho2,rfl⟩ aN3 seq_tuple_add aL3 aK7 (aK2 _ _) (tuple_addW0 a b _ its2.toArray n n2 dd dd2 sl sl2 rfl) ⟨ho,ho2,⟨.ref b,H,I,rfl,q⟩⟩
theorem aR6 {i:Int}:uE K A H H' (.pu<|.int i) (.int i):=by
 show Rep K A H' (.int i) (.int i)
 simp only[Rep]
theorem dQ:OpU X (binaryOp .Add) iZ:=by
 intro A H d e v w Q0 Q hA r1 r2 g k;unfold iZ at g;split at g
 ·rename_i i j
  exact⟨_,op_add,i,j,bL r1,bL r2,k _ _ H g (.refl _) aR6⟩
 ·rename_i l m
  simp only[Rep]at r1 r2;obtain⟨a,vs,rfl,n1,c1,rs1⟩:=r1;obtain⟨b,ws,rfl,n2,c2,rs2⟩:=r2;exact⟨_,op_cat,a,b,vs,ws,rfl,rfl,c1,c2,by rw[<-rs1.length,<-rs2.length];exact g.1,λp n=>k _ _ _ g.2 (eI n _) (gP (.refl _) n<|rs1.append rs2)⟩
 ·rename_i l m
  simp only[Rep]at r1 r2;obtain⟨a,vs,rfl,c1,rs1⟩:=r1;obtain⟨b,ws,rfl,c2,rs2⟩:=r2;obtain⟨hz,g⟩:=g
  by_cases hn:l=[]
  ·subst hn;have e1:vs=[]:=rs1.unnil;subst e1;refine⟨_,cZ2,a,b,ws,rfl,rfl,c1.imp cQ id,c2.imp cQ id,k _ _ H g (.refl _) ?_⟩;show Rep X.K A H (.tup m) (.ref b);simp only[Rep];exact⟨b,ws,rfl,c2,rs2⟩
  refine⟨_,dC0,a,b,vs,ws,rfl,rfl,c1.imp cQ id,c2.imp cQ id,λz=>hn ?_,by rw[<-rs1.length,<-rs2.length];exact hz,λz=> ?_,λz p n=> ?_⟩
  ·have:=rs1.length;rw[z]at this;exact tM.mp this
  ·have e2:=rs2.length;rw[z]at e2;have e3:m=[]:=tM.mp e2;subst e3;rw[jD]at g;refine k _ _ H g (.refl _) ?_;show Rep X.K A H (.tup l) (.ref a);simp only[Rep];exact⟨a,vs,rfl,c1,rs1⟩
  ·exact k _ _ _ g (eI n _) (iC hA n<|rs1.append rs2)
 ·exact g.elim
def gI2 (f:Int->Int->(B->Prop)->Prop)(d e:D)(Q:B->Prop):Prop:=match d,e with
 | .int i,.int j=>f i j Q
 | _,_=>False
theorem sV {f:Int->Int->(B->Prop)->Prop}{d e:D}{Q:B->Prop}(h:gI2 f d e Q): ∃i j,d= .int i/\e= .int j/\f i j Q:=by
 unfold gI2 at h;split at h
 ·exact⟨_,_,rfl,rfl,h⟩
 ·exact h.elim
def gSub:D->D->(B->Prop)->Prop:=gI2 λi j Q=>Q (.pu<|.int<|i-j)
theorem cD:OpU X (binaryOp .Sub) gSub:=by
 intro A H d e v w Q0 Q hA r1 r2 g k;obtain⟨i,j,rfl,rfl,g⟩:=sV g;exact⟨_,op_sub,i,j,bL r1,bL r2,k _ _ H g (.refl _) aR6⟩
theorem cJ8 {i:Int}(h:Sm i):Builtin.Int.intBits i<=2^20:=aM (PyProof.Rows.intBits_le h) ac
def iR (d e:D)(Q:B->Prop):Prop:=match d,e with
 | .int i,.int j=>(cB5 i j\/(Sm i/\Sm j))/\Q (.pu<|.int<|i*j)
 | .lst l,.int k=>(-(2^63)<=k/\k<2^63/\l.length*k.toNat<=sizeLine)/\Q (.ow (replicate k.toNat l).flatten)
 | _,_=>False
theorem dD0:OpR X (binaryOp .Mult) (rI (λi j=>cB5 i j\/(Sm i/\Sm j)) λi j=> .int (i*j)):=opI λ_ _ _ _ _ _ _ hc q=>mul_int q (hc.elim cB5.ok λh=> .of_bits (cJ8 h.1) (cJ8 h.2))
theorem dF:OpU X (binaryOp .Mult) iR:=by
 intro A H d e v w Q0 Q hA r1 r2 g k;unfold iR at g;split at g
 ·rename_i i j
  exact⟨_,dD0,i,j,bL r1,bL r2,g.1,k _ _ H g.2 (.refl _) aR6⟩
 ·rename_i l kk
  have:=bL r2;subst this;simp only[Rep]at r1;obtain⟨a,vs,rfl,n1,c1,rs1⟩:=r1;obtain⟨⟨h1,h2,h3⟩,g⟩:=g;exact⟨_,op_rep,a,kk,vs,rfl,rfl,c1,h1,h2,by rw[<-rs1.length];exact h3,λp n=>k _ _ _ g (eI n _) (gP (.refl _) n<|rs1.rep _)⟩
 ·exact g.elim
def aN8:D->D->(B->Prop)->Prop:=gI2 λi j Q=>(j≠0/\Sm j)/\Q (.pu<|.int<|i.fdiv j)
def oE:D->D->(B->Prop)->Prop:=gI2 λi j Q=>j≠0/\Q (.pu<|.int<|i.fmod j)
theorem dD1:OpR X (binaryOp .FloorDiv) (rI (λ_ j=>j≠0/\Sm j) λi j=> .int (i.fdiv j)):=opI λ_ _ _ _ _ _ _ hc q=>floordiv_int hc.1 q (.inl<|PyProof.noPylong_of_log2 hc.2.log)
theorem rY:OpU X (binaryOp .FloorDiv) aN8:=by
 intro A H d e v w Q0 Q hA r1 r2 g k;obtain⟨i,j,rfl,rfl,g⟩:=sV g;exact⟨_,dD1,i,j,bL r1,bL r2,g.1,k _ _ H g.2 (.refl _) aR6⟩
theorem i4:OpU X (binaryOp .Mod) oE:=by
 intro A H d e v w Q0 Q hA r1 r2 g k;obtain⟨i,j,rfl,rfl,g⟩:=sV g;exact⟨_,dB0,i,j,bL r1,bL r2,g.1,k _ _ H g.2 (.refl _) aR6⟩
def dD2:D->D->(B->Prop)->Prop:=gI2 λi j Q=>dA9 i j/\Q (.pu<|.int<|i^j.toNat)
theorem cZ3:OpU X (binaryOp .Pow) dD2:=by
 intro A H d e v w Q0 Q hA r1 r2 g k;obtain⟨i,j,rfl,rfl,g⟩:=sV g;exact⟨_,op_pow,i,j,bL r1,bL r2,g.1,k _ _ H g.2 (.refl _) aR6⟩
def vK (p:Int->Int->Bool):D->D->(B->Prop)->Prop:=gI2 λi j Q=>Q (.pu<|.bl<|p i j)
theorem bS8 {op:CmpOp}{p:Int->Int->Bool}(ho:OpR X (compareOp op) (rI0 λi j=> .bl (p i j))):OpU X (compareOp op) (vK p):=by
 intro A H d e v w Q0 Q hA r1 r2 g k;obtain⟨i,j,rfl,rfl,g⟩:=sV g;exact⟨_,ho,i,j,bL r1,bL r2,k _ _ H g (.refl _) oC⟩
theorem cJ9:OpU X (compareOp .Lt) (vK λi j=>decide (i<j)):=bS8 op_lt
theorem dL5:OpU X (compareOp .LtE) (vK λi j=>decide (i<=j)):=bS8 op_le
theorem bN9:OpU X (compareOp .Gt) (vK λi j=>decide (j<i)):=bS8 op_gt
theorem dL6:OpU X (compareOp .GtE) (vK λi j=>decide (j<=i)):=bS8 op_ge
def kG (neg:Bool)(d e:D)(Q:B->Prop):Prop:=match d,e with
 | .int i,.int j=>Q (.pu<|.bl<|neg ^^ decide (i=j))
 | .bl i,.bl j=>Q (.pu<|.bl<|neg ^^ decide (i=j))
 | .str i,.str j=>Q (.pu<|.bl<|neg ^^ decide (i=j))
 | _,_=>False
theorem aE8 {b:Bool}{v:V}(h:Rep K A H (.bl b) v):v= .bl b:=by simpa only[Rep]using h
theorem aR7 {b:Str}{v:V}(h:Rep K A H (.str b) v):v= .str b:=by simpa only[Rep]using h
theorem jW:OpU X (compareOp .Eq) (kG false):=by
 intro A H d e v w Q0 Q hA r1 r2 g k;unfold kG at g;split at g
 ·rw[bL r1,bL r2];exact⟨_,cX0,rfl,k _ _ H g (.refl _) (by rw[b70,kC,pL];exact oC)⟩
 ·rw[aE8 r1,aE8 r2];exact⟨_,cX0,rfl,k _ _ H g (.refl _) (by rw[bR7,kC,pL];exact oC)⟩
 ·rw[aR7 r1,aR7 r2];exact⟨_,cX0,rfl,k _ _ H g (.refl _) (by rw[b71,kC,pL];exact oC)⟩
 ·exact g.elim
theorem cK0:OpU X (compareOp .NotEq) (kG true):=by
 intro A H d e v w Q0 Q hA r1 r2 g k;unfold kG at g;split at g
 ·rw[bL r1,bL r2];exact⟨_,cX1,rfl,k _ _ H g (.refl _) (by rw[b70,nI,pL];exact oC)⟩
 ·rw[aE8 r1,aE8 r2];exact⟨_,cX1,rfl,k _ _ H g (.refl _) (by rw[bR7,nI,pL];exact oC)⟩
 ·rw[aR7 r1,aR7 r2];exact⟨_,cX1,rfl,k _ _ H g (.refl _) (by rw[b71,nI,pL];exact oC)⟩
 ·exact g.elim
end
section
variable {X:Cx}{a b e o:Expr}{es:List Expr}{pos:Pos}{ta tb te ti:UE}{K:Frag}{C:C0}{ρ ρ':Ev}{σ σ':L2.St}{H H':Hp}{A:AS}
def rF (t:UE):UE:=λρ Q=>t ρ λb ρ1=>match b.d with
 | .int i=>Q (.pu<|.int<|-i) ρ1
 | _=>False
theorem jQ (h:PU X a ta):PU X (.UnaryOp .USub a pos) (rF ta):=
 iU (pe_un un_neg h) λσ H Q ⟨C,ρ,Q0,I,h,k⟩=>⟨C,ρ,_,I,h,λb ρ1 v H1 q f s r=>by
  have r':=r.rep λa z=>I.avF f z
  generalize b.d=d at q r';split at q
  ·exact⟨_,bL r',k _ _ _ _ q f s aR6⟩
  ·exact q.elim⟩
theorem cC9:IpU X .Add (gI2 λi j Q=>Q (.pu<|.int<|i+j)):=by
 intro A H d e v w Q0 Q hA r1 r2 g k;obtain⟨i,j,rfl,rfl,g⟩:=sV g;exact⟨_,ip_add,i,j,bL r1,bL r2,k _ _ H g (.refl _) aR6⟩
theorem iu_sub:IpU X .Sub (gI2 λi j Q=>Q (.pu<|.int<|i-j)):=by
 intro A H d e v w Q0 Q hA r1 r2 g k;obtain⟨i,j,rfl,rfl,g⟩:=sV g;exact⟨_,cW8,i,j,bL r1,bL r2,k _ _ H g (.refl _) aR6⟩
def g1 (f:D->(B->Prop)->Prop)(ds:List D)(Q:B->Prop):Prop:=match ds with
 | [d]=>f d Q
 | _=>False
def g2 (f:D->D->(B->Prop)->Prop)(ds:List D)(Q:B->Prop):Prop:=match ds with
 | [d,e]=>f d e Q
 | _=>False
theorem aX0 {f:D->(B->Prop)->Prop}{ds:List D}{Q:B->Prop}{vs:List V}(h:g1 f ds Q)(r:bK K A H ds vs): ∃d v,ds=[d]/\vs=[v]/\Rep K A H d v/\f d Q:=by
 unfold g1 at h;split at h
 ·obtain⟨v,vr,rfl,rv,rr⟩:=r.uncons;have:=rr.unnil;subst this;exact⟨_,v,rfl,rfl,rv,h⟩
 ·exact h.elim
theorem cZ4 {f:D->D->(B->Prop)->Prop}{ds:List D}{Q:B->Prop}{vs:List V}(h:g2 f ds Q)(r:bK K A H ds vs): ∃d e v w,ds=[d,e]/\vs=[v,w]/\Rep K A H d v/\Rep K A H e w/\f d e Q:=by
 unfold g2 at h;split at h
 ·obtain⟨v,vr,rfl,rv,rr⟩:=r.uncons;obtain⟨w,wr,rfl,rw',rr'⟩:=rr.uncons;have:=rr'.unnil;subst this;exact⟨_,_,v,w,rfl,rfl,rv,rw',h⟩
 ·exact h.elim
def dD3 (f:Int->(B->Prop)->Prop)(d:D)(Q:B->Prop):Prop:=match d with
 | .int i=>f i Q
 | _=>False
theorem cZ5 {f:Int->(B->Prop)->Prop}{d:D}{Q:B->Prop}(h:dD3 f d Q): ∃i,d= .int i/\f i Q:=by
 unfold dD3 at h;split at h
 ·exact⟨_,rfl,h⟩
 ·exact h.elim
def bS9:List D->(B->Prop)->Prop:=g1 (dD3 λi Q=>Q (.pu<|.int<|if i<0 then -i else i))
theorem aX1:a75 X (.builtin "abs") bS9:=by
 intro A H ds vs Q0 Q hA r g k;obtain⟨d,v,rfl,rfl,rv,g⟩:=aX0 g r;obtain⟨i,rfl,g⟩:=cZ5 g;exact⟨_,cX2,i,by rw[bL rv],k _ _ H g (.refl _) aR6⟩
def gMax:List D->(B->Prop)->Prop:=g2 (gI2 λi j Q=>Q (.pu<|.int<|if j>i then j else i))
theorem cu_max (hc:X.calm=true):a75 X (.builtin "max") gMax:=by
 intro A H ds vs Q0 Q hA r g k;obtain⟨d,e,v,w,rfl,rfl,rv,rw',g⟩:=cZ4 g r;obtain⟨i,j,rfl,rfl,g⟩:=sV g;exact⟨_,cP2 hc,i,j,by rw[bL rv,bL rw'],k _ _ H g (.refl _) aR6⟩
def gMin:List D->(B->Prop)->Prop:=g2 (gI2 λi j Q=>Q (.pu<|.int<|if j<i then j else i))
theorem cu_min (hc:X.calm=true):a75 X (.builtin "min") gMin:=by
 intro A H ds vs Q0 Q hA r g k;obtain⟨d,e,v,w,rfl,rfl,rv,rw',g⟩:=cZ4 g r;obtain⟨i,j,rfl,rfl,g⟩:=sV g;exact⟨_,cP3 hc,i,j,by rw[bL rv,bL rw'],k _ _ H g (.refl _) aR6⟩
noncomputable def dW:List D->(B->Prop)->Prop:=g1 λd Q=>match nZ d with
 | some l=>Q (.pu<|.tup l)
 | none=>False
theorem gB:a75 X (.type "tuple") dW:=by
 intro A H ds vs Q0 Q hA r g k;obtain⟨d,v,rfl,rfl,rv,g⟩:=aX0 g r;cases d with
 | tup l=>
  have rv':=rv;simp only[Rep]at rv;obtain⟨a,vs,rfl,c,rs⟩:=rv;exact⟨_,wL,a,vs,rfl,.inr ⟨c.imp cQ id,k _ _ H g (.refl _) rv'⟩⟩
 | lst l=>
  simp only[Rep]at rv;obtain⟨a,vs,rfl,n,c,rs⟩:=rv;exact⟨_,wL,a,vs,rfl,.inl ⟨SqL.of c,λp n=>k _ _ _ g (eI n _) (iC hA n rs)⟩⟩
 | rol l=>
  simp only[Rep]at rv;obtain⟨a,vs,rfl,c,rs⟩:=rv;exact⟨_,wL,a,vs,rfl,.inl ⟨c.imp cQ id,λp n=>k _ _ _ g (eI n _) (iC hA n rs)⟩⟩
 | _=>exact(show False from g).elim
noncomputable def aE9:List D->(B->Prop)->Prop:=g1 λd Q=>match nZ d with
 | some l=>Q (.ow l)
 | none=>False
theorem b75:a75 X (.type "list") aE9:=by
 intro A H ds vs Q0 Q hA r g k;obtain⟨d,v,rfl,rfl,rv,g⟩:=aX0 g r;cases e:nZ d with
 | none=>simp only[e]at g
 | some l=>
  simp only[e]at g;obtain⟨a,vs,rfl,c,rs⟩:=rv.one.seq e;exact⟨_,bS4,a,vs,rfl,c,λp n=>k _ _ _ g (eI n _) (gP (.refl _) n rs)⟩
def l6 (t:UV):UE:=λρ Q=>t ρ λd ρ1=>match nZ d with
 | some l=>Q (.pu<|.int l.length) ρ1
 | none=>False
theorem fF {t:UV}{p:Pos}(ha:PUV X e t)(hg:Gl X "len")(hm:X.mg "len"=none)(hs:starEach [e] X.env=(false,eval e X.env)::starEach [] X.env:=by rfl)
  (hpl:(backTo pos<|starEach [] X.env).any (·.1)=false:=by rfl):PU X (.Call (.Name "len" p) [e] [] pos) (l6 t):=
 iU (c13 bS3 hg hm PySem.boot_len (b72 ha bR8 hs) ac ac hs hpl) λσ H Q ⟨C,ρ,Q0,I,h,k⟩=>⟨C,ρ,_,I,h,λd ρ1 v H1 q f s r=>by
  cases e:nZ d with
  | none=>simp only[e]at q
  | some l=>
   simp only[e]at q;obtain⟨a,vs,rfl,c,rs⟩:=r.seq e;exact⟨a,vs,rfl,c,k _ _ _ _ q f s (by rw[rs.length];exact aR6)⟩⟩
noncomputable def init (N:List Str)(ds:List D):Ev:=ds.map (λd=>some (.pu d))++replicate (N.length-ds.length) none
theorem a80 {N:List Str}{ds:List D}{i:Nat}{z:B}(h:(init N ds)[i]? =some (some z)): ∃d,z= .pu d/\ds[i]? =some d:=by
 unfold init at h
 by_cases hi:i<ds.length
 ·rw[fM<|by simpa using hi,bJ]at h
  cases e:ds[i]? with
  | none=>rw[e]at h;cases h
  | some d=>rw[e]at h;cases h;exact⟨d,rfl,rfl⟩
 ·rw[gD<|by simpa using hi,tL]at h
  split at h<;>cases h
theorem bT0 {N:List Str}{ds:List D}{vs:List V}(hA: ∀a,A a->H a≠none)(r:bK K A H ds vs):EOk K ⟨H,A⟩ (init N ds) (L2.start N vs) H:=by
 have own: ∀a,¬Own (init N ds) (L2.start N vs) a:=λa ⟨i,l,h1,_⟩=>by
  obtain⟨d,e,_⟩:=a80 h1;cases e
 refine⟨?_,λi d h=> ?_,λi l h=> ?_,λi j l l' a h=> ?_,λi l h=> ?_,.refl _,hA⟩
 ·unfold init L2.start;simp[r.length]
 ·obtain⟨d',e,e2⟩:=a80 h;cases e;obtain⟨v,h1,h2⟩:=r.get e2;refine⟨v,?_,h2.mono<|.sub (.refl _) λa z=>z.elim id λz=>absurd z (own a)⟩
  unfold L2.start;have hv:i<vs.length:=(jY.mp h1).1;rw[fM<|by simpa using hv,bJ,h1]
  rfl
 ·obtain⟨d',e,_⟩:=a80 h;cases e
 ·obtain⟨d',e,_⟩:=a80 h;cases e
 ·obtain⟨d',e,_⟩:=a80 h;cases e
theorem bT1 {P:Program}{w:World}{K:Frag}{mg:Str->Option Value}{base:Heap}{x qual:Str}{st:Stmt}{f:Addr}{fd:FuncData}{N ps:List Str}{k:Nat}{φ:Φ}(F:Fun K x qual st f fd)(S:aY N ps (aG st))
  (len: ∀ds Q,φ ds Q->ds.length=ps.length)
  (body: ∀(cdv:Value) (A:Around) (outer:List Env) (s:Shared) (H:Hp) (E:XK),gO k (A.deeper<|envOfC qual (aG st) s.heap.objs.size f cdv)->
   ∃t,rX (uD CX0 P w K mg base N qual (aG st) f cdv A outer s H E).nox (dR st) t/\ ∀ds Q,φ ds Q->t {nx:=λ_=>Q (.pu .non),rt:=Q} (init N ds)) :
  sU P w K mg base CX0 (k+1) f fd ps (spP K φ):=by
 refine F.ok S (λvs H Q E h=> ?_) (λcdv A outer s H vs Q E hr h=> ?_)
 ·obtain⟨A,ds,Q0,_,r,h,_⟩:=h;rw[<-r.length];exact len ds Q0 h
 ·obtain⟨A',ds,Q0,hA,r,h,q⟩:=h;obtain⟨t,ht,hq⟩:=body cdv A outer s H E hr;refine⟨_,ht,⟨H,A'⟩,init N ds,_,bT0 hA r,hq ds Q0 h,⟨λρ σ H' z I=> ?_,λb v H' z s r=>q b v H' z s r,λ_ _ _ z=>z.elim,λ_ _ _ z=>z.elim⟩⟩
  exact q _ _ H' z I.ext (show Rep _ _ _ _ _ by simp only[Rep])
end
structure Fn (P:Program)(w:World)(K:Frag)(mg:Str->Option Value)(base:Heap)(x:Str)(ps:List Str)(k:Nat)(φ:Φ):Prop where
 ex: ∃f fd,sU P w K mg base CX0 k f fd ps (spP K φ)/\Binds K fd ps []/\keepIn K (.ref f)=true/\mg x=some (.ref f)
section
variable {X:Cx}{e:Expr}{es:List Expr}{pos:Pos}
theorem a81 {k k':Nat}{ps:List Str}{φ:Φ}{x:Str}{p:Pos}{t:UA}(F:Fn X.prog X.w X.K X.mg X.base x ps k φ)(hr:gO k' X.A)(hk:k<=k')(hg:Gl X x)(ha:PUA X (e::es) t)(hdb:(x==("__debug__":Str))=false:=by decide)
  (he:starEach (e::es) X.env=(false,eval e X.env)::starEach es X.env:=by rfl) (hpl:(backTo pos<|starEach es X.env).any (·.1)=false:=by rfl):PU X (.Call (.Name x p) (e::es) [] pos) (aS φ t):=by
 obtain⟨f,fd,G,b,kp,m⟩:=F.ex;exact dC6 (E:=E0) G (hr.mono hk) hg m kp b (λ_ _ _ _ _ _ _ h=>h.elim) ha hdb he hpl
theorem cZ6 {k k':Nat}{ps:List Str}{φ:Φ}{x:Str}{p:Pos}(F:Fn X.prog X.w X.K X.mg X.base x ps k φ)(hr:gO k' X.A)(hk:k<=k')(hg:Gl X x)(hdb:(x==("__debug__":Str))=false:=by decide):PU X (.Call (.Name x p) [] [] pos) (aS φ aL):=by
 obtain⟨f,fd,G,b,kp,m⟩:=F.ex;exact cY8 (E:=E0) G (hr.mono hk) hg m kp b (λ_ _ _ _ _ _ _ h=>h.elim) hdb
theorem il {n i:Nat}(hn:X.N.length=n)(h:i<n): ∀pins σ H s,Inv X pins σ H s->i<σ.length:=λ_ _ _ _ I=>by rw[I.len,hn];exact h
theorem il2 {n i j:Nat}(hn:X.N.length=n)(h:i<n)(h':j<n): ∀pins σ H s,Inv X pins σ H s->i<σ.length/\j<σ.length:=λ_ _ _ _ I=>by rw[I.len,hn];exact⟨h,h'⟩
end
theorem Fn.mk' {P:Program}{w:World}{K:Frag}{mg:Str->Option Value}{base:Heap}{x qual:Str}{st:Stmt}{f:Addr}{fd:FuncData}{N ps:List Str}{k:Nat}{φ:Φ}(F:Fun K x qual st f fd)(m:mg x=some (.ref f))(b:Binds K fd ps [])(S:aY N ps (aG st))
  (len: ∀ds Q,φ ds Q->ds.length=ps.length) {t:US}
  (der: ∀(cdv:Value) (A:Around) (outer:List Env) (s:Shared) (H:Hp) (E:XK),gO k (A.deeper<|envOfC qual (aG st) s.heap.objs.size f cdv)->rX (uD CX0 P w K mg base N qual (aG st) f cdv A outer s H E).nox (dR st) t)
  (rd: ∀ds Q,φ ds Q->t {nx:=λ_=>Q (.pu .non),rt:=Q} (init N ds)):Fn P w K mg base x ps (k+1) φ:=
 ⟨f,fd,bT1 F S len λcdv A outer s H E hr=>⟨t,der cdv A outer s H E hr,rd⟩,b,F.kp,m⟩
def bO0:Φ:=λds Q=> ∃ns:List Int,ds=[.rol<|ns.map .int]/\ns.length<=63/\Q (.pu<|.bl true)
theorem bO1 {K:Frag}{A:AS}{H:Hp}: ∀ns:List Int,bK K A H (ns.map .int) (ns.map V.int)
 | []=> .nil
 | n::ns=> .cons (by simp only[Rep]) (bO1 ns)
theorem law_sp {K:Frag}{H:Hp}{a:Addr}{ns:List Int}(hl:ns.length<=63)(hS:SqL K H a (ns.map V.int)):spP K bO0 [.ref a] H (λv _=>v= .bl true) (λ_ _ _=>False):=by
 refine⟨λ_=>False,[.rol<|ns.map .int],λb=>b= .pu (.bl true),λ_ z=>z.elim,.cons ?_ .nil,⟨ns,rfl,hl,rfl⟩,λb v H' q s r=> ?_⟩
 ·simp only[Rep];exact⟨a,_,rfl,hS.imp (λz=>⟨λz=>z,z⟩) id,bO1 ns⟩
 ·subst q;have r':Rep K (λ_=>False) H' (.bl true) v:=r
  exact aE8 r'
theorem walkM {l:PySem.W.OpenLaw}{k:Nat}{x:Str}{q:Program}{loose:List Str}{XP:(Str->Option Value)->Heap->Prop}{YP:World->Heap->Prop}{d:DefRec}{K:Params->Frag}(hn:l.most=some 63)(hdf:d.params.defaults=[])(hr:gO k callerA)
  (hY: ∀(w:World) (h:Heap),YP w h->(K w.params).In h)
  (F: ∀(w:World) (mg:Str->Option Value) (fa:Addr) (h:Heap),(K w.params).In h->h.Ns mainGlobals mg->mg d.name=some (.ref fa)->
   ∃fd:FuncData,(∀(s:Shared) (u:Value),BindsTo s fd ⟨[u],[]⟩ [(x,u)])/\ ∀base:Heap,(K w.params).In base->base.Ns mainGlobals mg->sU l.prog w (K w.params) mg base CX0 k fa fd [x] (spP (K w.params) bO0)) :
  PySem.W.WalkO q loose XP YP l.row.toRowW d [] (λf vs=>PySem.call f vs):=
 L2.walk_of (n:=63) (k:=k) (x:=x) (CX:=λ_=>CX0) (sp:=λw=>spP (K w.params) bO0) hn ac hdf hr hY F (λ_ _ a ns hl _ hS=>law_sp hl hS) λ_ _ _ _ _ z=>z
end M
end
section
namespace L2
open PySem PySem.Spec PyProof.Rows
noncomputable def cB (X:Cx)(N:List Str)(scope:Scope)(cl:List (Str×Addr))(C:Addr)(s:Shared)(H:Hp)(fp:List Addr)(pins:List (Addr×Obj)):Cx where
 prog:=X.prog
 w:=X.w
 K:=X.K
 mg:=X.mg
 base:=X.base
 A:=X.A
 N:=N
 s₀:=s
 H₀:=H
 env:=compEnvC scope cl C X.env
 outer:=X.stack
 stack:=X.stack
 ex:=fp
 fn:=λx=>scope.names.lookup x==some .cell
 calm:=X.calm
 pn:=X.pn++pins
 xe:=λ_ _=>False
theorem a07 {env:Env}: ∀(names:List (Str×NameKind)),(∀y∈names,y.2= .free-> ∃c,env.cells.lookup y.1=some c)-> ∀cs:List (Str×Addr),(∀x c,cs.lookup x=some c->env.cells.lookup x=some c)->
  ∃cl,(forIn names cs fun(x:Str×NameKind) r=>(do if(x.2==NameKind.free)=true then do let c<-cellOf env x.1;pure (ForInStep.yield ((x.1,c)::r))else pure (ForInStep.yield r)):Sem (List<|Str×Addr))=pure cl/\
   (∀x c,cl.lookup x=some c->env.cells.lookup x=some c)/\(∀x c,cs.lookup x=some c-> ∃c',cl.lookup x=some c')/\ ∀y∈names,y.2= .free-> ∃c,cl.lookup y.1=some c
 | [],_,cs,hcs=>⟨cs,rfl,hcs,λx c h=>⟨c,h⟩,λy hy=>by simp at hy⟩
 | (n,k)::r,h,cs,hcs=>by
  have hr: ∀y∈r,y.2= .free-> ∃c,env.cells.lookup y.1=some c:=λy hy=>h y (bM _ hy)
  by_cases hk:k= .free
  ·subst hk;obtain⟨c,hc⟩:=h (n,.free) bC rfl;have e1:cellOf env n=pure c:=by unfold cellOf;rw[hc]
   have hcs': ∀x c',List.lookup x ((n,c)::cs)=some c'->env.cells.lookup x=some c':=λx c' q=>by
    rw[cU]at q;split at q
    ·rename_i e
     have:x=n:=by simpa using e
     subst this;cases q;exact hc
    ·exact hcs x c' q
   obtain⟨cl,h1,h2,h3,h4⟩:=a07 r hr ((n,c)::cs) hcs';have hn: ∃c',cl.lookup n=some c':=h3 n c (by rw[cU];simp)
   refine⟨cl,?_,h2,λx c' q=> ?_,λy hy hf=> ?_⟩
   ·rw[zQ];show(do let c<-cellOf env n;pure (ForInStep.yield ((n,c)::cs))) >>= _=_;rw[e1];exact h1
   ·by_cases z:x=n
    ·subst z;exact hn
    ·refine h3 x c' ?_
     rw[cU];have:(x==n)=false:=by simpa using z
     rw[this];exact q
   ·rcases aX.mp hy with rfl|hy
    ·exact hn
    ·exact h4 y hy hf
  ·obtain⟨cl,h1,h2,h3,h4⟩:=a07 r hr cs hcs;refine⟨cl,?_,h2,h3,λy hy hf=> ?_⟩
   ·rw[zQ];have:(k==NameKind.free)=false:=by simpa using hk
    show(if(k==NameKind.free)=true then _ else _) >>= _=_
    rw[this];exact h1
   ·rcases aX.mp hy with rfl|hy
    ·exact absurd hf hk
    ·exact h4 y hy hf
structure fV (env:Env)(XN N:List Str)(cap:List (Option Nat))(scope:Scope):Prop where
 kind:scope.kind= .function
 owns: ∀y∈scope.names,y.2= .cell->scope.names.lookup y.1=some .cell
 freeK: ∀y∈scope.names,y.2= .free->scope.names.lookup y.1=some .free
 names: ∀y∈scope.names,y.2= .local->scope.names.lookup y.1=some .local
 frees: ∀y∈scope.names,y.2= .free->env.kindOf y.1=some .cell\/env.kindOf y.1=some .free
 caps: ∀(i j:Nat) (x:Str),N[i]? =some x->cap[i]? =some (some j)->XN[j]? =some x/\(x,NameKind.free)∈scope.names/\scope.names.lookup x=some .free
 len:cap.length=N.length
noncomputable def vR (σ:L2.St)(cap:List (Option Nat))(last:Nat)(D:Addr):L2.St:=(cap.map λc=>c.bind λj=>(σ[j]?).join).set last (some<|.ref D)
theorem a82 {env:Env}{x:Str}{k:NameKind}: ∀{names:List (Str×NameKind)},names.lookup x=some k->
  (names.map fun(n,k)=>if(k==NameKind.free&&env.scope.kind== .function&&env.kindOf n==some .cell)then(n,NameKind.cell)else(n,k)).lookup x=
   some (if(k==NameKind.free&&env.scope.kind== .function&&env.kindOf x==some .cell)then NameKind.cell else k)
 | [],h=>by simp at h
 | (n,k')::r,h=>by
  rw[cN];rw[cU]at h;dsimp only
  by_cases e:(x==n)=true
  ·have e':x=n:=by simpa using e
   subst e';rw[e]at h;cases h;split<;>simp
  ·have e2:(x==n)=false:=by simpa using e
   rw[e2]at h;have ih:=a82 (env:=env) h;split
   ·rw[cU,e2];exact ih
   ·rw[cU,e2];exact ih
theorem oF {env:Env}{x:Str}{k:NameKind}: ∀{names:List (Str×NameKind)},(names.map fun(n,k)=>if(k==NameKind.free&&env.scope.kind== .function&&env.kindOf n==some .cell)then(n,NameKind.cell)else(n,k)).lookup x=some k->
  ∃k',names.lookup x=some k'/\(x,k')∈names/\(k=k'\/k'= .free)
 | [],h=>by simp at h
 | (n,k')::r,h=>by
  rw[cN]at h;dsimp only at h
  by_cases e:(x==n)=true
  ·have e':x=n:=by simpa using e
   subst e';refine⟨k',by rw[cU,e],bC,?_⟩
   split at h
   ·rename_i c
    right
    simp only[dN,fU]at c;exact c.1.1
   ·rw[cU,e]at h;cases h;exact .inl rfl
  ·have e2:(x==n)=false:=by simpa using e
   have h':(r.map fun(n,k)=>if(k==NameKind.free&&env.scope.kind== .function&&env.kindOf n==some .cell)then(n,NameKind.cell)else(n,k)).lookup x=some k:=by
    split at h
    ·rw[cU,e2]at h;exact h
    ·rw[cU,e2]at h;exact h
   obtain⟨k2,h1,h2,h3⟩:=oF h';exact⟨k2,by rw[cU,e2];exact h1,bM _ h2,h3⟩
theorem aX2 {x:Str}{c:Addr}: ∀(names:List (Str×NameKind)) (h:Heap) (acc:List (Str×Addr)),(cellsFrom h.objs.size names acc).lookup x=some c->
  acc.lookup x=some c\/(h.objs.size<=c/\(x,NameKind.cell)∈names/\(pushCells h names).IsCell c none)
 | [],_,_,e=> .inl e
 | (y,k)::r,h,acc,e=>by
  unfold cellsFrom at e;unfold pushCells
  by_cases hk:(k==NameKind.cell)=true
  ·rw[a9 hk]at e⊢;have hk':k= .cell:=by simpa using hk
   have sz:(h.push {cls:= .type "cell",data:= .cell none}).objs.size=h.objs.size+1:=iM ..;rw[<-sz]at e;rcases aX2 r _ _ e with q| ⟨q1,q2,q3⟩
   ·rw[cU]at q;split at q
    ·rename_i e1
     have:x=y:=by simpa using e1
     subst this;cases q;exact .inr ⟨aF _,by rw[hk'];exact bC,⟨_,aN6 _ _ _ _<|bU _ rfl,rfl⟩⟩
    ·exact .inl q
   ·exact .inr ⟨ad,bM _ q2,q3⟩
  ·rw[a6 hk]at e⊢;rcases aX2 r h acc e with q| ⟨q1,q2,q3⟩
   ·exact .inl q
   ·exact .inr ⟨q1,bM _ q2,q3⟩
theorem aX3: ∀(names:List (Str×NameKind)) (n:Nat) (acc:List (Str×Addr)),(∀x c,acc.lookup x=some c->c<n)->(∀x y c,acc.lookup x=some c->acc.lookup y=some c->x=y)->
  ∀x y c,(cellsFrom n names acc).lookup x=some c->(cellsFrom n names acc).lookup y=some c->x=y
 | [],_,_,_,hi=>hi
 | (z,k)::r,n,acc,hl,hi=>by
  unfold cellsFrom
  by_cases hk:(k==NameKind.cell)=true
  ·rw[a9 hk];refine aX3 r (n+1) _ (λx c e=> ?_) (λx y c e1 e2=> ?_)
   ·rw[cU]at e;split at e
    ·cases e;exact pX n
    ·exact kA (hl x c e)
   ·rw[cU]at e1 e2;split at e1
    ·rename_i q1
     cases e1;split at e2
     ·rename_i q2
      exact(by simpa using q1:x=z).trans (by simpa using q2:y=z).symm
     ·exact absurd (hl y _ e2) (d8 _)
    ·split at e2
     ·cases e2;exact absurd (hl x _ e1) (d8 _)
     ·exact hi x y c e1 e2
  ·rw[a6 hk];exact aX3 r n acc hl hi
theorem tH {x:Str}{c:Addr}: ∀(names:List (Str×NameKind)) (n:Nat) (acc:List (Str×Addr)),((x,NameKind.cell)∈names\/ ∀c,acc.lookup x=some c->n<=c)->(cellsFrom n names acc).lookup x=some c->n<=c
 | [],_,_,h,e=>by
  rcases h with h|h
  ·simp at h
  ·exact h c e
 | (z,k)::r,n,acc,h,e=>by
  unfold cellsFrom at e
  by_cases hk:(k==NameKind.cell)=true
  ·rw[a9 hk]at e;have hk':k= .cell:=by simpa using hk
   rcases h with h|h
   ·rcases aX.mp h with h|h
    ·cases h;have:n<=c:=by
      by_cases q: ∃c',(cellsFrom (n+1) r ((x,n)::acc)).lookup x=some c'/\(x,NameKind.cell)∈r
      ·obtain⟨c',e',m⟩:=q;have:=tH (c:=c) r (n+1) _ (.inl m) e
       lia
      ·have nm:(x,NameKind.cell) ∉ r:=λm=>q ⟨c,e,m⟩
       have:=cells_keep r (n+1) ((x,n)::acc) nm;rw[this,cU]at e;simp at e;exact le_of_eq e
     exact this
    ·have:=tH (c:=c) r (n+1) _ (.inl h) e
     lia
   ·by_cases q:(x,NameKind.cell)∈r
    ·have:=tH (c:=c) r (n+1) _ (.inl q) e
     lia
    ·have:=cells_keep r (n+1) ((z,n)::acc) q;rw[this,cU]at e;split at e
     ·cases e;exact aF _
     ·exact h c e
  ·rw[a6 hk]at e;refine tH (c:=c) r n acc (h.imp (λm=> ?_) id) e
   rcases aX.mp m with m|m
   ·cases m;exact absurd ac hk
   ·exact m
where
 cells_keep {x:Str}: ∀(names:List (Str×NameKind)) (n:Nat) (acc:List (Str×Addr)),(x,NameKind.cell) ∉ names->(cellsFrom n names acc).lookup x=acc.lookup x
 | [],_,_,_=>rfl
 | (z,k)::r,n,acc,h=>by
  unfold cellsFrom
  by_cases hk:(k==NameKind.cell)=true
  ·rw[a9 hk];have hk':k= .cell:=by simpa using hk
   rw[cells_keep r (n+1) _ λm=>h (bM _ m),cU]
   split
   ·rename_i e
    have:x=z:=by simpa using e
    subst this;exact absurd (by rw[hk'];exact bC) h
   ·rfl
  ·rw[a6 hk];exact cells_keep r n acc λm=>h (bM _ m)
theorem cells_keep {x:Str}(names:List (Str×NameKind))(n:Nat)(acc:List (Str×Addr))(h:(x,NameKind.cell) ∉ names):(cellsFrom n names acc).lookup x=acc.lookup x:=tH.cells_keep names n acc h
theorem bT2 {M:Model}{A:Around}{E:Value->Shared->Prop}{s:Shared}{scope:Scope}{globals:Addr}{cl:List (Str×Addr)}{qual:Str}{env0:Env}{Q:Env->Shared->Prop}
  (hQ:Q {scope:=scope,locals:=s.heap.objs.size,globals:=globals,cells:=cellsFrom (s.heap.objs.size+1) scope.names cl,qual:=qual,func:=none,code:=env0.code,frame:=env0.frame,builtins:=env0.builtins} {s with heap:=pushCells (s.heap.push {cls:= .type "dict",data:= .dict #[]}) scope.names}) :
  wpAny M A (newFunctionEnv scope globals cl [] qual none .none<|some env0) Q E s:=by
 simp only[newFunctionEnv,Option.isSome_some,gK];refine aA (wpAny_alloc ?_);refine aA (wpAny_layCells _ (λname kind cells=>by cases hkc:kind==NameKind.cell<;>simp[hkc]) _ _ _ _ ?_)
 rw[show({s with heap:=s.heap.push {cls:= .type "dict",data:= .dict #[]}}:Shared).heap.objs.size=s.heap.objs.size+1 from iM ..]
 rw[forIn_nil];exact aA (aH<|aH hQ)
section
variable {X:Cx}{pins:List (Addr×Obj)}{σ:L2.St}{H:Hp}{s:Shared}{N:List Str}{cap:List (Option Nat)}{scope:Scope}
theorem c21 {fp:List Addr}{last:Nat}{D:Addr}{cl0 cl:List (Str×Addr)}{h1:Heap}{m0:Str->Option Value}{tk:Nat}(S:fV X.env X.N N cap scope)(I:Inv X pins σ H s)(hf: ∀b∈fp,aW4 X pins H b)(hfs: ∀b∈fp,b<s.heap.objs.size)
  (hcl: ∀x c,cl0.lookup x=some c->X.env.cells.lookup x=some c) (hcl2: ∀y∈scope.names,y.2= .free-> ∃c,cl0.lookup y.1=some c) (hN: ∀x,N[last]? =some x->scope.names.lookup x=none)
  (hns:h1.Ns s.heap.objs.size m0) (hk: ∀b o,s.heap.get? b=some o->h1.get? b=some o)
  (c1: ∀x c,cl.lookup x=some c->cl0.lookup x=some c\/(s.heap.objs.size<c/\h1.IsCell c none)) (c2: ∀x y c,cl.lookup x=some c->cl.lookup y=some c->x=y)
  (c3: ∀x,(x,NameKind.free)∈scope.names->cl.lookup x=cl0.lookup x) (c4: ∀x,scope.names.lookup x=some .cell-> ∃c,cl.lookup x=some c) (c5: ∀x c,scope.names.lookup x=some .cell->cl.lookup x=some c->s.heap.objs.size<=c) :
  Inv (cB X N scope cl s.heap.objs.size s H fp pins) [] (vR σ cap last D) H {s with heap:=h1,toks:=tk}:=by
 have sz:X.base.objs.size<=s.heap.objs.size:=aM I.ok.bsz I.sz;have kindF: ∀x,(cB X N scope cl s.heap.objs.size s H fp pins).env.kindOf x=some .cell\/(cB X N scope cl s.heap.objs.size s H fp pins).env.kindOf x=some .free->(x,NameKind.free)∈scope.names\/scope.names.lookup x=some .cell:=λx h=>by
  have: ∃k,(k= .cell\/k= .free)/\(relabel scope X.env).names.lookup x=some k:=by
   rcases h with h|h
   ·exact⟨_,.inl rfl,h⟩
   ·exact⟨_,.inr rfl,h⟩
  obtain⟨k,hk,h⟩:=this;obtain⟨k',h1,h2,h3⟩:=oF h;rcases h3 with rfl|rfl
  ·rcases hk with rfl|rfl
   ·exact .inr (S.owns _ h2 rfl)
   ·exact .inl h2
  ·exact .inl h2
 have cne: ∀x c,cl.lookup x=some c-> ∀b∈fp,c≠b:=λx c h b hb=>by
  rcases c1 x c h with q| ⟨q,_⟩
  ·exact(hf b hb).2.2.2.2.1 x c (hcl x c q)
  ·exact λz=>by subst z;exact absurd (Nat.lt_trans q<|hfs c hb) (d8 _)
 refine⟨⟨I.ok.mod,S.kind,I.ok.glob,I.ok.blt,aF _,c2,λx h=> ?_,λx c h e=> ?_,I.ok.hd,I.ok.frames,.inl rfl,λb hb=> ?_,I.bs,sz,λb o e hb=> ?_,λb hb=> ?_,I.stack,I.stkFree⟩,
  rfl,I.bare,Un.kept hk,⟨m0,hns,λi x v e1 e2 e3=> ?_⟩,λx c h=> ?_,I.hok.fresh<|aF _,λx c h=> ?_,λp hp=> ?_,I.hok.kept hk,?_⟩
 ·rcases kindF x h with q|q
  ·obtain⟨c,e⟩:=hcl2 _ q rfl;exact⟨c,(c3 x q).trans e⟩
  ·exact c4 x q
 ·exact c5 x c (by simpa using(show(scope.names.lookup x==some NameKind.cell)=true from h)) e
 ·exact⟨bG<|hfs b hb,λx c h=>cne x c h b hb⟩
 ·rcases(hf b hb).2.2.2.1 with z|z
  ·exact I.ok.noex b o e z
  ·have:=aV e;exact absurd (b6 this<|aM I.ok.bsz z) (d8 _)
 ·intro z;rcases aX.mp (I.stkSub b z)with z|z
  ·exact(hf b hb).2.1 z
  ·exact(hf b hb).2.2.1 z
 ·have e1':N[i]? =some x:=e1;unfold vR at e2
  by_cases hl:last=i
  ·subst hl;have z:=hN x e1';rcases e3 with e3|e3|e3
   ·obtain⟨k',h1,_⟩:=oF (show(relabel scope X.env).names.lookup x=_ from e3)
    rw[z]at h1;cases h1
   ·obtain⟨k',h1,_⟩:=oF (show(relabel scope X.env).names.lookup x=_ from e3)
    rw[z]at h1;cases h1
   ·obtain⟨k',h1,_⟩:=oF (show(relabel scope X.env).names.lookup x=_ from e3)
    rw[z]at h1;cases h1
  ·rw[M.get_set_ne hl,bJ]at e2;cases e4:cap[i]? with
   | none=>rw[e4]at e2;cases e2
   | some c=>
    rw[e4]at e2;cases c with
    | none=>cases e2
    | some j=>
     have e2':(σ[j]?).join=some v:=by simpa using e2
     have e5:σ[j]? =some (some v):=by
      cases q:σ[j]? with
      | none=>rw[q]at e2';cases e2'
      | some w=>rw[q]at e2';cases w with
       | none=>cases e2'
       | some w'=>cases e2';rfl
     obtain⟨a1,a2,a3⟩:=S.caps i j x e1' e4;have kx:=S.frees _ a2 rfl;obtain⟨m,hn,hl'⟩:=I.loc;have vis:Vis X.env.scope x:=by
      rcases kx with kx|kx
      ·exact .inr (.inl kx)
      ·exact .inr (.inr kx)
     obtain⟨u,r,l⟩:=hl' j x v a1 e5 vis;refine⟨u,r,.inr ⟨?_,?_⟩⟩
     ·have q:=a82 (env:=X.env) a3;show(relabel scope X.env).names.lookup x=_\/(relabel scope X.env).names.lookup x=_;unfold relabel;dsimp only;rw[q];split
      ·exact .inl rfl
      ·exact .inr rfl
     ·rcases l with⟨l,_⟩| ⟨_,c,hc,hcell⟩
      ·rcases kx with kx|kx<;>·rw[kx]at l;cases l
      ·obtain⟨c',hc'⟩:=hcl2 _ a2 rfl;have:=hcl x c' hc';rw[hc]at this;cases this;obtain⟨o,ho,hd⟩:=hcell;exact⟨c,(c3 x a2).trans hc',o,hk _ _ ho,hd⟩
 ·rcases c1 x c h with q| ⟨_,q⟩
  ·obtain⟨v,o,ho,hd⟩:=I.cell x c (hcl x c q);exact⟨v,o,hk _ _ ho,hd⟩
  ·exact⟨_,q⟩
 ·rcases c1 x c h with q| ⟨q,_⟩
  ·exact I.freeC x c (hcl x c q)
  ·exact I.hok.fresh (kE q)
 ·have hp':p∈X.pn++pins:=by
   have:p∈(X.pn++pins)++[]:=hp
   simpa using this
  obtain⟨a1,a2,a3,a4,a5⟩:=I.pin p hp';refine⟨hk _ _ a1,a2,bG<|aV a1,λz=> ?_,a5⟩
  rcases aX.mp (I.stkSub p.1 z)with z|z
  ·exact a3 z
  ·exact a4 z
 ·unfold vR;rw[dS,aK];exact S.len
theorem bO2 {fp:List Addr}{cl:List (Str×Addr)}{C:Addr}{σ':L2.St}{H':Hp}{s':Shared}{h2:Heap}{pins':List (Addr×Obj)}(I:Inv X pins σ H s)(hf: ∀b∈fp,aW4 X pins H b)(hC:s.heap.objs.size<=C)
  (I':Inv (cB X N scope cl C s H fp pins) pins' σ' H' s') (hs:SameBut C s'.heap h2):Inv X pins σ H' {s' with heap:=h2}:=by
 have nC: ∀b o,s.heap.get? b=some o->b≠C:=λb o e z=>by
  subst z;exact absurd (b6 (aV e) hC) (d8 _)
 have get: ∀b,b≠C->h2.get? b=s'.heap.get? b:=λb hb=>hs.2 b hb
 have U:=I'.base;have u:Un (frs X.stack) fp H H' s.heap h2:=by
  refine⟨λb o e n h1 hx=> ?_,λb o e n h1 hx=> ?_,U.free,λb o e hx=> ?_,U.tups,U.frzs,U.tbls⟩
  ·rw[get b<|nC b o e];exact U.keep b o e n h1 hx
  ·rw[get b<|nC b o e];exact U.slot b o e n h1 hx
  ·rw[get b<|nC b o e];exact U.there b o e hx
 have fC:H' C=none:=I'.free;have hok:HOk X.prog X.w H' h2:=λa o e=>by
  have na:a≠C:=λz=>by subst z;rw[fC]at e;cases e
  refine(I'.hok a o e).stay (λb u hb q=> ?_) (λ_ q=>q) λ_ _ q=>q
  have nb:b≠C:=by
   rcases hb with rfl|hb
   ·exact na
   ·exact λz=>by subst z;rw[fC]at hb;cases hb
  rw[get b nb];exact q
 obtain⟨hh,gg,dd,tt,oo⟩:=s';have eo:oo=s.os:=I'.os;subst eo;have fin:=I.call (h':=h2) (g':=gg) (d':=dd) (t':=tt) (ch:=fp) u hok I'.bare λb hb=>⟨(hf b hb).2.2.2.1,(hf b hb).2.1,(hf b hb).2.2.2.2.1,(hf b hb).2.2.2.2.2⟩
 exact fin
end
theorem a83 {prog:Program}{w:World}{A:Around}{R:Result->Shared->Prop}{s:Shared}{elt target iter:Expr}{ifs:List Expr}{scope:Scope}{pos:Pos}{it acc:Value}{env:Env}(I:Nat->Shared->Prop)
  (turn: ∀n s,I n s->wpAny (model prog w) A (pyNext it) (λr s₁=>match r with
   | none=>R (.ok .next) s₁
   | some v=>wpAny (model prog w) A (letOwnedTupleGo target it v) (λ_ s₂=>wpAny (model prog w) A (assign target env v) (λ_ s₂=>
     wpAny (model prog w) A (forIn ifs true λc r=>if r=true then do let ok<-isTrue c env (eval c env);pure (ForInStep.yield ok)else pure (ForInStep.yield r)) (λok s₃=>
      if ok=true then wpAny (model prog w) A (eval elt env) (λx s₄=>
       wpAny (model prog w) A (call (.builtin "list.append") [acc,x]) (λ_ s₅=> ∃m,m<n/\I m s₅) (notedBy (model prog w) A env λe s'=>R (.error e) s') s₄) (notedBy (model prog w) A env λe s'=>R (.error e) s') s₃
      else ∃m,m<n/\I m s₃) (notedBy (model prog w) A env λe s'=>R (.error e) s') s₂) (notedBy (model prog w) A env λe s'=>R (.error e) s') s₂) (notedBy (model prog w) A env λe s'=>R (.error e) s') s₁) (notedBy (model prog w) A env λe s'=>R (.error e) s') s)
  (n:Nat) (h:I n s):codeAny (model prog w) A (.compLoop (.ListComp elt [⟨target,iter,ifs,0⟩] scope pos) 0 it acc env) R s:=by
 refine codeAny_loop rfl I (λn s hI=> ?_) n h
 show wpAny _ A ((compTurn (.ListComp elt [⟨target,iter,ifs,0⟩] scope pos) 0 it acc env).onRaise (λx=>do noteFrame x env;theTreesLotGoes x)) _ _ s
 refine wpAny_noted ?_
 rw[compTurn_list];refine aA (nG<|aA<|bI (turn n s hI) (λr s₁ h₁=> ?_) λ_ _ h'=>h')
 cases r with
 | none=>exact aH h₁
 | some v=>
  refine aA (bI h₁ (λ_ s₂ h₂=>aA (bI h₂ (λ_ s₂ h₂=>aA (bI h₂ (λok s₃ h₃=> ?_) λ_ _ h'=>h')) λ_ _ h'=>h')) λ_ _ h'=>h')
  cases ok with
  | false=>exact aH ⟨rfl,h₃⟩
  | true=>
   exact aA (aA<|bI h₃ (λx s₄ h₄=>aA (bI h₄ (λ_ s₅ h₅=>aH (aH ⟨rfl,h₅⟩)) λ_ _ h'=>h')) λ_ _ h'=>h')
def PTs (X:Cx)(ifs:List Expr)(t:TT):Prop:=
 ∀(pins:List (Addr×Obj)) (s:Shared) (σ:L2.St) (H:Hp) (Q:Bool->Hp->Prop),Inv X pins σ H s->t σ H Q->
  wpAny (model X.prog X.w) X.A (forIn ifs true λc r=>if r=true then do let ok<-isTrue c X.env (eval c X.env);pure (ForInStep.yield ok)else pure (ForInStep.yield r)) (TP X pins σ Q) X.xe s
theorem dD4 {X:Cx}:PTs X [] (λ_ H Q=>Q true H):=λpins s σ H Q I h=>wpAny_tests_nil ⟨H,I,h⟩
theorem dD5 {X:Cx}{c:Expr}{t:TT}(h:PT X c t):PTs X [c] t:=λpins s σ H Q I q=>wpAny_tests_one (h pins s σ H Q I q)
def cK1 (cap:List (Option Nat))(last:Nat)(wi:TI)(g:TG)(tt:TT)(te:TE):TE:=λσ H Q=>wi σ H λJ H1=> ∀D,H1 D=none-> ∃W:Nat->Nat->L2.St->Hp->Prop,(∃m,W 0 m (vR σ cap last D)<|upd H1 D<|.lst [])/\ ∀i m σ' H',W i m σ' H'->
 (J.stop i H'/\Q (.ref D) H')\/(J.go i H'/\ ∃Nx:L2.St->Hp->Prop,(∀σ2 H2,Nx σ2 H2-> ∃m',m'<m/\W (i+1) m' σ2 H2)/\ ∀x H2,J.yld i H' x H2->g x σ' H2 λσ3 H3=>tt σ3 H3 λc H4=>
  if c=true then te σ3 H4 λy H5=> ∃ys,H5 D=some (.lst ys)/\ys.length<sizeLine/\Nx σ3 (upd H5 D<|.lst<|ys++[y])else Nx σ3 H4)
theorem bO3 {X:Cx}{RR:Value->Addr->Result->Shared->Prop}{elt iter tg:Expr}{ifs:List Expr}{scope:Scope}{pos:Pos}{N:List Str}{cap:List (Option Nat)}{last:Nat}{wi:TI}{g:TG}{tt:TT}{te:TE}(hc:X.calm=true)(hi:PI X tg iter wi)(S:fV X.env X.N N cap scope)
  (hN: ∀x,N[last]? =some x->scope.names.lookup x=none)
  (hg: ∀cl C s H fp pins,PG (cB X N scope cl C s H fp pins) tg g) (ht: ∀cl C s H fp pins,PTs (cB X N scope cl C s H fp pins) ifs tt) (he: ∀cl C s H fp pins,PE (cB X N scope cl C s H fp pins) elt te)
  {pins:List (Addr×Obj)} {s:Shared} {σ:L2.St} {H:Hp} {Q:VK} {cl:List (Str×Addr)} (I:Inv X pins σ H s) (h:cK1 cap last wi g tt te σ H Q) (hcl: ∀x c,cl.lookup x=some c->X.env.cells.lookup x=some c) (hcl2: ∀y∈scope.names,y.2= .free-> ∃c,cl.lookup y.1=some c)
  (fin: ∀(D:Addr) (fp:List Addr) (H3:Hp) (s3:Shared) (σ':L2.St) (H':Hp) (s':Shared),Inv X pins σ H3 s3->(∀b∈fp,aW4 X pins H3 b)->Inv (cB X N scope (cellsFrom (s3.heap.objs.size+1) scope.names cl) s3.heap.objs.size s3 H3 fp pins) [] σ' H' s'->Q (.ref D) H'->RR (.ref D) s3.heap.objs.size (.ok .next) s') :
  wpAny (model X.prog X.w) X.A (eval iter X.env) (λx s₁=>wpAny (model X.prog X.w) X.A (pyIter x) (λit s₂=>wpAny (model X.prog X.w) X.A (newList []) (λacc s₃=>
   wpAny (model X.prog X.w) X.A (newFunctionEnv scope X.env.globals cl [] X.env.qual none .none<|some X.env) (λcenv s₄=>
    codeAny (model X.prog X.w) X.A (.compStart (.ListComp elt [⟨tg,iter,ifs,0⟩] scope pos) 0 it acc {cenv with scope:=relabel scope X.env}) (RR acc cenv.locals) s₄) X.xe s₃) X.xe s₂) X.xe s₁) X.xe s:=by
 refine thn (hi pins s σ H _ I h) λxv s1 h1=>thn h1 λit s2 h2=> ?_
 obtain⟨ita,fp,tn,J,H2,rfl,I2,T,st2,f2,q⟩:=h2;refine iJ ?_ (by show 0<=sizeLine;decide)
 have fD:H2 s2.heap.objs.size=none:=I2.hok.fresh (aF _);obtain⟨W,⟨m0,w0⟩,turn⟩:=q s2.heap.objs.size fD;have I3:Inv X pins σ (upd H2 s2.heap.objs.size<|.lst []) {s2 with heap:=s2.heap.push {cls:= .type "list",data:= .seq ([]:List Value).toArray}}:=I2.lnew (t':=s2.toks) .nil (cP _);have fpne: ∀b∈fp,b≠s2.heap.objs.size:=λb hb=>by
  obtain⟨o,ho,_⟩:=T.obj 0 _ st2 b hb;exact bG (aV ho)
 have f3: ∀b∈fp,aW4 X pins (upd H2 s2.heap.objs.size<|.lst []) b:=λb hb=>⟨by rw[cG<|fpne b hb];exact(f2 b hb).1,(f2 b hb).2⟩
 have k23: ∀b o,s2.heap.get? b=some o->(s2.heap.push {cls:= .type "list",data:= .seq ([]:List Value).toArray}).get? b=some o:=λb o e=>aU _ e
 have st3:tn 0 (s2.heap.push {cls:= .type "list",data:= .seq ([]:List Value).toArray}):=T.keep 0 _ _ st2 λb hb o e=>k23 b o e
 have fps: ∀b∈fp,b< (s2.heap.push {cls:= .type "list",data:= .seq ([]:List Value).toArray}).objs.size:=λb hb=>by
  obtain⟨o,ho,_⟩:=T.obj 0 _ st3 b hb;exact aV ho
 generalize hS3:({s2 with heap:=s2.heap.push {cls:= .type "list",data:= .seq ([]:List Value).toArray}}:Shared)=s3 at I3;have hh3:s3.heap=s2.heap.push {cls:= .type "list",data:= .seq ([]:List Value).toArray}:=by rw[<-hS3]
 rw[<-hh3]at st3 fps;refine bT2 ?_;have sz3:(s3.heap.push {cls:= .type "dict",data:= .dict #[]}).objs.size=s3.heap.objs.size+1:=iM ..;have hns₁:(pushCells (s3.heap.push {cls:= .type "dict",data:= .dict #[]}) scope.names).Ns s3.heap.objs.size (λ_=>none):=(Heap.Ns.new s3.heap<|.type "dict").keeps (aN6 _ _)
 have k34: ∀b o,s3.heap.get? b=some o->(pushCells (s3.heap.push {cls:= .type "dict",data:= .dict #[]}) scope.names).get? b=some o:=λb o e=>aN6 _ _ _ _ (aU _ e)
 have I4:=c21 (tk:=s3.toks) (last:=last) (D:=s2.heap.objs.size) (cl:=cellsFrom (s3.heap.objs.size+1) scope.names cl) S I3 f3 fps hcl hcl2 hN hns₁ k34
  (λx c e=>by
   rw[<-sz3]at e;rcases aX2 _ _ _ e with q| ⟨q1,_,q3⟩
   ·exact .inl q
   ·exact .inr ⟨ad,q3⟩)
  (aX3 _ _ _ (λx c e=>by
   obtain⟨v,q⟩:=I3.cell x c (hcl x c e);exact kA q.lt) λx y c e1 e2=>I3.ok.inj x y c (hcl x c e1) (hcl y c e2))
  (λx m=>cells_keep _ _ _ λm'=>by
   have h1:=S.owns _ m' rfl;have h2:=S.freeK _ m rfl;rw[h1]at h2;cases h2)
  (λx e=>Option.isSome_iff_exists.mp (aL2 _ _ _<|.inl e))
  (λx c e1 e2=>by
   have:=tH scope.names (s3.heap.objs.size+1) cl (.inl<|pP e1) e2
   lia)
 have st4:tn 0 (pushCells (s3.heap.push {cls:= .type "dict",data:= .dict #[]}) scope.names):=T.keep 0 _ _ st3 λb hb o e=>k34 b o e
 generalize hcl':cellsFrom (s3.heap.objs.size+1) scope.names cl=cl' at I4;have loop:codeAny (model X.prog X.w) X.A (.compLoop (.ListComp elt [⟨tg,iter,ifs,0⟩] scope pos) 0 (.ref ita) (.ref s2.heap.objs.size)<|compEnvC scope cl' s3.heap.objs.size X.env)
   (RR (.ref s2.heap.objs.size) s3.heap.objs.size) {s3 with heap:=pushCells (s3.heap.push {cls:= .type "dict",data:= .dict #[]}) scope.names,toks:=s3.toks}:=by
  have stat: ∀{H':Hp},(∀b∈fp,H' b=none)-> ∀b∈fp,aW4 (cB X N scope cl' s3.heap.objs.size s3 (upd H2 s2.heap.objs.size<|.lst []) fp pins) [] H' b:=λ{H'} hn b hb=>by
   refine⟨hn b hb,bG<|fps b hb,λz=> ?_,.inl hb,λx c e=>(I4.ok.exf b hb).2 x c e,λp hp=> ?_⟩
   ·rcases aX.mp (I3.stkSub b z)with z|z
    ·exact(f3 b hb).2.1 z
    ·exact(f3 b hb).2.2.1 z
   ·have:p∈(X.pn++pins)++[]:=hp;exact(f3 b hb).2.2.2.2.2 p (by simpa using this)
  have hcb:(cB X N scope cl' s3.heap.objs.size s3 (upd H2 s2.heap.objs.size<|.lst []) fp pins).calm=true:=hc;refine a83 (λn s'=> ∃i σ' H',Inv (cB X N scope cl' s3.heap.objs.size s3 (upd H2 s2.heap.objs.size<|.lst []) fp pins) [] σ' H' s'/\tn i s'.heap/\(∀b∈fp,H' b=none)/\W i n σ' H') ?_ m0 ⟨0,_,_,I4,st4,λb hb=>(f3 b hb).1,w0⟩
  rintro n s5 ⟨i,σ5,H5,I5,st5,fr5,w5⟩;rcases turn i n σ5 H5 w5 with⟨stop,qn⟩| ⟨go,Nx,hNx,step⟩
  ·refine bI (T.done (cB X N scope cl' s3.heap.objs.size s3 (upd H2 s2.heap.objs.size<|.lst []) fp pins) rfl rfl rfl hcb i [] s5 σ5 H5 (λ_ _=>False) I5 (stat fr5) st5 stop) (λr s6 hr=> ?_) (λ_ _ z=>z.elim)
   obtain⟨rfl,I6⟩:=hr;exact fin _ fp _ s3 σ5 H5 s6 I3 f3 (hcl'▸I6) qn
  ·refine bI (T.item (cB X N scope cl' s3.heap.objs.size s3 (upd H2 s2.heap.objs.size<|.lst []) fp pins) rfl rfl rfl hcb i [] s5 σ5 H5 (λ_ _=>False) I5 (stat fr5) st5 go) (λr s6 hr=> ?_) (λ_ _ z=>z.elim)
   obtain⟨u,rfl,h6⟩:=hr;refine bI h6 (λ_ s7 h7=> ?_) (λ_ _ z=>z.elim)
   obtain⟨x,H7,I7,r7,y7,st7,fr7⟩:=h7;have I7':=I7.pinned (stat fr7) (T.obj _ _ st7);refine bI (hg _ _ _ _ _ _ _ s7 σ5 H7 x u _ I7' r7<|step x H7 y7) (λ_ s8 h8=> ?_) (λ_ _ z=>False.elim z)
   obtain⟨σ8,H8,I8,q8⟩:=h8;have again: ∀{σ9:L2.St} {H9:Hp} {s9:Shared},Inv (cB X N scope cl' s3.heap.objs.size s3 (upd H2 s2.heap.objs.size<|.lst []) fp pins) ([]++b92 fp s7.heap) σ9 H9 s9->Nx σ9 H9-> ∃m,m<n/\ ∃i σ' H',Inv (cB X N scope cl' s3.heap.objs.size s3 (upd H2 s2.heap.objs.size<|.lst []) fp pins) [] σ' H' s9/\tn i s9.heap/\(∀b∈fp,H' b=none)/\W i m σ' H':=λ{σ9 H9 s9} I9 n9=>by
    obtain⟨m',hm,w9⟩:=hNx σ9 H9 n9;refine⟨m',hm,i+1,σ9,H9,I9.unpinned,T.keep _ _ _ st7 λb hb o e=>(I9.pin (b,o)<|d7 _<|d7 _<|a05 hb e).1,λb hb=> ?_,w9⟩
    obtain⟨o,e,d⟩:=T.obj _ _ st7 b hb;exact(I9.pin (b,o)<|d7 _<|d7 _<|a05 hb e).2.1
   refine bI (ht _ _ _ _ _ _ _ s8 σ8 H8 _ I8 q8) (λc s9 h9=> ?_) (λ_ _ z=>False.elim z)
   obtain⟨H9,I9,q9⟩:=h9;cases c with
   | false=>exact again I9 q9
   | true=>
    rw[a9 rfl]at q9⊢;refine bI (he _ _ _ _ _ _ _ s9 σ8 H9 _ I9 q9) (λv s10 h10=> ?_) (λ_ _ z=>False.elim z)
    obtain⟨y,H10,I10,r10,ys,e10,z10,q10⟩:=h10;refine bI (bN5 (X:=(cB X N scope cl' s3.heap.objs.size s3 (upd H2 s2.heap.objs.size<|.lst []) fp pins)) _ s10 σ8 H10 (.ref s2.heap.objs.size) [y] (.ref s2.heap.objs.size) [v] (λv H=>v= .non/\Nx σ8 H) I10 rfl (.cons r10 .nil) ⟨_,ys,y,rfl,rfl,e10,z10,rfl,q10⟩) (λ_ s11 h11=> ?_) (λ_ _ z=>False.elim z)
    obtain⟨_,H11,I11,_,_,q11⟩:=h11;exact again I11 q11
 exact codeAny_compStart_list loop (T.self _ 0 _ _ _ st4 loop)
theorem aH3 {X:Cx}{N:List Str}{cap:List (Option Nat)}{scope:Scope}{pins:List (Addr×Obj)}{s:Shared}{σ:L2.St}{H:Hp}(S:fV X.env X.N N cap scope)(I:Inv X pins σ H s) :
  ∃cl,closureFor scope X.env=pure cl/\(∀x c,cl.lookup x=some c->X.env.cells.lookup x=some c)/\ ∀y∈scope.names,y.2= .free-> ∃c,cl.lookup y.1=some c:=by
 obtain⟨cl,h1,h2,_,h4⟩:=a07 (env:=X.env) scope.names (λy hy hf=>I.ok.has y.1 (S.frees y hy hf)) [] (λx c q=>by simp at q)
 refine⟨cl,?_,h2,h4⟩
 have e:closureFor scope X.env=(forIn scope.names [] fun(x:Str×NameKind) r=>(do if(x.2==NameKind.free)=true then do let c<-cellOf X.env x.1;pure (ForInStep.yield ((x.1,c)::r))else pure (ForInStep.yield r)):Sem (List<|Str×Addr)) >>= λr=>pure r:=by
  rfl
 rw[e,h1];rfl
theorem dD6 {X:Cx}{elt iter tg:Expr}{ifs:List Expr}{scope:Scope}{pos:Pos}{N:List Str}{cap:List (Option Nat)}{last:Nat}{wi:TI}{g:TG}{tt:TT}{te:TE}(hc:X.calm=true)(hi:PI X tg iter wi)(S:fV X.env X.N N cap scope)
  (hN: ∀x,N[last]? =some x->scope.names.lookup x=none)
  (hg: ∀cl C s H fp pins,PG (cB X N scope cl C s H fp pins) tg g) (ht: ∀cl C s H fp pins,PTs (cB X N scope cl C s H fp pins) ifs tt) (he: ∀cl C s H fp pins,PE (cB X N scope cl C s H fp pins) elt te)
  (hs: ∀x,foldedSetIterable iter X.env x=pure x:=by intro _;rfl):PE X (.ListComp elt [⟨tg,iter,ifs,0⟩] scope pos) (cK1 cap last wi g tt te):=by
 intro pins s σ H Q I h;rw[eval_ListComp];obtain⟨cl,hcl0,hcl,hcl2⟩:=aH3 S I;refine wpAny_comprehension_free (use:=none) rfl hs hcl0 S.kind S.names ?_;refine bO3 (RR:=λacc C=>compPost (model X.prog X.w) X.A X.xe none (EP X pins σ Q) acc C) hc hi S hN hg ht he I h hcl hcl2 λD fp H3 s3 σ' H' s' I3 f3 I' q=> ?_
 obtain⟨m6,hn6,_⟩:=I'.loc;exact⟨m6,hn6,λh' hs'=>⟨.ref D,H',bO2 I3 f3 (aF _) I' hs',rfl,q⟩⟩
theorem cD0 {X:Cx}{elt iter tg:Expr}{ifs:List Expr}{scope:Scope}{pos spos py:Pos}{y:Str}{i:Nat}{N:List Str}{cap:List (Option Nat)}{last:Nat}{wi:TI}{g:TG}{tt:TT}{te:TE}(hc:X.calm=true)(hi:PI X tg iter wi)(S:fV X.env X.N N cap scope)
  (hN: ∀x,N[last]? =some x->scope.names.lookup x=none)
  (hg: ∀cl C s H fp pins,PG (cB X N scope cl C s H fp pins) tg g) (ht: ∀cl C s H fp pins,PTs (cB X N scope cl C s H fp pins) ifs tt) (he: ∀cl C s H fp pins,PE (cB X N scope cl C s H fp pins) elt te)
  (hy:PG X (.Name y py) (aR0 i)) (hsw:swapsWith (.ListComp elt [⟨tg,iter,ifs,0⟩] scope pos) (some<|.Name y py) spos.line X.env=pure true:=by rfl)
  (hs: ∀x,foldedSetIterable iter X.env x=pure x:=by intro _;rfl):PS X (.Assign [.Name y py] (.ListComp elt [⟨tg,iter,ifs,0⟩] scope pos) spos) (dA6 (cK1 cap last wi g tt te)<|aR0 i):=by
 intro pins s σ H D I h;rw[exec_Assign_Name_used _ _ _ _ hsw];refine aA (nG<|aA ?_);obtain⟨cl,hcl0,hcl,hcl2⟩:=aH3 S I;show wpAny _ X.A (do let _<-comprehension (.ListComp elt [⟨tg,iter,ifs,0⟩] scope pos) scope X.env _ (newList []) false (eval iter X.env) (some<|assign (.Name y py) X.env)) _ _ s
 refine aA (bI (wpAny_comprehension_free (use:=some (assign (.Name y py) X.env)) (Q:=λ_ s'=>SP X pins D .next s') rfl hs hcl0 S.kind S.names ?_) (λ_ s' hq=>aH (aH hq)) λ_ _ e=>e)
 refine bO3 (RR:=λacc C=>compPost (model X.prog X.w) X.A X.xe (some<|assign (.Name y py) X.env) (λ_ s'=>SP X pins D .next s') acc C) hc hi S hN hg ht he I h hcl hcl2 λD' fp H3 s3 σ' H' s' I3 f3 I' q=> ?_
 obtain⟨m6,hn6,_⟩:=I'.loc;obtain⟨o6,es6,ep6,ho6,rest6⟩:=id hn6;have J:Inv X pins σ H' s':=bO2 (h2:=s'.heap) I3 f3 (aF _) I' (.refl ..);have fC:H' s3.heap.objs.size=none:=I'.free;have neL:s3.heap.objs.size≠X.env.locals:=qC I3.lt;have neF:s3.heap.objs.size ∉ X.fs:=I3.nofs (aF _);have neC: ∀x c,X.env.cells.lookup x=some c->c≠s3.heap.objs.size:=λx c e z=>by
  obtain⟨v,qq⟩:=I3.cell x c e;exact absurd (b6 qq.lt (by rw[z];exact aF _)) (d8 _)
 have neP: ∀p∈X.pn++pins,p.1≠s3.heap.objs.size:=λp hp z=>by
  have:=aV (I3.pin p hp).1;rw[z]at this;exact d8 _ this
 have nd: ∀v,o6.data≠ .cell v:=λv z=>by
  have:o6.data= .dict es6 ep6:=rest6.1;rw[this]at z;cases z
 have J':Inv X (pins++[(s3.heap.objs.size,o6)]) σ H' s':=J.pins_of λp hp=>(bW.mp hp).elim (λz=>J.pin p (d7 _ z)) λz=>by
  have e:p=(s3.heap.objs.size,o6):=by simpa using z
  subst e;exact⟨ho6,fC,neL,neF,nd⟩
 show wpAny _ X.A (assign (.Name y py) X.env<|.ref D') _ _ _
 refine thn (hy _ s' σ H' (.ref D') (.ref D') D.nx J' rfl q) λ_ s7 ⟨σ7,H7,I7,q7⟩=> ?_
 obtain⟨e7,n7,_⟩:=I7.pin (s3.heap.objs.size,o6) (d7 _<|d7 _ ae)
 refine⟨m6,⟨o6,es6,ep6,e7,rest6⟩,λh' hs'=> ?_⟩
 have I8:=I7.unpinned;exact⟨σ7,H7,I8.turned (t':=s7.toks) (λb o hb e=>(hs'.2 b hb).trans e) n7 neL (.inr<|aM I3.sz<|aF _) neC neP,q7⟩
end L2
namespace M
open PySem PySem.Spec PyProof.Rows L2
noncomputable def dD7:B->B
 | .pu d=> .pu d
 | .ow l=> .bo l
 | .bo l=> .bo l
noncomputable def pB (ρ:Ev)(cap:List (Option Nat))(last:Nat):Ev:=(cap.map λc=>c.bind λj=>((ρ[j]?).join).map dD7).set last (some<|.ow [])
noncomputable def dD8 (ρ:Ev)(j:Nat):Ev:=match ρ[j]? with
 | some (some<|.ow l)=>ρ.set j (some<|.pu<|.lst l)
 | _=>ρ
noncomputable def wM:Ev->List Nat->Ev
 | ρ,[]=>ρ
 | ρ,j::js=>wM (dD8 ρ j) js
theorem cZ7 (ρ:Ev)(j:Nat):Frz ρ (dD8 ρ j):=by
 unfold dD8;split
 ·rename_i l e
  exact .set e
 ·exact .refl _
theorem c22: ∀(js:List Nat) (ρ:Ev),Frz ρ (wM ρ js)
 | [],ρ=> .refl _
 | j::js,ρ=>(cZ7 ρ j).trans (c22 js _)
def eF (js:List Nat)(cap:List (Option Nat))(last:Nat)(ui:UI)(g:UG)(tt:UT)(te:UE):UE:=λρ Q=>ui ρ λn it ρ1=> ∃Pv:Nat->Ev->Prop,Pv 0 (pB (wM ρ1 js) cap last)/\
 (∀i ρ',i<n->Pv i ρ'->g (.pu<|it i) ρ' λρ2=>tt ρ2 λc ρ3=>if c=true then te ρ3 λb ρ4=>o7 ρ4 last λl=>l.length<sizeLine/\Pv (i+1) (ρ4.set last<|some<|.ow<|l++[b.d])else Pv (i+1) ρ3)/\
 ∀ρ',Pv n ρ'->o7 ρ' last λl=>Q (.ow l) (wM ρ1 js)
section
variable {X:Cx}{K:Frag}{C:C0}{ρ ρ':Ev}{σ σ':L2.St}{H H':Hp}
theorem cap_ok {cap:List (Option Nat)}{last:Nat}{Dn:Addr}(I:EOk K C ρ σ H)(hl:last<cap.length)(n:H Dn=none) :
  EOk K ⟨H,Av C ρ σ⟩ (pB ρ cap last) (vR σ cap last Dn) (upd H Dn<|.lst []):=by
 have pu: ∀(i:Nat) (z:B),last≠i->(pB ρ cap last)[i]? =some (some z)-> ∃(j:Nat) (z':B),cap[i]? =some (some j)/\z=dD7 z'/\ρ[j]? =some (some z'):=λi z ne h=>by
  unfold pB at h;rw[get_set_ne ne,bJ]at h;cases e4:cap[i]? with
  | none=>rw[e4]at h;cases h
  | some c=>
   rw[e4]at h;cases c with
   | none=>cases h
   | some j=>
    have h':((ρ[j]?).join).map dD7=some z:=by simpa using h
    cases q:ρ[j]? with
    | none=>rw[q]at h';cases h'
    | some w=>
     rw[q]at h';cases w with
     | none=>cases h'
     | some w'=>cases h';exact⟨j,w',rfl,rfl,q⟩
 have sgm: ∀(i j:Nat) (v:V),last≠i->cap[i]? =some (some j)->σ[j]? =some (some v)->(vR σ cap last Dn)[i]? =some (some v):=λi j v e e1 h1=>by
  unfold vR;rw[get_set_ne e,bJ,e1];show some ((σ[j]?).join)=_;rw[h1];rfl
 have atl:(pB ρ cap last)[last]? =some (some<|.ow []):=by
  unfold pB;exact hV (by rw[aK];exact hl)
 have sal:(vR σ cap last Dn)[last]? =some (some<|.ref Dn):=by
  unfold vR;exact hV (by rw[aK];exact hl)
 have noOw: ∀(i:Nat) (l:List D),last≠i->(pB ρ cap last)[i]? ≠some (some<|.ow l):=λi l e h=>by
  obtain⟨j,z',_,z,_⟩:=pu i _ e h;cases z'<;>cases z
 have own: ∀a,Own (pB ρ cap last) (vR σ cap last Dn) a->a=Dn:=λa ⟨i,l,h1,h2⟩=>by
  by_cases e:last=i
  ·subst e;rw[sal]at h2;cases h2;rfl
  ·exact absurd h1 (noOw i l e)
 have P:lX (Av C ρ σ) H (Av ⟨H,Av C ρ σ⟩ (pB ρ cap last)<|vR σ cap last Dn) (upd H Dn<|.lst []):=λb o nb e=>by
  have ne:b≠Dn:=λz=>by subst z;rw[n]at e;cases e
  refine⟨?_,by rw[cG ne];exact e⟩
  rintro(z|z)
  ·exact nb z
  ·exact ne (own b z)
 refine⟨by unfold pB vR;rw[dS,dS,aK,aK],λi d h=> ?_,λi l h=> ?_,λi j l l' a h1 h2 h3 h4=> ?_,λi l h=> ?_,eI n _,λa z=>I.avSome z⟩
 ·by_cases e:last=i
  ·subst e;rw[atl]at h;cases h
  ·obtain⟨j,z',e1,z,e2⟩:=pu i _ e h;cases z' with
   | pu d'=>
    cases z;obtain⟨v,h1,h2⟩:=I.pu j d e2;exact⟨v,sgm i j v e e1 h1,h2.mono P⟩
   | ow l=>cases z
   | bo l=>cases z
 ·by_cases e:last=i
  ·subst e;rw[atl]at h;cases h;exact⟨Dn,[],sal,iB,n,.nil⟩
  ·exact absurd h (noOw i l e)
 ·have e1:last=i:=yY λe=>absurd h1 (noOw i l e)
  have e2:last=j:=yY λe=>absurd h2 (noOw j l' e)
  exact e1.symm.trans e2
 ·by_cases e:last=i
  ·subst e;rw[atl]at h;cases h
  ·obtain⟨j,z',e1,z,e2⟩:=pu i _ e h;cases z' with
   | pu d'=>cases z
   | ow l'=>
    cases z;obtain⟨a,vs,h1,h2,h3,h4⟩:=I.ow j l e2;exact⟨a,vs,sgm i j _ e e1 h1,.inr ⟨j,l,e2,h1⟩,h2,h4.mono P⟩
   | bo l'=>
    cases z;obtain⟨a,vs,h1,h2,h3,h4⟩:=I.bo j l e2;exact⟨a,vs,sgm i j _ e e1 h1,.inl h2,I.ext _ _ h3,h4.mono P⟩
theorem dL7 {js:List Nat}{cap:List (Option Nat)}{last:Nat}{ui:UI}{g:UG}{T:List Nat}{tt:UT}{te:UE}(hl:last<cap.length)(hT:last ∉ T)(σ:L2.St)(H:Hp)(Q:VK)(h:lE K (eF js cap last ui g tt te) σ H Q) :
  cK1 cap last (lI K ui) (lG K T g) (lT K tt) (lE K te) σ H Q:=by
 obtain⟨C,ρ,Q0,I,h,k⟩:=h;refine⟨C,ρ,_,I,h,λn it ρ1 J H1 q f s ok Dn nD=> ?_⟩
 obtain⟨Pv,p0,turn,fin⟩:=q;have fz:=c22 js ρ1;have I1:EOk K C (wM ρ1 js) σ H1:=((I.frz f).same s).frz fz;generalize wM ρ1 js=ρ2 at fz I1 p0 fin;have P12: ∀{A':AS} {H':Hp},lX (Av C ρ2 σ) H1 A' H'->lX (Av C ρ1 σ) H1 A' H':=λp b o nb e=>p b o (λz=>nb (fz.av z)) e
 have I2:=cap_ok I1 hl nD;have own0: ∀{ρ':Ev} {σ':L2.St} {H':Hp},EOk K ⟨H1,Av C ρ2 σ⟩ ρ' σ' H'->lX (Av C ρ2 σ) H1 (Av ⟨H1,Av C ρ2 σ⟩ ρ' σ') H':=λ{ρ' σ' H'} J' b o nb e=>by
  refine⟨?_,J'.ext b o e⟩
  rintro(z| ⟨i,l,h1,h2⟩)
  ·exact nb z
  ·obtain⟨a,vs,h3,h4,h5,_⟩:=J'.ow i l h1;rw[h2]at h3;cases h3;have e':(⟨H1,Av C ρ2 σ⟩:C0).H0 b=some o:=e;rw[h5]at e';cases e'
 have sal:(vR σ cap last Dn)[last]? =some (some<|.ref Dn):=by
  unfold vR;exact hV (by rw[aK];exact hl)
 refine⟨λi m σ' H'=>m=n-i/\i<=n/\σ'[last]? =some (some<|.ref Dn)/\ ∃ρ',EOk K ⟨H1,Av C ρ2 σ⟩ ρ' σ' H'/\Pv i ρ',⟨n,rfl,cP _,sal,_,I2,p0⟩,?_⟩
 rintro i m σ' H' ⟨rfl,hi,hlast,ρ',J',p'⟩;have P:=P12 (own0 J')
 by_cases hlt:i<n
 ·refine .inr ⟨ok.go _ _ i P hlt,λσ2 H2=>σ2[last]? =some (some<|.ref Dn)/\ ∃ρ3,EOk K ⟨H1,Av C ρ2 σ⟩ ρ3 σ2 H2/\Pv (i+1) ρ3,λσ2 H2 z=>⟨n-(i+1),aa,rfl,hlt,z⟩,λx H2 y=> ?_⟩
  obtain⟨s2,r2⟩:=ok.yld _ _ i x H2 P (λa z=>J'.avSome z) hlt y
  refine⟨_,ρ',.pu<|it i,H',_,J',s2,r2,turn i ρ' hlt p',λρ3 σ3 H3 q3 J3 same3=> ?_⟩
  have l3:σ3[last]? =some (some<|.ref Dn):=(same3 last hT).trans hlast;refine⟨_,ρ3,_,J3,q3,λc ρ4 H4 q4 f4 s4=> ?_⟩
  have J4:=(J3.frz f4).same s4;cases c with
  | false=>
   dsimp only at q4⊢;rw[a6 bD]at q4⊢;exact⟨l3,ρ4,J4,q4⟩
  | true=>
   dsimp only at q4⊢;rw[a9 rfl]at q4⊢;refine⟨_,ρ4,_,J4,q4,λb ρ5 v H5 q5 f5 s5 r5=> ?_⟩
   have J5:=(J4.frz f5).same s5;obtain⟨l,hl5,hz,q5⟩:=iY q5;obtain⟨a,vs,g1,g2,g3,g4⟩:=J5.ow last l hl5;rw[l3]at g1;cases g1;refine⟨vs,g2,by rw[<-g4.length];exact hz,l3,_,J5.write hl5 l3<|g4.append<|.cons (r5.rep λa z=>J4.avF f5 z) .nil,q5⟩
 ·have e:i=n:=aa
  subst e;obtain⟨l,hl5,q5⟩:=iY (fin ρ' p');obtain⟨a,vs,g1,g2,g3,g4⟩:=J'.ow last l hl5;rw[hlast]at g1;cases g1;refine .inl ⟨ok.stop _ _ P,k _ _ _ _ q5 (f.trans fz) (s.trans J'.ext) ⟨Dn,vs,rfl,s.free nD,g2,?_⟩⟩;refine g4.mono λb o nb e=>⟨?_,e⟩
  rintro(z|z)
  ·exact nb (.inl z)
  ·subst z;exact nb (.inr ⟨last,l,hl5,hlast⟩)
theorem fZ: ∀{X:Cx},PTs X [] (lT X.K λρ Q=>Q true ρ):=λ{X} pins s σ H Q I ⟨C,ρ,Q0,J,h,k⟩=>dD4 pins s σ H Q I (k _ ρ H h (.refl _)<|.refl _)
theorem cK2 {c:Expr}{t:UT}(h:PUT X c t):PTs X [c] (lT X.K t):=dD5 h
theorem dD9 {elt iter tg:Expr}{ifs:List Expr}{scope:Scope}{pos:Pos}{N:List Str}{js:List Nat}{cap:List (Option Nat)}{last:Nat}{ui:UI}{g:UG}{T:List Nat}{tt:UT}{te:UE}(hc:X.calm=true)(hi:PUI X tg iter ui)(S:fV X.env X.N N cap scope)
  (hN: ∀x,N[last]? =some x->scope.names.lookup x=none) (hl:last<cap.length) (hT:last ∉ T)
  (hg: ∀cl C s H fp pins,PUG (cB X N scope cl C s H fp pins) tg T g) (ht: ∀cl C s H fp pins,PTs (cB X N scope cl C s H fp pins) ifs<|lT X.K tt) (he: ∀cl C s H fp pins,PU (cB X N scope cl C s H fp pins) elt te)
  (hs: ∀x,foldedSetIterable iter X.env x=pure x:=by intro _;rfl):PU X (.ListComp elt [⟨tg,iter,ifs,0⟩] scope pos) (eF js cap last ui g tt te):=
 iU (dD6 (g:=lG X.K T g) (tt:=lT X.K tt) (te:=lE X.K te) hc hi S hN hg ht he hs) (dL7 hl hT)
theorem cD1 {elt iter tg:Expr}{ifs:List Expr}{scope:Scope}{pos spos py:Pos}{y:Str}{N:List Str}{js:List Nat}{cap:List (Option Nat)}{last:Nat}{ui:UI}{g:UG}{T:List Nat}{tt:UT}{te:UE}(i:Nat)(hc:X.calm=true)(hi:PUI X tg iter ui)(S:fV X.env X.N N cap scope)
  (hN: ∀x,N[last]? =some x->scope.names.lookup x=none) (hl:last<cap.length) (hT:last ∉ T)
  (hg: ∀cl C s H fp pins,PUG (cB X N scope cl C s H fp pins) tg T g) (ht: ∀cl C s H fp pins,PTs (cB X N scope cl C s H fp pins) ifs<|lT X.K tt) (he: ∀cl C s H fp pins,PU (cB X N scope cl C s H fp pins) elt te)
  (hy:PG X (.Name y py) (aR0 i)) (hi': ∀pins σ H s,Inv X pins σ H s->i<σ.length) (hsw:swapsWith (.ListComp elt [⟨tg,iter,ifs,0⟩] scope pos) (some<|.Name y py) spos.line X.env=pure true:=by rfl)
  (hs: ∀x,foldedSetIterable iter X.env x=pure x:=by intro _;rfl):PUS X (.Assign [.Name y py] (.ListComp elt [⟨tg,iter,ifs,0⟩] scope pos) spos) (cA i<|eF js cap last ui g tt te):=by
 intro pins s σ H D I q;refine cD0 (g:=lG X.K T g) (tt:=lT X.K tt) (te:=lE X.K te) hc hi S hN hg ht he hy hsw hs pins s σ H D I ?_;obtain⟨C,ρ,D0,J,h,k⟩:=q;exact dL7 hl hT σ H _ ⟨C,ρ,_,J,h,λb ρ1 v H1 q f s1 r=>k.nx _ _ _ q ((J.frz f).store s1 r<|hi' pins σ H s I)⟩
end
end M
end
section
namespace L2
open PySem PySem.Spec PyProof.Rows
section
variable {X:Cx}
theorem dE0 {bs:List Bool}: ∀{its:List Value},Vals (bs.map V.bl) its->LSm.BoolsAre its bs:=by
 induction bs with
 | nil=>intro its r;cases r;exact .nil
 | cons b bs ih=>
  intro its r;cases r with
  | cons r1 r2=>
   cases r1;exact .cons b (ih r2)
theorem cD2 (hc:X.calm=true):uB X (.builtin "all") (λxs H Q=> ∃(p:Addr) (bs:List Bool),xs=[.ref p]/\SqL X.K H p (bs.map V.bl)/\Q (.bl<|bs.all id) H):=by
 intro pins s σ H xs us Q I r h;obtain⟨p,bs,rfl,hq,q⟩:=h;obtain⟨u,rfl,rx⟩:=vals1 r;cases rx;obtain⟨its,rv,pl,hz⟩:=I.list hq;have ba:=dE0 rv;refine call_all_walk (aM9 pl.isList ?_);have hne:p≠s.heap.objs.size:=by
  obtain⟨o,n,e,_⟩:=pl;exact bG (aV e)
 refine⟨s.heap.objs.size,_,_,_,_,_,λi=>(bs[i]?).getD true,rfl,Walks.list (A:=X.A.in1) (I.ok.hd hc) s.heap.objs.size p (λz=>hne z) its.toArray,⟨⟨_,bU _ rfl,rfl,rfl⟩,pl.isList.push _⟩,?_,λh' tk hk=> ?_⟩
 ·intro i v s' Q' E' hP hQ;obtain⟨b,hb,rfl⟩:=ba.get i v (by simpa using hP)
  refine pU ?_
  have e:(λi=>(bs[i]?).getD true) i=b:=by simp[hb]
  dsimp only at hQ;rw[hb]at hQ;exact hQ
 ·have e:=LSm.range_all bs;have hl:=ba.length;have e2:its.toArray.size=bs.length:=by rw[b7,hl]
  rw[e2,e];exact⟨.bl<|bs.all id,H,I.kept λb o e=>hk b o (by simpa using bG (aV e)) (aU _ e),rfl,q⟩
theorem cD3 (hc:X.calm=true):uB X (.builtin "sum") (λxs H Q=> ∃(p:Addr) (ns:List Int),xs=[.ref p]/\SqL X.K H p (ns.map V.int)/\Q (.int ns.sum) H):=by
 intro pins s σ H xs us Q I r h;obtain⟨p,ns,rfl,hq,q⟩:=h;obtain⟨u,rfl,rx⟩:=vals1 r;cases rx;obtain⟨its,rv,pl,hz⟩:=I.list hq;have hi:IntsAre its ns:=by simpa using intsAre_of rv
 obtain⟨xs,hx⟩:=hi.allInts.items;have hl':s.heap.IsList p (intItems xs):=hx▸pl.isList;refine sum_intListG (I.ok.hd hc) hl' λh' tk t' hk=> ?_
 have e1:ns=xs.toList.map (·.1):=by
  rw[<-nums_intItems,<-hx];exact(show numsOf its.toArray.toList=ns from hi.numsOf).symm
 have e2:preSum (numAt xs) xs.size=ns.sum:=by
  rw[preSum_eq,zB ae,e1]
 rw[e2];exact⟨.int ns.sum,H,I.kept hk,⟨_,rfl⟩,q⟩
noncomputable def yD (esc:List (Str×NameKind))(XN N:List Str)(cap:List (Option Nat))(scope:Scope)(last:Nat):Bool:=
 (scope.kind== .function)&&scope.names.all (λy=>y.2 != .cell||scope.names.lookup y.1==some .cell)&&scope.names.all (λy=>y.2 != .free||scope.names.lookup y.1==some .free)&&scope.names.all (λy=>y.2 != .local||scope.names.lookup y.1==some .local)&&
 scope.names.all (λy=>y.2 != .free||esc.lookup y.1==some .cell||esc.lookup y.1==some .free)&&
 (N.zip cap).all (λz=>match z.2 with|none=>true|some j=>XN[j]? ==some z.1&&scope.names.contains (z.1,.free)&&scope.names.lookup z.1==some .free)&&
 (cap.length==N.length)&&(match N[last]? with|some x=>(scope.names.lookup x).isNone|none=>true)
theorem fV.of {env:Env}{esc:List (Str×NameKind)}{XN N:List Str}{cap:List (Option Nat)}{scope:Scope}{last:Nat}(he:env.scope.names=esc)(h:yD esc XN N cap scope last=true) :
  fV env XN N cap scope/\ ∀x,N[last]? =some x->scope.names.lookup x=none:=by
 unfold yD at h;simp only[dN,dO,fU]at h;obtain⟨⟨⟨⟨⟨⟨⟨h1,h2⟩,h2'⟩,h3⟩,h4⟩,h5⟩,h6⟩,h7⟩:=h;have hk: ∀x,env.kindOf x=esc.lookup x:=λx=>by unfold Env.kindOf;rw[he]
 refine⟨⟨h1,λy hy hl=>by have:=h2 y hy;rw[hl]at this;simpa using this,λy hy hl=>by have:=h2' y hy;rw[hl]at this;simpa using this,λy hy hl=> ?_,λy hy hf=> ?_,λi j x e1 e2=> ?_,h6⟩,λx e=> ?_⟩
 ·have:=h3 y hy;rw[hl]at this
  simpa using this
 ·have:=h4 y hy;rw[hf]at this;rw[hk]
  simpa using this
 ·have hm:(x,some j)∈N.zip cap:=by
   refine zE (i:=i) ?_
   rw[List.getElem?_zip_eq_some];exact⟨e1,e2⟩
  have:=h5 _ hm;simp only[dN,fU]at this;obtain⟨⟨a,b⟩,c⟩:=this;exact⟨a,by simpa using b,c⟩
 ·rw[e]at h7
  simpa using h7
end
end L2
namespace M
open PySem PySem.Spec PyProof.Rows L2
section
variable {X:Cx}{K:Frag}{A:AS}{H:Hp}
noncomputable def a84:List D->Option (List Bool)
 | []=>some []
 | .bl b::r=>(a84 r).map (b::·)
 | _=>none
noncomputable def b22:List D->Option (List Int)
 | []=>some []
 | .int b::r=>(b22 r).map (b::·)
 | _=>none
theorem aN9 (bs:List Bool):a84 (bs.map .bl)=some bs:=by
 induction bs with
 | nil=>rfl
 | cons b bs ih=>rw[cN];show(a84<|bs.map .bl).map _=_;rw[ih];rfl
theorem aX4 (bs:List Int):b22 (bs.map .int)=some bs:=by
 induction bs with
 | nil=>rfl
 | cons b bs ih=>rw[cN];show(b22<|bs.map .int).map _=_;rw[ih];rfl
theorem bA2: ∀{l:List D} {bs:List Bool} {vs:List V},a84 l=some bs->bK K A H l vs->vs=bs.map V.bl
 | [],bs,vs,h,r=>by cases h;exact r.unnil
 | d::r,bs,vs,h,q=>by
  obtain⟨v,vr,rfl,rv,rr⟩:=q.uncons;cases d with
  | bl b=>
   have h':(a84 r).map (b::·)=some bs:=h;cases e:a84 r with
   | none=>rw[e]at h';cases h'
   | some bs'=>
    rw[e]at h';cases h';rw[aE8 rv,bA2 e rr];rfl
  | _=>cases h
theorem bO4: ∀{l:List D} {bs:List Int} {vs:List V},b22 l=some bs->bK K A H l vs->vs=bs.map V.int
 | [],bs,vs,h,r=>by cases h;exact r.unnil
 | d::r,bs,vs,h,q=>by
  obtain⟨v,vr,rfl,rv,rr⟩:=q.uncons;cases d with
  | int b=>
   have h':(b22 r).map (b::·)=some bs:=h;cases e:b22 r with
   | none=>rw[e]at h';cases h'
   | some bs'=>
    rw[e]at h';cases h';rw[bL rv,bO4 e rr];rfl
  | _=>cases h
noncomputable def cD4:List D->(B->Prop)->Prop:=g1 λd Q=>match d with
 | .lst l=>(match a84 l with
  | some bs=>Q (.pu<|.bl<|bs.all id)
  | none=>False)
 | _=>False
theorem cD5 (hc:X.calm=true):a75 X (.builtin "all") cD4:=by
 intro A H ds vs Q0 Q hA r g k;obtain⟨d,v,rfl,rfl,rv,g⟩:=aX0 g r;cases d with
 | lst l=>
  dsimp only at g;cases e:a84 l with
  | none=>rw[e]at g;exact g.elim
  | some bs=>
   rw[e]at g;simp only[Rep]at rv;obtain⟨a,vs,rfl,n,c,rs⟩:=rv;rw[bA2 e rs]at c;exact⟨_,cD2 hc,a,bs,rfl,SqL.of c,k _ _ H g (.refl _) oC⟩
 | _=>exact(show False from g).elim
noncomputable def cQ1:List D->(B->Prop)->Prop:=g1 λd Q=>match d with
 | .lst l=>(match b22 l with
  | some ns=>Q (.pu<|.int ns.sum)
  | none=>False)
 | _=>False
theorem cD6 (hc:X.calm=true):a75 X (.builtin "sum") cQ1:=by
 intro A H ds vs Q0 Q hA r g k;obtain⟨d,v,rfl,rfl,rv,g⟩:=aX0 g r;cases d with
 | lst l=>
  dsimp only at g;cases e:b22 l with
  | none=>rw[e]at g;exact g.elim
  | some bs=>
   rw[e]at g;simp only[Rep]at rv;obtain⟨a,vs,rfl,n,c,rs⟩:=rv;rw[bO4 e rs]at c;exact⟨_,cD3 hc,a,bs,rfl,SqL.of c,k _ _ H g (.refl _) aR6⟩
 | _=>exact(show False from g).elim
theorem cK3 {x:Str}{i:Int}{t:Tok}{p:Pos}(hg:Gl X x)(hm:X.mg x=some (.int i t))(hd:(x==("__debug__":Str))=false:=by decide):PU X (.Name x p) (uC<|.int i):=
 cJ4 (cI6 (v:= .int i) hg hm ⟨t,rfl⟩ hd) λA H=>by simp only[Rep]
theorem cD7:bootBuiltins "all"=some (.builtin "all"):=af
theorem cD8:bootBuiltins "sum"=some (.builtin "sum"):=af
theorem uG {elt iter tg:Expr}{ifs:List Expr}{scope:Scope}{pos:Pos}{esc:List (Str×NameKind)}{N:List Str}{js:List Nat}{cap:List (Option Nat)}{last:Nat}{ui:UI}{g:UG}{T:List Nat}{tt:UT}{te:UE}{XN:List Str}(he0:X.env.scope.names=esc)(hx0:X.N=XN)(lk:yD esc XN N cap scope last=true)(hl:last<cap.length)(hT:last ∉ T)(hc:X.calm=true)(hi:PUI X tg iter ui)
  (hg: ∀cl C s H fp pins,PUG (cB X N scope cl C s H fp pins) tg T g) (ht: ∀cl C s H fp pins,PTs (cB X N scope cl C s H fp pins) ifs<|lT X.K tt) (he: ∀cl C s H fp pins,PU (cB X N scope cl C s H fp pins) elt te)
  (hs: ∀x,foldedSetIterable iter X.env x=pure x:=by intro _;rfl):PU X (.ListComp elt [⟨tg,iter,ifs,0⟩] scope pos) (eF js cap last ui g tt te):=
 dD9 hc hi (fV.of he0<|hx0▸lk).1 (fV.of he0<|hx0▸lk).2 hl hT hg ht he hs
theorem b23 {elt iter tg:Expr}{ifs:List Expr}{scope:Scope}{pos spos py:Pos}{y:Str}{esc:List (Str×NameKind)}{N:List Str}{js:List Nat}{cap:List (Option Nat)}{last:Nat}{ui:UI}{g:UG}{T:List Nat}{tt:UT}{te:UE}(i:Nat){XN:List Str}(he0:X.env.scope.names=esc)(hx0:X.N=XN)(lk:yD esc XN N cap scope last=true)(hl:last<cap.length)(hT:last ∉ T)(hc:X.calm=true)(hi:PUI X tg iter ui)
  (hg: ∀cl C s H fp pins,PUG (cB X N scope cl C s H fp pins) tg T g) (ht: ∀cl C s H fp pins,PTs (cB X N scope cl C s H fp pins) ifs<|lT X.K tt) (he: ∀cl C s H fp pins,PU (cB X N scope cl C s H fp pins) elt te)
  (hy:PG X (.Name y py) (aR0 i)) (hi': ∀pins σ H s,Inv X pins σ H s->i<σ.length) (hsw:swapsWith (.ListComp elt [⟨tg,iter,ifs,0⟩] scope pos) (some<|.Name y py) spos.line X.env=pure true:=by rfl)
  (hs: ∀x,foldedSetIterable iter X.env x=pure x:=by intro _;rfl):PUS X (.Assign [.Name y py] (.ListComp elt [⟨tg,iter,ifs,0⟩] scope pos) spos) (cA i<|eF js cap last ui g tt te):=
 cD1 i hc hi (fV.of he0<|hx0▸lk).1 (fV.of he0<|hx0▸lk).2 hl hT hg ht he hy hi' hsw hs
def aH4 (te:UE):US:=λD ρ=>te ρ λ_ ρ1=>D.nx ρ1
theorem b76 {e:Expr}{pos:Pos}{te:UE}(he:PU X e te)(hs:swapsWith e none pos.line X.env=pure false:=by rfl):PUS X (.Expr e pos) (aH4 te):=
 rD (b69 he hs) λD σ H ⟨C,ρ,D0,I,h,k⟩=>⟨C,ρ,_,I,h,λb ρ1 v H1 q f s r=>k.nx _ _ _ q ((I.frz f).same s)⟩
theorem j0: ∀ds ρ Q,lY ds ρ Q->ds.length=0:=λds ρ Q h=>by rw[h.1];rfl
theorem bY {i n:Nat}{u:UGs}(h: ∀ds ρ Q,u ds ρ Q->ds.length=n): ∀ds ρ Q,cZ i u ds ρ Q->ds.length=n+1:=λds ρ Q q=>by
 cases ds with
 | nil=>exact(show False from q).elim
 | cons d r=>rw[eA,h r _ Q q.2]
end
theorem Fn.void {P:Program}{w:World}{K:Frag}{mg:Str->Option Value}{base:Heap}{x qual:Str}{st:Stmt}{f:Addr}{fd:FuncData}{ps:List Str}{φ:Φ}(F:Fun K x qual st f fd)(m:mg x=some (.ref f))(b:Binds K fd ps [])(h: ∀ds Q,¬φ ds Q):Fn P w K mg base x ps 1 φ:=
 ⟨f,fd,⟨λvs H Q E ⟨_,ds,Q0,_,_,z,_⟩=>absurd z (h ds Q0),λA outer s H args us vs Q E _ _ _ _ ⟨_,ds,Q0,_,_,z,_⟩=>absurd z (h ds Q0)⟩,b,F.kp,m⟩
end M
end
section
namespace HT
open PySem PyProof.Rows
end HT
namespace L2
open PySem PySem.Spec PyProof.Rows
end L2
namespace M
open PySem PySem.Spec PyProof.Rows L2
section
variable {X:Cx}{K:Frag}{A:AS}{H:Hp}{e e3:Expr}{t3:UE}{pos p2:Pos}
def gIn (neg:Bool)(d e:D)(Q:B->Prop):Prop:= ∃(i:Int) (js:List Int),d= .int i/\(e= .tup (js.map D.int)\/e= .lst (js.map D.int)\/e= .rol (js.map D.int))/\Q (.pu<|.bl<|neg ^^ decide (i∈js))
theorem bK.unints: ∀{js:List Int} {vs:List V},bK K A H (js.map D.int) vs->vs=js.map V.int
 | [],_,h=>by simp only[iP,bK]at h;exact h
 | j::js,vs,h=>by
  simp only[cN,bK]at h;obtain⟨v,vr,rfl,r,rs⟩:=h;rw[bL r,bK.unints rs];rfl
theorem cZ8 (i:Int)(js:List Int):inV (.int i) (js.map V.int)=decide (i∈js):=by
 unfold inV
 induction js with
 | nil=>rfl
 | cons j js ih=>
  rw[cN,any_cons,ih];show((j==i)||decide (i∈js))=decide (i∈j::js)
  by_cases h:j=i
  ·subst h;simp
  ·have h': ¬i=j:=λz=>h z.symm
   simp[h,h']
theorem aX5 (js:List Int):(js.map V.int).all aR1=true:=by
 induction js with
 | nil=>rfl
 | cons j js ih=>rw[cN,all_cons,ih];rfl
theorem ou_inG {neg:Bool}{op:Value->Value->Sem Value}(ho:OpR X op (rIn X.K neg)):OpU X op (gIn neg):=by
 intro A H d e v w Q0 Q hA r1 r2 g k;obtain⟨i,js,rfl,he,g⟩:=g;have e1:=bL r1;subst e1;have fin:Q (.bl<|if neg=true then !inV (.int i) (js.map V.int)else inV (.int i) (js.map V.int)) H:=by
  rw[cZ8];refine k _ _ H g (.refl _) ?_;cases neg
  ·rw[a6 ac,kC];exact oC
  ·rw[a9 rfl,nI];exact oC
 rcases he with rfl|rfl|rfl
 ·simp only[Rep]at r2;obtain⟨a,vs,rfl,c,rs⟩:=r2;have:=rs.unints;subst this;exact⟨_,ho,a,_,rfl,.inr<|c.imp cQ id,rfl,aX5 js,fin⟩
 ·simp only[Rep]at r2;obtain⟨a,vs,rfl,n,c,rs⟩:=r2;have:=rs.unints;subst this;exact⟨_,ho,a,_,rfl,.inl<|SqL.of c,rfl,aX5 js,fin⟩
 ·simp only[Rep]at r2;obtain⟨a,vs,rfl,c,rs⟩:=r2;have:=rs.unints;subst this;exact⟨_,ho,a,_,rfl,.inl<|c.imp cQ id,rfl,aX5 js,fin⟩
theorem cZ9:OpU X (compareOp .NotIn) (gIn true):=ou_inG bS2
end
end M
end
section
namespace L2
open PySem PySem.Spec PyProof.Rows
noncomputable def Itd (lo:Int)(n:Nat):It:={go:=λi _=>i<n,yld:=λi H x H'=>H'=H/\x=V.int (lo-(i:Int)),stop:=λi _=>n<=i}
theorem bO5 {P:Program}{w:World}{K:Frag}{tg:Expr}(it:Addr)(lo:Int)(n:Nat):c06 P w K tg (Itd lo n) [it] it (λi h=>IsRangeIter h it (lo+(i:Nat)*(-1)) ((n:Int)-(i:Nat)) (-1)) where
 mem:=ae
 obj:=λi h st b hb=>by
  have e:b=it:=by simpa using hb
  subst e;exact⟨_,st,λv z=>by
   have z':Data.fields _=Data.cell v:=z;cases z'⟩
 keep:=λi h h' st k=>k it ae _ st
 item:=by
  intro X hP hw hK hc i pins s σ H E I hf st hg;subst hP hw hK;obtain⟨f0,f1,f2,f3,f4,f5⟩:=hf it ae
  have W:=Walks.range (prog:=X.prog) (w:=X.w) (I.ok.hd hc) it lo (-1) n;refine W.item i s _ _ hg st λv h' tk hv st' kk=> ?_
  obtain⟨t,rfl⟩:=hv;have I1:Inv X pins σ H {s with heap:=h',toks:=tk}:=I.turned (λb o hb e=>kk b o (by simpa using hb) e) f0 f1 f3 f4 f5
  refine⟨_,rfl,c07 (s:={s with heap:=h',toks:=tk}) (n:="range_iterator") st' rfl rfl ac ⟨.int<|lo-i,H,I1,⟨t,?_⟩,⟨rfl,rfl⟩,st',λb hb=>(hf b hb).1⟩⟩
  rw[show lo+((i:Nat):Int)*(-1)=lo-(i:Int)by lia]
 done:=by
  intro X hP hw hK hc i pins s σ H E I hf st hg;subst hP hw hK;obtain⟨f0,f1,f2,f3,f4,f5⟩:=hf it ae
  exact wpAny_pyNext_range_end (I.ok.hd hc) st (by have:n<=i:=hg;lia) λh' eb=>⟨rfl,I.turned (t':=s.toks) (λb o hb e=>eb b o hb e) f0 f1 f3 f4 f5⟩
 self:=λ_ _ _ _ _ st h=>aL1 st h
section
variable {X:Cx}{tg:Expr}
theorem bO6 (a b:Int):Builtin.Range.rangeSize a b (-1)=(((a-b).toNat:Nat):Int):=by
 unfold Builtin.Range.rangeSize;rw[a6 ac]
 split<;>simp<;>lia
theorem small_down {a b:Int}(h1: -(2^31)<=a)(h2:a<2^31)(h3: -(2^31)<=b)(h4:b<2^31):Builtin.Range.small a b (-1)=true:=by
 unfold Builtin.Range.small;rw[bO6];simp[Builtin.Range.rangeFitsLong];omega
theorem cD9 {pins:List (Addr×Obj)}{σ:St}{H:Hp}{s:Shared}{R:It->Hp->Prop}{E:Value->Shared->Prop}{lo hi:Int}{t u v:Tok}{tk:Nat}(I:Inv X pins σ H s)(h1: -(2^31)<=lo)(h2:lo<2^31)(h3: -(2^31)<=hi)(h4:hi<2^31)
  (q:R (Itd lo (lo-hi).toNat) H):wpAny (model X.prog X.w) X.A (pyIter<|.ref s.heap.objs.size) (PIE X pins σ tg R) E {s with heap:=s.heap.push {cls:= .type "range",data:= .fields #[.int lo t,.int hi u,.int (-1) v]},toks:=tk}:=by
 refine wpAny_pyIter_range (IsRange.new ..) (small_down h1 h2 h3 h4) ?_
 have I1:Inv X pins σ H {s with heap:=s.heap.push {cls:= .type "range",data:= .fields #[.int lo t,.int hi u,.int (-1) v]},toks:=tk}:=I.kept λb o e=>aU _ e
 refine⟨(s.heap.push {cls:= .type "range",data:= .fields #[.int lo t,.int hi u,.int (-1) v]}).objs.size,[(s.heap.push {cls:= .type "range",data:= .fields #[.int lo t,.int hi u,.int (-1) v]}).objs.size],_,_,H,rfl,
  I1.kept (t':=tk) λb o e=>aU _ e,bO5 _ lo (lo-hi).toNat,?_,λb hb=> ?_,q⟩
 ·have e1:lo+((0:Nat):Int)*(-1)=lo:=ae
  have e2:(((lo-hi).toNat:Nat):Int)-((0:Nat):Int)=Builtin.Range.rangeSize lo hi (-1):=by rw[bO6];simp
  show IsRangeIter _ _ (lo+((0:Nat):Int)*(-1)) ((((lo-hi).toNat:Nat):Int)-((0:Nat):Int)) (-1)
  rw[e1,e2];exact bU _ rfl
 ·have e:b=(s.heap.push {cls:= .type "range",data:= .fields #[.int lo t,.int hi u,.int (-1) v]}).objs.size:=by simpa using hb
  subst e;exact I1.fpOk (aF _) (I1.hok.fresh<|aF _)
def iRngD (ta:TA):TI:=λσ H R=>ta σ H λvs H1=> ∃i j:Int,vs=[.int i,.int j,.int<|-1]/\(-(2^31)<=i/\i<2^31/\ -(2^31)<=j/\j<2^31)/\R (Itd i (i-j).toNat) H1
theorem cQ2 {a b c:Expr}{ta:TA}{p pos:Pos}(hg:Gl X "range")(hm:X.mg "range"=none)(ha:PA X [a,b,c] ta)(hs:starEach [a,b,c] X.env=[(false,eval a X.env),(false,eval b X.env),(false,eval c X.env)]:=by rfl)(hs2:starEach [b,c] X.env=[(false,eval b X.env),(false,eval c X.env)]:=by rfl) :
  PI X tg (.Call (.Name "range" p) [a,b,c] [] pos) (iRngD ta):=by
 intro pins s σ H R I h;refine Call_ (wJ I hg hm boot_range<|j9 (thn (ha pos pins s σ H _ I h) λus s1 ⟨vs,H1,I1,r1,q1⟩=> ?_) (by rw[hs,hs2]) (by rw[hs2];rfl))
 obtain⟨i,j,e,⟨q1,q2,q3,q4⟩,q⟩:=q1;subst e;cases r1 with
 | cons r rr=>
  cases rr with
  | cons r' rr=>
   cases rr with
   | cons r'' rr=>
    cases rr;obtain⟨t,rfl⟩:=r;obtain⟨t',rfl⟩:=r';obtain⟨t'',rfl⟩:=r'';exact call_range_3 ac (cD9 I1 q1 q2 q3 q4 q) (.inl (by
     unfold Builtin.divisionGoesByPylong;simp;intro hz;have:Nat.log2 1=0:=ac
     lia))
end
end L2
namespace M
open PySem PySem.Spec PyProof.Rows L2
section
variable {X:Cx}{K:Frag}{H:Hp}{pos:Pos}
theorem bO7 {A:AS}{lo:Int}{n:Nat}:c20 K A H (Itd lo n) n (λi=> .int (lo-i)):=
 ⟨λ_ _ _ _ h=>h,λ_ _ i x H'' _ _ _ ⟨e,y⟩=>by subst e;subst y;exact⟨.refl _,by simp only[Rep]⟩,λ_ _ _=>aF n⟩
def cK4 (ta:UA):UI:=λρ Q=>ta ρ λds ρ1=>match ds with
 | [.int i,.int j,.int m]=>m= -1/\(-(2^31)<=i/\i<2^31/\ -(2^31)<=j/\j<2^31)/\Q (i-j).toNat (λk=> .int (i-k)) ρ1
 | _=>False
theorem cQ3 {tg a b c:Expr}{ta:UA}{p:Pos}(hg:Gl X "range")(hm:X.mg "range"=none)(ha:PUA X [a,b,c] ta)(hs:starEach [a,b,c] X.env=[(false,eval a X.env),(false,eval b X.env),(false,eval c X.env)]:=by rfl)(hs2:starEach [b,c] X.env=[(false,eval b X.env),(false,eval c X.env)]:=by rfl) :
  PUI X tg (.Call (.Name "range" p) [a,b,c] [] pos) (cK4 ta):=
 b20 (cQ2 hg hm ha hs hs2) λσ H R ⟨C,ρ,Q0,I,h,k⟩=>⟨C,ρ,_,I,h,λds ρ1 vs H1 q f s r=>by
  split at q
  ·rename_i i j m
   obtain⟨v,vr,rfl,rv,rr⟩:=r.uncons;obtain⟨w,wr,rfl,rw',rr'⟩:=rr.uncons;obtain⟨z,zr,rfl,rz,rr''⟩:=rr'.uncons;have:=rr''.unnil;subst this;have:=bL rv;subst this;have:=bL rw';subst this;have:=bL rz;subst this;obtain⟨hm,hb,q⟩:=q;subst hm;exact⟨i,j,rfl,hb,k _ _ ρ1 _ H1 q f s bO7⟩
  ·exact q.elim⟩
end
end M
end
section
namespace L2
open PySem PySem.Spec PyProof.Rows
section
variable {X:Cx}{pins:List (Addr×Obj)}{σ:St}{H:Hp}{s:Shared}{h':Heap}
theorem Inv.turnedNew {t':Nat}{ch:List Addr}{a:Addr}{o:HO}(I:Inv X pins σ H s)(k: ∀b u,b ∉ ch->s.heap.get? b=some u->h'.get? b=some u)(hf: ∀b∈ch,aW4 X pins H b)
  (hp:s.heap.objs.size<=a) (new:rC X.prog X.w (upd H a o) h' a o):Inv X pins σ (upd H a o) {s with heap:=h',toks:=t'}:=by
 have hn:H a=none:=I.hok.fresh hp;have nch: ∀b u,H b=some u->b ∉ ch:=λb u e z=>by have:=(hf b z).1;rw[e]at this;cases this
 refine I.step (g':=s.gens) (d':=s.drawn) (ch:=ch) (λb hb=>⟨(hf b hb).2.2.2.1,(hf b hb).2.1,(hf b hb).2.2.2.2.1,(hf b hb).2.2.2.2.2⟩) (λb u _ _ hc e _=>k b u hc e) (λb u _ _ hc e _=>⟨u.slots,k b u hc e⟩)
  (λb u _ e n=>by rw[cG<|bG<|b6 (aV e) hp];exact n) (λb u hc e=>⟨u,k b u hc e⟩)
  (λb xs e=>by rw[cG<|cX e hn];exact e) (λb ob u e=>by rw[cG<|cX e hn];exact e) (λb ps e=>⟨#[],by rw[cG<|cX e hn,e];simp⟩) (λm hm=> ?_) (λb u e=> ?_) I.bare
 ·obtain⟨ob,es,ep,ho,r⟩:=hm;exact⟨ob,es,ep,k _ ob (λz=>(hf _ z).2.1 rfl) ho,r⟩
 ·by_cases hb:b=a
  ·subst hb;rw[iB]at e;cases e;exact new
  ·rw[cG hb]at e;refine(I.hok b u e).stay (λc v hc q=>k c v ?_ q) (λc q=>by rw[cG<|cX q hn];exact q) λc xs q=>by rw[cG<|cX q hn];exact q
   rcases hc with z|z
   ·rw[z];exact nch b u e
   ·exact nch c _ z
theorem Inv.turnedL {t':Nat}{ch:List Addr}(I:Inv X pins σ H s)(k: ∀b u,b ∉ ch->s.heap.get? b=some u->h'.get? b=some u)(hf: ∀b∈ch,aW4 X pins H b):Inv X pins σ H {s with heap:=h',toks:=t'}:=by
 have nch: ∀b u,H b=some u->b ∉ ch:=λb u e z=>by have:=(hf b z).1;rw[e]at this;cases this
 refine I.step (g':=s.gens) (d':=s.drawn) (ch:=ch) (λb hb=>⟨(hf b hb).2.2.2.1,(hf b hb).2.1,(hf b hb).2.2.2.2.1,(hf b hb).2.2.2.2.2⟩) (λb u _ _ hc e _=>k b u hc e) (λb u _ _ hc e _=>⟨u.slots,k b u hc e⟩)
  (λb u _ e n=>n) (λb u hc e=>⟨u,k b u hc e⟩) (λb xs e=>e) (λb ob u e=>e) (λb ps e=>⟨#[],by rw[e];simp⟩) (λm hm=> ?_) (λb u e=> ?_) I.bare
 ·obtain⟨ob,es,ep,ho,r⟩:=hm;exact⟨ob,es,ep,k _ ob (λz=>(hf _ z).2.1 rfl) ho,r⟩
 ·refine(I.hok b u e).stay (λc v hc q=>k c v ?_ q) (λc q=>q) λc xs q=>q
  rcases hc with z|z
  ·rw[z];exact nch b u e
  ·exact nch c _ z
end
def vL (T:Bool)(h:Heap)(a:Addr)(xs:Array Value):Prop:=match T with
 | false=>h.IsList a xs
 | true=>h.IsTuple a xs
def vM (T:Bool)(h:Heap)(it a:Addr)(i:Nat):Prop:=match T with
 | false=>h.IsListIter it a i
 | true=>h.IsTupleIter it a i
noncomputable def a85 (T:Bool)(a:Addr):Obj:=match T with
 | false=>{cls:= .type "list_iterator",data:= .fields #[.ref a,.int 0 0]}
 | true=>{cls:= .type "tuple_iterator",data:= .fields #[.ref a,.int 0 0]}
def SqV (K:Frag)(T:Bool)(H:Hp)(a:Addr)(xs:List V):Prop:=match T with
 | false=>SqL K H a xs
 | true=>SqT K H a xs
theorem vL.at {T:Bool}{h h':Heap}{a:Addr}{xs:Array Value}(x:vL T h a xs)(e: ∀o,h.get? a=some o->h'.get? a=some o):vL T h' a xs:=by
 cases T<;>(obtain⟨o,ho,r⟩:=x;exact⟨o,e o ho,r⟩)
theorem vM.at {T:Bool}{h h':Heap}{it a:Addr}{i:Nat}(x:vM T h it a i)(e: ∀o,h.get? it=some o->h'.get? it=some o):vM T h' it a i:=by
 cases T<;>(obtain⟨o,ho,r⟩:=x;exact⟨o,e o ho,r⟩)
theorem vL.lt {T:Bool}{h:Heap}{a:Addr}{xs:Array Value}(x:vL T h a xs):a<h.objs.size:=by
 cases T<;>(obtain⟨o,ho,r⟩:=x;exact aV ho)
theorem vM.rec' {T:Bool}{h:Heap}{it a:Addr}{i:Nat}(x:vM T h it a i): ∃o,h.get? it=some o/\ ∀v,o.data≠ .cell v:=by
 cases T<;>(obtain⟨o,ho,hc,hd⟩:=x;exact⟨o,ho,λv z=>by rw[hd]at z;cases z⟩)
theorem vM.new {T:Bool}(h:Heap)(a:Addr):vM T (h.push<|a85 T a) h.objs.size a 0:=by
 cases T<;>exact⟨_,bU _ rfl,rfl,rfl⟩
section
variable {X:Cx}{pins:List (Addr×Obj)}{σ:St}{H:Hp}{s:Shared}
theorem Inv.sq {T:Bool}{a:Addr}{xs:List V}(I:Inv X pins σ H s)(h:SqV X.K T H a xs): ∃its:List Value,Vals xs its/\vL T s.heap a its.toArray/\xs.length<=sizeLine:=by
 cases T with
 | false=>obtain⟨its,rv,p,hz⟩:=I.list h;exact⟨its,rv,p.isList,hz⟩
 | true=>obtain⟨its,rv,p,hz⟩:=I.tuple h;exact⟨its,rv,p,hz⟩
theorem Inv.sq_inj {T:Bool}{a:Addr}{xs ys:List V}(I:Inv X pins σ H s)(h:SqV X.K T H a xs)(h':SqV X.K T H a ys):xs=ys:=by
 cases T with
 | false=>exact I.list_inj h h'
 | true=>exact I.tuple_inj h h'
end
section
variable {prog:Program}{w:World}{A:Around}{E:Value->Shared->Prop}{s:Shared}
theorem aF0 {T:Bool}{a:Addr}{xs:Array Value}{Q:Value->Shared->Prop}(hl:vL T s.heap a xs)(hQ:Q (.ref s.heap.objs.size) {s with heap:=s.heap.push (a85 T a)}) :
  wpAny (model prog w) A (pyIter<|.ref a) Q E s:=by
 cases T with
 | false=>exact aM9 hl hQ
 | true=>exact wpAny_pyIter_tuple hl hQ
theorem d00 {it t:Addr}{i:Nat}{items:Array Value}{x:Value}{Q:Value->Shared->Prop}(hit:s.heap.IsTupleIter it t i)(ht:s.heap.IsTuple t items)(hx:items[i]? =some x)
  (hQ: ∀h',h'.IsTupleIter it t (i+1)->SameBut it s.heap h'->Q x {s with heap:=h'}):wpAny (model prog w) A (Builtin.SmallTypes.nextOf<|.ref it) Q E s:=by
 obtain⟨oi,hoi,hci,hdi⟩:=id hit;obtain⟨ot,hot,_,nt,hdt⟩:=ht;unfold Builtin.SmallTypes.nextOf;refine aA (jZ (name:=Str.ofString "__next__") hit.typeIs yV<|iK yV hit.typeIs PySem.F.entry_tuple_iterator_next ?_<|PySem.F.args_tuple_iterator_next_1 _);show wpAny _ _ (field (.ref it) 0 >>= _) _ _ s;refine aA (cW hoi hdi (x:= .ref t) rfl ?_)
 show wpAny _ _ (if(Value.ref t==Value.none)=true then _ else _) _ _ s;rw[a6<|show ¬((Value.ref t==Value.none)=true)from bD]
 show wpAny _ _ (field (.ref it) 1 >>= _) _ _ s;refine aA (cW hoi hdi (x:= .int i 0) rfl ?_)
 show wpAny _ _ (seqItems? (.ref t) >>= _) _ _ s;refine aA (kD hot hdt ?_)
 simp only[eB,hx];refine aA (tW hoi hdi ae<|aH ⟨x,rfl,aH<|hQ _ ⟨_,pK _ hoi<|aL7<|pS hdi _,(Obj.cls_mapFields ..).trans hci,?_⟩<|tO ..⟩)
 rw[pS hdi];simp[rawInt]
theorem cQ4 {it t:Addr}{i:Nat}{items:Array Value}{Q:Value->Shared->Prop}(hh:A.handled=none)(hit:s.heap.IsTupleIter it t i)(ht:s.heap.IsTuple t items)(hx:items[i]? =none)
  (hE: ∀h' e,ExtBut it s.heap h'->(∃o,h'.get? e=some o/\o.cls= .type "StopIteration")->E (.ref e) {s with heap:=h'}):wpAny (model prog w) A (Builtin.SmallTypes.nextOf<|.ref it) Q E s:=by
 obtain⟨oi,hoi,hci,hdi⟩:=id hit;obtain⟨ot,hot,_,nt,hdt⟩:=ht;unfold Builtin.SmallTypes.nextOf;refine aA (jZ (name:=Str.ofString "__next__") hit.typeIs yV<|iK yV hit.typeIs PySem.F.entry_tuple_iterator_next ?_<|PySem.F.args_tuple_iterator_next_1 _);show wpAny _ _ (field (.ref it) 0 >>= _) _ _ s;refine aA (cW hoi hdi (x:= .ref t) rfl ?_)
 show wpAny _ _ (if(Value.ref t==Value.none)=true then _ else _) _ _ s;rw[a6<|show ¬((Value.ref t==Value.none)=true)from bD]
 show wpAny _ _ (field (.ref it) 1 >>= _) _ _ s;refine aA (cW hoi hdi (x:= .int i 0) rfl ?_)
 show wpAny _ _ (seqItems? (.ref t) >>= _) _ _ s;refine aA (kD hot hdt ?_)
 simp only[eB,hx];refine aA (nN<|aA<|tW hoi hdi ae ?_)
 show wpAny _ _ (newExc (.type "StopIteration") [] >>= _) _ _ _;refine aA ?_;simp only[newExc,newTuple];refine aA (iJ ?_<|by size_fits)
 refine aA (m:=firstArgMember _ _) (jG (a:=Value.none) (by first|rfl| (simp only[firstArgMember];rfl)) ?_);refine iJ ?_ (by size_fits)
 simp only[raiseNew];refine aA (wpAny_handled ?_);first|rw[show A.in1.handled=none from hh]|rw[hh]
 exact aA (aH<|wpAny_throw<|hE _ _ (((tO ..).extBut.push _).push _) ⟨_,bU _ rfl,rfl⟩)
theorem b77 {T:Bool}{it a:Addr}{i:Nat}{xs:Array Value}{x:Value}{Q:Value->Shared->Prop}(hit:vM T s.heap it a i)(hl:vL T s.heap a xs)(hx:xs[i]? =some x)
  (hQ: ∀h',vM T h' it a (i+1)->SameBut it s.heap h'->Q x {s with heap:=h'}):wpAny (model prog w) A (Builtin.SmallTypes.nextOf<|.ref it) Q E s:=by
 cases T with
 | false=>exact wpAny_nextOf_list_item hit hl hx hQ
 | true=>exact d00 hit hl hx hQ
theorem bA3 {T:Bool}{it a:Addr}{i:Nat}{xs:Array Value}{Q:Value->Shared->Prop}(hh:A.handled=none)(hit:vM T s.heap it a i)(hl:vL T s.heap a xs)(hx:xs[i]? =none)
  (hE: ∀h' e,ExtBut it s.heap h'->(∃o,h'.get? e=some o/\o.cls= .type "StopIteration")->E (.ref e) {s with heap:=h'}):wpAny (model prog w) A (Builtin.SmallTypes.nextOf<|.ref it) Q E s:=by
 cases T with
 | false=>exact wpAny_nextOf_list_end hh hit hl hx hE
 | true=>exact cQ4 hh hit hl hx hE
end
structure ZSt (T1 T2:Bool)(z TI TO i1 i2 l1 l2:Addr)(f0:Value)(i:Nat)(h:Heap):Prop where
 hz:IsZip h z TI TO f0
 hI:IsPair h TI (.ref i1) (.ref i2)
 hO: ∃a b,IsPair h TO a b
 h1:vM T1 h i1 l1 i
 h2:vM T2 h i2 l2 i
structure ZAp (z TI TO i1 i2:Addr):Prop where
 a:TI≠z
 b:TO≠z
 c:i1≠z
 d:i2≠z
 e:TI≠TO
 f:TI≠i1
 g:TI≠i2
 h:TO≠i1
 i:TO≠i2
 j:i1≠i2
section
variable {prog:Program}{w:World}{A:Around}{E:Value->Shared->Prop}{s:Shared}{T1 T2:Bool}{z TI TO i1 i2 l1 l2:Addr}{k:Nat}{xs ys:Array Value}
theorem d01 {x y:Value}{Q:Value->Shared->Prop}(D:ZAp z TI TO i1 i2)(n1:l1 ∉ [z,TI,TO,i1,i2])(n2:l2 ∉ [z,TI,TO,i1,i2])(st:ZSt T1 T2 z TI TO i1 i2 l1 l2 .none k s.heap)
  (hl1:vL T1 s.heap l1 xs) (hl2:vL T2 s.heap l2 ys) (hx:xs[k]? =some x) (hy:ys[k]? =some y)
  (hQ: ∀h',ZSt T1 T2 z TI TO i1 i2 l1 l2 (rawInt s.heap.objs.size) (k+1) h'->IsPair h' s.heap.objs.size x y->(∀c o,c ∉ [z,TI,TO,i1,i2]->s.heap.get? c=some o->h'.get? c=some o)->Q (.ref s.heap.objs.size) {s with heap:=h'}) :
  wpAny (model prog w) A (Builtin.«zip.__next__» ⟨[.ref z],[]⟩) (λfin s'=> ∃v,fin= .done (.ret v)/\Q v s') E s:=by
 obtain⟨hz,hI,⟨a0,b0,hO⟩,h1,h2⟩:=st;simp only[aX,cM,cR,not_or]at n1 n2;show wpAny _ _ (field (.ref z) 2 >>= _) _ _ _;refine aA (cW hz rfl (x:= .bool false) rfl ?_);show wpAny _ _ (field (.ref z) 3 >>= _) _ _ _;refine aA (cW hz rfl (x:= .ref TI) rfl ?_);refine aA (kD hI rfl ?_);show wpAny _ _ (Builtin.SmallTypes.ownedTupleIsFree (.ref z) >>= _) _ _ _
 refine aA ?_;unfold Builtin.SmallTypes.ownedTupleIsFree;refine aA (cW hz rfl (x:= .none) rfl (aH ?_))
 simp only[gK];refine aA (nN ?_);refine aA (cW hz rfl (x:= .ref TO) rfl ?_);refine aA (pT hz ae λg1 z1 m1=> ?_);replace z1:IsZip g1 z TI TO .ellipsis:=z1
 refine aA ?_;simp only[List.zipIdx_cons,List.zipIdx_nil,zQ,forIn_nil]
 refine aA (aA<|zW ?_);show wpAny _ _ (Builtin.SmallTypes.nextOf (.ref i1) >>= _) _ _ _
 refine aA (b77 (s:={s with heap:=g1}) (h1.at λo e=>m1.extBut _ _ D.c e) (hl1.at λo e=>m1.extBut _ _ n1.1 e) hx λg2 p2 m2=>aH ?_)
 have o2:IsPair g2 TO a0 b0:=m2.extBut _ _ D.h (m1.extBut _ _ D.b hO);refine aA (kD o2 rfl ?_);refine aA (aL9 o2 λg3 o3 m3=> ?_);replace o3:IsPair g3 TO x b0:=o3
 refine aA (wpAny_letGo<|aH ?_)
 refine aA (aA<|zW ?_);show wpAny _ _ (Builtin.SmallTypes.nextOf (.ref i2) >>= _) _ _ _
 refine aA (b77 (s:={s with heap:=g3}) (h2.at λo e=>m3.extBut _ _ D.i.symm (m2.extBut _ _ D.j.symm<|m1.extBut _ _ D.d e)) (hl2.at λo e=>m3.extBut _ _ n2.2.2.1 (m2.extBut _ _ n2.2.2.2.1<|m1.extBut _ _ n2.1 e)) hy λg4 p4 m4=>aH ?_)
 have o4:IsPair g4 TO x b0:=m4.extBut _ _ D.i o3;refine aA (kD o4 rfl ?_);refine aA (aL9 o4 λg5 o5 m5=> ?_);replace o5:IsPair g5 TO x y:=o5
 refine aA (wpAny_letGo<|aH<|aH ?_)
 refine aA (kD o5 rfl ?_);refine aA (wpAny_newTuple ?_)
 have sz:g5.objs.size=s.heap.objs.size:=by rw[m5.1,m4.1,m3.1,m2.1,m1.1]
 have z5:IsZip g5 z TI TO .ellipsis:=m5.extBut _ _ D.b.symm (m4.extBut _ _ D.d.symm<|m3.extBut _ _ D.b.symm<|m2.extBut _ _ D.c.symm z1);have keep5: ∀c o,c≠z->c≠TO->c≠i1->c≠i2->s.heap.get? c=some o->g5.get? c=some o:=λc o c1 c2 c3 c4 e=>m5.extBut _ _ c2 (m4.extBut _ _ c4<|m3.extBut _ _ c2<|m2.extBut _ _ c3<|m1.extBut _ _ c1 e)
 have q1:vM T1 g5 i1 l1 (k+1):=p2.at λo e=>m5.extBut _ _ D.h.symm (m4.extBut _ _ D.j<|m3.extBut _ _ D.h.symm e)
 have q2:vM T2 g5 i2 l2 (k+1):=p4.at λo e=>m5.extBut _ _ D.i.symm e
 have zl:z<g5.objs.size:=aV z5;show wpAny _ _ (Builtin.SmallTypes.ownedTupleHandOut (.ref z) (.ref g5.objs.size) >>= _) _ _ _;refine aA ?_;unfold Builtin.SmallTypes.ownedTupleHandOut;have z6:IsZip (g5.push {cls:= .type "tuple",data:= .seq #[x,y]}) z TI TO .ellipsis:=aU _ z5;refine aA (pT z6 ae λg7 z7 m7=> ?_);replace z7:IsZip g7 z TI TO (rawInt g5.objs.size):=z7
 refine pT z7 ae λg8 z8 m8=> ?_;replace z8:IsZip g8 z TI TO (rawInt g5.objs.size):=z8
 have up: ∀c o,c≠z->g5.get? c=some o->g8.get? c=some o:=λc o c1 e=>m8.extBut _ _ c1 (m7.extBut _ _ c1<|aU _ e)
 have t8:IsPair g8 g5.objs.size x y:=m8.extBut _ _ (qC zl) (m7.extBut _ _ (qC zl)<|bU _ rfl);rw[sz]at z8 t8;refine aH ⟨_,rfl,?_⟩;show Q (.ref g5.objs.size) _;rw[sz];refine hQ g8 ⟨z8,up _ _ D.a<|keep5 _ _ D.a D.e D.f D.g hI,⟨x,y,up _ _ D.b o5⟩,q1.at λo e=>up _ _ D.c e,q2.at λo e=>up _ _ D.d e⟩ t8 λc o nc e=> ?_
 simp only[aX,cM,cR,not_or]at nc;exact up c o nc.1 (keep5 c o nc.1 nc.2.2.1 nc.2.2.2.1 nc.2.2.2.2 e)
theorem cQ5 {Q:Fin->Shared->Prop}(hh:A.handled=none)(D:ZAp z TI TO i1 i2)(n1:l1 ∉ [z,TI,TO,i1,i2])(n2:l2 ∉ [z,TI,TO,i1,i2])(st:ZSt T1 T2 z TI TO i1 i2 l1 l2 .none k s.heap)
  (hl1:vL T1 s.heap l1 xs) (hl2:vL T2 s.heap l2 ys) (hend:xs[k]? =none\/ys[k]? =none)
  (hE: ∀h' e,(∀c o,c ∉ [z,TI,TO,i1,i2]->s.heap.get? c=some o->h'.get? c=some o)->(∃o,h'.get? e=some o/\o.cls= .type "StopIteration")->E (.ref e) {s with heap:=h'}) :
  wpAny (model prog w) A (Builtin.«zip.__next__» ⟨[.ref z],[]⟩) Q E s:=by
 obtain⟨hz,hI,⟨a0,b0,hO⟩,h1,h2⟩:=st;simp only[aX,cM,cR,not_or]at n1 n2;have nin: ∀c,c ∉ [z,TI,TO,i1,i2]->c≠z/\c≠TI/\c≠TO/\c≠i1/\c≠i2:=λc h=>by simpa only[aX,cM,cR,not_or]using h
 show wpAny _ _ (field (.ref z) 2 >>= _) _ _ _;refine aA (cW hz rfl (x:= .bool false) rfl ?_)
 show wpAny _ _ (field (.ref z) 3 >>= _) _ _ _;refine aA (cW hz rfl (x:= .ref TI) rfl ?_)
 refine aA (kD hI rfl ?_);show wpAny _ _ (Builtin.SmallTypes.ownedTupleIsFree (.ref z) >>= _) _ _ _
 refine aA ?_;unfold Builtin.SmallTypes.ownedTupleIsFree;refine aA (cW hz rfl (x:= .none) rfl (aH ?_))
 simp only[gK];refine aA (nN ?_);refine aA (cW hz rfl (x:= .ref TO) rfl ?_);refine aA (pT hz ae λg1 z1 m1=> ?_);replace z1:IsZip g1 z TI TO .ellipsis:=z1
 refine aA ?_;simp only[List.zipIdx_cons,List.zipIdx_nil,zQ,forIn_nil]
 refine aA (aA<|zW ?_);show wpAny _ _ (Builtin.SmallTypes.nextOf (.ref i1) >>= _) _ _ _
 cases hx:xs[k]? with
 | none=>
  refine aA (bA3 (s:={s with heap:=g1}) hh (h1.at λo e=>m1.extBut _ _ D.c e) (hl1.at λo e=>m1.extBut _ _ n1.1 e) hx λg2 e m2 he=> ?_)
  obtain⟨oe,hoe,hce⟩:=he;have z2:IsZip g2 z TI TO .ellipsis:=m2 _ _ D.c.symm z1;have ez:e≠z:=λq=>by subst q;rw[z2]at hoe;cases hoe;simp at hce
  refine pT z2 ae λg3 _ m3=>hE g3 e (λc o nc q=> ?_) ⟨oe,m3.extBut _ _ ez hoe,hce⟩
  obtain⟨c1,c2,c3,c4,c5⟩:=nin c nc;exact m3.extBut _ _ c1 (m2 _ _ c4<|m1.extBut _ _ c1 q)
 | some x=>
  have hy:ys[k]? =none:=by rcases hend with q|q;(rw[hx]at q;cases q);exact q
  refine aA (b77 (s:={s with heap:=g1}) (h1.at λo e=>m1.extBut _ _ D.c e) (hl1.at λo e=>m1.extBut _ _ n1.1 e) hx λg2 p2 m2=>aH ?_)
  have o2:IsPair g2 TO a0 b0:=m2.extBut _ _ D.h (m1.extBut _ _ D.b hO);refine aA (kD o2 rfl ?_);refine aA (aL9 o2 λg3 o3 m3=> ?_)
  refine aA (wpAny_letGo<|aH ?_);refine aA (aA<|zW ?_);show wpAny _ _ (Builtin.SmallTypes.nextOf (.ref i2) >>= _) _ _ _
  refine aA (bA3 (s:={s with heap:=g3}) hh (h2.at λo e=>m3.extBut _ _ D.i.symm (m2.extBut _ _ D.j.symm<|m1.extBut _ _ D.d e)) (hl2.at λo e=>m3.extBut _ _ n2.2.2.1 (m2.extBut _ _ n2.2.2.2.1<|m1.extBut _ _ n2.1 e)) hy λg4 e m4 he=> ?_)
  obtain⟨oe,hoe,hce⟩:=he;have z4:IsZip g4 z TI TO .ellipsis:=m4 _ _ D.d.symm (m3.extBut _ _ D.b.symm<|m2.extBut _ _ D.c.symm z1);have ez:e≠z:=λq=>by subst q;rw[z4]at hoe;cases hoe;simp at hce
  refine pT z4 ae λg5 _ m5=>hE g5 e (λc o nc q=> ?_) ⟨oe,m5.extBut _ _ ez hoe,hce⟩
  obtain⟨c1,c2,c3,c4,c5⟩:=nin c nc;exact m5.extBut _ _ c1 (m4 _ _ c5<|m3.extBut _ _ c3<|m2.extBut _ _ c4<|m1.extBut _ _ c1 q)
end
noncomputable def Itz (K:Frag)(T1 T2:Bool)(l1 l2:Addr):It where
 go:=λi H=> ∃xs ys x y,SqV K T1 H l1 xs/\SqV K T2 H l2 ys/\xs[i]? =some x/\ys[i]? =some y
 yld:=λi H v H'=> ∃T x y,v= .ref T/\H T=none/\H'=upd H T (.tup [x,y])/\(∀xs,SqV K T1 H l1 xs->xs[i]? =some x)/\ ∀ys,SqV K T2 H l2 ys->ys[i]? =some y
 stop:=λi H=> ∃xs ys,SqV K T1 H l1 xs/\SqV K T2 H l2 ys/\(xs.length<=i\/ys.length<=i)
theorem ZSt.objs {T1 T2:Bool}{z TI TO i1 i2 l1 l2:Addr}{f0:Value}{i:Nat}{h:Heap}(st:ZSt T1 T2 z TI TO i1 i2 l1 l2 f0 i h): ∀b∈[z,TI,TO,i1,i2],∃o,h.get? b=some o/\ ∀v,o.data≠ .cell v:=λb hb=>by
 obtain⟨hz,hI,⟨a,c,hO⟩,h1,h2⟩:=st;simp only[aX,cM,cR]at hb;rcases hb with rfl|rfl|rfl|rfl|rfl
 ·exact⟨_,hz,λv q=>by cases q⟩
 ·exact⟨_,hI,λv q=>by cases q⟩
 ·exact⟨_,hO,λv q=>by cases q⟩
 ·exact h1.rec'
 ·exact h2.rec'
theorem c23:2<=sizeLine:=ac
theorem d02 {P:Program}{w:World}{K:Frag}{elts:List Expr}{kt:Nat}{tp:Pos}{T1 T2:Bool}{z TI TO i1 i2 l1 l2:Addr}(D:ZAp z TI TO i1 i2)(n1:l1 ∉ [z,TI,TO,i1,i2])(n2:l2 ∉ [z,TI,TO,i1,i2]) :
  c06 P w K (.Tuple elts kt tp) (Itz K T1 T2 l1 l2) [z,TI,TO,i1,i2] z (ZSt T1 T2 z TI TO i1 i2 l1 l2 .none) where
 mem:=ae
 obj:=λi h st b hb=>st.objs b hb
 keep:=λi h h' st k=>by
  obtain⟨hz,hI,⟨a,c,hO⟩,h1,h2⟩:=st;exact⟨k z ae _ hz,k TI ae _ hI,⟨a,c,k TO ae _ hO⟩,h1.at λo e=>k i1 ae o e,h2.at λo e=>k i2 ae o e⟩
 item:=by
  intro X hP hw hK hc i pins s σ H E I hf st hg;subst hP hw hK;obtain⟨xs,ys,x,y,q1,q2,e1,e2⟩:=hg;obtain⟨is1,r1,p1,_⟩:=I.sq q1;obtain⟨is2,r2,p2,_⟩:=I.sq q2;obtain⟨u1,hu1,ru1⟩:=r1.get e1;obtain⟨u2,hu2,ru2⟩:=r2.get e2;have hT:s.TypeIs (.ref z) "zip":=⟨_,st.hz,rfl⟩;unfold pyNext
  refine aA (tX<|jZ (name:=Str.ofString "__next__") hT zC<|iK zC hT PySem.F.entry_zip_next (d01 D n1 n2 st p1 p2 (by simpa using hu1) (by simpa using hu2) λh' st' ht k=>aH ?_)<|PySem.F.args_zip_next_1 _)
  refine⟨_,rfl,wpAny_letOwnedTupleGo_zip st'.hz λh2 hz2 m=> ?_⟩
  have kk: ∀b u,b ∉ [z,TI,TO,i1,i2]->s.heap.get? b=some u->h2.get? b=some u:=λb u nb e=>m.extBut _ _ (λq=>nb (by simp[q])) (k b u nb e)
  have hne:s.heap.objs.size≠z:=qC (aV st.hz);have ht2:IsPair h2 s.heap.objs.size u1 u2:=m.extBut _ _ hne ht;obtain⟨a',c',hO'⟩:=st'.hO;refine⟨.ref s.heap.objs.size,upd H s.heap.objs.size<|.tup [x,y],I.turnedNew (t':=s.toks) kk hf (aF _) ⟨c23,[u1,u2],.cons ru1<|.cons ru2 .nil,⟨_,ht2,rfl,_,rfl⟩⟩,rfl,
   ⟨_,x,y,rfl,I.hok.fresh<|aF _,rfl,λxs' q=>by rw[I.sq_inj q q1];exact e1,λys' q=>by rw[I.sq_inj q q2];exact e2⟩,⟨hz2,m.extBut _ _ D.a st'.hI,⟨a',c',m.extBut _ _ D.b hO'⟩,st'.h1.at λo e=>m.extBut _ _ D.c e,st'.h2.at λo e=>m.extBut _ _ D.d e⟩,λb hb=> ?_⟩
  obtain⟨o,ho,_⟩:=st.objs b hb;rw[cG<|bG<|aV ho];exact(hf b hb).1
 done:=by
  intro X hP hw hK hc i pins s σ H E I hf st hg;subst hP hw hK;obtain⟨xs,ys,q1,q2,hs⟩:=hg;obtain⟨is1,r1,p1,_⟩:=I.sq q1;obtain⟨is2,r2,p2,_⟩:=I.sq q2;have l1':=r1.length;have l2':=r2.length;have hT:s.TypeIs (.ref z) "zip":=⟨_,st.hz,rfl⟩;unfold pyNext
  refine aA (tX<|jZ (name:=Str.ofString "__next__") hT zC<|iK zC hT PySem.F.entry_zip_next (cQ5 (I.ok.hd hc) D n1 n2 st p1 p2 (by simp;omega) λh' e k he=> ?_)<|PySem.F.args_zip_next_1 _)
  obtain⟨o,ho,hc'⟩:=he;exact aA (wpAny_isInstance (T:="StopIteration") (b:=true) ⟨o,ho,hc'⟩ isSubtype_stop<|aH ⟨rfl,I.turnedL (t':=s.toks) k hf⟩)
 self:=λ_ _ _ _ _ st h=>wpAny_pyIter_zip st.hz h
noncomputable abbrev zg1 (T1:Bool)(h:Heap)(l1:Addr):Heap:=h.push (a85 T1 l1)
noncomputable abbrev zg2 (T1 T2:Bool)(h:Heap)(l1 l2:Addr):Heap:=(zg1 T1 h l1).push (a85 T2 l2)
noncomputable abbrev zg3 (T1 T2:Bool)(h:Heap)(l1 l2:Addr):Heap:=(zg2 T1 T2 h l1 l2).push {cls:= .type "tuple",data:= .seq #[.ref h.objs.size,.ref (zg1 T1 h l1).objs.size]}
noncomputable abbrev zg4 (T1 T2:Bool)(h:Heap)(l1 l2:Addr):Heap:=(zg3 T1 T2 h l1 l2).push {cls:= .type "tuple",data:= .seq #[.none,.none]}
noncomputable abbrev zg5 (T1 T2:Bool)(h:Heap)(l1 l2:Addr):Heap:=(zg4 T1 T2 h l1 l2).push {cls:= .type "zip",data:= .fields #[.none,.bool false,.bool false,.ref (zg2 T1 T2 h l1 l2).objs.size,.ref (zg3 T1 T2 h l1 l2).objs.size]}
theorem dE1 (T1 T2:Bool)(l1 l2:Addr)(xs ys:Array Value):Meets (Builtin.«zip.__new__» ⟨[.type "zip",.ref l1,.ref l2],[]⟩) (λ_ R s=>vL T1 s.heap l1 xs/\vL T2 s.heap l2 ys/\
  R (.ok<|.ret<|.ref (zg4 T1 T2 s.heap l1 l2).objs.size) {s with heap:=zg5 T1 T2 s.heap l1 l2}):= .of_wp λprog w A R s h=>by
 obtain⟨hp,g,d,tk,os⟩:=s;obtain⟨hl1,hl2,h⟩:=h;have hsub:=sub_zip;have e1:vL T1 (Shared.heap ⟨hp,g,d,tk,os⟩) l1 xs:=hl1;have e2:vL T2 (Shared.heap ⟨hp.push<|a85 T1 l1,g,d,tk,os⟩) l2 ys:=hl2.at λo e=>aU _ e
 wp_walk using aF0 e1,aF0 e2
 exact⟨_,rfl,h⟩
section
variable {prog:Program}{w:World}{A:Around}{E:Value->Shared->Prop}{s:Shared}
theorem d03 {T1 T2:Bool}{l1 l2:Addr}{xs ys:Array Value}{Q:Value->Shared->Prop}(hl1:vL T1 s.heap l1 xs)(hl2:vL T2 s.heap l2 ys)
  (h: ∀h' z TI TO i1 i2,ZAp z TI TO i1 i2->(∀b∈[z,TI,TO,i1,i2],s.heap.objs.size<=b)->ZSt T1 T2 z TI TO i1 i2 l1 l2 .none 0 h'->(∀c o,s.heap.get? c=some o->h'.get? c=some o)->Q (.ref z) {s with heap:=h'}) :
  wpAny (model prog w) A (call (.type "zip") [.ref l1,.ref l2]) Q E s:=by
 refine callType_new PySem.F.called_zip ac (PySem.F.typeCall_zip_2 _ _) (PySem.F.newCall_zip_2 _ _) (λobj=>PySem.F.args_object_init_3 obj _ _) PySem.F.entry_zip_new (dE1 T1 T2 l1 l2 xs ys) ⟨hl1,hl2,?_⟩
 have z1:(zg1 T1 s.heap l1).objs.size=s.heap.objs.size+1:=iM ..;have z2:(zg2 T1 T2 s.heap l1 l2).objs.size=s.heap.objs.size+2:=by rw[iM,z1]
 have z3:(zg3 T1 T2 s.heap l1 l2).objs.size=s.heap.objs.size+3:=by rw[iM,z2]
 have z4:(zg4 T1 T2 s.heap l1 l2).objs.size=s.heap.objs.size+4:=by rw[iM,z3]
 have g5:(zg5 T1 T2 s.heap l1 l2).get? (zg4 T1 T2 s.heap l1 l2).objs.size=some _:=bU _ rfl;have g4:(zg5 T1 T2 s.heap l1 l2).get? (zg3 T1 T2 s.heap l1 l2).objs.size=some _:=aU _ (bU _ rfl);have g3:(zg5 T1 T2 s.heap l1 l2).get? (zg2 T1 T2 s.heap l1 l2).objs.size=some _:=aU _ (aU _<|bU _ rfl)
 have s2:vM T2 (zg5 T1 T2 s.heap l1 l2) (zg1 T1 s.heap l1).objs.size l2 0:=(vM.new (zg1 T1 s.heap l1) l2).at λo e=>aU _ (aU _<|aU _ e)
 have s1:vM T1 (zg5 T1 T2 s.heap l1 l2) s.heap.objs.size l1 0:=(vM.new s.heap l1).at λo e=>aU _ (aU _<|aU _<|aU _ e)
 have ap:ZAp (zg4 T1 T2 s.heap l1 l2).objs.size (zg2 T1 T2 s.heap l1 l2).objs.size (zg3 T1 T2 s.heap l1 l2).objs.size s.heap.objs.size (zg1 T1 s.heap l1).objs.size:=by
  rw[z1,z2,z3,z4];have k: ∀n a b:Nat,a≠b->n+a≠n+b:=λn a b h=>aa
  exact⟨k _ 2 4 ac,k _ 3 4 ac,k _ 0 4 ac,k _ 1 4 ac,k _ 2 3 ac,k _ 2 0 ac,k _ 2 1 ac,k _ 3 0 ac,k _ 3 1 ac,k _ 0 1 ac⟩
 refine⟨⟨_,g5,rfl⟩,h _ _ _ _ _ _ ap (λb hb=> ?_) ⟨g5,g3,⟨_,_,g4⟩,s1,s2⟩ λc o e=>aU _ (aU _<|aU _<|aU _<|aU _ e)⟩
 rw[z1,z2,z3,z4]at hb;simp only[aX,cM,cR]at hb;rcases hb with rfl|rfl|rfl|rfl|rfl<;>omega
end
section
variable {X:Cx}
def iZip (K:Frag)(ta:TA):TI:=λσ H R=>ta σ H λvs H1=> ∃l1 l2 T1 T2 xs ys,vs=[.ref l1,.ref l2]/\SqV K T1 H1 l1 xs/\SqV K T2 H1 l2 ys/\R (Itz K T1 T2 l1 l2) H1
theorem pi_zip {a b:Expr}{elts:List Expr}{kt:Nat}{tp:Pos}{ta:TA}{p pos:Pos}(hg:Gl X "zip")(hm:X.mg "zip"=none)(ha:PA X [a,b] ta)(hs:starEach [a,b] X.env=[(false,eval a X.env),(false,eval b X.env)]:=by rfl)(hs2:starEach [b] X.env=[(false,eval b X.env)]:=by rfl) :
  PI X (.Tuple elts kt tp) (.Call (.Name "zip" p) [a,b] [] pos) (iZip X.K ta):=by
 intro pins s σ H R I h;refine Call_ (wJ I hg hm PyProof.Rows.boot_zip<|j9 (thn (ha pos pins s σ H _ I h) λus s1 ⟨vs,H1,I1,r1,q1⟩=> ?_) (by rw[hs,hs2]) (by rw[hs2];rfl))
 obtain⟨l1,l2,T1,T2,xs,ys,e,q1,q2,q⟩:=q1;subst e;obtain⟨u,v,rfl,r,r'⟩:=Vals.two r1;cases r;cases r';obtain⟨is1,_,p1,_⟩:=I1.sq q1;obtain⟨is2,_,p2,_⟩:=I1.sq q2;refine d03 p1 p2 λh' z TI TO i1 i2 ap fr st k=>wpAny_pyIter_zip st.hz ?_
 have nl: ∀l,l<s1.heap.objs.size->l ∉ [z,TI,TO,i1,i2]:=λl hl hb=>absurd (b6 hl<|fr l hb) (d8 _)
 exact⟨z,[z,TI,TO,i1,i2],_,_,H1,rfl,I1.kept (t':=s1.toks) k,d02 ap (nl l1 p1.lt)<|nl l2 p2.lt,st,λb hb=>I1.fpOk (fr b hb) (I1.hok.fresh<|fr b hb),q⟩
end
theorem c24 {prog:Program}{w:World}{A:Around}{T:Bool}(hh:A.handled=none)(it a:Addr)(hne:a≠it)(xs:Array Value):Draws prog w A it [it,a] xs.size (λi v=>xs[i]? =some v) (λi h=>vM T h it a i/\vL T h a xs) where
 live:=λ_ _ st=>let ⟨o,ho,_⟩:=st.1.rec';⟨o,ho⟩
 frame:=λ_ _ _ st k=>⟨st.1.at λo e=>k it ae o e,st.2.at λo e=>k a ae o e⟩
 item:=λi s Q E hi st hQ=>b77 st.1 st.2 (x:=xs[i]) (by simp[hi]) λh' hit' m=>hQ _ h' s.toks (by simp[hi]) ⟨hit',st.2.at λo e=>m.extBut _ _ hne e⟩ m
 done:=λs Q E st hE=>bA3 hh st.1 st.2 ae hE
noncomputable def Ite (K:Frag)(T:Bool)(l:Addr):It where
 go:=λi H=> ∃xs x,SqV K T H l xs/\xs[i]? =some x
 yld:=λi H v H'=> ∃Tn x,v= .ref Tn/\H Tn=none/\H'=upd H Tn (.tup [.int (i:Int),x])/\ ∀xs,SqV K T H l xs->xs[i]? =some x
 stop:=λi H=> ∃xs,SqV K T H l xs/\xs.length=i
def ESt (T:Bool)(e it l:Addr)(i:Nat)(h:Heap):Prop:=(∃old,IsEnum h e it i old)/\vM T h it l i
theorem ESt.objs {T:Bool}{e it l:Addr}{i:Nat}{h:Heap}(st:ESt T e it l i h): ∀b∈[e,it],∃o,h.get? b=some o/\ ∀v,o.data≠ .cell v:=λb hb=>by
 obtain⟨⟨old,he⟩,h1⟩:=st;simp only[aX,cM,cR]at hb;rcases hb with rfl|rfl
 ·exact⟨_,he,λv q=>by cases q⟩
 ·exact h1.rec'
theorem cQ6 {P:Program}{w:World}{K:Frag}{elts:List Expr}{kt:Nat}{tp:Pos}{T:Bool}{e it l:Addr}(hei:e≠it)(nl:l ∉ [e,it]):c06 P w K (.Tuple elts kt tp) (Ite K T l) [e,it] e (ESt T e it l) where
 mem:=ae
 obj:=λi h st b hb=>st.objs b hb
 keep:=λi h h' st k=>by
  obtain⟨⟨old,he⟩,h1⟩:=st;exact⟨⟨old,k e ae _ he⟩,h1.at λo q=>k it ae o q⟩
 item:=by
  intro X hP hw hK hc i pins s σ H E I hf st hg;subst hP hw hK;obtain⟨xs,x,q1,e1⟩:=hg;obtain⟨is1,r1,p1,_⟩:=I.sq q1;obtain⟨u1,hu1,ru1⟩:=r1.get e1;simp only[aX,cM,cR,not_or]at nl;obtain⟨⟨old,he⟩,h1⟩:=id st;have hi:i<is1.toArray.size:=by rw[b7];exact(jY.mp hu1).1
  have D:=c24 (prog:=X.prog) (w:=X.w) (A:=X.A.in1) (T:=T) (I.ok.hd hc) it l nl.2 is1.toArray;refine wpAny_pyNext_enum_itemD D he ⟨h1,p1⟩ hi hei (by simp[hei,Ne.symm nl.1]) λv h' tk hv ho hs' ht hsz k=>⟨_,rfl,wpAny_letOwnedTupleGo_enum ho λh2 he2 m=> ?_⟩
  have ev:v=u1:=by
   have:is1.toArray[i]? =some u1:=by simpa using hu1
   rw[this]at hv;cases hv;rfl
  subst ev;have hne:s.heap.objs.size≠e:=qC (aV he);have kk: ∀b u,b ∉ [e,it]->s.heap.get? b=some u->h2.get? b=some u:=λb u nb q=>by
   simp only[aX,cM,cR,not_or]at nb;exact m.extBut _ _ nb.1 (k b u nb.1 nb.2 q)
  have ht2:h2.get? s.heap.objs.size=some {cls:= .type "tuple",data:= .seq #[.int i tk,v]}:=m.extBut _ _ hne ht;refine⟨.ref s.heap.objs.size,upd H s.heap.objs.size<|.tup [.int (i:Int),x],I.turnedNew (t':=tk+1) kk hf (aF _) ⟨c23,[.int i tk,v],.cons ⟨tk,rfl⟩<|.cons ru1 .nil,⟨_,ht2,rfl,_,rfl⟩⟩,rfl,
   ⟨_,x,rfl,I.hok.fresh<|aF _,rfl,λxs' q=>by rw[I.sq_inj q q1];exact e1⟩,⟨⟨_,by simpa using he2⟩,hs'.1.at λo q=>m.extBut _ _ (Ne.symm hei) q⟩,λb hb=> ?_⟩
  obtain⟨o,ho',_⟩:=st.objs b hb;rw[cG<|bG<|aV ho'];exact(hf b hb).1
 done:=by
  intro X hP hw hK hc i pins s σ H E I hf st hg;subst hP hw hK;obtain⟨xs,q1,hl⟩:=hg;obtain⟨is1,r1,p1,_⟩:=I.sq q1;have l1':=r1.length;simp only[aX,cM,cR,not_or]at nl;obtain⟨⟨old,he⟩,h1⟩:=id st;have D:=c24 (prog:=X.prog) (w:=X.w) (A:=X.A.in1) (T:=T) (I.ok.hd hc) it l nl.2 is1.toArray
  refine wpAny_pyNext_enum_endD D he ⟨by rw[b7,<-l1',hl];exact h1,p1⟩ λh' ex=>⟨rfl,I.turnedL (t':=s.toks) (λb u nb q=>ex b u (λz=>nb (by simp[z])) q) hf⟩
 self:=λ_ _ _ _ _ st h=>by
  obtain⟨⟨old,he⟩,_⟩:=st;exact wpAny_pyIter_enum he h
theorem cQ7 (l:Addr)(xs:Array Value):Meets (Builtin.«enumerate.__new__» ⟨[.type "enumerate",.ref l],[]⟩) (λ_ R s=>s.heap.IsTuple l xs/\
  R (.ok<|.ret<|.ref (s.heap.push<|a85 true l).objs.size) {s with heap:=(s.heap.push<|a85 true l).push {cls:= .type "enumerate",data:= .fields #[.none,.bool false,.ref s.heap.objs.size,rawInt 0,.none,.none]}}):= .of_wp λprog w A R s h=>by
 obtain⟨hp,g,d,tk,os⟩:=s;obtain⟨hl,h⟩:=h;obtain⟨⟨c,dct,dt,sl⟩,hg,hc,n,hd⟩:=id hl
 replace hc:c= .type "tuple":=hc
 replace hd:dt= .seq xs n:=hd
 subst hc hd;have hsub:=sub_enumerate;have e1:vL true (Shared.heap ⟨hp,g,d,tk,os⟩) l xs:=hl
 wp_walk using aK3 hg
 refine wpAny_stack_any λst=>aH ?_
 split
 ·rename_i c _ _ _ _ _
  cases (c==Value.type "enumerate")<;>(wp_walk using aK3 hg,aF0 e1;exact⟨_,rfl,h⟩)
 ·wp_walk using aK3 hg,aF0 e1
  exact⟨_,rfl,h⟩
section
variable {prog:Program}{w:World}{A:Around}{E:Value->Shared->Prop}{s:Shared}
theorem cQ8 {T:Bool}{l:Addr}{xs:Array Value}{Q:Value->Shared->Prop}(hl:vL T s.heap l xs)
  (h: ∀h' e it,e≠it->s.heap.objs.size<=e->s.heap.objs.size<=it->ESt T e it l 0 h'->(∀c o,s.heap.get? c=some o->h'.get? c=some o)->Q (.ref e) {s with heap:=h'}) :
  wpAny (model prog w) A (call (.type "enumerate") [.ref l]) Q E s:=by
 cases T with
 | false=>exact call_enumerate_list hl λh' he hit hsz k=>h h' _ _ aa aa aa ⟨⟨_,he⟩,hit⟩ k
 | true=>
  refine callType_new PySem.F.called_enumerate ac (PySem.F.typeCall_enumerate_1 _) (PySem.F.newCall_enumerate_1 _) (λobj=>PySem.F.args_object_init_2 obj _) PySem.F.entry_enumerate_new (cQ7 l xs) ⟨hl,?_⟩
  have z1:(s.heap.push<|a85 true l).objs.size=s.heap.objs.size+1:=iM ..;have he:IsEnum ((s.heap.push<|a85 true l).push {cls:= .type "enumerate",data:= .fields #[.none,.bool false,.ref s.heap.objs.size,rawInt 0,.none,.none]}) (s.heap.push<|a85 true l).objs.size s.heap.objs.size 0 .none:=bU _ rfl
  have hi:vM true ((s.heap.push<|a85 true l).push {cls:= .type "enumerate",data:= .fields #[.none,.bool false,.ref s.heap.objs.size,rawInt 0,.none,.none]}) s.heap.objs.size l 0:=(vM.new (T:=true) s.heap l).at λo e=>aU _ e
  exact⟨⟨_,he,rfl⟩,h _ _ _ (by rw[z1];omega) (by rw[z1];omega) (aF _) ⟨⟨_,he⟩,hi⟩ λc o e=>aU _ (aU _ e)⟩
end
section
variable {X:Cx}
def iEnum (K:Frag)(ta:TA):TI:=λσ H R=>ta σ H λvs H1=> ∃l T xs,vs=[.ref l]/\SqV K T H1 l xs/\R (Ite K T l) H1
theorem dE2 {a:Expr}{elts:List Expr}{kt:Nat}{tp:Pos}{ta:TA}{p pos:Pos}(hg:Gl X "enumerate")(hm:X.mg "enumerate"=none)(ha:PA X [a] ta)(hs:starEach [a] X.env=[(false,eval a X.env)]:=by rfl) :
  PI X (.Tuple elts kt tp) (.Call (.Name "enumerate" p) [a] [] pos) (iEnum X.K ta):=by
 intro pins s σ H R I h;refine Call_ (wJ I hg hm PyProof.Rows.boot_enumerate<|j9 (thn (ha pos pins s σ H _ I h) λus s1 ⟨vs,H1,I1,r1,q1⟩=> ?_) hs rfl)
 obtain⟨l,T,xs,e,q1,q⟩:=q1;subst e;obtain⟨u,rfl,r⟩:=vals1 r1;cases r;obtain⟨is1,_,p1,_⟩:=I1.sq q1;refine cQ8 p1 λh' e it ne f1 f2 st k=> ?_
 obtain⟨⟨old,he⟩,_⟩:=id st;refine wpAny_pyIter_enum he ?_;have lt:=p1.lt;have fr: ∀b∈[e,it],s1.heap.objs.size<=b:=λb hb=>by
  simp only[aX,cM,cR]at hb;rcases hb with rfl|rfl
  ·exact f1
  ·exact f2
 exact⟨e,[e,it],_,_,H1,rfl,I1.kept (t':=s1.toks) k,cQ6 ne λhb=>absurd (b6 lt<|fr l hb) (d8 _),st,λb hb=>I1.fpOk (fr b hb) (I1.hok.fresh<|fr b hb),q⟩
end
end L2
end
section
namespace L2
open PySem PySem.Spec PyProof.Rows
theorem b47:isSubtype (.type "range_iterator") (.type "reversed")=pure false:=by rw[pZ];kernel_rfl
theorem aX6 {n:Int}(h1: -(2^31)<=n)(h2:n<2^31):Builtin.Range.rangeFitsLong n=true:=by
 simp[Builtin.Range.rangeFitsLong]
 lia
noncomputable def aR8 (n:Int):Obj:={cls:= .type "range_iterator",data:= .fields #[rawInt<|(n.toNat:Int)-1,rawInt (n.toNat:Int),rawInt<|-1]}
theorem bJ3 (r:Addr)(a b c:Int)(t u v:Tok)(hc0: ¬(!(Builtin.Range.rangeFitsLong a&&Builtin.Range.rangeFitsLong b&&Builtin.Range.rangeFitsLong c&&Builtin.Range.rangeFitsLong (-c)&&Builtin.Range.rangeFitsLong (a-c)&&Builtin.Range.rangeFitsLong (Builtin.Range.rangeSize a b c)))=true) :
  Meets (Builtin.«range.__reversed__» ⟨[.ref r],[]⟩) (λ_ R s=>s.heap.get? r=some {cls:= .type "range",dict:=none,data:= .fields #[.int a t,.int b u,.int c v],slots:= #[]}/\
  R (.ok<|.ret<|Value.ref s.heap.objs.size) {s with heap:=s.heap.push {cls:=Value.type (if(Builtin.Range.rangeFitsLong a&&Builtin.Range.rangeFitsLong b&&Builtin.Range.rangeFitsLong c&&Builtin.Range.rangeFitsLong (-c)&&Builtin.Range.rangeFitsLong (a-c)&&Builtin.Range.rangeFitsLong (Builtin.Range.rangeSize a b c))=true then "range_iterator" else "longrange_iterator"),data:=Data.fields #[rawInt<|a+(Builtin.Range.rangeSize a b c-1)*c,rawInt<|Builtin.Range.rangeSize a b c,rawInt<|-c]},toks:=s.toks}):= .of_wp λprog w A R s h=>by
 obtain⟨hp,g,d,tk,os⟩:=s;obtain⟨hl,h⟩:=h
 wp_walk
 exact⟨_,rfl,h⟩
theorem b48 (r:Addr)(n:Int)(t u v:Tok)(h1: -(2^31)<=n)(h2:n<2^31):Meets (Builtin.«range.__reversed__» ⟨[.ref r],[]⟩) (λ_ R s=>IsRange s.heap r 0 n 1 t u v/\
  R (.ok<|.ret<|.ref s.heap.objs.size) {s with heap:=s.heap.push (aR8 n)}):=by
 have e0:Builtin.Range.rangeSize 0 n 1=(n.toNat:Int):=by rw[rangeSize_one];split<;>lia
 have sm:(Builtin.Range.rangeFitsLong 0&&Builtin.Range.rangeFitsLong n&&Builtin.Range.rangeFitsLong 1&&Builtin.Range.rangeFitsLong (-1)&&Builtin.Range.rangeFitsLong (0-1)&&Builtin.Range.rangeFitsLong (Builtin.Range.rangeSize 0 n 1))=true:=by
  rw[e0,aX6 h1 h2,aX6 (n:=0) ac ac,aX6 (n:=1) ac ac,aX6 (n:= -1) ac ac,aX6 (n:=0-1) ac ac,aX6 (n:=(n.toNat:Int)) ad ad]
  rfl
 have G:=bJ3 r 0 n 1 t u v (by rw[sm];decide)
 intro prog w A R s h;refine G prog w A R s ⟨h.1,?_⟩;rw[sm,a9 rfl,e0];have e1:(0:Int)+((n.toNat:Int)-1)*1=(n.toNat:Int)-1:=ad
 rw[e1];exact h.2
section
variable {prog:Program}{w:World}{A:Around}{E:Value->Shared->Prop}{s:Shared}
theorem c25 {r:Addr}{n:Int}{t u v:Tok}{Q₁:Value->Shared->Prop}(hr:IsRange s.heap r 0 n 1 t u v)(h1: -(2^31)<=n)(h2:n<2^31)
  (h:Q₁ (.ref s.heap.objs.size) {s with heap:=s.heap.push (aR8 n)}) :
  codeAny (model prog w) A (.call (.builtin "reversed.__new__") ⟨[.type "reversed",.ref r],[]⟩) (wants Q₁ E) s:=by
 have hT:s.TypeIs (.ref r) "range":=⟨_,hr,rfl⟩;refine codeAny_of_tree ?_;show wpAny _ A.in1 (do checkBuiltinCall "reversed.__new__" ⟨[.type "reversed",.ref r],[]⟩;again (.builtin "reversed.__new__" ⟨[.type "reversed",.ref r],[]⟩)) _ _ s;refine aA (jG (PySem.F.newCall_reversed_1 _)<|aH ⟨plainId_quiet PySem.F.plain_reversed_new _,codeAny_builtin PySem.F.entry_reversed_new ?_⟩)
 rw[Around.under_plainId PySem.F.plain_reversed_new _];unfold Builtin.«reversed.__new__»;refine aA (jG (newClass_reversed _) ?_);try dsimp only
 refine aA (jG (a:=()) (by first|rfl|kernel_rfl) ?_);refine aA (jG (a:=()) (by first|rfl|kernel_rfl) ?_);try dsimp only
 refine aA (wpAny_specialOf hT PySem.F.slot_range_reversed.lookup ?_);try dsimp only
 refine aA (jG (PySem.F.slot_range_reversed.bind _) ?_);try dsimp only
 first
 | rw[a6<|show ¬((Value.builtin "range.__reversed__"==Value.none)=true)from bD]
 | (show wpAny _ _ (if(Value.builtin "range.__reversed__"==Value.none)=true then _ else _) _ _ _;rw[a6<|show ¬((Value.builtin "range.__reversed__"==Value.none)=true)from bD])
 refine aA (nN ?_)
 refine aA (m:=runValue (.call (.builtin "range.__reversed__") ⟨[.ref r],[]⟩)) (show wpAny _ _ (call (.builtin "range.__reversed__") [.ref r]) _ _ _ from jH PySem.F.slot_range_reversed hT PySem.F.entry_range_reversed (PySem.F.args_range_reversed_1 _) (b48 r n t u v h1 h2) ⟨hr,?_⟩)
 first
 | exact aH h
 | exact aA (aH<|aH h)
theorem dE3 {r:Addr}{n:Int}{t u v:Tok}{Q:Value->Shared->Prop}(hr:IsRange s.heap r 0 n 1 t u v)(h1: -(2^31)<=n)(h2:n<2^31)(h:Q (.ref s.heap.objs.size) {s with heap:=s.heap.push (aR8 n)}) :
  wpAny (model prog w) A (call (.type "reversed") [.ref r]) Q E s:=by
 refine callType_other (U:="range_iterator") (Q₁:=λobj s₁=>obj= .ref s.heap.objs.size/\s₁={s with heap:=s.heap.push (aR8 n)}) af PySem.F.create_reversed ⟨_,_,PySem.F.mro_reversed⟩ PySem.F.made_reversed b47 (PySem.F.typeCall_reversed_1 _) (c25 hr h1 h2 ⟨rfl,rfl⟩) ?_
 rintro obj s₁ ⟨rfl,rfl⟩;exact⟨⟨_,bU _ rfl,rfl⟩,h⟩
end
section
variable {X:Cx}{tg:Expr}
def iRevR (ta:TA):TI:=λσ H R=>ta σ H λvs H1=> ∃j:Int,vs=[.int j]/\ -(2^31)<=j/\j<2^31/\R (Itd ((j.toNat:Int)-1) j.toNat) H1
theorem c26 {a:Expr}{ta:TA}{p p2 pos pos2:Pos}(hg:Gl X "reversed")(hm:X.mg "reversed"=none)(hg2:Gl X "range")(hm2:X.mg "range"=none)(ha:PA X [a] ta)(hs:starEach [a] X.env=[(false,eval a X.env)]:=by rfl)
  (hs2:starEach [.Call (.Name "range" p2) [a] [] pos2] X.env=[(false,eval (.Call (.Name "range" p2) [a] [] pos2) X.env)]:=by rfl) :
  PI X tg (.Call (.Name "reversed" p) [.Call (.Name "range" p2) [a] [] pos2] [] pos) (iRevR ta):=by
 intro pins s σ H R I h;refine Call_ (wJ I hg hm PyProof.Rows.boot_reversed<|j9 ?_ hs2 rfl);rw[hs2];show wpAny _ _ (spliced ((false,eval (.Call (.Name "range" p2) [a] [] pos2) X.env)::[])) _ _ s;refine Calls.spliced_cons (Call_<|wJ I hg2 hm2 boot_range<|j9 (thn (ha pos2 pins s σ H _ I h) λus s1 ⟨vs,H1,I1,r1,q1⟩=> ?_) hs rfl)
 obtain⟨j,e,q1,q2,q⟩:=q1;subst e;obtain⟨u,rfl,t,rfl⟩:=vals1 r1;refine call_range_1 (Calls.spliced_nil ?_);have I2:Inv X pins σ H1 {s1 with heap:=s1.heap.push {cls:= .type "range",data:= .fields #[.int 0 s1.toks,.int j t,.int 1<|s1.toks+1]},toks:=s1.toks+1+1}:=I1.kept λb o e=>aU _ e
 refine dE3 (IsRange.new ..) q1 q2 ?_
 have hi:IsRangeIter (((s1.heap.push {cls:= .type "range",data:= .fields #[.int 0 s1.toks,.int j t,.int 1<|s1.toks+1]})).push<|aR8 j) (s1.heap.push {cls:= .type "range",data:= .fields #[.int 0 s1.toks,.int j t,.int 1<|s1.toks+1]}).objs.size ((j.toNat:Int)-1) (j.toNat:Int) (-1):=bU _ rfl;refine aL1 hi ?_
 refine⟨_,[(s1.heap.push {cls:= .type "range",data:= .fields #[.int 0 s1.toks,.int j t,.int 1<|s1.toks+1]}).objs.size],_,_,H1,rfl,I2.kept (t':=s1.toks+1+1) λb o e=>aU _ e,bO5 _ ((j.toNat:Int)-1) j.toNat,?_,λb hb=> ?_,q⟩
 ·show IsRangeIter _ _ (((j.toNat:Int)-1)+((0:Nat):Int)*(-1)) ((j.toNat:Int)-((0:Nat):Int)) (-1)
  have e1:((j.toNat:Int)-1)+((0:Nat):Int)*(-1)=(j.toNat:Int)-1:=ae
  have e2:(j.toNat:Int)-((0:Nat):Int)=(j.toNat:Int):=ae
  rw[e1,e2];exact hi
 ·have e:b=(s1.heap.push {cls:= .type "range",data:= .fields #[.int 0 s1.toks,.int j t,.int 1<|s1.toks+1]}).objs.size:=by simpa using hb
  subst e;exact I2.fpOk (aF _) (I2.hok.fresh<|aF _)
theorem d04:PGet X (rIxL X.K):=by
 intro pins s σ H o i ov iv Q I ro ri h;obtain⟨p,xs,k,z,rfl,rfl,hq,he,q⟩:=h;cases ro;obtain⟨t,rfl⟩:=ri;obtain⟨its,r,pl,hz⟩:=I.list hq;obtain⟨j,h1,h2,h3,h4,h5⟩:=b73 he;obtain⟨w,ew,rw'⟩:=r.get h2;have hl:=r.length;have hn:=aW5;have fin:EP X pins σ Q w s:=⟨z,H,I,rw',q⟩
 by_cases h0:0<=k
 ·have hj:k.toNat=j:=by
   rw[a02 h0 h5]at h1;exact gE h1
  exact wpAny_getItem_list pl.isList h0 ad (by rw[hj];simpa using ew) fin
 ·have hj:(k+(its.toArray.size:Int)).toNat=j:=by
   rw[zY ad h4]at h1
   rw[b7,<-hl];exact gE h1
  exact wpAny_getItem_list_neg pl.isList ad (by rw[b7]<;>lia) ad (by rw[hj];simpa using ew) fin
end
end L2
namespace HT
open PySem PyProof.Rows
section
variable {prog:Program}{w:World}{A:Around}{E:Value->Shared->Prop}{s:Shared}
theorem getItem_tuple_whole {t sl:Addr}{items:Array Value}{vl vu:Value}{lo hi:Option Int}{Q:Value->Shared->Prop}(ht:IsTup s.heap t items)(hs:s.heap.IsSliceOf sl vl vu .none)(pl:IsPart vl lo)(pu:IsPart vu hi)
  (hw:sIx items.size 0 lo=0/\sIx items.size items.size hi=items.size) (h:Q (.ref t) s):wpAny (model prog w) A (getItem (.ref t)<|.ref sl) Q E s:=by
 obtain⟨os,hos,hcs,hds⟩:=id hs;have hTs:s.TypeIs (.ref sl) "slice":=⟨os,hos,hcs⟩;unfold getItem;try with_reducible refine iN ?_
 first|refine aA (aH ?_)|skip
 refine aA (wpAny_sequenceKey ht.typeIs ac ?_)
 refine aA (jZ (name:=Str.ofString "__getitem__") ht.typeIs yW<|iK yW ht.typeIs entry_tuple_getitem ?_<|args_tuple_getitem _ _)
 show wpAny _ _ (Builtin.Tuple.tupleItemsOf (.ref t) >>= _) _ _ s
 refine aA (tupleItemsOf_ ht ?_)
 refine aA (zX hTs ?_)
 rw[a9 ac]
 refine aA (yA hs pl pu ?_)
 have hyes:(((sIx items.size 0 lo:Nat):Int)==0&&(1:Int)==1&&(sIx items.size items.size hi-sIx items.size 0 lo)==items.size)=true:=by
  rw[hw.1,hw.2];simp
 show wpAny _ _ (if(((sIx items.size 0 lo:Nat):Int)==0&&(1:Int)==1&&(sIx items.size items.size hi-sIx items.size 0 lo)==items.size)=true then _ else _) _ _ s
 rw[a9 hyes];show wpAny _ _ (Builtin.Tuple.tupleIsExact (.ref t) >>= _) _ _ s;unfold Builtin.Tuple.tupleIsExact;refine aA (aA<|zX ht.typeIs<|aH ?_);show wpAny _ _ (if(Value.type "tuple"==Value.type "tuple")=true then _ else _) _ _ s;rw[a9 ac]
 refine aA (nN ?_)
 first
  | exact aH ⟨_,rfl,aH h⟩
  | exact aA (aH<|aH ⟨_,rfl,aH h⟩)
  | exact aA (aH ⟨_,rfl,aH h⟩)
end
end HT
namespace L2
open PySem PySem.Spec PyProof.Rows
section
variable {X:Cx}
def rSlW (K:Frag):V->Option Int->Option Int->Hp->VK->Prop:=λx lo hi H Q=> ∃a xs,x= .ref a/\SqT K H a xs/\(HT.sIx xs.length 0 lo=0/\HT.sIx xs.length xs.length hi=xs.length)/\Q (.ref a) H
theorem d05:SlR X (rSlW X.K):=by
 intro pins s σ H x v vl vu lo hi sl Q I rx hs pl pu h;obtain⟨a,xs,rfl,hx,hw,q⟩:=h;cases rx;obtain⟨its,r,ht,hz⟩:=I.tuple hx;have hlen:its.toArray.size=xs.length:=by rw[b7];exact r.length.symm
 exact⟨"tuple",_,PyProof.Rows.slot_tuple_getitem.lookup,ht.typeIs,HT.getItem_tuple_whole ht hs pl pu (by rw[hlen];exact hw) ⟨.ref a,H,I,rfl,q⟩⟩
end
end L2
namespace M
open PySem PySem.Spec PyProof.Rows L2
section
variable {X:Cx}{K:Frag}{A:AS}{H:Hp}{e a b:Expr}{te ti:UE}{pos p2:Pos}{C:C0}{ρ ρ':Ev}{σ:L2.St}
def gSlT (d:D)(lo hi:Option Int)(Q:B->Prop):Prop:=match d with
 | .tup l=>Q (.pu<|.tup<|cutD l lo hi)
 | .lst l=>Q (.ow<|cutD l lo hi)
 | .rol l=>Q (.ow<|cutD l lo hi)
 | _=>False
def c27 (t:UE)(tl th:UO):UE:=λρ Q=>t ρ λb0 ρ1=>tl ρ1 λlo ρ2=>th ρ2 λhi ρ3=>gSlT b0.d lo hi λb=>Q b ρ3
theorem cQ9 (l:List D)(lo hi:Option Int)(h:HT.sIx l.length 0 lo=0/\HT.sIx l.length l.length hi=l.length):cutD l lo hi=l:=by
 unfold cutD;rw[h.1,h.2];simp
theorem tI {tl th:UO}{lo hi:Option Expr}(he:PU X e te)(hl:PUO X lo tl)(hu:PUO X hi th):PU X (.Subscript e (.Slice lo hi none p2) pos) (c27 te tl th):=
 iU (c14 ((cJ3.or cY0).or d05) he hl hu) λσ H Q ⟨C,ρ,Q0,I,h,k⟩=>⟨C,ρ,_,I,h,λb0 ρ1 v H1 q f s r=>by
  have I1:=(I.frz f).same s;have rr:=r.rep λa z=>I.avF f z
  refine⟨C,ρ1,_,I1,q,λl2 ρ2 H2 q2 f2 s2=> ?_⟩
  have I2:=(I1.frz f2).same s2;refine⟨C,ρ2,_,I2,q2,λh3 ρ3 H3 q3 f3 s3=> ?_⟩
  have I3:=(I2.frz f3).same s3;have s13:=s2.trans s3;have sAll:=s.trans s13;have fAll:=f.trans (f2.trans f3);have r':Rep X.K (Av C ρ3 σ) H3 b0.d v:=rr.mono (.sub s13 λa z=>f2.av (f3.av z))
  generalize b0.d=d at r' q3;cases d with
  | tup l=>
   have r2:=r';simp only[Rep]at r';obtain⟨a,vs,rfl,c,rs⟩:=r';have hlen:=rs.length
   by_cases hw:HT.sIx l.length 0 l2=0/\HT.sIx l.length l.length h3=l.length
   ·refine .inr ⟨a,vs,rfl,c.imp cQ id,by rw[<-hlen];exact hw,k _ ρ3 _ _ q3 fAll sAll ?_⟩
    show Rep _ _ _ (.tup<|cutD l l2 h3) _
    rw[cQ9 l l2 h3 hw];exact r2
   ·exact .inl (.inr ⟨a,vs,rfl,c.imp cQ id,by rw[<-hlen];exact hw,λp n=>k _ ρ3 _ _ q3 fAll (sAll.trans<|eI n _) (iC (λa z=>I3.avSome z) n<|rs.cut l2 h3)⟩)
  | lst l=>
   simp only[Rep]at r';obtain⟨a,vs,rfl,n0,c,rs⟩:=r';exact .inl (.inl ⟨a,vs,rfl,SqL.of c,λp n=>k _ ρ3 _ _ q3 fAll (sAll.trans<|eI n _) (gP sAll n<|rs.cut l2 h3)⟩)
  | rol l=>
   simp only[Rep]at r';obtain⟨a,vs,rfl,c,rs⟩:=r';exact .inl (.inl ⟨a,vs,rfl,c.imp cQ id,λp n=>k _ ρ3 _ _ q3 fAll (sAll.trans<|eI n _) (gP sAll n<|rs.cut l2 h3)⟩)
  | _=>exact(show False from q3).elim⟩
def d06 (i:Nat)(f:Int->Int->Int)(ti te:UE):US:=λD ρ=>o7 ρ i λ_=>ti ρ λj ρ1=>o7 ρ1 i λl1=> ∃k n x,j.d= .int k/\ixN l1.length k=some n/\l1[n]? =some (.int x)/\
 te ρ1 λb ρ2=>o7 ρ2 i λl=> ∃y,b.d= .int y/\D.nx (ρ2.set i<|some<|.ow<|l.set n<|.int<|f x y)
theorem dE4 {x:Str}{p tpos:Pos}{ix:Expr}{op:Operator}{f:Int->Int->Int}(i:Nat)(hx:PE X (.Name x p) (aG6 i))(hi:PU X ix ti)(he:PU X e te)(hp:PIp X op (ipI f))
  (ha: ∀ov iv new,augStore ix ov iv new=(do holding [new,ov,iv] (setItem ov iv new);release [new,ov,iv] [];pure .next):=by intros;rfl):PUS X (.AugAssign (.Subscript (.Name x p) ix tpos) op e pos) (d06 i f ti te):=
 rD (dA7 hx hi d04 he hp c16 ha) λD σ H ⟨C,ρ,D0,I,h,k⟩=>by
  obtain⟨l,hl,h⟩:=iY h;obtain⟨a,vs,h1,h2,h3,h4⟩:=I.ow i l hl;refine⟨.ref a,h1,C,ρ,_,I,h,λj ρ1 w H1 q f1 s1 r1=> ?_⟩
  obtain⟨l1,hl1,kk,n,x0,ej,en,ex,q⟩:=iY q;have e1:=f1.ow hl1;rw[hl]at e1;cases e1;have I1:=(I.frz f1).same s1;obtain⟨a1,vs1,g1,g2,g3,g4⟩:=I1.ow i l hl1;rw[h1]at g1;cases g1;have rj:=r1.rep λa z=>I.avF f1 z
  rw[ej]at rj;have:=bL rj;subst this;obtain⟨v0,ev0,rv0⟩:=g4.get ex;have:=bL rv0;subst this;have hat:L2.atI vs1 kk=some (.int x0):=by unfold L2.atI;rw[<-g4.length,en];exact ev0
  refine⟨a,vs1,kk,_,rfl,rfl,SqL.of g2,hat,C,ρ1,_,I1,q,λb ρ2 w2 H2 q2 f2 s2 r2=> ?_⟩
  obtain⟨l2,hl2,y,eb,q2⟩:=iY q2;have e2:=f2.ow hl2;rw[hl1]at e2;cases e2;have I2:=(I1.frz f2).same s2;obtain⟨a2,vs2,k1,k2,k3,k4⟩:=I2.ow i l hl2;rw[h1]at k1;cases k1;have rb:=r2.rep λa z=>I1.avF f2 z
  rw[eb]at rb;have:=bL rb;subst this;exact⟨x0,y,rfl,rfl,a,vs2,kk,n,rfl,rfl,k2,by rw[<-k4.length];exact en,k.nx _ _ _ q2<|I2.write hl2 h1<|k4.set n<|show Rep _ _ _ _ _ by simp only[Rep]⟩
mutual
noncomputable def pd:D->Option PyData
 | .non=>some .none
 | .bl b=>some (.bool b)
 | .int i=>some (.int i)
 | .tup l=>(pdL l).map .tuple
 | .lst l=>(pdL l).map .list
 | .rol l=>(pdL l).map .list
 | .str s=>if PyData.canLay0 (.str s)=true then some (.str s)else none
 | .ty _=>none
 | .obj _ _ _=>none
 | .adr _=>none
 | .xob _ _ _ _=>none
noncomputable def pdL:List D->Option (List PyData)
 | []=>some []
 | d::r=>(pd d).bind λx=>(pdL r).map (x::·)
end
theorem c28 {d:D}{r:List D}{xs:List PyData}(h:pdL (d::r)=some xs): ∃x ys,xs=x::ys/\pd d=some x/\pdL r=some ys:=by
 simp only[pdL]at h;cases e:pd d with
 | none=>rw[e]at h;cases h
 | some x=>
  rw[e]at h;cases e2:pdL r with
  | none=>rw[e2]at h;cases h
  | some ys=>rw[e2]at h;cases h;exact⟨x,ys,rfl,rfl,rfl⟩
theorem tJ {α β:Type}{o:Option α}{f:α->β}{y:β}(h:o.map f=some y): ∃x,o=some x/\y=f x:=by
 cases o with
 | none=>cases h
 | some x=>cases h;exact⟨x,rfl,rfl⟩
mutual
theorem aX7: ∀(d:D) {x:PyData},pd d=some x->x.canLay0=true
 | .non,x,h=>by simp only[pd]at h;cases h;rfl
 | .bl b,x,h=>by simp only[pd]at h;cases h;rfl
 | .int i,x,h=>by simp only[pd]at h;cases h;rfl
 | .tup l,x,h=>by simp only[pd]at h;obtain⟨xs,e,rfl⟩:=tJ h;simp only[PyData.canLay0];exact b78 l e
 | .lst l,x,h=>by simp only[pd]at h;obtain⟨xs,e,rfl⟩:=tJ h;simp only[PyData.canLay0];exact b78 l e
 | .rol l,x,h=>by simp only[pd]at h;obtain⟨xs,e,rfl⟩:=tJ h;simp only[PyData.canLay0];exact b78 l e
 | .str s,x,h=>by simp only[pd]at h;split at h;(rename_i c;cases h;exact c);cases h
 | .ty _,x,h=>by simp only[pd]at h;cases h
 | .obj _ _ _,x,h=>by simp only[pd]at h;cases h
 | .adr _,x,h=>by simp only[pd]at h;cases h
 | .xob _ _ _ _,x,h=>by simp only[pd]at h;cases h
theorem b78: ∀(l:List D) {xs:List PyData},pdL l=some xs->PyData.canLayAll0 xs=true
 | [],xs,h=>by simp only[pdL]at h;cases h;rfl
 | d::r,xs,h=>by
  obtain⟨x,ys,rfl,e1,e2⟩:=c28 h;simp only[PyData.canLayAll0,dN];exact⟨aX7 d e1,b78 r e2⟩
end
section
variable {pins:List (Addr×Obj)}{s:Shared}
mutual
theorem yE (I:Inv X pins σ H s): ∀(d:D) {x:PyData} {v:V} {u:Value},pd d=some x->Rep X.K A H d v->RelV v u-> ∃as,Reads s.heap u x as
 | .non,x,v,u,h,r,q=>by simp only[pd]at h;cases h;simp only[Rep]at r;subst r;cases q;exact⟨_,.none⟩
 | .bl b,x,v,u,h,r,q=>by simp only[pd]at h;cases h;simp only[Rep]at r;subst r;cases q;exact⟨_,.bool b⟩
 | .int i,x,v,u,h,r,q=>by simp only[pd]at h;cases h;simp only[Rep]at r;subst r;obtain⟨t,rfl⟩:=q;exact⟨_,.int i t⟩
 | .tup l,x,v,u,h,r,q=>by
  simp only[pd]at h;obtain⟨xs,e,rfl⟩:=tJ h;simp only[Rep]at r;obtain⟨a,vs,rfl,c,rs⟩:=r;cases q;obtain⟨its,rv,⟨o,ho,hc,n,hd⟩,hz⟩:=I.tuple (c.imp cQ id);obtain⟨as,ra⟩:=a08 I l e rs rv;exact⟨_,.tuple ho hc hd<|by simpa using ra⟩
 | .lst l,x,v,u,h,r,q=>by
  simp only[pd]at h;obtain⟨xs,e,rfl⟩:=tJ h;simp only[Rep]at r;obtain⟨a,vs,rfl,n0,c,rs⟩:=r;cases q;obtain⟨its,rv,p,hz⟩:=I.list (SqL.of c);obtain⟨o,ho,hc,n,hd⟩:=p.isList;obtain⟨as,ra⟩:=a08 I l e rs rv;exact⟨_,.list ho hc hd<|by simpa using ra⟩
 | .rol l,x,v,u,h,r,q=>by
  simp only[pd]at h;obtain⟨xs,e,rfl⟩:=tJ h;simp only[Rep]at r;obtain⟨a,vs,rfl,c,rs⟩:=r;cases q;obtain⟨its,rv,p,hz⟩:=I.list (c.imp cQ id);obtain⟨o,ho,hc,n,hd⟩:=p.isList;obtain⟨as,ra⟩:=a08 I l e rs rv;exact⟨_,.list ho hc hd<|by simpa using ra⟩
 | .str i,x,v,u,h,r,q=>by simp only[pd]at h;split at h<;>cases h;simp only[Rep]at r;subst r;obtain⟨t,rfl⟩:=q;exact⟨_,.str i t⟩
 | .ty _,x,v,u,h,r,q=>by simp only[pd]at h;cases h
 | .obj _ _ _,x,v,u,h,r,q=>by simp only[pd]at h;cases h
 | .adr _,x,v,u,h,r,q=>by simp only[pd]at h;cases h
 | .xob _ _ _ _,x,v,u,h,r,q=>by simp only[pd]at h;cases h
theorem a08 (I:Inv X pins σ H s): ∀(l:List D) {xs:List PyData} {vs:List V} {us:List Value},pdL l=some xs->bK X.K A H l vs->Vals vs us-> ∃as,ReadsAll s.heap us xs as
 | [],xs,vs,us,h,r,q=>by simp only[pdL]at h;cases h;have:=r.unnil;subst this;cases q;exact⟨_,.nil⟩
 | d::l,xs,vs,us,h,r,q=>by
  obtain⟨x,ys,rfl,e1,e2⟩:=c28 h;obtain⟨v,vr,rfl,r1,rs⟩:=r.uncons;cases q with
  | cons q1 q2=>
   obtain⟨as,h1⟩:=yE I d e1 r1 q1;obtain⟨bs,h2⟩:=a08 I l e2 rs q2;exact⟨_,.cons h1 h2⟩
end
end
def bJ4 (neg:Bool)(d e:D)(Q:B->Prop):Prop:= ∃p q,pd d=some p/\pd e=some q/\p.depth<=60/\Q (.pu<|.bl<|neg ^^ p.eqv q)
theorem cE0 (hu:X.A.units+64<cLine):OpU X (compareOp .Eq) (bJ4 false):=by
 intro A H d e v w Q0 Q hA r1 r2 g k;obtain⟨p,q,e1,e2,hd,g⟩:=g;refine⟨λx y H Q=> ∃(A:AS) (d e:D) (p q:PyData),Rep X.K A H d x/\Rep X.K A H e y/\pd d=some p/\pd e=some q/\p.depth<=60/\Q (.bl<|p.eqv q) H,?_,A,d,e,p,q,r1,r2,e1,e2,hd,k _ _ H g (.refl _) (by rw[kC];exact oC)⟩
 rintro pins s σ H x y v u Q I rx ry ⟨A,d,e,p,q,r1,r2,e1,e2,hd,h⟩;obtain⟨as,ra⟩:=yE I d e1 r1 rx;obtain⟨bs,rb⟩:=yE I e e2 r2 ry;exact SeqAt.compareEq_reads ra rb (aX7 d e1) (aX7 e e2) ad ⟨.bl _,H,I,rfl,h⟩
theorem d07 (hu:X.A.units+64<cLine):OpU X (compareOp .NotEq) (bJ4 true):=by
 intro A H d e v w Q0 Q hA r1 r2 g k;obtain⟨p,q,e1,e2,hd,g⟩:=g;refine⟨λx y H Q=> ∃(A:AS) (d e:D) (p q:PyData),Rep X.K A H d x/\Rep X.K A H e y/\pd d=some p/\pd e=some q/\p.depth<=60/\Q (.bl<|!(p.eqv q)) H,?_,A,d,e,p,q,r1,r2,e1,e2,hd,k _ _ H g (.refl _) (by rw[nI];exact oC)⟩
 rintro pins s σ H x y v u Q I rx ry ⟨A,d,e,p,q,r1,r2,e1,e2,hd,h⟩;obtain⟨as,ra⟩:=yE I d e1 r1 rx;obtain⟨bs,rb⟩:=yE I e e2 r2 ry;exact SeqAt.compareNe_reads ra rb (aX7 d e1) (aX7 e e2) ad ⟨.bl _,H,I,rfl,h⟩
def SqA (K:Frag)(A:AS)(H:Hp)(T:Bool)(a:Addr)(vs:List V):Prop:=match T with
 | false=>(¬A a/\Rd H a (.lst vs))\/KL K a vs
 | true=>(¬A a/\Rd H a (.tup vs))\/KT K a vs
theorem SqA.sqv {T:Bool}{a':Addr}{vs:List V}{A':AS}{H':Hp}(c:SqA K A H T a' vs)(P:lX A H A' H'):SqV K T H' a' vs:=by
 cases T<;>(rcases c with⟨n,c⟩|c;exact .inl (Rd.pres P n c).2;exact .inr c)
theorem lX.self:lX A H A H:=λ_ _ n e=>⟨n,e⟩
theorem Rep.sq {d:D}{v:V}{l:List D}(r:Rep K A H d v)(h:nZ d=some l): ∃T a vs,v= .ref a/\SqA K A H T a vs/\bK K A H l vs:=by
 cases d with
 | tup l'=>cases h;simp only[Rep]at r;obtain⟨a,vs,e,c,r⟩:=r;exact⟨true,a,vs,e,c,r⟩
 | lst l'=>cases h;simp only[Rep]at r;obtain⟨a,vs,e,n,c,r⟩:=r;exact⟨false,a,vs,e,.inl ⟨n,.inl c⟩,r⟩
 | rol l'=>cases h;simp only[Rep]at r;obtain⟨a,vs,e,c,r⟩:=r;exact⟨false,a,vs,e,c,r⟩
 | _=>cases h
theorem bK.at {l:List D}{vs:List V}{i:Nat}(r:bK K A H l vs)(hi:i<l.length): ∃x,vs[i]? =some x/\Rep K A H (l.getD i .non) x:=r.get (by rw[aJ,aO hi];rfl)
theorem d08 {T1 T2:Bool}{l1 l2:Addr}{vs ws:List V}{l m:List D}(c1:SqA K A H T1 l1 vs)(c2:SqA K A H T2 l2 ws)(r1:bK K A H l vs)(r2:bK K A H m ws) :
  c20 K A H (Itz K T1 T2 l1 l2) (min l.length m.length) (λi=> .tup [l.getD i .non,m.getD i .non]):=by
 have k1:=r1.length;have k2:=r2.length;refine⟨λA' H' i P hi=> ?_,λA' H' i x H'' P hA hi y=> ?_,λA' H' P=>⟨vs,ws,c1.sqv P,c2.sqv P,ad⟩⟩
 ·obtain⟨x,e1,_⟩:=r1.at (i:=i) ad
  obtain⟨y,e2,_⟩:=r2.at (i:=i) ad
  exact⟨vs,ws,x,y,c1.sqv P,c2.sqv P,e1,e2⟩
 ·obtain⟨x1,e1,q1⟩:=r1.at (i:=i) ad
  obtain⟨y1,e2,q2⟩:=r2.at (i:=i) ad
  obtain⟨T,a,b,rfl,hT,rfl,ha,hb⟩:=y;have ea:=ha vs (c1.sqv P);have eb:=hb ws (c2.sqv P);rw[e1]at ea;cases ea;rw[e2]at eb;cases eb;exact⟨eI hT _,iC hA hT<|.cons (q1.mono P)<|.cons (q2.mono P) .nil⟩
theorem cR0 {T:Bool}{l1:Addr}{vs:List V}{l:List D}(c1:SqA K A H T l1 vs)(r1:bK K A H l vs):c20 K A H (Ite K T l1) l.length (λi=> .tup [.int (i:Int),l.getD i .non]):=by
 have k1:=r1.length;refine⟨λA' H' i P hi=> ?_,λA' H' i x H'' P hA hi y=> ?_,λA' H' P=>⟨vs,c1.sqv P,k1.symm⟩⟩
 ·obtain⟨x,e1,_⟩:=r1.at hi;exact⟨vs,x,c1.sqv P,e1⟩
 ·obtain⟨x1,e1,q1⟩:=r1.at hi;obtain⟨T,a,rfl,hT,rfl,ha⟩:=y;have ea:=ha vs (c1.sqv P);rw[e1]at ea;cases ea;exact⟨eI hT _,iC hA hT<|.cons (show Rep _ _ _ _ _ by simp only[Rep])<|.cons (q1.mono P) .nil⟩
def dE5 (ta:UA):UI:=λρ Q=>ta ρ λds ρ1=>match ds with
 | [d,e]=>(match nZ d,nZ e with
  | some l,some m=>Q (min l.length m.length) (λi=> .tup [l.getD i .non,m.getD i .non]) ρ1
  | _,_=>False)
 | _=>False
theorem d09 {elts:List Expr}{kt:Nat}{tp p:Pos}{ta:UA}(hg:Gl X "zip")(hm:X.mg "zip"=none)(ha:PUA X [a,b] ta)(hs:starEach [a,b] X.env=[(false,eval a X.env),(false,eval b X.env)]:=by rfl)(hs2:starEach [b] X.env=[(false,eval b X.env)]:=by rfl) :
  PUI X (.Tuple elts kt tp) (.Call (.Name "zip" p) [a,b] [] pos) (dE5 ta):=
 b20 (pi_zip hg hm ha hs hs2) λσ H R ⟨C,ρ,Q0,I,h,k⟩=>⟨C,ρ,_,I,h,λds ρ1 vs H1 q f s r=>by
  split at q
  ·rename_i d e
   obtain⟨v,vr,rfl,rv,rr⟩:=r.uncons;obtain⟨w,wr,rfl,rw',rr'⟩:=rr.uncons;have:=rr'.unnil;subst this;split at q
   ·rename_i l m e1 e2
    obtain⟨T1,a1,us,rfl,c1,s1⟩:=rv.sq e1;obtain⟨T2,a2,ws,rfl,c2,s2⟩:=rw'.sq e2;exact⟨a1,a2,T1,T2,us,ws,rfl,c1.sqv .self,c2.sqv .self,k _ _ ρ1 _ H1 q f s<|d08 c1 c2 s1 s2⟩
   ·exact q.elim
  ·exact q.elim⟩
def cK5 (ta:UA):UI:=λρ Q=>ta ρ λds ρ1=>match ds with
 | [d]=>(match nZ d with
  | some l=>Q l.length (λi=> .tup [.int (i:Int),l.getD i .non]) ρ1
  | none=>False)
 | _=>False
theorem cK6 {elts:List Expr}{kt:Nat}{tp p:Pos}{ta:UA}(hg:Gl X "enumerate")(hm:X.mg "enumerate"=none)(ha:PUA X [a] ta)(hs:starEach [a] X.env=[(false,eval a X.env)]:=by rfl) :
  PUI X (.Tuple elts kt tp) (.Call (.Name "enumerate" p) [a] [] pos) (cK5 ta):=
 b20 (dE2 hg hm ha hs) λσ H R ⟨C,ρ,Q0,I,h,k⟩=>⟨C,ρ,_,I,h,λds ρ1 vs H1 q f s r=>by
  split at q
  ·rename_i d
   obtain⟨v,vr,rfl,rv,rr⟩:=r.uncons;have:=rr.unnil;subst this;split at q
   ·rename_i l e1
    obtain⟨T1,a1,us,rfl,c1,s1⟩:=rv.sq e1;exact⟨a1,T1,us,rfl,c1.sqv .self,k _ _ ρ1 _ H1 q f s<|cR0 c1 s1⟩
   ·exact q.elim
  ·exact q.elim⟩
def c29 (ta:UA):UI:=λρ Q=>ta ρ λds ρ1=>match ds with
 | [.int j]=>(-(2^31)<=j/\j<2^31)/\Q j.toNat (λk=> .int ((j.toNat:Int)-1-k)) ρ1
 | _=>False
theorem bT3 {tg:Expr}{ta:UA}{p q2 pos2:Pos}(hg:Gl X "reversed")(hm:X.mg "reversed"=none)(hg2:Gl X "range")(hm2:X.mg "range"=none)(ha:PUA X [a] ta)(hs:starEach [a] X.env=[(false,eval a X.env)]:=by rfl)
  (hs2:starEach [.Call (.Name "range" q2) [a] [] pos2] X.env=[(false,eval (.Call (.Name "range" q2) [a] [] pos2) X.env)]:=by rfl) :
  PUI X tg (.Call (.Name "reversed" p) [.Call (.Name "range" q2) [a] [] pos2] [] pos) (c29 ta):=
 b20 (c26 hg hm hg2 hm2 ha hs hs2) λσ H R ⟨C,ρ,Q0,I,h,k⟩=>⟨C,ρ,_,I,h,λds ρ1 vs H1 q f s r=>by
  split at q
  ·rename_i j
   obtain⟨v,vr,rfl,rv,rr⟩:=r.uncons;have:=rr.unnil;subst this;have:=bL rv;subst this;obtain⟨⟨h1,h2⟩,q⟩:=q;exact⟨j,rfl,h1,h2,k _ _ ρ1 _ H1 q f s bO7⟩
  ·exact q.elim⟩
end
end M
end
section
namespace M
open PySem PySem.Spec PyProof.Rows L2
end M
end
section
namespace L2
open PySem PySem.Spec PyProof.Rows
theorem aX8:fillsNumberSlot (.type "tuple") "mul"=pure false:=
 PySem.fillsNumberSlot_seq (id:="tuple.__mul__") (r:=some (.builtin "tuple.__rmul__")) PySem.F.slot_tuple_mul.lookup af PySem.F.slot_tuple_rmul.lookup af
theorem bT4:seqRepeat? (.type "tuple")=pure (some<|.builtin "tuple.__mul__"):=by
 unfold seqRepeat?;rw[PySem.seqSlot_of (T:="tuple") (name:="__mul__") (id:="tuple.__mul__") PySem.F.slot_tuple_mul.lookup af,PySem.seqSlot_of (T:="tuple") (name:="__rmul__") (id:="tuple.__rmul__") PySem.F.slot_tuple_rmul.lookup af]
 rfl
theorem bA4 (a:Int)(t:Tok)(l:Addr)(items:Array Value)(n:Nat)(dd:Option Addr)(sl:Array (Option Value)) :
  Meets (Builtin.«int.__rmul__» ⟨[.int a t,.ref l],[]⟩) (λ_ R s=>s.heap.get? l=some {cls:= .type "tuple",dict:=dd,data:= .seq items n,slots:=sl}/\R (.ok<|.ret Value.notImplemented) s):=
 .of_wp λprog w A R s h=>by obtain⟨hp,g,d,tk,os⟩:=s;obtain⟨hl,h⟩:=h;wp_walk using gY hl;exact⟨_,rfl,h⟩
theorem d10 (l:Addr)(items:Array Value)(n:Nat)(dd:Option Addr)(sl:Array (Option Value))(u:Tok) :
  Meets (Builtin.«tuple.__mul__» ⟨[.ref l,.int 1 u],[]⟩) (λ_ R s=>s.heap.get? l=some {cls:= .type "tuple",dict:=dd,data:= .seq items n,slots:=sl}/\R (.ok<|.ret<|.ref l) s):=
 .of_wp λprog w A R s h=>by
  obtain⟨hp,g,d,tk,os⟩:=s;obtain⟨hl,h⟩:=h;have f1:=zM
  wp_walk using gY hl
  exact⟨_,rfl,h⟩
theorem d11 (l:Addr)(items:Array Value)(n:Nat)(dd:Option Addr)(sl:Array (Option Value))(k:Int)(u:Tok)(h1: ¬(k< -(2^63)||k≥2^63)=true)(hne: ¬(items.isEmpty||k==1)=true)(h0:(k<=0||items.isEmpty)=true) :
  Meets (Builtin.«tuple.__mul__» ⟨[.ref l,.int k u],[]⟩) (λ_ R s=>s.heap.get? l=some {cls:= .type "tuple",dict:=dd,data:= .seq items n,slots:=sl}/\R (.ok<|.ret<|.ref s.heap.objs.size) {s with heap:=s.heap.push {cls:= .type "tuple",data:= .seq #[]}}):=
 .of_wp λprog w A R s h=>by
  obtain⟨hp,g,d,tk,os⟩:=s;obtain⟨hl,h⟩:=h;have f1:=zM
  wp_walk using gY hl
  rw[a6 h1]
  wp_walk using gY hl
  exact⟨_,rfl,h⟩
theorem d12 (l:Addr)(items:Array Value)(n:Nat)(dd:Option Addr)(sl:Array (Option Value))(k:Int)(u:Tok)(h1: ¬(k< -(2^63)||k≥2^63)=true)(hne: ¬(items.isEmpty||k==1)=true)(h0: ¬(k<=0||items.isEmpty)=true)
  (h2: ¬items.size*k>(2^63-1)/8) (h3: ¬Builtin.Tuple.tupleTooMany (items.size*k)=true) (hz:(foldl (λx1 x2=>x1++x2) #[] (replicate k.toNat items)).size<=sizeLine) :
  Meets (Builtin.«tuple.__mul__» ⟨[.ref l,.int k u],[]⟩) (λ_ R s=>s.heap.get? l=some {cls:= .type "tuple",dict:=dd,data:= .seq items n,slots:=sl}/\R (.ok<|.ret<|.ref s.heap.objs.size) {s with heap:=s.heap.push {cls:= .type "tuple",data:= .seq (foldl (λx1 x2=>x1++x2) #[] (replicate k.toNat items))}}):=
 .of_wp λprog w A R s h=>by
  obtain⟨hp,g,d,tk,os⟩:=s;obtain⟨hl,h⟩:=h;have f1:=zM
  wp_walk using gY hl
  rw[a6 h1]
  wp_walk using gY hl
  rw[a6 h2]
  wp_walk using gY hl
  all_goals first
   | exact⟨_,rfl,h⟩
   | (refine wpAny_ite_false (fQ<|Nat.not_lt.mpr hz) ?_
      wp_walk using gY hl
      exact⟨_,rfl,h⟩)
section
variable {X:Cx}
theorem dE6:OpR X (binaryOp .Mult) (λx y H Q=> ∃a k xs,x= .ref a/\y= .int k/\SqT X.K H a xs/\xs≠[]/\ -(2^63)<=k/\k<2^63/\xs.length*k.toNat<=sizeLine/\(k=1->Q (.ref a) H)/\(k≠1-> ∀p,H p=none->Q (.ref p) (upd H p<|.tup (replicate k.toNat xs).flatten))):=by
 intro pins s σ H x y v u Q I rx ry h;obtain⟨a,k,xs,rfl,rfl,ha,hn,h1,h2,hz,q1,q2⟩:=h;cases rx;obtain⟨t,rfl⟩:=ry;obtain⟨its,r,p1,_⟩:=I.tuple ha;have hl:=r.length;obtain⟨⟨cls,dd,data,sl⟩,ho,hc,n,hd⟩:=id p1;simp only at hc hd;subst hc hd;have ne:its≠[]:=λz=>hn (tM.mp (by rw[hl,z];rfl))
 have ne2:its.toArray.isEmpty=false:=by cases its with
  | nil=>exact absurd rfl ne
  | cons b r'=>rfl
 have hb: ¬(decide (k< -(2^63))||decide (k≥2^63))=true:=by simp;omega
 have f0: ∀m:Nat,foldl (λx1 x2=>x1++x2) #[] (replicate m its.toArray)=(replicate m its).flatten.toArray:=λm=>by
  have:=foldl_rep its m [];rw[zP]at this;exact this
 refine wpAny_binaryOp_repeat_ref (T:="tuple") (U:="int") ac ⟨_,ho,rfl⟩ (λs'=>uA s' k t) aX8 PySem.F.fills_int_mul PySem.F.slot_int_rmul bT4 PySem.F.slot_int_index.lookup
  (jH PySem.F.slot_int_rmul (uA s k t) PySem.F.entry_int_rmul (PySem.F.args_int_rmul_2 _ _) (bA4 k t a its.toArray n dd sl) ⟨ho,rfl,⟨_,ho,rfl⟩,?_⟩)
 by_cases k1:k=1
 ·subst k1;exact jH aL5 ⟨_,ho,rfl⟩ aK8 (aK4 _ _) (d10 a its.toArray n dd sl t) ⟨ho,.ref a,H,I,rfl,q1 rfl⟩
 have hne: ¬(its.toArray.isEmpty||k==1)=true:=by rw[ne2];simpa using k1
 by_cases k0:k<=0
 ·have e0:k.toNat=0:=aa
  refine jH aL5 ⟨_,ho,rfl⟩ aK8 (aK4 _ _) (d11 a its.toArray n dd sl k t hb hne<|by simp[k0]) ⟨ho,?_⟩
  have q:=q2 k1;rw[e0]at q;exact⟨.ref _,_,I.laid (t':=s.toks) (o:= .tup []) (λb ob q=>aU _ q) (aF _) ⟨cP _,_,.nil,qE _ _⟩,rfl,q _ I.fresh⟩
 ·have ek:k=(k.toNat:Int):=aa
  have em:(its.toArray.size:Int)*k=((its.toArray.size*k.toNat:Nat):Int):=by rw[aN7,<-ek]
  have hs:its.toArray.size*k.toNat<=sizeLine:=by rw[b7,<-hl];exact hz
  have hcap:(sizeLine:Nat)<=(2^63-1)/8:=ac
  refine jH aL5 ⟨_,ho,rfl⟩ aK8 (aK4 _ _) (d12 a its.toArray n dd sl k t hb hne (by rw[ne2];simp;omega) (by rw[em];omega) (by rw[em];unfold Builtin.Tuple.tupleTooMany;rw[fP];omega) (by rw[f0,b7,bS5,mul_comm];simpa using hs)) ⟨ho,?_⟩
  rw[f0];exact⟨.ref _,_,I.laid (t':=s.toks) (o:= .tup (replicate k.toNat xs).flatten) (λb ob q=>aU _ q) (aF _) ⟨by rw[bS5,mul_comm];exact hz,_,r.rep k.toNat,qE _ _⟩,rfl,q2 k1 _ I.fresh⟩
end
end L2
end
section
namespace L2
open PySem PySem.Spec PyProof.Rows
theorem d13:typeLookup (.type "tuple") "__reversed__"=pure none:=by rw[zR,zD];kernel_rfl
theorem sub_tuple_dict:isSubtype (.type "tuple") (.type "dict")=pure false:=by rw[pZ];kernel_rfl
theorem bO8:Manifest.owners.lookup (String.ofList ['d','e','s','r','e','v','e','r'].reverse)=some Manifest.sig_reversed:=by kernel_rfl
theorem mD:Slot "reversed" "__next__" "reversed.__next__":=
 .of (owner:="reversed") (n:="__next__") (by rw[zR,zD];kernel_rfl) af af af
  (by first|exact .inl af|exact .inr af) (by rw[pZ];kernel_rfl)
theorem a86:entryFor table "reversed.__next__"=some Builtin.«reversed.__next__» :=entryFor_of_tree (by kernel_rfl)
theorem a54 (a:Value):argsOk "reversed.__next__" ⟨[a],[]⟩:=by
 unfold argsOk;rw[signature?_of (id:="reversed.__next__") (n:=['_','_','t','x','e','n','_','_']) (o:=['d','e','s','r','e','v','e','r']) (by kernel_rfl) bO8];kernel_rfl
theorem aH5:Slot "reversed" "__iter__" "reversed.__iter__":=
 .of (owner:="reversed") (n:="__iter__") (by rw[zR,zD];kernel_rfl) af af af
  (by first|exact .inl af|exact .inr af) (by rw[pZ];kernel_rfl)
theorem b49 (a:Value):argsOk "reversed.__iter__" ⟨[a],[]⟩:=by
 unfold argsOk;rw[signature?_of (id:="reversed.__iter__") (n:=['_','_','r','e','t','i','_','_']) (o:=['d','e','s','r','e','v','e','r']) (by kernel_rfl) bO8];kernel_rfl
theorem bA5:entryFor table "reversed.__iter__"=some Builtin.«dict_keyiterator.__iter__» :=
 entryFor_alias (id':="dict_keyiterator.__iter__") (by kernel_rfl) (by first|rfl|decide +kernel| (unfold String.splitOn;simp +decide [String.splitOnAux])) af (by kernel_rfl)
theorem bJ5:Slot "reversed" "__init__" "object.__init__":=
 .of (owner:="object") (n:="__init__") (by rw[zR,zD];kernel_rfl) af af af
  (by first|exact .inl af|exact .inr af) (by rw[pZ];kernel_rfl)
theorem cE1:TypeCalled "reversed" "reversed.__new__" "object.__init__":=
 ⟨af,af,⟨_,_,PySem.F.mro_reversed⟩,PySem.F.made_reversed,af,by rw[pZ];kernel_rfl,bJ5⟩
theorem dE7 (l:Addr)(items:Array Value)(hfit:(items.size:Int)<2^63) :
  Meets (Builtin.«reversed.__new__» ⟨[.type "reversed",.ref l],[]⟩) (λ_ R s=>s.heap.IsTuple l items/\R (.ok<|.ret<|.ref s.heap.objs.size) {s with heap:=s.heap.push {cls:= .type "reversed",data:= .fields #[.ref l,rawInt<|(items.size:Int)-1]},toks:=s.toks+1+1}):=
 .of_wp λprog w A R s h=>by
  obtain⟨hp,g,d,tk,os⟩:=s;obtain⟨ht,h⟩:=h;obtain⟨⟨c,dct,dt,sl⟩,hl,hc,n,hd⟩:=id ht
  replace hc:c= .type "tuple":=hc
  replace hd:dt= .seq items n:=hd
  subst hc hd;have f1:=PySem.F.sub_reversed_self;have f2:=d13;have f4:=PySem.F.slot_tuple_getitem.lookup;have f5:=sub_tuple_dict;have e1:IsTup (Shared.heap ⟨hp,g,d,tk,os⟩) l items:=ht
  wp_walk using gY hl,PyProof.Rows.len_tuple e1 hfit
  exact⟨_,rfl,h⟩
def uH (h:Heap)(a l:Addr)(i:Int):Prop:= ∃o,h.get? a=some o/\o.cls= .type "reversed"/\o.data= .fields #[.ref l,rawInt i]
theorem uH.at {h h':Heap}{a l:Addr}{i:Int}(x:uH h a l i)(e: ∀o,h.get? a=some o->h'.get? a=some o):uH h' a l i:=let ⟨o,ho,r⟩:=x;⟨o,e _ ho,r⟩
section
variable {prog:Program}{w:World}{A:Around}{E:Value->Shared->Prop}{s:Shared}
theorem uH.typeIs {a l:Addr}{i:Int}(x:uH s.heap a l i):s.TypeIs (.ref a) "reversed":=let ⟨o,ho,hc,_⟩:=x;⟨o,ho,hc⟩
theorem d14 {l:Addr}{items:Array Value}{Q:Value->Shared->Prop}(hl:s.heap.IsTuple l items)(hfit:(items.size:Int)<2^63)
  (h:Q (.ref s.heap.objs.size) {s with heap:=s.heap.push {cls:= .type "reversed",data:= .fields #[.ref l,rawInt<|(items.size:Int)-1]},toks:=s.toks+1+1}) :
  wpAny (model prog w) A (call (.type "reversed") [.ref l]) Q E s:=
 callType_new cE1 ac (PySem.F.typeCall_reversed_1 _) (PySem.F.newCall_reversed_1 _) (λobj=>PySem.F.args_object_init_2 obj _) PySem.F.entry_reversed_new (dE7 l items hfit) ⟨hl,⟨_,bU _ rfl,rfl⟩,h⟩
theorem bA6 {it l:Addr}{i:Int}{Q:Value->Shared->Prop}(hit:uH s.heap it l i)(h:Q (.ref it) s):wpAny (model prog w) A (pyIter<|.ref it) Q E s:=by
 refine wpAny_pyIter_slot hit.typeIs aH5 (iK aH5 hit.typeIs bA5 ?_<|b49 _)
 show wpAny _ _ (ret<|.ref it) _ _ s
 exact aH ⟨_,rfl,"reversed",_,hit.typeIs,mD.lookup,h⟩
theorem d15 {it l:Addr}{i:Nat}{items:Array Value}{x:Value}{Q:Option Value->Shared->Prop}(hit:uH s.heap it l (i:Int))(hl:s.heap.IsTuple l items)(hx:items[i]? =some x)(hfit:(i:Int)<2^63)
  (hQ: ∀h' tk,uH h' it l ((i:Int)-1)->SameBut it s.heap h'->Q (some x) {s with heap:=h',toks:=tk}):wpAny (model prog w) A (pyNext<|.ref it) Q E s:=by
 obtain⟨o,ho,hc,hd⟩:=id hit;have hlt:i<items.size:=(Array.getElem?_eq_some_iff.mp hx).1;have hi:seqIndex? (i:Int) items.size=some i:=by
  unfold seqIndex?;simp
  lia
 have tl:s.TypeIs (.ref l) "tuple":=hl.typeIs;unfold pyNext;refine aA (tX (jZ (name:=Str.ofString "__next__") hit.typeIs mD
  (iK mD hit.typeIs a86 ?_<|a54 _)))
 unfold Builtin.«reversed.__next__»;refine aA (jG (a:=(Value.ref it,[])) rfl ?_);try dsimp only
 refine aA (cW ho hd (x:= .ref l) rfl ?_)
 refine aA (cW ho hd (x:=rawInt (i:Int)) rfl ?_)
 show wpAny _ _ (if(i:Int)<0 then _ else _) _ _ s
 rw[a6 ad]
 try dsimp only
 refine aA (wpAny_specialOf tl PySem.F.slot_tuple_getitem.lookup ?_)
 try dsimp only
 rw[a6 ae]
 refine aA (wpAny_mkInt ?_)
 have ht:IsTup s.heap l items:=hl;refine aA (tX<|PyProof.Rows.getItem_tuple (s:={s with toks:=s.toks+1}) ht ad hfit hi hx ?_)
 try dsimp only
 refine aA (cW ho hd (x:=rawInt (i:Int)) rfl ?_)
 show wpAny _ _ (setField (.ref it) 1 (rawInt<|(i:Int)-1) >>= _) _ _ _
 refine aA (tW ho hd ae ?_)
 refine aH ⟨x,rfl,aH<|hQ _ _ ?_<|tO ..⟩
 exact⟨_,pK _ ho<|aL7<|pS hd _,(Obj.cls_mapFields ..).trans hc,by
  rw[pS hd];simp⟩
theorem dE8 {it l:Addr}{Q:Option Value->Shared->Prop}(hh:A.handled=none)(hit:uH s.heap it l (-1))
  (hQ: ∀h',ExtBut it s.heap h'->Q none {s with heap:=h'}):wpAny (model prog w) A (pyNext<|.ref it) Q E s:=by
 obtain⟨o,ho,hc,hd⟩:=id hit;unfold pyNext;refine aA (tX (jZ (name:=Str.ofString "__next__") hit.typeIs mD
  (iK mD hit.typeIs a86 ?_<|a54 _)))
 unfold Builtin.«reversed.__next__»;refine aA (jG (a:=(Value.ref it,[])) rfl ?_);try dsimp only
 refine aA (cW ho hd (x:= .ref l) rfl ?_)
 refine aA (cW ho hd (x:=rawInt (-1)) rfl ?_)
 show wpAny _ _ (if(-1:Int)<0 then _ else _) _ _ s
 rw[a9 ac]
 refine aA (nN ?_)
 refine aA ?_
 show wpAny _ _ (setField (.ref it) 1 (rawInt<|-1) >>= λ_=>setField (.ref it) 0 .none) _ _ s
 refine aA (tW ho hd ae ?_)
 refine tW (pK _ ho<|aL7<|pS hd _) (pS hd _) ae ?_
 first
 | show wpAny _ _ (newExc (.type "StopIteration") [] >>= _) _ _ _
 | (refine aA ?_;show wpAny _ _ (newExc (.type "StopIteration") [] >>= _) _ _ _)
 refine aA ?_
 simp only[newExc,newTuple];refine aA (iJ ?_<|by size_fits)
 refine aA (m:=firstArgMember _ _) (jG (a:=Value.none) (by first|rfl| (simp only[firstArgMember];rfl)) ?_)
 refine iJ ?_ (by size_fits)
 simp only[raiseNew];refine aA (wpAny_handled ?_)
 first|rw[show A.in1.handled=none from hh]|rw[hh]
 refine aA (aH<|wpAny_throw ?_)
 refine aA (wpAny_isInstance (T:="StopIteration") (b:=true) ⟨_,bU _ rfl,rfl⟩ isSubtype_stop ?_)
 refine aH (hQ _ ?_)
 exact((((tO ..).trans<|tO ..).extBut.push _).push _)
end
noncomputable def Itv (K:Frag)(l:Addr)(n:Nat):It where
 go:=λi H=>i<n/\ ∃xs,SqT K H l xs/\xs.length=n
 yld:=λi H v H'=>H'=H/\ ∀xs,SqT K H l xs->xs[n-1-i]? =some v
 stop:=λi H=>i=n
theorem d16 {P:Program}{w:World}{K:Frag}{tg:Expr}{it l:Addr}(n:Nat)(hz:n<=sizeLine):c06 P w K tg (Itv K l n) [it] it (λi h=>uH h it l ((n:Int)-1-(i:Int))) where
 mem:=ae
 obj:=λi h st b hb=>by
  have e:b=it:=by simpa using hb
  subst e;obtain⟨o,ho,_,hd⟩:=st;exact⟨o,ho,λv z=>by rw[hd]at z;cases z⟩
 keep:=λi h h' st k=>st.at λo e=>k it ae _ e
 item:=by
  intro X hP hw hK hc i pins s σ H E I hf st hg;subst hP hw hK;obtain⟨f0,f1,f2,f3,f4,f5⟩:=hf it ae
  obtain⟨hi,xs,hq,hl⟩:=hg;obtain⟨its,r,p,_⟩:=I.tuple hq;have hlen:=r.length;have hx:xs[n-1-i]? =some (xs[n-1-i]'ad):=aO ad
  obtain⟨u1,hu1,ru1⟩:=r.get hx;have e1:(n:Int)-1-(i:Int)=((n-1-i:Nat):Int):=ad
  have st':=st;rw[e1]at st';have big:(sizeLine:Int)<2^63:=ac
  refine d15 (items:=its.toArray) (x:=u1) st' p (by simpa using hu1) ad λh' tk hr m=> ?_
  have I1:Inv X pins σ H {s with heap:=h',toks:=tk}:=I.turned (λb o hb e=>m.extBut _ _ (by simpa using hb) e) f0 f1 f3 f4 f5
  have e2:((n-1-i:Nat):Int)-1=(n:Int)-1-((i+1:Nat):Int):=ad
  rw[e2]at hr;obtain⟨o,ho,hoc,hod⟩:=id hr;exact⟨_,rfl,c07 (s:={s with heap:=h',toks:=tk}) (n:="reversed") ho hoc hod ac ⟨xs[n-1-i]'ad,H,I1,ru1,⟨rfl,λys hy=>by rw[I.tuple_inj hy hq];exact hx⟩,hr,λb hb=>(hf b hb).1⟩⟩
 done:=by
  intro X hP hw hK hc i pins s σ H E I hf st hg;subst hP hw hK;obtain⟨f0,f1,f2,f3,f4,f5⟩:=hf it ae
  have hg':i=n:=hg;have st':=st;rw[hg',show(n:Int)-1-(n:Int)= -1 by lia]at st'
  exact dE8 (I.ok.hd hc) st' λh' eb=>⟨rfl,I.turned (t':=s.toks) (λb o hb e=>eb b o hb e) f0 f1 f3 f4 f5⟩
 self:=λ_ _ _ _ _ st h=>bA6 st h
section
variable {X:Cx}{tg:Expr}
def iRevT (K:Frag)(ta:TA):TI:=λσ H R=>ta σ H λvs H1=> ∃l xs,vs=[.ref l]/\SqT K H1 l xs/\R (Itv K l xs.length) H1
theorem dE9 {a:Expr}{ta:TA}{p pos:Pos}(hg:Gl X "reversed")(hm:X.mg "reversed"=none)(ha:PA X [a] ta)(hs:starEach [a] X.env=[(false,eval a X.env)]:=by rfl) :
  PI X tg (.Call (.Name "reversed" p) [a] [] pos) (iRevT X.K ta):=by
 intro pins s σ H R I h;refine Call_ (wJ I hg hm PyProof.Rows.boot_reversed<|j9 (thn (ha pos pins s σ H _ I h) λus s1 ⟨vs,H1,I1,r1,q1⟩=> ?_) hs rfl)
 obtain⟨l,xs,e,q1,q⟩:=q1;subst e;obtain⟨u,rfl,r⟩:=vals1 r1;cases r;obtain⟨its,rv,p1,hz⟩:=I1.tuple q1;have hl:=rv.length;have big:(sizeLine:Int)<2^63:=ac
 refine d14 p1 (by rw[b7];lia) ?_
 have hi:uH (s1.heap.push {cls:= .type "reversed",data:= .fields #[.ref l,rawInt<|(its.toArray.size:Int)-1]}) s1.heap.objs.size l ((xs.length:Int)-1-((0:Nat):Int)):=⟨_,bU _ rfl,rfl,by
  rw[b7,hl];simp⟩
 refine bA6 (s:={s1 with heap:=s1.heap.push {cls:= .type "reversed",data:= .fields #[.ref l,rawInt<|(its.toArray.size:Int)-1]},toks:=s1.toks+1+1}) hi ?_
 refine⟨_,[s1.heap.objs.size],_,_,H1,rfl,I1.kept (t':=s1.toks+1+1) λb o e=>aU _ e,d16 xs.length hz,hi,λb hb=> ?_,q⟩
 have e:b=s1.heap.objs.size:=by simpa using hb
 subst e;exact I1.fpOk (aF _) (I1.hok.fresh<|aF _)
end
end L2
namespace M
open PySem PySem.Spec PyProof.Rows L2
section
variable {X:Cx}{A:AS}{H:Hp}{K:Frag}{pos:Pos}{a:Expr}
theorem cR1 {l1:Addr}{vs:List V}{l:List D}(c1:SqA K A H true l1 vs)(r1:bK K A H l vs):c20 K A H (Itv K l1 vs.length) l.length (λi=>l.getD (l.length-1-i) .non):=by
 have k1:=r1.length;refine⟨λA' H' i P hi=>⟨aa,vs,c1.sqv P,rfl⟩,λA' H' i x H'' P hA hi y=> ?_,λA' H' P=>k1⟩
 obtain⟨x1,e1,q1⟩:=r1.at (i:=l.length-1-i) aa
 obtain⟨e,ha⟩:=y;subst e;have ea:=ha vs (c1.sqv P);rw[<-k1,e1]at ea;cases ea;exact⟨.refl _,q1.mono P⟩
def d17 (ta:UA):UI:=λρ Q=>ta ρ λds ρ1=>match ds with
 | [.tup l]=>Q l.length (λi=>l.getD (l.length-1-i) .non) ρ1
 | _=>False
theorem dF0 {tg:Expr}{p:Pos}{ta:UA}(hg:Gl X "reversed")(hm:X.mg "reversed"=none)(ha:PUA X [a] ta)(hs:starEach [a] X.env=[(false,eval a X.env)]:=by rfl) :
  PUI X tg (.Call (.Name "reversed" p) [a] [] pos) (d17 ta):=
 b20 (dE9 hg hm ha hs) λσ H R ⟨C,ρ,Q0,I,h,k⟩=>⟨C,ρ,_,I,h,λds ρ1 vs H1 q f s r=>by
  split at q
  ·rename_i l
   obtain⟨v,vr,rfl,rv,rr⟩:=r.uncons;have:=rr.unnil;subst this;simp only[Rep]at rv;obtain⟨a1,us,rfl,c1,s1⟩:=rv;have c2:SqA _ _ _ true a1 us:=c1;exact⟨a1,us,rfl,c2.sqv .self,k _ _ ρ1 _ H1 q f s<|cR1 c2 s1⟩
  ·exact q.elim⟩
def bO9 (d e:D)(Q:B->Prop):Prop:=match d,e with
 | .tup l,.int k=>(l≠[]/\ -(2^63)<=k/\k<2^63/\l.length*k.toNat<=sizeLine)/\Q (.pu<|.tup (replicate k.toNat l).flatten)
 | _,_=>False
theorem bT5:OpU X (binaryOp .Mult) bO9:=by
 intro A H d e v w Q0 Q hA r1 r2 g k;unfold bO9 at g;split at g
 ·rename_i l kk
  have:=bL r2;subst this;simp only[Rep]at r1;obtain⟨a,vs,rfl,c1,rs1⟩:=r1;obtain⟨⟨h0,h1,h2,h3⟩,g⟩:=g;refine⟨_,dE6,a,kk,vs,rfl,rfl,c1.imp cQ id,λz=>h0 ?_,h1,h2,by rw[<-rs1.length];exact h3,λz=> ?_,λz p n=>k _ _ _ g (eI n _) (iC hA n<|rs1.rep _)⟩
  ·have:=rs1.length;rw[z]at this;exact tM.mp this
  ·subst z;refine k _ _ H g (.refl _) ?_;show Rep X.K A H (.tup _) (.ref a);simp only[Rep];exact⟨a,vs,rfl,c1,by simpa using rs1⟩
 ·exact g.elim
end
end M
end
section
namespace M
open PySem PySem.Spec PyProof.Rows L2
section
variable {X:Cx}
theorem bA7 {K:Frag}{A:AS}{H:Hp}: ∀r:List Int,bK K A H (r.map D.int) (r.map V.int)
 | []=> .nil
 | a::r=> .cons (by simp only[Rep]) (bA7 r)
theorem dF1 {x:Str}{a:Addr}{r:List Int}{p:Pos}(hg:Gl X x)(hm:X.mg x=some (.ref a))(hk:KT X.K a (r.map V.int))(hd:(x==("__debug__":Str))=false:=by decide):PU X (.Name x p) (uC<|.tup<|r.map .int):=
 cJ4 (cI6 (v:= .ref a) hg hm rfl hd) λA H=>by
  simp only[Rep];exact⟨a,r.map V.int,rfl,.inr hk,bA7 r⟩
theorem kt_of {K:Frag}{a:Addr}{od:Option Addr}{its:Array Value}{n:Nat}{sl:Array (Option Value)}{vs:List V}(hl:K.lookup a=some ⟨.type "tuple",od,.seq its n,sl⟩)(hz:its.size<=sizeLine)(hv:Vals vs its.toList):KT K a vs:=
 ⟨_,its,n,hl,rfl,rfl,hz,hv⟩
end
end M
end
section
namespace L2
open PySem PySem.Spec PyProof.Rows
end L2
namespace M
open PySem PySem.Spec PyProof.Rows L2
end M
end
section
namespace L2
open PySem PySem.Spec PyProof.Rows
end L2
namespace M
open PySem PySem.Spec PyProof.Rows L2
section
variable {X:Cx}{a:Expr}{pos:Pos}{ta:UE}
noncomputable def D.isN:D->Bool
 | .non=>true
 | _=>false
theorem cK7 {K:Frag}{A:AS}{H:Hp}: ∀{d:D} {v:V},Rep K A H d v->decide (v= .non)=d.isN
 | .non,v,h=>by simp only[Rep]at h;subst h;rfl
 | .bl _,v,h=>by simp only[Rep]at h;subst h;rfl
 | .int _,v,h=>by simp only[Rep]at h;subst h;rfl
 | .str _,v,h=>by simp only[Rep]at h;subst h;rfl
 | .ty _,v,h=>by simp only[Rep]at h;subst h;rfl
 | .tup _,v,h=>by simp only[Rep]at h;obtain⟨a,vs,rfl,_⟩:=h;rfl
 | .lst _,v,h=>by simp only[Rep]at h;obtain⟨a,vs,rfl,_⟩:=h;rfl
 | .rol _,v,h=>by simp only[Rep]at h;obtain⟨a,vs,rfl,_⟩:=h;rfl
 | .obj _ _ _,v,h=>by simp only[Rep]at h;obtain⟨a,dx,vs,rfl,_⟩:=h;rfl
 | .adr _,v,h=>by simp only[Rep]at h;subst h;rfl
 | .xob _ _ _ _,v,h=>by simp only[Rep]at h;obtain⟨vs,rfl,_⟩:=h;rfl
def bJ6 (neg:Bool)(t:UE):UE:=λρ Q=>t ρ λb ρ1=>Q (.pu<|.bl<|neg ^^ b.d.isN) ρ1
theorem lIsN (σ:L2.St)(H:Hp)(Q:VK)(h:lE X.K (bJ6 false ta) σ H Q):tIsN (lE X.K ta) σ H Q:=by
 obtain⟨C,ρ,Q0,I,h,k⟩:=h;refine⟨C,ρ,_,I,h,λb ρ' v H' q f s r=> ?_⟩
 have e:=cK7 (r.rep λa z=>I.avF f z)
 refine k _ ρ' _ H' q f s ?_
 show Rep _ _ _ _ _
 simp only[Rep,kC];rw[e]
theorem lNotN (σ:L2.St)(H:Hp)(Q:VK)(h:lE X.K (bJ6 true ta) σ H Q):dK7 (lE X.K ta) σ H Q:=by
 obtain⟨C,ρ,Q0,I,h,k⟩:=h;refine⟨C,ρ,_,I,h,λb ρ' v H' q f s r=> ?_⟩
 have e:=cK7 (r.rep λa z=>I.avF f z)
 refine k _ ρ' _ H' q f s ?_
 show Rep _ _ _ _ _
 simp only[Rep,nI];rw[e]
theorem bT6 {j pos'}(ha:PU X a ta):PUT X (.Compare a [.Is] [.Constant .none j pos'] pos) (eX<|bJ6 false ta):=c18 (cW1<|pc_isN ha) λσ H Q h=>lIsN σ H _ (dC3 σ H Q h)
theorem c30 {j pos'}(ha:PU X a ta):PUT X (.Compare a [.IsNot] [.Constant .none j pos'] pos) (eX<|bJ6 true ta):=c18 (cW1<|dA2 ha) λσ H Q h=>lNotN σ H _ (dC3 σ H Q h)
end
end M
end
section
namespace M
open PySem PySem.Spec PyProof.Rows L2
mutual
noncomputable def D.nl:D->Bool
 | .tup l=>D.nls l
 | .lst _=>false
 | .rol _=>false
 | .obj _ _ _=>false
 | .adr _=>false
 | .xob _ _ _ _=>false
 | .non=>true
 | .bl _=>true
 | .int _=>true
 | .str _=>true
 | .ty _=>true
noncomputable def D.nls:List D->Bool
 | []=>true
 | d::l=>d.nl&&D.nls l
end
theorem c31: ∀r:List Int,D.nls (r.map D.int)=true
 | []=>by simp only[iP,D.nls]
 | a::r=>by simp only[cN,D.nls,D.nl,c31 r,Bool.and_true]
section
variable {K:Frag}{A A':AS}{H H':Hp}
mutual
theorem Rep.nl (p: ∀a vs,¬A a->Rd H a (.tup vs)-> ¬A' a/\Rd H' a (.tup vs)): ∀{d:D} {v:V},d.nl=true->Rep K A H d v->Rep K A' H' d v
 | .non,_,_,h=>h
 | .bl _,_,_,h=>h
 | .int _,_,_,h=>h
 | .str _,_,_,h=>h
 | .ty _,_,_,h=>h
 | .tup l,v,q,h=>by
  simp only[Rep]at h⊢;obtain⟨a,vs,e,c,r⟩:=h;simp only[D.nl]at q;refine⟨a,vs,e,?_,bK.nl p q r⟩;rcases c with⟨n,c⟩|c
  ·exact .inl (p a vs n c)
  ·exact .inr c
 | .lst _,_,q,_=>by simp only[D.nl]at q;cases q
 | .rol _,_,q,_=>by simp only[D.nl]at q;cases q
 | .obj _ _ _,_,q,_=>by simp only[D.nl]at q;cases q
 | .adr _,_,q,_=>by simp only[D.nl]at q;cases q
 | .xob _ _ _ _,_,q,_=>by simp only[D.nl]at q;cases q
theorem bK.nl (p: ∀a vs,¬A a->Rd H a (.tup vs)-> ¬A' a/\Rd H' a (.tup vs)): ∀{l:List D} {vs:List V},D.nls l=true->bK K A H l vs->bK K A' H' l vs
 | [],_,_,h=>by simp only[bK]at h ⊢; exact h
 | d::ds,vs,q,h=>by
  simp only[bK]at h⊢;simp only[D.nls,dN]at q;obtain⟨v,vr,e,r,rs⟩:=h;exact⟨v,vr,e,Rep.nl p q.1 r,bK.nl p q.2 rs⟩
end
end
noncomputable def ltL:List Int->List Int->Bool
 | [],[]=>false
 | [],_::_=>true
 | _::_,[]=>false
 | a::x,b::y=>if a=b then ltL x y else decide (a<b)
section
variable {prog:Program}{w:World}{A:Around}{E:Value->Shared->Prop}{s:Shared}
theorem d18 {a:Addr}{u v:Value}{n:Nat}{lt:Bool}{P:PySem.Fin->Shared->Prop}(ho:s.heap.get? a=some (seqObj "list" [u,v].toArray n))
  (hy: ∀h':Heap,(∀b o,b≠a->s.heap.get? b=some o->h'.get? b=some o)-> ∃κ:SortKind,
   (∀Q:SortKind->Shared->Prop,Q κ {s with heap:=h'}->wpAny (model prog w) A (keyKind' [u,v].toArray) Q (λ_ _=>False) {s with heap:=h'})/\
   (∀Q:Bool->Shared->Prop,Q lt {s with heap:=h'}->wpAny (model prog w) A (keyLt' κ v u) Q (λ_ _=>False) {s with heap:=h'}))
  (fi:P (.done<|.ret .none) {s with heap:=sortedHeap s.heap a [u,v] (if lt=true then [v,u].toArray else [u,v].toArray)}) :
  wpAny (model prog w) A (Builtin.«list.sort» ⟨[.ref a],[]⟩) P E s:=by
 rw[list_sort_plain];have la:a<s.heap.objs.size:=aV ho;refine aA (listItems_at ho rfl ?_);refine aA (listUpdate_at ho rfl ?_ (show 2<=sizeLine by decide) (cP _))
 obtain⟨c1,h1⟩: ∃c1,(s.heap.update a<|Obj.mapSeq λ_=> #[]).get? a=some (seqObj "list" #[] c1):=⟨_,get?_update_seq ho λ_=> #[]⟩
 refine aA (seqEpoch_at h1 rfl ?_)
 refine aA (wpAny_newTuple ?_<|show 2<=sizeLine by decide)
 refine aA (wpAny_newList ?_<|cP _)
 refine iN ?_
 have h6:(((s.heap.update a<|Obj.mapSeq λ_=> #[]).push<|seqObj "tuple" [u,v].toArray 0).push<|seqObj "list" #[] 0).get? a=some (seqObj "list" #[] c1):=by
  rw[pV _ _ _ (by rw[size_push',tU];exact bG (kA la))]
  rw[pV _ _ _ (by rw[tU];exact bG la)]
  exact h1
 have kp: ∀b o,b≠a->s.heap.get? b=some o->(((s.heap.update a<|Obj.mapSeq λ_=> #[]).push<|seqObj "tuple" [u,v].toArray 0).push<|seqObj "list" #[] 0).get? b=some o:=λb o ne q=>by
  have lb:b<s.heap.objs.size:=aV q;rw[pV _ _ _ (by rw[size_push',tU];exact bG (kA lb))]
  rw[pV _ _ _ (by rw[tU];exact bG lb),zG _ _ _ _ ne]
  exact q
 obtain⟨κ,y1,y2⟩:=hy _ kp;show wpAny (model prog w) A _ P E {s with heap:=((s.heap.update a<|Obj.mapSeq λ_=> #[]).push<|seqObj "tuple" [u,v].toArray 0).push (seqObj "list" #[] 0)}
 dsimp only;have n2: ¬[u,v].toArray.size<2:=show ¬2<2 by decide
 rw[a6 n2,a6 n2];refine aA (bI (y1 (λk s'=>k=κ/\s'={s with heap:=((s.heap.update a<|Obj.mapSeq λ_=> #[]).push<|seqObj "tuple" [u,v].toArray 0).push (seqObj "list" #[] 0)}) ⟨rfl,rfl⟩) ?_ λ_ _ z=>z.elim)
 rintro k s' ⟨rfl,rfl⟩;refine aA (bI (PySem.W.kat_run (ks:=[u,v]) (vs:=[u,v]) (Q:=λst' s'=>s'={s with heap:=((s.heap.update a<|Obj.mapSeq λ_=> #[]).push<|seqObj "tuple" [u,v].toArray 0).push (seqObj "list" #[] 0)}/\failedOf st'=none/\(arrOf st').map (·.2)=(if lt=true then [v,u].toArray else [u,v].toArray))
  (G:=λp s'=>s'={s with heap:=((s.heap.update a<|Obj.mapSeq λ_=> #[]).push<|seqObj "tuple" [u,v].toArray 0).push (seqObj "list" #[] 0)}/\p=(if lt=true then #[1,0]else #[0,1]))
  rfl (show 2<=2 by decide) (show 2<64 by decide) (λp st' s' _ e2 e3 ⟨e4,e5⟩=>⟨e4,e3,?_⟩) ?_) ?_ λ_ _ z=>z)
 ·rw[PySem.W.kat_snds rfl e2,e5];cases lt<;>rfl
 ·show wpAny (model prog w) A (keyLt' k v u) _ (λ_ _=>False) _
  refine y2 _ ?_
  cases lt
  ·exact⟨rfl,rfl⟩
  ·refine⟨rfl,?_⟩
   rw[a9 rfl];dsimp only[List.length_cons,List.length_nil]
   decide +kernel
 ·rintro⟨⟨⟩,st'⟩ s' ⟨rfl,e3,e4⟩;dsimp only;rw[e4];refine aA (seqEpoch_at h6 rfl ?_);refine aA (listUpdate_at h6 rfl ?_ (cP _) (by cases lt<;>exact(show 2<=sizeLine+1 by decide)))
  rw[e3];simp only[bne_self_eq_false,Bool.false_eq_true,nO];exact aH fi
theorem cE2 {l:Addr}{u v:Value}{lt:Bool}{Q:Value->Shared->Prop}(hl:s.heap.IsList l [u,v].toArray)
  (hy: ∀(h':Heap) (A:Around),(∀b o,s.heap.get? b=some o->h'.get? b=some o)-> ∃κ:SortKind,
   (∀Q:SortKind->Shared->Prop,Q κ {s with heap:=h'}->wpAny (model prog w) A (keyKind' [u,v].toArray) Q (λ_ _=>False) {s with heap:=h'})/\
   (∀Q:Bool->Shared->Prop,Q lt {s with heap:=h'}->wpAny (model prog w) A (keyLt' κ v u) Q (λ_ _=>False) {s with heap:=h'}))
  (fi:Q (.ref<|s.heap.objs.size+1) {s with heap:=sortedAll s.heap [u,v] (if lt=true then [v,u].toArray else [u,v].toArray)}) :
  wpAny (model prog w) A (call (.builtin "sorted") [.ref l]) Q E s:=by
 refine Calls.call_function_entry kind_sorted plain_sorted entry_sorted (args_sorted1 _) ?_
 unfold Builtin.«sorted»;refine aA (m:=checkCount "sorted" 1 1 _) (aH ?_);refine aA (collect_list hl ?_<|show 2<=sizeLine by decide)
 refine aA (wpAny_newList ?_<|show 2<=sizeLine by decide)
 have hz:((s.heap.push<|seqObj "list" #[] 0).update s.heap.objs.size (Obj.mapSeq (· ++[u,v].toArray))).objs.size=s.heap.objs.size+1:=by rw[tU,size_push']
 have hL:(((s.heap.push<|seqObj "list" #[] 0).update s.heap.objs.size (Obj.mapSeq (· ++[u,v].toArray))).push<|seqObj "list" [u,v].toArray 0).get? (s.heap.objs.size+1)=some (seqObj "list" [u,v].toArray 0):=by
  rw[<-hz];exact bU _ rfl
 have kp: ∀b o,s.heap.get? b=some o->(((s.heap.push<|seqObj "list" #[] 0).update s.heap.objs.size (Obj.mapSeq (· ++[u,v].toArray))).push<|seqObj "list" [u,v].toArray 0).get? b=some o:=λb o q=>by
  have lb:b<s.heap.objs.size:=aV q;rw[pV _ _ _ (by rw[hz];exact bG (kA lb))]
  rw[zG _ _ _ _<|bG lb,pV _ _ _<|bG lb];exact q
 show wpAny _ _ _ _ _ {s with heap:=((s.heap.push<|seqObj "list" #[] 0).update s.heap.objs.size (Obj.mapSeq (· ++[u,v].toArray))).push (seqObj "list" [u,v].toArray 0)}
 rw[hz];refine aA (iN<|iK slot_list_sort ⟨_,hL,rfl⟩ entry_list_sort (d18 (lt:=lt) hL (λh' k=> ?_) ⟨_,rfl,?_⟩)<|args_list_sort _)
 ·exact hy h' _ λb o q=>k b o (bG<|kA<|aV q) (kp b o q)
 ·exact aH ⟨_,rfl,fi⟩
theorem c32 {Q:Bool->Shared->Prop}{fin:Bool}: ∀(us ws:List Int) (x y:List Value) (i:Nat),Vals (us.map V.int) x->Vals (ws.map V.int) y->fin=decide (us.length<ws.length)->Q (ltL us ws) s->PySem.W.KatLex prog w A true fin Q (x.zip y) i s
 | [],[],x,y,i,hx,hy,hf,q=>by
  cases hx;cases hy;rw[hf];exact q
 | [],b::ws,x,y,i,hx,hy,hf,q=>by
  cases hx;rw[hf];exact q
 | a::us,[],x,y,i,hx,hy,hf,q=>by
  cases hx;cases hy;rw[hf];exact q
 | a::us,b::ws,x,y,i,hx,hy,hf,q=>by
  rw[cN]at hx hy;cases hx with
  | cons r1 hx=>
   cases hy with
   | cons r2 hy=>
    obtain⟨t1,rfl⟩:=r1;obtain⟨t2,rfl⟩:=r2;rw[aM6];refine PySem.W.kat_cons (wpAny_eqBool_int ?_)
    by_cases c:a=b
    ·subst c;rw[aN4];refine PySem.W.kat_yes (c32 us ws _ _ (i+1) hx hy (by rw[hf];simp) ?_)
     unfold ltL at q;rw[a9 rfl]at q;exact q
    ·rw[show(a==b)=false by simpa using c]
     refine PySem.W.kat_no ?_
     unfold ltL at q;rw[a6 c]at q;cases e:(true&&i==0)
     ·exact PySem.W.kat_one _ _ (lt_int q)
     ·exact oneLt_int q
end
section
variable {X:Cx}
theorem cE3:uB X (.builtin "sorted") (λxs H Q=> ∃(p a1 a2:Addr) (i j:Int) (us ws:List Int),xs=[.ref p]/\SqL X.K H p [.ref a1,.ref a2]/\SqT X.K H a1 ((i::us).map V.int)/\SqT X.K H a2 ((j::ws).map V.int)/\
  ∀l,H l=none->Q (.ref l) (upd H l<|.lst<|if ltL (j::ws) (i::us)=true then [.ref a2,.ref a1]else [.ref a1,.ref a2])):=by
 intro pins s σ H xs us' Q I r h;obtain⟨p,a1,a2,i,j,us,ws,rfl,hq,t1,t2,q⟩:=h;obtain⟨u,rfl,rx⟩:=vals1 r;cases rx;obtain⟨its,rv,pl,hz⟩:=I.list hq;obtain⟨x1,r1,k1,z1⟩:=I.tuple t1;obtain⟨x2,r2,k2,z2⟩:=I.tuple t2;cases rv with
 | cons g1 rv=>
 cases rv with
 | cons g2 rv=>
 cases rv;cases g1;cases g2;refine cE2 (lt:=ltL (j::ws) (i::us)) pl.isList (λh' A kp=> ?_) ?_
 ·obtain⟨o1,ho1,hc1,n1,hd1⟩:=k1;obtain⟨o2,ho2,hc2,n2,hd2⟩:=k2;rw[cN]at r1 r2;cases r1 with
  | cons f1 r1=>
  cases r2 with
  | cons f2 r2=>
  have v1:Vals ((i::us).map V.int) _:= .cons f1 r1;have v2:Vals ((j::ws).map V.int) _:= .cons f2 r2;obtain⟨t1,rfl⟩:=f1;obtain⟨t2,rfl⟩:=f2;refine⟨tuples'<|Value.type "int" != Value.type "tuple",λQ' q'=> ?_,λQ' q'=> ?_⟩
  ·refine PySem.W.kat_kind (fs:=[.int i t1,.int j t2]) (T:= .type "int") (.cons (kp _ _ ho1) hc1 hd1 rfl (.cons (kp _ _ ho2) hc2 hd2 rfl .nil)) (cV _) (λv hv=> ?_) ac q'
   rcases aX.mp hv with rfl|hv
   ·exact .now
   ·rw[iI.mp hv];exact .now
  ·have e:(Value.type "int" != Value.type "tuple")=true:=ac
   rw[e];refine PySem.W.kat_lt (kp _ _ ho2) hd2 (kp _ _ ho1) hd1 (c32 _ _ _ _ 0 (by simpa using v2) (by simpa using v1) ?_ q')
   have l1:=v1.length;have l2:=v2.length;simp only[aK]at l1 l2;simp only[b7];rw[<-l1,<-l2]
 ·refine⟨.ref<|s.heap.objs.size+1,_,?_,rfl,q (s.heap.objs.size+1)<|I.hok.fresh<|u5 _⟩
  obtain⟨c,hc⟩:=sortedAll_at s.heap [Value.ref a1,Value.ref a2] (if ltL (j::ws) (i::us)=true then [Value.ref a2,Value.ref a1].toArray else [Value.ref a1,Value.ref a2].toArray);refine I.laid (t':=s.toks) (λb o e=>sortedAll_old e) (u5 _) ?_
  by_cases e:ltL (j::ws) (i::us)=true
  ·rw[a9 e]at hc⊢;exact⟨show 2<=sizeLine by decide,[.ref a2,.ref a1],c,.cons rfl (.cons rfl .nil),by rw[a9 e];exact hc⟩
  ·rw[a6 e]at hc⊢;exact⟨show 2<=sizeLine by decide,[.ref a1,.ref a2],c,.cons rfl (.cons rfl .nil),by rw[a6 e];exact hc⟩
noncomputable def cE4:List D->(B->Prop)->Prop:=g1 λd Q=> ∃(i j:Int) (us ws:List Int),d= .lst [.tup<|(i::us).map D.int,.tup<|(j::ws).map D.int]/\
 Q (.ow<|if ltL (j::ws) (i::us)=true then [.tup<|(j::ws).map D.int,.tup<|(i::us).map D.int]else [.tup<|(i::us).map D.int,.tup<|(j::ws).map D.int])
theorem d19:a75 X (.builtin "sorted") cE4:=by
 intro A H ds vs Q0 Q hA r g k;obtain⟨d,v,rfl,rfl,rv,i,j,us,ws,rfl,g'⟩:=aX0 g r;simp only[Rep]at rv;obtain⟨p,xs,rfl,np,hp,rl⟩:=rv;obtain⟨y1,yr,rfl,s1,rl⟩:=rl.uncons;obtain⟨y2,yr,rfl,s2,rl⟩:=rl.uncons;have:=rl.unnil;subst this;have s1':=s1;have s2':=s2;simp only[Rep]at s1 s2;obtain⟨a1,w1,rfl,c1,q1⟩:=s1;obtain⟨a2,w2,rfl,c2,q2⟩:=s2;have e1:=bK.unints q1;have e2:=bK.unints q2;subst e1 e2
 refine⟨_,cE3,p,a1,a2,i,j,us,ws,rfl,.inl<|.inl hp,c1.imp cQ id,c2.imp cQ id,λl hl=>k _ _ _ g' (eI hl _) ?_⟩
 cases ltL (j::ws) (i::us)
 ·exact gP (.refl _) hl (.cons s1'<|.cons s2' .nil)
 ·exact gP (.refl _) hl (.cons s2'<|.cons s1' .nil)
end
end M
end
section
namespace L2
open PySem PySem.Spec PyProof.Rows
end L2
namespace M
open PySem PySem.Spec PyProof.Rows L2
end M
end
section
namespace L2
open PySem PySem.Spec PyProof.Rows
end L2
namespace M
open PySem PySem.Spec PyProof.Rows L2
end M
end
section
namespace L2
open PySem PySem.Spec PyProof.Rows
end L2
namespace M
open PySem PySem.Spec PyProof.Rows L2
end M
end
section
namespace M
open PySem PySem.Spec PyProof.Rows L2
section
variable {X:Cx}{e:Expr}{es:List Expr}{pos:Pos}{te:UE}
theorem ilB {i:Nat}(h:Nat.ble (i+1) X.N.length=true): ∀pins σ H s,Inv X pins σ H s->i<σ.length:=il rfl (Nat.le_of_ble_eq_true h)
theorem aR (i:Nat){x:Str}{pos:Pos}(h:PE X (.Name x pos) (aG6 i):=by exact pv _):PU X (.Name x pos) (aE i):=eZ i h
theorem cK (i:Nat){x:Str}{pos:Pos}(h:PE X (.Name x pos) (aG6 i):=by exact pv _):PUV X (.Name x pos) (aZ i):=qF i h
theorem b50 {x:Str}{pos':Pos}(i:Nat)(hN:X.N.Nodup)(he:PU X e te)(hi:X.N[i]? =some x:=by rfl)(hx:Loc X.env.scope x:=by walk_at "z")(hs:swapsWith e (some<|.Name x pos') pos.line X.env=pure false:=by rfl)(hf:X.fn x=true\/X.env.scope.names.lookup x=some .local:=by walk_at "z")
  (hl: ∀pins σ H s,Inv X pins σ H s->i<σ.length:=by exact ilB rfl):PUS X (.Assign [.Name x pos'] e pos) (cA i te):=a76 i hN hi hx he hs hf hl
theorem us_g {x:Str}{pos':Pos}{op:Operator}{g:D->D->(B->Prop)->Prop}(i:Nat)(hN:X.N.Nodup)(he:PU X e te)(ho:IpU X op g)(hi:X.N[i]? =some x:=by rfl)(hx:Loc X.env.scope x:=by walk_at "z")(hf:X.fn x=true\/X.env.scope.names.lookup x=some .local:=by walk_at "z")
  (hl: ∀pins σ H s,Inv X pins σ H s->i<σ.length:=by exact ilB rfl):PUS X (.AugAssign (.Name x pos') op e pos) (c19 i g te):=cZ0 i hN hi hx he ho hf hl
theorem dX {a b:Expr}{ti:UE}{t:UV}(ha:PUV X a t)(hb:PU X b ti)(hs:bR9 b:=by exact λ_ _=>rfl):PU X (.Subscript a b pos) (uIx t ti):=a79 ha hb hs
theorem d4 {k k':Nat}{ps:List Str}{φ:Φ}{x:Str}{p:Pos}{t:UA}(F:Fn X.prog X.w X.K X.mg X.base x ps k φ)(hr:gO k' X.A)(ha:PUA X (e::es) t)(hk:k<=k':=by decide)(hg:Gl X x:=by rfl)(hdb:(x==("__debug__":Str))=false:=by decide)
  (he:starEach (e::es) X.env=(false,eval e X.env)::starEach es X.env:=by rfl) (hpl:(backTo pos<|starEach es X.env).any (·.1)=false:=by rfl):PU X (.Call (.Name x p) (e::es) [] pos) (aS φ t):=a81 F hr hk hg ha hdb he hpl
end
section
variable {X:Cx}{es:List Expr}{t:UA}
theorem bE {i:Int}{j}{p:Pos}(h:PUA X es t):PUA X (.Constant (.int i) j p::es) (aB (uC<|.int i) t):=aD aI h rfl
theorem rG {fs:List Expr}{j}{p:Pos}{ta:UE}(a:PU X (.Tuple fs j p) ta)(h:PUA X es t):PUA X (.Tuple fs j p::es) (aB ta t):=aD a h rfl
theorem b24 {o:UnaryOp}{e:Expr}{p:Pos}{ta:UE}(a:PU X (.UnaryOp o e p) ta)(h:PUA X es t):PUA X (.UnaryOp o e p::es) (aB ta t):=aD a h rfl
theorem aP (i:Nat){x:Str}{p:Pos}(h:PUA X es t)(a:PE X (.Name x p) (aG6 i):=by exact pv _):PUA X (.Name x p::es) (aB (aE i) t):=aD (eZ i a) h rfl
structure WA (X:Cx)(es:List Expr)(t:UA):Prop where
 out:PUA X es t
theorem a87:WA X [] aL:=⟨aC⟩
theorem a68 {i:Int}{j}{p:Pos}(h:WA X es t):WA X (.Constant (.int i) j p::es) (aB (uC<|.int i) t):=⟨bE h.out⟩
theorem cR2 {i:Int}{j}{p q:Pos}(h:WA X es t):WA X (.UnaryOp .USub (.Constant (.int i) j p) q::es) (aB (rF<|uC<|.int i) t):=⟨b24 (jQ aI) h.out⟩
theorem cE5 {fs:List Expr}{j}{p:Pos}{tf:UA}(a:WA X fs tf)(h:WA X es t):WA X (.Tuple fs j p::es) (aB (fY tf) t):=⟨rG (cY a.out) h.out⟩
structure WS (X:Cx)(sts:List Stmt)(t:US):Prop where
 out:rX X sts t
theorem ws_of {sts:List Stmt}{u:US}(h:rX X sts u):WS X sts u:=⟨h⟩
theorem ws_lw {x:Str}{pos pos' p:Pos}{i:Nat}{sts:List Stmt}{u:US}(h:WA X es t)(r:WS X sts u)(hN:X.N.Nodup)(hi:X.N[i]? =some x:=by rfl)(hx:Loc X.env.scope x:=by walk_at "z")(hf:X.fn x=true\/X.env.scope.names.lookup x=some .local:=by walk_at "z")
  (hl: ∀pins σ H s,Inv X pins σ H s->i<σ.length:=by exact ilB rfl):WS X (.Assign [.Name x pos'] (.List es p) pos::sts) (aW (cA i<|kF t) u):=⟨bH (a76 i hN hi hx (eV h.out) rfl hf hl) r.out⟩
end
end M
end
section
namespace M
open PySem PySem.Spec PyProof.Rows L2
abbrev GL:=List (Addr×List Int)
end M
end
section
namespace M
open PySem PySem.Spec PyProof.Rows L2
section
variable {X:Cx}{K:Frag}{C C':C0}{ρ ρ':Ev}{σ σ':L2.St}{H H' H0:Hp}{g g':GL}{r:Nat}{st:Stmt}{sts:List Stmt}{e:Expr}{pos:Pos}{t u:US}{te ti tj:UE}{tc:UT}
theorem dF2 {n m:Nat}(h:n<m):ixN m (n:Int)=some n:=by
 unfold ixN;rw[a9 aa,a9 aa]
 simp
end
section
variable {X:Cx}{K:Frag}{C C':C0}{ρ ρ':Ev}{σ σ':L2.St}{H H' H0:Hp}{e:Expr}{pos:Pos}{te:UE}
def cE6 (t:UE):UE:=λρ Q=>t ρ λb _=>match b with
 | .pu d=>d.nl=true/\Q (.pu d) ρ
 | .ow l=>D.nls l=true/\Q (.ow l) ρ
 | _=>False
theorem d20 (h:PU X e te):PU X e (cE6 te):=iU h λσ H Q ⟨C,ρ,Q0,I,h,k⟩=>⟨C,ρ,_,I,h,λb ρ' v H' q f s r=>by
 have noT: ∀(a:Addr) (vs:List V),Own ρ σ a->Rd H' a (.tup vs)->False:=λa vs ⟨i,l,h1,h2⟩ c=>by
  obtain⟨b,ws,g1,g2,_⟩:=I.ow i l h1;rw[h2]at g1;cases g1;have g3:=s _ _ g2;rcases c with c| ⟨o,c⟩
  ·rw[g3]at c;cases c
  ·rw[g3]at c;cases c
 cases b with
 | pu d=>
  refine k (.pu d) ρ v H' q.2 (.refl _) s ?_
  refine Rep.nl (λa vs n c=>⟨?_,c⟩) q.1 (show Rep _ _ _ d v from r)
  rintro(z|z)
  ·exact n (.inl z)
  ·exact noT a vs z c
 | ow l=>
  obtain⟨a,vs,rfl,n0,e1,rl⟩:=r;refine k (.ow l) ρ _ H' q.2 (.refl _) s ⟨a,vs,rfl,n0,e1,?_⟩;refine bK.nl (λb ws n c=>⟨?_,c⟩) q.1 rl
  rintro((z|z)|z)
  ·exact n (.inl<|.inl z)
  ·exact noT b ws z c
  ·exact n (.inr z)
 | bo l=>exact q.elim⟩
end
end M
end
section
namespace L2
open PySem PySem.Spec PyProof.Rows
theorem b51 (l:Addr)(items:Array Value)(n:Nat)(b:Addr)(di:Option Addr)(sl:Array (Option Value))(items2:Array Value)(n2:Nat)(hs0: ¬(!items.isEmpty&&Builtin.List.listTooLong (items.size+items2.size))=true)(hs1:items.size<=sizeLine)(hs2:items.size+items2.size<=sizeLine+1) :
  Meets (Builtin.«list.extend» ⟨[.ref l,.ref b],[]⟩) (λ_ R s=>s.heap.get? l=some {cls:= .type "list",dict:=none,data:= .seq items n,slots:= #[]}/\s.heap.get? b=some {cls:= .type "tuple",dict:=di,data:= .seq items2 n2,slots:=sl}/\R (.ok<|.ret Value.none) {s with heap:=s.heap.update l (Obj.mapSeq λx=>x++items2),toks:=s.toks}):=
 .of_wp λprog w A R s h=>by
  obtain⟨hp,g,d,tk,os⟩:=s;obtain⟨hl,hb,h⟩:=h;have f1:=zM;have f2:=AutoSeq1.sub_tuple_tuple;have f3:=AutoSeq1.sub_list_list;have f4:=AutoSeq1.sub_tuple_list;have f5:=AutoSeq1.sub_list_tuple;have hz':(items++items2).size<=sizeLine+1:=by rw[Array.size_append];exact hs2
  wp_walk using(wpAny_updateSeq hl rfl (hz:=hs1) (_hz':=hz')),gY hl,gY hb;exact⟨_,rfl,h⟩
section
variable {X:Cx}
noncomputable def d21 (K:Frag):V->List V->Hp->VK->Prop:=λx vs H Q=> ∃l b xs zs,x= .ref l/\vs=[.ref b]/\H l=some (.lst xs)/\SqT K H b zs/\xs.length+zs.length<=sizeLine/\Q .non (upd H l<|.lst<|xs++zs)
theorem cE7:MtM X "list.extend" (d21 X.K):=by
 intro pins s σ H x vs v us Q I rx rv h;obtain⟨l,b,xs,zs,rfl,rfl,hH,hB,hz,q⟩:=h;cases rx;obtain⟨u,rfl,ru⟩:=rv.one;cases ru;obtain⟨z,its,n,r,hl,e⟩:=I.lstM hH;obtain⟨its2,r2,⟨o,e2,hc,n2,hd⟩,hl2⟩:=I.tuple hB;obtain⟨cls,di,dat,sl⟩:=o;dsimp only at hc hd;subst hc hd;have f2:=r2.length;have hsz:its.toArray.size+its2.toArray.size<=sizeLine:=by rw[b7,b7];omega
 have hlong: ¬(!its.toArray.isEmpty&&Builtin.List.listTooLong (its.toArray.size+its2.toArray.size))=true:=by
  rw[c17 hsz,Bool.and_false];exact bD
 refine jH F.slot_list_extend ⟨_,e,rfl⟩ F.entry_list_extend (F.args_list_extend_2 _ _)
  (b51 l its.toArray n b di sl its2.toArray n2 hlong (by rw[b7];omega) aa) ⟨e,e2,?_⟩
 refine⟨.non,_,I.lset (its':=its++its2) hH e ae (r.append r2) ?_,rfl,q⟩
 rw[bO];omega
end
end L2
namespace M
open PySem PySem.Spec PyProof.Rows L2
section
variable {X:Cx}{pos:Pos}{e:Expr}{te:UE}
def uExt (i:Nat)(t:UE):US:=λD ρ=>o7 ρ i λ_=>t ρ λb ρ1=>o7 ρ1 i λl=>match b.d with
 | .tup m=>l.length+m.length<=sizeLine/\D.nx (ρ1.set i<|some<|.ow<|l++m)
 | _=>False
theorem cR3 {x:Str}{p apos cpos:Pos}(i:Nat)(hx:PE X (.Name x p) (aG6 i))(he:PU X e te)
  (hbase:attributeBase (.Name x p) "extend" X.env (eval (.Name x p) X.env)=eval (.Name x p) X.env:=by rfl)
  (hfew:((backTo cpos<|starEach [e] X.env).all (λx=> !x.1)&&(backToKw cpos<|keywordEach [] X.env).all (λx=>x.1.isSome)
   &&decide ([e].length+([]:List Keyword).length+(if([]:List Keyword).isEmpty then 0 else 1)<30))=true:=by rfl)
  (hline:(apos.endLine==cpos.line)=true:=by rfl) (hs:starEach [e] X.env=(false,eval e X.env)::starEach [] X.env:=by rfl) (hplain:(backTo cpos<|starEach [] X.env).any (·.1)=false:=by rfl)
  (hw:swapsWith (.Call (.Attribute (.Name x p) "extend" apos) [e] [] cpos) none pos.line X.env=pure false:=by rfl) :
  PUS X (.Expr (.Call (.Attribute (.Name x p) "extend" apos) [e] [] cpos) pos) (uExt i te):=
 rD (b69 (dK9 PySem.F.plainAttrs_list PySem.F.slot_list_extend PySem.F.type_list_extend cE7 hx (b72 he bR8 hs) hbase hfew hline hs hplain) hw) λD σ H ⟨C,ρ,D0,I,h,k⟩=>by
  obtain⟨l,hl,h⟩:=iY h;obtain⟨a,vs,h1,h2,h3,h4⟩:=I.ow i l hl;refine⟨.ref a,h1,.inl ⟨rfl,vs,SqL.of h2⟩,C,ρ,_,I,h,λb ρ1 v H1 q f s r=> ?_⟩
  obtain⟨l',hl',q⟩:=iY q;have e:=f.ow hl';rw[hl]at e;cases e;have I1:=(I.frz f).same s;obtain⟨a',vs',g1,g2,g3,g4⟩:=I1.ow i l hl';rw[h1]at g1;cases g1;cases hb:b.d with
  | tup m=>
   rw[hb]at q;obtain⟨hz,q⟩:=q;have r':=r.rep λa z=>I.avF f z
   rw[hb]at r';simp only[Rep]at r';obtain⟨c,ws,rfl,hc,rs⟩:=r';refine⟨a,c,vs',ws,rfl,rfl,g2,?_,by rw[<-g4.length,<-rs.length];exact hz,k.nx _ _ _ q ?_⟩
   ·exact hc.imp (·.2) id
   ·exact I1.write hl' h1 (g4.append rs)
  | _=>rw[hb]at q;exact q.elim
end
end M
end
section
namespace M
open PySem PySem.Spec PyProof.Rows L2
end M
end
section
namespace L2
open PySem PySem.Spec PyProof.Rows
end L2
namespace M
open PySem PySem.Spec PyProof.Rows L2
end M
end
section
namespace M
open PySem PySem.Spec PyProof.Rows L2
section
variable {X:Cx}{e a b:Expr}{te ta tb:UE}{t u:US}{sts:List Stmt}{pos:Pos}
theorem jM {op:CmpOp}{g:D->D->(B->Prop)->Prop}(ho:OpU X (compareOp op) g)(ha:PU X a ta)(hb:PU X b tb)(hm:behindInMarks op b=false:=by exact b93 _):PUT X (.Compare a [op] [b] pos) (eX<|uOp g ta tb):=aR3 ho ha hb hm
theorem cR4 {op:CmpOp}{g:D->D->(B->Prop)->Prop}(ho:OpU X (compareOp op) g)(ha:PU X a ta)(hb:PU X b tb)(hm:behindInMarks op b=false:=by exact b93 _):PU X (.Compare a [op] [b] pos) (uOp g ta tb):=pu_cmp ho ha hb hm
theorem bS {x:Str}{pos':Pos}(i:Nat)(hN:X.N.Nodup)(he:PU X e te)(r:rX X sts u)(hi:X.N[i]? =some x:=by rfl)(hx:Loc X.env.scope x:=by walk_at "z")(hs:swapsWith e (some<|.Name x pos') pos.line X.env=pure false:=by rfl)(hf:X.fn x=true\/X.env.scope.names.lookup x=some .local:=by walk_at "z")
  (hl: ∀pins σ H s,Inv X pins σ H s->i<σ.length:=by exact ilB rfl):rX X (.Assign [.Name x pos'] e pos::sts) (aW (cA i te) u):=bH (b50 i hN he hi hx hs hf hl) r
theorem fG (h:PU X e te):rX X [.Return (some e) pos] (d6 te):=bF (bS7 h)
theorem bT7 {c:Expr}{tc:UT}(hc:PUT X c tc)(ha:rX X sts t):PUS X (.If c sts [] pos) (iD tc t fH):=bN7 hc ha bS6
theorem oG {c:Expr}{tc:UT}{r:List Stmt}(hc:PUT X c tc)(ha:rX X sts t)(hr:rX X r u):rX X (.If c sts [] pos::r) (aW (iD tc t fH) u):=bH (bT7 hc ha) hr
theorem vN {x:Str}{p:Pos}{iter:Expr}{ui:UI}(i:Nat)(hN:X.N.Nodup)(hi:PUI X (.Name x p) iter ui)(hb:rX X sts t)(hp:PassesOwn (model X.prog X.w) X.A X.env X.xe:=by exact gZ)(hc:X.calm=true:=by rfl)(hx:X.N[i]? =some x:=by rfl)(hl:Loc X.env.scope x:=by walk_at "z")
  (hs: ∀x,foldedSetIterable iter X.env x=pure x:=by intro _;rfl) (hf:X.fn x=true\/X.env.scope.names.lookup x=some .local:=by walk_at "z"):PUS X (.For (.Name x p) iter sts [] pos) (kY ui (cT i) t):=aW9 hp hc hi (a06 i<|cI hN hx hl hf) hb hs
theorem uI {elt iter:Expr}{ifs:List Expr}{scope:Scope}{x:Str}{p:Pos}(N:List Str)(esc:List (Str×NameKind))(XN:List Str){js:List Nat}{cap:List (Option Nat)}{last i:Nat}{ui:UI}{tt:UT}(hi:PUI X (.Name x p) iter ui)(ht: ∀cl C s H fp pins,PTs (cB X N scope cl C s H fp pins) ifs<|lT X.K tt)(he: ∀cl C s H fp pins,PU (cB X N scope cl C s H fp pins) elt te)
  (he0:X.env.scope.names=esc:=by rfl) (hx0:X.N=XN:=by rfl) (lk:yD esc XN N cap scope last=true:=by decide +kernel) (hl:last<cap.length:=by decide) (hT:last ∉ [i]:=by decide) (hc:X.calm=true:=by rfl) (hN:N.Nodup:=by decide +kernel) (hx:N[i]? =some x:=by rfl) (hy: ∀cl C s H fp pins,Loc (cB X N scope cl C s H fp pins).env.scope x:=by intro _ _ _ _ _ _;first|exact Or.inl rfl|exact Or.inr rfl)
  (hs: ∀x,foldedSetIterable iter X.env x=pure x:=by intro _;rfl) (hf: ∀cl C s H fp pins,(cB X N scope cl C s H fp pins).fn x=true\/(cB X N scope cl C s H fp pins).env.scope.names.lookup x=some .local:=by intro _ _ _ _ _ _;first|exact .inl rfl|exact .inr rfl|assumption):PU X (.ListComp elt [⟨.Name x p,iter,ifs,0⟩] scope pos) (eF js cap last ui (cT i) tt te):=
 uG he0 hx0 lk hl hT hc hi (λ_ _ _ _ _ _=>a06 i (cI hN hx (hy ..)<|hf ..)) ht he hs
end
section
variable {X:Cx}{K:Frag}{ρ ρ':Ev}{σ σ':L2.St}{H H':Hp}
variable {o e e2:Expr}{te te2:UE}{x y:Str}{px py py2 apos cpos bpos fpos apos2 cpos2 epos:Pos}
end
end M
end
section
namespace L2
open PySem PySem.Spec PyProof.Rows
def Calm (f:Obj->Obj):Prop:= ∀o,(f o).dict=o.dict/\(o.isFreed=false->(f o).isFreed=false)
def oZ {α:Type}:Sem α->Prop
 | .pure _=>True
 | .raise _=>True
 | .unsupported _=>True
 | .finish _=>True
 | .rule _ k=>oZ (k ())
 | .at _ k=>oZ (k ())
 | .load _ _ k=> ∀o,oZ (k o)
 | .update _ _ f k=>Calm f/\oZ (k ())
 | .alloc _ k=> ∀a,oZ (k a)
 | .loadIfAlive _ k=> ∀o,oZ (k o)
 | .point _ k=>oZ (k ())
 | .register _ _=>True
 | .stack k=> ∀l,oZ (k l)
 | _=>False
def DK (h h':Heap):Prop:= ∀b o,h.get? b=some o-> ∃o',h'.get? b=some o'/\o'.dict=o.dict
theorem DK.refl (h:Heap):DK h h:=λb o q=>⟨o,q,rfl⟩
theorem DK.trans {h h' h'':Heap}(a:DK h h')(b:DK h' h''):DK h h'':=λc o q=>by
 obtain⟨o',q',e⟩:=a c o q;obtain⟨o'',q'',e'⟩:=b c o' q';exact⟨o'',q'',e'.trans e⟩
theorem DK.update {h:Heap}{a:Addr}{f:Obj->Obj}(c:Calm f):DK h (h.update a f):=λb o q=>by
 by_cases e:a=b
 ·subst e;exact⟨f o,pK f q<|(c o).2 (Heap.get?_some_iff.mp q).2,(c o).1⟩
 ·exact⟨o,(aL4 _ _ e).trans q,rfl⟩
theorem dF3 {α:Type}{M:Model}{Γ:PySem.Ctx}: ∀{t:Sem α} {Q:α->Pos->Shared->Prop} {E:Value->Pos->Shared->Prop} {p:Pos} {s:Shared},oZ t->Sem.wp M Γ t Q E p s->Sem.wp M Γ t (λa p' s'=>Q a p' s'/\DK s.heap s'.heap) (λe p' s'=>E e p' s'/\DK s.heap s'.heap) p s:=by
 intro t
 induction t with
 | pure a=>intro Q E p s _ h;exact⟨h,.refl _⟩
 | raise e=>intro Q E p s _ h;exact⟨h,.refl _⟩
 | rule _ k ih=>intro Q E p s t h;exact ih () t h
 | «at» _ k ih=>intro Q E p s t h;exact ih () t h
 | load a _ k ih=>intro Q E p s t ⟨o,q,h⟩;exact⟨o,q,ih o (t o) h⟩
 | update a _ f k ih=>
  intro Q E p s t ⟨q,h⟩;refine⟨q,?_⟩;have:=ih () t.2 h;exact Sem.wp_mono _ _ _ (λa p' s' z=>⟨z.1,(DK.update t.1).trans z.2⟩) (λa p' s' z=>⟨z.1,(DK.update t.1).trans z.2⟩) _ _ this
 | alloc o k ih=>
  intro Q E p s t h;have:=ih _ (t _) h;have pu:DK s.heap (s.heap.push o):=λb o' q=>⟨o',aU _ q,rfl⟩
  exact Sem.wp_mono _ _ _ (λa p' s' z=>⟨z.1,pu.trans z.2⟩) (λa p' s' z=>⟨z.1,pu.trans z.2⟩) _ _ this
 | loadIfAlive a k ih=>intro Q E p s t h;exact ih _ (t _) h
 | point _ k ih=>intro Q E p s t h;exact ih () t h
 | stack k ih=>intro Q E p s t h;exact ih _ (t _) h
 | unsupported _=>intro Q E p s _ h;exact h.elim
 | finish _=>intro Q E p s _ h;exact h.elim
 | register _ _=>intro Q E p s _ h;exact h.elim
 | _=>intro Q E p s t h;exact False.elim t
theorem cJ {α β:Type}{f:α->Sem β}: ∀{t:Sem α},oZ t->(∀a,oZ<|f a)->oZ (t.bind f):=by
 intro t
 induction t with
 | pure a=>intro _ h;exact h a
 | raise e=>intro _ _;exact trivial
 | unsupported _=>intro _ _;exact trivial
 | finish _=>intro _ _;exact trivial
 | rule _ k ih=>intro t h;exact ih () t h
 | «at» _ k ih=>intro t h;exact ih () t h
 | load a _ k ih=>intro t h o;exact ih o (t o) h
 | update a _ f k ih=>intro t h;exact⟨t.1,ih () t.2 h⟩
 | alloc o k ih=>intro t h a;exact ih a (t a) h
 | loadIfAlive a k ih=>intro t h o;exact ih o (t o) h
 | point _ k ih=>intro t h;exact ih () t h
 | register _ _=>intro _ _;exact trivial
 | stack k ih=>intro t h l;exact ih l (t l) h
 | _=>intro t _;exact False.elim t
theorem a09 {α:Type}{M:Model}{A:Around}{t:Sem α}{Q:α->Shared->Prop}{E:Value->Shared->Prop}{s:Shared}(c:oZ t)(h:wpAny M A t Q E s):wpAny M A t (λa s'=>Q a s'/\DK s.heap s'.heap) (λe s'=>E e s'/\DK s.heap s'.heap) s:=λΓ p hin=>dF3 c (h Γ p hin)
theorem bP0 {a:Addr}{part:Option Value}:oZ (loadPart a part):=λ_=>trivial
theorem c33 (v:Value):oZ (fieldsOf v):=by
 unfold fieldsOf;split
 ·refine cJ bP0 λo=> ?_
  split<;>exact trivial
 ·exact trivial
theorem a10 (v:Value)(i:Nat):oZ (PySem.field v i):=cJ (c33 v) λvs=>by
 split<;>exact trivial
theorem c34 (f:Array Value->Array Value):Calm (Obj.mapFields f):=λo=>by
 obtain⟨c,d,dt,sl⟩:=o;cases dt<;>exact⟨rfl,λh=>h⟩
theorem wN (v:Value)(i:Nat)(x:Value):oZ (setField v i x):=by
 unfold setField;split
 ·unfold updateField;refine cJ bP0 λo=> ?_
  split
  ·split
   ·exact⟨c34 _,trivial⟩
   ·exact trivial
  ·exact trivial
 ·exact trivial
theorem a88 (e:Value)(f:Option Addr):oZ (setFlight e f):=cJ (a10 _ _) λtb=>by
 split
 ·exact wN _ _ _
 ·exact trivial
theorem aO0:oZ stack:=λ_=>trivial
theorem cE8 (f:Addr)(b:Bool):oZ (entryPlaceOf f b):=cJ aO0 λl=>by
 split<;>exact trivial
theorem d22 (cls:Value)(data:Data)(d:Option Addr):oZ (newObj cls data d):=by
 have as:oZ (newObjAsIs cls data d):=by
  unfold newObjAsIs;refine cJ (λ_=>trivial) λa=> ?_
  split
  ·refine cJ ?_ λb=> ?_
   ·unfold classHasDel;refine cJ (λ_=>trivial) λo=> ?_
    split<;>exact trivial
   ·split<;>exact trivial
  ·exact trivial
 unfold newObj;split<;>first|exact as| (split<;>first|exact as|exact trivial| (refine cJ trivial λ_=>as))
theorem cE9 (a b c d e:Value)(pl:List Value):oZ (EntryCells.newEntry a b c d e pl):=by
 unfold EntryCells.newEntry newFields;exact d22 _ _ _
theorem bA8: ∀l:List Env,oZ (readyFrames l)
 | []=>trivial
 | env::outer=>by
  unfold readyFrames;split
  ·refine cJ (λ_=>trivial) λo=> ?_
   split
   ·exact trivial
   ·refine cJ ?_ λb=> ?_
    ·unfold behindIsImport;split
     ·exact trivial
     ·split
      ·exact trivial
      ·exact cJ (a10 _ _) λ_=>trivial
    ·refine cJ ?_ λv=> ?_
     ·unfold keptBack;split
      ·split
       ·exact trivial
       ·exact cJ (cJ aO0 λ_=>trivial) λ_=>trivial
      ·exact trivial
     ·exact⟨λo=>⟨rfl,λh=>by obtain⟨c,d,dt,sl⟩:=o;cases dt<;>exact h⟩,bA8 outer⟩
  ·exact trivial
theorem cF0 (env:Env):oZ (PySem.frameOf env):=by
 unfold PySem.frameOf;refine cJ (cJ aO0 λ_=>trivial) λl=>cJ ?_ λo=> ?_
 ·unfold frameObject;split
  ·exact trivial
  ·exact cJ (bA8 _) λ_=>trivial
 ·split<;>exact trivial
theorem bP1 (e:Value)(env:Env):oZ (noteFrame e env):=by
 have last: ∀h f,oZ (do setField e 1 (<-EntryCells.newEntry h (<-PySem.frameOf env) .none (rawInt f) .none (<-entryPlaceOf f (h != .none)))):=λh f=>
  cJ (cF0 env) λa=>cJ (cE8 _ _) λb=>cJ (cE9 _ _ _ _ _ _) λc=>wN _ _ _
 unfold noteFrame;split
 ·refine cJ (a10 _ _) λh=> ?_
  split
  ·refine cJ (a10 _ _) λx=> ?_
   split
   ·exact trivial
   ·exact cJ (wN _ _ _) λ_=>last _ _
  ·exact last _ _
 ·exact trivial
theorem aR9 (env:Env)(e:Value):oZ (leaving env e):=cJ (bP1 e env) λ_=>a88 e none
def Tr (h:Heap)(e T:Addr):Prop:= ∃oe vs,h.get? e=some oe/\oe.data= .fields vs/\vs[1]? =some (.ref T)
theorem Tr.one {h:Heap}{e T T':Addr}(a:Tr h e T)(b:Tr h e T'):T=T':=by
 obtain⟨o,vs,h1,h2,h3⟩:=a;obtain⟨o',vs',g1,g2,g3⟩:=b;rw[h1]at g1;cases g1;rw[h2]at g2;cases g2;rw[h3]at g3;cases g3;rfl
structure aH6 (fs:List Addr)(e:Addr)(h h':Heap):Prop where
 keep: ∀b o,h.get? b=some o->b ∉ fs->b≠e-> ¬Tr h e b->h'.get? b=some o
 slot:h.UpToSlots h'
 tr: ∀T,Tr h' e T->T∈fs\/T=e\/Tr h e T\/h.get? T=none
 rcd: ∀T,Tr h' e T-> ∃o vs,h'.get? T=some o/\o.data= .fields vs
structure bJ7 (fs:List Addr)(e:Addr)(h h':Heap):Prop extends aH6 fs e h h' where
 dk:DK h h'
theorem bT8 {h base:Heap}{e:Addr}{cls a0 fl:Value}(t:h.TracedAtW base e cls a0 fl): ∃T,Tr h e T/\base.get? T=none/\T≠e/\ ∃o vs,h.get? T=some o/\o.data= .fields vs:=by
 obtain⟨oe,vs,T,oT,ts,he,_,hd,h1,hb,hne,hT,hdT,_⟩:=t;exact⟨T,⟨oe,vs,he,hd,h1⟩,hb,hne,oT,ts,hT,hdT⟩
theorem qI {h base B:Heap}{e T:Addr}{cls a0 fl:Value}(t:h.TracedAtW base e cls a0 fl)(x:Tr h e T)(hn:B.get? T=none):h.TracedAtW B e cls a0 fl:=by
 obtain⟨oe,vs,T',oT,ts,he,hc,hd,h1,hb,hne,hT,hdT,h3⟩:=t;obtain rfl:=x.one ⟨oe,vs,he,hd,h1⟩;exact⟨oe,vs,T,oT,ts,he,hc,hd,h1,hn,hne,hT,hdT,h3⟩
section
variable {base h:Heap}{l:List Env}{e T:Addr}{cls a0 fl:Value}
noncomputable def hid (h:Heap)(l:List Env)(e T:Addr):Heap:=PySem.W.hideAll h (frs l++[e,T])
theorem yF {b:Addr}(hb:b∈frs l\/b=e\/b=T):(hid h l e T).get? b=none:=PySem.W.hideAll_none _ (by
 rcases hb with z|z|z
 ·exact bW.mpr (.inl z)
 ·exact bW.mpr (.inr<|by simp[z])
 ·exact bW.mpr (.inr<|by simp[z]))
theorem aS0 {b:Addr}{o:Obj}(q:h.get? b=some o)(h1:b ∉ frs l)(h2:b≠e)(h3:b≠T):(hid h l e T).get? b=some o:=PySem.W.hideAll_get _ q (by
 intro z;rcases bW.mp z with z|z
 ·exact h1 z
 ·simp at z
  exact z.elim h2 h3)
theorem a11 (f:h.FunFrames base l):h.FunFrames (hid h l e T) l:=PySem.W.funFrames_hide f λenv he b hb=>bW.mpr (.inl<|aM4.mpr ⟨env,he,hb⟩)
theorem aF1 (st:base.StaysIn h)(f:h.FunFrames base l)(he:base.get? e=none)(hT:base.get? T=none):base.StaysIn (hid h l e T):=λb o q=>aS0 (st b o q) (λz=>by rw[(f.mem z).1]at q;cases q) (λz=>by rw[z,he]at q;cases q) λz=>by rw[z,hT]at q;cases q
theorem yG {B h':Heap}(st:base.StaysIn B): ∀{l:List Env},h'.FunFrames B l->h'.FunFrames base l
 | [],_=>trivial
 | env::_,⟨hk,⟨L,o,hf,hn,ho,hd⟩,hr⟩=>⟨hk,⟨L,o,hf,(by
   cases q:base.get? L with
   | none=>rfl
   | some u=>have:=st L u q;rw[hn]at this;cases this),ho,hd⟩,yG st hr⟩
theorem b79 {B:Heap}(st:base.StaysIn B){b:Addr}(q:B.get? b=none):base.get? b=none:=by
 cases z:base.get? b with
 | none=>rfl
 | some u=>have:=st b u z;rw[q]at this;cases this
theorem bT9 {l':List Env}{h':Heap}(x:Tr h e T)(st:(hid h l e T).StaysIn h')(t:h'.TracedAtW (hid h l e T) e cls a0 fl)(up:h.UpToSlots h'):aH6 (frs l) e h h':=by
 refine⟨λb o q h1 h2 h3=>st b o (aS0 q h1 h2 λz=>h3 (by rw[z];exact x)),up,λT' x'=> ?_,λT' x'=> ?_⟩
 ·obtain⟨T2,y,hn,_,_⟩:=bT8 t;obtain rfl:=x'.one y
  by_cases c1:T'∈frs l
  ·exact .inl c1
  by_cases c2:T'=e
  ·exact .inr (.inl c2)
  by_cases c3:T'=T
  ·exact .inr (.inr<|.inl (by rw[c3];exact x))
  refine .inr (.inr<|.inr ?_)
  cases q:h.get? T' with
  | none=>rfl
  | some o=>rw[aS0 q c1 c2 c3]at hn;cases hn
 ·obtain⟨T2,y,_,_,z⟩:=bT8 t;obtain rfl:=x'.one y;exact z
end
section
variable {M:Model}{A:Around}{E:Value->Shared->Prop}{s:Shared}{base:Heap}{env:Env}{outer:List Env}{L e:Addr}{cls a0:Value}{Q:Unit->Shared->Prop}
theorem cF1 (hfr:A.frames=some (env::outer))(hf:env.frame=some L)(F:FlyingW base (env::outer) e cls a0 s.heap)
  (hQ: ∀h',FlyingW base outer e cls a0 h'->aH6 (frs (env::outer)) e s.heap h'->Q () {s with heap:=h'}):wpAny M A (leaving env<|.ref e) Q E s:=by
 obtain⟨f1,f2,f3,f4⟩:=F;obtain⟨T,x,hT,_,_⟩:=bT8 (fl:= .none) f4;have stB:=aF1 (T:=T) f1 f3 f2 hT;refine wpAny_leaves_onW (base:=hid s.heap (env::outer) e T) hfr hf ⟨λb o q=>tP _ q,yF<|.inr<|.inl rfl,a11 f3,qI (fl:= .none) f4 x<|yF<|.inr<|.inr rfl⟩ λh' F' up=> ?_
 obtain⟨g1,g2,g3,g4⟩:=F';obtain⟨T',x',hT',_,_⟩:=bT8 (fl:= .none) g4;exact hQ h' ⟨λb o q=>g1 b o (stB b o q),f2,yG stB g3,qI (fl:= .none) g4 x'<|b79 stB hT'⟩ (bT9 (l':=outer) x g1 g4 up)
theorem cR5 (hfr:A.frames=some (env::outer))(hf:env.frame=some L)(F:FlyingW base (env::outer) e cls a0 s.heap)
  (hQ: ∀h',HeldW base (env::outer) e cls a0 L h'->aH6 (frs (env::outer)) e s.heap h'->Q () {s with heap:=h'}):wpAny M A (noteFrame (.ref e) env) Q E s:=by
 obtain⟨f1,f2,f3,f4⟩:=F;obtain⟨T,x,hT,_,_⟩:=bT8 (fl:= .none) f4;have stB:=aF1 (T:=T) f1 f3 f2 hT;refine wpAny_looks_onW (base:=hid s.heap (env::outer) e T) hfr hf ⟨λb o q=>tP _ q,yF<|.inr<|.inl rfl,a11 f3,qI (fl:= .none) f4 x<|yF<|.inr<|.inr rfl⟩ λh' F' up=> ?_
 obtain⟨g1,g2,g3,g4⟩:=F';obtain⟨T',x',hT',_,_⟩:=bT8 g4;exact hQ h' ⟨λb o q=>g1 b o (stB b o q),f2,yG stB g3,qI g4 x'<|b79 stB hT'⟩ (bT9 (l':=outer) x g1 g4 up)
theorem cR6 {l:List Env}{fl:Value}(F:base.StaysIn s.heap/\base.get? e=none/\s.heap.FunFrames base l/\s.heap.TracedAtW base e cls a0 fl)
  (hQ: ∀h',FlyingW base l e cls a0 h'->aH6 (frs l) e s.heap h'->Q () {s with heap:=h'}):wpAny M A (setFlight (.ref e) none) Q E s:=by
 obtain⟨f1,f2,f3,f4⟩:=F;obtain⟨T,x,hT,_,_⟩:=bT8 f4;have stB:=aF1 (T:=T) f1 f3 f2 hT;refine wpAny_setFlight_noneW (base:=hid s.heap l e T) (λb o q=>tP _ q) (a11 f3) (qI f4 x<|yF<|.inr<|.inr rfl) λh' g1 g3 g4 up=> ?_
 obtain⟨T',x',hT',_,_⟩:=bT8 (fl:= .none) g4;exact hQ h' ⟨λb o q=>g1 b o (stB b o q),f2,yG stB g3,qI (fl:= .none) g4 x'<|b79 stB hT'⟩ (bT9 (l':=l) (fl:= .none) x g1 g4 λb o q n=>⟨o.slots,up b o q n⟩)
theorem bU0 {oe:Obj}{vs:Array Value}(hfr:A.frames=some (env::outer))(hl:s.heap.FunFrames base (env::outer))(hf:env.frame=some L)(he:s.heap.get? e=some oe)(hkb:base.StaysIn s.heap)(hen:base.get? e=none)(hd:oe.data= .fields vs)(h1:vs[1]? =some .none)(h0:vs[0]? =some a0)
  (hQ: ∀h',FlyingW base outer e oe.cls a0 h'->aH6 (frs (env::outer)) e s.heap h'->Q () {s with heap:=h'}):wpAny M A (leaving env<|.ref e) Q E s:=by
 have stB:=aF1 (e:=e) (T:=e) hkb hl hen hen;have nt: ∀T,¬Tr s.heap e T:=by
  rintro T ⟨o,ws,k1,k2,k3⟩;rw[he]at k1;cases k1;rw[hd]at k2;cases k2;rw[h1]at k3;cases k3
 refine wpAny_leaving_firstW (base:=hid s.heap (env::outer) e e) hfr (a11 hl) hf he (λb o q=>tP _ q) (yF<|.inr<|.inl rfl) hd h1 h0 λh' F'=> ?_
 obtain⟨g1,⟨_,_,g3⟩,g4,up⟩:=F';obtain⟨T',x',hT',hne,hrec⟩:=bT8 (fl:= .none) g4;refine hQ h' ⟨λb o q=>g1 b o (stB b o q),hen,yG stB g3,qI (fl:= .none) g4 x'<|b79 stB hT'⟩ ⟨λb o q k1 k2 _=>g1 b o (aS0 q k1 k2 k2),up,λT x2=> ?_,λT x2=> ?_⟩
 ·obtain rfl:=x2.one x'
  by_cases c1:T∈frs (env::outer)
  ·exact .inl c1
  refine .inr (.inr<|.inr ?_)
  cases q:s.heap.get? T with
  | none=>rfl
  | some o=>rw[aS0 q c1 hne hne]at hT';cases hT'
 ·obtain rfl:=x2.one x';exact hrec
theorem cR7 (hfr:A.frames=some (env::outer))(hf:env.frame=some L)(F:FlyingW base (env::outer) e cls a0 s.heap)
  (hQ: ∀h',FlyingW base outer e cls a0 h'->bJ7 (frs (env::outer)) e s.heap h'->Q () {s with heap:=h'}):wpAny M A (leaving env<|.ref e) Q E s:=
 bI (a09 (aR9 env<|.ref e)<|cF1 (Q:=λ_ s'=> ∃h',s'={s with heap:=h'}/\FlyingW base outer e cls a0 h'/\aH6 (frs (env::outer)) e s.heap h') hfr hf F λh' a b=>⟨h',rfl,a,b⟩) (λ_ s' ⟨⟨h',q,a,b⟩,dk⟩=>by subst q;exact hQ h' a ⟨b,dk⟩) λ_ _ z=>z.1
theorem d23 (hfr:A.frames=some (env::outer))(hf:env.frame=some L)(F:FlyingW base (env::outer) e cls a0 s.heap)
  (hQ: ∀h',HeldW base (env::outer) e cls a0 L h'->bJ7 (frs (env::outer)) e s.heap h'->Q () {s with heap:=h'}):wpAny M A (noteFrame (.ref e) env) Q E s:=
 bI (a09 (bP1 (.ref e) env)<|cR5 (Q:=λ_ s'=> ∃h',s'={s with heap:=h'}/\HeldW base (env::outer) e cls a0 L h'/\aH6 (frs (env::outer)) e s.heap h') hfr hf F λh' a b=>⟨h',rfl,a,b⟩) (λ_ s' ⟨⟨h',q,a,b⟩,dk⟩=>by subst q;exact hQ h' a ⟨b,dk⟩) λ_ _ z=>z.1
theorem c35 {l:List Env}{fl:Value}(F:base.StaysIn s.heap/\base.get? e=none/\s.heap.FunFrames base l/\s.heap.TracedAtW base e cls a0 fl)
  (hQ: ∀h',FlyingW base l e cls a0 h'->bJ7 (frs l) e s.heap h'->Q () {s with heap:=h'}):wpAny M A (setFlight (.ref e) none) Q E s:=
 bI (a09 (a88 (.ref e) none)<|cR6 (Q:=λ_ s'=> ∃h',s'={s with heap:=h'}/\FlyingW base l e cls a0 h'/\aH6 (frs l) e s.heap h') F λh' a b=>⟨h',rfl,a,b⟩) (λ_ s' ⟨⟨h',q,a,b⟩,dk⟩=>by subst q;exact hQ h' a ⟨b,dk⟩) λ_ _ z=>z.1
theorem c36 {oe:Obj}{vs:Array Value}(hfr:A.frames=some (env::outer))(hl:s.heap.FunFrames base (env::outer))(hf:env.frame=some L)(he:s.heap.get? e=some oe)(hkb:base.StaysIn s.heap)(hen:base.get? e=none)(hd:oe.data= .fields vs)(h1:vs[1]? =some .none)(h0:vs[0]? =some a0)
  (hQ: ∀h',FlyingW base outer e oe.cls a0 h'->bJ7 (frs (env::outer)) e s.heap h'->Q () {s with heap:=h'}):wpAny M A (leaving env<|.ref e) Q E s:=
 bI (a09 (aR9 env<|.ref e)<|bU0 (Q:=λ_ s'=> ∃h',s'={s with heap:=h'}/\FlyingW base outer e oe.cls a0 h'/\aH6 (frs (env::outer)) e s.heap h') hfr hl hf he hkb hen hd h1 h0 λh' a b=>⟨h',rfl,a,b⟩) (λ_ s' ⟨⟨h',q,a,b⟩,dk⟩=>by subst q;exact hQ h' a ⟨b,dk⟩) λ_ _ z=>z.1
end
structure Fly (base:Heap)(l:List Env)(e C:Addr)(H:Hp)(h:Heap):Prop where
 fl: ∃a0,FlyingW base l e (.ref C) a0 h
 he:H e=none
 ht: ∀T,Tr h e T->H T=none
structure bP2 (g:Heap)(e:Addr)(h:Heap):Prop where
 he:g.get? e=none
 ht: ∀T,Tr h e T->g.get? T=none
def XAt (h:Heap)(a:Addr)(o:Option Addr):Prop:= ∀d,o=some d-> ∃oe,h.get? a=some oe/\oe.dict=some d
theorem XAt.dk {h h':Heap}{a:Addr}{o:Option Addr}(x:XAt h a o)(k:DK h h'):XAt h' a o:=λd q=>by
 obtain⟨oe,e1,e2⟩:=x d q;obtain⟨o',e3,e4⟩:=k a oe e1;exact⟨o',e3,e4.trans e2⟩
noncomputable def CXr (P:Program)(w:World)(base:Heap):CXT:=λouter H s E e s'=> ∃a C o H',e= .ref a/\s'.os=s.os/\AllBare s'.gens/\Un (frs outer) [] H H' s.heap s'.heap/\HOk P w H' s'.heap/\Fly base outer a C H' s'.heap/\bP2 s.heap a s'.heap/\XAt s'.heap a o/\E (.ref C) o H'
section
variable {P:Program}{w:World}{H H0:Hp}{h h':Heap}{fs:List Addr}{e:Addr}
theorem HOk.past (x:HOk P w H h)(p:bJ7 fs e h h')(hf: ∀b∈fs,H b=none)(he:H e=none)(ht: ∀T,Tr h e T->H T=none):HOk P w H h':=λa o q=>
 (x a o q).stay (λb u hb r=>by
  have tracked:H b≠none:=by
   rcases hb with rfl|hb
   ·rw[q];simp
   ·rw[hb];simp
  exact p.keep b u r (λz=>tracked (hf b z)) (λz=>tracked (by rw[z];exact he)) λz=>tracked (ht b z)) (λ_ q=>q) λ_ _ q=>q
theorem HOk.there (x:HOk P w H h){b:Addr}(n:h.get? b=none):H b=none:=by
 cases q:H b with
 | none=>rfl
 | some o=>
  exfalso
  have hh: ∃ob,h.get? b=some ob:=by
   have y:=x b o q;cases o with
   | lst xs=>obtain⟨_,_,_,_,e⟩:=y;exact⟨_,e⟩
   | tup xs=>obtain⟨_,_,_,ob,e,_⟩:=y;exact⟨_,e⟩
   | dK kvs=>obtain⟨_,_,_,_,o,_,_,e,_⟩:=y;exact⟨_,e⟩
   | dT kvs=>obtain⟨_,_,_,_,o,_,_,e,_⟩:=y;exact⟨_,e⟩
   | set S n=>obtain⟨o,_,_,_,e,_⟩:=y;exact⟨_,e⟩
   | ins C dx fs=>obtain⟨_,_,_,e,_⟩:=y;exact⟨_,e⟩
   | own y'=>exact y
   | xd fs=>obtain⟨_,⟨_,_,_,e,_⟩,_⟩:=y;exact⟨_,e⟩
   | rng lo hi=>obtain⟨_,_,_,e⟩:=y;exact⟨_,e⟩
   | frz ob u=>obtain⟨e,_⟩:=y;exact⟨_,e⟩
   | tbl ps=>exact⟨_,(show h.get? b=some _ from y)⟩
   | met f y'=>exact⟨_,(show h.get? b=some _ from y)⟩
   | ext φ=>obtain⟨_,e,_⟩:=y;exact e
  obtain⟨ob,e⟩:=hh;rw[n]at e;cases e
theorem b80 (x:HOk P w H h)(p:bJ7 fs e h h')(hf: ∀b∈fs,H b=none)(he:H e=none)(ht: ∀T,Tr h e T->H T=none): ∀T,Tr h' e T->H T=none:=λT q=>by
 rcases p.tr T q with z|z|z|z
 ·exact hf T z
 ·rw[z];exact he
 ·exact ht T z
 ·exact x.there z
end
section
variable {X:Cx}{pins:List (Addr×Obj)}{σ:St}{H:Hp}{s:Shared}{h':Heap}{e:Addr}
theorem Un.past {fs fs':List Addr}{H0:Hp}{g:Heap}{L:Addr}(u:Un fs [] H0 H g s.heap)(p:bJ7 fs' e s.heap h')(hfs: ∀b∈fs',b=L\/b∈fs)(hL:g.get? L=none)(ne:g.get? e=none)(nt: ∀T,Tr s.heap e T->g.get? T=none)(hd: ∀b∈fs,∀o,s.heap.get? b=some o-> ∀vs,o.data≠ .fields vs):Un fs [] H0 H g h' where
 keep:=λb o q n hb hx=>p.keep b o (u.keep b o q n hb hx) (λz=>by
  rcases hfs b z with z|z
  ·rw[z,hL]at q;cases q
  ·exact hb z) (λz=>by rw[z,ne]at q;cases q) λz=>by rw[nt b z]at q;cases q
 slot:=λb o q n hb hx=>by
  obtain⟨sl,e1⟩:=u.slot b o q n hb hx;obtain⟨sl',e2⟩:=p.slot b _ e1 (hd b hb _ e1);exact⟨sl',e2⟩
 free:=u.free
 there:=λb o q hx=>by
  obtain⟨o',e1⟩:=u.there b o q hx
  by_cases c:b∈fs
  ·obtain⟨sl,e2⟩:=p.slot b _ e1 (hd b c _ e1);exact⟨_,e2⟩
  ·exact⟨o',p.keep b o' e1 (λz=>by
    rcases hfs b z with z|z
    ·rw[z,hL]at q;cases q
    ·exact c z) (λz=>by rw[z,ne]at q;cases q) λz=>by rw[nt b z]at q;cases q⟩
 tups:=u.tups
 frzs:=u.frzs
 tbls:=u.tbls
end
section
variable {P:Program}{w:World}{K:Frag}{mg:Str->Option Value}{base:Heap}{N:List Str}{qual:Str}{scope:Scope}{f:Addr}{cd:Value}{A:Around}{outer:List Env}{s0:Shared}{H0:Hp}{E:XK}{CX:CXT}
theorem d24 {pins:List (Addr×Obj)}{σ:St}{H:Hp}{s':Shared}{a C:Addr}{o:Option Addr}(I:Inv (uD (CXr P w base) P w K mg base N qual scope f cd A outer s0 H0 E) pins σ H s')(F:Fly base (envOfC qual scope s0.heap.objs.size f cd::outer) a C H s'.heap)(nw:bP2 s0.heap a s'.heap)(xa:XAt s'.heap a o)(hE:E (.ref C) o H) :
  (uD (CXr P w base) P w K mg base N qual scope f cd A outer s0 H0 E).xe (.ref a) s':=by
 obtain⟨⟨a0,fl⟩,he,ht⟩:=F;have fr:(A.deeper<|envOfC qual scope s0.heap.objs.size f cd).frames=some (envOfC qual scope s0.heap.objs.size f cd::outer):=I.ok.frames;have sf: ∀b∈frs (envOfC qual scope s0.heap.objs.size f cd::outer),H b=none:=I.stkFree;have fm: ∀b∈frs (envOfC qual scope s0.heap.objs.size f cd::outer),b=s0.heap.objs.size\/b∈frs outer:=λb hb=>by
  unfold frs at hb⊢;rw[jA]at hb;have e:(envOfC qual scope s0.heap.objs.size f cd).frame=some s0.heap.objs.size:=rfl;rw[e]at hb;exact aX.mp hb
 show wpAny _ _ (leaving _<|.ref a) _ _ s'
 refine cR7 fr (L:=s0.heap.objs.size) rfl fl λh' fl' p=> ?_
 have hd: ∀b∈frs outer,∀o,s'.heap.get? b=some o-> ∀vs,o.data≠ .fields vs:=λb hb o q=>by
  obtain⟨_,o',q',n⟩:=fl.2.2.1.mem (b:=b) (by
   unfold frs at hb;rw[jA];have e:(envOfC qual scope s0.heap.objs.size f cd).frame=some s0.heap.objs.size:=rfl;rw[e];exact aX.mpr (.inr hb))
  rw[q]at q';cases q';exact n
 have un:Un (frs outer) [] H0 H s0.heap h':=I.base.past p fm (k7<|aF _) nw.he nw.ht hd;refine⟨a,C,o,H,rfl,I.os,I.bare,un,I.hok.past p sf he ht,⟨⟨a0,fl'⟩,he,b80 I.hok p sf he ht⟩,⟨nw.he,λT q=> ?_⟩,xa.dk p.dk,hE⟩
 rcases p.tr T q with z|z|z|z
 ·rcases fm T z with z|z
  ·rw[z];exact k7 (aF _)
  ·exfalso
   obtain⟨o,vs,q1,q2⟩:=p.rcd T q;obtain⟨_,o',q',n⟩:=fl'.2.2.1.mem (b:=T) z;rw[q1]at q';cases q';exact n vs q2
 ·rw[z];exact nw.he
 ·exact nw.ht T z
 ·cases r:s0.heap.get? T with
  | none=>rfl
  | some o=>
   obtain⟨o',q'⟩:=I.base.there T o r (show T ∉ ([]:List Addr)by simp)
   rw[z]at q';cases q'
theorem dL8:wK (CXr P w base) (uD (CXr P w base) P w K mg base N qual scope f cd A outer s0 H0 E) E:=by
 rintro pins σ H s e s' I ⟨a,C,o,H',rfl,ho,hb,un,hok,F,nw,xa,hE⟩;have I':=I.call' (s':=s') ho un hok hb (λb z=>absurd z ae)
 refine d24 I' F ⟨?_,λT q=> ?_⟩ xa hE
 ·cases r:s0.heap.get? a with
  | none=>rfl
  | some o=>
   obtain⟨o',q'⟩:=I.base.there a o r (show a ∉ ([]:List Addr)by simp)
   rw[nw.he]at q';cases q'
 ·have:=nw.ht T q;cases r:s0.heap.get? T with
  | none=>rfl
  | some o=>
   obtain⟨o',q'⟩:=I.base.there T o r (show T ∉ ([]:List Addr)by simp)
   rw[this]at q';cases q'
end
structure XCls (h:Heap)(C:Addr)(bmB bm:List Value)(newId:String):Prop where
 ex: ∃(nm q:Str) (N:Addr) (bs:List Value) (hd:Bool) (sn:List Str) (sub:List Value) (ab:Bool) (col:Option Bool) (dd:Option Addr) (k0 k1 k2 k3 k5:Option Value) (mN:Str->Option Value),
  h.get? C=some (excClassObj nm q C N bs bm hd sn sub ab col dd k0 k1 k2 k3 k5 newId)/\h.Ns N mN/\mN "__init__"=none
 tl:OwnTail h bmB bm
theorem bU1 {K:Frag}{h:Heap}{C:Addr}{bmB:List Value}{newId:String}(X:K.In h)(q:excIn K C bmB newId=true): ∃bm,XCls h C bmB bm newId:=by
 unfold excIn at q;split at q
 ·rename_i od ck slots look
  split at q
  ·rename_i C2 tail a0 a1 a2 a3 nid a5 em es
   simp only[dN,fU,aN0]at q;obtain⟨⟨⟨⟨⟨rfl,rfl⟩,nodel⟩,tk⟩,nk⟩,ni⟩:=q;obtain⟨c1,c2,c3,c4,c5,c6,c7,c8,c9,c10,c11⟩:=ck;dsimp only at em nodel nk ni;subst em nodel;obtain⟨sll⟩:=slots;simp only at es;subst es;exact⟨tail,⟨⟨_,_,_,_,_,_,_,_,_,_,_,_,_,_,_,_,X _ _ look,.of_isNs<|PySem.W.isNs_of_in X nk,PySem.W.nsMap_none_of_in X nk ni⟩,PySem.W.tail_of_in X tk⟩⟩
  ·cases q
 ·cases q
section
variable {X:Cx}{E:XK}{C:Addr}
def bA9 (X:Cx)(E:XK)(C:Addr):Prop:= ∀(pins:List (Addr×Obj)) (σ:St) (H:Hp) (s:Shared) (a:Addr) (oe:Obj) (vs:Array Value) (a0:Value) (o:Option Addr),Inv X pins σ H s->s.heap.get? a=some oe->oe.cls= .ref C->oe.data= .fields vs->vs[0]? =some a0->vs[1]? =some .none->H a=none->X.s₀.heap.get? a=none->XAt s.heap a o->E (.ref C) o H->X.xe (.ref a) s
theorem cF2 {P:Program}{w:World}{K:Frag}{mg:Str->Option Value}{base:Heap}{N:List Str}{qual:Str}{scope:Scope}{f:Addr}{cd:Value}{A:Around}{outer:List Env}{s0:Shared}{H0:Hp} :
  bA9 (uD (CXr P w base) P w K mg base N qual scope f cd A outer s0 H0 E) E C:=by
 intro pins σ H s a oe vs a0 o I he hc hd h0 h1 nH n0 xa hE;have fr:(A.deeper<|envOfC qual scope s0.heap.objs.size f cd).frames=some (envOfC qual scope s0.heap.objs.size f cd::outer):=I.ok.frames;have sf: ∀b∈frs (envOfC qual scope s0.heap.objs.size f cd::outer),H b=none:=I.stkFree;have fl0:s.heap.FunFrames base (envOfC qual scope s0.heap.objs.size f cd::outer):=I.stack
 have fe:(envOfC qual scope s0.heap.objs.size f cd).frame=some s0.heap.objs.size:=rfl;have fm: ∀b∈frs (envOfC qual scope s0.heap.objs.size f cd::outer),b=s0.heap.objs.size\/b∈frs outer:=λb hb=>by
  unfold frs at hb⊢;rw[jA,fe]at hb;exact aX.mp hb
 have nt: ∀T,¬Tr s.heap a T:=by
  rintro T ⟨o,ws,k1,k2,k3⟩;rw[he]at k1;cases k1;rw[hd]at k2;cases k2;rw[h1]at k3;cases k3
 have nb:base.get? a=none:=by
  cases q:base.get? a with
  | none=>rfl
  | some o=>rw[(I.ok.bs a o q).1]at n0;cases n0
 have st:base.StaysIn s.heap:=I.bk;show wpAny _ _ (leaving _<|.ref a) _ _ s;refine c36 fr fl0 (L:=s0.heap.objs.size) rfl he st nb hd h1 h0 λh' fl' p=> ?_
 rw[hc]at fl';have hdf: ∀b∈frs outer,∀o,s.heap.get? b=some o-> ∀vs,o.data≠ .fields vs:=λb hb o q=>by
  obtain⟨_,o',q',n⟩:=fl0.mem (b:=b) (by
   unfold frs at hb;rw[jA,fe];exact aX.mpr (.inr hb))
  rw[q]at q';cases q';exact n
 have un:Un (frs outer) [] H0 H s0.heap h':=I.base.past p fm (k7<|aF _) n0 (λT q=>absurd q (nt T)) hdf
 have ht: ∀T,Tr s.heap a T->H T=none:=λT q=>absurd q (nt T)
 refine⟨a,C,o,H,rfl,I.os,I.bare,un,I.hok.past p sf nH ht,⟨⟨a0,fl'⟩,nH,b80 I.hok p sf nH ht⟩,⟨n0,λT q=> ?_⟩,xa.dk p.dk,hE⟩
 rcases p.tr T q with z|z|z|z
 ·rcases fm T z with z|z
  ·rw[z];exact k7 (aF _)
  ·exfalso
   obtain⟨o,ws,q1,q2⟩:=p.rcd T q;obtain⟨_,o',q',n⟩:=fl'.2.2.1.mem (b:=T) z;rw[q1]at q';cases q';exact n ws q2
 ·rw[z];exact n0
 ·exact absurd z (nt T)
 ·cases r:s0.heap.get? T with
  | none=>rfl
  | some o=>
   obtain⟨o',q'⟩:=I.base.there T o r (show T ∉ ([]:List Addr)by simp)
   rw[z]at q';cases q'
def d25 (C:Addr)(E:XK)(ta:TA):TS:=λ_ σ H=>ta σ H λvs H1=>vs.length<=sizeLine/\E (.ref C) none H1
theorem d26 {x:Str}{np cpos pos:Pos}{e:Expr}{es:List Expr}{ta:TA}{B newId initId:String}{bmB:List Value}(FB:ExcBaseFacts B newId initId bmB)(q:excIn X.K C bmB newId=true)(hg:Gl X x)(hm:X.mg x=some (.ref C))(hc:X.calm=true)(ha:PA X (e::es) ta)(th:bA9 X E C)
  (he:starEach (e::es) X.env=(false,eval e X.env)::starEach es X.env:=by rfl) (hpl:(backTo cpos<|starEach es X.env).any (·.1)=false:=by rfl) (hd:(x==("__debug__":Str))=false:=by decide) (hex:X.ex=[]:=by rfl) :
  PS X (.Raise (some<|.Call (.Name x np) (e::es) [] cpos) none pos) (d25 C E ta):=by
 intro pins s σ H D I h;obtain⟨bm,⟨⟨nm,qn,N,bs,hdd,sn,sub,ab,col,dd,k0,k1,k2,k3,k5,mN,hC,hN,hni⟩,tl⟩⟩:=bU1 I.mod.kin q;have keepS: ∀{pins:List (Addr×Obj)} {σ:St} {H:Hp} {s2:Shared},Inv X pins σ H s2-> ∀b o,X.base.get? b=some o->s2.heap.get? b=some o:=λJ=>J.bk
 refine wpAny_Raise_call_subT (C:=C) (nm:=nm) (q:=qn) (N:=N) (bs:=bs) (bm:=bm) (hdct:=hdd) (sn:=sn) (sub:=sub) (ab:=ab) (col:=col) (dd:=dd) (k0:=k0) (k1:=k1) (k2:=k2) (k3:=k3) (k5:=k5) FB (mN:=mN) (tl.hasType FB.hasBase) (I.ok.hd hc) ?_ hni (vQ I hg hm ⟨rfl,?_⟩ hd)
 ·rw[he];show(false||(backTo cpos<|starEach es X.env).any (·.1))=false;rw[hpl];rfl
 ·have hh:=ha cpos pins s σ H _ I h;rw[he]at hh⊢;refine aL8 (bI hh (λus s2 ⟨vs,H1,I1,r1,q1⟩=>⟨rfl,by rw[<-r1.length];exact q1.1,keepS I1 _ _ hC,hN.keeps<|keepS I1,tl.keeps<|keepS I1,λh' a mk=> ?_⟩) λ_ _ y=>y)
  obtain⟨t,m1,m2,m3⟩:=mk.there;have I2:Inv X pins σ H1 {s2 with heap:=h'}:=I1.kept mk.keeps;refine th pins σ H1 _ a _ _ (.ref t) none I2 m1 rfl rfl rfl rfl (I1.hok.there mk.new) ?_ (λd z=>by cases z) q1.2
  cases r:X.s₀.heap.get? a with
  | none=>rfl
  | some o=>
   obtain⟨o',q'⟩:=I1.base.there a o r (by rw[hex];simp)
   rw[mk.new]at q';cases q'
end
section
variable {prog:Program}{w:World}{A:Around}{E:Value->Shared->Prop}{hp:Heap}{gn:Array GenState}{dr:Drawn}{tn:Nat}{os:OsState}
variable {nm qn:Str}{C N:Addr}{bs bm bmB:List Value}{hdd:Bool}{sn:List Str}{sub:List Value}{ab:Bool}{col:Option Bool}{dd:Option Addr}{k0 k1 k2 k3 k5:Option Value}{B newId initId:String}
theorem cF3 (F:ExcBaseFacts B newId initId bmB)(T:OwnTail hp bmB bm){mN:Str->Option Value}{us:List Value}{fI:Addr}{oI:Obj}{Q:Fin->Shared->Prop}
  (hC:hp.get? C=some (excClassObj nm qn C N bs bm hdd sn sub ab col dd k0 k1 k2 k3 k5 newId)) (hN:hp.Ns N mN) (hini:mN "__init__"=some (.ref fI)) (hfun:hp.get? fI=some oI) (hcls:oI.cls= .type "function")
  (hgo: ∀h' e,MadeExcOf hp h' e (.ref C) us->wpAny (model prog w) A (call (.ref fI) (.ref e::us)) (λr s'=>r= .none/\Q (.done<|.ret<|.ref e) s') E ⟨h',gn,dr,tn,os⟩) (hus:us.length<=sizeLine) :
  wpAny (model prog w) A (Builtin.«type.__call__» ⟨.ref C::us,[]⟩) Q E ⟨hp,gn,dr,tn,os⟩:=by
 repeat (first
  | with_reducible refine mZ hC ?_
  | with_reducible refine wpAny_madeBy_exc hC ?_
  | wp_step)
 refine codeAny_call_builtin_code (Code.quiet_builtin _ F.quiet) (wpAny_check_new_subT F T hC ?_)
 refine codeAny_exc_new_subT F T hC ?_ hus
 show wpAny _ _ _ _ _ _
 generalize ea:({cls:= .type "tuple",data:= .seq us.toArray}:Obj)=oa;generalize eb:({cls:= .ref C,data:= .fields #[.ref hp.objs.size,.none,.none,.none,.bool false,.none]}:Obj)=ob;have up: ∀b o,hp.get? b=some o->((hp.push oa).push ob).get? b=some o:=λb o q=>aU _ (aU _ q)
 have g1:=up _ _ hC;have g2:=up _ _ hfun;have g3:=hN.keeps up;have g4:((hp.push oa).push ob).get? (hp.objs.size+1)=some ob:=by
  subst ea eb
  heap_get
 have g5:((hp.push oa).push ob).get? hp.objs.size=some oa:=by
  subst ea;exact aU _ (Heap.get?_push_at rfl rfl)
 have g6:=T.keeps up;have me:(Value.ref C::bm).contains (.ref C)=true:=ae
 have ec:ob.cls= .ref C:=by rw[<-eb]
 unfold isInstance
 repeat (first
  | (with_reducible refine mZ g4 ?_;rw[ec])
  | (with_reducible refine zH g1 ?_;rw[me])
  | wp_step)
 show wpAny _ _ (typeLookup (.ref C) _) _ _ _
 refine wpAny_typeLookup_tail g1 g3 g6 F.mroIs F.init.lookup ?_
 rw[hini];refine iN (aA ?_);unfold bindSpecial;refine aA (zX (T:="function") ⟨_,g2,hcls⟩ ?_);rw[a9 ac]
 have mk:MadeExcOf hp ((hp.push oa).push ob) (hp.objs.size+1) (.ref C) us:=⟨up,k7<|u5 _,hp.objs.size,by rw[g4,<-eb],k7<|aF _,by rw[g5,<-ea]⟩
 refine aH (aA<|bI (hgo _ _ mk) (λr s' z=> ?_) λ_ _ z=>z)
 obtain⟨rfl,z⟩:=z
 wp_walk
 exact z
theorem xcall (F:ExcBaseFacts B newId initId bmB)(T:OwnTail hp bmB bm){mN:Str->Option Value}{us:List Value}{fI:Addr}{oI:Obj}{Q:Value->Shared->Prop}
  (hC:hp.get? C=some (excClassObj nm qn C N bs bm hdd sn sub ab col dd k0 k1 k2 k3 k5 newId)) (hN:hp.Ns N mN) (hini:mN "__init__"=some (.ref fI)) (hfun:hp.get? fI=some oI) (hcls:oI.cls= .type "function")
  (hgo: ∀h' e,MadeExcOf hp h' e (.ref C) us->wpAny (model prog w) (A.under<|.builtin "type.__call__" ⟨.ref C::us,[]⟩) (call (.ref fI) (.ref e::us)) (λr s'=>r= .none/\Q (.ref e) s') E ⟨h',gn,dr,tn,os⟩) (hus:us.length<=sizeLine) :
  wpAny (model prog w) A (call (.ref C) us) Q E ⟨hp,gn,dr,tn,os⟩:=by
 have t1:=tc_lookup;have t2:=tc_bind (.ref C);have t3:(⟨hp,gn,dr,tn,os⟩:Shared).TypeIs (.ref C) "type":=⟨_,hC,rfl⟩;refine u9 (codeAny_of_tree ?_);show wpAny _ _ (callAny (.ref C) _) _ _ _
 repeat (any_goals (first
  | assumption
  | with_reducible refine mZ hC ?_
  | wp_step))
 refine⟨rfl,?_⟩
 exact codeAny_call_builtin_at (Code.quiet_builtin _ af) entry_typeCall (wpAny_check_type_call_sub hC<|cF3 F T hC hN hini hfun hcls (λh' e mk=>hgo h' e mk) hus)
end
end L2
end
section
namespace L2
open PySem PySem.Spec PyProof.Rows
open Builtin Builtin.ObjectAttr
noncomputable def veMro:List Value:=[.type "ValueError",.type "Exception",.type "BaseException",.type "object"]
noncomputable def uJ:List Value->Bool
 | []=>false
 | v::r=>(v::r)==veMro||match v with
  | .ref _=>uJ r
  | _=>false
theorem b25 (self:Value): ∀{l:List Value},uJ l=true->refuseLoop self "__setattr__" l=pure ()
 | v::r,e=>by
  unfold uJ at e;rcases Bool.or_eq_true_iff.mp e with q|q
  ·rw[fU.mp q];exact PySem.F.store_ValueError.passes self
  ·split at q
   ·rw[refuseLoop_ref];exact b25 self q
   ·cases q
theorem bB0: ∀{l:List Value},uJ l=true->l.contains (.type "object")=true/\l.isEmpty=false
 | v::r,e=>by
  refine⟨?_,rfl⟩
  unfold uJ at e;rcases Bool.or_eq_true_iff.mp e with q|q
  ·rw[fU.mp q];decide
  ·split at q
   ·rw[aM7,(bB0 q).1,Bool.or_true]
   ·cases q
section
variable {K:Frag}{prog:Program}{w:World}{A:Around}{E:Value->Shared->Prop}{s:Shared}{x C:Addr}{mA:Str->Option Value}{ns:List Str}{name:Str}{v:Value}{cd:ClassData}
theorem xosa {R:Result->Shared->Prop}{tk:Tok}(X:K.In s.heap)(hc:clsIn K C=some cd)(hm:uJ cd.mro=true)(hdct:cd.hasDict=true)(ht:findIn K (.ref C) name=some none)
  (I:s.heap.Inst x C mA) (hw:Within mA ns) (hsz:ns.length<=100) {od:Option Obj} {o:Obj} (hx:s.heap.get? x=some o) (J:InstAt s.heap x o C od)
  (hq: ∀h' tk,h'.Inst x C (λy=>if y=name then some v else mA y)->(∀b o,b≠x->(∀o0 dx,s.heap.get? x=some o0->o0.dict=some dx->b≠dx)->s.heap.get? b=some o->h'.get? b=some o)->
   (∀o0,s.heap.get? x=some o0-> ∃o1,h'.get? x=some o1/\o1.cls=o0.cls/\o1.data=o0.data/\ ∀dx,o1.dict=some dx->o0.dict=some dx\/(s.heap.objs.size<=dx))->R (.ok<|.ret .none) {s with heap:=h',toks:=tk}) :
  codeAny (model prog w) A (.call (.builtin "object.__setattr__") ⟨[.ref x,.str name tk,v],[]⟩) R s:=by
 have SF:=PySem.F.store_ValueError;have sub:PySem.W.Looks (model prog w) s.heap (isInstance (.ref x)<|.type "object") true:=J.type.andThen (PySem.W.looks_mroIn X (by unfold PySem.W.mroIn;rw[hc,aN5,a6 (by rw[(bB0 hm).2];decide),(bB0 hm).1]))
 refine codeAny_call_builtin SF.slot.plain SF.entry (@PySem.W.check_slot (model prog w) _ _ s "object.__setattr__" "object" "__setattr__" (.ref x) [.str name tk,v] [] _ SF.kind SF.split sub (SF.args (.ref x) (.str name tk) v) ?_)
 have hmr:PySem.W.Looks (model prog w) s.heap (mroOf<|.ref C) cd.mro:=(aM2 X hc).andThen .now;rw[PySem.W.osa_eq,refuse_eq];refine aA (aA<|J.type.here<|aA<|hmr.here ?_);rw[b25 _ hm];refine aH (aA<|J.type.here<|aA<|(PySem.W.looks_findIn X ht).here<|aA<|aH ?_);have lc:=aM2 (M:=model prog w) X hc;obtain⟨o',hx',hcl,hnc,hdd⟩:=I;rw[hx]at hx';cases hx';refine aA (aH ?_);refine aA ?_
 show wpAny _ _ (instanceDict x true) _ _ s
 unfold instanceDict;refine aA (wpAny_loadPart hx ?_);rw[hcl];dsimp only;refine aA (lc.here ?_);rw[hdct];rw[a6 ac]
 clear sub hmr lc;obtain⟨hp,gn,dr,tn,os⟩:=s;dsimp only at *;have put: ∀(h1:Heap) (dx:Addr) (o1:Obj),h1.get? x=some o1->o1.cls= .ref C->(∀c,o1.data≠ .cls c)->o1.dict=some dx->dx≠x->h1.Ns1 dx mA->o1.data=o.data->(∀b ob,b≠x->hp.get? b=some ob->h1.get? b=some ob)->(o.dict=some dx\/hp.objs.size<=dx)->
   wpAny (model prog w) A.in1 (storeInDict dx (.str name tk) name v) (λfin s'=>match fin with| .done f=>R (.ok f) s'| .again c'=>c'.quiet=true/\codeAny (model prog w) A c' R s') (λe s'=>R (.error e) s') ⟨h1,gn,dr,tn,os⟩:=by
  intro h1 dx o1 g1 g2 g3 g4 g5 g6 g7 g8 g9;unfold storeInDict newKeyGuard;refine aA (aH<|aA<|wpAny_nsSet1 g6 λh' n' sb=> ?_)
  obtain⟨oD,eD,pD,q1,q2,q3⟩:=n'.count (Within.cons name v hw);have few:eD.size<=sizeLine:=by
   refine aM q3 ?_
   rw[eA,sizeLine_eq]
   lia
  refine aA (wpAny_lookBehind q1 (by rw[q2];exact pastItsLine_dict (aN1 few)) ?_)
  have gx:h'.get? x=some o1:=(sb.2 x<|Ne.symm g5).trans g1;refine aH (hq h' _ ⟨o1,gx,g2,g3,.inr ⟨dx,g4,g5,n'⟩⟩ (λb ob k1 k2 k3=> ?_) λo0 k1=> ?_)
  ·have nb:b≠dx:=by
    rcases g9 with z|z
    ·exact k2 o dx hx z
    ·intro q;have:=aV k3;rw[q]at this;exact absurd (b6 this z) (d8 _)
   exact(sb.2 b nb).trans (g8 b ob k1 k3)
  ·rw[hx]at k1;cases k1;exact⟨o1,gx,by rw[g2,hcl],g7,λdx' z=>by rw[g4]at z;cases z;exact g9⟩
 rcases hdd with⟨hn,hmA⟩| ⟨dx,hdx,hne,hns⟩
 ·rw[hn];dsimp only;rw[a6<|by simp[typeHasDict]]
  have ex: ∀d':Data,d'=o.data->wpAny (model prog w) A.in1 (match d' with
     | .cls c=>pure none
     | _=>do
      let d<-alloc {cls:=Value.type "dict",data:=Data.dict #[]}
      update x λo=>{cls:=o.cls,dict:=some d,data:=o.data,slots:=o.slots}
      dictMade (Value.ref C) x d) (λa s'=>wpAny (model prog w) A.in1 (match a with|some d=>storeInDict d (.str name tk) name v|none=>noDictFor (.ref x) (.ref C) name (none:Option Value).isSome) (λfin s'=>match fin with| .done f=>R (.ok f) s'| .again c'=>c'.quiet=true/\codeAny (model prog w) A c' R s') (λe s'=>R (.error e) s') s') (λe s'=>R (.error e) s') ⟨hp,gn,dr,tn,os⟩:=by
   intro d' ed;split
   ·rename_i c
    exact absurd ed.symm (hnc c)
   ·have x1:(hp.push {cls:= .type "dict",data:= .dict #[]}).get? x=some o:=aU _ hx;have xs:x≠hp.objs.size:=bG (aV hx);refine aA (wpAny_alloc'<|aA<|wpAny_update' x1<|aH ?_);have alive:Obj.isFreed {cls:=o.cls,dict:=some hp.objs.size,data:=o.data,slots:=o.slots}=false:=by
     have:=(Heap.get?_some_iff.mp hx).2;obtain⟨c1,c2,c3,c4⟩:=o;cases c3<;>first|rfl|exact this
    have gd:((hp.push {cls:= .type "dict",data:= .dict #[]}).update x λo=>{cls:=o.cls,dict:=some hp.objs.size,data:=o.data,slots:=o.slots}).get? hp.objs.size=some {cls:= .type "dict",data:= .dict #[]}:=
     (zG _ _ _ _<|Ne.symm xs).trans (Heap.get?_push_at rfl rfl)
    refine put _ hp.objs.size {cls:=o.cls,dict:=some hp.objs.size,data:=o.data,slots:=o.slots} (pK _ x1 alive) hcl hnc rfl (Ne.symm xs) ?_ rfl (λb ob k1 k2=>(zG _ _ _ _ k1).trans (aU _ k2)) (.inr<|aF _)
    have e0:mA=λ_=>none:=funext hmA
    rw[e0];exact Heap.Ns1.of_empty ⟨_,#[],_,gd,rfl,λe he=>absurd he ae,λ_=>rfl⟩
  exact ex o.data rfl
 ·rw[hdx];exact aH (put hp dx o hx hcl hnc hdx hne hns rfl (λb ob _ k=>k) (.inl hdx))
theorem xset {Q:Unit->Shared->Prop}(X:K.In s.heap)(hc:clsIn K C=some cd)(hm:uJ cd.mro=true)(hdct:cd.hasDict=true)(hsa:findIn K (.ref C) "__setattr__"=some (some<|.builtin "object.__setattr__"))(ht:findIn K (.ref C) name=some none)
  (I:s.heap.Inst x C mA) (hw:Within mA ns) (hsz:ns.length<=100)
  (hq: ∀h' tk,h'.Inst x C (λy=>if y=name then some v else mA y)->(∀b o,b≠x->(∀o0 dx,s.heap.get? x=some o0->o0.dict=some dx->b≠dx)->s.heap.get? b=some o->h'.get? b=some o)->
   (∀o0,s.heap.get? x=some o0-> ∃o1,h'.get? x=some o1/\o1.cls=o0.cls/\o1.data=o0.data/\ ∀dx,o1.dict=some dx->o0.dict=some dx\/(s.heap.objs.size<=dx))->Q () {s with heap:=h',toks:=tk}) :
  wpAny (model prog w) A (setAttr (.ref x) name v) Q E s:=by
 have I':=I;obtain⟨o,hx,hcl,hnc,hdd⟩:=I;have J: ∃od,InstAt s.heap x o C od:=by
  rcases hdd with⟨e,_⟩| ⟨dx,e,_,od,es,ep,ge,_⟩
  ·exact⟨none,hx,hcl,(by unfold PySem.W.notCls;split<;>first|rfl| (rename_i c q;exact absurd q (hnc c))),by rw[e];trivial⟩
  ·exact⟨some od,hx,hcl,(by unfold PySem.W.notCls;split<;>first|rfl| (rename_i c q;exact absurd q (hnc c))),by rw[e];exact ge⟩
 obtain⟨od,J⟩:=J;refine PySem.W.set_plain X J hsa ?_;exact xosa (s:={s with toks:=s.toks+1}) X hc hm hdct ht I' hw hsz hx J λh' tk a b c=>hq h' tk a b c
end
end L2
end
section
namespace L2
open PySem PySem.Spec PyProof.Rows
structure c37 (K:Frag)(C fI:Addr)(fd:FuncData)(f1 f2:Str):Prop where
 ex: ∃(oc:Value) (od:Option Addr) (nm qual:Str) (params:Arguments) (scope:Scope) (kV doc pm:Value) (an:Option Addr) (cdv ct:Value) (osl:Array (Option Value)) (x0 x1 x2:Str) (p1 p2 p3 p4 p5 p6 p7 p8:Pos),
  fd=fnOf nm qual params [.Assign [.Attribute (.Name x0 p1) f1 p2] (.Name x1 p3) p4,.Assign [.Attribute (.Name x0 p5) f2 p6] (.Name x2 p7) p8] scope .none kV doc pm an cdv ct/\
  K.lookup fI=some ⟨oc,od,.func fd,osl⟩/\oc= .type "function"/\codeIn K cdv qual=true/\aY [x0,x1,x2] [x0,x1,x2] scope/\
  scope.names.lookup x0=some .local/\scope.names.lookup x1=some .local/\scope.names.lookup x2=some .local/\(x0==("__debug__":Str))=false/\(x1==("__debug__":Str))=false/\(x2==("__debug__":Str))=false/\Binds K fd [x0,x1,x2] []
 cls: ∃cd,clsIn K C=some cd/\uJ cd.mro=true/\cd.hasDict=true
 sa:findIn K (.ref C) "__setattr__"=some (some<|.builtin "object.__setattr__")
 n1:findIn K (.ref C) f1=some none
 n2:findIn K (.ref C) f2=some none
def Laid (C e:Addr)(f1 f2:Str)(v1 v2:V)(s s':Shared):Prop:=s'.os=s.os/\AllBare s'.gens/\(∀b o,s.heap.get? b=some o->s'.heap.get? b=some o)/\
 ∃oe t d w1 w2,s'.heap.get? e=some oe/\oe.cls= .ref C/\oe.data= .fields #[.ref t,.none,.none,.none,.bool false,.none]/\oe.dict=some d/\d≠e/\s.heap.get? d=none/\RelV v1 w1/\RelV v2 w2/\s'.heap.Ns1 d (λy=>if y=f2 then some w2 else if y=f1 then some w1 else none)
section
variable {X:Cx}{pins:List (Addr×Obj)}{σ:St}{H:Hp}{s:Shared}{C fI e:Addr}{fd:FuncData}{f1 f2:Str}{h1:Heap}{u1 u2:Value}{v1 v2:V}{E:Value->Shared->Prop}{k:Nat}
theorem cR8 (T:c37 X.K C fI fd f1 f2)(I:Inv X pins σ H s)(hr:gO (k+1) X.A)(mk:MadeExcOf s.heap h1 e (.ref C) [u1,u2])(r1:RelV v1 u1)(r2:RelV v2 u2) :
  wpAny (model X.prog X.w) (X.A.under<|.builtin "type.__call__" ⟨.ref C::[u1,u2],[]⟩) (call (.ref fI) (.ref e::[u1,u2])) (λr s'=>r= .none/\Laid C e f1 f2 v1 v2 s s') E {s with heap:=h1}:=by
 obtain⟨oc,od,nm,qual,params,scope,kV,doc,pm,an,cdv,ct,osl,x0,x1,x2,p1,p2,p3,p4,p5,p6,p7,p8,rfl,lk,_,hcd,S,l0,l1,l2,d0,d1,d2,hb⟩:=T.ex;obtain⟨cd,hc,hm,hdct⟩:=T.cls;have I1:Inv X pins σ H {s with heap:=h1}:=I.kept mk.keeps;have e0:=I1.env0.make C [u1,u2] [];have rm:=hr.make C [u1,u2] [];have KX:=I1.kIn;have lim:=I1.nolimit
 have us:Vals [V.ref e,v1,v2] [Value.ref e,u1,u2]:= .cons rfl (.cons r1<|.cons r2 .nil);have hkind: ∀y∈[x0,x1,x2].zip [Value.ref e,u1,u2],scope.names.lookup y.1=some .local\/(scope.names.lookup y.1=some .cell/\((cellsFrom (h1.objs.size+1) scope.names []).lookup y.1).isSome=true):=λ⟨n,v⟩ hy=>by
  have:=(zO hy).1;simp at this;rcases this with rfl|rfl|rfl
  ·exact .inl l0
  ·exact .inl l1
  ·exact .inl l2
 refine u9 ?_
 have bd:=hb {s with heap:=h1} [Value.ref e,u1,u2] KX rfl;rw[jD]at bd;refine codeAny_call_function rm.depth (KX _ _ lk) rfl S.co S.gen rfl (PySem.W.codeRec_of KX hcd) (bd _ _ _ _ ?_);refine wpAny_newFunctionEnv_cells S.kind hkind λenv he s2 x=> ?_
 subst he;refine⟨lim.keeps x.toInCall.keep,codeAny_func ?_⟩;have J:Inv (uD CX0 X.prog X.w X.K X.mg X.base [x0,x1,x2] qual scope fI cdv (X.A.under<|.builtin "type.__call__" ⟨.ref C::[u1,u2],[]⟩) X.stack {s with heap:=h1} H E0) [] (start [x0,x1,x2] [V.ref e,v1,v2]) H s2:=bN4 S rm.hd e0 rfl us x;obtain⟨m,hn,hl⟩:=J.loc
 have look: ∀(i:Nat) (y:Str) (v:V),[x0,x1,x2][i]? =some y->(start [x0,x1,x2] [V.ref e,v1,v2])[i]? =some (some v)->scope.names.lookup y=some .local-> ∃u,RelV v u/\m y=some u:=λi y v q1 q2 q3=>by
  obtain⟨u,r,lo⟩:=hl i y v q1 q2 (.inl q3);rcases lo with⟨_,hm⟩| ⟨z,_⟩
  ·exact⟨u,r,hm⟩
  ·have z':scope.names.lookup y=some .cell\/scope.names.lookup y=some .free:=z;rw[q3]at z';rcases z' with z'|z'<;>cases z'
 obtain⟨w0,q0,m0⟩:=look 0 x0 (.ref e) rfl rfl l0;obtain⟨w1,q1,m1⟩:=look 1 x1 v1 rfl rfl l1;obtain⟨w2,q2,m2⟩:=look 2 x2 v2 rfl rfl l2;obtain rfl:w0=Value.ref e:=q0;have kk:=J.ok.kind;have kin:X.K.In s2.heap:=KX.keeps x.toInCall.keep;obtain⟨t,t1,t2,t3⟩:=mk.there;have ge:s2.heap.get? e=some {cls:= .ref C,data:= .fields #[.ref t,.none,.none,.none,.bool false,.none]}:=x.toInCall.keep _ _ t1
 have eL:e≠h1.objs.size:=bG (aV t1);have in0:s2.heap.Inst e C (λ_=>none):=⟨_,ge,rfl,(λc z=>by cases z),.inl ⟨rfl,λ_=>rfl⟩⟩
 refine tQ (aK1<|nM (pM kk l1 hn m1<|nM (pM kk l0 hn m0 ?_) d0) d1)
 refine xset kin hc hm hdct T.sa T.n1 in0 (ns:=[]) (λn z=>absurd rfl z) ae λh3 tk3 in3 kp3 ob3=> ?_
 obtain⟨o3,g3,c3,dt3,dd3⟩:=ob3 _ ge;have keep3: ∀b o,b≠e->s2.heap.get? b=some o->h3.get? b=some o:=λb o n q=>kp3 b o n (λo0 dx z1 z2=>by rw[ge]at z1;cases z1;cases z2) q
 have hn3:h3.Ns h1.objs.size m:=by
  obtain⟨o,es,ep,z1,z2⟩:=hn;exact⟨o,es,ep,keep3 _ _ (Ne.symm eL) z1,z2⟩
 have keep3': ∀b o,s.heap.get? b=some o->h3.get? b=some o:=λb o q=>keep3 b o (λz=>by rw[z,mk.new]at q;cases q) (x.toInCall.keep _ _<|mk.keeps b o q)
 have kin3:X.K.In h3:=I.kIn.keeps keep3';refine tQ (aK1<|nM (pM kk l2 hn3 m2<|nM (pM kk l0 hn3 m0 ?_) d0) d2);refine xset kin3 hc hm hdct T.sa T.n2 in3 (ns:=[f1]) (λn z=> ?_) ae λh4 tk4 in4 kp4 ob4=> ?_
 ·by_cases c:n=f1
  ·simp[c]
  ·rw[a6 c]at z;exact absurd rfl z
 obtain⟨o4,g4,c4,dt4,dd4⟩:=ob4 _ g3;refine nB ?_;obtain⟨o5,g5,_,_,dd5⟩:=in4;rw[g4]at g5;cases g5;rcases dd5 with⟨_,no⟩| ⟨d,ed,de,nd⟩
 ·have:=no f2;simp at this
 have dn:s.heap.get? d=none:=by
  cases q:s.heap.get? d with
  | none=>rfl
  | some o=>
   exfalso
   have a3:=aV (keep3' d o q);have a2:=aV (x.toInCall.keep _ _<|mk.keeps d o q);rcases dd4 d ed with z|z
   ·rcases dd3 d z with z|z
    ·cases z
    ·exact absurd (b6 a2 z) (d8 _)
   ·exact absurd (b6 a3 z) (d8 _)
 refine⟨rfl,J.os,J.bare,λb o q=> ?_,o4,t,d,w1,w2,g4,?_,?_,ed,de,dn,q1,q2,nd⟩
 ·refine kp4 b o (λz=>by rw[z,mk.new]at q;cases q) (λo0 dx z1 z2=> ?_) (keep3' b o q)
  rw[g3]at z1;cases z1;rcases dd3 dx z2 with z|z
  ·cases z
  ·intro z';have:=aV (x.toInCall.keep _ _<|mk.keeps b o q);rw[z']at this;exact absurd (b6 this z) (d8 _)
 ·rw[c4,c3]
 ·rw[dt4,dt3]
end
noncomputable def aH7 (K:Frag)(C fI:Addr)(bmB:List Value)(newId:String):Bool:=match K.lookup C with
 | some ⟨.type "type",_,.cls ck,sl⟩=>(match ck.mro,sl.toList with
  | .ref C2::tail,[_,_,_,_,some<|.builtin nid,_]=>C2==C&&nid==newId&& !ck.hasDel&&PySem.W.tailIn K bmB tail&&PySem.W.nsOkIn K ck.ns&&nsIn K ck.ns "__init__"==some (some<|.ref fI)
  | _,_=>false)
 | _=>false
theorem dF4 {K:Frag}{h:Heap}{N:Addr}{mg:Str->Option Value}{n:Str}{v:Value}(X:K.In h)(G:h.Ns N mg)(e:nsIn K N n=some (some v)):mg n=some v:=by
 obtain⟨ob,ents,np,look0,dat,_,find0⟩:=G;unfold nsIn at e;split at e
 ·rename_i look
  have same:=X _ _ look;rw[look0]at same;cases same;cases dat;split at e
  ·rename_i en found
   cases e;rw[<-find0];unfold nsFind findBy;rw[<-Array.find?_toList,found];rfl
  ·split at e<;>cases e
 ·cases e
structure XClsI (h:Heap)(C fI:Addr)(bmB bm:List Value)(newId:String):Prop where
 ex: ∃(nm q:Str) (N:Addr) (bs:List Value) (hd:Bool) (sn:List Str) (sub:List Value) (ab:Bool) (col:Option Bool) (dd:Option Addr) (k0 k1 k2 k3 k5:Option Value) (mN:Str->Option Value),
  h.get? C=some (excClassObj nm q C N bs bm hd sn sub ab col dd k0 k1 k2 k3 k5 newId)/\h.Ns N mN/\mN "__init__"=some (.ref fI)
 tl:OwnTail h bmB bm
theorem c38 {K:Frag}{h:Heap}{C fI:Addr}{bmB:List Value}{newId:String}(X:K.In h)(q:aH7 K C fI bmB newId=true): ∃bm,XClsI h C fI bmB bm newId:=by
 unfold aH7 at q;split at q
 ·rename_i od ck slots look
  split at q
  ·rename_i C2 tail a0 a1 a2 a3 nid a5 em es
   simp only[dN,fU,aN0]at q;obtain⟨⟨⟨⟨⟨rfl,rfl⟩,nodel⟩,tk⟩,nk⟩,ni⟩:=q;obtain⟨c1,c2,c3,c4,c5,c6,c7,c8,c9,c10,c11⟩:=ck;dsimp only at em nodel nk ni;subst em nodel;obtain⟨sll⟩:=slots;simp only at es;subst es;have nsk:h.Ns c4 (h.nsMap c4):= .of_isNs (PySem.W.isNs_of_in X nk);exact⟨tail,⟨⟨_,_,_,_,_,_,_,_,_,_,_,_,_,_,_,_,X _ _ look,nsk,dF4 X nsk ni⟩,PySem.W.tail_of_in X tk⟩⟩
  ·cases q
 ·cases q
section
variable {M:Model}{A:Around}{E:Value->Shared->Prop}{s:Shared}{env:Env}
variable {nm qn:Str}{C N:Addr}{bs bm:List Value}{hdd:Bool}{sn:List Str}{sub:List Value}{ab:Bool}{col:Option Bool}{dd:Option Addr}{k0 k1 k2 k3 k5:Option Value}{newId:String}
theorem xraise {x:Sem Value}{Q:Flow->Shared->Prop}(hbase:bm.contains (.type "BaseException")=true)(hh:A.handled=none)
  (h:wpAny M A x (λv s1=> ∃e oe vs,v= .ref e/\s1.heap.get? C=some (excClassObj nm qn C N bs bm hdd sn sub ab col dd k0 k1 k2 k3 k5 newId)/\s1.heap.get? e=some oe/\oe.cls= .ref C/\oe.data= .fields vs/\vs[1]? =some .none/\E (.ref e) s1) E s) :
  wpAny M A (raiseStmt env (some x) none) Q E s:=by
 have has:(Value.ref C::bm).contains (.type "BaseException")=true:=by rw[aM7,hbase,Bool.or_true]
 unfold raiseStmt;refine aA (bI h (λv s1 z=> ?_) λ_ _ y=>y)
 obtain⟨e,oe,vs,rfl,hC,he,hcl,hdt,h1,hE⟩:=z;obtain⟨hp,gn,dr,tn,os⟩:=s1;obtain⟨oc,od,odt,osl⟩:=oe;dsimp only at hcl hdt;subst hcl hdt
 repeat (first
  | with_reducible refine mZ he ?_
  | with_reducible refine mZ hC ?_
  | (with_reducible refine zH hC ?_;rw[has])
  | wp_step)
 rw[h1];refine aH (aH ?_);exact wpAny_raiseNew_none hh hE
end
section
variable {P:Program}{w:World}{H:Hp}{h h':Heap}{a:Addr}{o:HO}{fs ex:List Addr}
theorem HOk.laidN (x:HOk P w H h)(k: ∀b u,h.get? b=some u->h'.get? b=some u)(hn:H a=none)(new:rC P w (upd H a o) h' a o):HOk P w (upd H a o) h':=λb u e=>by
 by_cases hb:b=a
 ·subst hb;rw[iB]at e;cases e;exact new
 ·rw[cG hb]at e;exact(x b u e).stay (λc v _ q=>k c v q) (λc q=>by rw[cG<|cX q hn];exact q) λc xs q=>by rw[cG<|cX q hn];exact q
theorem Un.laidN (k: ∀b u,h.get? b=some u->h'.get? b=some u)(hp:h.get? a=none)(hn:H a=none):Un fs ex H (upd H a o) h h' where
 keep:=λb u q _ _ _=>k b u q
 slot:=λb u q _ _ _=>⟨u.slots,k b u q⟩
 free:=λb u q n _=>by rw[cG (λz=>by rw[z,hp]at q;cases q)];exact n
 there:=λb u q _=>⟨u,k b u q⟩
 tups:=λb xs q=>by rw[cG<|cX q hn];exact q
 frzs:=λb u xs q=>by rw[cG<|cX q hn];exact q
 tbls:=λb ps q=>⟨#[],by rw[cG<|cX q hn,q];simp⟩
end
section
variable {X:Cx}{E:XK}{C fI:Addr}
def dF5 (C:Addr)(f1 f2:Str)(E:XK)(ta:TA):TS:=λ_ σ H=>ta σ H λvs H1=> ∃v1 v2,vs=[v1,v2]/\ ∀d,H1 d=none->E (.ref C) (some d) (upd H1 d<|.xd [(f1,v1),(f2,v2)])
theorem cR9 {x:Str}{np cpos pos:Pos}{e1 e2:Expr}{ta:TA}{B newId initId:String}{bmB:List Value}{fd:FuncData}{f1 f2:Str}{k:Nat}(FB:ExcBaseFacts B newId initId bmB)(q:aH7 X.K C fI bmB newId=true)(T:c37 X.K C fI fd f1 f2)(hr:gO (k+1) X.A)(hg:Gl X x)(hm:X.mg x=some (.ref C))(hc:X.calm=true)(ha:PA X [e1,e2] ta)(th:bA9 X E C)(hne:f1≠f2)
  (he:starEach [e1,e2] X.env=(false,eval e1 X.env)::starEach [e2] X.env:=by rfl) (hpl:(backTo cpos<|starEach [e2] X.env).any (·.1)=false:=by rfl) (hd:(x==("__debug__":Str))=false:=by decide) (hex:X.ex=[]:=by rfl) :
  PS X (.Raise (some<|.Call (.Name x np) [e1,e2] [] cpos) none pos) (dF5 C f1 f2 E ta):=by
 intro pins s σ H D I h;obtain⟨bm,⟨⟨nm,qn,N,bs,hdd,sn,sub,ab,col,dd,k0,k1,k2,k3,k5,mN,hC,hN,hni⟩,tl⟩⟩:=c38 I.mod.kin q;have keepS: ∀{pins:List (Addr×Obj)} {σ:St} {H:Hp} {s2:Shared},Inv X pins σ H s2-> ∀b o,X.base.get? b=some o->s2.heap.get? b=some o:=λJ=>J.bk
 rw[arm_exec_Raise];refine aA (nG<|xraise (C:=C) (nm:=nm) (qn:=qn) (N:=N) (bs:=bs) (bm:=bm) (hdd:=hdd) (sn:=sn) (sub:=sub) (ab:=ab) (col:=col) (dd:=dd) (k0:=k0) (k1:=k1) (k2:=k2) (k3:=k3) (k5:=k5) (newId:=newId) (tl.hasType FB.hasBase) (I.ok.hd hc) ?_);refine aA (bI (wpAny_Call_ofName<|vQ I hg hm ?_ hd) (λv s3 h3=>aA (nG<|aH h3)) λ_ _ z=>z)
 have plain:(backTo cpos<|starEach [e1,e2] X.env).any (·.1)=false:=by
  rw[he];show(false||(backTo cpos<|starEach [e2] X.env).any (·.1))=false;rw[hpl];rfl
 have hh:=ha cpos pins s σ H _ I h;unfold callWith;rw[he]at hh plain⊢;refine aA (iN<|aL8<|bI hh (λus s2 z=>aA (nG ?_)) λ_ _ z=>z)
 obtain⟨vs,H1,I1,r1,w1,w2,rfl,hE⟩:=z;simp only[plain];have hC2:=keepS I1 _ _ hC;obtain⟨u1,u2,rfl⟩: ∃u1 u2,us=[u1,u2]:=by
  have e:=r1.length
  match us,e with
  | [a,b],_=>exact⟨a,b,rfl⟩
 obtain⟨q1,q2⟩:RelV w1 u1/\RelV w2 u2:=by
  cases r1 with
  | cons a r=>
   cases r with
   | cons b _=>exact⟨a,b⟩
 obtain⟨oc,od,_,_,_,_,_,_,_,_,_,_,osl,_,_,_,_,_,_,_,_,_,_,_,efd,lk,oce,_⟩:=T.ex;have gf:=I1.kIn _ _ lk;obtain⟨hp,gn,dr,tn,os⟩:=s2;refine aA (wpAny_keeperOf_exc hC2 ?_);refine aA (xcall FB (tl.keeps<|keepS I1) hC2 (hN.keeps<|keepS I1) hni gf oce (λh' a mk=> ?_) (by simp;decide))
 refine bI (cR8 T I1 hr mk q1 q2) (λr s' z=> ?_) λ_ _ z=>z
 obtain⟨rfl,z1,z2,z3,oe,t,d,y1,y2,z4,z5,z6,ed,de,dn,x1,x2,nd⟩:=z;refine⟨rfl,aA<|iN<|wpAny_point<|aH ?_⟩;have dH:H1 d=none:=I1.hok.there dn;have I2:Inv X pins σ (upd H1 d<|.xd [(f1,w1),(f2,w2)]) s':=by
  obtain⟨hp',gn',dr',tn',os'⟩:=s';obtain rfl:os'=os:=z1;refine I1.call (h':=hp') (g':=gn') (d':=dr') (t':=tn') (ch:=[]) (Un.laidN z3 dn dH) (I1.hok.laidN z3 dH ?_) z2 (λb z=>absurd z ae)
  refine⟨_,nd,λf=> ?_⟩
  simp only[cU,List.lookup_nil]
  by_cases c1:f=f1
  ·subst c1;rw[aN4,a6 hne,a9 rfl];exact x1
  ·rw[show(f==f1)=false from pO.mpr c1]
   by_cases c2:f=f2
   ·subst c2;rw[aN4,a9 rfl];exact x2
   ·rw[show(f==f2)=false from pO.mpr c2,a6 c2,a6 c1]
    exact trivial
 refine⟨a,oe,_,rfl,z3 _ _ hC2,z4,z5,z6,rfl,?_⟩
 refine th pins σ _ s' a oe _ (.ref t) (some d) I2 z4 z5 z6 rfl rfl (by rw[cG<|Ne.symm de];exact I1.hok.there mk.new) ?_ (λd' e=>by cases e;exact⟨oe,z4,ed⟩) (hE d dH)
 cases r:X.s₀.heap.get? a with
 | none=>rfl
 | some o=>
  obtain⟨o',q'⟩:=I1.base.there a o r (by rw[hex];simp)
  rw[mk.new]at q';cases q'
end
end L2
end
section
namespace M
open PySem PySem.Spec PyProof.Rows L2
abbrev XP:=Str->List D->Prop
abbrev ΦX:=List D->(B->Prop)->XP->Prop
noncomputable def bP3 (n:Str):List Str:=if n="FallsApart" then ["left","right"]else if n="NotWhole" then ["prime","number"]else []
noncomputable def XR (K:Frag)(A:AS)(H:Hp)(n:Str)(ds:List D):Option Addr->Prop
 | none=>bP3 n=[]
 | some d=> ∃vs,¬A d/\H d=some (.xd<|(bP3 n).zip vs)/\(bP3 n).length=vs.length/\bK K A H ds vs
theorem XR.mono {K:Frag}{A A':AS}{H H':Hp}{n:Str}{ds:List D}(p:lX A H A' H'): ∀{o:Option Addr},XR K A H n ds o->XR K A' H' n ds o
 | none,h=>h
 | some d,⟨vs,h1,h2,h3,h4⟩=>⟨vs,(p d _ h1 h2).1,(p d _ h1 h2).2,h3,h4.mono p⟩
noncomputable def spX (K:Frag)(mg:Str->Option Value)(φ:ΦX):Sp:=λvs H Q E=> ∃A ds Q0 Ex,(∀a,A a->H a≠none)/\bK K A H ds vs/\φ ds Q0 Ex/\(∀b v H',Q0 b->gT H H'->uE K A H H' b v->Q v H')/\ ∀n C es o H',Ex n es->mg n=some (.ref C)->gT H H'->XR K A H' n es o->E (.ref C) o H'
structure FnX (P:Program)(w:World)(K:Frag)(mg:Str->Option Value)(base:Heap)(x:Str)(ps:List Str)(k:Nat)(φ:ΦX):Prop where
 ex: ∃f fd,sU P w K mg base (CXr P w base) k f fd ps (spX K mg φ)/\Binds K fd ps []/\keepIn K (.ref f)=true/\mg x=some (.ref f)
abbrev USX:=XP->US
def lSX (K:Frag)(mg:Str->Option Value)(E:XK)(t:USX):TS:=λD σ H=> ∃C ρ D0 Ex,EOk K C ρ σ H/\t Ex D0 ρ/\DOk K C D0 D/\ ∀n Cl es o H',Ex n es->mg n=some (.ref Cl)->gT C.H0 H'->XR K C.A0 H' n es o->E (.ref Cl) o H'
def bU2 (X:Cx)(E:XK)(st:Stmt)(t:USX):Prop:=PS X st (lSX X.K X.mg E t)
def a55 (X:Cx)(E:XK)(sts:List Stmt)(t:USX):Prop:=PSs X sts (lSX X.K X.mg E t)
section
variable {X:Cx}{E:XK}{st:Stmt}{sts:List Stmt}{t u:USX}{e:Expr}{es:List Expr}{pos:Pos}
theorem aS1 {t:US}(h:PUS X st t):bU2 X E st (λ_=>t):=rD h λD σ H ⟨C,ρ,D0,Ex,I,h,k,_⟩=>⟨C,ρ,D0,I,h,k⟩
theorem d27 {t:US}(h:rX X sts t):a55 X E sts (λ_=>t):=b97 h λD σ H ⟨C,ρ,D0,Ex,I,h,k,_⟩=>⟨C,ρ,D0,I,h,k⟩
theorem bU3 (h1:bU2 X E st t)(h2:a55 X E sts u):a55 X E (st::sts) (λEx=>aW (t Ex) (u Ex)):=
 b97 (y9 h1 h2) λD σ H ⟨C,ρ,D0,Ex,I,h,k,kx⟩=>⟨C,ρ,{D0 with nx:=u Ex D0},Ex,I,h,⟨λρ' σ' H' q I'=>⟨C,ρ',D0,Ex,I',q,k,kx⟩,k.rt,k.bk,k.ct⟩,kx⟩
theorem bB1 (h1:bU2 X E st t):a55 X E [st] t:=bR6 h1
theorem cF4:a55 X E [] (λ_=>fH):=d27 bS6
theorem d28 {c:Expr}{a b:List Stmt}{tc:UT}(hc:PUT X c tc)(ha:a55 X E a t)(hb:a55 X E b u):bU2 X E (.If c a b pos) (λEx=>iD tc (t Ex) (u Ex)):=
 rD (dK8 hc ha hb) λD σ H ⟨C,ρ,D0,Ex,I,h,k,kx⟩=>⟨C,ρ,_,I,h,λc ρ1 H1 q f s=>by
  have I1:=(I.frz f).same s;cases c with
  | true=>
   dsimp only at q⊢;rw[a9 rfl]at q⊢;exact⟨C,ρ1,D0,Ex,I1,q,k,kx⟩
  | false=>
   dsimp only at q⊢;rw[a6 ac]at q⊢
   exact⟨C,ρ1,D0,Ex,I1,q,k,kx⟩⟩
def bU4 (φ:ΦX)(t:UA)(Ex:XP):UE:=λρ Q=>t ρ λds ρ1=>φ ds (λb=>Q b ρ1) Ex
theorem spX_of {φ:ΦX}{C:C0}{ρ ρ1:Ev}{σ:L2.St}{H H1:Hp}{ds:List D}{vs:List V}{Q0:B->Prop}{Ex:XP}{Q:VK}(I:EOk X.K C ρ σ H)(f:Frz ρ ρ1)(s:gT H H1)(r:bK X.K (Av C ρ1 σ) H1 ds vs)(q:φ ds Q0 Ex)(kq: ∀b v H',Q0 b->gT H1 H'->uE X.K (Av C ρ1 σ) H1 H' b v->Q v H')(kx: ∀n Cl es o H',Ex n es->X.mg n=some (.ref Cl)->gT C.H0 H'->XR X.K C.A0 H' n es o->E (.ref Cl) o H'):spX X.K X.mg φ (vs++[]) H1 Q E:=by
 have I1:=(I.frz f).same s;rw[jD];exact⟨Av C ρ1 σ,ds,Q0,Ex,λa z=>I1.avSome z,r,q,kq,λn Cl es o H' ex hm s' x=>kx n Cl es o H' ex hm (I1.ext.trans s') (x.mono<|.sub (.refl _) λa z=> .inl z)⟩
theorem cK8 {k k':Nat}{ps:List Str}{φ:ΦX}{x:Str}{p cpos:Pos}{t:UA}(F:FnX X.prog X.w X.K X.mg X.base x ps k φ)(hr:gO k' X.A)(hk:k<=k')(hp:wK (CXr X.prog X.w X.base) X E)(hg:Gl X x)(ha:PUA X (e::es) t)(hdb:(x==("__debug__":Str))=false:=by decide)
  (he:starEach (e::es) X.env=(false,eval e X.env)::starEach es X.env:=by rfl) (hpl:(backTo cpos<|starEach es X.env).any (·.1)=false:=by rfl) (hs:swapsWith (.Call (.Name x p) (e::es) [] cpos) none pos.line X.env=pure false:=by rfl) :
  bU2 X E (.Expr (.Call (.Name x p) (e::es) [] cpos) pos) (λEx=>aH4 (bU4 φ t Ex)):=by
 obtain⟨f,fd,G,b,kp,m⟩:=F.ex;exact rD (b69 (cJ0 G (hr.mono hk) hg m kp b .nil hp ha hdb he hpl) hs) λD σ H ⟨C,ρ,D0,Ex,I,h,k,kx⟩=>⟨C,ρ,_,I,h,λds ρ1 vs H1 q f s r=>spX_of I f s r q (λb v H' q' s' r'=>k.nx _ _ _ q' (((I.frz f).same s).same s')) kx⟩
def bU5 (x:Str)(t:UA)(Ex:XP):US:=λ_ ρ=>t ρ λds _=>ds.length<=sizeLine/\Ex x []
theorem lRaise {x:Str}{C:Addr}{t:UA}(hm:X.mg x=some (.ref C))(hk:bP3 x=[])(D:bJ1)(σ:L2.St)(H:Hp)(h:lSX X.K X.mg E (λEx=>bU5 x t Ex) D σ H):d25 C E (lA X.K t) D σ H:=by
 obtain⟨C0,ρ,D0,Ex,I,h,k,kx⟩:=h;exact⟨C0,ρ,_,I,h,λds ρ1 vs H1 q f s r=>⟨by rw[<-r.length];exact q.1,kx x C [] none H1 q.2 hm (I.ext.trans s) hk⟩⟩
def aS2 (x:Str)(t1 t2:UE)(Ex:XP):US:=λ_ ρ=>t1 ρ λa ρ1=>t2 ρ1 λb _=>Ex x [a.d,b.d]
theorem d29 {C:Addr}{x:Str}{np cpos:Pos}{t:UA}{B newId initId:String}{bmB:List Value}(FB:ExcBaseFacts B newId initId bmB)(q:excIn X.K C bmB newId=true)(hg:Gl X x)(hm:X.mg x=some (.ref C))(hc:X.calm=true)(ha:PUA X (e::es) t)(th:bA9 X E C)(hk:bP3 x=[])
  (he:starEach (e::es) X.env=(false,eval e X.env)::starEach es X.env:=by rfl) (hpl:(backTo cpos<|starEach es X.env).any (·.1)=false:=by rfl) (hd:(x==("__debug__":Str))=false:=by decide) (hex:X.ex=[]:=by rfl) :
  bU2 X E (.Raise (some<|.Call (.Name x np) (e::es) [] cpos) none pos) (λEx=>bU5 x t Ex):=rD (d26 FB q hg hm hc ha th he hpl hd hex) (lRaise hm hk)
theorem bP4 {C fI:Addr}{x:Str}{np cpos:Pos}{e1 e2:Expr}{t1 t2:UE}{B newId initId:String}{bmB:List Value}{fd:FuncData}{f1 f2:Str}{k:Nat}(FB:ExcBaseFacts B newId initId bmB)(q:aH7 X.K C fI bmB newId=true)(T:c37 X.K C fI fd f1 f2)(hr:gO (k+1) X.A)(hg:Gl X x)(hm:X.mg x=some (.ref C))(hc:X.calm=true)(ha:PUA X [e1,e2] (aB t1<|aB t2 aL))(th:bA9 X E C)(hk:bP3 x=[f1,f2])(hne:f1≠f2)
  (he:starEach [e1,e2] X.env=(false,eval e1 X.env)::starEach [e2] X.env:=by rfl) (hpl:(backTo cpos<|starEach [e2] X.env).any (·.1)=false:=by rfl) (hd:(x==("__debug__":Str))=false:=by decide) (hex:X.ex=[]:=by rfl) :
  bU2 X E (.Raise (some<|.Call (.Name x np) [e1,e2] [] cpos) none pos) (λEx=>aS2 x t1 t2 Ex):=by
 refine rD (cR9 FB q T hr hg hm hc ha th hne he hpl hd hex) λD σ H ⟨C0,ρ,D0,Ex,I,h,k,kx⟩=> ?_
 refine⟨C0,ρ,λds _=> ∃a b,ds=[a,b]/\Ex x ds,I,?_,λds ρ' vs H' ⟨a,b,q1,q2⟩ f s r=> ?_⟩
 ·have e9: ∀(z y:M.B) (ρ2:Ev),(∃a b,[z.d,y.d]=[a,b]/\Ex x [z.d,y.d])=Ex x [z.d,y.d]:=λz y ρ2=>propext ⟨λ⟨_,_,_,w⟩=>w,λw=>⟨_,_,rfl,w⟩⟩
  show t1 ρ λz ρ1=>t2 ρ1 λy ρ2=> ∃a b,[z.d,y.d]=[a,b]/\Ex x [z.d,y.d]
  have:=h;unfold aS2 at this;simp only[e9 _ _ ρ];exact this
 ·subst q1;obtain⟨v1,vr,rfl,r1,r2⟩:=r.uncons;obtain⟨v2,vr2,rfl,r3,r4⟩:=r2.uncons;cases r4.unnil;refine⟨v1,v2,rfl,λd hd=> ?_⟩
  have I1:=(I.frz f).same s;have s2:gT H' (upd H' d<|.xd [(f1,v1),(f2,v2)]):=λb o z=>by rw[cG<|cX z hd];exact z
  have na: ∀a,C0.A0 a->a≠d:=λa z e=>I1.avSome (.inl z) (by rw[e];exact hd)
  refine kx x C _ (some d) _ q2 hm (I1.ext.trans s2) ⟨[v1,v2],λz=>na d z rfl,?_,by rw[hk];rfl,(bK.cons r1<|.cons r3 .nil).mono λb o n z=>⟨λw=>n (.inl w),s2 b o z⟩⟩
  rw[iB,hk];rfl
theorem d30 {P:Program}{w:World}{K:Frag}{mg:Str->Option Value}{base:Heap}{x qual:Str}{st:Stmt}{f:Addr}{fd:FuncData}{N ps:List Str}{k:Nat}{φ:ΦX}(F:Fun K x qual st f fd)(S:aY N ps (aG st))
  (len: ∀ds Q Ex,φ ds Q Ex->ds.length=ps.length) {t:USX}
  (der: ∀(cdv:Value) (A:Around) (outer:List Env) (s:Shared) (H:Hp) (E:XK),gO k (A.deeper<|envOfC qual (aG st) s.heap.objs.size f cdv)->a55 (uD (CXr P w base) P w K mg base N qual (aG st) f cdv A outer s H E) E (dR st) t)
  (rd: ∀ds Q Ex,φ ds Q Ex->t Ex {nx:=λ_=>Q (.pu .non),rt:=Q} (init N ds)) :
  sU P w K mg base (CXr P w base) (k+1) f fd ps (spX K mg φ):=by
 obtain⟨oc,od,kV,doc,pm,an,cdv,ct,osl,rfl,lk,hcd⟩:=F.ex;refine cX8 lk hcd S (λvs H Q E h=> ?_) λA outer s H vs Q E hr h=> ?_
 ·obtain⟨A,ds,Q0,Ex,_,r,h,_⟩:=h;rw[<-r.length];exact len ds Q0 Ex h
 ·obtain⟨A',ds,Q0,Ex,hA,r,h,q,qx⟩:=h;refine⟨_,der cdv A outer s H E hr,⟨H,A'⟩,init N ds,_,Ex,bT0 hA r,rd ds Q0 Ex h,⟨λρ σ H' z I=> ?_,λb v H' z s r=>q b v H' z s r,λ_ _ _ z=>z.elim,λ_ _ _ z=>z.elim⟩,qx⟩
  exact q _ _ H' z I.ext (show Rep _ _ _ _ _ by simp only[Rep])
theorem FnX.mk' {P:Program}{w:World}{K:Frag}{mg:Str->Option Value}{base:Heap}{x qual:Str}{st:Stmt}{f:Addr}{fd:FuncData}{N ps:List Str}{k:Nat}{φ:ΦX}(F:Fun K x qual st f fd)(m:mg x=some (.ref f))(b:Binds K fd ps [])(S:aY N ps (aG st))
  (len: ∀ds Q Ex,φ ds Q Ex->ds.length=ps.length) {t:USX}
  (der: ∀(cdv:Value) (A:Around) (outer:List Env) (s:Shared) (H:Hp) (E:XK),gO k (A.deeper<|envOfC qual (aG st) s.heap.objs.size f cdv)->a55 (uD (CXr P w base) P w K mg base N qual (aG st) f cdv A outer s H E) E (dR st) t)
  (rd: ∀ds Q Ex,φ ds Q Ex->t Ex {nx:=λ_=>Q (.pu .non),rt:=Q} (init N ds)):FnX P w K mg base x ps (k+1) φ:=
 ⟨f,fd,d30 F S len der rd,b,F.kp,m⟩
end
end M
end
section
namespace L2
open PySem PySem.Spec PyProof.Rows
section
variable {X:Cx}{pins:List (Addr×Obj)}{σ:St}{H:Hp}{s:Shared}{h':Heap}{e:Addr}
theorem Inv.past {g:Heap}(I:Inv X pins σ H s)(p:bJ7 (frs X.stack) e s.heap h')(hstk:X.stack=X.env::X.outer)(hfr:X.env.frame=some X.env.locals)(hex:X.ex=[])(gs: ∀b o,X.s₀.heap.get? b=some o-> ∃o',g.get? b=some o')(gp: ∀q∈X.pn++pins,∃o',g.get? q.1=some o')(ne:g.get? e=none)(nt: ∀T,Tr s.heap e T->g.get? T=none)(he:H e=none)(ht: ∀T,Tr s.heap e T->H T=none):Inv X pins σ H {s with heap:=h'}:=by
 have none0: ∀b,g.get? b=none->X.s₀.heap.get? b=none:=λb q=>by
  cases r:X.s₀.heap.get? b with
  | none=>rfl
  | some o=>obtain⟨o',q'⟩:=gs b o r;rw[q]at q';cases q'
 have fm: ∀b∈frs X.stack,b=X.env.locals\/b∈X.fs:=λb hb=>by
  rw[hstk]at hb;unfold Cx.fs;unfold frs at hb⊢;rw[jA,hfr]at hb;exact aX.mp hb
 have hL:X.s₀.heap.get? X.env.locals=none:=k7 I.ok.above;have hd: ∀b∈X.fs,∀o,s.heap.get? b=some o-> ∀vs,o.data≠ .fields vs:=λb hb o q=>by
  have fl:=I.stack;rw[hstk]at fl;obtain⟨_,o',q',n⟩:=fl.mem (b:=b) (by
   unfold Cx.fs frs at hb;rw[jA,hfr];exact aX.mpr (.inr hb))
  rw[q]at q';cases q';exact n
 have hb0:=I.base;rw[hex]at hb0;have un:=hb0.past p fm hL (none0 e ne) (λT q=>none0 T (nt T q)) hd
 have cellS: ∀c v,s.heap.IsCell c v->h'.IsCell c v:=λc v ⟨o,q1,q2⟩=>by
  obtain⟨sl,q3⟩:=p.slot c o q1 (λvs z=>by rw[q2]at z;cases z)
  exact⟨_,q3,q2⟩
 refine⟨I.ok,I.os,I.bare,by rw[hex];exact un,?_,λx c q=> ?_,I.free,I.freeC,λq hq=> ?_,I.hok.past p I.stkFree he ht,I.len⟩
 ·obtain⟨m,hn,hl⟩:=I.loc;refine⟨m,p.slot.ns hn,λi x v a b c=> ?_⟩
  obtain⟨u,r,lo⟩:=hl i x v a b c;refine⟨u,r,?_⟩;rcases lo with z| ⟨z1,c,z2,z3⟩
  ·exact .inl z
  ·exact .inr ⟨z1,c,z2,cellS c _ z3⟩
 ·obtain⟨v,z⟩:=I.cell x c q;exact⟨v,cellS c v z⟩
 ·obtain⟨z1,z2,z3,z4,z5⟩:=I.pin q hq;obtain⟨o',g1⟩:=gp q hq;refine⟨p.keep q.1 q.2 z1 (λz=> ?_) (λz=>by rw[z,ne]at g1;cases g1) (λz=>by rw[nt _ z]at g1;cases g1),z2,z3,z4,z5⟩
  rcases fm _ z with y|y
  ·exact z3 y
  ·exact z4 y
end
noncomputable abbrev Cx.inX (X:Cx)(e:Addr):Cx:={X with A:=X.A.mark (some<|.ref e),calm:=false,xe:=λ_ _=>False}
theorem Cx.Ok.inX {X:Cx}(ok:X.Ok)(e:Addr):(X.inX e).Ok:=
 ⟨ok.mod,ok.kind,ok.glob,ok.blt,ok.above,ok.inj,ok.has,ok.cab,(λz=>by cases z),ok.frames,ok.stk,ok.exf,ok.bs,ok.bsz,ok.noex,ok.exfs,ok.funs,ok.frf⟩
section
variable {X:Cx}{pins:List (Addr×Obj)}{σ:St}{H:Hp}{s:Shared}{e:Addr}
theorem Inv.inX (I:Inv X pins σ H s)(e:Addr):Inv (X.inX e) pins σ H s:=⟨I.ok.inX e,I.os,I.bare,I.base,I.loc,I.cell,I.free,I.freeC,I.pin,I.hok,I.len⟩
theorem Cx.Ok.outX {X:Cx}{Y:Cx}(okY:Y.Ok){e:Addr}(ok:(X.inX e).Ok)(hd:X.calm=true->X.A.handled=none):X.Ok:=
 ⟨ok.mod,ok.kind,ok.glob,ok.blt,ok.above,ok.inj,ok.has,ok.cab,hd,ok.frames,ok.stk,ok.exf,ok.bs,ok.bsz,ok.noex,ok.exfs,ok.funs,ok.frf⟩
theorem Inv.outX (I:Inv (X.inX e) pins σ H s)(hd:X.calm=true->X.A.handled=none):Inv X pins σ H s:=⟨I.ok.outX I.ok hd,I.os,I.bare,I.base,I.loc,I.cell,I.free,I.freeC,I.pin,I.hok,I.len⟩
theorem SP.outX {D:bJ1}{f:Flow}{s':Shared}(h:SP (X.inX e) pins D f s')(hd:X.calm=true->X.A.handled=none):SP X pins D f s':=by
 cases f with
 | next=>obtain⟨σ',H',I,q⟩:=h;exact⟨σ',H',I.outX hd,q⟩
 | brk=>obtain⟨σ',H',I,q⟩:=h;exact⟨σ',H',I.outX hd,q⟩
 | cont=>obtain⟨σ',H',I,q⟩:=h;exact⟨σ',H',I.outX hd,q⟩
 | ret u=>obtain⟨v,σ',H',I,r,q⟩:=h;exact⟨v,σ',H',I.outX hd,r,q⟩
theorem d31 {M:Model}{A:Around}{E:Value->Shared->Prop}{hp:Heap}{gn:Array GenState}{dr:Drawn}{tn:Nat}{os:OsState}{C R:Addr}{oe:Obj}{Q:Bool->Shared->Prop}
  {nm qn:Str} {N:Addr} {bs bm:List Value} {hdd:Bool} {sn:List Str} {sub:List Value} {ab:Bool} {col:Option Bool} {dd:Option Addr} {k0 k1 k2 k3 k5:Option Value} {newId:String}
  {nm' qn':Str} {N':Addr} {bs' bm':List Value} {hdd':Bool} {sn':List Str} {sub':List Value} {ab':Bool} {col':Option Bool} {dd':Option Addr} {k0' k1' k2' k3' k5':Option Value} {newId':String}
  (hC:hp.get? C=some (excClassObj nm qn C N bs bm hdd sn sub ab col dd k0 k1 k2 k3 k5 newId)) (hR:hp.get? R=some (excClassObj nm' qn' R N' bs' bm' hdd' sn' sub' ab' col' dd' k0' k1' k2' k3' k5' newId'))
  (he:hp.get? e=some oe) (hcl:oe.cls= .ref C) (hb:bm'.contains (.type "BaseException")=true) (hr:(Value.ref C::bm).contains (.ref R)=true) (hq:Q true ⟨hp,gn,dr,tn,os⟩) :
  wpAny M A (excMatches (.ref e)<|.ref R) Q E ⟨hp,gn,dr,tn,os⟩:=by
 have t1:(Value.ref R::bm').contains (.type "BaseException")=true:=by rw[aM7,hb,Bool.or_true]
 have t2:=tc_notTuple;unfold excMatches
 repeat (first
  | (with_reducible refine mZ he ?_;rw[hcl])
  | with_reducible refine mZ hR ?_
  | (with_reducible refine zH hR ?_;rw[t1])
  | (with_reducible refine zH hC ?_;rw[hr])
  | wp_step)
 exact hq
end
theorem bP2.past {g h h':Heap}{fs:List Addr}{e:Addr}(n:bP2 g e h)(p:bJ7 fs e h h')(gh: ∀b o,g.get? b=some o-> ∃o',h.get? b=some o')(hf: ∀b∈fs,∀o,h'.get? b=some o-> ∀vs,o.data≠ .fields vs):bP2 g e h':=by
 refine⟨n.he,λT q=> ?_⟩
 rcases p.tr T q with z|z|z|z
 ·obtain⟨o,vs,q1,q2⟩:=p.rcd T q;exact absurd q2 (hf T z o q1 vs)
 ·rw[z];exact n.he
 ·exact n.ht T z
 ·cases r:g.get? T with
  | none=>rfl
  | some o=>obtain⟨o',q'⟩:=gh T o r;rw[z]at q';cases q'
theorem bB2 {g h h':Heap}{fs:List Addr}{e:Addr}(n:bP2 g e h)(p:bJ7 fs e h h')(gh: ∀b o,g.get? b=some o-> ∃o',h.get? b=some o')(hf: ∀b∈fs,∀o,h.get? b=some o-> ∀vs,o.data≠ .fields vs): ∀b o,g.get? b=some o-> ∃o',h'.get? b=some o':=λb o q=>by
 obtain⟨o',q'⟩:=gh b o q
 by_cases c:b∈fs
 ·obtain⟨sl,z⟩:=p.slot b o' q' (hf b c o' q');exact⟨_,z⟩
 ·exact⟨o',p.keep b o' q' c (λz=>by rw[z,n.he]at q;cases q) λz=>by rw[n.ht b z]at q;cases q⟩
theorem dF6 {h base:Heap}{l:List Env}(f:h.FunFrames base l): ∀b∈frs l,∀o,h.get? b=some o-> ∀vs,o.data≠ .fields vs:=λb hb o q=>by
 obtain⟨_,o',q',n⟩:=f.mem (b:=b) hb;rw[q]at q';cases q';exact n
def aS3 (CX:CXT)(X:Cx)(E:XK)(pins:List (Addr×Obj))(σ:St):Prop:= ∀(H:Hp) (s:Shared) (e:Value) (s':Shared),Inv X pins σ H s->CX X.stack H s E e s'->X.xe e s'
def aX9 (K:Frag)(R C:Addr)(bmB:List Value)(newId:String):Prop:=(excIn K C bmB newId=true\/ ∃fI,aH7 K C fI bmB newId=true)/\ ∃cd,clsIn K C=some cd/\cd.mro.contains (.ref R)=true
theorem underX {K:Frag}{h:Heap}{R C:Addr}{bmB:List Value}{newId:String}(X:K.In h)(u:aX9 K R C bmB newId): ∃(nm q:Str) (N:Addr) (bs bm:List Value) (hd:Bool) (sn:List Str) (sub:List Value) (ab:Bool) (col:Option Bool) (dd:Option Addr) (k0 k1 k2 k3 k5:Option Value),
  h.get? C=some (excClassObj nm q C N bs bm hd sn sub ab col dd k0 k1 k2 k3 k5 newId)/\(Value.ref C::bm).contains (.ref R)=true:=by
 obtain⟨a,cd,hc,hr⟩:=u;have has: ∃(nm q:Str) (N:Addr) (bs bm:List Value) (hd:Bool) (sn:List Str) (sub:List Value) (ab:Bool) (col:Option Bool) (dd:Option Addr) (k0 k1 k2 k3 k5:Option Value),h.get? C=some (excClassObj nm q C N bs bm hd sn sub ab col dd k0 k1 k2 k3 k5 newId):=by
  rcases a with a| ⟨fI,a⟩
  ·obtain⟨bm,⟨⟨nm,qn,N,bs,hdd,sn,sub,ab,col,dd,k0,k1,k2,k3,k5,mN,hC,_⟩,_⟩⟩:=bU1 X a;exact⟨nm,qn,N,bs,bm,hdd,sn,sub,ab,col,dd,k0,k1,k2,k3,k5,hC⟩
  ·obtain⟨bm,⟨⟨nm,qn,N,bs,hdd,sn,sub,ab,col,dd,k0,k1,k2,k3,k5,mN,hC,_⟩,_⟩⟩:=c38 X a;exact⟨nm,qn,N,bs,bm,hdd,sn,sub,ab,col,dd,k0,k1,k2,k3,k5,hC⟩
 obtain⟨nm,qn,N,bs,bm,hdd,sn,sub,ab,col,dd,k0,k1,k2,k3,k5,hC⟩:=has;refine⟨nm,qn,N,bs,bm,hdd,sn,sub,ab,col,dd,k0,k1,k2,k3,k5,hC,?_⟩;unfold clsIn at hc;split at hc
 ·rename_i look
  have same:=X _ _ look;rw[hC]at same;cases hc
  injection same with same
  injection same with _ _ same _
  injection same with same
  rw[<-same]at hr;exact hr
 ·cases hc
section
variable {X:Cx}
def tTry (K:Frag)(R:Addr)(bmB:List Value)(newId:String)(tb:XK->TS)(th:TS):TS:=λD σ H=> ∃E,tb E D σ H/\ ∀C o H',E (.ref C) o H'->aX9 K R C bmB newId/\th D σ H'
theorem ps_try {body:List Stmt}{b0:Stmt}{suite:List Stmt}{r:Str}{rp hpos pos:Pos}{R:Addr}{B newId initId:String}{bmB:List Value}{tb:XK->TS}{th:TS}(FB:ExcBaseFacts B newId initId bmB)(hstk:X.stack=X.env::X.outer)(hfr:X.env.frame=some X.env.locals)(hex:X.ex=[])(hc:X.calm=true)
  (hbody: ∀(xe:Value->Shared->Prop) (E:XK) (pins:List (Addr×Obj)) (s:Shared) (σ:St) (H:Hp) (D:bJ1),Inv (X.wish xe) pins σ H s->aS3 (CXr X.prog X.w X.base) (X.wish xe) E pins σ->tb E D σ H->wpAny (model X.prog X.w) X.A (execs body X.env) (SP (X.wish xe) pins D) xe s)
  (hsuite: ∀a,PSs (X.inX a) (b0::suite) th) (hg:Gl X r) (hm:X.mg r=some (.ref R)) (hR:excIn X.K R bmB newId=true) (hd:(r==("__debug__":Str))=false:=by decide) :
  PS X (.Try body [.ExceptHandler (some<|.Name r rp) none (b0::suite) hpos] [] [] pos) (tTry X.K R bmB newId tb th):=by
 rintro pins s σ H D I ⟨E,hb,hx⟩;refine wpAny_Try_except ?_;have goX:aS3 (CXr X.prog X.w X.base) (X.wish λe s1=>wpAny (model X.prog X.w) X.A (noteFrame e X.env) (λ_ s2=>wpAny (model X.prog X.w) X.A (setFlight e none) (λ_ s3=>wpAny (model X.prog X.w) X.A (handleBy e X.env [.ExceptHandler (some<|.Name r rp) none (b0::suite) hpos]) (SP X pins D) X.xe s3) X.xe s2) X.xe s1) E pins σ:=by
  rintro H1 s1 e s' J ⟨a,C,o',H',rfl,ho,hbr,un,hok,⟨⟨a0,fl⟩,fe,ft⟩,nw,_,hE⟩;have J0:=J.unwish;have J1:Inv X pins σ H' s':=J0.call' ho un hok hbr (λb z=>absurd z ae)
  obtain⟨under,hth⟩:=hx C o' H' hE;have fl':FlyingW X.base X.stack a (.ref C) a0 s'.heap:=fl;have frs':=J1.ok.frames;have g0: ∀b o,s1.heap.get? b=some o-> ∃o',s'.heap.get? b=some o':=λb o q=>un.there b o q ae
  have gs: ∀b o,X.s₀.heap.get? b=some o-> ∃o',s1.heap.get? b=some o':=λb o q=>J0.base.there b o q (by rw[hex];simp)
  have gp: ∀q∈X.pn++pins,∃o',s1.heap.get? q.1=some o':=λq hq=>⟨_,(J0.pin q hq).1⟩
  show wpAny _ _ (noteFrame (.ref a) X.env) _ _ s'
  rw[hstk]at fl' frs';refine d23 frs' hfr fl' λh2 held p2=> ?_
  rw[<-hstk]at p2 held fl';have J2:=J1.past (g:=s1.heap) p2 hstk hfr hex gs gp nw.he nw.ht fe ft;have n2:=nw.past p2 g0 (dF6 held.2.2.1);have g2:=bB2 nw p2 g0 (dF6 fl'.2.2.1);have t2:=b80 J1.hok p2 J1.stkFree fe ft;refine c35 held λh3 fl3 p3=> ?_
  have J3:=J2.past (g:=s1.heap) p3 hstk hfr hex gs gp n2.he n2.ht fe t2;have n3:=n2.past p3 g2 (dF6 fl3.2.2.1);have g3:=bB2 n2 p3 g2 (dF6 held.2.2.1);have t3:=b80 J2.hok p3 J2.stkFree fe t2;obtain⟨oe,he,hcl⟩:=fl3.there;obtain⟨nm,qn,N,bs,bm,hdd,sn,sub,ab,col,dd,k0,k1,k2,k3,k5,hC,hin⟩:=underX J3.kIn under
  obtain⟨bm',⟨⟨nm',qn',N',bs',hdd',sn',sub',ab',col',dd',k0',k1',k2',k3',k5',mN',hRo,_⟩,tl'⟩⟩:=bU1 J3.kIn hR;refine wpAny_handleBy_cons (codeAny_handlers_test<|vQ (X:=X.inX a) (J3.inX a) hg hm ?_ hd) (by intro q;cases q)
  refine d31 hC hRo he hcl (tl'.hasType FB.hasBase) hin ?_
  refine codeAny_handlers_suite (c35 fl3 λh4 fl4 p4=> ?_)
  have J4:=J3.past (g:=s1.heap) p4 hstk hfr hex gs gp n3.he n3.ht fe t3;exact bI (hsuite a pins _ σ H' D (J4.inX a) hth) (λf s2 q=>q.outX λ_=>J4.ok.hd hc) λ_ _ z=>z.elim
 refine bI (hbody _ E pins s σ H D (I.wish _) goX hb) (λf s1 q=> ?_) λ_ _ z=>z
 have q':=q.unwish;cases f with
 | next=>exact nB q'
 | ret v=>exact q'
 | brk=>exact q'
 | cont=>exact q'
end
end L2
end
section
namespace L2
open PySem PySem.Spec PyProof.Rows
section
variable {X:Cx}{CX:CXT}{k:Nat}{f C:Addr}{fd:FuncData}{ps:List Str}{sp:Sp}{dvs:List V}{ds:List Value}{E:XK}{x:Str}{p pos:Pos}{e:Expr}{es:List Expr}{t:TA}
theorem cS0 {pins:List (Addr×Obj)}{σ:St}{H:Hp}{s:Shared}{Q:VK}{us:List Value}{vs:List V}(M:Mk X.K C f)(F:sU X.prog X.w X.K X.mg X.base CX k f fd ps sp)(hr:gO (k+1) X.A)(hb:Binds X.K fd ps [])
  (hx:aS3 CX X E pins σ) (I:Inv X pins σ H s) (r:Vals vs us)
  (h: ∀x dx,H x=none->H dx=none->dx≠x->sp (.ref x::vs) (upd (upd H dx<|.own x) x<|.ins C dx []) (λv H2=>v= .non/\Q (.ref x) H2) E) :
  wpAny (model X.prog X.w) X.A (call (.ref C) us) (EP X pins σ Q) X.xe s:=by
 have hq:=h (s.heap.objs.size+1) s.heap.objs.size (I.hok.fresh<|u5 _) (I.hok.fresh<|aF _) (bG<|pX _);have I2:=Inv.made (C:=C) I;have r2:Vals (V.ref (s.heap.objs.size+1)::vs) (Value.ref (s.heap.objs.size+1)::us):= .cons rfl r;have hl:(Value.ref (s.heap.objs.size+1)::us++[]).length=ps.length:=by
  have e:=r2.length;rw[F.len _ _ _ _ hq]at e;rw[jD];exact e.symm
 have bd:=hb (s:={s with heap:=(s.heap.push {cls:= .type "dict",data:= .dict #[]}).push (instObj C s.heap.objs.size)}) (Value.ref (s.heap.objs.size+1)::us) I2.kIn hl;rw[jD]at bd;refine u9 (c09 (f:=f) I.kIn M.makes M.init (fU.mp M.fn) (tY (F.run _ X.stack _ _ ⟨Value.ref (s.heap.objs.size+1)::us,[]⟩ (Value.ref (s.heap.objs.size+1)::us) _ _ E (hr.make C us [])
  (I2.env0.make C us []) bd r2 hq) λr s' hq'=> ?_))
 cases r with
 | error e=>exact hx _ _ e s' I2 hq'
 | ok fl=>
  cases fl with
  | ret u=>
   obtain⟨v,H',I3,rv,ev,q3⟩:=I2.after hq';subst ev;exact⟨rv,⟨V.ref<|s.heap.objs.size+1,H',I3,rfl,q3⟩⟩
  | next=>exact False.elim hq'
  | brk=>exact False.elim hq'
  | cont=>exact False.elim hq'
theorem dF7 {pins:List (Addr×Obj)}{σ:St}{H:Hp}{s:Shared}{Q:VK}(M:Mk X.K C f)(F:sU X.prog X.w X.K X.mg X.base CX k f fd ps sp)(hr:gO (k+1) X.A)(hg:Gl X x)(hm:X.mg x=some (.ref C))(hb:Binds X.K fd ps [])(hx:aS3 CX X E pins σ)
  (ha:PA X (e::es) t) (I:Inv X pins σ H s) (h:cI9 C sp [] E t σ H Q) (hdb:(x==("__debug__":Str))=false) (he:starEach (e::es) X.env=(false,eval e X.env)::starEach es X.env) (hpl:(backTo pos<|starEach es X.env).any (·.1)=false) :
  wpAny (model X.prog X.w) X.A (eval (.Call (.Name x p) (e::es) [] pos) X.env) (EP X pins σ Q) X.xe s:=by
 refine pR (vQ I hg hm ?_ hdb)
 refine aM5 (h₀:=X.base) I.ok.mod.kin M.kp (thn (ha pos pins s σ H _ I h) λus s1 ⟨vs,H1,I1,r,q⟩=>⟨I1.kIn,?_⟩) he hpl
 exact cS0 M F hr hb hx I1 r λx dx a b c=>by have:=q x dx a b c;rw[jD]at this;exact this
end
end L2
namespace M
open PySem PySem.Spec PyProof.Rows L2
section
variable {X:Cx}{e:Expr}{es:List Expr}{pos:Pos}{te:UE}{K:Frag}{A:AS}{H:Hp}
def nP (f:Str)(t:UE):UE:=λρ Q=>t ρ λb ρ1=>match b.d with
 | .obj _ ks l=>(match(ks.zip l).lookup f with
  | some d=>Q (.pu d) ρ1
  | none=>False)
 | _=>False
theorem bK.field {f:Str}{d:D}: ∀{ks:List Str} {l:List D} {vs:List V},bK K A H l vs->(ks.zip l).lookup f=some d-> ∃v,(ks.zip vs).lookup f=some v/\Rep K A H d v/\f∈ks
 | [],_,_,_,h=>by simp at h
 | _::_,[],_,_,h=>by simp at h
 | q::ks,a::l,vs,r,h=>by
  obtain⟨v,vr,rfl,r1,r2⟩:=r.uncons;rw[aM6,cU]at h;rw[aM6,cU];cases c:f==q with
  | true=>
   rw[c]at h;cases h;exact⟨v,rfl,r1,by rw[fU.mp c];simp⟩
  | false=>
   rw[c]at h;obtain⟨w,h1,h2,h3⟩:=bK.field r2 h;exact⟨w,h1,h2,bM _ h3⟩
theorem iS {f:Str}(he:PU X e te)(hb:attributeBase e f X.env (eval e X.env)=eval e X.env:=by rfl):PU X (.Attribute e f pos) (nP f te):=
 iU (pe_fld he hb) λσ H Q ⟨C,ρ,Q0,I,h,k⟩=>⟨C,ρ,_,I,h,λb ρ1 v H1 q fz s r=>by
  have rr:=r.rep λa z=>I.avF fz z
  cases ed:b.d with
  | obj C' ks l=>
   rw[ed]at rr q;dsimp only at q;cases el:(ks.zip l).lookup f with
   | none=>rw[el]at q;exact q.elim
   | some d=>
    rw[el]at q;simp only[Rep]at rr;obtain⟨a,dx,vs,rfl,n,c,hl,rl,ok⟩:=rr;obtain⟨w,h1,h2,h3⟩:=rl.field el;exact⟨a,C',dx,ks.zip vs,w,rfl,c,ok.1,ok.2 f h3,h1,k _ ρ1 w H1 q fz s h2⟩
  | _=>rw[ed]at q;exact q.elim⟩
abbrev ΦM:=List D->(List D->Prop)->XP->Prop
noncomputable def spI (K:Frag)(mg:Str->Option Value)(C:Addr)(ks:List Str)(φ:ΦM):Sp:=λvs H Q E=> ∃(x dx:Addr) (vs':List V) (A:AS) (ds:List D) (Q0:List D->Prop) (Ex:XP),vs=V.ref x::vs'/\H x=some (.ins C dx [])/\H dx=some (.own x)/\ ¬A x/\ ¬A dx/\(∀a,A a->H a≠none)/\bK K (λb=>A b\/b=x) H ds vs'/\φ ds Q0 Ex/\
 (∀l ws H',Q0 l->(∀b o,b≠x->H b=some o->H' b=some o)->H' x=some (.ins C dx<|ks.zip ws)->ks.length=ws.length->bK K (λb=>A b\/b=x) H' l ws->Q .non H')/\
 ∀n Cl es o H',Ex n es->mg n=some (.ref Cl)->(∀b o,b≠x->H b=some o->H' b=some o)->XR K A H' n es o->E (.ref Cl) o H'
structure MkX (P:Program)(w:World)(K:Frag)(mg:Str->Option Value)(base:Heap)(x:Str)(k:Nat)(ks:List Str)(φ:ΦM):Prop where
 ex: ∃C f fd ps,Mk K C f/\OkC K C ks/\sU P w K mg base (CXr P w base) k f fd ps (spI K mg C ks φ)/\Binds K fd ps []/\mg x=some (.ref C)
theorem dL9 {C:Addr}{ks:List Str}{φ:ΦM}{t:UA}{E:XK}{C0:C0}{ρ:Ev}{σ:L2.St}{Q:VK}{Q0:Ev->List D->Prop}{Ex:Ev->XP}(ok:OkC X.K C ks)(I:EOk X.K C0 ρ σ H)(h:t ρ λds ρ1=>φ ds (Q0 ρ1) (Ex ρ1))
  (kq: ∀l ρ1 v H',Q0 ρ1 l->Frz ρ ρ1->gT H H'->Rep X.K (Av C0 ρ1 σ) H' (.obj C ks l) v->Q v H') (kx: ∀n Cl ρ1 es o H',Ex ρ1 n es->X.mg n=some (.ref Cl)->EOk X.K C0 ρ1 σ H'->XR X.K (Av C0 ρ1 σ) H' n es o->E (.ref Cl) o H') :
  cI9 C (spI X.K X.mg C ks φ) [] E (lA X.K t) σ H Q:=by
 refine⟨C0,ρ,_,I,h,λds ρ1 vs H1 q f s r x dx nx nd ne=> ?_⟩
 have I1:=(I.frz f).same s;have hA: ∀a,Av C0 ρ1 σ a->H1 a≠none:=λa z=>I1.avSome z
 have s3:gT H1 (upd (upd H1 dx<|.own x) x<|.ins C dx []):=λb o z=>by
  rw[cG<|cX z nx,cG<|cX z nd];exact z
 have back: ∀H',(∀b o,b≠x->upd (upd H1 dx<|.own x) x (.ins C dx []) b=some o->H' b=some o)->gT H1 H':=λH' z b o q'=>z b o (cX q' nx) (s3 b o q')
 rw[jD];refine⟨x,dx,vs,Av C0 ρ1 σ,ds,Q0 ρ1,Ex ρ1,rfl,iB,by rw[cG ne];exact iB,λz=>hA x z nx,λz=>hA dx z nd,λa z q'=> ?_,r.mono<|lX.fresh s3 nx,q,λl ws H' q0 kp hx hl rl=>⟨rfl,?_⟩,λn Cl es o H' ex hm kp xr=> ?_⟩
 ·cases e':H1 a with
  | none=>exact hA a z e'
  | some o=>rw[s3 a o e']at q';cases q'
 ·refine kq l ρ1 _ H' q0 f (s.trans<|back H' kp) ?_
  simp only[Rep];exact⟨x,dx,ws,rfl,λz=>hA x z nx,hx,hl,rl.mono<|.sub (.refl _) λa z=> .inl z,ok⟩
 ·exact kx n Cl ρ1 es o H' ex hm (I1.same<|back H' kp) xr
def c39 (ks:List Str)(φ:ΦM)(t:UA):UE:=λρ Q=>t ρ λds ρ1=>φ ds (λl=> ∀C,Q (.pu<|.obj C ks l) ρ1) λ_ _=>False
theorem cK9 {k k':Nat}{ks:List Str}{φ:ΦM}{x:Str}{p:Pos}{t:UA}(F:MkX X.prog X.w X.K X.mg X.base x k ks φ)(hr:gO (k'+1) X.A)(hk:k<=k')(hg:Gl X x)(ha:PUA X (e::es) t)(hdb:(x==("__debug__":Str))=false:=by decide)
  (he:starEach (e::es) X.env=(false,eval e X.env)::starEach es X.env:=by rfl) (hpl:(backTo pos<|starEach es X.env).any (·.1)=false:=by rfl):PU X (.Call (.Name x p) (e::es) [] pos) (c39 ks φ t):=by
 obtain⟨C,f,fd,ps,M,ok,G,b,m⟩:=F.ex;have hp:wK (CXr X.prog X.w X.base) X (λ_ _ _=>False):=by
  rintro pins σ H s e s' I ⟨_,_,_,_,_,_,_,_,_,_,_,_,z⟩;exact z.elim
 refine iU (dB6 M (G.mono hk) hr hg m b .nil hp ha hdb he hpl) λσ H Q ⟨C0,ρ,Q0,I,h,k⟩=> ?_
 exact dL9 (Q0:=λρ1 l=> ∀C,Q0 (.pu<|.obj C ks l) ρ1) (Ex:=λ_ _ _=>False) ok I h (λl ρ1 v H' q f s r=>k _ ρ1 v H' (q C) f s r) λn Cl ρ1 es o H' z=>z.elim
def d32 (i:Nat)(ks:List Str)(φ:ΦM)(t:UA)(names:List Str)(th:US):US:=λE ρ=>t ρ λds ρ1=>φ ds (λl=> ∀C,E.nx<|ρ1.set i<|some<|.pu<|.obj C ks l) λn _=>n∈names/\th E ρ1
theorem dF8 {k k':Nat}{ks:List Str}{φ:ΦM}{x y r:Str}{p cpos apos py rp hpos:Pos}{t:UA}{b0:Stmt}{suite:List Stmt}{th:US}{R:Addr}{B newId initId:String}{bmB:List Value}(i:Nat)(names:List Str)(FB:ExcBaseFacts B newId initId bmB)(F:MkX X.prog X.w X.K X.mg X.base x k ks φ)(hr:gO (k'+1) X.A)(hk:k<=k')(hstk:X.stack=X.env::X.outer)(hfr:X.env.frame=some X.env.locals)(hex:X.ex=[])(hc:X.calm=true)
  (hg:Gl X x) (ha: ∀xe,PUA (X.wish xe) (e::es) t) (hN:X.N.Nodup) (hi:X.N[i]? =some y) (hy:Loc X.env.scope y) (hsuite: ∀a,rX (X.inX a) (b0::suite) th) (hgr:Gl X r) (hmr:X.mg r=some (.ref R)) (hR:excIn X.K R bmB newId=true) (hu: ∀n∈names,∀C,X.mg n=some (.ref C)->aX9 X.K R C bmB newId)
  (hl: ∀pins σ H s,Inv X pins σ H s->i<σ.length) (hdb:(x==("__debug__":Str))=false:=by decide) (hd:(r==("__debug__":Str))=false:=by decide)
  (he:starEach (e::es) X.env=(false,eval e X.env)::starEach es X.env:=by rfl) (hpl:(backTo cpos<|starEach es X.env).any (·.1)=false:=by rfl) (hs:swapsWith (.Call (.Name x p) (e::es) [] cpos) (some<|.Name y py) apos.line X.env=pure false:=by rfl) (hf:X.fn y=true\/X.env.scope.names.lookup y=some .local:=by walk_at "z") :
  PUS X (.Try [.Assign [.Name y py] (.Call (.Name x p) (e::es) [] cpos) apos] [.ExceptHandler (some<|.Name r rp) none (b0::suite) hpos] [] [] pos) (d32 i ks φ t names th):=by
 obtain⟨C,f,fd,ps,M,ok,G,b,m⟩:=F.ex;intro pins s σ H D J q;refine ps_try (R:=R) (tb:=λE=>dA6 (cI9 C (spI X.K X.mg C ks φ) [] E<|lA X.K t) (aR0 i)) (th:=lS X.K th) FB hstk hfr hex hc (λxe E pins s σ H D I pa h=> ?_) hsuite hgr hmr hR hd pins s σ H D J ?_
 ·refine tQ (wpAny_Assign_Name (thn (dF7 (X:=X.wish xe) M (G.mono hk) hr hg m b pa (ha xe) I h hdb he hpl) λv s1 ⟨y',H1,I1,r1,q1⟩=> ?_) hs)
  exact y8 (X:=X.wish xe) I1 hN hi hy r1 (λs2 I2=>nB ⟨_,H1,I2,q1⟩) hf
 ·obtain⟨C0,ρ,D0,I,h,k⟩:=q;refine⟨λcls _ H'=> ∃n Cl ρ1,cls=Value.ref Cl/\X.mg n=some (.ref Cl)/\n∈names/\th D0 ρ1/\EOk X.K C0 ρ1 σ H',?_,?_⟩
  ·exact dL9 (Q0:=λρ1 l=> ∀C,D0.nx<|ρ1.set i<|some<|.pu<|.obj C ks l) (Ex:=λρ1 n _=>n∈names/\th D0 ρ1) ok I h
    (λl ρ1 v H' q f s1 r=>k.nx _ _ _ (q C) ((I.frz f).store s1 (show uE X.K (Av C0 ρ1 σ) H H' (.pu<|.obj C ks l) v from r)<|hl pins σ H s J)) λn Cl ρ1 es o H' z hm' I' _=>⟨n,Cl,ρ1,rfl,hm',z.1,z.2,I'⟩
  ·rintro Cl o H' ⟨n,Cl',ρ1,e1,hm',hn,ht,I'⟩;cases e1;exact⟨hu n hn Cl hm',C0,ρ1,D0,I',ht,k⟩
end
end M
end
section
namespace M
open PySem PySem.Spec PyProof.Rows L2
section
variable {K:Frag}{C:C0}{ρ ρ':Ev}{σ:L2.St}{H H':Hp}
theorem EOk.poke {x:Addr}{o:HO}(I:EOk K C ρ σ H)(ax:C.A0 x)(hx: ∀vs,C.H0 x≠some (.lst vs)):EOk K ⟨λb=>if b=x then some o else C.H0 b,C.A0⟩ ρ σ (upd H x o):=by
 have ne: ∀a,C.H0 a=none->a≠x:=λa z e=>by subst e;exact I.a0 a ax z
 have P:lX (Av C ρ σ) H (Av ⟨λb=>if b=x then some o else C.H0 b,C.A0⟩ ρ σ) (upd H x o):=λb u nb e=>⟨nb,by rw[cG λz=>nb (by subst z;exact .inl ax)];exact e⟩
 refine⟨I.len,?_,?_,I.inj,?_,?_,?_⟩
 ·intro i d h;obtain⟨v,h1,h2⟩:=I.pu i d h;exact⟨v,h1,h2.mono P⟩
 ·intro i l h;obtain⟨a,vs,h1,h2,h3,h4⟩:=I.ow i l h;have na:=ne a h3;exact⟨a,vs,h1,by rw[cG na];exact h2,by show(if a=x then some o else C.H0 a)=none;rw[a6 na];exact h3,h4.mono P⟩
 ·intro i l h;obtain⟨a,vs,h1,h2,h3,h4⟩:=I.bo i l h;have na:a≠x:=λz=>by subst z;exact hx vs h3
  exact⟨a,vs,h1,h2,by show(if a=x then some o else C.H0 a)=_;rw[a6 na];exact h3,h4.mono P⟩
 ·intro b u h
  by_cases c:b=x
  ·subst c;have h':(if b=b then some o else C.H0 b)=some u:=h;rw[a9 rfl]at h';rw[iB];exact h'
  ·have h':(if b=x then some o else C.H0 b)=some u:=h;rw[a6 c]at h';rw[cG c];exact I.ext b u h'
 ·intro a z;show(if a=x then some o else C.H0 a)≠none;split
  ·simp
  ·exact I.a0 a z
theorem bB3 {x Cl dx:Addr}{fs:List (Str×V)}{f:Str}{te:UE}{Q0:B->Ev->Prop}{D:bJ1}(I:EOk K C ρ σ H)(ax:C.A0 x)(hx:H x=some (.ins Cl dx fs))(h0:ρ[0]? =some (some<|.pu<|.adr x))(cl:Cls K Cl)(na:a73 K Cl f)(hf:fs.length<1000)(h:te ρ Q0)
  (k: ∀b ρ1 w H',Q0 b ρ1->ρ1[0]? =some (some<|.pu<|.adr x)->(∀a o,a≠x->H a=some o->H' a=some o)->H' x=some (.ins Cl dx<|vJ f w fs)->(∃C1:C0,C1.A0=C.A0/\EOk K C1 ρ1 σ H')->Rep K C.A0 H' b.d w->(∀d v,Rep K C.A0 H d v->Rep K C.A0 H' d v)->D.nx σ H') :
  cX3 K (aG6 0) (lE K te) f D σ H:=by
 refine⟨C,ρ,Q0,I,h,λb ρ1 w H1 q fz s r=> ?_⟩
 have I1:=(I.frz fz).same s;have h1:ρ1[0]? =some (some<|.pu<|.adr x):=by
  rcases fz.2 0 with z| ⟨l,z,_⟩
  ·rw[z];exact h0
  ·rw[h0]at z;cases z
 obtain⟨v,e1,e2⟩:=I1.pu 0 _ h1;simp only[Rep]at e2;subst e2;have hx1:=s _ _ hx;have nl: ∀vs,C.H0 x≠some (.lst vs):=λvs z=>by
  have:=I.ext x _ z;rw[hx]at this;cases this
 have P:lX C.A0 H1 C.A0 (upd H1 x<|.ins Cl dx<|vJ f w fs):=lX.upd ax;refine⟨.ref x,e1,x,Cl,dx,fs,rfl,hx1,cl,na,hf,k b ρ1 w _ q h1 (λa o ne e=>by rw[cG ne];exact s a o e) iB ⟨⟨λb=>if b=x then some (.ins Cl dx<|vJ f w fs)else C.H0 b,C.A0⟩,rfl,I1.poke (o:= .ins Cl dx (vJ f w fs)) ax nl⟩ ?_ λd v r'=> ?_⟩
 ·exact((r.rep λa z=>I.avF fz z).mono<|.sub (.refl _) λa z=> .inl z).mono P
 ·exact(r'.mono<|.same s).mono P
end
section
variable {X:Cx}{E:XK}{st:Stmt}{sts:List Stmt}{t u:USX}{tS:TS}
theorem dF9 (h1:bU2 X E st t)(h2:PSs X sts tS):PSs X (st::sts) (λD=>lSX X.K X.mg E t {D with nx:=tS D}):=y9 h1 h2
theorem b81 (h1:bU2 X E st t)(h2:PSs X sts (λD=>lSX X.K X.mg E u {D with nx:=tS D})):PSs X (st::sts) (λD=>lSX X.K X.mg E (λEx=>aW (t Ex) (u Ex)) {D with nx:=tS D}):=
 b97 (y9 h1 h2) λD σ H ⟨C,ρ,D0,Ex,I,h,k,kx⟩=>⟨C,ρ,{D0 with nx:=u Ex D0},Ex,I,h,⟨λρ' σ' H' q I'=>⟨C,ρ',D0,Ex,I',q,k,kx⟩,k.rt,k.bk,k.ct⟩,kx⟩
def tS3 (K:Frag)(f1 f2 f3:Str)(t1 t2 t3:UE):TS:=tSeq (cX3 K (aG6 0) (lE K t1) f1) (tSeq (cX3 K (aG6 0) (lE K t2) f2)<|cX3 K (aG6 0) (lE K t3) f3)
end
theorem d33 {P:Program}{w:World}{K:Frag}{mg:Str->Option Value}{base:Heap}{x qual:Str}{st:Stmt}{f Cl:Addr}{fd:FuncData}{N ps:List Str}{k:Nat}{φ:ΦM}{f1 f2 f3:Str}{t1 t2 t3:UE}(F:Fun K x qual st f fd)(S:aY N ps (aG st))(ok:OkC K Cl [f1,f2,f3])(n1:f1≠f2)(n2:f1≠f3)(n3:f2≠f3)
  (len: ∀ds Q Ex,φ ds Q Ex->ds.length+1=ps.length) (hN:N≠[]) {t:USX}
  (der: ∀(cdv:Value) (A:Around) (outer:List Env) (s:Shared) (H:Hp) (E:XK),gO k (A.deeper<|envOfC qual (aG st) s.heap.objs.size f cdv)->
   PSs (uD (CXr P w base) P w K mg base N qual (aG st) f cdv A outer s H E) (dR st) (λD=>lSX K mg E t {D with nx:=tS3 K f1 f2 f3 t1 t2 t3 D}))
  (rd: ∀a ds Q Ex,φ ds Q Ex->t Ex {nx:=λρ=>ρ[0]? =some (some<|.pu<|.adr a)/\t1 ρ λb1 ρ1=>t2 ρ1 λb2 ρ2=>t3 ρ2 λb3 _=>Q [b1.d,b2.d,b3.d],rt:=λ_=>False} (init N (.adr a::ds))) :
  sU P w K mg base (CXr P w base) (k+1) f fd ps (spI K mg Cl [f1,f2,f3] φ):=by
 obtain⟨oc,od,kV,doc,pm,an,cdv,ct,osl,rfl,lk,hcd⟩:=F.ex;refine cX8 lk hcd S (λvs H Q E h=> ?_) λA outer s H vs Q E hr h=> ?_
 ·obtain⟨x,dx,vs',A,ds,Q0,Ex,rfl,_,_,_,_,_,r,h,_⟩:=h;have:=len ds Q0 Ex h;rw[eA,<-r.length];exact this
 ·obtain⟨x,dx,vs',A',ds,Q0,Ex,rfl,hx,hdx,nx,nd,hA,r,h,q,qx⟩:=h;have hA2: ∀a,(A' a\/a=x)->H a≠none:=λa z=>by
   rcases z with z|rfl
   ·exact hA a z
   ·rw[hx];simp
  have r2:bK K (λb=>A' b\/b=x) H (.adr x::ds) (.ref x::vs'):= .cons (by simp only[Rep]) r
  refine⟨_,der cdv A outer s H E hr,⟨H,λb=>A' b\/b=x⟩,init N (.adr x::ds),_,Ex,bT0 hA2 r2,rd x ds Q0 Ex h,⟨λρ σ H' z I=> ?_,λ_ _ _ z=>z.elim,λ_ _ _ z=>z.elim,λ_ _ _ z=>z.elim⟩,λn Cl' es o H' ex hm sm xr=>qx n Cl' es o H' ex hm (λb o _ e=>sm b o e) (xr.mono<|.sub (.refl _) λa z=> .inl z)⟩
  obtain⟨z0,z⟩:=z;have hx':H' x=some (.ins Cl dx []):=I.ext x _ hx;refine bB3 (C:=⟨H,λb=>A' b\/b=x⟩) I (.inr rfl) hx' z0 ok.1 (ok.2 f1 ae) ac z ?_
  rintro b1 ρ1 w1 H1 z1 z0 k1 x1 ⟨C1,a1,I1⟩ r1 m1;refine bB3 (C:=C1) I1 (by rw[a1];exact .inr rfl) x1 z0 ok.1 (ok.2 f2 ae) (show 1<1000 by decide) z1 ?_
  rintro b2 ρ2 w2 H2 z2 z0 k2 x2 ⟨C2,a2,I2⟩ r2 m2;refine bB3 (C:=C2) I2 (by rw[a2,a1];exact .inr rfl) x2 z0 ok.1 (ok.2 f3 ae) (by simp[vJ,n1]) z2 ?_
  rintro b3 ρ3 w3 H3 z3 z0 k3 x3 ⟨C3,a3,I3⟩ r3 m3;rw[a1]at m2 r2;rw[a2,a1]at m3 r3;refine q [b1.d,b2.d,b3.d] [w1,w2,w3] H3 z3 (λb o ne e=>k3 b o ne (k2 b o ne<|k1 b o ne<|I.ext b o e)) ?_ rfl (.cons (m3 _ _<|m2 _ _ r1)<|.cons (m3 _ _ r2)<|.cons r3 .nil)
  rw[x3];simp[vJ,n1,n2,n3]
noncomputable def bU6 (s:Stmt):List Stmt:=match s with
 | .ClassDef _ _ _ b _ _ _ _ _ _ _=>b
 | _=>[]
section
variable {P:Program}{w:World}{K:Frag}{mg:Str->Option Value}{base:Heap}
theorem cL0 {C fI:Addr}{od an:Option Addr}{osl:Array (Option Value)}{kV doc pm cdv ct:Value}{nm qual:Str}{st:Stmt}{x0 x1 x2 f1 f2:Str}{p1 p2 p3 p4 p5 p6 p7 p8:Pos}
  (l:K.lookup fI=some ⟨.type "function",od,.func<|fnOf nm qual (jI st) (dR st) (aG st) .none kV doc pm an cdv ct,osl⟩) (c:codeIn K cdv qual=true) (k:keepIn K (.ref fI)=true)
  (hb:dR st=[.Assign [.Attribute (.Name x0 p1) f1 p2] (.Name x1 p3) p4,.Assign [.Attribute (.Name x0 p5) f2 p6] (.Name x2 p7) p8]) (S:aY [x0,x1,x2] [x0,x1,x2] (aG st))
  (l0:(aG st).names.lookup x0=some .local) (l1:(aG st).names.lookup x1=some .local) (l2:(aG st).names.lookup x2=some .local) (d0:(x0==("__debug__":Str))=false) (d1:(x1==("__debug__":Str))=false) (d2:(x2==("__debug__":Str))=false)
  (bd: ∀(kV doc pm:Value) (an:Option Addr) (cdv ct:Value) (us:List Value),us.length=[x0,x1,x2].length->bindArgs (fnOf nm qual (jI st) (dR st) (aG st) .none kV doc pm an cdv ct) ⟨us,[]⟩=pure ([x0,x1,x2].zip us))
  {cd:ClassData} (hc:clsIn K C=some cd) (hm:uJ cd.mro=true) (hd:cd.hasDict=true) (sa:findIn K (.ref C) "__setattr__"=some (some<|.builtin "object.__setattr__")) (n1:findIn K (.ref C) f1=some none) (n2:findIn K (.ref C) f2=some none) :
  c37 K C fI (fnOf nm qual (jI st) (dR st) (aG st) .none kV doc pm an cdv ct) f1 f2:=
 ⟨⟨_,od,nm,qual,jI st,aG st,kV,doc,pm,an,cdv,ct,osl,x0,x1,x2,p1,p2,p3,p4,p5,p6,p7,p8,by rw[hb],l,rfl,c,S,l0,l1,l2,d0,d1,d2,(aW7 (st:=st) l c k).binds bd⟩,⟨cd,hc,hm,hd⟩,sa,n1,n2⟩
theorem aY0 {R C:Addr}{bmB:List Value}{newId:String}{cd:ClassData}(h:excIn K C bmB newId=true\/ ∃fI,aH7 K C fI bmB newId=true)(hc:clsIn K C=some cd)(hm:cd.mro.contains (.ref R)=true):aX9 K R C bmB newId:=⟨h,cd,hc,hm⟩
theorem Fn.mkA {x y qual:Str}{st:Stmt}{f:Addr}{fd:FuncData}{N ps:List Str}{k:Nat}{φ:Φ}(F:Fun K y qual st f fd)(m:mg x=some (.ref f))(b:Binds K fd ps [])(S:aY N ps (aG st))
  (len: ∀ds Q,φ ds Q->ds.length=ps.length) {t:US}
  (der: ∀(cdv:Value) (A:Around) (outer:List Env) (s:Shared) (H:Hp) (E:XK),gO k (A.deeper<|envOfC qual (aG st) s.heap.objs.size f cdv)->rX (uD CX0 P w K mg base N qual (aG st) f cdv A outer s H E).nox (dR st) t)
  (rd: ∀ds Q,φ ds Q->t {nx:=λ_=>Q (.pu .non),rt:=Q} (init N ds)):Fn P w K mg base x ps (k+1) φ:=
 ⟨f,fd,bT1 F S len λcdv A outer s H E hr=>⟨t,der cdv A outer s H E hr,rd⟩,b,F.kp,m⟩
end
end M
end
section
open PySem L2 M
local macro_rules| `(tactic| walk_at "u")=> `(tactic| simp only[c27,gSlT,d17,bO9,bJ6,D.isN,cE6,uExt,cE4,bU5,aS2,bU4,aW,cA,d6,rE,iD,eX,uOp,uC,aE,aR2,aZ,b96,uV,uIx,gIx,l6,nZ,aS,aB,aL,kF,fY,aR5,o7,rF,iZ,M.gSub,iR,aN8,oE,dD2,gI2,vK,kG,isB,B.d,cQ0,uOr,uNot,cJ6,dC5,cT,fH,cC8,c19,uSl,o8,mI,gSl,bS9,gMax,gMin,dW,aE9,g1,g2,dD3,b21,uIf,cD4,cQ1,aH4,cC7,lZ,cZ,lY,iX,a78,cK4,c29,dE5,cK5,iV,dD7,pB,wM,dD8,aN5,Option.bind_none,zS,Option.map_none,Option.join,mS,yZ,b90,b91,eA,mW,fP,kC,nI,aN0,aK9,gK,nO,reduceCtorEq])
namespace M
def a89:Φ:=λds Q=> ∃c k p:Int,ds=[.int c,.int k,.int p]/\0<=k/\k<4294967296/\0<p/\ ∀r:Int,0<=r->r<p->Q (.pu<|.int r)
def bB4:US:=(aW (cA 3<|uOp oE (uOp iR (uOp iZ (uOp iZ (uOp iZ (aE 0)<|uOp iR (uOp iR (uC<|.int 7)<|aE 1)<|aE 1)<|uOp iR (uC<|.int 13)<|aE 1)<|uC<|.int 5)<|uC<|.int 48271)<|uC<|.int 2147483647)<|aW (cA 3<|uOp oE (uOp iR (aE 3)<|aE 3)<|uC<|.int 2147483629)<|d6<|uOp oE (uOp iR (aE 3)<|uC<|.int 39373)<|aE 2)
theorem dI (i:Int){j:Int}(h:0<j):i.fmod j=i%j:=Int.fmod_eq_emod_of_nonneg i (Int.le_of_lt h)
theorem kH (i:Int){j:Int}(h:0<j):i.fdiv j=i/j:=Int.fdiv_eq_ediv_of_nonneg i (Int.le_of_lt h)
theorem cmR {i j:Int}(h1: -18446744073709551616<j)(h2:j<18446744073709551616):cB5 i j\/(Sm i/\Sm j):= .inl (.inr ⟨h1,h2⟩)
theorem cmL {i j:Int}(h1: -18446744073709551616<i)(h2:i<18446744073709551616):cB5 i j\/(Sm i/\Sm j):= .inl (.inl ⟨h1,h2⟩)
theorem d34: ∀ds Q,a89 ds Q->bB4 {nx:=λ_=>Q (.pu .non),rt:=Q} (init ["c","k","p","f"] ds):=by
 rintro ds Q ⟨c,k,p,rfl,h0,h1,hp,h⟩;unfold bB4;show(aW _ _:US) _ [some<|.pu<|.int c,some<|.pu<|.int k,some<|.pu<|.int p,none];walk_at "u";rw[dI _ (by decide:(0:Int)<2147483647),dI _ (by decide:(0:Int)<2147483629),dI _ hp]
 refine⟨cmL ac ac,cmR aa aa,cmL ac ac,cmR ac ac,ac,cmR aa aa,ac,cmR ac ac,aa,?_⟩
 exact h _ (bZ _ aa) (cE _ hp)
theorem cC {ui:UI}{g:UG}{tb:US}{D:UD}{ρ:Ev}(n:Nat)(it:Nat->M.D)(ρ1:Ev)(hui: ∀Q:Nat->(Nat->M.D)->Ev->Prop,Q n it ρ1->ui ρ Q)(Pv:Nat->Ev->Prop)(h0:Pv 0 ρ1)
  (hs: ∀i ρ,i<n->Pv i ρ->g (.pu<|it i) ρ λρ2=>tb {D with nx:=Pv (i+1),ct:=Pv (i+1),bk:=D.nx} ρ2) (hd: ∀ρ,Pv n ρ->D.nx ρ):kY ui g tb D ρ:=hui _ ⟨Pv,h0,hs,hd⟩
theorem cL1 {ws:List Int}{i:Nat}(h:i<ws.length):atI (ws.map D.int) (0+(i:Int))=some (.int ws[i]):=by
 rw[dD];exact d5 (by rw[bJ,aO h];rfl)
def Below (xs ws:List Int):Prop:=xs.length=ws.length/\ ∀(j:Nat) (x w:Int),xs[j]? =some x->ws[j]? =some w->0<=x/\x<w
theorem cpl {i j:Int}(h1:0<=j)(h2:j<=1000000)(h3:i.natAbs<2^64):dA9 i j:=⟨h1,h2,h3⟩
def rH:Φ:=λds Q=> ∃(c:Int) (ws:List Int) (p:Int),ds=[.int c,.lst<|ws.map .int,.int p]/\ws.length<=1000/\0<p/\(∀w∈ws,0<w/\w<18446744073709551616)/\ ∀xs:List Int,Below xs ws->Q (.ow<|xs.map .int)
def bB5:US:=(aW (cA 3<|uC<|.int 0)<|aW (iD (eX<|uOp (vK λi j=>decide (j<=i)) (aE 0)<|uOp dD2 (uC<|.int 10)<|uC<|.int 18) (cA 3<|uOp M.gSub (aE 0)<|uOp dD2 (uC<|.int 10)<|uC<|.int 18) fH)<|aW (cA 4<|kF aL)<|aW (kY (iX<|aB (l6<|aZ 1) aL) (cT 5)<|iD (eX<|uOp (vK λi j=>decide (j<i)) (aE 3)<|uC<|.int 1) (aW (aR5 4<|uOp oE (aE 3)<|uIx (aZ 1)<|aE 5)<|cA 3<|uOp aN8 (aE 3)<|uIx (aZ 1)<|aE 5)<|aR5 4<|uOp oE (aS a89<|aB (aE 0)<|aB (aE 5)<|aB (aE 2) aL)<|uIx (aZ 1)<|aE 5)<|rE 4)
theorem bJ8 {i:Int}(h1: -18446744073709551616<i)(h2:i<18446744073709551616):Sm i:=by
 unfold Sm;have h3:i.natAbs<18446744073709551616:=aa
 exact b6 h3 af
theorem bB6 {xs ws:List Int}{x:Int}(h: ∀(j:Nat) (x w:Int),xs[j]? =some x->ws[j]? =some w->0<=x/\x<w)(hl:xs.length<ws.length)(h0:0<=x)(h1:x<ws[xs.length]) :
  ∀(j:Nat) (y w:Int),(xs++[x])[j]? =some y->ws[j]? =some w->0<=y/\y<w:=by
 intro j y w e1 e2
 by_cases hj:j<xs.length
 ·rw[fM hj]at e1;exact h j y w e1 e2
 ·rw[gD ad]at e1
  by_cases hj':j=xs.length
  ·subst hj';simp at e1;subst e1;rw[aO hl]at e2;cases e2;exact⟨h0,h1⟩
  ·have:j-xs.length≠0:=ad
   cases e:j-xs.length with
   | zero=>lia
   | succ n=>rw[e]at e1;simp at e1
theorem d35: ∀ds Q,rH ds Q->bB5 {nx:=λ_=>Q (.pu .non),rt:=Q} (init ["c","w","p","l","f","k"] ds):=by
 rintro ds Q ⟨c,ws,p,rfl,hlen,hp,hw,h⟩;unfold bB5;have tail: ∀left:Int,(aW (cA 4<|kF aL) (aW (kY (iX<|aB (l6<|aZ 1) aL) (cT 5)<|iD (eX<|uOp (vK λi j=>decide (j<i)) (aE 3)<|uC<|.int 1) (aW (aR5 4<|uOp oE (aE 3)<|uIx (aZ 1)<|aE 5)<|cA 3<|uOp aN8 (aE 3)<|uIx (aZ 1)<|aE 5)<|aR5 4<|uOp oE (aS a89<|aB (aE 0)<|aB (aE 5)<|aB (aE 2) aL)<|uIx (aZ 1)<|aE 5)<|rE 4):US)
   {nx:=λ_=>Q (.pu .non),rt:=Q} [some<|.pu<|.int c,some<|.pu<|.lst<|ws.map .int,some<|.pu<|.int p,some<|.pu<|.int left,none,none]:=by
  intro left;rw[aW];walk_at "u";refine⟨ac,?_⟩
  refine cC ws.length (λi=> .int (0+i)) [some<|.pu<|.int c,some<|.pu<|.lst<|ws.map .int,some<|.pu<|.int p,some<|.pu<|.int left,some<|.ow [],none] ?_
   (λi ρ=> ∃(l:Int) (xs:List Int) (kk:Option B),ρ=[some<|.pu<|.int c,some<|.pu<|.lst<|ws.map .int,some<|.pu<|.int p,some<|.pu<|.int l,some<|.ow<|xs.map .int,kk]/\xs.length=i/\ ∀(j:Nat) (x w:Int),xs[j]? =some x->ws[j]? =some w->0<=x/\x<w)
   ⟨left,[],none,rfl,rfl,λj x w e=>by simp at e⟩ ?_ ?_
  ·intro Q q;simp only[iX];walk_at "u";rw[aK];refine⟨⟨ad,ad⟩,?_⟩
   rw[eB];exact q
  ·rintro i ρ hi ⟨l,xs,kk,rfl,hl,hb⟩;subst hl;obtain⟨w0,w1⟩:=hw _ (bV hi);walk_at "u";refine⟨ac,?_⟩
   by_cases hc:1<l
   ·rw[a9 hc];simp only[cL1 hi];rw[dI _ w0,kH _ w0];refine⟨ad,?_,⟨ad,bJ8 ad w1⟩,_,xs++[l%ws[xs.length]],_,by rw[cF];rfl,ae,bB6 hb hi (bZ _ ad)<|cE _ w0⟩
    rw[aK];exact b6 hi (aM hlen ac)
   ·rw[a6 hc];refine⟨c,(0+(xs.length:Int)),p,rfl,ad,ad,hp,λr r0 r1=> ?_⟩
    simp only[cL1 hi];rw[dI _ w0];refine⟨ad,?_,l,xs++[r%ws[xs.length]],_,by rw[cF];rfl,ae,bB6 hb hi (bZ _ ad)<|cE _ w0⟩
    rw[aK];exact b6 hi (aM hlen ac)
  ·rintro ρ ⟨l,xs,kk,rfl,hl,hb⟩;walk_at "u";exact h xs ⟨hl,hb⟩
 show(aW _ _:US) _ [some<|.pu<|.int c,some<|.pu<|.lst<|ws.map .int,some<|.pu<|.int p,none,none,none]
 refine(show dA9 10 18/\(if decide ((10:Int)^(18:Int).toNat<=c)=true then _ else _)from⟨cpl ac ac ac,?_⟩)
 split
 ·exact⟨cpl ac ac ac,tail _⟩
 ·exact tail _
theorem aS4 {d:D}{l:List D}:atI (d::l) 0=some d:=d5 (j:=0) rfl
theorem aS5 (k:Nat)(z:Int):(replicate k [D.int z]).flatten=(replicate k z).map .int:=by
 induction k with
 | zero=>rfl
 | succ k ih=>rw[jB,mY,ih,jB];rfl
def aS6:Φ:=λds Q=> ∃(ns:List Int) (k:Int),ds=[.rol<|ns.map .int,.int k]/\ns.length<=63/\0<=k/\k<4294967296/\ ∀r:Int,Q (.pu<|.int r)
def bU7:US:=(aW (iD (eX<|uOp (kG false) (l6<|aZ 0)<|uC<|.int 0) (d6<|uOp iR (uC<|.int 7919)<|uOp iZ (aE 1)<|uC<|.int 1) fH)<|aW (iD (eX<|uOp (vK λi j=>decide (i<j)) (aE 1)<|l6<|aZ 0) (d6<|uIx (aZ 0)<|aE 1) fH)<|d6<|uOp iZ (uIx (aZ 0)<|uOp oE (aE 1)<|l6<|aZ 0)<|uOp iR (uC<|.int 104729)<|aE 1)
theorem d36 {ns:List Int}{k:Int}(h0:0<=k)(h1:k<ns.length): ∃z,atI (ns.map D.int) k=some (.int z):=by
 obtain⟨i,rfl⟩: ∃i:Nat,k=(i:Int):=⟨k.toNat,ad⟩
 have hi:i<ns.length:=ad
 exact⟨ns[i],d5 (by rw[bJ,aO hi];rfl)⟩
theorem dG0: ∀ds Q,aS6 ds Q->bU7 {nx:=λ_=>Q (.pu .non),rt:=Q} (init ["s","k"] ds):=by
 rintro ds Q ⟨ns,k,rfl,hl,k0,k1,h⟩;unfold bU7;show(aW _ _:US) _ [some<|.pu<|.rol<|ns.map .int,some<|.pu<|.int k];walk_at "u";rw[aK];split
 ·exact⟨cmL ac ac,h _⟩
 ·split
  ·obtain⟨z,hz⟩:=d36 (ns:=ns) k0 ad
   rw[hz];exact h z
  ·refine⟨ad,?_⟩
   rw[dI _ ad]
   obtain⟨z,hz⟩:=d36 (ns:=ns) (k:=k%ns.length) (bZ _ ad) (cE _ ad)
   rw[hz];exact⟨cmL ac ac,h _⟩
theorem aY1:bootBuiltins "abs"=some (.builtin "abs"):=af
theorem bt_max:bootBuiltins "max"=some (.builtin "max"):=af
theorem bt_min:bootBuiltins "min"=some (.builtin "min"):=af
theorem gC:bootBuiltins "tuple"=some (.type "tuple"):=af
theorem b82:bootBuiltins "list"=some (.type "list"):=af
theorem dG1: ∀ds Q,bO0 ds Q->ds.length=1:=by rintro ds Q ⟨i,rfl,_⟩;rfl
theorem i8 (t:UE)(D:UD)(ρ:Ev):d6 t D ρ=t ρ (λb _=>D.rt b):=rfl
theorem dJ (φ:Φ)(t:UA)(ρ:Ev)(Q:B->Ev->Prop):aS φ t ρ Q=t ρ λds ρ1=>φ ds λb=>Q b ρ1:=rfl
theorem bT (t:UE)(u:UA)(ρ:Ev)(Q:List D->Ev->Prop):aB t u ρ Q=t ρ λx ρ1=>u ρ1 λxs ρ2=>Q (x.d::xs) ρ2:=rfl
theorem aT (t u:US)(D:UD)(ρ:Ev):aW t u D ρ=t {D with nx:=u D} ρ:=rfl
theorem l7 (i:Nat)(t:UE)(D:UD)(ρ:Ev):cA i t D ρ=t ρ λb ρ1=>D.nx (ρ1.set i<|some b):=rfl
theorem eS {js:List Nat}{cap:List (Option Nat)}{last t0:Nat}{ui:UI}{te:UE}{ρ:Ev}{Q:B->Ev->Prop}(n:Nat)(it:Nat->D)(ρ1:Ev)(hui: ∀Q:Nat->(Nat->D)->Ev->Prop,Q n it ρ1->ui ρ Q)(hn:n<=1000000)
  (G:Option B->List D->Ev) (x0:Option B) (h0:pB (wM ρ1 js) cap last=G x0 []) (h1: ∀x l b,(G x l).set t0 (some b)=G (some b) l) (h1': ∀x l,t0< (G x l).length) (h2: ∀x l (Q:List D->Prop),Q l->o7 (G x l) last Q) (h3: ∀x l l',(G x l).set last (some<|.ow l')=G x l')
  (f:Nat->D) (hte: ∀i l (Q':B->Ev->Prop),i<n->Q' (.pu<|f i) (G (some<|.pu<|it i) l)->te (G (some<|.pu<|it i) l) Q') (hq:Q (.ow<|(List.range n).map f) (wM ρ1 js)) :
  eF js cap last ui (cT t0) (λρ Q=>Q true ρ) te ρ Q:=by
 refine hui _ ⟨λi ρ'=> ∃x,ρ'=G x ((List.range i).map f),⟨x0,h0⟩,?_,?_⟩
 ·rintro i ρ' hi ⟨x,rfl⟩;refine⟨h1' _ _,?_⟩;rw[h1];dsimp only;rw[a9 rfl];refine hte i _ _ hi (h2 _ _ _ ⟨?_,some<|.pu<|it i,?_⟩)
  ·rw[aK,kB];exact b6 hi (aM hn ac)
  ·rw[h3,dP,cF];rfl
 ·rintro ρ' ⟨x,rfl⟩;exact h2 _ _ _ hq
noncomputable def aN (r:List Int):D:= .tup (r.map .int)
noncomputable def bB7 (t:List (List Int)):D:= .tup (t.map aN)
theorem cF5 (l:List D)(i:Nat)(h:i<=l.length):cutD l none (some (i:Int))=l.take i:=by
 unfold cutD;rw[HT.sIx_none,HT.sIx_nat,nF h];simp
theorem a90 (l:List D)(i:Nat)(h:i<=l.length):cutD l (some (i:Int)) none=l.drop i:=by
 unfold cutD;rw[HT.sIx_none,HT.sIx_nat,nF h];rw[zB (by rw[pY];exact aF _)]
def sW:Φ:=λds Q=> ∃(t:List (List Int)) (i:Nat),ds=[bB7 t,.int (i:Int)]/\i<t.length/\2<=t.length/\t.length<=1000/\(∀r∈t,1<=r.length)/\Q (.pu<|bB7<|(t.eraseIdx i).map List.tail)
def a12:US:=(d6<|aS dW<|aB (eF [] [none,none] 1 (iV<|uOp iZ (uSl (aZ 0) mI<|o8<|aE 1)<|uSl (aZ 0) (o8<|uOp iZ (aE 1)<|uC<|.int 1) mI) (cT 0) (λρ Q=>Q true ρ)<|uSl (aZ 0) (o8<|uC<|.int 1) mI) aL)
theorem bU8: ∀ds Q,sW ds Q->a12 {nx:=λ_=>Q (.pu .non),rt:=Q} (init ["t","i"] ds):=by
 rintro ds Q ⟨t,i,rfl,hi,h2,h1000,hr,h⟩;unfold a12;show(d6 _:US) _ [some<|.pu<|bB7 t,some<|.pu<|.int (i:Int)];have hl:(t.map aN).length=t.length:=aK _;have e1:cutD (t.map aN) none (some (i:Int))=(t.take i).map aN:=by rw[cF5 _ _ ad,nJ]
 have e2:cutD (t.map aN) (some<|(i:Int)+1) none=(t.drop<|i+1).map aN:=by
  have:=a90 (t.map aN) (i+1) ad
  rw[map_drop]
  exact_mod_cast this
 have e3:(t.take i).map aN++(t.drop<|i+1).map aN=(t.eraseIdx i).map aN:=by rw[<-cF,<-List.eraseIdx_eq_take_drop_succ]
 have le:(t.eraseIdx i).length=t.length-1:=List.length_eraseIdx_of_lt hi;rw[i8,dJ,bT];refine eS (t0:=0) ((t.eraseIdx i).map aN).length (λk=>((t.eraseIdx i).map aN).getD k .non) [some<|.pu<|bB7 t,some<|.pu<|.int (i:Int)] ?_ (by rw[aK];lia)
  (λx l=>[x,some<|.ow l]) none rfl (λ_ _ _=>rfl) (λ_ _=>cV _) (λ_ _ _ q=>q) (λ_ _ _=>rfl) (λk=>aN (((t.eraseIdx i).getD k []).tail)) ?_ ?_
 ·intro Q' q;simp only[iV,bB7];walk_at "u";refine⟨?_,?_,?_,?_⟩
  ·rw[hl,HT.sIx_none,HT.sIx_nat];lia
  ·rw[hl,HT.sIx_none];have:HT.sIx t.length 0 (some<|(i:Int)+1)=min (i+1) t.length:=by exact_mod_cast HT.sIx_nat t.length 0 (i+1)
   rw[this];lia
  ·rw[e1,e2,aK,aK,tT,pY];exact aM (show _<=2000 by lia) ac
  ·rw[e1,e2,e3];exact q
 ·intro k l Q' hk q;rw[aK]at hk;have ek:((t.eraseIdx i).map aN).getD k .non=aN ((t.eraseIdx i).getD k []):=by
   rw[aJ,aJ,bJ,aO hk];rfl
  have hm:1<=((t.eraseIdx i).getD k []).length:=by
   rw[aJ,aO hk];exact hr _ (aK5<|bV hk)
  rw[ek]at q⊢;generalize (t.eraseIdx i).getD k []=r at hm q;simp only[aN]at q⊢;walk_at "u";have lr:(r.map D.int).length=r.length:=aK _;have ec:cutD (r.map D.int) (some 1) none=r.tail.map D.int:=by
   have:=a90 (r.map D.int) 1 ad
   rw[show((1:Nat):Int)=1 from rfl]at this
   rw[this,<-map_drop,List.drop_one]
  refine⟨?_,by rw[ec];exact q⟩
  rw[lr];have:HT.sIx r.length 0 (some 1)=min 1 r.length:=HT.sIx_nat r.length 0 1;rw[this];lia
 ·have em:(List.range ((t.eraseIdx i).map aN).length).map (λk=>aN (((t.eraseIdx i).getD k []).tail))=((t.eraseIdx i).map List.tail).map aN:=by
   rw[aK];apply iL
   ·simp
   ·intro k h1 h2;simp at h1;simp[h1,aJ]
  rw[em];exact h
noncomputable def jR:Nat->List (List Int)->Int
 | 0,_=>0
 | n+1,t=>if t.length=1 then(t.getD 0 []).getD 0 0 else((List.range t.length).map λi=>(if i%2=0 then 1 else -1)*(t.getD i []).getD 0 0*jR n ((t.eraseIdx i).map List.tail)).sum
structure Sq (n:Nat)(t:List (List Int)):Prop where
 pos:1<=t.length
 le:t.length<=n
 row: ∀r∈t,r.length=t.length
 small: ∀r∈t,∀x∈r,x.natAbs<2^2000
def fJ (n:Nat):Φ:=λds Q=> ∃t:List (List Int),ds=[bB7 t]/\Sq n t/\Q (.pu<|.int<|jR n t)
def bB8 (fJ:Φ):US:=(aW (iD (eX<|uOp (kG false) (l6<|aZ 0)<|uC<|.int 1) (d6<|uIx (uV<|uIx (aZ 0)<|uC<|.int 0)<|uC<|.int 0) fH)<|aW (cA 1<|uC<|.int 0)<|aW (cA 2<|uC<|.int 1)<|aW (kY (iX<|aB (l6<|aZ 0) aL) (cT 3)<|aW (c19 1 (gI2 λi j Q=>Q (.pu<|.int<|i+j))<|uOp iR (uOp iR (aE 2)<|uIx (uV<|uIx (aZ 0)<|aE 3)<|uC<|.int 0)<|aS fJ<|aB (aS sW<|aB (aE 0)<|aB (aE 3) aL) aL)<|cA 2<|rF<|aE 2)<|rE 1)
theorem aF2 (n:Nat): ∀ds Q,fJ n ds Q->ds.length=1:=by rintro ds Q ⟨a,rfl,_⟩;rfl
theorem Sq.less {n:Nat}{t:List (List Int)}{i:Nat}(h:Sq (n+1) t)(h2:t.length≠1)(hi:i<t.length):Sq n ((t.eraseIdx i).map List.tail):=by
 have le:(t.eraseIdx i).length=t.length-1:=List.length_eraseIdx_of_lt hi;have hp:=h.pos;have hl:=h.le;refine⟨by rw[aK];lia,by rw[aK];lia,λr hr=> ?_,λr hr x hx=> ?_⟩
 ·obtain⟨r',hr',rfl⟩:=dE.mp hr;rw[aK,List.length_tail,h.row r'<|aK5 hr',le]
 ·obtain⟨r',hr',rfl⟩:=dE.mp hr;exact h.small r' (aK5 hr') x (List.mem_of_mem_tail hx)
theorem yH (f:Nat->Int)(b:Nat): ∀n:Nat,(∀i,i<n->(f i).natAbs<=b)->(((List.range n).map f).sum).natAbs<=n*b
 | 0,_=>ae
 | n+1,h=>by
  rw[dP,cF,List.sum_append];have h1:=yH f b n λi hi=>h i (kA hi)
  have h2:=h n (pX n);have h3:((List.map f [n]).sum)=f n:=ae
  rw[h3,Nat.succ_mul];omega
theorem bP5: ∀(n:Nat) (t:List (List Int)),n<=4->Sq n t->(jR n t).natAbs<=2^(2010*n)
 | 0,t,_,h=>by have:=h.pos;have:=h.le;lia
 | n+1,t,hn,h=>by
  have entry: ∀i,i<t.length->((t.getD i []).getD 0 0).natAbs<=2^2000:=λi hi=>by
   have eg:t.getD i []=t[i]:=by rw[aJ,aO hi];rfl
   rw[eg];have hr:=h.row _ (bV hi);have hp:=h.pos;have h0:0< (t[i]).length:=ad
   rw[aJ,aO h0];exact kE (h.small _ (bV hi) _<|bV h0)
  unfold jR;split
  ·have:=entry 0 (by have:=h.pos;lia)
   exact aM this (gX ac ad)
  ·rename_i h1
   refine aM (yH _ (2^2000*2^(2010*n)) _ λi hi=> ?_) ?_
   ·rw[eO,eO];have e1:(if i%2=0 then(1:Int)else -1).natAbs=1:=by split<;>rfl
    rw[e1,Nat.one_mul];exact fS (entry i hi) (bP5 n _ ad<|h.less h1 hi)
   ·have hl:=h.le;have e:2^(2010*(n+1))=2^10*(2^2000*2^(2010*n)):=by
     rw[<-gI,<-gI];congr 1;lia
    rw[e];exact pN _ ad
theorem Sm.pow {i:Int}{k:Nat}(h:i.natAbs<=2^k)(hk:k<9000):Sm i:=mV h (aM0 ac hk)
theorem b83 {t:List (List Int)}{i:Nat}(h:i<t.length):atI (t.map aN) (0+(i:Int))=some (aN<|t.getD i []):=by
 rw[dD];refine d5 ?_;rw[bJ,aO h,aJ,aO h];rfl
theorem a91 {r:List Int}(h:0<r.length):atI (r.map D.int) 0=some (.int<|r.getD 0 0):=by
 refine d5 (j:=0) ?_
 rw[bJ,aO h,aJ,aO h];rfl
theorem aS7 (n:Nat)(hn:n<4): ∀ds Q,fJ (n+1) ds Q->bB8 (fJ n) {nx:=λ_=>Q (.pu .non),rt:=Q} (init ["t","o","s","i"] ds):=by
 rintro ds Q ⟨t,rfl,sq,h⟩;have hp:=sq.pos;have hle:=sq.le;have lt:(t.map aN).length=t.length:=aK _;have lrow: ∀i,i<t.length->0< (t.getD i []).length:=λi hi=>by
  rw[aJ,aO hi];have:=sq.row _ (bV hi);show 0< (t[i]).length
  lia
 unfold bB8;show(aW _ _:US) _ [some<|.pu<|.tup<|t.map aN,none,none,none];walk_at "u";rw[lt];split
 ·rename_i h1
  have h1':t.length=1:=ad
  have:=b83 (t:=t) (i:=0) ad
  rw[show(0:Int)+((0:Nat):Int)=0 from rfl]at this
  rw[this];simp only[aN];rw[a91<|lrow 0 ad]
  unfold jR at h;rw[a9 h1']at h;exact h
 ·rename_i h1
  have h1':t.length≠1:=ad
  unfold jR at h;rw[a6 h1']at h;refine cC t.length (λi=> .int (0+i)) [some<|.pu<|.tup<|t.map aN,some<|.pu<|.int 0,some<|.pu<|.int 1,none] ?_ (λi ρ=> ∃x,ρ=[some<|.pu<|.tup<|t.map aN,some<|.pu<|.int ((List.range i).map λi=>(if i%2=0 then 1 else -1)*(t.getD i []).getD 0 0*jR n ((t.eraseIdx i).map List.tail)).sum,some<|.pu<|.int<|if i%2=0 then 1 else -1,x]) ?_ ?_ ?_
  ·intro Q' q;simp only[iX];walk_at "u";rw[lt];refine⟨⟨ad,ad⟩,?_⟩
   rw[eB];exact q
  ·exact⟨none,rfl⟩
  ·rintro i ρ hi ⟨x,rfl⟩;walk_at "u";refine⟨ac,?_⟩
   rw[b83 hi];simp only[aN];rw[a91<|lrow i hi];have sg:Sm (if i%2=0 then(1:Int)else -1):=by split<;>exact bJ8 ac ac
   have eg:t.getD i []=t[i]:=by rw[aJ,aO hi];rfl
   have en:((t.getD i []).getD 0 0).natAbs<=2^2000:=by
    have h0:=lrow i hi;rw[eg]at h0⊢;rw[aJ,aO h0];exact kE (sq.small _ (bV hi) _<|bV h0)
   have se:Sm ((t.getD i []).getD 0 0):=Sm.pow en ac
   refine⟨.inr ⟨sg,se⟩,t,i,by rw[dD];rfl,hi,ad,ad,λr hr=>by rw[sq.row r hr];exact hp,?_⟩
   refine⟨_,rfl,sq.less h1' hi,?_⟩
   have sd:Sm (jR n<|(t.eraseIdx i).map List.tail):=Sm.pow (bP5 n _ ad<|sq.less h1' hi) ad
   have sp:Sm ((if i%2=0 then(1:Int)else -1)*(t.getD i []).getD 0 0):=by
    refine Sm.pow (k:=2000) ?_ ac
    rw[eO];have e1:(if i%2=0 then(1:Int)else -1).natAbs=1:=by split<;>rfl
    rw[e1,Nat.one_mul];exact en
   walk_at "u"
   refine⟨.inr ⟨sp,sd⟩,some<|.pu<|.int<|0+(i:Int),?_⟩
   have e2: -(if i%2=0 then(1:Int)else -1)=(if(i+1)%2=0 then 1 else -1):=by
    by_cases q:i%2=0
    ·rw[a9 q,a6 ad]
    ·rw[a6 q,a9 ad];rfl
   rw[e2,dP,cF,List.sum_append];simp
  ·rintro ρ ⟨x,rfl⟩;walk_at "u";exact h
noncomputable def kI (p:List Int)(k:Nat)(sums:List Int):Int:=
 -(((List.range<|min (k-1)<|p.length-1).map λi=>p.getD (p.length-1-(i+1)) 0*sums.getD (k-(i+1)) 0).sum+(if k<=p.length-1 then(k:Int)*p.getD (p.length-1-k) 0 else 0))
noncomputable def eE (p:List Int):Nat->List Int
 | 0=>[((p.length-1:Nat):Int)]
 | k+1=>eE p k++[kI p (k+1)<|eE p k]
theorem uK (p:List Int): ∀k,(eE p k).length=k+1
 | 0=>rfl
 | k+1=>by unfold eE;rw[bO,uK p k];rfl
structure b84 (p:List Int):Prop where
 lo:3<=p.length
 hi:p.length<=5
 small: ∀x∈p,x.natAbs<=499
theorem fW {l:List Int}{b:Nat}(h: ∀x∈l,x.natAbs<=b)(i:Nat):(l.getD i 0).natAbs<=b:=by
 rw[aJ];cases e:l[i]? with
 | none=>exact cP _
 | some x=>exact h x (zE e)
theorem a13 {p:List Int}(hp:b84 p): ∀k,k<=6-> ∀x∈eE p k,x.natAbs<=2^(15*k+3)
 | 0,_,x,hx=>by
  have:=hp.hi;have e:x=((p.length-1:Nat):Int):=by simpa[eE]using hx
  rw[e,Int.natAbs_natCast];have:(2:Nat)^(15*0+3)=8:=rfl;omega
 | k+1,hk,x,hx=>by
  have ih:=a13 hp k aa
  have ep:(2:Nat)^(15*(k+1)+3)=32768*2^(15*k+3):=by
   rw[show 15*(k+1)+3=15+(15*k+3)by omega,gI]
  have hb:8<=2^(15*k+3):=by
   rw[gI];have:1<=2^(15*k):=Nat.one_le_two_pow;omega
  unfold eE at hx;rcases bW.mp hx with hx|hx
  ·have:=ih x hx;omega
  ·have e:x=kI p (k+1) (eE p k):=by simpa using hx
   rw[e];unfold kI;rw[zU];have hl:=hp.hi;have s1:=yH (λi=>p.getD (p.length-1-(i+1)) 0*(eE p k).getD (k+1-(i+1)) 0) (499*2^(15*k+3)) (min (k+1-1)<|p.length-1) λi _=>by
    rw[eO];exact fS (fW hp.small _) (fW ih _)
   have s2:(if k+1<=p.length-1 then((k+1:Nat):Int)*p.getD (p.length-1-(k+1)) 0 else 0).natAbs<=4*499:=by
    split
    ·rw[eO,Int.natAbs_natCast];exact fS aa (fW hp.small _)
    ·exact cP _
   have s3:min (k+1-1) (p.length-1)*(499*2^(15*k+3))<=4*(499*2^(15*k+3)):=pN _ aa
   have s4:=aN2 (((List.range<|min (k+1-1)<|p.length-1).map λi=>p.getD (p.length-1-(i+1)) 0*(eE p k).getD (k+1-(i+1)) 0).sum) (if k+1<=p.length-1 then((k+1:Nat):Int)*p.getD (p.length-1-(k+1)) 0 else 0)
   omega
def uL:Φ:=λds Q=> ∃(p:List Int) (m:Nat),ds=[aN p,.int (m:Int)]/\b84 p/\1<=m/\m<=7/\Q (.ow<|(eE p<|m-1).map .int)
def uM:US:=(aW (cA 2<|uOp M.gSub (l6<|aZ 0)<|uC<|.int 1)<|aW (cA 3<|kF<|aB (aE 2) aL)<|aW (kY (a78<|aB (uC<|.int 1)<|aB (aE 1) aL) (cT 4)<|aW (cA 5<|aS cQ1<|aB (eF [2,4] [none,some 0,some 2,some 3,some 4,none] 5 (a78<|aB (uC<|.int 1)<|aB (uOp iZ (aS gMin<|aB (uOp M.gSub (aE 4)<|uC<|.int 1)<|aB (aE 2) aL)<|uC<|.int 1) aL) (cT 0) (λρ Q=>Q true ρ)<|uOp iR (uIx (aZ 1)<|uOp M.gSub (aE 2)<|aE 0)<|uIx (aZ 3)<|uOp M.gSub (aE 4)<|aE 0) aL)<|aW (iD (eX<|uOp (vK λi j=>decide (i<=j)) (aE 4)<|aE 2) (c19 5 (gI2 λi j Q=>Q (.pu<|.int<|i+j))<|uOp iR (aE 4)<|uIx (aZ 0)<|uOp M.gSub (aE 2)<|aE 4) fH)<|aR5 3<|rF<|aE 5)<|rE 3)
theorem a92 {ns:List Int}{k:Nat}(h:k<ns.length):atI (ns.map D.int) (k:Int)=some (.int<|ns.getD k 0):=by
 refine d5 ?_
 rw[bJ,aO h,aJ,aO h];rfl
theorem bB9: ∀ds Q,uL ds Q->uM {nx:=λ_=>Q (.pu .non),rt:=Q} (init ["p","m","n","s","k","t"] ds):=by
 rintro ds Q ⟨p,m,rfl,hp,m1,m7,h⟩;have hlo:=hp.lo;have hhi:=hp.hi;have lp:(p.map D.int).length=p.length:=aK _;unfold uM;show(aW _ _:US) _ [some<|.pu<|.tup<|p.map .int,some<|.pu<|.int (m:Int),none,none,none,none];rw[aT,l7];walk_at "u";rw[lp];refine⟨ac,?_⟩
 have en:(p.length:Int)-1=((p.length-1:Nat):Int):=ad
 rw[en];refine cC (m-1) (λi=> .int (1+i)) [some<|.pu<|.tup<|p.map .int,some<|.pu<|.int (m:Int),some<|.pu<|.int ((p.length-1:Nat):Int),some<|.ow<|(eE p 0).map .int,none,none] ?_
  (λi ρ=> ∃x4 x5,ρ=[some<|.pu<|.tup<|p.map .int,some<|.pu<|.int (m:Int),some<|.pu<|.int ((p.length-1:Nat):Int),some<|.ow<|(eE p i).map .int,x4,x5]) ⟨none,none,rfl⟩ ?_ ?_
 ·intro Q' q;simp only[a78];walk_at "u";refine⟨ad,?_⟩
  rw[show((m:Int)-1).toNat=m-1 by lia]
  exact q
 ·rintro i ρ hi ⟨x4,x5,rfl⟩;have bn:=a13 hp i ad
  refine⟨by show 4<6;decide,?_⟩
  dsimp only[List.set_cons_succ,List.set_cons_zero];rw[aT,l7,dJ,bT];refine eS (t0:=0) (min i<|p.length-1) (λj=> .int (1+j)) [some<|.pu<|.tup<|p.map .int,some<|.pu<|.int (m:Int),some<|.pu<|.int ((p.length-1:Nat):Int),some<|.ow<|(eE p i).map .int,some<|.pu<|.int<|1+(i:Int),x5] ?_ ad
   (λx l=>[x,some<|.pu<|.tup<|p.map .int,some<|.pu<|.int ((p.length-1:Nat):Int),some<|.bo<|(eE p i).map .int,some<|.pu<|.int<|1+(i:Int),some<|.ow l]) none rfl (λ_ _ _=>rfl) (λ_ _=>cV _) (λ_ _ _ q=>q) (λ_ _ _=>rfl)
   (λj=> .int (p.getD (p.length-1-(j+1)) 0*(eE p i).getD (i+1-(j+1)) 0)) ?_ ?_
  ·intro Q' q;simp only[a78];walk_at "u";have e:(if((p.length-1:Nat):Int)<1+(i:Int)-1 then((p.length-1:Nat):Int)else 1+(i:Int)-1)=((min i (p.length-1):Nat):Int):=by split<;>lia
   rw[e];refine⟨ad,?_⟩
   rw[show(((min i (p.length-1):Nat):Int)+1-1).toNat=min i (p.length-1)by lia]
   exact q
  ·intro j l Q' hj q;have hj1:j<i:=ad
   have hj2:j<p.length-1:=ad
   walk_at "u"
   rw[show((p.length-1:Nat):Int)-(1+(j:Int))=((p.length-1-(j+1):Nat):Int)by lia,show 1+(i:Int)-(1+(j:Int))=((i+1-(j+1):Nat):Int)by lia]
   rw[a92 ad,a92 (by rw[uK];lia)]
   exact⟨.inr ⟨Sm.pow (k:=9) (aM (fW hp.small _) ac) ac,Sm.pow (fW bn _) ad⟩,q⟩
  ·have es:((List.range<|min i<|p.length-1).map λj=>D.int (p.getD (p.length-1-(j+1)) 0*(eE p i).getD (i+1-(j+1)) 0))=((List.range<|min i<|p.length-1).map λj=>p.getD (p.length-1-(j+1)) 0*(eE p i).getD (i+1-(j+1)) 0).map D.int:=by
    rw[eP];rfl
   rw[es];generalize hT:((List.range<|min i<|p.length-1).map λj=>p.getD (p.length-1-(j+1)) 0*(eE p i).getD (i+1-(j+1)) 0)=T
   walk_at "u"
   rw[aX4];dsimp only;have last: ∀z:Int,z= -(kI p (i+1)<|eE p i)->(eE p i).map D.int++[D.int<|-z]=(eE p<|i+1).map D.int:=λz hz=>by
    rw[hz]
    conv=>rhs;unfold eE
    rw[cF];simp
   have lz:((eE p i).map D.int).length<sizeLine:=by
    rw[aK,uK];exact b6 (show _<100 by lia) ac
   by_cases hk:i+1<=p.length-1
   ·rw[a9 ad]
    rw[show((p.length-1:Nat):Int)-(1+(i:Int))=((p.length-1-(i+1):Nat):Int)by lia,a92 ad]
    have hz1:T.sum+(1+(i:Int))*p.getD (p.length-1-(i+1)) 0= -(kI p (i+1)<|eE p i):=by
     unfold kI;rw[Int.neg_neg,a9 hk,<-hT];rw[show i+1-1=i from rfl,show((i+1:Nat):Int)=1+(i:Int)by lia]
    dsimp only;rw[last _ hz1];exact⟨.inr ⟨bJ8 ad ad,Sm.pow (k:=9) (aM (fW hp.small _) ac) ac⟩,lz,_,_,rfl⟩
   ·rw[a6 ad]
    have hz1:T.sum= -(kI p (i+1)<|eE p i):=by
     unfold kI;rw[Int.neg_neg,a6 hk,<-hT,hG];rfl
    rw[last _ hz1];exact⟨lz,_,_,rfl⟩
 ·rintro ρ ⟨x4,x5,rfl⟩;walk_at "u";exact h
theorem cF6: ∀ds Q,¬fJ 0 ds Q:=by
 rintro ds Q ⟨t,rfl,sq,_⟩;have:=sq.pos;have:=sq.le;omega
theorem d37 (t:UE)(D:UD)(ρ:Ev):aH4 t D ρ=t ρ (λ_ ρ1=>D.nx ρ1):=rfl
structure dM (p:List Int):Prop where
 ok:b84 p
 one: ∃q,p=q++[1]
noncomputable def c40 (c:Int):Bool:=decide ((if c<0 then -c else c)<=499)
noncomputable def dG2 (p:List Int):Bool:=decide (3<=p.length)&&(decide (p.length<=5)&&(decide (p.getD (p.length-1) 0=1)&&p.all c40))
theorem aY2: ∀(q:List Int) (x:Int),(q++[x]).getD ((q++[x]).length-1) 0=x:=λq x=>by
 rw[bO,aJ,gD ae]
 simp
theorem d38 (p:List Int):dG2 p=true↔dM p:=by
 unfold dG2;simp only[dN,fP,dO];constructor
 ·rintro⟨h1,h2,h3,h4⟩;refine⟨⟨h1,h2,λx hx=> ?_⟩,?_⟩
  ·have:=pW (h4 x hx);split at this<;>lia
  ·rcases List.eq_nil_or_concat p with rfl| ⟨q,x,rfl⟩
   ·simp at h1
   ·rw[List.concat_eq_append]at h3⊢;rw[aY2]at h3;exact⟨q,by rw[h3]⟩
 ·intro h;refine⟨h.ok.lo,h.ok.hi,?_,λx hx=>jE ?_⟩
  ·obtain⟨q,rfl⟩:=h.one;exact aY2 q 1
  ·have:=h.ok.small x hx;split<;>lia
theorem cS1 {p:List Int}(h:0<p.length):atI (p.map D.int) (-1)=some (.int<|p.getD (p.length-1) 0):=by
 rcases List.eq_nil_or_concat p with rfl| ⟨q,x,rfl⟩
 ·simp at h
 ·rw[List.concat_eq_append,aY2,cF];exact cY1 _ _
def oH:Φ:=λds Q=> ∃p:List Int,ds=[aN p]/\p.length<=1000/\Q (.pu<|.bl<|dG2 p)
def uN:US:=(d6<|aS cD4<|aB (eF [] [none,none] 1 (iV<|aE 0) (cT 0) (λρ Q=>Q true ρ)<|uOp (vK λi j=>decide (i<=j)) (aS bS9<|aB (aE 0) aL)<|uC<|.int 499) aL)
def oJ:US:=(aW (iD (uOr (eX<|uOp (vK λi j=>decide (i<j)) (l6<|aZ 0)<|uC<|.int 3)<|uOr (eX<|uOp (vK λi j=>decide (j<i)) (l6<|aZ 0)<|uC<|.int 5)<|eX<|uOp (kG true) (uIx (aZ 0)<|rF<|uC<|.int 1)<|uC<|.int 1) (d6<|uC<|.bl false) fH) uN)
theorem aS8: ∀ds Q,oH ds Q->oJ {nx:=λ_=>Q (.pu .non),rt:=Q} (init ["r"] ds):=by
 rintro ds Q ⟨p,rfl,hn,h⟩;have lp:(p.map D.int).length=p.length:=aK _;unfold oJ;simp only[aN];show(aW _ _:US) _ [some<|.pu<|.tup<|p.map .int];rw[aT];walk_at "u";rw[lp];unfold dG2 at h
 by_cases h3:(p.length:Int)<3
 ·rw[a9 h3];rw[fQ ad]at h
  exact h
 rw[a6 h3];rw[jE<|show 3<=p.length by lia,Bool.true_and]at h
 by_cases h5:(5:Int)< (p.length:Int)
 ·rw[a9 h5];rw[fQ<|show ¬p.length<=5 by lia]at h
  exact h
 rw[a6 h5];rw[jE<|show p.length<=5 by lia,Bool.true_and]at h
 rw[cS1 ad]
 dsimp only
 by_cases h1:p.getD (p.length-1) 0=1
 ·rw[jE h1,Bool.true_and]at h;rw[a6 λz=>z h1]
  unfold uN;rw[i8,dJ,bT];refine eS (t0:=0) p.length (λk=>(p.map D.int).getD k .non) [some<|.pu<|.tup<|p.map .int] ?_ ad (λx l=>[x,some<|.ow l]) none rfl (λ_ _ _=>rfl) (λ_ _=>cV _) (λ_ _ _ q=>q) (λ_ _ _=>rfl) (λk=> .bl (c40<|p.getD k 0)) ?_ ?_
  ·intro Q' q;simp only[iV];walk_at "u";rw[lp];exact q
  ·intro k l Q' hk q;have ek:(p.map D.int).getD k .non= .int (p.getD k 0):=by
    rw[aJ,bJ,aJ,aO hk];rfl
   rw[ek]at q⊢;walk_at "u";exact q
  ·have e:((List.range p.length).map λk=>D.bl (c40<|p.getD k 0))=(p.map c40).map D.bl:=by
    rw[eP];refine iL ae λi h1 h2=> ?_
    simp at h1
    simp[h1]
   rw[e];walk_at "u";rw[aN9];show Q (.pu<|.bl<|(p.map c40).all id);rw[List.all_map];exact h
 ·rw[fQ h1]at h;rw[a9 h1];exact h
def gN:Φ:=λds Q=> ∃p:List Int,ds=[aN p]/\dM p/\Q (.pu .non)
def lN:US:=(iD (uNot<|eX<|aS oH<|aB (aE 0) aL) (λ_ _=>False) fH)
theorem aG7: ∀ds Q,gN ds Q->lN {nx:=λ_=>Q (.pu .non),rt:=Q} (init ["r"] ds):=by
 rintro ds Q ⟨p,rfl,hp,h⟩;have hi:=hp.ok.hi;unfold lN;show(iD _ _ _:US) _ [some<|.pu<|aN p];walk_at "u";refine⟨p,rfl,ad,?_⟩
 rw[(d38 p).mpr hp]
 simpa using h
noncomputable def eJ (p:List Int):List (List Int):=(List.range<|p.length-1).map λi=>((eE p<|2*(p.length-1)-2).drop i).take (p.length-1)
def a14:Φ:=λds Q=> ∃p:List Int,ds=[aN p]/\dM p/\Q (.pu<|.int<|jR 4<|eJ p)
def a15:US:=(aW (aH4<|aS gN<|aB (aE 0) aL)<|aW (cA 1<|uOp M.gSub (l6<|aZ 0)<|uC<|.int 1)<|aW (cA 2<|aS uL<|aB (aE 0)<|aB (uOp M.gSub (uOp iR (uC<|.int 2)<|aE 1)<|uC<|.int 1) aL)<|d6<|aS (fJ 4)<|aB (aS dW<|aB (eF [1] [none,some 2,some 1,none] 3 (iX<|aB (aE 1) aL) (cT 0) (λρ Q=>Q true ρ)<|aS dW<|aB (uSl (aZ 1) (o8<|aE 0)<|o8<|uOp iZ (aE 0)<|aE 2) aL) aL) aL)
theorem cS2 {p:List Int}(hp:b84 p):Sq 4 (eJ p):=by
 have hlo:=hp.lo;have hhi:=hp.hi;have bn:=a13 hp (2*(p.length-1)-2) aa
 have nl:=uK p (2*(p.length-1)-2);have hl:(eJ p).length=p.length-1:=by unfold eJ;simp
 refine⟨aa,aa,λr hr=> ?_,λr hr x hx=> ?_⟩
 ·unfold eJ at hr;obtain⟨i,hi,rfl⟩:=dE.mp hr;have:=dU.mp hi;rw[hl,tT,pY,nl];omega
 ·unfold eJ at hr;obtain⟨i,hi,rfl⟩:=dE.mp hr;refine mV (bn x<|List.mem_of_mem_drop<|List.mem_of_mem_take hx) ?_;exact aM0 ac aa
theorem cL2 (l:List D)(i n:Nat)(h:i+n<=l.length):cutD l (some (i:Int)) (some ((i+n:Nat):Int))=(l.drop i).take n:=by
 unfold cutD;rw[HT.sIx_nat,HT.sIx_nat,nF<|show i<=l.length by lia,nF h]
 congr 1
 lia
theorem bU9: ∀ds Q,a14 ds Q->a15 {nx:=λ_=>Q (.pu .non),rt:=Q} (init ["p","n","s"] ds):=by
 rintro ds Q ⟨p,rfl,hp,h⟩;have hlo:=hp.ok.lo;have hhi:=hp.ok.hi;have lp:(p.map D.int).length=p.length:=aK _;have en:(p.length:Int)-1=((p.length-1:Nat):Int):=ad
 have nl:=uK p (2*(p.length-1)-2);have fin:(d6 (aS (fJ 4)<|aB (aS dW<|aB (eF [1] [none,some 2,some 1,none] 3 (iX<|aB (aE 1) aL) (cT 0) (λρ Q=>Q true ρ)<|aS dW<|aB (uSl (aZ 1) (o8<|aE 0)<|o8<|uOp iZ (aE 0)<|aE 2) aL) aL) aL):US) {nx:=λ_=>Q (.pu .non),rt:=Q}
   [some<|.pu<|.tup<|p.map .int,some<|.pu<|.int ((p.length-1:Nat):Int),some<|.ow<|(eE p<|2*(p.length-1)-2).map .int]:=by
  rw[i8,dJ,bT,dJ,bT];refine eS (t0:=0) (p.length-1) (λi=> .int (0+i)) [some<|.pu<|.tup<|p.map .int,some<|.pu<|.int ((p.length-1:Nat):Int),some<|.ow<|(eE p<|2*(p.length-1)-2).map .int] ?_ ad
   (λx l=>[x,some<|.bo<|(eE p<|2*(p.length-1)-2).map .int,some<|.pu<|.int ((p.length-1:Nat):Int),some<|.ow l]) none rfl (λ_ _ _=>rfl) (λ_ _=>cV _) (λ_ _ _ q=>q) (λ_ _ _=>rfl)
   (λi=>aN (((eE p<|2*(p.length-1)-2).drop i).take<|p.length-1)) ?_ ?_
  ·intro Q' q;simp only[iX];walk_at "u";refine⟨ad,?_⟩
   rw[eB];exact q
  ·intro i l Q' hi q;walk_at "u";have e:cutD ((eE p<|2*(p.length-1)-2).map D.int) (some<|0+(i:Int)) (some<|0+(i:Int)+((p.length-1:Nat):Int))=(((eE p<|2*(p.length-1)-2).drop i).take<|p.length-1).map D.int:=by
    rw[dD,show(i:Int)+((p.length-1:Nat):Int)=((i+(p.length-1):Nat):Int)by lia,cL2 _ _ _ (by rw[aK,nl];lia),nJ,map_drop]
   rw[e];exact q
  ·simp only[dW,g1,B.d,aL,nZ];refine⟨eJ p,?_,cS2 hp.ok,h⟩;unfold bB7 eJ;rw[eP];rfl
 unfold a15;show(aW _ _:US) _ [some<|.pu<|.tup<|p.map .int,none,none];rw[aT,d37,dJ,bT];simp only[aE,aR2,aL,B.d,mS];refine⟨p,rfl,hp,?_⟩;rw[aT,l7];simp only[uOp,l6,aZ,b96,uC,nZ,M.gSub,gI2,B.d,mS,lp,b91,b90,en];rw[aT,l7,dJ];simp only[aB,aL,uOp,aE,aR2,uC,M.gSub,iR,gI2,B.d,mS,yZ];refine⟨cmL ac ac,?_⟩
 refine⟨p,2*(p.length-1)-1,?_,hp.ok,ad,ad,?_⟩
 ·rw[show(2:Int)*((p.length-1:Nat):Int)-1=((2*(p.length-1)-1:Nat):Int)by lia];rfl
 ·rw[show 2*(p.length-1)-1-1=2*(p.length-1)-2 by lia]
  exact fin
noncomputable def one4 (e d c b:Int):Int:=12*e-3*b*d+c*c
noncomputable def two4 (e d c b:Int):Int:=72*c*e+9*b*c*d-27*d*d-27*b*b*e-2*c*c*c
noncomputable def dG3:List Int->Int
 | [c0,c1,_]=>c1*c1-4*c0
 | [d,c,b,_]=>b*b*c*c-4*c*c*c-4*b*b*b*d-27*d*d+18*b*c*d
 | [e,d,c,b,_]=>(4*one4 e d c b*one4 e d c b*one4 e d c b-two4 e d c b*two4 e d c b).fdiv 27
 | _=>0
noncomputable def hkD2 (a b c:Int):Int:=1*a*c+(-1*b*b+0)
noncomputable def hkD3 (s t u v w:Int):Int:=1*s*hkD2 u v w+(-1*t*(1*t*w+(-1*v*u+0))+(1*u*(1*t*v+(-1*u*u+0))+0))
theorem hk2 (c b:Int):jR 4 (eJ [c,b,1])=hkD2 2 (-(0+1*b)) (-((b* -(0+1*b)+0)+2*c)):=by kernel_rfl
noncomputable def dG4 (b:Int):Int:= -(0+1*b)
noncomputable def hkNb (c b:Int):Int:= -((b*dG4 b+0)+2*c)
noncomputable def hkNc (d c b:Int):Int:= -((b*hkNb c b+(c*dG4 b+0))+3*d)
noncomputable def hkNd (d c b:Int):Int:= -((b*hkNc d c b+(c*hkNb c b+(d*dG4 b+0)))+0)
theorem hk3 (d c b:Int):jR 4 (eJ [d,c,b,1])=hkD3 3 (dG4 b) (hkNb c b) (hkNc d c b) (hkNd d c b):=by kernel_rfl
noncomputable def rts3 (a b c:Int):List Int:=[-(a*b*c),a*b+a*c+b*c,-a-b-c]
noncomputable def sqIn (rs:List Int)(i:Nat)(t:Int):Nat->Int
 | 0=>t
 | j+1=>sqIn rs i t j*(rs.getD i 0-rs.getD j 0)*(rs.getD i 0-rs.getD j 0)
noncomputable def sqK (rs:List Int):Nat->Int
 | 0=>1
 | i+1=>sqIn rs i (sqK rs i) i
noncomputable def okR (q rs:List Int):Bool:=(q.all λx=>decide (x.natAbs<=499))&&decide (dG3 (q++[1])=sqK rs rs.length)
noncomputable def sh3 (a b c s:Int):List Int:=[a+s*b+s*s*c+s*s*s,b+2*s*c+3*s*s,c+3*s]
noncomputable def sh4 (a b c d s:Int):List Int:=[a+s*b+s*s*c+s*s*s*d+s*s*s*s,b+2*s*c+3*s*s*d+4*s*s*s,c+3*s*d+6*s*s,d+4*s]
noncomputable def dG5 (row:List Int)(r:Int):Nat->List Int
 | 0=>0::row
 | k+1=>(dG5 row r k).set k ((dG5 row r k).getD k 0-r*row.getD k 0)
noncomputable def dM0 (rs:List Int):List Int:=rs.foldl (λrow r=>dG5 row r row.length) [1]
theorem fr3 (a b c:Int):dM0 [a,b,c]=rts3 a b c++[1]:=by
 simp[dM0,dG5,rts3]
 grind
noncomputable def aY3 (row:List Int)(s:Int):Nat->List Int
 | 0=>row
 | k+1=>(aY3 row s k).set (row.length-2-k) ((aY3 row s k).getD (row.length-2-k) 0+s*(aY3 row s k).getD (row.length-1-k) 0)
noncomputable def shK (p:List Int)(s:Int):Nat->List Int
 | 0=>p
 | low+1=>aY3 (shK p s low) s (p.length-1-low)
theorem she3 (a b c s:Int):shK [a,b,c,1] s 3=sh3 a b c s++[1]:=by
 simp[shK,aY3,sh3]
 grind
theorem she4 (a b c d s:Int):shK [a,b,c,d,1] s 4=sh4 a b c d s++[1]:=by
 simp[shK,aY3,sh4]
 grind
theorem bC0 {js:List Nat}{cap:List (Option Nat)}{last t0 t1:Nat}{ui:UI}{te:UE}{ρ:Ev}{Q:B->Ev->Prop}(n:Nat)(i1 i2:Nat->D)(ρ1:Ev)(hui: ∀Q:Nat->(Nat->D)->Ev->Prop,Q n (λi=> .tup [i1 i,i2 i]) ρ1->ui ρ Q)(hn:n<=1000000)
  (G:Option B->Option B->List D->Ev) (x0 y0:Option B) (h0:pB (wM ρ1 js) cap last=G x0 y0 []) (h1: ∀x y l b c,((G x y l).set t0<|some b).set t1 (some c)=G (some b) (some c) l) (h1': ∀x y l,t0< (G x y l).length/\t1< (G x y l).length)
  (h2: ∀x y l (Q:List D->Prop),Q l->o7 (G x y l) last Q) (h3: ∀x y l l',(G x y l).set last (some<|.ow l')=G x y l')
  (f:Nat->D) (hte: ∀i l (Q':B->Ev->Prop),i<n->Q' (.pu<|f i) (G (some<|.pu<|i1 i) (some<|.pu<|i2 i) l)->te (G (some<|.pu<|i1 i) (some<|.pu<|i2 i) l) Q') (hq:Q (.ow<|(List.range n).map f) (wM ρ1 js)) :
  eF js cap last ui (lZ<|cZ t0<|cZ t1 lY) (λρ Q=>Q true ρ) te ρ Q:=by
 refine hui _ ⟨λi ρ'=> ∃x y,ρ'=G x y ((List.range i).map f),⟨x0,y0,h0⟩,?_,?_⟩
 ·rintro i ρ' hi ⟨x,y,rfl⟩;refine⟨(h1' _ _ _).1,by rw[dS];exact(h1' _ _ _).2,rfl,?_⟩
  rw[h1];dsimp only;rw[a9 rfl];refine hte i _ _ hi (h2 _ _ _ _ ⟨?_,some<|.pu<|i1 i,some<|.pu<|i2 i,?_⟩)
  ·rw[aK,kB];exact b6 hi (aM hn ac)
  ·rw[h3,dP,cF];rfl
 ·rintro ρ' ⟨x,y,rfl⟩;exact h2 _ _ _ _ hq
noncomputable def rwF (n:Nat)(f:Nat->Int):List Int:=(List.range n).map f
theorem mJ (n:Nat)(f:Nat->Int):(rwF n f).length=n:=by simp[rwF]
theorem aS9 {n i:Nat}{f:Nat->Int}(h:i<n):(rwF n f)[i]? =some (f i):=by simp[rwF,h]
theorem b9 (n:Nat)(f:Nat->Int):((rwF n f).map D.int).length=n:=by simp[rwF]
theorem fK {n i:Nat}{f:Nat->Int}(h:i<n):((rwF n f).map D.int)[i]? =some (.int<|f i):=by simp[rwF,h]
theorem rJ {n i:Nat}{f:Nat->Int}(h:i<n):((rwF n f).map D.int).getD i .non= .int (f i):=by rw[aJ,fK h];rfl
theorem rZ {n i:Nat}{f:Nat->Int}(h:i<n):atI ((rwF n f).map D.int) (i:Int)=some (.int<|f i):=d5 (fK h)
theorem cL3 {n j:Nat}{f:Nat->Int}{v:Int}(h:j<n):((rwF n f).map D.int).set j (.int v)=(rwF n λx=>if x=j then v else f x).map D.int:=by
 apply n6
 intro k
 by_cases hk:k<n
 ·rw[fK hk]
  by_cases e:j=k
  ·subst e;rw[hV (by rw[b9];exact hk),a9 rfl]
  ·rw[get_set_ne e,fK hk,a6 λz=>e z.symm]
 ·rw[eM (by rw[dS,b9];omega),eM (by rw[b9];omega)]
theorem qJ {n:Nat}{f g:Nat->Int}(h: ∀i,i<n->f i=g i):rwF n f=rwF n g:=by
 unfold rwF;apply mU;intro i hi;exact h i (dU.mp hi)
theorem bV0 (r:List Int):r=rwF r.length (λj=>r.getD j 0):=by
 apply n6
 intro k
 by_cases hk:k<r.length
 ·rw[aS9 hk,aO hk,aJ,aO hk];rfl
 ·rw[eM aa,eM (by rw[mJ];omega)]
theorem rK (n:Nat)(f:Nat->Int):(List.range n).map (λk=>D.int (f k))=(rwF n f).map D.int:=by
 unfold rwF;rw[eP];rfl
noncomputable def tbF (n m:Nat)(t:Nat->Nat->Int):List D:=(List.range n).map λi=>aN (rwF m<|t i)
theorem l8 (n m:Nat)(t:Nat->Nat->Int):(tbF n m t).length=n:=by simp[tbF]
theorem aF3 {n m i:Nat}{t:Nat->Nat->Int}(h:i<n):(tbF n m t)[i]? =some (aN<|rwF m<|t i):=by simp[tbF,h]
theorem d39 {n m i:Nat}{t:Nat->Nat->Int}(h:i<n):atI (tbF n m t) (i:Int)=some (aN<|rwF m<|t i):=d5 (aF3 h)
theorem c41 (n m:Nat)(t:Nat->Nat->Int)(f:Nat->Int):tbF n m t++[aN<|rwF m f]=tbF (n+1) m (λi=>if i=n then f else t i):=by
 unfold tbF;rw[dP,cF]
 congr 1
 ·apply mU
  intro i hi;have:=dU.mp hi;show _=aN (rwF m<|if i=n then f else t i);rw[a6 aa]
 ·simp
theorem d40 {n i:Nat}(h:i<n):ixN n (i:Int)=some i:=by
 unfold ixN;have h2:(i:Int)< (n:Int):=aa
 simp[h,h2]
theorem cL4 (t:UE)(ρ:Ev)(Q:Bool->Ev->Prop):eX t ρ Q=t ρ (isB Q):=rfl
theorem aO1 (g:D->D->(B->Prop)->Prop)(ta tb:UE)(ρ:Ev)(Q:B->Ev->Prop):uOp g ta tb ρ Q=ta ρ λx ρ1=>tb ρ1 λy ρ2=>g x.d y.d λb=>Q b ρ2:=rfl
theorem cL5 (c:UT)(t u:US)(E:UD)(ρ:Ev):iD c t u E ρ=c ρ λb ρ1=>if b=true then t E ρ1 else u E ρ1:=rfl
theorem sX {ρ:Ev}{i:Nat}{d:D}{Q:B->Ev->Prop}(h:ρ[i]? =some (some<|.pu d)):aE i ρ Q=Q (.pu d) ρ:=by unfold aE aR2;rw[h]
theorem dG6 {ρ:Ev}{i:Nat}{l:List D}{Q:B->Ev->Prop}(h:ρ[i]? =some (some<|.ow l)):aE i ρ Q=Q (.pu<|.lst l) (ρ.set i<|some<|.pu<|.lst l):=by unfold aE aR2;rw[h]
theorem c42: ∀r:List Int,pdL (r.map D.int)=some (r.map PyData.int)
 | []=>by simp[pdL]
 | a::r=>by simp[pdL,pd,c42 r]
theorem d41 (r:List Int):pd (aN r)=some (.tuple<|r.map .int):=by simp[aN,pd,c42]
theorem c43: ∀r:List Int,PyData.depthAll (r.map PyData.int)=0
 | []=>by simp[PyData.depthAll]
 | a::r=>by simp[PyData.depthAll,PyData.depth,c43 r]
theorem dG7 (r:List Int):(PyData.tuple<|r.map .int).depth<=60:=by simp[PyData.depth,c43]
theorem dG8 (a b:List Int):(PyData.tuple<|a.map .int).eqv (.tuple<|b.map .int)=decide (a=b):=by simp only[PyData.eqv];exact PySem.W.ked_eqvAll a b
theorem d42 {neg:Bool}{a b:List Int}{Q:B->Prop}(h:Q (.pu<|.bl<|neg ^^ decide (a=b))):bJ4 neg (aN a) (aN b) Q:=⟨_,_,d41 a,d41 b,dG7 a,by rw[dG8];exact h⟩
noncomputable def fA (f:Nat->Int):Nat->Nat
 | 0=>0
 | n+1=>if f n=0 then fA f n else n+1
theorem sY (f:Nat->Int): ∀n,fA f n<=n
 | 0=>aF _
 | n+1=>by
  unfold fA;split
  ·have:=sY f n;lia
  ·exact aF _
theorem bP6 (f:Nat->Int): ∀n,fA f n=0\/f (fA f n-1)≠0
 | 0=> .inl rfl
 | n+1=>by
  unfold fA;split
  ·exact bP6 f n
  ·rename_i h
   exact .inr (by simpa using h)
theorem aF4 (f:Nat->Int): ∀n m,fA f n<=m->m<n->f m=0
 | n+1,m,h1,h2=>by
  unfold fA at h1;split at h1
  ·rename_i h
   by_cases e:m=n
   ·rw[e];exact h
   ·exact aF4 f n m h1 ad
  ·lia
theorem sZ {f:Nat->Int}{k:Nat}: ∀{n:Nat},k<=n->(∀m,k<=m->m<n->f m=0)->(k=0\/f (k-1)≠0)->fA f n=k
 | 0,h,_,_=>by have:k=0:=ad
               rw[this];rfl
 | n+1,h,hz,hl=>by
  unfold fA
  by_cases e:k=n+1
  ·subst e;rw[a6];rcases hl with h0|h0
   ·lia
   ·simpa using h0
  ·rw[a9<|hz n ad ad]
   exact sZ ad (λm h1 h2=>hz m h1 ad) hl
theorem bC1 {f g:Nat->Int}: ∀{n:Nat},(∀m,m<n->f m=g m)->fA f n=fA g n
 | 0,_=>rfl
 | n+1,h=>by
  unfold fA;rw[h n<|pX n,bC1 λm hm=>h m (kA hm)]
theorem c44 (n k:Nat)(f:Nat->Int)(h:k<=n):(rwF n f).take k=rwF k f:=by
 unfold rwF;rw[<-nJ,List.take_range,nF h]
def a93:Φ:=λds Q=> ∃(n:Nat) (f:Nat->Int),ds=[aN<|rwF n f]/\n<=1000/\Q (.pu<|aN<|rwF (fA f n) f)
def bC2:US:=(aW (cA 1<|l6<|aZ 0)<|aW (aW8 (cQ0 (eX<|uOp (vK λi j=>decide (j<i)) (aE 1)<|uC<|.int 0)<|eX<|uOp (kG false) (uIx (aZ 0)<|uOp M.gSub (aE 1)<|uC<|.int 1)<|uC<|.int 0)<|c19 1 (gI2 λi j Q=>Q (.pu<|.int<|i-j))<|uC<|.int 1)<|d6<|c27 (aE 0) mI<|o8<|aE 1)
theorem d43: ∀ds Q,a93 ds Q->bC2 {nx:=λ_=>Q (.pu .non),rt:=Q} (init ["r","s"] ds):=by
 rintro ds Q ⟨n,f,rfl,hn,h⟩;unfold bC2;simp only[aN];show(aW _ _:US) _ [some<|.pu<|.tup<|(rwF n f).map .int,none];rw[aT];walk_at "u";rw[b9];refine⟨λm ρ=>ρ=[some<|.pu<|.tup<|(rwF n f).map .int,some<|.pu<|.int (m:Int)]/\m<=n/\fA f m=fA f n,⟨n,rfl,aF _,rfl⟩,?_⟩
 rintro m ρ ⟨rfl,hm,hc⟩;walk_at "u";have fin:fA f m=m->Q (.pu<|.tup<|cutD ((rwF n f).map D.int) none<|some (m:Int)):=λe=>by
  rw[cF5 _ _ (by rw[b9];exact hm),<-nJ,c44 _ _ _ hm]
  rw[<-hc,e]at h;exact h
 split
 ·rename_i h0
  obtain⟨m',rfl⟩: ∃m',m=m'+1:=⟨m-1,ad⟩
  rw[show((m'+1:Nat):Int)-1=(m':Int)by lia,rZ<|show m'<n by lia]
  dsimp only;split
  ·rename_i h1
   refine⟨m',ad,?_,ad,?_⟩
   ·simp
   ·rw[<-hc];show _=if f m'=0 then fA f m' else m'+1;rw[a9 h1]
  ·rename_i h1
   refine fin ?_
   show(if f m'=0 then fA f m' else m'+1)=m'+1
   rw[a6 h1]
 ·have:m=0:=ad
  subst this;exact fin rfl
noncomputable def shF (b:Nat->Int)(n m:Nat):Int:=if n<=m then b (m-n)else 0
noncomputable def divS (b:Nat->Int)(d n:Nat)(f:Nat->Int):Nat->Int:=λm=>f m-f (n+d)*shF b n m
noncomputable def divL (b:Nat->Int)(d:Nat):Nat->(Nat->Int)->Nat->Int
 | 0,f=>f
 | n+1,f=>divL b d n (divS b d n f)
noncomputable def divQ (b:Nat->Int)(d:Nat):Nat->(Nat->Int)->Nat->Int
 | 0,_=>λ_=>0
 | n+1,f=>λx=>if x=n then f (n+d)else divQ b d n (divS b d n f) x
structure d44 (L d a e:Nat)(f b:Nat->Int):Prop where
 L9:L<=100
 d9:d<=100
 one:b d=1
 beyond: ∀j,d<j->b j=0
 fb: ∀m,m<L->(f m).natAbs<=2^a
 bb: ∀j,(b j).natAbs<=2^e
 room:a+(e+1)*L<8000
 e8:e<8000
theorem cF7 {b f:Nat->Int}{d n a e L:Nat}(hn:n+d<L)(hf: ∀m,m<L->(f m).natAbs<=2^a)(hb: ∀j,(b j).natAbs<=2^e): ∀m,m<L->(divS b d n f m).natAbs<=2^(a+(e+1)):=by
 intro m hm;unfold divS;have h1:=hf m hm;have h2:=hf (n+d) hn;have h3:(shF b n m).natAbs<=2^e:=by
  unfold shF;split
  ·exact hb _
  ·simp
 have h4:(f (n+d)*shF b n m).natAbs<=2^a*2^e:=by rw[eO];exact fS h2 h3
 have h5:=zK (f m) (f (n+d)*shF b n m);have e1:2^(a+(e+1))=2^a*2^e+2^a*2^e:=by rw[<-qB,zZ,gI];lia
 have h6:2^a<=2^a*2^e:=Nat.le_mul_of_pos_right _ (Nat.pow_pos ac)
 lia
theorem cS3 (k:Nat):(replicate k [D.int 0]).flatten=(rwF k λ_=>0).map .int:=by
 rw[aS5]
 congr 1
 apply iL<;>simp[rwF]
def eT:Φ:=λds Q=> ∃(L d a e:Nat) (f b:Nat->Int),ds=[aN<|rwF L f,aN<|rwF (d+1) b]/\d44 L d a e f b/\
 Q (.pu<|.tup [aN<|rwF (fA (divQ b d (L-d) f)<|L-d)<|divQ b d (L-d) f,aN<|rwF (fA (divL b d (L-d) f) L)<|divL b d (L-d) f])
def vS:US:=(d6<|fY<|aB (aS a93<|aB (aS dW<|aB (aE 5) aL) aL)<|aB (aS a93<|aB (aS dW<|aB (aE 4) aL) aL) aL)
def vT:US:=(aW (kY (c29<|aB (aE 3) aL) (cT 6)<|aW (cA 7<|uIx (aZ 4)<|uOp iZ (aE 6)<|aE 2)<|aW (b21 5 (aE 7)<|aE 6)<|kY (cK5<|aB (aE 1) aL) (lZ<|cZ 8<|cZ 9 lY)<|d06 4 (λi j=>i-j) (uOp iZ (aE 6)<|aE 8)<|uOp iR (aE 7)<|aE 9) vS)
def qK:US:=(aW (cA 2<|uOp M.gSub (l6<|aZ 1)<|uC<|.int 1)<|aW (cA 3<|aS gMax<|aB (uC<|.int 0)<|aB (uOp M.gSub (l6<|aZ 0)<|aE 2) aL)<|aW (cA 4<|aS aE9<|aB (aE 0) aL)<|aW (cA 5<|uOp iR (kF<|aB (uC<|.int 0) aL)<|aE 3) vT)
theorem aY4: ∀ds Q,eT ds Q->qK {nx:=λ_=>Q (.pu .non),rt:=Q} (init ["f","g","d","s","l","q","a","m","j","c"] ds):=by
 rintro ds Q ⟨L,d,a,e,f,b,rfl,ok,h⟩;have L9:=ok.L9;have d9:=ok.d9;have room:=ok.room;unfold qK;simp only[aN]at h⊢;show(aW _ _:US) _ [some<|.pu<|.tup<|(rwF L f).map .int,some<|.pu<|.tup<|(rwF (d+1) b).map .int,none,none,none,none,none,none,none,none];walk_at "u";rw[b9,b9];obtain⟨N,hN⟩: ∃N:Nat,N=L-d:=⟨_,rfl⟩;have e1:((d+1:Nat):Int)-1=(d:Int):=ad
 have e2:(if(L:Int)-(d:Int)>0 then(L:Int)-(d:Int)else 0)=(N:Int):=by split<;>lia
 rw[e1,e2,eB,cS3];refine⟨ac,⟨ad,ad,aM (show 1*N<=100 by lia) ac⟩,?_⟩
 unfold vT;rw[aT];rw[<-hN]at h;refine cC N (λk=> .int (((N:Int))-1-k)) [some<|.pu<|.tup<|(rwF L f).map .int,some<|.pu<|.tup<|(rwF (d+1) b).map .int,some<|.pu<|.int (d:Int),some<|.pu<|.int (N:Int),some<|.ow<|(rwF L f).map .int,some<|.ow<|(rwF N λ_=>0).map .int,none,none,none,none] ?_
  (λk ρ=> ∃g q z6 z7 z8 z9,ρ=[some<|.pu<|.tup<|(rwF L f).map .int,some<|.pu<|.tup<|(rwF (d+1) b).map .int,some<|.pu<|.int (d:Int),some<|.pu<|.int (N:Int),some<|.ow<|(rwF L g).map .int,some<|.ow<|(rwF N q).map .int,z6,z7,z8,z9]/\
   divL b d (N-k) g=divL b d N f/\(∀x,x<N->divQ b d N f x=if x<N-k then divQ b d (N-k) g x else q x)/\ ∀m,m<L->(g m).natAbs<=2^(a+(e+1)*k))
  ⟨f,λ_=>0,none,none,none,none,rfl,rfl,λx hx=>by rw[tZ,a9 hx],λm hm=>by simpa using ok.fb m hm⟩ ?_ ?_
 ·intro Q' q;walk_at "u";refine⟨⟨ad,ad⟩,?_⟩
  rw[eB];exact q
 ·rintro k ρ hk ⟨g,q,z6,z7,z8,z9,rfl,hL,hQ,hb⟩;obtain⟨i,hi⟩: ∃i:Nat,i=N-1-k:=⟨_,rfl⟩;have ei:(N:Int)-1-(k:Int)=(i:Int):=ad
  have hiN:i<N:=ad
  have hid:i+d<L:=ad
  rw[ei];have c1:(i:Int)+(d:Int)=((i+d:Nat):Int):=ad
  walk_at "u"
  rw[c1,rZ hid];dsimp only;rw[b9,d40 hiN];dsimp only;rw[cL3 hiN];refine⟨ae,?_⟩
  have smg:Sm (g<|i+d):=Sm.pow (hb _ hid) (by
   have:(e+1)*k<=(e+1)*L:=pQ _ ad
   lia)
  refine cC (d+1) (λj=> .tup [.int (j:Int),((rwF (d+1) b).map D.int).getD j .non]) [some<|.pu<|.tup<|(rwF L f).map .int,some<|.pu<|.tup<|(rwF (d+1) b).map .int,some<|.pu<|.int (d:Int),some<|.pu<|.int (N:Int),some<|.ow<|(rwF L g).map .int,some<|.ow<|(rwF N λx=>if x=i then g (i+d)else q x).map .int,some<|.pu<|.int (i:Int),some<|.pu<|.int<|g<|i+d,z8,z9] ?_
   (λj ρ=> ∃z8 z9,ρ=[some<|.pu<|.tup<|(rwF L f).map .int,some<|.pu<|.tup<|(rwF (d+1) b).map .int,some<|.pu<|.int (d:Int),some<|.pu<|.int (N:Int),some<|.ow<|(rwF L λm=>if m<i+j then divS b d i g m else g m).map .int,some<|.ow<|(rwF N λx=>if x=i then g (i+d)else q x).map .int,some<|.pu<|.int (i:Int),some<|.pu<|.int<|g<|i+d,z8,z9]) ⟨z8,z9,?_⟩ ?_ ?_
  ·intro Q' qq;walk_at "u";rw[b9];exact qq
  ·have:(rwF L λm=>if m<i+0 then divS b d i g m else g m)=rwF L g:=by
    apply qJ
    intro m hm
    by_cases c:m<i+0
    ·rw[a9 c];unfold divS shF;rw[a6 ad]
     lia
    ·rw[a6 c]
   rw[this]
  ·rintro j ρ hj ⟨z8,z9,rfl⟩;rw[rJ hj];have hij:i+j<L:=ad
   have c2:(i:Int)+(j:Int)=((i+j:Nat):Int):=ad
   simp only[d06];walk_at "u";rw[c2,b9];refine⟨ae,ae,trivial,_,i+j,g<|i+j,rfl,d40 hij,by rw[fK hij,a6 ad],.inr ⟨smg,Sm.pow (ok.bb j) (by have:=ok.e8;lia)⟩,_,rfl,some<|.pu<|.int (j:Int),some<|.pu<|.int<|b j,?_⟩
   rw[cL3 hij];have:(rwF L λx=>if x=i+j then g (i+j)-g (i+d)*b j else if x<i+j then divS b d i g x else g x)=rwF L λm=>if m<i+(j+1)then divS b d i g m else g m:=by
    apply qJ
    intro m hm
    by_cases c:m=i+j
    ·subst c;rw[a9 rfl,a9 ad]
     unfold divS shF;rw[a9 ad,show i+j-i=j by lia]
    ·rw[a6 c]
     by_cases c3:m<i+j
     ·rw[a9 c3,a9 ad]
     ·rw[a6 c3,a6 ad]
   rw[this]
  ·rintro ρ ⟨z8,z9,rfl⟩;have eg:(rwF L λm=>if m<i+(d+1)then divS b d i g m else g m)=rwF L (divS b d i g):=by
    apply qJ
    intro m hm
    by_cases c:m<i+(d+1)
    ·rw[a9 c]
    ·rw[a6 c];unfold divS shF;rw[a9 ad,ok.beyond _ ad]
     lia
   rw[eg];have en:N-k=i+1:=ad
   have en2:N-(k+1)=i:=ad
   rw[en]at hL hQ;refine⟨_,_,_,_,_,_,rfl,by rw[en2];exact hL,λx hx=> ?_,?_⟩
   ·rw[en2,hQ x hx]
    by_cases c:x<i
    ·rw[a9 c,a9 ad]
     show(if x=i then _ else divQ b d i (divS b d i g) x)=_
     rw[a6 ad]
    ·rw[a6 c]
     by_cases c2:x=i
     ·subst c2;rw[a9 ad,a9 rfl]
      show(if x=x then _ else _)=_
      rw[a9 rfl]
     ·rw[a6 ad,a6 c2]
   ·have:=cF7 hid hb ok.bb;rw[show a+(e+1)*(k+1)=a+(e+1)*k+(e+1)by rw[a00];lia]
    exact this
 ·rintro ρ ⟨g,q,z6,z7,z8,z9,rfl,hL,hQ,hb⟩;dsimp only;unfold vS;rw[nL]at hL hQ;have hg:g=divL b d N f:=hL;have hq: ∀x,x<N->divQ b d N f x=q x:=λx hx=>by rw[hQ x hx,a6 ad]
  walk_at "u"
  refine⟨N,q,rfl,ad,?_⟩
  refine⟨L,g,rfl,ad,?_⟩
  walk_at "u"
  refine⟨ac,?_⟩
  have e3:fA (divQ b d N f) N=fA q N:=bC1 λm hm=>hq m hm
  have e4:rwF (fA q N) (divQ b d N f)=rwF (fA q N) q:=qJ λm hm=>hq m (by have:=sY q N;lia)
  rw[e3,e4,<-hg]at h;exact h
noncomputable def conv (u b:Nat->Int):Nat->Nat->Int
 | 0,_=>0
 | n+1,m=>conv u b n m+u n*shF b n m
theorem o9 {u b:Nat->Int}{d:Nat}(hb: ∀j,d<j->b j=0): ∀(n m:Nat),n+d<=m->conv u b n m=0
 | 0,m,_=>rfl
 | n+1,m,h=>by
  show conv u b n m+u n*shF b n m=0
  rw[o9 hb n m ad]
  unfold shF;rw[a9 ad,hb _ ad]
  lia
theorem bC3 {u b low:Nat->Int}{d:Nat}(h1:b d=1)(hb: ∀j,d<j->b j=0)(hl: ∀m,d<=m->low m=0): ∀(n:Nat),divL b d n (λm=>conv u b n m+low m)=low/\ ∀x,x<n->divQ b d n (λm=>conv u b n m+low m) x=u x
 | 0=>⟨by funext m;show 0+low m=low m;lia,λx hx=>ad⟩
 | n+1=>by
  have top:conv u b (n+1) (n+d)+low (n+d)=u n:=by
   show conv u b n (n+d)+u n*shF b n (n+d)+low (n+d)=u n
   rw[o9 hb n _<|aF _,hl _ ad]
   unfold shF;rw[a9 ad,show n+d-n=d by lia,h1]
   lia
  have st:divS b d n (λm=>conv u b (n+1) m+low m)=λm=>conv u b n m+low m:=by
   funext m
   show(conv u b (n+1) m+low m)-(conv u b (n+1) (n+d)+low (n+d))*shF b n m=_
   rw[top];show conv u b n m+u n*shF b n m+low m-u n*shF b n m=_
   lia
  obtain⟨i1,i2⟩:=bC3 (u:=u) h1 hb hl n;refine⟨?_,λx hx=> ?_⟩
  ·show divL b d n (divS b d n _)=low
   rw[st];exact i1
  ·show(if x=n then _ else divQ b d n (divS b d n _) x)=u x
   rw[st]
   by_cases c:x=n
   ·rw[a9 c,c];exact top
   ·rw[a6 c];exact i2 x ad
theorem b26 {n:Nat}{f:Nat->Int}(h:0<n):atI ((rwF n f).map D.int) (-1)=some (.int<|f<|n-1):=by
 unfold L2.atI;have e:ixN ((rwF n f).map D.int).length (-1)=some (n-1):=by
  unfold ixN;rw[b9,a6 ac,a9 ad]
  congr 1
  lia
 rw[e];exact fK ad
theorem cF8 {f:Nat->Int}{n:Nat}(hf: ∀m,n<=m->f m=0): ∀m,fA f n<=m->f m=0:=λm hm=>by
 by_cases c:m<n
 ·exact aF4 f n m hm c
 ·exact hf m ad
noncomputable def md (p:Int)(f:Nat->Int):Nat->Int:=λj=>f j%p
noncomputable def bC4 (c p:Int):Nat->Int
 | 0=>1
 | n+1=>bC4 c p n*c%p
theorem bC5 {c p:Int}(hp:2<=p): ∀n,0<=bC4 c p n/\bC4 c p n<p
 | 0=>⟨by show(0:Int)<=1;lia,by show(1:Int)<p;lia⟩
 | n+1=>⟨bZ _ ad,cE _ ad⟩
structure Pr (p:Int):Prop where
 lo:2<=p
 hi:p<200
 inv: ∀c:Int,0<c->c<p->bC4 c p (p.toNat-2)*c%p=1
def Cg (p:Int)(f g:Nat->Int):Prop:= ∀m,f m%p=g m%p
theorem Cg.divS {p:Int}{b f g:Nat->Int}{d n:Nat}(h:Cg p f g):Cg p (divS b d n f) (divS b d n g):=λm=>by
 show(f m-f (n+d)*shF b n m)%p=(g m-g (n+d)*shF b n m)%p
 have h1:=h m;have h2:f (n+d)*shF b n m%p=g (n+d)*shF b n m%p:=by rw[fT,h<|n+d,<-fT]
 rw[u4,h1,h2,<-u4]
theorem Cg.divL {p:Int}{b:Nat->Int}{d:Nat}: ∀(n:Nat) {f g:Nat->Int},Cg p f g->Cg p (divL b d n f) (divL b d n g)
 | 0,_,_,h=>h
 | n+1,_,_,h=>Cg.divL n h.divS
theorem Cg.divQ {p:Int}{b:Nat->Int}{d:Nat}: ∀(n:Nat) {f g:Nat->Int},Cg p f g->Cg p (divQ b d n f) (divQ b d n g)
 | 0,_,_,h=>λ_=>rfl
 | n+1,f,g,h=>λx=>by
  show(if x=n then f (n+d)else M.divQ b d n (M.divS b d n f) x)%p=(if x=n then g (n+d)else M.divQ b d n (M.divS b d n g) x)%p
  by_cases c:x=n
  ·rw[a9 c,a9 c];exact h _
  ·rw[a6 c,a6 c];exact Cg.divQ n h.divS x
theorem b27 {b:Nat->Int}{d:Nat}: ∀(n:Nat) (f:Nat->Int) (x:Nat),n<=x->divQ b d n f x=0
 | 0,_,_,_=>rfl
 | n+1,f,x,h=>by
  show(if x=n then f (n+d)else divQ b d n (divS b d n f) x)=0
  rw[a6 ad]
  exact b27 n _ x ad
theorem b85 {p:Int}{u u' b b':Nat->Int}(h: ∀i j,u' i*b' j%p=u i*b j%p): ∀n,Cg p (conv u' b' n) (conv u b n)
 | 0,_=>rfl
 | n+1,m=>by
  show(conv u' b' n m+u' n*shF b' n m)%p=(conv u b n m+u n*shF b n m)%p
  have h1:=b85 h n m;have h2:u' n*shF b' n m%p=u n*shF b n m%p:=by
   unfold shF
   by_cases c:n<=m
   ·rw[a9 c,a9 c];exact h _ _
   ·rw[a6 c,a6 c,bP,bP]
  rw[hJ,h1,h2,<-hJ]
theorem c45 {u b:Nat->Int}{d U:Nat}(hb: ∀j,d<j->b j=0):conv u b (U+1) (U+d)=u U*b d:=by
 show conv u b U (U+d)+u U*shF b U (U+d)=_
 rw[o9 hb U _<|aF _];unfold shF;rw[a9 ad,show U+d-U=d by lia]
 lia
theorem d45 {p t:Int}{B0 u low A:Nat->Int}{d U n:Nat}(hp:2<=p)(hB: ∀j,d<j->B0 j=0)(hU:U=0\/u (U-1)≠0)(uR: ∀j,0<=u j/\u j<p)(uz: ∀j,U<=j->u j=0)(lz: ∀j,d<=j->low j=0)(lR: ∀j,0<=low j/\low j<p)
  (ht:t*B0 d%p=1) (hA: ∀m,A m=(conv u B0 U m+low m)%p) (hn:U+d<=n) :
  let b:=λj=>t*B0 j%p
  let LA:=fA A n
  LA<=U+d/\(∀j,t*divQ b d (LA-d) A j%p=u j)/\(∀j,divL b d (LA-d) A j%p=low j)/\(∀m,LA<=m->divL b d (LA-d) A m%p=0):=by
 intro b LA;have b1:b d=1:=ht;have bz: ∀j,d<j->b j=0:=λj hj=>by
  show t*B0 j%p=0
  rw[hB j hj,bP,dC]
 have tc: ∀x:Int,t*(B0 d*x)%p=x%p:=λx=>by
  rw[<-nK,fT,ht,a03,iO]
 have cg:Cg p A (λm=>conv (λi=>B0 d*u i) b U m+low m):=λm=>by
  rw[hA m,iO];have:=b85 (p:=p) (u:=u) (b:=B0) (u':=λi=>B0 d*u i) (b':=b) (λi j=>by
   show B0 d*u i*(t*B0 j%p)%p=u i*B0 j%p
   rw[fT,iO,<-fT];have e:B0 d*u i*(t*B0 j)=t*(B0 d*(u i*B0 j)):=by
    simp only[gG,Int.mul_left_comm,nK]
   rw[e,tc]) U m
  show(conv u B0 U m+low m)%p=(conv (λi=>B0 d*u i) b U m+low m)%p
  rw[hJ,<-this,<-hJ]
 obtain⟨e1,e2⟩:=bC3 (u:=λi=>B0 d*u i) (low:=low) b1 bz lz U
 have Az: ∀m,U+d<=m->A m=0:=λm hm=>by
  rw[hA m,o9 hB U m hm,lz m ad]
  exact dC _
 have hL:(U=0/\LA<=d)\/(0<U/\LA=U+d):=by
  have hle:LA<=U+d:=by
   rcases bP6 A n with h|h
   ·show fA A n<=U+d
    lia
   ·exact yY λq=>h (Az _ (by show U+d<=LA-1;lia))
  by_cases c:U=0
  ·exact .inl ⟨c,ad⟩
  ·refine .inr ⟨ad,?_⟩
   refine sZ hn (λm m1 m2=>Az m m1) (.inr λq=> ?_)
   obtain⟨U',rfl⟩: ∃U',U=U'+1:=⟨U-1,ad⟩
   rw[show U'+1+d-1=U'+d by lia,hA,c45 hB,lz _ ad,hG]at q
   have h1:=tc (u U');rw[fT,show B0 d*u U'=u U'*B0 d from gG _ _,q,bP,dC,eC (uR _).1 (uR _).2]at h1
   rcases hU with h|h
   ·lia
   ·exact h (by simpa using h1.symm)
 have hN:LA-d=U:=ad
 have r: ∀j,divL b d U A j%p=low j:=λj=>by
  rw[Cg.divL U cg j,e1,eC (lR j).1 (lR j).2]
 refine⟨ad,λj=> ?_,λj=>by rw[hN];exact r j,λm hm=> ?_⟩
 ·rw[hN]
  by_cases c:j<U
  ·have h1:=Cg.divQ (b:=b) (d:=d) U cg j;rw[e2 j c]at h1;rw[fT,h1,<-fT];show t*(B0 d*u j)%p=u j;rw[tc,eC (uR _).1 (uR _).2]
  ·rw[b27 U A j ad,uz j ad,bP,dC]
 ·rw[hN];rcases hL with⟨h1,h2⟩| ⟨h1,h2⟩
  ·subst h1;show A m%p=0;rw[cF8 (λm hm=>Az m ad) m hm]
   exact dC _
  ·rw[r m];exact lz m ad
def iT:Φ:=λds Q=> ∃(n:Nat) (f:Nat->Int) (p:Int),ds=[aN<|rwF n f,.int p]/\n<=1000/\0<p/\Q (.pu<|aN<|rwF (fA (md p f) n)<|md p f)
def wO:US:=(d6<|aS a93<|aB (aS dW<|aB (eF [1] [none,some 1,none] 2 (iV<|aE 0) (cT 0) (λρ Q=>Q true ρ)<|uOp oE (aE 0)<|aE 1) aL) aL)
theorem dG9 (Q:B->Ev->Prop)(n:Nat)(f:Nat->Int)(p:Int)(hn:n<=1000)(hp:0<p)(k:Nat->D)(rW:Ev)(x0:D)(hx:x0=aN (rwF n f)\/x0= .lst ((rwF n f).map .int))(h:Q (.ow<|(rwF n<|md p f).map .int) (some (.pu x0)::some (.pu<|.int p)::rW)) :
  (eF [1] [none,some 1,none] 2 (iV<|aE 0) (cT 0) (λρ Q=>Q true ρ) (uOp oE (aE 0)<|aE 1):UE) (some (.pu x0)::some (.pu<|.int p)::rW) Q:=by
 refine eS (t0:=0) n (λk=>((rwF n f).map D.int).getD k .non) (some (.pu x0)::some (.pu<|.int p)::rW) ?_ ad (λx l=>[x,some<|.pu<|.int p,some<|.ow l]) none rfl (λ_ _ _=>rfl) (λ_ _=>cV _) (λ_ _ _ q=>q) (λ_ _ _=>rfl) (λk=> .int (md p f k)) ?_ ?_
 ·intro Q' q;rcases hx with rfl|rfl
  ·simp only[aN]at q⊢;walk_at "u";rw[b9];exact q
  ·walk_at "u"
   rw[b9];exact q
 ·intro k l Q' hk q;rw[rJ hk]at q⊢;walk_at "u";refine⟨ad,?_⟩
  rw[dI _ hp];exact q
 ·rw[rK];exact h
theorem bJ9: ∀ds Q,iT ds Q->wO {nx:=λ_=>Q (.pu .non),rt:=Q} (init ["r","p"] ds):=by
 rintro ds Q ⟨n,f,p,rfl,hn,hp,h⟩;unfold wO;show(d6 _:US) _ [some<|.pu<|aN<|rwF n f,some<|.pu<|.int p];rw[i8,dJ,bT,dJ,bT];refine dG9 _ n f p hn hp (λ_=> .non) [] _ (.inl rfl) ?_
 walk_at "u"
 exact⟨n,md p f,rfl,hn,h⟩
theorem aT0 {u b:Nat->Int}{U:Nat}: ∀n,(∀j,U<=j->j<n->u j=0)->U<=n-> ∀m,conv u b n m=conv u b U m
 | 0,h,h2,m=>by rw[show U=0 by lia]
 | n+1,h,h2,m=>by
  by_cases c:U=n+1
  ·rw[c]
  ·show conv u b n m+u n*shF b n m=_
   rw[h n ad ad,aT0 n (λj a c=>h j a ad) ad m]
   lia
theorem md_nat {p:Int}(h1:2<=p)(h2:p<200)(f:Nat->Int)(j:Nat):(md p f j).natAbs<=2^8:=by
 unfold md;have a1:=bZ (f j) (show p≠0 by lia)
 have a2:=cE (f j) (show 0<p by lia)
 show _<=256
 lia
def vU:Φ:=λds Q=> ∃(n:Nat) (f:Nat->Int) (k p:Int),ds=[aN<|rwF n f,.int k,.int p]/\n<=1000/\0<=k/\k<200/\0<p/\Q (.pu<|aN<|rwF (fA (λj=>k*f j%p) n) λj=>k*f j%p)
def a94:US:=(d6<|aS iT<|aB (aS dW<|aB (eF [1] [none,some 1,none] 2 (iV<|aE 0) (cT 0) (λρ Q=>Q true ρ)<|uOp iR (aE 1)<|aE 0) aL)<|aB (aE 2) aL)
theorem c46: ∀ds Q,vU ds Q->a94 {nx:=λ_=>Q (.pu .non),rt:=Q} (init ["f","k","p"] ds):=by
 rintro ds Q ⟨n,f,k,p,rfl,hn,k0,k9,hp,h⟩;unfold a94;show(d6 _:US) _ [some<|.pu<|aN<|rwF n f,some<|.pu<|.int k,some<|.pu<|.int p];rw[i8,dJ,bT,dJ,bT]
 refine eS (t0:=0) n (λi=>((rwF n f).map D.int).getD i .non) [some<|.pu<|aN<|rwF n f,some<|.pu<|.int k,some<|.pu<|.int p] ?_ ad (λx l=>[x,some<|.pu<|.int k,some<|.ow l]) none rfl (λ_ _ _=>rfl) (λ_ _=>cV _) (λ_ _ _ q=>q) (λ_ _ _=>rfl) (λi=> .int (k*f i)) ?_ ?_
 ·intro Q' q;simp only[aN]at q⊢;walk_at "u";rw[b9];exact q
 ·intro i l Q' hk q;rw[rJ hk]at q⊢;walk_at "u";exact⟨cmL ad ad,q⟩
 ·rw[rK];walk_at "u";exact⟨n,λi=>k*f i,p,rfl,hn,hp,h⟩
def sA:Φ:=λds Q=> ∃c p:Int,ds=[.int c,.int p]/\0<=c/\c<p/\2<=p/\p<200/\Q (.pu<|.int<|bC4 c p<|p.toNat-2)
def sB:US:=(aW (cA 2<|uC<|.int 1)<|aW (kY (iX<|aB (uOp M.gSub (aE 1)<|uC<|.int 2) aL) (cT 3)<|cA 2<|uOp oE (uOp iR (aE 2)<|aE 0)<|aE 1)<|rE 2)
theorem b52: ∀ds Q,sA ds Q->sB {nx:=λ_=>Q (.pu .non),rt:=Q} (init ["c","p","v","s"] ds):=by
 rintro ds Q ⟨c,p,rfl,c0,c1,p2,p9,h⟩;unfold sB;show(aW _ _:US) _ [some<|.pu<|.int c,some<|.pu<|.int p,none,none];walk_at "u";refine cC (p.toNat-2) (λk=> .int (0+k)) [some<|.pu<|.int c,some<|.pu<|.int p,some<|.pu<|.int 1,none] ?_
  (λk ρ=> ∃z,ρ=[some<|.pu<|.int c,some<|.pu<|.int p,some<|.pu<|.int<|bC4 c p k,z]) ⟨none,rfl⟩ ?_ ?_
 ·intro Q' q;walk_at "u";refine⟨⟨ad,ad⟩,?_⟩
  rw[show(p-2).toNat=p.toNat-2 by lia]
  exact q
 ·rintro k ρ hk ⟨z,rfl⟩;have:=bC5 (c:=c) p2 k;walk_at "u";refine⟨ae,cmL ad ad,ad,some<|.pu<|.int<|0+(k:Int),?_⟩
  rw[dI _ ad]
  rfl
 ·rintro ρ ⟨z,rfl⟩;walk_at "u";exact h
def sC:Φ:=λds Q=> ∃(n k d:Nat) (f g:Nat->Int) (p:Int),ds=[aN<|rwF n f,aN<|rwF k g,.int p]/\n<=50/\k<=50/\Pr p/\(∀j,k<=j->g j=0)/\d<k/\(∀j,d<j->md p g j=0)/\md p g d≠0/\
 ∀t,t*md p g d%p=1->0<=t->t<p->
  let b:=λj=>t*md p g j%p
  let LA:=fA (md p f) n
  let q:=divQ b d (LA-d) (md p f)
  let r:=divL b d (LA-d) (md p f)
  Q (.pu<|.tup [aN<|rwF (fA (λj=>t*q j%p)<|fA q<|LA-d) λj=>t*q j%p,aN<|rwF (fA (md p r)<|fA r LA)<|md p r])
def yI:US:=(d6<|fY<|aB (aS vU<|aB (aE 5)<|aB (aE 4)<|aB (aE 2) aL)<|aB (aS iT<|aB (aE 6)<|aB (aE 2) aL) aL)
def qL:US:=(aW (cC7 (aS eT<|aB (aS iT<|aB (aE 0)<|aB (aE 2) aL)<|aB (aS vU<|aB (aE 3)<|aB (aE 4)<|aB (aE 2) aL) aL)<|lZ<|cZ 5<|cZ 6 lY) yI)
def sD:US:=(aW (cA 3<|aS iT<|aB (aE 1)<|aB (aE 2) aL)<|aW (cA 4<|aS sA<|aB (uIx (aZ 3)<|rF<|uC<|.int 1)<|aB (aE 2) aL) qL)
theorem b53: ∀ds Q,sC ds Q->sD {nx:=λ_=>Q (.pu .non),rt:=Q} (init ["a","b","p","l","t","q","r"] ds):=by
 rintro ds Q ⟨n,k,d,f,g,p,rfl,hn,hk,pp,gz,dk,dz,d0,h⟩;have p2:=pp.lo;have p9:=pp.hi;unfold sD;show(aW _ _:US) _ [some<|.pu<|aN<|rwF n f,some<|.pu<|aN<|rwF k g,some<|.pu<|.int p,none,none,none,none];have ed:fA (md p g) k=d+1:=sZ ad (λm m1 m2=>dz m ad) (.inr<|by simpa using d0)
 have c1:=bZ (g d) (show p≠0 by lia)
 have c2:=cE (g d) (show 0<p by lia)
 have c3:0<md p g d:=by
  have:md p g d=g d%p:=rfl
  lia
 have tR:=bC5 (c:=md p g d) p2 (p.toNat-2);have ht:=pp.inv _ c3 c2;generalize et:bC4 (md p g d) p (p.toNat-2)=t at tR ht;have bA: ∀j,0<=t*md p g j%p/\t*md p g j%p<p:=λj=>⟨bZ _ ad,cE _ ad⟩
 have hc:fA (λj=>t*md p g j%p) (d+1)=d+1:=sZ (aF _) (λm a b=>ad) (.inr (by
  show t*md p g d%p≠0
  rw[ht];decide))
 have LA9:=sY (md p f) n;have low:aN (rwF (fA (md p g) k)<|md p g)= .tup ((rwF (d+1)<|md p g).map .int):=by rw[ed];rfl
 walk_at "u"
 refine⟨k,g,p,rfl,ad,ad,?_⟩
 rw[low];walk_at "u";rw[b26 ad]
 walk_at "u"
 refine⟨md p g d,p,rfl,ad,c2,p2,p9,?_⟩
 rw[et];show qL _ [some<|.pu<|aN<|rwF n f,some<|.pu<|aN<|rwF k g,some<|.pu<|.int p,some<|.pu<|aN<|rwF (d+1)<|md p g,some<|.pu<|.int t,none,none];unfold qL;walk_at "u";refine⟨n,f,p,rfl,ad,ad,?_⟩
 refine⟨d+1,md p g,t,p,rfl,ad,ad,ad,ad,?_⟩
 rw[hc];refine⟨fA (md p f) n,d,8,8,md p f,λj=>t*md p g j%p,rfl,⟨ad,ad,ht,λj hj=>by
  show t*md p g j%p=0
  rw[dz j hj,bP,dC],λm _=>md_nat p2 p9 f m,λj=>by
   have:=bA j;show(t*md p g j%p).natAbs<=256
   lia,ad,ac⟩,?_⟩
 have hh:=h t ht tR.1 tR.2;have q9:=sY (divQ (λj=>t*md p g j%p) d (fA (md p f) n-d)<|md p f) (fA (md p f) n-d)
 have r9:=sY (divL (λj=>t*md p g j%p) d (fA (md p f) n-d)<|md p f) (fA (md p f) n)
 simp only[]at hh;walk_at "u";refine⟨ae,ae,trivial,?_⟩
 unfold yI;walk_at "u";refine⟨_,_,t,p,rfl,ad,ad,ad,ad,?_⟩
 refine⟨_,_,p,rfl,ad,ad,?_⟩
 walk_at "u"
 exact⟨ac,hh⟩
theorem bV1 {js:List Nat}{cap:List (Option Nat)}{last t0:Nat}{ui:UI}{tt:UT}{te:UE}{ρ:Ev}{Q:B->Ev->Prop}(n:Nat)(it:Nat->D)(ρ1:Ev)(hui: ∀Q:Nat->(Nat->D)->Ev->Prop,Q n it ρ1->ui ρ Q)(hn:n<=1000)
  (G:Option B->List D->Ev) (x0:Option B) (h0:pB (wM ρ1 js) cap last=G x0 []) (h1: ∀x l b,(G x l).set t0 (some b)=G (some b) l) (h1': ∀x l,t0< (G x l).length) (h2: ∀x l (Q:List D->Prop),Q l->o7 (G x l) last Q) (h3: ∀x l l',(G x l).set last (some<|.ow l')=G x l')
  (c:Nat->Bool) (f:Nat->D) (htt: ∀i l (Q':Bool->Ev->Prop),i<n->Q' (c i) (G (some<|.pu<|it i) l)->tt (G (some<|.pu<|it i) l) Q')
  (hte: ∀i l (Q':B->Ev->Prop),i<n->Q' (.pu<|f i) (G (some<|.pu<|it i) l)->te (G (some<|.pu<|it i) l) Q') (hq:Q (.ow<|((List.range n).filter c).map f) (wM ρ1 js)) :
  eF js cap last ui (cT t0) tt te ρ Q:=by
 refine hui _ ⟨λi ρ'=> ∃x,ρ'=G x (((List.range i).filter c).map f),⟨x0,h0⟩,?_,?_⟩
 ·rintro i ρ' hi ⟨x,rfl⟩;refine⟨h1' _ _,?_⟩;rw[h1];dsimp only;refine htt i _ _ hi ?_
  by_cases hc:c i=true
  ·rw[a9 hc];refine hte i _ _ hi (h2 _ _ _ ⟨?_,some<|.pu<|it i,?_⟩)
   ·rw[aK];exact mV (List.length_filter_le ..) (by rw[kB];exact b6 hi (aM hn ac))
   ·rw[h3,dP,zJ,cF];simp[hc];rfl
  ·rw[a6 hc];refine⟨some<|.pu<|it i,?_⟩;rw[dP,zJ,cF];simp[hc]
 ·rintro ρ' ⟨x,rfl⟩;exact h2 _ _ _ hq
noncomputable def prB (i k:Nat):Bool:=if(2:Int)+(i:Int)=2+(k:Int)then true else !decide (((2:Int)+(i:Int))%(2+(k:Int))=0)
noncomputable def prC (i:Nat):Bool:=((List.range 13).map<|prB i).all id
noncomputable def prL:List Int:=((List.range 198).filter prC).map λi:Nat=>(2:Int)+(i:Int)
theorem c47 {c p:Nat}(hp:2<=p): ∀n,bC4 (c:Int) (p:Int) n=((c^n%p:Nat):Int)
 | 0=>by
  show(1:Int)=_
  rw[Nat.pow_zero,Nat.mod_eq_of_lt ad]
  rfl
 | n+1=>by
  show bC4 (c:Int) (p:Int) n*(c:Int)%(p:Int)=_
  rw[c47 hp n,<-aN7,<-Int.natCast_emod,zZ,Nat.mod_mul_mod]
theorem pr_all:prL.all (λp=>decide (2<=p)&&decide (p<200)&&(List.range p.toNat).all λc=>decide (c=0)||decide (c^(p.toNat-2)%p.toNat*c%p.toNat=1))=true:=af
theorem pr_len:prL.length=46:=af
theorem a16 {p:Int}(h:p∈prL):Pr p:=by
 have h1:=dO.mp pr_all p h;simp only[dN,fP,dO,dU,zT]at h1;obtain⟨⟨a,b⟩,c⟩:=h1;refine⟨a,b,λx x0 x1=> ?_⟩
 obtain⟨q,rfl⟩: ∃q:Nat,p=(q:Int):=⟨p.toNat,ad⟩
 obtain⟨y,rfl⟩: ∃y:Nat,x=(y:Int):=⟨x.toNat,ad⟩
 have h2:=c y ad
 rw[eB]at h2⊢;rw[c47 ad,<-aN7,<-Int.natCast_emod]
 rcases h2 with h2|h2
 ·lia
 ·rw[h2];rfl
noncomputable def T_SMALL_PRIMES:List Int:=[2,3,5,7,11,13,17,19,23,29,31,37,41,43,47,53,59,61,67,71,73,79,83,89,97,101,103,107,109,113,127,131,137,139,149,151,157,163,167,173,179,181,191,193,197,199]
theorem tp_ok: ∀p∈T_SMALL_PRIMES,2<=p/\p<200:=af
theorem d46:T_SMALL_PRIMES.Pairwise (λa b=>a<b):=af
theorem bC6:T_SMALL_PRIMES.length=46:=rfl
def jX:Φ:=λds Q=>ds=[]/\Q (.ow<|T_SMALL_PRIMES.map .int)
def oK:US:=(d6<|aS aE9<|aB (uC<|.tup<|T_SMALL_PRIMES.map .int) aL)
theorem aT1: ∀ds Q,jX ds Q->oK {nx:=λ_=>Q (.pu .non),rt:=Q} (init [] ds):=by
 rintro ds Q ⟨rfl,h⟩;unfold oK;show(d6 _:US) _ [];walk_at "u";exact h
theorem bV2:prL=T_SMALL_PRIMES:=af
noncomputable def ps (f:Nat->Int)(z:Int):Nat->Int
 | 0=>0
 | n+1=>ps f z n+f n*z^n
noncomputable def hor (f:Nat->Int)(n:Nat)(z:Int):Nat->Int
 | 0=>0
 | k+1=>hor f n z k*z+f (n-1-k)
theorem d47 (f:Nat->Int)(n:Nat)(z:Int): ∀k,k<=n->hor f n z k*z^(n-k)+ps f z (n-k)=ps f z n
 | 0,_=>by show(0:Int)*_+_=_;rw[gH,dD];rfl
 | k+1,h=>by
  have ih:=d47 f n z k ad
  obtain⟨m,hm⟩: ∃m,n-k=m+1:=⟨n-k-1,ad⟩
  have e1:n-(k+1)=m:=ad
  have e2:n-1-k=m:=ad
  rw[hm]at ih;show(hor f n z k*z+f (n-1-k))*z^(n-(k+1))+ps f z (n-(k+1))=_;rw[e1,e2,<-ih];show _=hor f n z k*z^(m+1)+(ps f z m+f m*z^m);rw[qD,a04];have e3:hor f n z k*z*z^m=hor f n z k*(z^m*z):=by rw[nK,gG z]
  lia
theorem dH0 (f:Nat->Int)(n:Nat)(z:Int):hor f n z n=ps f z n:=by
 have:=d47 f n z n (aF _);rw[nL]at this;have e:hor f n z n*z^0+ps f z 0=hor f n z n:=by
  show hor f n z n*z^0+0=_
  rw[iQ,jF,hG]
 lia
theorem bP7 {f:Nat->Int}{n a b:Nat}{z:Int}(hf: ∀j,(f j).natAbs<=2^a)(hz:z.natAbs<=2^b): ∀k,(hor f n z k).natAbs<=2^(a+(b+1)*k)
 | 0=>by simp[hor]
 | k+1=>by
  show(hor f n z k*z+f (n-1-k)).natAbs<=_
  have ih:=bP7 (n:=n) hf hz k;have h1:(hor f n z k*z).natAbs<=2^(a+(b+1)*k)*2^b:=by rw[eO];exact fS ih hz
  have h2:=hf (n-1-k);have h3:=aN2 (hor f n z k*z) (f<|n-1-k);have e1:2^(a+(b+1)*(k+1))=2^(a+(b+1)*k)*2^b+2^(a+(b+1)*k)*2^b:=by
   rw[a00,<-qB,<-qB,zZ,gI 2 (a+(b+1)*k) b];lia
  have h4:2^a<=2^(a+(b+1)*k)*2^b:=by
   rw[<-gI];exact gX ac ad
  lia
theorem d48 (f g:Nat->Int)(z:Int): ∀n,ps (λj=>f j+g j) z n=ps f z n+ps g z n
 | 0=>rfl
 | n+1=>by
  show ps (λj=>f j+g j) z n+(f n+g n)*z^n=ps f z n+f n*z^n+(ps g z n+g n*z^n)
  rw[d48 f g z n,a04]
  lia
theorem d49 (c:Int)(f:Nat->Int)(z:Int): ∀n,ps (λj=>c*f j) z n=c*ps f z n
 | 0=>by show(0:Int)=c*0;rw[bP]
 | n+1=>by
  show ps (λj=>c*f j) z n+c*f n*z^n=c*(ps f z n+f n*z^n)
  rw[d49 c f z n,u6,nK]
theorem bV3 {f:Nat->Int}{z:Int}{n:Nat}: ∀m,n<=m->(∀j,n<=j->j<m->f j=0)->ps f z m=ps f z n
 | 0,h,_=>by rw[show n=0 by lia]
 | m+1,h,hz=>by
  by_cases c:n=m+1
  ·rw[c]
  ·show ps f z m+f m*z^m=_
   rw[hz m ad ad,gH,hG]
   exact bV3 m ad λj a b=>hz j a ad
theorem bP8 (b:Nat->Int)(z:Int)(U:Nat): ∀n,n<=U->ps (shF b U) z n=0
 | 0,_=>rfl
 | n+1,h=>by
  show ps (shF b U) z n+shF b U n*z^n=0
  rw[bP8 b z U n aa]
  unfold shF;rw[a6 aa,gH]
  rfl
theorem c48 (b:Nat->Int)(z:Int)(U:Nat): ∀m,ps (shF b U) z (U+m)=z^U*ps b z m
 | 0=>by rw[Nat.add_zero,bP8 b z U U<|aF _];show(0:Int)=z^U*0;rw[bP]
 | m+1=>by
  show ps (shF b U) z (U+m)+shF b U (U+m)*z^(U+m)=z^U*(ps b z m+b m*z^m)
  rw[c48 b z U m];unfold shF;rw[a9 ad,show U+m-U=m by lia,Int.pow_add,u6,Int.mul_left_comm]
theorem cL6 {u b:Nat->Int}{z:Int}{V:Nat}(hb: ∀j,V<=j->b j=0): ∀U N,U+V<=N->ps (conv u b U) z N=ps u z U*ps b z V
 | 0,N,_=>by
  have:ps (conv u b 0) z N=0:=by
   have e:ps (conv u b 0) z N=ps (conv u b 0) z 0:=bV3 N (cP _) λ_ _ _=>rfl
   rw[e];rfl
  rw[this];show(0:Int)=0*_;rw[gH]
 | U+1,N,h=>by
  have e:conv u b (U+1)=λm=>conv u b U m+u U*shF b U m:=rfl
  rw[e,d48 (conv u b U) λm=>u U*shF b U m,cL6 hb U N ad,d49]
  obtain⟨m,rfl⟩: ∃m,N=U+m:=⟨N-U,ad⟩
  rw[c48,bV3 (n:=V) m ad λj a _=>hb j a]
  show _=(ps u z U+u U*z^U)*ps b z V
  rw[a04,nK<|u U]
structure HorOk (n a b:Nat)(f:Nat->Int)(z:Int):Prop where
 fb: ∀j,(f j).natAbs<=2^a
 zb:z.natAbs<=2^b
 room:a+(b+1)*n<8000
 b8:b<8000
 n9:n<=200
def t7:Φ:=λds Q=> ∃(n a b:Nat) (f:Nat->Int) (z:Int),ds=[aN<|rwF n f,.int z]/\HorOk n a b f z/\Q (.pu<|.int<|ps f z n)
def a17:US:=(aW (cA 2<|uC<|.int 0)<|aW (kY (d17<|aB (aE 0) aL) (cT 3)<|cA 2<|uOp iZ (uOp iR (aE 2)<|aE 1)<|aE 3)<|rE 2)
theorem bV4: ∀ds Q,t7 ds Q->a17 {nx:=λ_=>Q (.pu .non),rt:=Q} (init ["f","z","v","c"] ds):=by
 rintro ds Q ⟨n,a,b,f,z,rfl,ok,h⟩;unfold a17;simp only[aN];show(aW _ _:US) _ [some<|.pu<|.tup<|(rwF n f).map .int,some<|.pu<|.int z,none,none];walk_at "u";refine cC n (λk=>((rwF n f).map D.int).getD (n-1-k) .non) [some<|.pu<|.tup<|(rwF n f).map .int,some<|.pu<|.int z,some<|.pu<|.int 0,none] ?_
  (λk ρ=> ∃c,ρ=[some<|.pu<|.tup<|(rwF n f).map .int,some<|.pu<|.int z,some<|.pu<|.int<|hor f n z k,c]) ⟨none,rfl⟩ ?_ ?_
 ·intro Q' q;walk_at "u";rw[b9];exact q
 ·rintro k ρ hk ⟨c,rfl⟩;rw[rJ aa]
  walk_at "u"
  have room:=ok.room;have:(b+1)*k<=(b+1)*n:=pQ _ aa
  exact⟨ae,.inr ⟨Sm.pow (bP7 ok.fb ok.zb k) aa,Sm.pow ok.zb (by have:=ok.b8;omega)⟩,_,rfl⟩
 ·rintro ρ ⟨c,rfl⟩;walk_at "u";rw[dH0];exact h
theorem cL7 (f g:Nat->Int)(n m:Nat):shF (λj=>f j+g j) n m=shF f n m+shF g n m:=by
 unfold shF;dsimp only;split<;>lia
theorem dH1 (c:Int)(f:Nat->Int)(n m:Nat):shF (λj=>c*f j) n m=c*shF f n m:=by
 unfold shF;dsimp only;split
 ·rfl
 ·rw[bP]
theorem shF_sh (h:Nat->Int)(n k m:Nat):shF (shF h n) k m=shF h (n+k) m:=by
 unfold shF
 by_cases c:k<=m
 ·rw[a9 c]
  by_cases d:n<=m-k
  ·rw[a9 d,a9 ad,show m-k-n=m-(n+k)by lia]
  ·rw[a6 d,a6 ad]
 ·rw[a6 c,a6 ad]
theorem bP9 (f g b:Nat->Int)(m:Nat): ∀n,conv (λj=>f j+g j) b n m=conv f b n m+conv g b n m
 | 0=>rfl
 | n+1=>by
  show conv (λj=>f j+g j) b n m+(f n+g n)*shF b n m=conv f b n m+f n*shF b n m+(conv g b n m+g n*shF b n m)
  rw[bP9 f g b m n,a04]
  lia
theorem bQ0 (c:Int)(f b:Nat->Int)(m:Nat): ∀n,conv (λj=>c*f j) b n m=c*conv f b n m
 | 0=>by show(0:Int)=c*0;rw[bP]
 | n+1=>by
  show conv (λj=>c*f j) b n m+c*f n*shF b n m=c*(conv f b n m+f n*shF b n m)
  rw[bQ0 c f b m n,u6,nK]
theorem c49 (f b:Nat->Int)(k m:Nat): ∀n,conv (shF f k) b (k+n) m=shF (conv f b n) k m
 | 0=>by
  have e: ∀j,j<=k->conv (shF f k) b j m=0:=by
   intro j
   induction j with
   | zero=>intro _;rfl
   | succ j ih=>
    intro hj;show conv (shF f k) b j m+shF f k j*shF b j m=0;rw[ih ad]
    unfold shF;rw[a6 ad,gH]
    rfl
  rw[Nat.add_zero,e k<|aF _];unfold shF;split<;>rfl
 | n+1=>by
  show conv (shF f k) b (k+n) m+shF f k (k+n)*shF b (k+n) m=shF (λm=>conv f b n m+f n*shF b n m) k m
  rw[c49 f b k m n,cL7,dH1,shF_sh,add_comm n k]
  congr 2
  unfold shF;rw[a9 ad,show k+n-k=n by lia]
theorem bC7 {u b c:Nat->Int}{V:Nat}(hb: ∀j,V<=j->b j=0)(m:Nat): ∀U,conv u (conv b c V) U m=conv (conv u b U) c (U+V) m
 | 0=>by
  have e: ∀n,conv (conv u b 0) c n m=0:=by
   intro n
   induction n with
   | zero=>rfl
   | succ n ih=>
    show conv (conv u b 0) c n m+0*shF c n m=0
    rw[ih,gH];rfl
  rw[e];rfl
 | U+1=>by
  show conv u (conv b c V) U m+u U*shF (conv b c V) U m=conv (λm=>conv u b U m+u U*shF b U m) c (U+1+V) m
  rw[bP9,bQ0,bC7 hb m U];have z1: ∀j,U+V<=j->j<U+1+V->conv u b U j=0:=λj h1 h2=>by
   have: ∀i,V<i+1->b i=0:=λi hi=>hb i ad
   by_cases v:V=0
   ·subst v;have e:b=λ_=>0:=funext λj=>hb j (cP _)
    rw[e];have nul: ∀n,conv u (λ_=>0) n j=0:=by
     intro n
     induction n with
     | zero=>rfl
     | succ n ih=>
      show conv u (λ_=>0) n j+u n*shF (λ_=>0) n j=0
      rw[ih];unfold shF;split<;>rw[bP]<;>rfl
    exact nul U
   ·exact o9 (d:=V-1) (λi hi=>hb i ad) U j ad
  rw[aT0 (u:=conv u b U) (b:=c) (U:=U+V) (U+1+V) z1 ad]
  have z2: ∀j,U+V<=j->j<U+1+V->shF b U j=0:=λj h1 h2=>by
   unfold shF;rw[a9 ad]
   exact hb _ ad
  rw[aT0 (u:=shF b U) (b:=c) (U:=U+V) (U+1+V) z2 ad,c49]
theorem aY5 (u f g:Nat->Int)(m:Nat): ∀n,conv u (λj=>f j+g j) n m=conv u f n m+conv u g n m
 | 0=>rfl
 | n+1=>by
  show conv u (λj=>f j+g j) n m+u n*shF (λj=>f j+g j) n m=conv u f n m+u n*shF f n m+(conv u g n m+u n*shF g n m)
  rw[aY5 u f g m n,cL7,u6]
  lia
theorem aT2 {u:Nat->Int}{n:Nat}(c:Int)(k:Nat)(hu: ∀j,n<=j->u j=0)(m:Nat):conv u (λj=>if j=k then c else 0) n m=c*shF u k m:=by
 have e: ∀n,conv u (λj=>if j=k then c else 0) n m=if k<=m/\m-k<n then c*u (m-k)else 0:=by
  intro n
  induction n with
  | zero=>rw[a6 aa];rfl
  | succ n ih=>
   show conv u (λj=>if j=k then c else 0) n m+u n*shF (λj=>if j=k then c else 0) n m=_
   have sh:shF (λj=>if j=k then c else 0) n m=if n<=m/\m-n=k then c else 0:=by
    unfold shF;dsimp only
    by_cases h3:n<=m
    ·rw[a9 h3]
     by_cases h4:m-n=k
     ·rw[a9 h4,a9 ⟨h3,h4⟩]
     ·rw[a6 h4,a6 λz=>h4 z.2]
    ·rw[a6 h3,a6 λz=>h3 z.1]
   rw[ih,sh]
   by_cases h1:k<=m/\m-k<n
   ·rw[a9 h1,a6<|show ¬(n<=m/\m-n=k)by omega,a9<|show k<=m/\m-k<n+1 by omega,bP,hG]
   ·rw[a6 h1]
    by_cases h2:k<=m/\m-k=n
    ·rw[a9<|show n<=m/\m-n=k by omega,a9<|show k<=m/\m-k<n+1 by omega,h2.2,dD,gG]
    ·rw[a6<|show ¬(n<=m/\m-n=k)by omega,a6<|show ¬(k<=m/\m-k<n+1)by omega,bP]
     rfl
 rw[e n];unfold shF
 by_cases h1:k<=m
 ·rw[a9 h1]
  by_cases h2:m-k<n
  ·rw[a9 ⟨h1,h2⟩]
  ·rw[a6 aa,hu _ aa,bP]
 ·rw[a6 h1,a6 aa,bP]
theorem cS4 {u b:Nat->Int}{U V:Nat}(hu: ∀j,U<=j->u j=0)(hb: ∀j,V<=j->b j=0)(m:Nat):conv u b U m=conv b u V m:=by
 have e: ∀n,conv u b n m=conv b (λj=>if j<n then u j else 0) V m:=by
  intro n
  induction n with
  | zero=>
   have:(λj=>if j<0 then u j else 0)=λj=>if j=0 then(0:Int)else 0:=funext λj=>ae
   rw[this,aT2 0 0 hb,gH];rfl
  | succ n ih=>
   have:(λj=>if j<n+1 then u j else 0)=λj=>(if j<n then u j else 0)+(if j=n then u n else 0):=funext λj=>by
    by_cases h1:j<n
    ·rw[a9 ad,a9 h1,a6 ad,hG]
    ·by_cases h2:j=n
     ·subst h2;rw[a9 ad,a6 h1,a9 rfl,dD]
     ·rw[a6 ad,a6 h1,a6 h2];rfl
   rw[this,aY5 b (λj=>if j<n then u j else 0) λj=>if j=n then u n else 0,aT2 _ _ hb,<-ih]
   rfl
 rw[e U]
 congr 1
 funext j
 by_cases h:j<U
 ·rw[a9 h]
 ·rw[a6 h,hu j ad]
theorem emL (a b p:Int):a%p*b%p=a*b%p:=by rw[fT,iO,<-fT]
theorem emR (a b p:Int):a*(b%p)%p=a*b%p:=by rw[fT,iO,<-fT]
structure MP (p:Int)(n:Nat)(f:Nat->Int):Prop where
 top:f n=1
 hi: ∀j,n<j->f j=0
 rng: ∀j,0<=f j/\f j<p
theorem MP.z {p:Int}{n:Nat}{f:Nat->Int}(h:MP p n f): ∀j,n+1<=j->f j=0:=λj hj=>h.hi j hj
noncomputable def tm (p:Int)(a b:Nat×(Nat->Int)):Nat×(Nat->Int):=(a.1+b.1,md p<|conv a.2 b.2 (a.1+1))
theorem c50 {p:Int}(u b:Nat->Int)(n m:Nat):conv (md p u) b n m%p=conv u b n m%p:=b85 (λi j=>by show u i%p*b j%p=_;rw[emL]) n m
theorem d50 {p:Int}(u b:Nat->Int)(n m:Nat):conv u (md p b) n m%p=conv u b n m%p:=b85 (λi j=>by show u i*(b j%p)%p=_;rw[emR]) n m
theorem MP.tm {p:Int}{a b:Nat×(Nat->Int)}(hp:2<=p)(ha:MP p a.1 a.2)(hb:MP p b.1 b.2):MP p (M.tm p a b).1 (M.tm p a b).2:=by
 refine⟨?_,λj hj=> ?_,λj=>⟨bZ _ ad,cE _ ad⟩⟩
 ·show conv a.2 b.2 (a.1+1) (a.1+b.1)%p=1
  rw[c45 hb.hi,ha.top,hb.top];exact eC ac ad
 ·show conv a.2 b.2 (a.1+1) j%p=0
  have hj':a.1+b.1<j:=hj;rw[o9 (d:=b.1) hb.hi (a.1+1) j ad,dC]
theorem a95 {p:Int}{a b c:Nat×(Nat->Int)}(hb: ∀j,b.1<j->b.2 j=0):tm p a (tm p b c)=tm p (tm p a b) c:=by
 refine gJ (qB _ _ _).symm (funext λm=> ?_)
 show conv a.2 (md p<|conv b.2 c.2 (b.1+1)) (a.1+1) m%p=conv (md p<|conv a.2 b.2 (a.1+1)) c.2 (a.1+b.1+1) m%p
 rw[d50,c50,bC7 (V:=b.1+1) (λj hj=>hb j hj) m<|a.1+1]
 rw[aT0 (u:=conv a.2 b.2 (a.1+1)) (b:=c.2) (U:=a.1+b.1+1) (a.1+1+(b.1+1)) (λj h1 h2=>o9 (d:=b.1) hb (a.1+1) j ad) ad]
theorem a18 {p:Int}{a b:Nat×(Nat->Int)}(ha: ∀j,a.1<j->a.2 j=0)(hb: ∀j,b.1<j->b.2 j=0):tm p a b=tm p b a:=by
 refine gJ (add_comm _ _) (funext λm=> ?_)
 show conv a.2 b.2 (a.1+1) m%p=conv b.2 a.2 (b.1+1) m%p
 rw[cS4 (U:=a.1+1) (V:=b.1+1) (λj hj=>ha j hj) λj hj=>hb j hj]
noncomputable def eW:Nat×(Nat->Int):=(0,λj=>if j=0 then 1 else 0)
theorem MP.one {p:Int}(hp:2<=p):MP p eW.1 eW.2:=⟨rfl,λj hj=>a6 (by have:0<j:=hj;lia),λj=>by show 0<=(if j=0 then(1:Int)else 0)/\(if j=0 then(1:Int)else 0)<p;split<;>lia⟩
theorem bC8 {p:Int}{a:Nat×(Nat->Int)}(ha:MP p a.1 a.2):tm p eW a=a:=by
 refine gJ (zero_add _) (funext λm=> ?_)
 show(0+(if(0:Nat)=0 then(1:Int)else 0)*shF a.2 0 m)%p=a.2 m
 rw[a9 rfl,a03,dD];unfold shF;rw[a9<|cP _,tZ];exact eC (ha.rng m).1 (ha.rng m).2
noncomputable def j1 (c:Int):Nat×(Nat->Int):=(1,λj=>if j=0 then c else if j=1 then 1 else 0)
theorem MP.lin {p c:Int}(hp:2<=p)(h0:0<=c)(h1:c<p):MP p (j1 c).1 (j1 c).2:=⟨rfl,λj hj=>by
  have:1<j:=hj;show(if j=0 then c else if j=1 then 1 else 0)=0;rw[a6 ad,a6 ad],λj=>by
  show 0<=(if j=0 then c else if j=1 then 1 else 0)/\(if j=0 then c else if j=1 then 1 else 0)<p
  split
  ·lia
  ·split<;>lia⟩
noncomputable def va (p:Int)(a:Nat×(Nat->Int))(z:Int):Int:=ps a.2 z (a.1+1)%p
theorem dM1 (p:Int)(f:Nat->Int)(z:Int): ∀n,ps (md p f) z n%p=ps f z n%p
 | 0=>rfl
 | n+1=>by
  show(ps (md p f) z n+f n%p*z^n)%p=(ps f z n+f n*z^n)%p
  rw[hJ,dM1 p f z n,emL,<-hJ]
theorem d51 {p:Int}{a b:Nat×(Nat->Int)}(hb: ∀j,b.1<j->b.2 j=0)(z:Int):va p (tm p a b) z=va p a z*va p b z%p:=by
 show ps (md p<|conv a.2 b.2 (a.1+1)) z (a.1+b.1+1)%p=ps a.2 z (a.1+1)%p*(ps b.2 z (b.1+1)%p)%p
 rw[dM1,<-fT];have h:=cL6 (u:=a.2) (b:=b.2) (z:=z) (V:=b.1+1) (λj hj=>hb j hj) (a.1+1) (a.1+1+(b.1+1)) (aF _)
 rw[<-h,bV3 (n:=a.1+b.1+1) (a.1+1+(b.1+1)) ad λj h1 h2=>o9 (d:=b.1) hb (a.1+1) j ad]
noncomputable def hqA (c:Int)(f:Nat->Int)(n:Nat):Nat->Int
 | 0=>f n
 | k+1=>f (n-1-k)-c*hqA c f n k
noncomputable def hq (c:Int)(f:Nat->Int)(n:Nat):Nat->Int:=λj=>if j<n then hqA c f n (n-1-j)else 0
theorem cL8 {c:Int}{f:Nat->Int}{n:Nat}(hf: ∀j,n<j->f j=0)(j:Nat)(hj:1<=j):f j=hq c f n (j-1)+c*hq c f n j:=by
 unfold hq
 by_cases h1:j<n
 ·rw[a9<|show j-1<n by lia,a9 h1,show n-1-(j-1)=(n-1-j)+1 by lia]
  show f j=f (n-1-(n-1-j))-c*hqA c f n (n-1-j)+c*hqA c f n (n-1-j)
  rw[show n-1-(n-1-j)=j by lia]
  lia
 ·by_cases h2:j=n
  ·subst h2;rw[a9<|show j-1<j by lia,a6 h1,show j-1-(j-1)=0 by lia,bP,hG]
   rfl
  ·rw[a6<|show ¬j-1<n by lia,a6 h1,hf j ad,bP]
   rfl
theorem dM2 {c:Int}{f:Nat->Int}{n:Nat}(hf: ∀j,n<j->f j=0): ∀m,ps f (-c) (m+1)=f 0-c*hq c f n 0+c*hq c f n m*(-c)^m
 | 0=>by
  show 0+f 0*(-c)^0=_
  rw[iQ,jF,jF]
  lia
 | m+1=>by
  show ps f (-c) (m+1)+f (m+1)*(-c)^(m+1)=_
  rw[dM2 hf m,cL8 (c:=c) hf (m+1) ad,fN,qD]
  grind
theorem hq_at {c:Int}{f:Nat->Int}{n:Nat}(hf: ∀j,n<j->f j=0):ps f (-c) (n+1)=f 0-c*hq c f n 0:=by
 rw[dM2 hf n];have:hq c f n n=0:=by unfold hq;rw[a6<|d8 _]
 rw[this,bP,gH,hG]
theorem bC9 {u:Nat->Int}{n:Nat}(c:Int)(hu: ∀j,n<=j->u j=0)(m:Nat):conv u (j1 c).2 n m=c*u m+(if m=0 then 0 else u (m-1)):=by
 have e:(j1 c).2=λj=>(if j=0 then c else 0)+(if j=1 then 1 else 0):=funext λj=>by
  show(if j=0 then c else if j=1 then 1 else 0)=_
  by_cases h0:j=0
  ·subst h0;simp
  ·rw[a6 h0,a6 h0,dD]
 rw[e,aY5 u (λj=>if j=0 then c else 0) λj=>if j=1 then 1 else 0,aT2 c 0 hu,aT2 1 1 hu,a03]
 unfold shF;rw[a9<|cP _,tZ]
 congr 1
 by_cases h0:m=0
 ·rw[a9 h0,a6 ad]
 ·rw[a6 h0,a9 ad]
theorem dH2 {c:Int}{f:Nat->Int}{n:Nat}(hf: ∀j,n<j->f j=0)(m:Nat):f m=conv (hq c f n) (j1 c).2 n m+(if m=0 then f 0-c*hq c f n 0 else 0):=by
 rw[bC9 c (λj hj=>by unfold hq;rw[a6 ad])]
 by_cases h0:m=0
 ·subst h0;rw[a9 rfl,a9 rfl];lia
 ·rw[a6 h0,a6 h0,cL8 (c:=c) hf m ad];lia
noncomputable def powT (p:Int)(a g:Nat×(Nat->Int)):Nat->Nat×(Nat->Int)
 | 0=>a
 | k+1=>tm p (powT p a g k) g
theorem MP.powT {p:Int}{a g:Nat×(Nat->Int)}(hp:2<=p)(ha:MP p a.1 a.2)(hg:MP p g.1 g.2): ∀k,MP p (M.powT p a g k).1 (M.powT p a g k).2
 | 0=>ha
 | k+1=>MP.tm hp (MP.powT hp ha hg k) hg
theorem oM (p:Int)(a g:Nat×(Nat->Int)): ∀k,(powT p a g k).1=a.1+g.1*k
 | 0=>rfl
 | k+1=>by
  show(powT p a g k).1+g.1=_
  rw[oM p a g k,a00,qB]
noncomputable def allT (p:Int)(a:Nat×(Nat->Int)):List ((Nat×(Nat->Int))×Nat)->Nat×(Nat->Int)
 | []=>a
 | x::l=>allT p (powT p a x.1 x.2) l
theorem kJ (p:Int): ∀(l m:List ((Nat×(Nat->Int))×Nat)) (a:Nat×(Nat->Int)),allT p a (l++m)=allT p (allT p a l) m
 | [],m,a=>rfl
 | x::l,m,a=>kJ p l m _
theorem MP.allT {p:Int}(hp:2<=p): ∀(l:List ((Nat×(Nat->Int))×Nat)) {a:Nat×(Nat->Int)},MP p a.1 a.2->(∀x∈l,MP p x.1.1 x.1.2)->MP p (M.allT p a l).1 (M.allT p a l).2
 | [],a,ha,_=>ha
 | x::l,a,ha,h=>MP.allT hp l (MP.powT hp ha (h x<|.head _) x.2) λy hy=>h y (.tail _ hy)
theorem bD0 (p:Int): ∀(l:List ((Nat×(Nat->Int))×Nat)) (a:Nat×(Nat->Int)) (x:(Nat×(Nat->Int))×Nat),x∈l->a.1+x.1.1*x.2<=(allT p a l).1
 | y::l,a,x,hx=>by
  show _<=(allT p (powT p a y.1 y.2) l).1
  have mono: ∀(l:List ((Nat×(Nat->Int))×Nat)) (a:Nat×(Nat->Int)),a.1<=(allT p a l).1:=by
   intro l
   induction l with
   | nil=>intro a;exact aF _
   | cons z l ih=>intro a;exact aM (by rw[oM];lia) (ih<|powT p a z.1 z.2)
  rcases aX.mp hx with rfl|hx
  ·have:=mono l (powT p a x.1 x.2);rw[oM]at this;exact this
  ·have:=bD0 p l (powT p a y.1 y.2) x hx;rw[oM]at this
   lia
noncomputable def vV (x:(Nat×(Nat->Int))×Nat):D:= .tup [aN<|rwF (x.1.1+1) x.1.2,.int (x.2:Int)]
noncomputable def lnP (x:Int×Nat):(Nat×(Nat->Int))×Nat:=(j1 x.1,x.2)
structure LK (p:Int)(F:Nat×(Nat->Int))(C:Nat)(cs:List (Int×Nat))(L:Nat×(Nat->Int)):Prop where
 prod:F=tm p (allT p eW<|cs.map lnP) L
 mp:MP p L.1 L.2
 asc:cs.Pairwise λa b=>a.1<b.1
 mem: ∀x∈cs,0<=x.1/\x.1< (C:Int)/\1<=x.2
 nr: ∀c:Nat,c<C->va p L (-(c:Int))≠0
 len:cs.length<=C
theorem cL9 {p:Int}(hp:2<=p){cs:List (Int×Nat)}(h: ∀x∈cs,0<=x.1/\x.1<p): ∀y∈cs.map lnP,MP p y.1.1 y.1.2:=by
 intro y hy;obtain⟨x,hx,rfl⟩:=dE.mp hy;exact MP.lin hp (h x hx).1 (h x hx).2
def uO:Φ:=λds Q=> ∃(n:Nat) (f:Nat->Int) (p:Int),ds=[aN<|rwF (n+1) f,.int p]/\n<=40/\Pr p/\MP p n f/\ ∀cs L,LK p (n,f) p.toNat cs L->Q (.pu<|.tup [.lst<|cs.map λx=>vV (lnP x),aN<|rwF (L.1+1) L.2])
def a56:US:=(d6<|fY<|aB (aE 2)<|aB (aE 3) aL)
def a57:US:=(aW (kY (iX<|aB (aE 1) aL) (cT 4)<|aW (cA 5<|uC<|.int 0)<|aW (aW8 (eX<|uOp (kG false) (uOp oE (aS t7<|aB (aE 3)<|aB (rF<|aE 4) aL)<|aE 1)<|uC<|.int 0)<|aW (cA 3<|uIx (uV<|aS sC<|aB (aE 3)<|aB (fY<|aB (aE 4)<|aB (uC<|.int 1) aL)<|aB (aE 1) aL)<|uC<|.int 0)<|c19 5 (gI2 λi j Q=>Q (.pu<|.int<|i+j))<|uC<|.int 1)<|iD (eX<|uOp (vK λi j=>decide (j<i)) (aE 5)<|uC<|.int 0) (aR5 2<|fY<|aB (fY<|aB (aE 4)<|aB (uC<|.int 1) aL)<|aB (aE 5) aL) fH) a56)
def a58:US:=(aW (cA 3<|aE 0) a57)
def uP:US:=(aW (cA 2<|kF aL) a58)
theorem d52 {p:Int}(pp:Pr p){L:Nat×(Nat->Int)}(mp:MP p L.1 L.2){c:Int}(c0:0<=c)(c1:c<p)(hz:va p L (-c)=0){t:Int}(ht:t*md p (j1 c).2 1%p=1)(t0:0<=t)(t1:t<p) :
  1<=L.1/\ ∃u:Nat->Int,MP p (L.1-1) u/\L=tm p (L.1-1,u) (j1 c)/\
   (let b:=λj=>t*md p (j1 c).2 j%p
    let LA:=fA (md p L.2) (L.1+1)
    let q:=divQ b 1 (LA-1) (md p L.2)
    rwF (fA (λj=>t*q j%p)<|fA q<|LA-1) (λj=>t*q j%p)=rwF L.1 u):=by
 have p2:=pp.lo;have mdL:md p L.2=L.2:=funext λj=>eC (mp.rng j).1 (mp.rng j).2
 have ml:=MP.lin p2 c0 c1;have mdG:md p (j1 c).2=(j1 c).2:=funext λj=>eC (ml.rng j).1 (ml.rng j).2
 have l1:1<=L.1:=by
  refine Nat.pos_of_ne_zero λz=> ?_
  unfold va at hz;rw[z]at hz;have e:ps L.2 (-c) (0+1)=L.2 0*(-c)^0:=by show 0+L.2 0*(-c)^0=_;lia
  have e2:L.2 0=1:=by have:=mp.top;rw[z]at this;exact this
  rw[e,e2,iQ,jF,eC ac ad]at hz
  cases hz
 have r0:(L.2 0-c*hq c L.2 L.1 0)%p=0:=by rw[<-hq_at mp.hi];exact hz
 have fm: ∀m,L.2 m=conv (md p<|hq c L.2 L.1) (j1 c).2 L.1 m%p:=λm=>by
  have h:=dH2 (c:=c) mp.hi m;rw[c50];have e:L.2 m%p=L.2 m:=eC (mp.rng m).1 (mp.rng m).2;rw[<-e]
  conv=>lhs;rw[h]
  by_cases h0:m=0
  ·rw[a9 h0,hJ,r0,hG,iO]
  ·rw[a6 h0,hG]
 have ut:md p (hq c L.2 L.1) (L.1-1)=1:=by
  show hq c L.2 L.1 (L.1-1)%p=1
  unfold hq;rw[a9 ad,nL]
  show L.2 L.1%p=1
  rw[mp.top];exact eC ac ad
 have uz: ∀j,L.1<=j->md p (hq c L.2 L.1) j=0:=λj hj=>by
  show hq c L.2 L.1 j%p=0
  unfold hq;rw[a6 ad,dC]
 have ur: ∀j,0<=md p (hq c L.2 L.1) j/\md p (hq c L.2 L.1) j<p:=λj=>⟨bZ _ ad,cE _ ad⟩
 refine⟨l1,md p<|hq c L.2 L.1,⟨ut,λj hj=>uz j ad,ur⟩,?_,?_⟩
 ·refine gJ (show L.1=L.1-1+1 by lia) (funext λm=> ?_)
  show L.2 m=conv (md p<|hq c L.2 L.1) (j1 c).2 (L.1-1+1) m%p
  rw[show L.1-1+1=L.1 by lia]
  exact fm m
 ·have mm:=d45 (p:=p) (t:=t) (B0:=md p (j1 c).2) (u:=md p (hq c L.2 L.1)) (low:=λ_=>0) (A:=md p L.2) (d:=1) (U:=L.1) (n:=L.1+1) p2 (λj hj=>by rw[mdG];exact ml.hi j hj) (.inr (by rw[ut];decide)) ur uz (λ_ _=>rfl) (λ_=>⟨ac,ad⟩) ht (λm=>by rw[mdL,mdG,hG];exact fm m) (aF _)
  obtain⟨_,e1,_,_⟩:=mm;have eLA:fA (md p L.2) (L.1+1)=L.1+1:=sZ (aF _) (λm h1 h2=>ad) (.inr (by rw[mdL,fN,mp.top];decide))
  rw[eLA]at e1⊢;have eu:(λj=>t*divQ (λj=>t*md p (j1 c).2 j%p) 1 (L.1+1-1) (md p L.2) j%p)=md p (hq c L.2 L.1):=funext e1
  dsimp only;rw[eu];have eq:fA (divQ (λj=>t*md p (j1 c).2 j%p) 1 (L.1+1-1)<|md p L.2) (L.1+1-1)=L.1:=by
   rw[fN];refine sZ (aF _) (λm h1 h2=>ad) (.inr λz=> ?_)
   have h:=e1 (L.1-1);rw[fN]at h;rw[z,bP,dC,ut]at h;cases h
  rw[eq,sZ (k:=L.1) (aF _) (λm h1 h2=>ad)<|.inr (by rw[ut];decide)]
theorem d53 {p:Int}{a b:Nat×(Nat->Int)}(hb: ∀j,b.1<j->b.2 j=0){z:Int}(h:va p (tm p a b) z≠0):va p a z≠0/\va p b z≠0:=by
 rw[d51 hb]at h;refine⟨λe=>h ?_,λe=>h ?_⟩
 ·rw[e,gH,dC]
 ·rw[e,bP,dC]
theorem bV5 {p:Int}(pp:Pr p){n:Nat}{f:Nat->Int}(h:MP p n f)(j:Nat):(f j).natAbs<=2^8:=by
 have h1:=h.rng j;have h2:=pp.hi;have:(2:Nat)^8=256:=rfl
 lia
theorem bD1: ∀ds Q,uO ds Q->uP {nx:=λ_=>Q (.pu .non),rt:=Q} (init ["f","p","a","l","c","o"] ds):=by
 rintro ds Q ⟨n,f,p,rfl,n4,pp,mp,h⟩;have p2:=pp.lo;have p3:=pp.hi;unfold uP;show(aW _ _:US) _ [some<|.pu<|aN<|rwF (n+1) f,some<|.pu<|.int p,none,none,none,none];rw[aT];walk_at "u";refine⟨ac,?_⟩
 unfold a58;rw[aT];walk_at "u";unfold a57;rw[aT];refine cC p.toNat (λi=> .int (0+i)) [some<|.pu<|aN<|rwF (n+1) f,some<|.pu<|.int p,some<|.ow [],some<|.pu<|aN<|rwF (n+1) f,none,none] ?_
  (λi ρ=> ∃(cs:List (Int×Nat)) (L:Nat×(Nat->Int)) (x y:Option B),ρ=[some<|.pu<|aN<|rwF (n+1) f,some<|.pu<|.int p,some<|.ow<|cs.map λx=>vV (lnP x),some<|.pu<|aN<|rwF (L.1+1) L.2,x,y]/\LK p (n,f) i cs L)
  ⟨[],(n,f),none,none,rfl,(bC8 (p:=p) (a:=(n,f)) mp).symm,mp,.nil,ae,ae,aF _⟩ ?_ ?_
 ·intro Q' q;walk_at "u";refine⟨⟨ad,ad⟩,?_⟩
  exact q
 ·rintro i ρ hi ⟨cs,L,x,y,rfl,lk⟩;have hLn:L.1<=n:=by
   have:=bQ Prod.fst lk.prod;have e:n=(allT p eW<|cs.map lnP).1+L.1:=this
   lia
  have mcs:=cL9 p2 (cs:=cs) (λx hx=>⟨(lk.mem x hx).1,by have:=(lk.mem x hx).2.1;lia⟩)
  have mA:=MP.allT p2 (cs.map lnP) (MP.one p2) mcs;have mlin:=MP.lin p2 (c:=(i:Int)) ad ad
  rw[dD];walk_at "u";refine⟨ae,?_⟩
  refine⟨λk ρ=> ∃(o:Nat) (L':Nat×(Nat->Int)),ρ=[some<|.pu<|aN<|rwF (n+1) f,some<|.pu<|.int p,some<|.ow<|cs.map λx=>vV (lnP x),some<|.pu<|aN<|rwF (L'.1+1) L'.2,some<|.pu<|.int (i:Int),some<|.pu<|.int (o:Int)]/\k=L'.1/\L'.1<=n/\(n,f)=tm p (powT p (allT p eW<|cs.map lnP) (j1 (i:Int)) o) L'/\MP p L'.1 L'.2/\ ∀c:Nat,c<i->va p L' (-(c:Int))≠0,⟨L.1,0,L,rfl,rfl,hLn,lk.prod,lk.mp,lk.nr⟩,?_⟩
  rintro k ρ ⟨o,L',rfl,rfl,hL',e,mp',nr⟩;walk_at "u";refine⟨L'.1+1,8,8,L'.2,-(i:Int),rfl,⟨bV5 pp mp',by have:(2:Nat)^8=256:=rfl;lia,ad,ac,ad⟩,?_⟩
  walk_at "u"
  refine⟨ad,?_⟩
  rw[dI _ ad]
  by_cases c:va p L' (-(i:Int))=0
  ·rw[a9<|show ps L'.2 (-(i:Int)) (L'.1+1)%p=0 from c]
   refine⟨ac,L'.1+1,2,1,L'.2,(j1 (i:Int)).2,p,rfl,ad,ac,pp,λj hj=>mlin.hi j hj,ac,λj hj=>by show(j1 (i:Int)).2 j%p=0;rw[mlin.hi j hj,dC],by show(1:Int)%p≠0;rw[eC ac ad];decide,λt ht t0 t1=> ?_⟩
   obtain⟨l1,u,mu,eu,er⟩:=d52 pp mp' (c:=(i:Int)) ad ad c ht t0 t1
   dsimp only at er⊢;rw[er,aS4];dsimp only;have eL:rwF L'.1 u=rwF (L'.1-1+1) u:=by rw[show L'.1-1+1=L'.1 by lia]
   rw[eL];refine⟨L'.1-1,ad,o+1,(L'.1-1,u),by rw[Int.natCast_succ],rfl,by show L'.1-1<=n;lia,?_,mu,λc' hc'=> ?_⟩
   ·show(n,f)=tm p (tm p (powT p (allT p eW<|cs.map lnP) (j1 (i:Int)) o)<|j1 (i:Int)) (L'.1-1,u)
    rw[e]
    conv=>lhs;rw[eu]
    rw[a18 (a:=(L'.1-1,u)) (λj hj=>mu.hi j hj) mlin.hi,a95 mlin.hi]
   ·have:=nr c' hc';rw[eu]at this;exact(d53 mlin.hi this).1
  ·rw[a6<|show ¬ps L'.2 (-(i:Int)) (L'.1+1)%p=0 from c]
   have nr': ∀c:Nat,c<i+1->va p L' (-(c:Int))≠0:=λc' hc'=>by
    by_cases h1:c'<i
    ·exact nr c' h1
    ·rw[show c'=i by lia];exact c
   by_cases c2:(0:Int)< (o:Int)
   ·rw[a9 c2];refine⟨ac,ac,?_,cs++[((i:Int),o)],L',_,_,by rw[cF];rfl,?_,mp',?_,?_,nr',?_⟩
    ·rw[aK];exact mV lk.len (b6 hi<|aM (show p.toNat<=200 by lia) ac)
    ·rw[cF,kJ];exact e
    ·rw[zF];refine⟨lk.asc,zA _ _,λa ha b hb=> ?_⟩
     rw[iI.mp hb];exact(lk.mem a ha).2.1
    ·intro z hz;rcases bW.mp hz with hz|hz
     ·have:=lk.mem z hz;exact⟨this.1,ad,this.2.2⟩
     ·rw[iI.mp hz];exact⟨by show(0:Int)<=(i:Int);lia,by show(i:Int)< ((i+1:Nat):Int);lia,by show 1<=o;lia⟩
    ·rw[bO];exact Nat.succ_le_succ lk.len
   ·rw[a6 c2];have o0:o=0:=ad
    subst o0;exact⟨cs,L',_,_,rfl,e,mp',lk.asc,λz hz=>⟨(lk.mem z hz).1,by have:=(lk.mem z hz).2.1;lia,(lk.mem z hz).2.2⟩,nr',aN1 lk.len⟩
 ·rintro ρ ⟨cs,L,x,y,rfl,lk⟩;dsimp only;unfold a56;walk_at "u";exact⟨ac,h cs L lk⟩
noncomputable def quF (v u:Int):Nat×(Nat->Int):=(2,λj=>if j=0 then v else if j=1 then u else if j=2 then 1 else 0)
theorem MP.qu {p v u:Int}(hp:2<=p)(v0:0<=v)(v1:v<p)(u0:0<=u)(u1:u<p):MP p (quF v u).1 (quF v u).2:=⟨rfl,λj hj=>by
  have:2<j:=hj;show(if j=0 then v else if j=1 then u else if j=2 then 1 else 0)=0;rw[a6 ad,a6 ad,a6 ad],λj=>by
  show 0<=(if j=0 then v else if j=1 then u else if j=2 then 1 else 0)/\(if j=0 then v else if j=1 then u else if j=2 then 1 else 0)<p
  split
  ·lia
  ·split
   ·lia
   ·split<;>lia⟩
theorem bV6 (v u w s:Int):conv (quF v u).2 (quF w s).2 3 0=v*w/\conv (quF v u).2 (quF w s).2 3 1=v*s+u*w/\conv (quF v u).2 (quF w s).2 3 2=v+u*s+w/\conv (quF v u).2 (quF w s).2 3 3=u+s:=by
 refine⟨?_,?_,?_,?_⟩<;>simp[conv,shF,quF]
theorem dM3 {p:Int}{f:Nat->Int}(mp:MP p 4 f){v u w s:Int}(m1:MP p (quF v u).1 (quF v u).2)(m2:MP p (quF w s).1 (quF w s).2)(hp:2<=p) :
  ((4,f):Nat×(Nat->Int))=tm p (quF v u) (quF w s)↔f 0=v*w%p/\f 1=(v*s+u*w)%p/\f 2=(v+u*s+w)%p/\f 3=(u+s)%p:=by
 obtain⟨e0,e1,e2,e3⟩:=bV6 v u w s;have mt:=MP.tm hp m1 m2;constructor
 ·intro e;have h: ∀m,f m=conv (quF v u).2 (quF w s).2 3 m%p:=λm=>congrFun (bQ Prod.snd e) m
  exact⟨by rw[h 0,e0],by rw[h 1,e1],by rw[h 2,e2],by rw[h 3,e3]⟩
 ·rintro⟨h0,h1,h2,h3⟩;refine gJ rfl (funext λm=> ?_)
  show f m=conv (quF v u).2 (quF w s).2 3 m%p
  match m with
  | 0=>rw[h0,e0]
  | 1=>rw[h1,e1]
  | 2=>rw[h2,e2]
  | 3=>rw[h3,e3]
  | 4=>exact mp.top.trans mt.top.symm
  | m+5=>exact(mp.hi _ ad).trans (mt.hi (m+5)<|show 2+2<m+5 by lia).symm
def NoQ (p:Int)(F:Nat×(Nat->Int)):Prop:= ∀v u w s:Int,0<=v->v<p->0<=u->u<p->0<=w->w<p->0<=s->s<p->F≠tm p (quF v u) (quF w s)
def sE:Φ:=λds Q=> ∃(f:Nat->Int) (p:Int),ds=[aN<|rwF 5 f,.int p]/\Pr p/\MP p 4 f/\
 (∀v u w s:Int,0<=v->v<p->0<=u->u<p->0<=w->w<p->0<=s->s<p->((4,f):Nat×(Nat->Int))=tm p (quF v u) (quF w s)->Q (.ow [aN [v,u,1],aN [w,s,1]]))/\(NoQ p (4,f)->Q (.ow []))
def yJ:US:=(d6<|kF aL)
def sF:US:=(aW (kY (iX<|aB (aE 1) aL) (cT 2)<|aW (cA 3<|uOp oE (uOp M.gSub (uIx (aZ 0)<|uC<|.int 3)<|aE 2)<|aE 1)<|aW (cA 4<|uOp M.gSub (uIx (aZ 0)<|uC<|.int 2)<|uOp iR (aE 2)<|aE 3)<|kY (iX<|aB (aE 1) aL) (cT 5)<|aW (cA 6<|uOp oE (uOp M.gSub (aE 4)<|aE 5)<|aE 1)<|iD (cQ0 (eX<|uOp (kG false) (uOp oE (uOp iR (aE 5)<|aE 6)<|aE 1)<|uIx (aZ 0)<|uC<|.int 0)<|eX<|uOp (kG false) (uOp oE (uOp iZ (uOp iR (aE 2)<|aE 6)<|uOp iR (aE 5)<|aE 3)<|aE 1)<|uIx (aZ 0)<|uC<|.int 1) (d6<|kF<|aB (fY<|aB (aE 5)<|aB (aE 2)<|aB (uC<|.int 1) aL)<|aB (fY<|aB (aE 6)<|aB (aE 3)<|aB (uC<|.int 1) aL) aL) fH) yJ)
def cS5 (p:Int)(f:Nat->Int)(u v:Int):Prop:=v*((f 2-u*((f 3-u)%p)-v)%p)%p=f 0/\(u*((f 2-u*((f 3-u)%p)-v)%p)+v*((f 3-u)%p))%p=f 1
theorem c51 {p a b x:Int}(h0:0<=a)(h1:a<p)(h:x=(a+b)%p):(x-b)%p=a:=by
 rw[h,u4,iO,<-u4,Int.add_sub_cancel];exact eC h0 h1
theorem b54: ∀ds Q,sE ds Q->sF {nx:=λ_=>Q (.pu .non),rt:=Q} (init ["f","p","u","s","t","v","w"] ds):=by
 rintro ds Q ⟨f,p,rfl,pp,mp,yes,no⟩;have p2:=pp.lo;have p3:=pp.hi;have a0:atI ((rwF 5 f).map D.int) 0=some (.int<|f 0):=rZ (i:=0) ac
 have a1:atI ((rwF 5 f).map D.int) 1=some (.int<|f 1):=rZ (i:=1) ac
 have a2:atI ((rwF 5 f).map D.int) 2=some (.int<|f 2):=rZ (i:=2) ac
 have a3:atI ((rwF 5 f).map D.int) 3=some (.int<|f 3):=rZ (i:=3) ac
 unfold sF;simp only[aN];show(aW _ _:US) _ [some<|.pu<|.tup<|(rwF 5 f).map .int,some<|.pu<|.int p,none,none,none,none,none];rw[aT];refine cC p.toNat (λi=> .int (0+i)) [some<|.pu<|.tup<|(rwF 5 f).map .int,some<|.pu<|.int p,none,none,none,none,none] ?_
  (λi ρ=> ∃x y z a b,ρ=[some<|.pu<|.tup<|(rwF 5 f).map .int,some<|.pu<|.int p,x,y,z,a,b]/\ ∀u v:Nat,u<i->v<p.toNat-> ¬cS5 p f (u:Int) (v:Int))
  ⟨none,none,none,none,none,rfl,λu v hu=>ad⟩ ?_ ?_
 ·intro Q' q;walk_at "u";refine⟨⟨ad,ad⟩,?_⟩
  exact q
 ·rintro i ρ hi ⟨x,y,z,a,b,rfl,nh⟩;rw[dD];walk_at "u";rw[a3];dsimp only;refine⟨ae,ad,?_⟩
  rw[dI _ ad,a2]
  dsimp only;have s0:=bZ (f 3-(i:Int)) (show p≠0 by lia)
  have s1:=cE (f 3-(i:Int)) (show 0<p by lia)
  generalize hS:(f 3-(i:Int))%p=S at *;refine⟨cmL ad ad,?_⟩
  refine cC p.toNat (λi=> .int (0+i)) [some<|.pu<|.tup<|(rwF 5 f).map .int,some<|.pu<|.int p,some<|.pu<|.int (i:Int),some<|.pu<|.int S,some<|.pu<|.int<|f 2-(i:Int)*S,a,b] ?_
   (λj ρ=> ∃a b,ρ=[some<|.pu<|.tup<|(rwF 5 f).map .int,some<|.pu<|.int p,some<|.pu<|.int (i:Int),some<|.pu<|.int S,some<|.pu<|.int<|f 2-(i:Int)*S,a,b]/\ ∀v:Nat,v<j-> ¬cS5 p f (i:Int) (v:Int))
   ⟨a,b,rfl,λv hv=>ad⟩ ?_ ?_
  ·intro Q' q;walk_at "u";refine⟨⟨ad,ad⟩,?_⟩
   exact q
  ·rintro j ρ hj ⟨a,b,rfl,nj⟩;rw[dD];walk_at "u";refine⟨ae,ad,?_⟩
   rw[dI _ ad]
   have w0:=bZ (f 2-(i:Int)*S-(j:Int)) (show p≠0 by lia)
   have w1:=cE (f 2-(i:Int)*S-(j:Int)) (show 0<p by lia)
   generalize hW:(f 2-(i:Int)*S-(j:Int))%p=W at *;refine⟨cmL ad ad,ad,?_⟩
   rw[dI _ ad,a0]
   dsimp only
   have step: ¬cS5 p f (i:Int) (j:Int)-> ∃a b,[some<|B.pu<|.tup<|(rwF 5 f).map .int,some<|.pu<|.int p,some<|.pu<|.int (i:Int),some<|.pu<|.int S,some<|.pu<|.int<|f 2-(i:Int)*S,some<|.pu<|.int (j:Int),some<|.pu<|.int W]=[some<|.pu<|.tup<|(rwF 5 f).map .int,some<|.pu<|.int p,some<|.pu<|.int (i:Int),some<|.pu<|.int S,some<|.pu<|.int<|f 2-(i:Int)*S,a,b]/\ ∀v:Nat,v<j+1-> ¬cS5 p f (i:Int) (v:Int):=λnh'=>⟨_,_,rfl,λv hv=>by
    by_cases h1:v<j
    ·exact nj v h1
    ·rw[show v=j by lia];exact nh'⟩
   by_cases c1:(j:Int)*W%p=f 0
   ·rw[a9 c1];refine⟨cmL ad ad,cmL ad ad,ad,?_⟩
    rw[dI _ ad,a1]
    dsimp only
    by_cases c2:((i:Int)*W+(j:Int)*S)%p=f 1
    ·rw[a9 c2];refine⟨ac,ac,ac,yes (j:Int) (i:Int) W S ad ad ad ad w0 w1 s0 s1<|(dM3 mp (MP.qu p2 ad ad ad ad) (MP.qu p2 w0 w1 s0 s1) p2).mpr ⟨c1.symm,by rw[<-c2,a01],?_,?_⟩⟩
     ·rw[<-hW,hJ,iO,<-hJ];have:(j:Int)+(i:Int)*S+(f 2-(i:Int)*S-(j:Int))=f 2:=ad
      rw[this];exact(eC (mp.rng 2).1 (mp.rng 2).2).symm
     ·rw[<-hS,hJ,iO,<-hJ];have:(i:Int)+(f 3-(i:Int))=f 3:=ad
      rw[this];exact(eC (mp.rng 3).1 (mp.rng 3).2).symm
    ·rw[a6 c2];exact step λz=>c2 (by have:=z.2;unfold cS5 at z;rw[hS,hW]at this;exact this)
   ·rw[a6 c1];exact step λz=>c1 (by have:=z.1;rw[hS,hW]at this;exact this)
  ·rintro ρ ⟨a,b,rfl,nj⟩;refine⟨_,_,_,_,_,rfl,λu v hu hv=> ?_⟩
   by_cases h1:u<i
   ·exact nh u v h1 hv
   ·rw[show u=i by lia];exact nj v hv
 ·rintro ρ ⟨x,y,z,a,b,rfl,nh⟩;dsimp only;unfold yJ;walk_at "u";refine⟨ac,no ?_⟩
  intro v u w s v0 v1 u0 u1 w0 w1 s0 s1 e;obtain⟨h0,h1,h2,h3⟩:=(dM3 mp (MP.qu p2 v0 v1 u0 u1) (MP.qu p2 w0 w1 s0 s1) p2).mp e;obtain⟨v',rfl⟩: ∃v':Nat,v=(v':Int):=⟨v.toNat,ad⟩
  obtain⟨u',rfl⟩: ∃u':Nat,u=(u':Int):=⟨u.toNat,ad⟩
  refine nh u' v' ad ad ?_
  have es:(f 3-(u':Int))%p=s:=c51 s0 s1 (by rw[h3,a01])
  have ew:(f 2-(u':Int)*s-(v':Int))%p=w:=by
   have:=c51 (x:=f 2) (b:=(v':Int)+(u':Int)*s) w0 w1 (by rw[h2,a01 w])
   rw[<-this]
   congr 1
   lia
  unfold cS5;rw[es,ew];exact⟨h0.symm,by rw[h1,a01]⟩
theorem at0 {a b:D}:atI [a,b] 0=some a:=d5 (j:=0) rfl
theorem at1 {a b:D}:atI [a,b] 1=some b:=d5 (j:=1) rfl
def NoR (p:Int)(F:Nat×(Nat->Int)):Prop:= ∀c:Nat,c<p.toNat->va p F (-(c:Int))≠0
def ltP (x y:(Nat×(Nat->Int))×Nat):Prop:=x.1.1<y.1.1\/(x.1.1=y.1.1/\ltL (rwF (x.1.1+1) x.1.2) (rwF (y.1.1+1) y.1.2)=true)
structure RL (p:Int)(F:Nat×(Nat->Int))(rs:List ((Nat×(Nat->Int))×Nat)):Prop where
 prod: ∀a:Nat×(Nat->Int),MP p a.1 a.2->allT p a rs=tm p a F
 mem: ∀x∈rs,MP p x.1.1 x.1.2/\2<=x.1.1/\x.1.1<=4/\1<=x.2/\x.2<=2/\NoR p x.1/\(x.1.1=4->NoQ p x.1)
 ord:rs.Pairwise ltP
 len:rs.length<=2
theorem bV7 {p:Int}(hp:2<=p){a:Nat×(Nat->Int)}(ha:MP p a.1 a.2):tm p a eW=a:=by
 rw[a18 ha.hi (MP.one hp).hi,bC8 ha]
theorem RL.single {p:Int}{F:Nat×(Nat->Int)}(mp:MP p F.1 F.2)(h2:2<=F.1)(h4:F.1<=4)(nr:NoR p F)(nq:F.1=4->NoQ p F):RL p F [(F,1)]:=
 ⟨λa _=>rfl,λx hx=>by rw[iI.mp hx];exact⟨mp,h2,h4,aF _,show 1<=2 by decide,nr,nq⟩,zA _ _,show 1<=2 by decide⟩
theorem row_lt {v u w s:Int}(h: ¬(v=w/\u=s)):ltL [w,s,1] [v,u,1]=false->ltL [v,u,1] [w,s,1]=true:=by
 unfold ltL
 by_cases c:v=w
 ·rw[a9 c,a9 c.symm];unfold ltL;have:u≠s:=λz=>h ⟨c,z⟩
  rw[a6 this,a6 λz=>this z.symm]
  simp only[aK9,fP]
  lia
 ·rw[a6 c,a6 λz=>c z.symm]
  simp only[aK9,fP]
  lia
def lP:Φ:=λds Q=> ∃(n:Nat) (f:Nat->Int) (p:Int),ds=[aN<|rwF (n+1) f,.int p]/\n<=4/\Pr p/\MP p n f/\NoR p (n,f)/\ ∀rs,RL p (n,f) rs->Q (.ow<|rs.map vV)
def rL:US:=(d6<|eF [] [none,none] 1 (iV<|aS cE4<|aB (aE 2) aL) (cT 0) (λρ Q=>Q true ρ)<|fY<|aB (aE 0)<|aB (uC<|.int 1) aL)
def rM:US:=(aW (iD (eX<|uOp (bJ4 false) (uIx (aZ 2)<|uC<|.int 0)<|uIx (aZ 2)<|uC<|.int 1) (d6<|kF<|aB (fY<|aB (uIx (aZ 2)<|uC<|.int 0)<|aB (uC<|.int 2) aL) aL) fH) rL)
def iE:US:=(aW (iD (eX<|uOp (kG false) (l6<|aZ 2)<|uC<|.int 0) (d6<|kF<|aB (fY<|aB (aE 0)<|aB (uC<|.int 1) aL) aL) fH) rM)
def rN:US:=(aW (cA 2<|uIf (eX<|uOp (kG false) (l6<|aZ 0)<|uC<|.int 5) (aS sE<|aB (aE 0)<|aB (aE 1) aL)<|kF aL) iE)
def lQ:US:=(aW (iD (eX<|uOp (kG false) (l6<|aZ 0)<|uC<|.int 1) (d6<|kF aL) fH) rN)
theorem d54 {p:Int}(pp:Pr p){F:Nat×(Nat->Int)}(mp:MP p F.1 F.2)(h1:F.1=1)(nr:NoR p F):False:=by
 have p2:=pp.lo;have r:=mp.rng 0;refine nr (F.2 0).toNat ad ?_
 unfold va;rw[h1,show(((F.2 0).toNat:Nat):Int)=F.2 0 by lia]
 have t:F.2 1=1:=by have:=mp.top;rw[h1]at this;exact this
 show(0+F.2 0*(-F.2 0)^0+F.2 1*(-F.2 0)^1)%p=0
 rw[t,iQ,qD,iQ];have:0+F.2 0*1+1*(1* -F.2 0)=0:=ad
 rw[this,dC]
theorem aG8: ∀ds Q,lP ds Q->lQ {nx:=λ_=>Q (.pu .non),rt:=Q} (init ["f","p","a"] ds):=by
 rintro ds Q ⟨n,f,p,rfl,n4,pp,mp,nr,h⟩;have p2:=pp.lo;unfold lQ;simp only[aN];show(aW _ _:US) _ [some<|.pu<|.tup<|(rwF (n+1) f).map .int,some<|.pu<|.int p,none];rw[aT];walk_at "u";rw[b9]
 by_cases n0:n=0
 ·rw[a9 ad]
  subst n0;refine⟨ac,h [] ⟨λa ha=> ?_,ae,.nil,ac⟩⟩
  have e:((0,f):Nat×(Nat->Int))=eW:=gJ rfl (funext λj=>by
   show f j=if j=0 then 1 else 0
   by_cases c:j=0
   ·rw[a9 c,c];exact mp.top
   ·rw[a6 c];exact mp.hi j ad)
  rw[e,bV7 p2 ha];rfl
 rw[a6 ad]
 have n1:n≠1:=λz=>d54 pp (F:=(n,f)) mp z nr
 have alone:(n=4->NoQ p (n,f))->iE {nx:=λ_=>Q (.pu .non),rt:=Q} [some<|.pu<|.tup<|(rwF (n+1) f).map .int,some<|.pu<|.int p,some<|.ow []]:=λnq=>by
  unfold iE;rw[aT];walk_at "u";rw[a9<|by rfl]
  exact⟨ac,ac,h [((n,f),1)]<|RL.single mp (by show 2<=n;lia) n4 nr nq⟩
 unfold rN;rw[aT];walk_at "u";simp only[uIf,l6,aZ,b96,uC,isB,B.d,nZ,kG,mS,b9]
 by_cases c:n=4
 ·subst c;rw[a9<|by rfl]
  refine⟨f,p,rfl,pp,mp,λv u w s v0 v1 u0 u1 w0 w1 s0 s1 e=> ?_,λnq=> ?_⟩
  ·have m1:=MP.qu p2 v0 v1 u0 u1;have m2:=MP.qu p2 w0 w1 s0 s1;have k1:NoR p (quF v u):=λc hc=>by have:=nr c hc;rw[e]at this;exact(d53 m2.hi this).1
   have k2:NoR p (quF w s):=λc hc=>by have:=nr c hc;rw[e]at this;exact(d53 m2.hi this).2
   dsimp only;simp only[aN];unfold iE;rw[aT];walk_at "u";rw[a6 ac]
   unfold rM;rw[aT];walk_at "u";rw[at0,at1];dsimp only;refine d42 ?_
   by_cases c:[v,u,(1:Int)]=[w,s,1]
   ·have c1:v=w:=by simp at c;exact c.1
    have c2:u=s:=by simp at c;exact c.2
    subst c1 c2;rw[jE rfl];dsimp only;rw[a9 ac]
    refine⟨ac,ac,h [(quF v u,2)] ⟨λa ha=> ?_,λx hx=> ?_,zA _ _,show 1<=2 by decide⟩⟩
    ·show tm p (tm p a<|quF v u) (quF v u)=tm p a (4,f)
     rw[e,a95 m1.hi]
    ·rw[iI.mp hx];exact⟨m1,aF _,show 2<=4 by decide,show 1<=2 by decide,aF _,k1,λz=>by cases z⟩
   ·rw[fQ c];dsimp only;rw[a6 ac]
    have nc: ¬(v=w/\u=s):=λz=>c (by rw[z.1,z.2])
    unfold rL;rw[i8];have fin2: ∀(v u w s:Int),MP p (quF v u).1 (quF v u).2->MP p (quF w s).1 (quF w s).2->NoR p (quF v u)->NoR p (quF w s)->((4,f):Nat×(Nat->Int))=tm p (quF v u) (quF w s)->ltL [v,u,1] [w,s,1]=true->Q (.ow [.tup [.tup<|[v,u,1].map D.int,.int 1],.tup [.tup<|[w,s,1].map D.int,.int 1]]):=λv u w s m1 m2 k1 k2 e lt=>by
     refine h [(quF v u,1),(quF w s,1)] ⟨λa ha=> ?_,λx hx=> ?_,?_,aF _⟩
     ·show tm p (tm p a<|quF v u) (quF w s)=tm p a (4,f)
      rw[e,a95 m1.hi]
     ·rcases aX.mp hx with rfl|hx
      ·exact⟨m1,aF _,show 2<=4 by decide,aF _,show 1<=2 by decide,k1,λz=>by cases z⟩
      ·rw[iI.mp hx];exact⟨m2,aF _,show 2<=4 by decide,aF _,show 1<=2 by decide,k2,λz=>by cases z⟩
     ·refine jC.mpr ⟨λy hy=> ?_,zA _ _⟩
      rw[iI.mp hy];exact .inr ⟨rfl,lt⟩
    refine eS (t0:=0) 2 (λk=>(if ltL [w,s,1] [v,u,1]=true then [D.tup<|[w,s,1].map D.int,.tup<|[v,u,1].map D.int]else [.tup<|[v,u,1].map D.int,.tup<|[w,s,1].map D.int]).getD k .non) [some<|.pu<|.tup<|(rwF (4+1) f).map .int,some<|.pu<|.int p,some<|.pu<|.lst [.tup<|[v,u,1].map D.int,.tup<|[w,s,1].map D.int]] ?_ ac (λx l'=>[x,some<|.ow l']) none rfl (λ_ _ _=>rfl) (λ_ _=>cV _) (λ_ _ _ q=>q) (λ_ _ _=>rfl)
     (λk=> .tup [(if ltL [w,s,1] [v,u,1]=true then [D.tup<|[w,s,1].map D.int,.tup<|[v,u,1].map D.int]else [.tup<|[v,u,1].map D.int,.tup<|[w,s,1].map D.int]).getD k .non,.int 1]) ?_ ?_
    ·intro Q' q;walk_at "u";refine⟨v,w,[u,1],[s,1],rfl,?_⟩;cases l:ltL [w,s,1] [v,u,1]
     ·rw[l]at q;exact q
     ·rw[l]at q;exact q
    ·intro k l' Q' hk q;walk_at "u";exact⟨ac,q⟩
    ·cases l:ltL [w,s,1] [v,u,1]
     ·exact fin2 v u w s m1 m2 k1 k2 e (row_lt nc l)
     ·exact fin2 w s v u m2 m1 k2 k1 (by rw[e,a18 m1.hi m2.hi]) l
  ·exact alone λ_=>nq
 ·rw[a6 (by simp;lia)]
  refine⟨ac,?_⟩
  exact alone λz=>absurd z c
structure SP (p:Int)(F:Nat×(Nat->Int))(xs:List ((Nat×(Nat->Int))×Nat)):Prop where
 prod:allT p eW xs=F
 mem: ∀x∈xs,MP p x.1.1 x.1.2/\1<=x.1.1/\x.1.1<=4/\1<=x.2/\x.2<=4/\(2<=x.1.1->NoR p x.1)/\(x.1.1=4->NoQ p x.1)
 ord:xs.Pairwise ltP
 len:xs.length<=300
theorem SP.of {p:Int}(pp:Pr p){F L:Nat×(Nat->Int)}{cs:List (Int×Nat)}{rs:List ((Nat×(Nat->Int))×Nat)}(h4:F.1<=4)(lk:LK p F p.toNat cs L)(rl:RL p L rs):SP p F (cs.map lnP++rs):=by
 have p2:=pp.lo;have p3:=pp.hi;have rg: ∀x∈cs,0<=x.1/\x.1<p:=λx hx=>⟨(lk.mem x hx).1,by have:=(lk.mem x hx).2.1;lia⟩
 have mcs:=cL9 p2 rg;have mA:=MP.allT p2 (cs.map lnP) (MP.one p2) mcs;refine⟨by rw[kJ,rl.prod _ mA];exact lk.prod.symm,λx hx=> ?_,?_,?_⟩
 ·rcases bW.mp hx with hx|hx
  ·obtain⟨y,hy,rfl⟩:=dE.mp hx;have hd:=bD0 p (cs.map lnP) eW (lnP y) hx;have e:F.1=(allT p eW<|cs.map lnP).1+L.1:=bQ Prod.fst lk.prod;have hd':0+1*y.2<=(allT p eW<|cs.map lnP).1:=hd;refine⟨mcs _ hx,aF _,show 1<=4 by decide,(lk.mem y hy).2.2,show y.2<=4 by lia,λz=> ?_,λz=> ?_⟩
   ·have:2<=1:=z
    lia
   ·have:1=4:=z
    lia
  ·obtain⟨a,b,c,d,e,f,g⟩:=rl.mem x hx;exact⟨a,ad,c,d,ad,λ_=>f,g⟩
 ·rw[zF];refine⟨?_,rl.ord,λx hx y hy=> ?_⟩
  ·rw[List.pairwise_map];refine lk.asc.imp λ{a b} h=> .inr ⟨rfl,?_⟩
   show ltL [a.1,1] [b.1,1]=true
   unfold ltL;rw[a6 ad,jE h]
  ·obtain⟨z,hz,rfl⟩:=dE.mp hx;have:=(rl.mem y hy).2.1;exact .inl (show 1<y.1.1 by lia)
 ·have a:=lk.len;have b:=rl.len;rw[bO,aK]
  lia
def qX:Φ:=λds Q=> ∃(n:Nat) (g:Nat->Int) (p:Int),ds=[aN<|rwF (n+1) g,.int p]/\n<=4/\p∈prL/\MP p n (md p g)/\ ∀xs,SP p (n,md p g) xs->Q (.ow<|xs.map vV)
def a96:US:=(d6<|uOp iZ (aE 2)<|aS lP<|aB (aE 3)<|aB (aE 1) aL)
def a97:US:=(aW (cC7 (aS uO<|aB (aS iT<|aB (aE 0)<|aB (aE 1) aL)<|aB (aE 1) aL)<|lZ<|cZ 2<|cZ 3 lY) a96)
def wP:US:=(aW (iD (eX<|uOp (gIn true) (aE 1)<|aS jX aL) (λ_ _=>False) fH) a97)
theorem bK0: ∀ds Q,qX ds Q->wP {nx:=λ_=>Q (.pu .non),rt:=Q} (init ["f","p","a","l"] ds):=by
 rintro ds Q ⟨n,g,p,rfl,n4,hp,mp,h⟩;have pp:=a16 hp;have p2:=pp.lo;unfold wP;show(aW _ _:US) _ [some<|.pu<|aN<|rwF (n+1) g,some<|.pu<|.int p,none,none];rw[aT];walk_at "u";refine⟨rfl,p,T_SMALL_PRIMES,rfl,.inr<|.inl rfl,?_⟩;rw[jE (show p∈T_SMALL_PRIMES by rw[<-bV2];exact hp)]
 dsimp only;rw[a6 ac]
 unfold a97;rw[aT];walk_at "u";refine⟨n+1,g,p,rfl,ad,ad,?_⟩
 walk_at "u"
 have e:fA (md p g) (n+1)=n+1:=sZ (aF _) (λm h1 h2=>ad) (.inr (by rw[fN,mp.top];decide))
 rw[e];refine⟨n,md p g,p,rfl,ad,pp,mp,λcs L lk=> ?_⟩
 walk_at "u"
 refine⟨ac,ac,trivial,?_⟩
 unfold a96;rw[i8,aO1];walk_at "u";have hL:L.1<=4:=by
  have e:n=(allT p eW<|cs.map lnP).1+L.1:=bQ Prod.fst lk.prod
  lia
 refine⟨L.1,L.2,p,rfl,hL,pp,lk.mp,lk.nr,λrs rl=> ?_⟩
 have sp:=SP.of pp (F:=(n,md p g)) n4 lk rl;have e2:(cs.map λx=>vV (lnP x))++rs.map vV=(cs.map lnP++rs).map vV:=by rw[cF,eP];rfl
 walk_at "u"
 rw[e2];refine⟨?_,h _ sp⟩;rw[<-bO,e2,aK];exact aM sp.len ac
noncomputable def stB (xs:List ((Nat×(Nat->Int))×Nat)):Bool:=match xs with
 | [x]=>decide (x.2=1)
 | _=>false
theorem bQ1 {p:Int}(hp:2<=p){g a h:Nat×(Nat->Int)}(ma:MP p a.1 a.2)(mh:MP p h.1 h.2): ∀k,powT p (tm p g a) h k=tm p g (powT p a h k)
 | 0=>rfl
 | k+1=>by
  show tm p (powT p (tm p g a) h k) h=tm p g (tm p (powT p a h k) h)
  rw[bQ1 hp ma mh k,a95 (MP.powT hp ma mh k).hi]
theorem yK {p:Int}(hp:2<=p){g:Nat×(Nat->Int)}: ∀(l:List ((Nat×(Nat->Int))×Nat)) {a:Nat×(Nat->Int)},MP p a.1 a.2->(∀x∈l,MP p x.1.1 x.1.2)->allT p (tm p g a) l=tm p g (allT p a l)
 | [],a,_,_=>rfl
 | x::l,a,ma,h=>by
  show allT p (powT p (tm p g a) x.1 x.2) l=tm p g (allT p (powT p a x.1 x.2) l)
  rw[bQ1 hp ma<|h x<|.head _,yK hp l (MP.powT hp ma (h x<|.head _) x.2) λy hy=>h y (.tail _ hy)]
theorem mp_two {p:Int}{F:Nat×(Nat->Int)}(mp:MP p F.1 F.2)(h2:F.1=2):F=quF (F.2 0) (F.2 1):=by
 refine gJ h2 (funext λj=> ?_)
 show F.2 j=if j=0 then F.2 0 else if j=1 then F.2 1 else if j=2 then 1 else 0
 by_cases c0:j=0
 ·rw[a9 c0,c0]
 ·by_cases c1:j=1
  ·rw[a6 c0,a9 c1,c1]
  ·by_cases c2:j=2
   ·rw[a6 c0,a6 c1,a9 c2,c2];have:=mp.top;rw[h2]at this;exact this
   ·rw[a6 c0,a6 c1,a6 c2];exact mp.hi j ad
theorem c52 {js:List Nat}{cap:List (Option Nat)}{last t0 t1:Nat}{ui:UI}{te:UE}{ρ:Ev}{Q:B->Ev->Prop}(n:Nat)(it i1 i2:Nat->D)(hit: ∀i,i<n->it i= .tup [i1 i,i2 i])(ρ1:Ev)(hui: ∀Q:Nat->(Nat->D)->Ev->Prop,Q n it ρ1->ui ρ Q)(hn:n<=1000000)
  (G:Option B->Option B->List D->Ev) (x0 y0:Option B) (h0:pB (wM ρ1 js) cap last=G x0 y0 []) (h1: ∀x y l b c,((G x y l).set t0<|some b).set t1 (some c)=G (some b) (some c) l) (h1': ∀x y l,t0< (G x y l).length/\t1< (G x y l).length)
  (h2: ∀x y l (Q:List D->Prop),Q l->o7 (G x y l) last Q) (h3: ∀x y l l',(G x y l).set last (some<|.ow l')=G x y l')
  (f:Nat->D) (hte: ∀i l (Q':B->Ev->Prop),i<n->Q' (.pu<|f i) (G (some<|.pu<|i1 i) (some<|.pu<|i2 i) l)->te (G (some<|.pu<|i1 i) (some<|.pu<|i2 i) l) Q') (hq:Q (.ow<|(List.range n).map f) (wM ρ1 js)) :
  eF js cap last ui (lZ<|cZ t0<|cZ t1 lY) (λρ Q=>Q true ρ) te ρ Q:=by
 refine hui _ ⟨λi ρ'=> ∃x y,ρ'=G x y ((List.range i).map f),⟨x0,y0,h0⟩,?_,?_⟩
 ·rintro i ρ' hi ⟨x,y,rfl⟩;rw[hit i hi];refine⟨(h1' _ _ _).1,by rw[dS];exact(h1' _ _ _).2,rfl,?_⟩
  rw[h1];dsimp only;rw[a9 rfl];refine hte i _ _ hi (h2 _ _ _ _ ⟨?_,some<|.pu<|i1 i,some<|.pu<|i2 i,?_⟩)
  ·rw[aK,kB];exact b6 hi (aM hn ac)
  ·rw[h3,dP,cF];rfl
 ·rintro ρ' ⟨x,y,rfl⟩;exact h2 _ _ _ _ hq
inductive bD2 (c:Nat->Bool) (R:Nat->D->Prop):Nat->List D->Prop
 | nil:bD2 c R 0 []
 | yes {i:Nat} {l:List D} {d:D} (h:bD2 c R i l) (hc:c i=true) (hd:R i d):bD2 c R (i+1) (l++[d])
 | no {i:Nat} {l:List D} (h:bD2 c R i l) (hc:c i=false):bD2 c R (i+1) l
theorem bD2.fn {c:Nat->Bool}{R:Nat->D->Prop}{n:Nat}{l:List D}(h:bD2 c R n l): ∃g:Nat->D,(∀i,i<n->c i=true->R i (g i))/\l=((List.range n).filter c).map g:=by
 induction h with
 | nil=>exact⟨λ_=> .non,λi hi=>absurd hi (gF _),rfl⟩
 | @yes i l d h hc hd ih=>
  obtain⟨g,g1,g2⟩:=ih;refine⟨λj=>if j=i then d else g j,λj hj cj=> ?_,?_⟩
  ·by_cases e:j=i
   ·show R j (if j=i then d else g j)
    rw[a9 e,e];exact hd
   ·show R j (if j=i then d else g j)
    rw[a6 e];exact g1 j ad cj
  ·rw[dP,zJ,cF,g2]
   congr 1
   ·refine mU λj hj=> ?_
    have:=dU.mp (nA.mp hj).1;rw[a6 ad]
   ·simp[hc]
 | @no i l h hc ih=>
  obtain⟨g,g1,g2⟩:=ih;refine⟨g,λj hj cj=> ?_,?_⟩
  ·by_cases e:j=i
   ·rw[e,hc]at cj;cases cj
   ·exact g1 j ad cj
  ·rw[dP,zJ,cF,g2];simp[hc]
theorem bD2.len {c:Nat->Bool}{R:Nat->D->Prop}{n:Nat}{l:List D}(h:bD2 c R n l):l.length<=n:=by
 induction h with
 | nil=>exact aF _
 | yes h hc hd ih=>rw[bO];exact Nat.succ_le_succ ih
 | no h hc ih=>exact aN1 ih
theorem cS6 {js:List Nat}{cap:List (Option Nat)}{last t0:Nat}{ui:UI}{tt:UT}{te:UE}{ρ:Ev}{Q:B->Ev->Prop}(n:Nat)(it:Nat->D)(ρ1:Ev)(hui: ∀Q:Nat->(Nat->D)->Ev->Prop,Q n it ρ1->ui ρ Q)(hn:n<=1000)
  (G:Option B->List D->Ev) (x0:Option B) (h0:pB (wM ρ1 js) cap last=G x0 []) (h1: ∀x l b,(G x l).set t0 (some b)=G (some b) l) (h1': ∀x l,t0< (G x l).length) (h2: ∀x l (Q:List D->Prop),Q l->o7 (G x l) last Q) (h3: ∀x l l',(G x l).set last (some<|.ow l')=G x l')
  (c:Nat->Bool) (R:Nat->D->Prop) (htt: ∀i l (Q':Bool->Ev->Prop),i<n->Q' (c i) (G (some<|.pu<|it i) l)->tt (G (some<|.pu<|it i) l) Q')
  (hte: ∀i l (Q':B->Ev->Prop),i<n->c i=true->(∀d,R i d->Q' (.pu d) (G (some<|.pu<|it i) l))->te (G (some<|.pu<|it i) l) Q') (hq: ∀l:List D,bD2 c R n l->Q (.ow l) (wM ρ1 js)) :
  eF js cap last ui (cT t0) tt te ρ Q:=by
 refine hui _ ⟨λi ρ'=> ∃x l,bD2 c R i l/\ρ'=G x l,⟨x0,[],.nil,h0⟩,?_,?_⟩
 ·rintro i ρ' hi ⟨x,l,hl,rfl⟩;refine⟨h1' _ _,?_⟩;rw[h1];dsimp only;refine htt i _ _ hi ?_
  by_cases hc:c i=true
  ·rw[a9 hc];refine hte i _ _ hi hc λd hd=>h2 _ _ _ ⟨?_,some<|.pu<|it i,l++[d],.yes hl hc hd,?_⟩
   ·exact mV hl.len (b6 hi<|aM hn ac)
   ·rw[h3];rfl
  ·rw[a6 hc];exact⟨some<|.pu<|it i,l,.no hl<|by simpa using hc,rfl⟩
 ·rintro ρ' ⟨x,l,hl,rfl⟩;exact h2 _ _ _ (hq l hl)
noncomputable def aH8 (n:Nat)(f:Nat->Int)(g:Nat×(Nat->Int)):List Int:=rwF (fA (divL g.2 g.1 (n+1-g.1) f)<|n+1) (divL g.2 g.1 (n+1-g.1) f)
noncomputable def ptD (n:Nat)(f:Nat->Int)(x:(Nat×(Nat->Int))×Nat):D:= .tup [aN<|rwF (x.1.1+1) x.1.2,.int (x.2:Int),aN<|aH8 n f x.1]
def wQ:Φ:=λds Q=> ∃(n:Nat) (f:Nat->Int) (p:Int),ds=[aN<|rwF (n+1) f,.int p]/\n<=4/\p∈prL/\MP p n (md p f)/\(∀j,(f j).natAbs<=2^9)/\ ∀xs,SP p (n,md p f) xs->Q (.ow<|xs.map<|ptD n f)
def wR:US:=(d6<|eF [0] [none,none,some 0,none] 3 (iV<|aS qX<|aB (aE 0)<|aB (aE 1) aL) (lZ<|cZ 0<|cZ 1 lY) (λρ Q=>Q true ρ)<|fY<|aB (aE 0)<|aB (aE 1)<|aB (uIx (uV<|aS eT<|aB (aE 2)<|aB (aE 0) aL)<|uC<|.int 1) aL)
theorem cM0 {p:Int}(pp:Pr p){n:Nat}{f:Nat->Int}(n4:n<=4)(fb: ∀j,(f j).natAbs<=2^9){g:Nat×(Nat->Int)}(mg:MP p g.1 g.2)(g4:g.1<=4):d44 (n+1) g.1 9 8 f g.2:=
 ⟨ad,ad,mg.top,mg.hi,λm _=>fb m,λj=>bV5 pp mg j,ad,ac⟩
theorem bK1: ∀ds Q,wQ ds Q->wR {nx:=λ_=>Q (.pu .non),rt:=Q} (init ["f","p"] ds):=by
 rintro ds Q ⟨n,f,p,rfl,n4,hp,mp,fb,h⟩;have pp:=a16 hp;unfold wR;show(d6 _:US) _ [some<|.pu<|aN<|rwF (n+1) f,some<|.pu<|.int p];rw[i8]
 have key: ∀xs,SP p (n,md p f) xs->eF [0] [none,none,some 0,none] 3 (λρ Q=>Q (xs.map vV).length (λi=>(xs.map vV).getD i .non) ρ) (lZ<|cZ 0<|cZ 1 lY) (λρ Q=>Q true ρ) (fY<|aB (aE 0)<|aB (aE 1)<|aB (uIx (uV<|aS eT<|aB (aE 2)<|aB (aE 0) aL)<|uC<|.int 1) aL) [some<|.pu<|aN<|rwF (n+1) f,some<|.pu<|.int p] λb _=>Q b:=by
  intro xs sp
  refine c52 (t0:=0) (t1:=1) xs.length (λi=>(xs.map vV).getD i .non) (λi=>aN (rwF ((xs.getD i (eW,0)).1.1+1) (xs.getD i (eW,0)).1.2)) (λi=> .int ((xs.getD i (eW,0)).2:Int)) (λi hi=> ?_) [some<|.pu<|aN<|rwF (n+1) f,some<|.pu<|.int p] (λQ' q=> ?_) (aM sp.len ac) (λx y l=>[x,y,some<|.pu<|aN<|rwF (n+1) f,some<|.ow l]) none none rfl (λ_ _ _ _ _=>rfl) (λ_ _ _=>⟨ae,ae⟩) (λ_ _ _ _ q=>q) (λ_ _ _ _=>rfl) (λi=>ptD n f (xs.getD i (eW,0))) ?_ ?_
  ·rw[aJ,bJ,aJ,aO hi];rfl
  ·rw[aK];exact q
  ·intro i l Q' hi q;have hm:xs.getD i (eW,0)∈xs:=by
    rw[aJ,aO hi];exact bV hi
   obtain⟨mx,x1,x4,_⟩:=sp.mem _ hm;generalize xs.getD i (eW,0)=x at *;walk_at "u";refine⟨n+1,x.1.1,9,8,f,x.1.2,rfl,cM0 pp n4 fb mx x4,?_⟩;walk_at "u";rw[at1];exact⟨ac,q⟩
  ·have e:(List.range xs.length).map (λi=>ptD n f (xs.getD i (eW,0)))=xs.map (ptD n f):=by
    apply iL
    ·simp
    ·intro i h1 h2;simp at h1;simp[aJ,h1]
   rw[e];exact h xs sp
 exact⟨n,f,p,rfl,n4,hp,mp,λxs sp=>key xs sp⟩
structure RF (n:Nat)(f:Nat->Int):Prop where
 n1:1<=n
 n4:n<=4
 top:f n=1
 hi: ∀j,n<j->f j=0
 fb: ∀j,(f j).natAbs<=2^9
theorem RF.mp {n:Nat}{f:Nat->Int}(h:RF n f){p:Int}(hp:2<=p):MP p n (md p f):=by
 refine⟨?_,λj hj=> ?_,λj=>⟨bZ _ ad,cE _ ad⟩⟩
 ·show f n%p=1
  rw[h.top];exact eC ac ad
 ·show f j%p=0
  rw[h.hi j hj,dC]
noncomputable def d55 (n:Nat)(f:Nat->Int)(xf:Int->List ((Nat×(Nat->Int))×Nat))(p:Int):D:= .tup [.int p,.lst<|(xf p).map<|ptD n f]
noncomputable def sqB (size p:Int):Bool:=decide (size%(p*p)=0)
noncomputable def cS7 (n:Nat)(f:Nat->Int)(size:Int)(xf:Int->List ((Nat×(Nat->Int))×Nat)):List D:=(prL.filter<|sqB size).map (d55 n f xf)
def SPs (n:Nat)(f:Nat->Int)(size:Int)(xf:Int->List ((Nat×(Nat->Int))×Nat)):Prop:= ∀p∈prL,sqB size p=true->SP p (n,md p f) (xf p)
def oN:Φ:=λds Q=> ∃(n:Nat) (f:Nat->Int) (size:Int),ds=[aN<|rwF (n+1) f,.int size]/\RF n f/\ ∀xf,SPs n f size xf->Q (.ow<|cS7 n f size xf)
def uQ:US:=(d6<|eF [0,1] [none,some 0,some 1,none] 3 (iV<|aS jX aL) (cT 0) (eX<|uOp (kG false) (uOp oE (aE 2)<|uOp iR (aE 0)<|aE 0)<|uC<|.int 0)<|fY<|aB (aE 0)<|aB (aS wQ<|aB (aE 1)<|aB (aE 0) aL) aL)
theorem bD3: ∀ds Q,oN ds Q->uQ {nx:=λ_=>Q (.pu .non),rt:=Q} (init ["f","s"] ds):=by
 rintro ds Q ⟨n,f,size,rfl,rf,h⟩;unfold uQ;show(d6 _:US) _ [some<|.pu<|aN<|rwF (n+1) f,some<|.pu<|.int size];rw[i8];have et: ∀i,i<46->(T_SMALL_PRIMES.map D.int).getD i .non= .int (T_SMALL_PRIMES.getD i 0):=λi hi=>by
  have hi':i<T_SMALL_PRIMES.length:=by rw[bC6];exact hi
  rw[aJ,bJ,aJ,aO hi'];rfl
 have mt: ∀i,i<46->T_SMALL_PRIMES.getD i 0∈prL:=λi hi=>by
  have hi':i<T_SMALL_PRIMES.length:=by rw[bC6];exact hi
  rw[bV2,aJ,aO hi'];exact bV hi'
 refine cS6 (t0:=0) 46 (λi=>(T_SMALL_PRIMES.map D.int).getD i .non) [some<|.pu<|aN<|rwF (n+1) f,some<|.pu<|.int size] (λQ' q=> ?_) ac (λx l=>[x,some<|.pu<|aN<|rwF (n+1) f,some<|.pu<|.int size,some<|.ow l]) none rfl (λ_ _ _=>rfl) (λ_ _=>cV _) (λ_ _ _ q=>q) (λ_ _ _=>rfl)
  (λi=>sqB size (T_SMALL_PRIMES.getD i 0)) (λi d=> ∃xs,SP (T_SMALL_PRIMES.getD i 0) (n,md (T_SMALL_PRIMES.getD i 0) f) xs/\d= .tup [.int<|T_SMALL_PRIMES.getD i 0,.lst<|xs.map<|ptD n f]) ?_ ?_ (λl hl=> ?_)
 ·exact⟨rfl,q⟩
 ·intro i l Q' hi q;obtain⟨p2,p3⟩:=tp_ok _ (bV2▸mt i hi);rw[et i hi]at q⊢;unfold sqB at q;generalize T_SMALL_PRIMES.getD i 0=p at *;have pq:0<p*p:=Int.mul_pos ad ad
  walk_at "u"
  refine⟨cmL ad ad,ad,?_⟩
  rw[dI _ pq];exact q
 ·intro i l Q' hi hc q;have hm:=mt i hi;have pp:=a16 hm;rw[et i hi]at q⊢;generalize T_SMALL_PRIMES.getD i 0=p at *;walk_at "u";refine⟨n,f,p,rfl,rf.n4,hm,rf.mp pp.lo,rf.fb,λxs sp=> ?_⟩
  walk_at "u"
  exact⟨ac,q _ ⟨xs,sp,rfl⟩⟩
 ·obtain⟨g,g1,g2⟩:=hl.fn;have ex: ∀p:Int,∃xs,∀i,i<46->T_SMALL_PRIMES.getD i 0=p->sqB size p=true->SP p (n,md p f) xs/\g i= .tup [.int p,.lst<|xs.map<|ptD n f]:=λp=>by
   by_cases c: ∃i,i<46/\T_SMALL_PRIMES.getD i 0=p/\sqB size p=true
   ·obtain⟨i,hi,e,hc⟩:=c;obtain⟨xs,sp,eg⟩:=g1 i hi (by rw[e];exact hc)
    rw[e]at sp eg;refine⟨xs,λj hj e' _=> ?_⟩
    have:j=i:=by
     have hj':j<T_SMALL_PRIMES.length:=by rw[bC6];exact hj
     have hi':i<T_SMALL_PRIMES.length:=by rw[bC6];exact hi
     rw[aJ,aO hj']at e';rw[aJ,aO hi']at e;have e1:T_SMALL_PRIMES[j]=T_SMALL_PRIMES[i]:=gE (by
      have a1:(some T_SMALL_PRIMES[j]).getD 0=p:=e';have a2:(some T_SMALL_PRIMES[i]).getD 0=p:=e;exact bQ some (a1.trans a2.symm))
     rcases Nat.lt_trichotomy j i with z|z|z
     ·have:=List.pairwise_iff_getElem.mp d46 j i hj' hi' z
      lia
     ·exact z
     ·have:=List.pairwise_iff_getElem.mp d46 i j hi' hj' z
      lia
    rw[this];exact⟨sp,eg⟩
   ·exact⟨[],λi hi e hc=>absurd ⟨i,hi,e,hc⟩ c⟩
  obtain⟨X,hX⟩: ∃X:Int->List ((Nat×(Nat->Int))×Nat),∀p i,i<46->T_SMALL_PRIMES.getD i 0=p->sqB size p=true->SP p (n,md p f) (X p)/\g i= .tup [.int p,.lst<|(X p).map<|ptD n f]:=⟨λp=>(ex p).choose,λp=>(ex p).choose_spec⟩
  have key:=h X (λp hp hs=>by
   rw[bV2]at hp;obtain⟨i,hi,e⟩:=zI hp;have hi':i<46:=by rw[<-bC6];exact hi
   refine(hX p i hi' ?_ hs).1
   rw[aJ,aO hi];exact e)
  have el:l=cS7 n f size X:=by
   have e0:prL=(List.range 46).map λi=>T_SMALL_PRIMES.getD i 0:=af
   have e1:prL.filter (sqB size)=((List.range 46).filter λi=>sqB size (T_SMALL_PRIMES.getD i 0)).map λi=>T_SMALL_PRIMES.getD i 0:=by
    rw[e0,List.filter_map];rfl
   rw[g2];unfold cS7;rw[e1,eP];refine mU λi hi=> ?_
   obtain⟨h1,h2⟩:=nA.mp hi;exact(hX (T_SMALL_PRIMES.getD i 0) i (dU.mp h1) rfl h2).2
  rw[el];exact key
theorem cS8 {p:Int}(hp:2<=p){F:Nat×(Nat->Int)}{xs:List ((Nat×(Nat->Int))×Nat)}(sp:SP p F xs){x:(Nat×(Nat->Int))×Nat}(hx:x∈xs)(h2:2<=x.2): ∃R:Nat×(Nat->Int),MP p R.1 R.2/\F=tm p (tm p x.1 x.1) R:=by
 obtain⟨l,m,rfl⟩:=List.append_of_mem hx;obtain⟨k,hk⟩: ∃k,x.2=k+2:=⟨x.2-2,aa⟩
 have mx:=(sp.mem x hx).1;have ml: ∀y∈l,MP p y.1.1 y.1.2:=λy hy=>(sp.mem y<|k8 _ hy).1
 have mm: ∀y∈m,MP p y.1.1 y.1.2:=λy hy=>(sp.mem y<|d7 _<|.tail _ hy).1
 have mA:=MP.allT hp l (MP.one hp) ml;have mP:=MP.powT hp mA mx k;have mxx:=MP.tm hp mx mx;refine⟨allT p (powT p (allT p eW l) x.1 k) m,MP.allT hp m mP mm,?_⟩;rw[<-sp.prod,kJ];show allT p (powT p (allT p eW l) x.1 x.2) m=_;rw[hk];show allT p (tm p (tm p (powT p (allT p eW l) x.1 k) x.1) x.1) m=_;rw[<-a95 mx.hi,a18 mP.hi mxx.hi,yK hp m mP mm]
structure dH3 (n:Nat)(f:Nat->Int)(size p:Int)(g:Nat×(Nat->Int)):Prop where
 pr:p∈prL
 sq:size%(p*p)=0
 mg:MP p g.1 g.2
 g1:1<=g.1
 g4:g.1<=4
 tw: ∃R:Nat×(Nat->Int),MP p R.1 R.2/\(n,md p f)=tm p (tm p g g) R
 all: ∀c∈aH8 n f g,c%(p*p)=0
noncomputable def dH4 (n:Nat)(f:Nat->Int)(g:Nat×(Nat->Int)):List Int:=rwF (fA (divQ g.2 g.1 (n+1-g.1) f)<|n+1-g.1) (divQ g.2 g.1 (n+1-g.1) f)
def bV8 (n:Nat)(f:Nat->Int)(p:Int)(xs:List ((Nat×(Nat->Int))×Nat)):Prop:= ∀x∈xs,2<=x.2-> ∃c∈aH8 n f x.1,c%(p*p)≠0
def sG:Φ:=λds Q=> ∃(n:Nat) (f:Nat->Int) (size:Int) (xf:Int->List ((Nat×(Nat->Int))×Nat)),ds=[aN<|rwF (n+1) f,.lst<|cS7 n f size xf]/\RF n f/\SPs n f size xf/\((∀p∈prL,sqB size p=true->bV8 n f p (xf p))->Q (.pu .non))/\ ∀p g,dH3 n f size p g->(¬ ∀p∈prL,sqB size p=true->bV8 n f p (xf p))->Q (.pu<|.tup [.int p,aN<|dH4 n f g])
def aY6:US:=(d6<|uC .non)
def sH:US:=(aW (kY (iV<|aE 1) (lZ<|cZ 2<|cZ 3 lY)<|kY (iV<|aE 3) (lZ<|cZ 4<|cZ 5<|cZ 6 lY)<|iD (cQ0 (eX<|uOp (vK λi j=>decide (j<=i)) (aE 5)<|uC<|.int 2)<|eX<|aS cD4<|aB (eF [2] [none,some 2,none] 2 (iV<|aE 6) (cT 0) (λρ Q=>Q true ρ)<|uOp (kG false) (uOp oE (aE 0)<|uOp iR (aE 1)<|aE 1)<|uC<|.int 0) aL) (d6<|fY<|aB (aE 2)<|aB (uIx (uV<|aS eT<|aB (aE 0)<|aB (aE 4) aL)<|uC<|.int 0) aL) fH) aY6)
theorem b55: ∀ds Q,sG ds Q->sH {nx:=λ_=>Q (.pu .non),rt:=Q} (init ["f","r","p","a","g","o","c"] ds):=by
 rintro ds Q ⟨n,f,size,xf,rfl,rf,hP,h0,h1⟩;have hm0: ∀p∈prL.filter (sqB size),p∈prL/\sqB size p=true:=λp hp=>nA.mp hp
 have hm1: ∀p,p∈prL->sqB size p=true->p∈prL.filter (sqB size):=λp h1 h2=>nA.mpr ⟨h1,h2⟩
 unfold cS7;generalize prL.filter (sqB size)=ps' at *;generalize el:ps'.map (d55 n f xf)=l at *;have ll:l.length=ps'.length:=by rw[<-el,aK]
 unfold sH;show(aW _ _:US) _ [some<|.pu<|aN<|rwF (n+1) f,some<|.pu<|.lst l,none,none,none,none,none];rw[aT];refine cC l.length (λi=>l.getD i .non) [some<|.pu<|aN<|rwF (n+1) f,some<|.pu<|.lst l,none,none,none,none,none] (λQ' q=>q)
  (λi ρ=>(∃a b c d e,ρ=[some<|.pu<|aN<|rwF (n+1) f,some<|.pu<|.lst l,a,b,c,d,e])/\ ∀j,j<i->bV8 n f (ps'.getD j 0) (xf<|ps'.getD j 0)) ⟨⟨none,none,none,none,none,rfl⟩,λj hj=>absurd hj (gF _)⟩ ?_ ?_
 ·rintro i ρ hi ⟨⟨a,b,c,d,e,rfl⟩,fi⟩;have hi':i<ps'.length:=by rw[<-ll];exact hi
  have e1:l.getD i .non=d55 n f xf (ps'.getD i 0):=by
   rw[<-el,aJ,bJ,aJ,aO hi'];rfl
  have hmp:ps'.getD i 0∈ps':=by
   rw[aJ,aO hi'];exact bV hi'
  obtain⟨hp,hs0⟩:=hm0 _ hmp;have sp:=hP _ hp hs0;have hs:size%(ps'.getD i 0*ps'.getD i 0)=0:=pW hs0;have go:bV8 n f (ps'.getD i 0) (xf<|ps'.getD i 0)-> ∀j,j<i+1->bV8 n f (ps'.getD j 0) (xf<|ps'.getD j 0):=λz j hj=>by
   by_cases c:j=i
   ·rw[c];exact z
   ·exact fi j ad
  rw[e1];unfold d55;generalize ps'.getD i 0=p at *;generalize exs:xf p=xs at *;have pp:=a16 hp;refine⟨ae,ae,rfl,?_⟩
  show(kY _ _ _:US) _ [some<|.pu<|aN<|rwF (n+1) f,some<|.pu<|.lst l,some<|.pu<|.int p,some<|.pu<|.lst<|xs.map<|ptD n f,c,d,e]
  refine cC xs.length (λi=>(xs.map<|ptD n f).getD i .non) [some<|.pu<|aN<|rwF (n+1) f,some<|.pu<|.lst l,some<|.pu<|.int p,some<|.pu<|.lst<|xs.map<|ptD n f,c,d,e] (λQ' q=> ?_)
   (λj ρ=>(∃c d e,ρ=[some<|.pu<|aN<|rwF (n+1) f,some<|.pu<|.lst l,some<|.pu<|.int p,some<|.pu<|.lst<|xs.map<|ptD n f,c,d,e])/\bV8 n f p (xs.take j)) ⟨⟨c,d,e,rfl⟩,λx hx=>by simp at hx⟩ ?_ ?_
  ·walk_at "u"
   rw[aK];exact q
  ·rintro j ρ hj ⟨⟨c,d,e,rfl⟩,fj⟩;have nf:(2<=xs[j].2-> ∃c∈aH8 n f xs[j].1,c%(p*p)≠0)->bV8 n f p (xs.take<|j+1):=λz x hx=>by
    rw[List.take_succ,aO hj]at hx;rcases bW.mp hx with hx|hx
    ·exact fj x hx
    ·have:x=xs[j]:=by simpa using hx
     rw[this];exact z
   have hx:xs[j]∈xs:=bV hj;have e2:(xs.map<|ptD n f).getD j .non=ptD n f xs[j]:=by
    rw[aJ,bJ,aO hj];rfl
   rw[e2];obtain⟨mx,x1,x4,_⟩:=sp.mem _ hx;have tw:2<=xs[j].2->_:=λh2=>cS8 pp.lo sp hx h2
   generalize xs[j]=x at *;refine⟨ae,ae,ae,rfl,?_⟩
   show(iD _ _ _:US) _ [some<|.pu<|aN<|rwF (n+1) f,some<|.pu<|.lst l,some<|.pu<|.int p,some<|.pu<|.lst<|xs.map<|ptD n f,some<|.pu<|aN<|rwF (x.1.1+1) x.1.2,some<|.pu<|.int (x.2:Int),some<|.pu<|aN<|aH8 n f x.1]
   simp only[aN];walk_at "u"
   by_cases c2:(2:Int)<=(x.2:Int)
   ·rw[a9 c2];have p2:=pp.lo;have p3:=pp.hi;have pq:0<p*p:=Int.mul_pos ad ad
    generalize hr:aH8 n f x.1=r at *;have rl:r.length<=1000:=by
     rw[<-hr];unfold aH8;rw[mJ];have:=sY (divL x.1.2 x.1.1 (n+1-x.1.1) f) (n+1);have:=rf.n4
     lia
    refine eS (t0:=0) r.length (λk=>(r.map D.int).getD k .non) [some<|.pu<|.tup<|(rwF (n+1) f).map .int,some<|.pu<|.lst l,some<|.pu<|.int p,some<|.pu<|.lst<|xs.map<|ptD n f,some<|.pu<|.tup<|(rwF (x.1.1+1) x.1.2).map .int,some<|.pu<|.int (x.2:Int),some<|.pu<|.tup<|r.map .int] (λQ' q=> ?_) ad (λx l'=>[x,some<|.pu<|.int p,some<|.ow l']) none rfl (λ_ _ _=>rfl) (λ_ _=>cV _) (λ_ _ _ q=>q) (λ_ _ _=>rfl) (λk=> .bl (decide (r.getD k 0%(p*p)=0))) ?_ ?_
    ·walk_at "u"
     rw[aK];exact q
    ·intro k l' Q' hk q;have e3:(r.map D.int).getD k .non= .int (r.getD k 0):=by
      rw[aJ,bJ,aJ,aO hk];rfl
     rw[e3]at q⊢;walk_at "u";refine⟨cmL ad ad,ad,?_⟩
     rw[dI _ pq];exact q
    ·have e4:(List.range r.length).map (λk=>D.bl (decide (r.getD k 0%(p*p)=0)))=((List.range r.length).map λk=>decide (r.getD k 0%(p*p)=0)).map D.bl:=by rw[eP];rfl
     rw[e4];dsimp only;rw[aN9];dsimp only
     by_cases c3:(((List.range r.length).map λk=>decide (r.getD k 0%(p*p)=0)).all id)=true
     ·rw[a9 c3];walk_at "u";refine⟨n+1,x.1.1,9,8,f,x.1.2,rfl,cM0 pp rf.n4 rf.fb mx x4,?_⟩;walk_at "u";rw[at0];have al: ∀c∈aH8 n f x.1,c%(p*p)=0:=λc hc=>by
       rw[hr]at hc;obtain⟨k,hk,rfl⟩:=List.mem_iff_getElem.mp hc;rw[dO]at c3;have:=c3 (decide (r.getD k 0%(p*p)=0)) (dE.mpr ⟨k,dU.mpr hk,rfl⟩);have:=pW (show decide (r.getD k 0%(p*p)=0)=true from this)
       rw[aJ,aO hk]at this;exact this
      refine⟨ac,h1 p x.1 ⟨hp,hs,mx,x1,x4,tw ad,al⟩ λall=> ?_⟩
      have:=all p hp hs0;rw[exs]at this;obtain⟨c,hc,ne⟩:=this x hx ad
      exact ne (al c hc)
     ·rw[a6 c3];refine⟨⟨_,_,_,rfl⟩,nf λ_=> ?_⟩
      refine Classical.byContradiction λno=>c3 ?_
      rw[dO];intro z hz;obtain⟨k,hk,rfl⟩:=dE.mp hz;have hk':=dU.mp hk;refine jE (Classical.byContradiction λne=>no ⟨r.getD k 0,?_,ne⟩)
      rw[aJ,aO hk'];exact bV hk'
   ·rw[a6 c2];exact⟨⟨_,_,_,rfl⟩,nf λz=>absurd z ad⟩
  ·rintro ρ ⟨⟨c,d,e,rfl⟩,fj⟩;rw[zB<|aF _]at fj;exact⟨⟨_,_,_,_,_,rfl⟩,go fj⟩
 ·rintro ρ ⟨⟨a,b,c,d,e,rfl⟩,fi⟩;refine h0 λp hp hs=> ?_
  obtain⟨j,hj,e⟩:=zI (hm1 p hp hs);have:=fi j (by rw[ll];exact hj)
  rw[aJ,aO hj]at this;rw[<-e];exact this
theorem amgm {g q b m:Int}(h1:g+(q+1)<=2*(b+1))(hg:0<=g)(hq:0<=q)(h2:m<g*(q+1)):m< (b+1)*(b+1):=by
 have a1:0<=(g-(q+1))*(g-(q+1)):=by
  rcases le_total 0 (g-(q+1))with h|h
  ·exact qA h h
  ·exact Int.mul_nonneg_of_nonpos_of_nonpos h h
 have a2:(g+(q+1))*(g+(q+1))<=(2*(b+1))*(2*(b+1)):=zV h1 h1 ad ad
 grind
theorem cF9 {g m:Int}(hg:1<=g)(h:g<=(g+m/g)/2):g*g<=m:=by
 have h1:g<=m/g:=ad
 have h2:g*(m/g)<=m:=by
  have:=iH m g;have:=bZ m (show g≠0 by lia)
  lia
 exact Int.le_trans (gW h1 ad) h2
theorem c53 {g m:Int}(hg:1<=g)(hm:0<=m):m< ((g+m/g)/2+1)*((g+m/g)/2+1):=by
 have e:=iH m g;have l:=cE m (show 0<g by lia)
 have q0:0<=m/g:=Int.ediv_nonneg hm ad
 refine amgm (g:=g) (q:=m/g) ad ad q0 ?_
 rw[u6,jF]
 lia
def aY7:Φ:=λds Q=> ∃m:Int,ds=[.int m]/\0<=m/\Sm m/\ ∀r:Int,0<=r->r*r<=m->m< (r+1)*(r+1)->Q (.pu<|.int r)
def aY8:US:=(aW (cA 1<|aE 0)<|aW (cA 2<|uOp aN8 (uOp iZ (aE 0)<|uC<|.int 1)<|uC<|.int 2)<|aW (aW8 (eX<|uOp (vK λi j=>decide (i<j)) (aE 2)<|aE 1)<|aW (cA 1<|aE 2)<|cA 2<|uOp aN8 (uOp iZ (aE 1)<|uOp aN8 (aE 0)<|aE 1)<|uC<|.int 2)<|rE 1)
theorem Sm.le {i m:Int}(h:Sm m)(h0:0<=i)(h1:i<=m):Sm i:=by
 unfold Sm at h⊢;exact mV ad h
theorem cS9: ∀ds Q,aY7 ds Q->aY8 {nx:=λ_=>Q (.pu .non),rt:=Q} (init ["m","g","b"] ds):=by
 rintro ds Q ⟨m,rfl,m0,ms,h⟩;unfold aY8;show(aW _ _:US) _ [some<|.pu<|.int m,none,none];walk_at "u";rw[kH _ ac]
 refine⟨⟨ac,bJ8 ac ac⟩,?_⟩
 refine⟨λn ρ=> ∃g b:Int,ρ=[some<|.pu<|.int m,some<|.pu<|.int g,some<|.pu<|.int b]/\n=g.toNat/\0<=g/\g<=m/\m< (g+1)*(g+1)/\((m=0/\b=0)\/(1<=g/\b=(g+m/g)/2)),⟨_,m,(m+1)/2,rfl,rfl,m0,Int.le_refl _,?_,?_⟩,?_⟩
 ·have:m*1<=m*m+m:=by
   rcases le_total m 0 with z|z
   ·have:m=0:=ad
    subst this;decide
   ·have:=qA z z
    lia
  grind
 ·by_cases z:m=0
  ·subst z;exact .inl ⟨rfl,rfl⟩
  ·right
   rw[Int.ediv_self z];exact⟨ad,rfl⟩
 ·rintro n ρ ⟨g,b,rfl,rfl,g0,gm,hg,hb⟩;walk_at "u";split
  ·rename_i hlt
   rcases hb with⟨rfl,rfl⟩| ⟨g1,rfl⟩
   ·lia
   ·have b1:1<=(g+m/g)/2:=by
     have:1<=m/g:=Int.le_ediv_of_mul_le ad ad
     lia
    rw[kH _<|show 0< (g+m/g)/2 by lia,kH _ ac]
    refine⟨⟨ad,ms.le ad ad⟩,⟨ac,bJ8 ac ac⟩,_,?_,_,_,rfl,rfl,ad,ad,c53 g1 m0,.inr ⟨b1,rfl⟩⟩
    lia
  ·rename_i hge
   refine h g g0 ?_ hg
   rcases hb with⟨rfl,rfl⟩| ⟨g1,rfl⟩
   ·have:g=0:=ad
    subst this;decide
   ·exact cF9 g1 ad
noncomputable def ev (p:List Int)(z:Int):Int:=ps (λj=>p.getD j 0) z p.length
theorem ev2 (a b z:Int):ev [a,b,1] z=a+b*z+z*z:=by simp[ev,ps];grind
theorem ev3 (a b c z:Int):ev [a,b,c,1] z=a+b*z+c*(z*z)+z*z*z:=by simp[ev,ps];grind
theorem ev4 (a b c d z:Int):ev [a,b,c,d,1] z=a+b*z+c*(z*z)+d*(z*z*z)+z*z*z*z:=by simp[ev,ps];grind
noncomputable def qq (v u w s:Int):List Int:=[v*w,u*w+v*s,v+w+u*s,u+s,1]
def Red (p:List Int):Prop:=(∃z,ev p z=0)\/ ∃v u w s,p=qq v u w s
structure Fac (p l r:List Int):Prop where
 l2:2<=l.length
 r2:2<=r.length
 l4:l.length<=4
 r4:r.length<=4
 l1:l.getD (l.length-1) 0=1
 r1:r.getD (r.length-1) 0=1
 pr:rwF (l.length+r.length-1) (conv (λj=>l.getD j 0) (λj=>r.getD j 0) l.length)=p
 bl: ∀x∈l,x.natAbs<=2^40
 br: ∀x∈r,x.natAbs<=2^40
theorem dM.cs {p:List Int}(h:dM p):(∃a b,p=[a,b,1])\/(∃a b c,p=[a,b,c,1])\/ ∃a b c d,p=[a,b,c,d,1]:=by
 obtain⟨q,rfl⟩:=h.one;have lo:=h.ok.lo;have hi:=h.ok.hi;rw[bO,aL6]at lo hi
 match q,lo,hi with
 | [a,b],_,_=>exact .inl ⟨a,b,rfl⟩
 | [a,b,c],_,_=>exact .inr (.inl ⟨a,b,c,rfl⟩)
 | [a,b,c,d],_,_=>exact .inr (.inr ⟨a,b,c,d,rfl⟩)
 | [],h,_=>simp at h
 | [_],h,_=>simp at h
 | _::_::_::_::_::_,_,h=>simp at h
theorem d56 {p:List Int}(h:dM p){z:Int}(hz:ev p z=0):z∣p.getD 0 0:=by
 rcases h.cs with⟨a,b,rfl⟩| ⟨a,b,c,rfl⟩| ⟨a,b,c,d,rfl⟩
 ·rw[ev2]at hz;exact⟨-(b+z),by show a=_;grind⟩
 ·rw[ev3]at hz;exact⟨-(b+c*z+z*z),by show a=_;grind⟩
 ·rw[ev4]at hz;exact⟨-(b+c*z+d*(z*z)+z*z*z),by show a=_;grind⟩
theorem cM1 {p:List Int}(h:dM p):ev p 0=p.getD 0 0:=by
 rcases h.cs with⟨a,b,rfl⟩| ⟨a,b,c,rfl⟩| ⟨a,b,c,d,rfl⟩
 ·rw[ev2];simp
 ·rw[ev3];simp
 ·rw[ev4];simp
noncomputable def vO (z:Int):Nat->Int:=λj=>[-z,1].getD j 0
theorem gQ {a b:Int}{m n:Nat}(h1:a.natAbs<=m)(h2:b.natAbs<=n):(a*b).natAbs<=m*n:=by rw[eO];exact fS h1 h2
set_option maxHeartbeats 2000000 in
theorem quo {p:List Int}(h:dM p){z:Int}(hz:ev p z=0)(z9:z.natAbs<=499): ∃r:List Int,r.length+1=p.length/\2<=r.length/\r.getD (r.length-1) 0=1/\p=rwF p.length (λm=>conv (λj=>r.getD j 0) (vO z) r.length m+0)/\(∀x∈r,x.natAbs<=2^40)/\Fac p [-z,1] r:=by
 have sm:=h.ok.small;have n1:(-z).natAbs<=2^40:=by rw[zU];exact aM z9 ac
 have k1:(1:Int).natAbs<=2^40:=ac
 rcases h.cs with⟨a,b,rfl⟩| ⟨a,b,c,rfl⟩| ⟨a,b,c,d,rfl⟩
 ·rw[ev2]at hz;simp only[dZ]at sm;have bd: ∀x∈[b+z,1],x.natAbs<=2^40:=by
   simp only[dZ];refine⟨?_,k1,ae⟩
   have:(2:Nat)^40=1099511627776:=ac
   omega
  refine⟨[b+z,1],rfl,ae,rfl,?_,bd,⟨ae,ae,ae,ae,rfl,rfl,?_,by simp only[dZ];exact⟨n1,k1,ae⟩,bd⟩⟩
  ·simp[rwF,conv,shF,vO,dP]
   grind
  ·simp[rwF,conv,shF,dP]
   grind
 ·rw[ev3]at hz;simp only[dZ]at sm;have m1:(z*z).natAbs<=499*499:=gQ z9 z9;have m2:(c*z).natAbs<=499*499:=gQ sm.2.2.1 z9;have bd: ∀x∈[b+c*z+z*z,c+z,1],x.natAbs<=2^40:=by
   simp only[dZ];have:(2:Nat)^40=1099511627776:=ac
   refine⟨?_,?_,k1,ae⟩
   ·omega
   ·omega
  refine⟨[b+c*z+z*z,c+z,1],rfl,ae,rfl,?_,bd,⟨ae,ae,ae,ae,rfl,rfl,?_,by simp only[dZ];exact⟨n1,k1,ae⟩,bd⟩⟩
  ·simp[rwF,conv,shF,vO,dP]
   grind
  ·simp[rwF,conv,shF,dP]
   grind
 ·rw[ev4]at hz;simp only[dZ]at sm;have m1:(z*z).natAbs<=499*499:=gQ z9 z9;have m2:(c*z).natAbs<=499*499:=gQ sm.2.2.1 z9;have m3:(d*(z*z)).natAbs<=499*(499*499):=gQ sm.2.2.2.1 m1;have m4:(z*z*z).natAbs<=499*499*499:=gQ m1 z9;have m5:(d*z).natAbs<=499*499:=gQ sm.2.2.2.1 z9;have bd: ∀x∈[b+c*z+d*(z*z)+z*z*z,c+d*z+z*z,d+z,1],x.natAbs<=2^40:=by
   simp only[dZ];have:(2:Nat)^40=1099511627776:=ac
   refine⟨?_,?_,?_,k1,ae⟩
   ·omega
   ·omega
   ·omega
  refine⟨[b+c*z+d*(z*z)+z*z*z,c+d*z+z*z,d+z,1],rfl,ae,rfl,?_,bd,⟨ae,ae,ae,ae,rfl,rfl,?_,by simp only[dZ];exact⟨n1,k1,ae⟩,bd⟩⟩
  ·simp[rwF,conv,shF,vO,dP]
   grind
  ·simp[rwF,conv,shF,dP]
   grind
theorem fac_qq {v u w s:Int}(h: ∀x∈[v,u,w,s],x.natAbs<=2^40):Fac (qq v u w s) [v,u,1] [w,s,1]:=by
 simp only[dZ]at h;have k1:(1:Int).natAbs<=2^40:=ac
 refine⟨ae,ae,ae,ae,rfl,rfl,?_,?_,?_⟩
 ·simp[rwF,conv,shF,qq,dP]
  grind
 ·simp only[dZ];exact⟨h.1,h.2.1,k1,ae⟩
 ·simp only[dZ];exact⟨h.2.2.1,h.2.2.2.1,k1,ae⟩
def qY:Φ:=λds Q=> ∃m:Int,ds=[.int m]/\m.natAbs<=499/\ ∀l:List Int,l.length<=1000->(m=0->l=[0])->(m≠0-> ∀x,x∈l↔x∣m)->(∀x∈l,x.natAbs<=499)->Q (.ow<|l.map .int)
def a98:US:=(aW (cA 1<|kF aL)<|aW (kY (a78<|aB (uC<|.int 1)<|aB (uOp iZ (aS bS9<|aB (aE 0) aL)<|uC<|.int 1) aL) (cT 2)<|iD (eX<|uOp (kG false) (uOp oE (aE 0)<|aE 2)<|uC<|.int 0) (aW (aR5 1<|aE 2)<|aR5 1<|rF<|aE 2) fH)<|rE 1)
def wS:US:=(aW (iD (eX<|uOp (kG false) (aE 0)<|uC<|.int 0) (d6<|kF<|aB (uC<|.int 0) aL) fH) a98)
theorem aH9 {x m:Int}(h:x∣m)(hm:m≠0):x.natAbs<=m.natAbs/\1<=x.natAbs:=by
 have h1:=Int.natAbs_dvd_natAbs.mpr h;refine⟨Nat.le_of_dvd ad h1,?_⟩
 rcases Nat.eq_zero_or_pos x.natAbs with z|z
 ·rw[z]at h1;have:=Nat.zero_dvd.mp h1
  lia
 ·exact z
theorem bK2: ∀ds Q,qY ds Q->wS {nx:=λ_=>Q (.pu .non),rt:=Q} (init ["m","f","d"] ds):=by
 rintro ds Q ⟨m,rfl,m9,h⟩;unfold wS;show(aW _ _:US) _ [some<|.pu<|.int m,none,none];rw[aT];walk_at "u"
 by_cases m0:m=0
 ·rw[a9 m0];exact⟨ac,h [0] ae (λ_=>rfl) (λz=>absurd m0 z) ae⟩
 rw[a6 m0];unfold a98;rw[aT];walk_at "u";refine⟨ac,?_⟩
 refine cC m.natAbs (λk=> .int (1+k)) [some<|.pu<|.int m,some<|.ow [],none] ?_
  (λi ρ=> ∃(l:List Int) (z:Option B),ρ=[some<|.pu<|.int m,some<|.ow<|l.map .int,z]/\l.length<=2*i/\ ∀x,x∈l↔(x∣m/\1<=x.natAbs/\x.natAbs<=i)) ⟨[],none,rfl,ae,λx=> ?_⟩ ?_ ?_
 ·intro Q' q;walk_at "u";have e:(if m<0 then -m else m)=(m.natAbs:Int):=by split<;>lia
  rw[e];refine⟨ad,?_⟩
  rw[show((m.natAbs:Int)+1-1).toNat=m.natAbs by lia]
  exact q
 ·simp;lia
 ·rintro i ρ hi ⟨l,z,rfl,ll,hl⟩;walk_at "u";refine⟨ae,ad,?_⟩
  rw[dI _<|show(0:Int)<1+(i:Int)by lia]
  split
  ·rename_i hd
   have dv:(1+(i:Int))∣m:=mT hd;refine⟨?_,?_,l++[1+(i:Int),-(1+(i:Int))],some<|.pu<|.int<|1+(i:Int),?_,?_,λx=> ?_⟩
   ·rw[aK];exact b6 (show _<2000 by lia) ac
   ·rw[bO,aK];exact b6 (show _<2000 by simp;lia) ac
   ·rw[cF];simp
   ·rw[bO];simp;lia
   ·rw[bW,hl];constructor
    ·rintro(⟨h1,h2,h3⟩|hx)
     ·exact⟨h1,h2,ad⟩
     ·simp at hx
      rcases hx with rfl|rfl
      ·exact⟨dv,ad,ad⟩
      ·exact⟨by first|exact Int.neg_dvd.mpr dv| (rw[show -1+ -(i:Int)= -(1+(i:Int))by lia];exact Int.neg_dvd.mpr dv),ad,ad⟩
    ·rintro⟨h1,h2,h3⟩
     by_cases c:x.natAbs<=i
     ·exact .inl ⟨h1,h2,c⟩
     ·refine .inr ?_
      simp
      lia
  ·rename_i hd
   have dv: ¬(1+(i:Int))∣m:=λz=>hd (aL0 z)
   refine⟨l,_,rfl,ad,λx=> ?_⟩
   rw[hl];constructor
   ·rintro⟨h1,h2,h3⟩;exact⟨h1,h2,ad⟩
   ·rintro⟨h1,h2,h3⟩;refine⟨h1,h2,?_⟩
    by_cases c:x.natAbs<=i
    ·exact c
    ·exfalso
     have:x=1+(i:Int)\/x= -(1+(i:Int)):=ad
     rcases this with rfl|rfl
     ·exact dv h1
     ·exact dv (Int.neg_dvd.mp h1)
 ·rintro ρ ⟨l,z,rfl,ll,hl⟩;walk_at "u";refine h l ad (λz=>absurd z m0) (λ_ x=> ?_) λx hx=> ?_
  ·rw[hl];exact⟨λq=>q.1,λq=>⟨q,(aH9 q m0).2,(aH9 q m0).1⟩⟩
  ·have:=(hl x).mp hx
   lia
def nQ:Φ:=λds Q=> ∃p:List Int,ds=[aN p]/\dM p/\((∀z,ev p z≠0)->Q (.pu .non))/\ ∀l r,Fac p l r->Red p->Q (.pu<|.tup [aN l,aN r])
def sP:US:=(d6<|uC .non)
def nR:US:=(aW (kY (iV<|aS qY<|aB (uIx (aZ 0)<|uC<|.int 0) aL) (cT 1)<|iD (eX<|uOp (kG false) (aS t7<|aB (aE 0)<|aB (aE 1) aL)<|uC<|.int 0) (aW (cA 2<|fY<|aB (rF<|aE 1)<|aB (uC<|.int 1) aL)<|d6<|fY<|aB (aE 2)<|aB (uIx (uV<|aS eT<|aB (aE 0)<|aB (aE 2) aL)<|uC<|.int 0) aL) fH) sP)
theorem b28 (p:List Int)(j:Nat)(h:p.length<=j):p.getD j 0=0:=by rw[aJ,eM h];rfl
theorem aO2: ∀ds Q,nQ ds Q->nR {nx:=λ_=>Q (.pu .non),rt:=Q} (init ["p","z","l"] ds):=by
 rintro ds Q ⟨p,rfl,hp,hn,hy⟩;have hlo:=hp.ok.lo;have hhi:=hp.ok.hi;unfold nR;show(aW _ _:US) _ [some<|.pu<|.tup<|p.map .int,none,none];rw[aT];have p0:(p.getD 0 0).natAbs<=499:=fW hp.ok.small 0;have key: ∀l:List Int,(p.getD 0 0=0->l=[0])->(p.getD 0 0≠0-> ∀x,x∈l↔x∣p.getD 0 0)->(∀x∈l,ev p x≠0)-> ∀z,ev p z≠0:=λl l0 l1 hl z hz=>by
  by_cases c:p.getD 0 0=0
  ·have:=hl 0 (by rw[l0 c];simp)
   rw[cM1 hp]at this;exact this c
  ·exact hl z ((l1 c z).mpr<|d56 hp hz) hz
 unfold kY;simp only[iV];walk_at "u";rw[a91 ad]
 refine⟨p.getD 0 0,rfl,p0,λl l9 l0 l1 lb=> ?_⟩
 dsimp only;rw[aK];refine⟨λi ρ=> ∃z1 z2,ρ=[some<|.pu<|.tup<|p.map .int,z1,z2]/\ ∀k,k<i->ev p (l.getD k 0)≠0,⟨none,none,rfl,λk hk=>ad⟩,?_,?_⟩
 ·rintro i ρ hi ⟨z1,z2,rfl,hk⟩;have e3:(l.map D.int).getD i .non= .int (l.getD i 0):=by
   rw[aJ,bJ,aO hi,aJ,aO hi];rfl
  rw[e3];have mem:l.getD i 0∈l:=by rw[aJ,aO hi];exact bV hi
  have zb:=lb _ mem;generalize ez:l.getD i 0=z at zb;walk_at "u";refine⟨ae,?_⟩
  refine⟨p.length,9,9,λj=>p.getD j 0,z,by rw[<-bV0];rfl,⟨λj=>aM (fW hp.ok.small j) ac,aM zb ac,ad,ac,ad⟩,?_⟩
  show(if ev p z=0 then _ else _)
  by_cases c:ev p z=0
  ·rw[a9 c];refine⟨ac,?_⟩
   obtain⟨r,r1,r2,r3,r4,r5,fac⟩:=quo hp c zb;refine⟨p.length,1,9,9,λm=>conv (λj=>r.getD j 0) (vO z) r.length m+0,vO z,?_,⟨ad,ac,rfl,λj hj=> ?_,λm hm=> ?_,λj=> ?_,ad,ac⟩,?_⟩
   ·rw[<-r4];rfl
   ·unfold vO;rw[b28];simp;lia
   ·have e:p.getD m 0=conv (λj=>r.getD j 0) (vO z) r.length m+0:=by
     have:p[m]? =some (conv (λj=>r.getD j 0) (vO z) r.length m+0):=by
      conv=>lhs;rw[r4]
      rw[aS9 hm]
     rw[aJ,this];rfl
    rw[<-e];exact aM (fW hp.ok.small m) ac
   ·unfold vO;refine fW (b:=2^9) (λx hx=> ?_) j
    simp at hx
    rcases hx with rfl|rfl
    ·rw[zU];exact aM zb ac
    ·decide
   ·have dc:=bC3 (u:=λj=>r.getD j 0) (b:=vO z) (low:=λ_=>0) (d:=1) rfl (λj hj=>by unfold vO;rw[b28];simp;lia) (λ_ _=>rfl) r.length
    have el:p.length-1=r.length:=ad
    rw[el];have qe:rwF (fA (divQ (vO z) 1 r.length λm=>conv (λj=>r.getD j 0) (vO z) r.length m+0) r.length) (divQ (vO z) 1 r.length λm=>conv (λj=>r.getD j 0) (vO z) r.length m+0)=r:=by
     have cn:fA (divQ (vO z) 1 r.length λm=>conv (λj=>r.getD j 0) (vO z) r.length m+0) r.length=r.length:=sZ (aF _) (λm a b=>ad) (.inr (by
      rw[dc.2 (r.length-1) ad,r3];decide))
     rw[cn]
     conv=>rhs;rw[bV0 r]
     exact qJ λj hj=>dc.2 j hj
    rw[qe];walk_at "u";rw[show atI [aN r,aN<|rwF (fA (divL (vO z) 1 r.length λm=>conv (λj=>r.getD j 0) (vO z) r.length m+0) p.length)<|divL (vO z) 1 r.length λm=>conv (λj=>r.getD j 0) (vO z) r.length m+0] 0=some (aN r)from d5 (j:=0) rfl]
    refine⟨ac,hy [-z,1] r fac<|.inl ⟨z,c⟩⟩
  ·rw[a6 c];refine⟨_,_,rfl,λk hk2=> ?_⟩
   by_cases ck:k<i
   ·exact hk k ck
   ·have:k=i:=ad
    rw[this,ez];exact c
 ·rintro ρ ⟨z1,z2,rfl,hk⟩;unfold sP;walk_at "u";refine hn (key l l0 l1 λx hx=> ?_)
  obtain⟨k,hk2,rfl⟩:=zI hx;have:=hk k hk2;rw[aJ,aO hk2]at this;exact this
def wT:Φ:=λds Q=> ∃t m:Int,ds=[.int t,.int m]/\t.natAbs<=2^20/\m.natAbs<=2^20/\ ∀l:List Int,l.length<=2->(∀u,u∈l↔u*(t-u)=m)->Q (.ow<|l.map .int)
def a99:US:=(aW (iD (eX<|uOp (kG true) (uOp iR (aE 3)<|aE 3)<|aE 2) (d6<|kF aL) fH)<|d6<|kF<|aB (uOp aN8 (uOp iZ (aE 0)<|aE 3)<|uC<|.int 2)<|aB (uOp aN8 (uOp M.gSub (aE 0)<|aE 3)<|uC<|.int 2) aL)
def aA0:US:=(aW (cA 3<|aS aY7<|aB (aE 2) aL) a99)
def aA1:US:=(aW (iD (eX<|uOp (vK λi j=>decide (i<j)) (aE 2)<|uC<|.int 0) (d6<|kF aL) fH) aA0)
def wU:US:=(aW (cA 2<|uOp M.gSub (uOp iR (aE 0)<|aE 0)<|uOp iR (uC<|.int 4)<|aE 1) aA1)
theorem sq_nn (x:Int):0<=x*x:=by
 rcases le_total 0 x with h|h
 ·exact qA h h
 ·exact Int.mul_nonneg_of_nonpos_of_nonpos h h
theorem d57 {a b:Int}(ha:0<=a)(h:a<=b):a*a<=b*b:=zV h h ha ad
theorem dM4 {g x:Int}(hg:0<=g)(h1:g*g<=x*x)(h2:x*x< (g+1)*(g+1)):x=g\/x= -g:=by
 have e:(x.natAbs:Int)*(x.natAbs:Int)=x*x:=Int.natAbs_mul_self;have a1:(x.natAbs:Int)<=g:=by
  by_cases c:(x.natAbs:Int)<=g
  ·exact c
  ·have:=d57 (a:=g+1) (b:=(x.natAbs:Int)) ad ad
   lia
 have a2:g<=(x.natAbs:Int):=by
  by_cases c:g<=(x.natAbs:Int)
  ·exact c
  ·have:=d57 (a:=(x.natAbs:Int)+1) (b:=g) ad ad
   have h3:(x.natAbs:Int)*(x.natAbs:Int)< ((x.natAbs:Int)+1)*((x.natAbs:Int)+1):=by
    have:((x.natAbs:Int)+1)*((x.natAbs:Int)+1)=(x.natAbs:Int)*(x.natAbs:Int)+2*(x.natAbs:Int)+1:=by grind
    lia
   lia
 lia
theorem par {t g m:Int}(h:g*g=t*t-4*m):(t+g)%2=0/\(t-g)%2=0:=by
 have h1:(t-g)*(t+g)=4*m:=by grind
 rcases Int.emod_two_eq (t+g)with c|c
 ·exact⟨c,ad⟩
 ·exfalso
  obtain⟨a,ha⟩: ∃a,t+g=2*a+1:=⟨(t+g)/2,ad⟩
  obtain⟨b,hb⟩: ∃b,t-g=2*b+1:=⟨(t-g)/2,ad⟩
  rw[ha,hb]at h1;have:2*(2*(b*a)+b+a-2*m)+1=0:=by grind
  lia
theorem bK3: ∀ds Q,wT ds Q->wU {nx:=λ_=>Q (.pu .non),rt:=Q} (init ["t","m","s","g"] ds):=by
 rintro ds Q ⟨t,m,rfl,ht,hm,h⟩;have p20:(2:Nat)^20=1048576:=ac
 have tt:(t*t).natAbs<=2^20*2^20:=gQ ht ht;unfold wU;show(aW _ _:US) _ [some<|.pu<|.int t,some<|.pu<|.int m,none,none];rw[aT];walk_at "u";refine⟨cmL aa aa,cmL ac ac,?_⟩
 have id1: ∀u:Int,u*(t-u)=m↔(2*u-t)*(2*u-t)=t*t-4*m:=λu=>by
  constructor
  ·intro q;grind
  ·intro q;have:4*(u*(t-u))=4*m:=by grind
   omega
 generalize esq:t*t-4*m=sq at id1;have sqb:sq.natAbs<=2^60:=by
  have:(2:Nat)^60=1152921504606846976:=ac
  have:(2:Nat)^20*2^20=1099511627776:=ac
  omega
 unfold aA1;rw[aT];walk_at "u"
 by_cases s0:sq<0
 ·rw[a9 s0];refine⟨ac,h [] ae λu=> ?_⟩
  rw[id1];simp;intro q;have:=sq_nn (2*u-t);omega
 rw[a6 s0];unfold aA0;rw[aT];walk_at "u";refine⟨sq,rfl,aa,Sm.pow sqb ac,λg g0 g1 g2=> ?_⟩
 have g30:g<=2^30:=by
  by_cases c:g<=2^30
  ·exact c
  ·have:=d57 (a:=2^30+1) (b:=g) ac aa
   have:((2:Int)^30+1)*(2^30+1)>2^60:=ac
   have:((2^60:Nat):Int)=2^60:=ac
   omega
 have k30:(2:Int)^30=1073741824:=ac
 unfold a99;dsimp only;rw[aT];walk_at "u";refine⟨cmL aa aa,?_⟩
 by_cases c:g*g=sq
 ·rw[a6 λz=>z c]
  rw[kH _ ac,kH _ ac]
  have pp:=par (t:=t) (g:=g) (m:=m) (by rw[c,esq])
  refine⟨⟨ac,bJ8 ac ac⟩,⟨ac,bJ8 ac ac⟩,ac,?_⟩
  refine h [(t+g)/2,(t-g)/2] ae λu=> ?_
  rw[id1];simp;constructor
  ·rintro(rfl|rfl)
   ·have:2*((t+g)/2)-t=g:=aa
    rw[this];exact c
   ·have:2*((t-g)/2)-t= -g:=aa
    rw[this,Int.neg_mul_neg];exact c
  ·intro q;have:=dM4 (g:=g) (x:=2*u-t) g0 aa aa
   omega
 ·rw[a9 c];refine⟨ac,h [] ae λu=> ?_⟩
  rw[id1];simp;intro q;rw[<-q]at g1 g2 c;rcases dM4 g0 g1 g2 with z|z
  ·rw[z]at c;exact c rfl
  ·rw[z,Int.neg_mul_neg]at c;exact c rfl
def d58 (g:UG)(tb:US)(E:UD)(b:B)(ρ1:Ev):Prop:=match nZ b.d with
 | some l=> ∃Pv:Nat->Ev->Prop,Pv 0 ρ1/\(∀i ρ,i<l.length->Pv i ρ->g (.pu<|l.getD i .non) ρ λρ2=>tb {E with nx:=Pv (i+1),ct:=Pv (i+1),bk:=E.nx} ρ2)/\ ∀ρ,Pv l.length ρ->E.nx ρ
 | none=>False
theorem bD4 {φ:Φ}{t:UA}{g:UG}{tb:US}{E:UD}{ρ:Ev}:kY (iV<|aS φ t) g tb E ρ=t ρ λds ρ1=>φ ds λb=>d58 g tb E b ρ1:=rfl
theorem b29 {g:UG}{tb:US}{E:UD}{ρ1:Ev}(l:List Int)(Pv:Nat->Ev->Prop)(h0:Pv 0 ρ1)(hs: ∀i ρ,i<l.length->Pv i ρ->g (.pu<|.int<|l.getD i 0) ρ λρ2=>tb {E with nx:=Pv (i+1),ct:=Pv (i+1),bk:=E.nx} ρ2)(hd: ∀ρ,Pv l.length ρ->E.nx ρ):d58 g tb E (.ow<|l.map .int) ρ1:=by
 show ∃Pv:Nat->Ev->Prop,Pv 0 ρ1/\(∀i ρ,i< (l.map D.int).length->Pv i ρ->g (.pu<|(l.map D.int).getD i .non) ρ λρ2=>tb {E with nx:=Pv (i+1),ct:=Pv (i+1),bk:=E.nx} ρ2)/\ ∀ρ,Pv (l.map D.int).length ρ->E.nx ρ
 rw[aK];refine⟨Pv,h0,λi ρ hi hp=> ?_,hd⟩
 have e3:(l.map D.int).getD i .non= .int (l.getD i 0):=by
  rw[aJ,bJ,aO hi,aJ,aO hi];rfl
 rw[e3];exact hs i ρ hi hp
theorem bQ2 {l:List Int}{i:Nat}(hi:i<l.length):l.getD i 0∈l:=by rw[aJ,aO hi];exact bV hi
theorem c54 {l:List Int}{P:Int->Prop}(h: ∀k,k<l.length->P (l.getD k 0)): ∀x∈l,P x:=λx hx=>by
 obtain⟨k,hk,rfl⟩:=zI hx;have:=h k hk;rw[aJ,aO hk]at this;exact this
def jS:Φ:=λds Q=> ∃a b c d:Int,ds=[aN [a,b,c,d,1]]/\(∀x∈[a,b,c,d],x.natAbs<=499)/\a≠0/\((∀v u w s,[a,b,c,d,1]≠qq v u w s)->Q (.pu .non))/\
 ∀v u w s,[a,b,c,d,1]=qq v u w s->(∀x∈[v,u,w,s],x.natAbs<=2^40)->Q (.pu<|.tup [aN [v,u,1],aN [w,s,1]])
def jT:US:=(aW (kY (iV<|aS qY<|aB (uIx (aZ 0)<|uC<|.int 0) aL) (cT 1)<|aW (cA 2<|uOp aN8 (uIx (aZ 0)<|uC<|.int 0)<|aE 1)<|kY (iV<|aS wT<|aB (uIx (aZ 0)<|uC<|.int 3)<|aB (uOp M.gSub (uOp M.gSub (uIx (aZ 0)<|uC<|.int 2)<|aE 1)<|aE 2) aL) (cT 3)<|aW (cA 4<|uOp M.gSub (uIx (aZ 0)<|uC<|.int 3)<|aE 3)<|iD (eX<|uOp (kG false) (uOp iZ (uOp iR (aE 3)<|aE 2)<|uOp iR (aE 1)<|aE 4)<|uIx (aZ 0)<|uC<|.int 1) (d6<|fY<|aB (fY<|aB (aE 1)<|aB (aE 3)<|aB (uC<|.int 1) aL)<|aB (fY<|aB (aE 2)<|aB (aE 4)<|aB (uC<|.int 1) aL) aL) fH)<|d6<|uC .non)
theorem cT0 {u t m:Int}(h:u*(t-u)=m)(ht:t.natAbs<=2^20)(hm:m.natAbs<=2^20):u.natAbs<=2^20:=by
 by_cases c:t-u=0
 ·have:u=t:=ad
  rw[this];exact ht
 ·have h1:m.natAbs=u.natAbs*(t-u).natAbs:=by rw[<-h,eO]
  have h2:u.natAbs*1<=u.natAbs*(t-u).natAbs:=pQ _ ad
  lia
theorem a69: ∀ds Q,jS ds Q->jT {nx:=λ_=>Q (.pu .non),rt:=Q} (init ["p","v","w","u","s"] ds):=by
 rintro ds Q ⟨a,b,c,d,rfl,hs,a0,hn,hy⟩;simp only[dZ]at hs;obtain⟨ha,hb,hc,hd,_⟩:=hs;have p20:(2:Nat)^20=1048576:=ac
 have p40:(2:Nat)^40=1099511627776:=ac
 unfold jT;show(aW _ _:US) _ [some<|.pu<|.tup [.int a,.int b,.int c,.int d,.int 1],none,none,none,none];have i0:atI [D.int a,.int b,.int c,.int d,.int 1] 0=some (.int a):=d5 (j:=0) rfl;have i1:atI [D.int a,.int b,.int c,.int d,.int 1] 1=some (.int b):=d5 (j:=1) rfl;have i2:atI [D.int a,.int b,.int c,.int d,.int 1] 2=some (.int c):=d5 (j:=2) rfl
 have i3:atI [D.int a,.int b,.int c,.int d,.int 1] 3=some (.int d):=d5 (j:=3) rfl;rw[aT,bD4];walk_at "u";rw[i0];refine⟨a,rfl,ha,λl l9 _ l1 lb=> ?_⟩
 have ld:=l1 a0;refine b29 l (λi ρ=> ∃z1 z2 z3 z4,ρ=[some<|.pu<|.tup [.int a,.int b,.int c,.int d,.int 1],z1,z2,z3,z4]/\ ∀k,k<i-> ∀u w s,[a,b,c,d,1]≠qq (l.getD k 0) u w s) ⟨none,none,none,none,rfl,λk hk=>ad⟩ ?_ ?_
 ·rintro i ρ hi ⟨z1,z2,z3,z4,rfl,hk⟩;have mem:=bQ2 hi;have vb:=lb _ mem;have vd:=(ld _).mp mem;generalize ev':l.getD i 0=v at vb vd;obtain⟨w,rfl⟩:=vd;have v0:v≠0:=λz=>a0 (by rw[z,gH])
  have wb:w.natAbs<=499:=by
   rw[eO]at ha;have:1*w.natAbs<=v.natAbs*w.natAbs:=pN _ ad
   lia
  refine⟨ae,?_⟩
  show(aW _ _:US) _ [some<|.pu<|.tup [.int<|v*w,.int b,.int c,.int d,.int 1],some<|.pu<|.int v,z2,z3,z4]
  rw[aT,l7];walk_at "u";rw[i0];dsimp only;rw[Int.mul_fdiv_cancel_left _ v0];refine⟨⟨v0,bJ8 ad ad⟩,?_⟩
  rw[bD4];walk_at "u";rw[i3,i2];dsimp only;refine⟨d,c-v-w,rfl,ad,ad,λus _ hus=> ?_⟩
  refine b29 us (λj ρ=> ∃z3 z4,ρ=[some<|.pu<|.tup [.int<|v*w,.int b,.int c,.int d,.int 1],some<|.pu<|.int v,some<|.pu<|.int w,z3,z4]/\ ∀k,k<j->us.getD k 0*w+v*(d-us.getD k 0)≠b) ⟨_,_,rfl,λk hk=>ad⟩ ?_ ?_
  ·rintro j ρ hj ⟨z3,z4,rfl,hk2⟩;have um:=(hus _).mp (bQ2 hj);generalize eu:us.getD j 0=u at um;have ub:=cT0 um ad ad
   refine⟨ae,?_⟩
   show(aW _ _:US) _ [some<|.pu<|.tup [.int<|v*w,.int b,.int c,.int d,.int 1],some<|.pu<|.int v,some<|.pu<|.int w,some<|.pu<|.int u,z4]
   rw[aT];walk_at "u";rw[i3];dsimp only;rw[i1];refine⟨cmL ad ad,cmL ad ad,?_⟩
   dsimp only
   by_cases q:u*w+v*(d-u)=b
   ·rw[a9 q];refine⟨ac,ac,ac,hy v u w (d-u) ?_ ?_⟩
    ·unfold qq;rw[<-q];have e1:v+w+u*(d-u)=c:=by rw[um];lia
     have e2:u+(d-u)=d:=ad
     rw[e1,e2]
    ·simp only[dZ];exact⟨ad,ad,ad,ad,ae⟩
   ·rw[a6 q];refine⟨_,_,rfl,λk hk3=> ?_⟩
    by_cases ck:k<j
    ·exact hk2 k ck
    ·have:k=j:=ad
     rw[this,eu];exact q
  ·rintro ρ ⟨z3,z4,rfl,hk2⟩;have no:=c54 (P:=λu=>u*w+v*(d-u)≠b) hk2
   refine⟨_,_,_,_,rfl,λk hk3=> ?_⟩
   by_cases ck:k<i
   ·exact hk k ck
   ·have:k=i:=ad
    rw[this,ev'];intro u w' s q;unfold qq at q
    injection q with q0 q;injection q with q1 q;injection q with q2 q;injection q with q3 q
    have ww:w'=w:=by
     have:=Int.eq_of_mul_eq_mul_left v0 q0
     lia
    subst ww;have us':s=d-u:=ad
    subst us';exact no u ((hus u).mpr ad) q1.symm
 ·rintro ρ ⟨z1,z2,z3,z4,rfl,hk⟩;walk_at "u";refine hn λv u w s q=> ?_
  have no:=c54 (P:=λv=> ∀u w s,[a,b,c,d,1]≠qq v u w s) hk
  refine no v ((ld v).mpr ?_) u w s q
  unfold qq at q
  injection q with q0 q
  exact⟨w,q0⟩
def aO3:Φ:=λds Q=> ∃p:List Int,ds=[aN p]/\dM p/\(¬Red p->Q (.pu .non))/\ ∀l r,Fac p l r->Red p->Q (.pu<|.tup [aN l,aN r])
def rO:US:=(rE 1)
def aA2:US:=(aW (iD (cQ0 (eX<|bJ6 false<|aE 1)<|eX<|uOp (kG false) (l6<|aZ 0)<|uC<|.int 5) (cA 1<|aS jS<|aB (aE 0) aL) fH) rO)
def b30:US:=(aW (cA 1<|aS nQ<|aB (aE 0) aL) aA2)
def aO4:US:=(aW (aH4<|aS gN<|aB (aE 0) aL) b30)
theorem cG0: ∀ds Q,aO3 ds Q->aO4 {nx:=λ_=>Q (.pu .non),rt:=Q} (init ["p","q"] ds):=by
 rintro ds Q ⟨p,rfl,hp,hn,hy⟩;unfold aO4;show(aW _ _:US) _ [some<|.pu<|.tup<|p.map .int,none];rw[aT];walk_at "u";refine⟨p,rfl,hp,?_⟩;try dsimp only
 unfold b30;rw[aT];walk_at "u";refine⟨p,rfl,hp,λnr=> ?_,λl r fac red=> ?_⟩
 ·try dsimp only
  unfold aA2;rw[aT];walk_at "u";rw[aK]
  by_cases c:(p.length:Int)=5
  ·simp only[c,gK];have sm:=hp.ok.small;rcases hp.cs with⟨a,b,rfl⟩| ⟨a,b,c',rfl⟩| ⟨a,b,c',d,rfl⟩
   ·simp at c
   ·simp at c
   ·simp only[dZ]at sm;refine⟨a,b,c',d,rfl,by simp only[dZ];exact⟨sm.1,sm.2.1,sm.2.2.1,sm.2.2.2.1,ae⟩,λz=> ?_,λnq=> ?_,λv u w s q bd=> ?_⟩
    ·refine nr 0 ?_
     rw[cM1 hp];exact z
    ·unfold rO;walk_at "u";refine hn λrd=> ?_
     rcases rd with⟨z,hz⟩| ⟨v,u,w,s,q⟩
     ·exact nr z hz
     ·exact nq v u w s q
    ·unfold rO;walk_at "u";exact hy _ _ (by rw[q];exact fac_qq bd) (.inr ⟨v,u,w,s,q⟩)
  ·simp only[c,gK,nO];unfold rO;walk_at "u";refine hn λrd=> ?_
   rcases rd with⟨z,hz⟩| ⟨v,u,w,s,q⟩
   ·exact nr z hz
   ·rw[q]at c;exact c rfl
 ·try dsimp only
  unfold aA2;rw[aT];walk_at "u";unfold rO;walk_at "u";exact hy l r fac red
noncomputable def fOf (p:List Int):Nat->Int:=λj=>p.getD j 0
theorem dM.rf {p:List Int}(h:dM p):RF (p.length-1) (fOf p):=by
 have lo:=h.ok.lo;have hi:=h.ok.hi;refine⟨aa,aa,?_,λj hj=> ?_,λj=> ?_⟩
 ·obtain⟨q,rfl⟩:=h.one;show(q++[1]).getD _ 0=1;rw[bO,aJ,gD ae]
  simp
 ·show p.getD j 0=0
  rw[aJ,eM aa]
  rfl
 ·exact aM (fW h.ok.small j) ac
theorem dM.row {p:List Int}(h:dM p):aN p=aN (rwF (p.length-1+1)<|fOf p):=by
 have lo:=h.ok.lo;have e:=bV0 p;rw[show p.length-1+1=p.length by omega]
 exact bQ aN e
def rP:Φ:=λds Q=> ∃(r:List Int) (k:Int),ds=[aN r,.int k]/\r.length<=1000/\ -1000<=k/\k<=1000/\Q (.pu<|aN<|r++replicate (k-(r.length:Int)).toNat 0)
def aA3:US:=(d6<|uOp iZ (aE 0)<|uOp bO9 (fY<|aB (uC<|.int 0) aL)<|uOp M.gSub (aE 1)<|l6<|aZ 0)
theorem c55: ∀ds Q,rP ds Q->aA3 {nx:=λ_=>Q (.pu .non),rt:=Q} (init ["r","s"] ds):=by
 rintro ds Q ⟨r,k,rfl,hr,k0,k1,h⟩;unfold aA3;simp only[aN];show(d6 _:US) _ [some<|.pu<|.tup<|r.map .int,some<|.pu<|.int k];walk_at "u";rw[aK];have e:(replicate (k-(r.length:Int)).toNat [D.int 0]).flatten=(replicate (k-(r.length:Int)).toNat 0).map D.int:=aS5 _ _;rw[e,<-cF];refine⟨ac,⟨ae,ad,ad,aM (show 1*(k-(r.length:Int)).toNat<=1000 by lia) ac⟩,?_,h⟩
 rw[aK,tN];exact aM (show r.length+(k-(r.length:Int)).toNat<=3000 by lia) ac
def iW:ΦX:=λds Q Ex=> ∃p:List Int,ds=[aN p]/\dM p/\(¬Red p->Q (.pu .non))/\(Red p-> ∀l r,Fac p l r->Ex "FallsApart" [aN l,aN r])
def lU:USX:=(λEx=>aW ((λ_=>(cA 1<|aS aO3<|aB (aE 0) aL)) Ex) ((λEx=>iD (eX<|bJ6 true<|aE 1) ((aS2 "FallsApart" (uIx (aZ 1)<|uC<|.int 0)<|uIx (aZ 1)<|uC<|.int 1) Ex) ((λ_=>fH) Ex)) Ex))
theorem aA4: ∀ds Q Ex,iW ds Q Ex->ds.length=1:=by rintro ds Q Ex ⟨p,rfl,_⟩;rfl
theorem aG9: ∀ds Q Ex,iW ds Q Ex->lU Ex {nx:=λ_=>Q (.pu .non),rt:=Q} (init ["p","q"] ds):=by
 rintro ds Q Ex ⟨p,rfl,rp,h0,h1⟩;unfold lU;dsimp only;show(aW _ _:US) _ [some<|.pu<|aN p,none];rw[aT];walk_at "u";refine⟨p,rfl,rp,λnr=> ?_,λl r fac red=> ?_⟩
 ·walk_at "u"
  simpa using h0 nr
 ·walk_at "u"
  simp only[at0,at1];exact h1 red l r fac
def Wh (n:Nat)(f:Nat->Int)(size:Int):Prop:= ∃xf,SPs n f size xf/\ ∀p∈prL,sqB size p=true->bV8 n f p (xf p)
def NWh (n:Nat)(f:Nat->Int)(size:Int):Prop:= ∃xf,SPs n f size xf/\ ¬ ∀p∈prL,sqB size p=true->bV8 n f p (xf p)
def lB:ΦX:=λds Q Ex=> ∃(p:List Int) (size:Int),ds=[aN p,.int size]/\dM p/\(Wh (p.length-1) (fOf p) size->Q (.pu .non))/\((∃q g,dH3 (p.length-1) (fOf p) size q g)->NWh (p.length-1) (fOf p) size-> ∀es,Ex "NotWhole" es)
def qM:USX:=(λEx=>aW ((λ_=>(cA 2<|aS sG<|aB (aE 0)<|aB (aS oN<|aB (aE 0)<|aB (aE 1) aL) aL)) Ex) ((λEx=>iD (eX<|bJ6 true<|aE 2) ((λEx=>aW ((λ_=>(cC7 (aE 2)<|lZ<|cZ 3<|cZ 4 lY)) Ex) ((aS2 "NotWhole" (aE 3)<|aS rP<|aB (aS dW<|aB (eF [3] [none,some 3,none] 2 (iV<|aE 4) (cT 0) (λρ Q=>Q true ρ)<|uOp oE (aE 0)<|aE 1) aL)<|aB (uOp M.gSub (l6<|aZ 0)<|uC<|.int 1) aL) Ex)) Ex) ((λ_=>fH) Ex)) Ex))
theorem aT3: ∀ds Q Ex,lB ds Q Ex->ds.length=2:=by rintro ds Q Ex ⟨p,size,rfl,_⟩;rfl
theorem aY9: ∀ds Q Ex,lB ds Q Ex->qM Ex {nx:=λ_=>Q (.pu .non),rt:=Q} (init ["p","s","o","q","f"] ds):=by
 rintro ds Q Ex ⟨p,size,rfl,rp,h0,h1⟩;have rf:=rp.rf;rw[rp.row];generalize p.length-1=n at *;generalize fOf p=f at *;unfold qM;dsimp only;show(aW _ _:US) _ [some<|.pu<|aN<|rwF (n+1) f,some<|.pu<|.int size,none,none,none];rw[aT];walk_at "u";refine⟨n,f,size,rfl,rf,λxf hP=>⟨n,f,size,xf,rfl,rf,hP,λfine=> ?_,λq g outs nf=> ?_⟩⟩
 ·walk_at "u"
  simpa using h0 ⟨xf,hP,fine⟩
 ·have pp:=a16 outs.pr;have p2:=pp.lo;have p3:=pp.hi;have ql:(dH4 n f g).length<=5:=by
   unfold dH4;rw[mJ];have:=sY (divQ g.2 g.1 (n+1-g.1) f) (n+1-g.1);have:=rf.n4
   lia
  generalize dH4 n f g=r at *;simp only[aN];walk_at "u";refine⟨ac,ac,trivial,?_⟩
  refine eS (t0:=0) r.length (λk=>(r.map D.int).getD k .non) [some<|.pu<|.tup<|(rwF (n+1) f).map .int,some<|.pu<|.int size,some<|.pu<|.tup [.int q,.tup<|r.map .int],some<|.pu<|.int q,some<|.pu<|.tup<|r.map .int] (λQ' q=> ?_) ad (λx l'=>[x,some<|.pu<|.int q,some<|.ow l']) none rfl (λ_ _ _=>rfl) (λ_ _=>cV _) (λ_ _ _ q=>q) (λ_ _ _=>rfl) (λk=> .int (r.getD k 0%q)) ?_ ?_
  ·walk_at "u"
   rw[aK];exact q
  ·intro k l' Q' hk q';have e3:(r.map D.int).getD k .non= .int (r.getD k 0):=by
    rw[aJ,bJ,aJ,aO hk];rfl
   rw[e3]at q'⊢;walk_at "u";refine⟨ad,?_⟩
   rw[dI _ ad]
   exact q'
  ·have e4:(List.range r.length).map (λk=>D.int (r.getD k 0%q))=((List.range r.length).map λk=>r.getD k 0%q).map D.int:=by rw[eP];rfl
   rw[e4];have n4:=rf.n4;walk_at "u";refine⟨_,_,rfl,by rw[aK,kB];lia,?_,?_,h1 ⟨q,g,outs⟩ ⟨xf,hP,nf⟩ _⟩
   ·rw[b9];lia
   ·rw[b9];lia
structure d59 (p:List Int):Prop where
 rp:dM p
 irr: ¬Red p
 meas:(jR 4<|eJ p).natAbs<=39999
 whole: ¬ ∃q g,dH3 (p.length-1) (fOf p) (jR 4<|eJ p) q g
def rQ:ΦM:=λds Q Ex=> ∃p:List Int,ds=[aN p]/\dM p/\(¬Red p->(jR 4<|eJ p).natAbs<=39999->Wh (p.length-1) (fOf p) (jR 4<|eJ p)->Q [aN p,.int<|(p.length:Int)-1,.int<|jR 4<|eJ p])/\(Red p-> ∀l r,Fac p l r->Ex "FallsApart" [aN l,aN r])/\(¬Red p-> ¬d59 p->((jR 4<|eJ p).natAbs<=39999->NWh (p.length-1) (fOf p) (jR 4<|eJ p))->Ex "TooGreat" []/\ ∀es,Ex "NotWhole" es)
def bD5:USX:=(λEx=>aW ((λ_=>(aH4<|aS gN<|aB (aE 1) aL)) Ex) ((λEx=>aW ((λEx=>aH4 (bU4 iW (aB (aE 1) aL) Ex)) Ex) ((λEx=>aW ((λ_=>(cA 2<|aS a14<|aB (aE 1) aL)) Ex) ((λEx=>aW ((λEx=>iD (eX<|uOp (vK λi j=>decide (j<i)) (aS bS9<|aB (aE 2) aL)<|uC<|.int 39999) ((bU5 "TooGreat"<|aB (uC<|.str "a ring's measure is from -39,999 to 39,999") aL) Ex) ((λ_=>fH) Ex)) Ex) ((λEx=>aH4 (bU4 lB (aB (aE 1)<|aB (aE 2) aL) Ex)) Ex)) Ex)) Ex)) Ex))
def bD6:UE:=(aE 1)
def bD7:UE:=(uOp M.gSub (l6<|aZ 1)<|uC<|.int 1)
def bD8:UE:=(aE 2)
theorem cT1: ∀ds Q Ex,rQ ds Q Ex->ds.length+1=2:=by rintro ds Q Ex ⟨p,rfl,_⟩;rfl
theorem d60: ∀a ds Q Ex,rQ ds Q Ex->bD5 Ex {nx:=λρ=>ρ[0]? =some (some<|.pu<|.adr a)/\bD6 ρ λb1 ρ1=>bD7 ρ1 λb2 ρ2=>bD8 ρ2 λb3 _=>Q [b1.d,b2.d,b3.d],rt:=λ_=>False} (init ["s","p","m"] (.adr a::ds)):=by
 rintro a ds Q Ex ⟨p,rfl,rp,h0,hr,h1⟩;have lo:=rp.ok.lo;unfold bD5;dsimp only;show(aW _ _:US) _ [some<|.pu<|.adr a,some<|.pu<|aN p,none];rw[aT];walk_at "u";refine⟨p,rfl,rp,?_⟩;walk_at "u";refine⟨p,rfl,rp,λnr=> ?_,hr⟩
 refine⟨p,rfl,rp,?_⟩
 walk_at "u"
 by_cases c:(39999:Int)< (if jR 4 (eJ p)<0 then -jR 4 (eJ p)else jR 4 (eJ p))
 ·rw[a9 c];refine⟨ac,(h1 nr (λz=> ?_) λz=> ?_).1⟩
  ·have:=z.meas;split at c<;>omega
  ·split at c<;>omega
 ·rw[a6 c];have me:(jR 4<|eJ p).natAbs<=39999:=by split at c<;>omega
  refine⟨p,jR 4<|eJ p,rfl,rp,λwh=>⟨trivial,?_⟩,λo nw=>(h1 nr (λz=>z.whole o) λ_=>nw).2⟩
  unfold bD6 bD7 bD8;simp only[aN];walk_at "u";rw[aK];exact h0 nr me wh
noncomputable def bV9 (r:List Int)(m:Int):Bool:=r.any λc=>decide (c%m≠0)
noncomputable def d61 (p:List Int)(size:Int):Bool:=prL.all λq=>decide (size%(q*q)≠0)||
 ((List.range q.toNat).all (λc=>bV9 (aH8 (p.length-1) (fOf p)<|j1 (c:Int)) (q*q))&&
   (decide (p.length≠5)||(List.range q.toNat).all λv=>(List.range q.toNat).all λu=>bV9 (aH8 (p.length-1) (fOf p)<|quF (v:Int) (u:Int)) (q*q)))
theorem bW0 {p:Int}{F:Nat×(Nat->Int)}(mp:MP p F.1 F.2)(h1:F.1=1):F=j1 (F.2 0):=by
 refine gJ h1 (funext λj=> ?_)
 show F.2 j=if j=0 then F.2 0 else if j=1 then 1 else 0
 by_cases c0:j=0
 ·rw[a9 c0,c0]
 ·by_cases c1:j=1
  ·rw[a6 c0,a9 c1,c1];have:=mp.top;rw[h1]at this;exact this
  ·rw[a6 c0,a6 c1];exact mp.hi j ad
theorem aT4 {r:List Int}{m:Int}(h: ∀c∈r,c%m=0):bV9 r m=false:=by
 unfold bV9;rw[List.any_eq_false];intro c hc;simp[h c hc]
theorem d62 {p:List Int}{size:Int}(rp:dM p)(h:d61 p size=true): ¬ ∃q g,dH3 (p.length-1) (fOf p) size q g:=by
 rintro⟨q,g,o⟩;have lo:=rp.ok.lo;have hi:=rp.ok.hi;have pp:=a16 o.pr;have h1:=dO.mp h q o.pr;rw[zT,dN]at h1;have nz: ¬decide (size%(q*q)≠0)=true:=by rw[fP];exact λz=>z o.sq
 obtain⟨h2,h3⟩:=h1.resolve_left nz;obtain⟨R,mR,e⟩:=o.tw;have dg:p.length-1=g.1+g.1+R.1:=bQ Prod.fst e;have g1:=o.g1
 by_cases c1:g.1=1
 ·have eg:=bW0 o.mg c1;have r0:=o.mg.rng 0;have h4:=dO.mp h2 (g.2 0).toNat (dU.mpr ad)
  rw[show(((g.2 0).toNat:Nat):Int)=g.2 0 by lia,<-eg,aT4 o.all]at h4
  cases h4
 ·have c2:g.1=2:=ad
  have eg:=mp_two o.mg c2;have r0:=o.mg.rng 0;have r1:=o.mg.rng 1;have n5: ¬decide (p.length≠5)=true:=by rw[fP];lia
  have h4:=(zT _ _▸h3).resolve_left n5;have h5:=dO.mp (dO.mp h4 (g.2 0).toNat<|dU.mpr ad) (g.2 1).toNat (dU.mpr ad)
  rw[show(((g.2 0).toNat:Nat):Int)=g.2 0 by lia,show(((g.2 1).toNat:Nat):Int)=g.2 1 by lia,<-eg,aT4 o.all]at h5
  cases h5
noncomputable def qN:List (List Int):=[[5,0,1],[-10,0,1],[6,1,1],[-3,0,1],[-1,-1,0,1],[-2,0,0,1],[-1,4,0,1],[1,0,0,0,1],[-1,-1,0,0,1],[1,1,1,1,1],[-2,0,0,0,1],[1,0,-1,0,1]]
theorem c56:qN.all (λp=>d61 p (jR 4<|eJ p)&&decide ((jR 4<|eJ p).natAbs<=39999))=true:=af
theorem uS: ∀p∈qN,dM p:=by
 intro p hp;have h:qN.all (λp=>decide (3<=p.length)&&decide (p.length<=5)&&p.all (λx=>decide (x.natAbs<=499))&&decide (p=p.dropLast++[1]))=true:=af
 have h1:=dO.mp h p hp;simp only[dN,fP,dO]at h1;exact⟨⟨h1.1.1.1,h1.1.1.2,h1.1.2⟩,p.dropLast,h1.2⟩
theorem cM2 (f:Nat->Int)(z:Int): ∀n,∃k,ps f z (n+1)=f 0+z*k
 | 0=>⟨0,by show 0+f 0*z^0=_;rw[iQ,jF,bP];lia⟩
 | n+1=>by
  obtain⟨k,hk⟩:=cM2 f z n;refine⟨k+f (n+1)*z^n,?_⟩;show ps f z (n+1)+f (n+1)*z^(n+1)=_;rw[hk,qD]
  grind
theorem aO5 {z a:Int}(h:z∣a)(ha:a≠0):z.natAbs<=a.natAbs:=Nat.le_of_dvd ad (Int.natAbs_dvd_natAbs.mpr h)
theorem bW1:qN.all (λp=>decide (p.getD 0 0≠0)&&decide ((p.getD 0 0).natAbs<=10)&&(List.range 21).all λk=>decide (ev p ((k:Int)-10)≠0))=true:=af
theorem cG1:qN.all (λp=>decide (p.length≠5)||(decide ((p.getD 0 0).natAbs<=2)&&decide ((p.getD 2 0).natAbs<=1)&&decide ((p.getD 3 0).natAbs<=1)&&
  (List.range 5).all λv=>(List.range 5).all λw=>(List.range 7).all λu=>(List.range 9).all λs=>decide (p≠qq ((v:Int)-2) ((u:Int)-3) ((w:Int)-2) ((s:Int)-4))))=true:=af
theorem d63 {u s:Int}(h1:(u+s).natAbs<=1)(h2:(u*s).natAbs<=5):u.natAbs<=3:=by
 refine yY λz=> ?_
 rcases(show 4<=u\/u<= -4 by lia)with c|c
 ·have:4*3<=u*(-s):=zV c ad ac ad
  rw[u7]at this
  lia
 ·have:4*3<=(-u)*s:=zV ad ad ac ad
  rw[Int.neg_mul]at this
  lia
theorem cT2: ∀p∈qN,¬Red p:=by
 intro p hp;have h1:=dO.mp bW1 p hp;simp only[dN,fP,dO,dU]at h1;obtain⟨⟨a0,a1⟩,a2⟩:=h1;have lo:=(uS p hp).ok.lo;rintro(⟨z,hz⟩| ⟨v,u,w,s,e⟩)
 ·unfold ev at hz;obtain⟨k,hk⟩:=cM2 (λj=>p.getD j 0) z (p.length-1)
  rw[show p.length-1+1=p.length by omega,hz]at hk
  have dv:z∣p.getD 0 0:=⟨-k,by rw[u7];omega⟩
  have:=aO5 dv a0;refine a2 (z+10).toNat aa ?_
  rw[show(((z+10).toNat:Nat):Int)-10=z by omega]
  exact hz
 ·have h2:=dO.mp cG1 p hp;have l5:p.length=5:=by rw[e];rfl
  rw[zT]at h2;have h3:=h2.resolve_left (by rw[fP];omega)
  simp only[dN,fP,dO,dU]at h3;obtain⟨⟨⟨b0,b2⟩,b3⟩,b4⟩:=h3;have e0:p.getD 0 0=v*w:=by rw[e];rfl
  have e2:p.getD 2 0=v+w+u*s:=by rw[e];rfl
  have e3:p.getD 3 0=u+s:=by rw[e];rfl
  have v2:=aO5 (z:=v) ⟨w,e0⟩ a0;have w2:=aO5 (z:=w) ⟨v,by rw[e0,gG]⟩ a0
  rw[e2]at b2;rw[e3]at b3;have u3:=d63 b3 aa
  refine b4 (v+2).toNat aa (w+2).toNat aa (u+3).toNat aa (s+4).toNat aa ?_
  rw[show(((v+2).toNat:Nat):Int)-2=v by omega,show(((w+2).toNat:Nat):Int)-2=w by omega,show(((u+3).toNat:Nat):Int)-3=u by omega,show(((s+4).toNat:Nat):Int)-4=s by omega]
  exact e
theorem c57: ∀p∈qN,d59 p:=by
 intro p hp;have h1:=dO.mp c56 p hp;simp only[dN,fP]at h1;exact⟨uS p hp,cT2 p hp,h1.2,d62 (uS p hp) h1.1⟩
noncomputable def cH (C:Addr)(p:List Int):D:= .obj C ["poly","degree","measure"] [aN p,.int<|(p.length:Int)-1,.int<|jR 4<|eJ p]
theorem kK {ρ:Ev}{i:Nat}{C:Addr}{p:List Int}{Q:B->Ev->Prop}(h:ρ[i]? =some (some<|.pu<|cH C p)):nP "degree" (aE i) ρ Q=Q (.pu<|.int<|(p.length:Int)-1) ρ:=by
 unfold nP;rw[sX h];rfl
theorem tK {ρ:Ev}{i:Nat}{C:Addr}{p:List Int}{Q:B->Ev->Prop}(h:ρ[i]? =some (some<|.pu<|cH C p)):nP "poly" (aE i) ρ Q=Q (.pu<|aN p) ρ:=by
 unfold nP;rw[sX h];rfl
noncomputable def ttF (p:List Int)(n:Nat)(u:Nat->Int):Nat->Int:=λi=>(if i=0 then 0 else u (i-1))-u (n-1)*p.getD i 0
def t9:Φ:=λds Q=> ∃(C:Addr) (p:List Int) (n:Nat) (u:Nat->Int),ds=[cH C p,aN<|rwF n u]/\dM p/\p.length=n+1/\Q (.pu<|aN<|rwF n<|ttF p n u)
def aI0:US:=(d6<|aS dW<|aB (eF [2,0] [none,some 3,some 2,some 0,none] 4 (iX<|aB (nP "degree"<|aE 0) aL) (cT 0) (λρ Q=>Q true ρ)<|uOp M.gSub (uIx (aZ 1)<|aE 0)<|uOp iR (aE 2)<|uIx (uV<|nP "poly"<|aE 3)<|aE 0) aL)
def aI1:US:=(aW (cA 3<|uOp iZ (fY<|aB (uC<|.int 0) aL)<|uSl (aZ 1) mI<|o8<|rF<|uC<|.int 1) aI0)
def a19:US:=(aW (cA 2<|uIx (aZ 1)<|rF<|uC<|.int 1) aI1)
theorem bW2: ∀ds Q,t9 ds Q->a19 {nx:=λ_=>Q (.pu .non),rt:=Q} (init ["r","x","l","m"] ds):=by
 rintro ds Q ⟨C,p,n,u,rfl,rp,hn,h⟩;have lo:=rp.ok.lo;have hi:=rp.ok.hi;unfold a19;simp only[aN];show(aW _ _:US) _ [some<|.pu<|cH C p,some<|.pu<|.tup<|(rwF n u).map .int,none,none];rw[aT];walk_at "u";rw[b26 ad]
 dsimp only;unfold aI1;rw[aT];walk_at "u";have s1:HT.sIx n n (some<|-1)=n-1:=by
  show(if(-1:Int)<0 then(-1+(n:Int)).toNat else min (-1:Int).toNat n)=n-1
  rw[a9 ac]
  lia
 have ec:cutD ((rwF n u).map D.int) none (some<|-1)=(rwF (n-1) u).map D.int:=by
  unfold cutD;rw[b9,HT.sIx_none,s1,List.drop_zero,tZ,<-nJ,c44 _ _ _ ad]
 have em:[D.int 0]++(rwF (n-1) u).map D.int=(rwF n λi=>if i=0 then 0 else u (i-1)).map D.int:=by
  apply iL
  ·simp[rwF];lia
  ·intro k h1 h2;cases k with
   | zero=>simp[rwF]
   | succ k=>simp[rwF]
 rw[ec,em,b9,b9,HT.sIx_none,s1];refine⟨ac,ad,aM (show 0+1+(n-1)<=5 by lia) ac,?_⟩
 unfold aI0;rw[i8,dJ,bT]
 refine eS (t0:=0) n (λk=> .int (0+(k:Int))) [some<|.pu<|cH C p,some<|.pu<|.tup<|(rwF n u).map .int,some<|.pu<|.int<|u<|n-1,some<|.pu<|.tup<|(rwF n λi=>if i=0 then 0 else u (i-1)).map .int] (λQ' q=> ?_) ad (λx l'=>[x,some<|.pu<|.tup<|(rwF n λi=>if i=0 then 0 else u (i-1)).map .int,some<|.pu<|.int<|u<|n-1,some<|.pu<|cH C p,some<|.ow l']) none rfl (λ_ _ _=>rfl) (λ_ _=>cV _) (λ_ _ _ q=>q) (λ_ _ _=>rfl) (λk=> .int (ttF p n u k)) ?_ ?_
 ·unfold iX;rw[bT,kK (C:=C) (p:=p) rfl];walk_at "u";refine⟨⟨ad,ad⟩,?_⟩
  rw[show((p.length:Int)-1).toNat=n by lia]
  exact q
 ·intro k l' Q' hk q;rw[dD];have e5:atI (p.map D.int) (k:Int)=some (.int<|p.getD k 0):=d5 (by rw[bJ,aO ad,aJ,aO ad];rfl)
  have e6:=fW rp.ok.small k;walk_at "u";rw[rZ hk];dsimp only;rw[tK (C:=C) (p:=p) rfl];simp only[aN];walk_at "u";rw[e5];dsimp only;refine⟨cmR ad ad,?_⟩
  unfold ttF at q;rw[dD]at q;exact q
 ·rw[rK];exact h
noncomputable def itT (p:List Int)(n:Nat)(u:Nat->Int):Nat->Nat->Int
 | 0=>u
 | k+1=>ttF p n (itT p n u k)
def qZ:Φ:=λds Q=> ∃(C:Addr) (p:List Int) (n:Nat) (u:Nat->Int),ds=[cH C p,aN<|rwF n u]/\dM p/\p.length=n+1/\Q (.pu<|.tup<|tbF n n<|itT p n u)
def aA5:US:=(d6<|aS dW<|aB (aE 2) aL)
def aA6:US:=(aW (kY (iX<|aB (uOp M.gSub (nP "degree"<|aE 0)<|uC<|.int 1) aL) (cT 3)<|aR5 2<|aS t9<|aB (aE 0)<|aB (uIx (aZ 2)<|rF<|uC<|.int 1) aL) aA5)
def wV:US:=(aW (cA 2<|kF<|aB (aE 1) aL) aA6)
theorem c58 {n m:Nat}{t:Nat->Nat->Int}(h:0<n):atI (tbF n m t) (-1)=some (aN<|rwF m<|t<|n-1):=by
 unfold L2.atI;have e:ixN (tbF n m t).length (-1)=some (n-1):=by
  unfold ixN;rw[l8,a6 ac,a9 ad]
  congr 1
  lia
 rw[e];exact aF3 ad
theorem bK4: ∀ds Q,qZ ds Q->wV {nx:=λ_=>Q (.pu .non),rt:=Q} (init ["r","x","t","s"] ds):=by
 rintro ds Q ⟨C,p,n,u,rfl,rp,hn,h⟩;have lo:=rp.ok.lo;have hi:=rp.ok.hi;unfold wV;show(aW _ _:US) _ [some<|.pu<|cH C p,some<|.pu<|aN<|rwF n u,none,none];rw[aT];walk_at "u";refine⟨ac,?_⟩
 unfold aA6;rw[aT];refine cC (n-1) (λk=> .int (0+(k:Int))) [some<|.pu<|cH C p,some<|.pu<|aN<|rwF n u,some<|.ow<|tbF 1 n<|itT p n u,none] (λQ' q=> ?_)
  (λk ρ=> ∃x,ρ=[some<|.pu<|cH C p,some<|.pu<|aN<|rwF n u,some<|.ow<|tbF (k+1) n<|itT p n u,x]) ⟨none,rfl⟩ ?_ ?_
 ·unfold iX;rw[bT,aO1,kK (C:=C) (p:=p) rfl];walk_at "u";refine⟨⟨ad,ad⟩,?_⟩
  rw[show((p.length:Int)-1-1).toNat=n-1 by lia]
  exact q
 ·rintro k ρ hk ⟨x,rfl⟩;walk_at "u";rw[c58 ad,fN]
  dsimp only;refine⟨ae,C,p,n,itT p n u k,rfl,rp,hn,?_⟩
  walk_at "u"
  rw[l8];refine⟨b6 (show k+1<10 by lia) ac,some<|.pu<|.int<|0+(k:Int),?_⟩
  have e:tbF (k+1) n (itT p n u)++[aN<|rwF n<|ttF p n<|itT p n u k]=tbF (k+1+1) n (itT p n u):=by
   rw[c41];unfold tbF;apply mU;intro i hi';dsimp only
   by_cases c:i=k+1
   ·rw[a9 c,c];rfl
   ·rw[a6 c]
  rw[e]
 ·rintro ρ ⟨x,rfl⟩;rw[show n-1+1=n by lia]
  dsimp only;unfold aA5;walk_at "u";exact h
theorem cT3 {p:List Int}{n a:Nat}{u:Nat->Int}(hp: ∀x∈p,x.natAbs<=499)(hu: ∀j,(u j).natAbs<=2^a)(j:Nat):(ttF p n u j).natAbs<=2^(a+9):=by
 unfold ttF;have h1:(if j=0 then(0:Int)else u (j-1)).natAbs<=2^a:=by
  split
  ·simp
  ·exact hu _
 have h2:(u (n-1)*p.getD j 0).natAbs<=2^a*499:=by rw[eO];exact fS (hu _) (fW hp j)
 have h3:=zK (if j=0 then(0:Int)else u (j-1)) (u (n-1)*p.getD j 0);rw[gI];have:(2:Nat)^9=512:=rfl
 lia
theorem aF5 {p:List Int}{n a:Nat}{u:Nat->Int}(hp: ∀x∈p,x.natAbs<=499)(hu: ∀j,(u j).natAbs<=2^a): ∀k j,(itT p n u k j).natAbs<=2^(a+9*k)
 | 0,j=>hu j
 | k+1,j=>by
  have:=cT3 (n:=n) hp (λj=>aF5 (n:=n) hp hu k j) j
  rw[a00,<-qB];exact this
theorem bD9 (row:List Int)(s:Int): ∀k,(aY3 row s k).length=row.length
 | 0=>rfl
 | k+1=>by unfold aY3;rw[dS];exact bD9 row s k
theorem cM3 (p:List Int)(s:Int): ∀k,(shK p s k).length=p.length
 | 0=>rfl
 | k+1=>by unfold shK;rw[bD9];exact cM3 p s k
theorem d64 {n k:Nat}(h:k<n):ixN n (k:Int)=some k:=by
 unfold ixN;rw[a9 ad,a9 ad,eB]
theorem d65 (l:List Int)(k:Nat)(x:Int):(l.map D.int).set k (.int x)=(l.set k x).map D.int:=by rw[List.map_set]
def a20:Φ:=λds Q=> ∃(p:List Int) (s:Int),ds=[aN p,.int s]/\3<=p.length/\p.length<=5/\s.natAbs<=3/\Q (.pu<|aN<|shK p s<|p.length-1)
def aO6:US:=(aW (cA 2<|aS aE9<|aB (aE 0) aL)<|aW (kY (iX<|aB (uOp M.gSub (l6<|aZ 2)<|uC<|.int 1) aL) (cT 3)<|kY (cK4<|aB (uOp M.gSub (l6<|aZ 2)<|uC<|.int 2)<|aB (uOp M.gSub (aE 3)<|uC<|.int 1)<|aB (rF<|uC<|.int 1) aL) (cT 4)<|b21 2 (uOp iZ (uIx (aZ 2)<|aE 4)<|uOp iR (aE 1)<|uIx (aZ 2)<|uOp iZ (aE 4)<|uC<|.int 1)<|aE 4)<|d6<|aS dW<|aB (aE 2) aL)
theorem cG2: ∀ds Q,a20 ds Q->aO6 {nx:=λ_=>Q (.pu .non),rt:=Q} (init ["p","s","r","l","a"] ds):=by
 rintro ds Q ⟨p,s,rfl,h3,h5,hs,h⟩;have lp:(p.map D.int).length=p.length:=aK _;unfold aO6;show(aW _ _:US) _ [some<|.pu<|.tup<|p.map .int,some<|.pu<|.int s,none,none,none];walk_at "u";refine cC (p.length-1) (λi=> .int (0+i)) [some<|.pu<|.tup<|p.map .int,some<|.pu<|.int s,some<|.ow<|p.map .int,none,none] ?_
  (λi ρ=> ∃x y,ρ=[some<|.pu<|.tup<|p.map .int,some<|.pu<|.int s,some<|.ow<|(shK p s i).map .int,x,y]) ⟨none,none,rfl⟩ ?_ ?_
 ·intro Q' q;simp only[iX];walk_at "u";rw[lp];refine⟨ad,?_⟩
  rw[show((p.length:Int)-1).toNat=p.length-1 by lia]
  exact q
 ·rintro i ρ hi ⟨x,y,rfl⟩;have lk:=cM3 p s i;have e1:shK p s (i+1)=aY3 (shK p s i) s (p.length-1-i):=rfl;rw[e1];generalize shK p s i=row at lk;have lrow:(row.map D.int).length=row.length:=aK _;walk_at "u";refine⟨ac,?_⟩
  refine cC (p.length-1-i) (λk=> .int ((p.length:Int)-2-k)) [some<|.pu<|.tup<|p.map .int,some<|.pu<|.int s,some<|.ow<|row.map .int,some<|.pu<|.int<|0+(i:Int),y] ?_
   (λk ρ=> ∃y,ρ=[some<|.pu<|.tup<|p.map .int,some<|.pu<|.int s,some<|.ow<|(aY3 row s k).map .int,some<|.pu<|.int<|0+(i:Int),y]) ⟨y,rfl⟩ ?_ ?_
  ·intro Q' q;simp only[cK4];walk_at "u";rw[lrow,lk];refine⟨trivial,ad,?_⟩
   rw[show((p.length:Int)-2-(0+(i:Int)-1)).toNat=p.length-1-i by lia]
   exact q
  ·rintro k ρ hk ⟨y,rfl⟩;have l2:=bD9 row s k;walk_at "u";refine⟨ac,?_⟩
   have a1:(p.length:Int)-2-(k:Int)=((p.length-2-k:Nat):Int):=ad
   have a2:((p.length-2-k:Nat):Int)+1=((p.length-1-k:Nat):Int):=ad
   rw[a1,a2,a92<|show p.length-2-k< (aY3 row s k).length by lia,a92<|show p.length-1-k< (aY3 row s k).length by lia]
   dsimp only;rw[d64 (show p.length-2-k< ((aY3 row s k).map D.int).length by rw[aK];lia)]
   refine⟨cmL ad ad,some<|.pu<|.int ((p.length-2-k:Nat):Int),?_⟩
   rw[d65];rw[<-lk];rfl
  ·rintro ρ ⟨y,rfl⟩;exact⟨_,_,rfl⟩
 ·rintro ρ ⟨x,y,rfl⟩;walk_at "u";exact h
def wW:Φ:=λds Q=> ∃c:Int,ds=[.int c]/\ ∀p∈qN,Q (.pu<|aN p)
def aA7:US:=(d6<|uIx (aZ 1)<|uOp oE (aS a89<|aB (aE 0)<|aB (uC<|.int 3)<|aB (uC<|.int 998244353) aL)<|uC<|.int 12)
def aA8:US:=(aW (cA 1<|uOp iZ (aE 1)<|kF<|aB (fY<|aB (uC<|.int 1)<|aB (uC<|.int 0)<|aB (uC<|.int 0)<|aB (uC<|.int 0)<|aB (uC<|.int 1) aL)<|aB (fY<|aB (rF<|uC<|.int 1)<|aB (rF<|uC<|.int 1)<|aB (uC<|.int 0)<|aB (uC<|.int 0)<|aB (uC<|.int 1) aL)<|aB (fY<|aB (uC<|.int 1)<|aB (uC<|.int 1)<|aB (uC<|.int 1)<|aB (uC<|.int 1)<|aB (uC<|.int 1) aL)<|aB (fY<|aB (rF<|uC<|.int 2)<|aB (uC<|.int 0)<|aB (uC<|.int 0)<|aB (uC<|.int 0)<|aB (uC<|.int 1) aL)<|aB (fY<|aB (uC<|.int 1)<|aB (uC<|.int 0)<|aB (rF<|uC<|.int 1)<|aB (uC<|.int 0)<|aB (uC<|.int 1) aL) aL) aA7)
def wX:US:=(aW (cA 1<|kF<|aB (fY<|aB (uC<|.int 5)<|aB (uC<|.int 0)<|aB (uC<|.int 1) aL)<|aB (fY<|aB (rF<|uC<|.int 10)<|aB (uC<|.int 0)<|aB (uC<|.int 1) aL)<|aB (fY<|aB (uC<|.int 6)<|aB (uC<|.int 1)<|aB (uC<|.int 1) aL)<|aB (fY<|aB (rF<|uC<|.int 3)<|aB (uC<|.int 0)<|aB (uC<|.int 1) aL)<|aB (fY<|aB (rF<|uC<|.int 1)<|aB (rF<|uC<|.int 1)<|aB (uC<|.int 0)<|aB (uC<|.int 1) aL)<|aB (fY<|aB (rF<|uC<|.int 2)<|aB (uC<|.int 0)<|aB (uC<|.int 0)<|aB (uC<|.int 1) aL)<|aB (fY<|aB (rF<|uC<|.int 1)<|aB (uC<|.int 4)<|aB (uC<|.int 0)<|aB (uC<|.int 1) aL) aL) aA8)
theorem d66 {k:Int}(h0:0<=k)(h1:k<12): ∃p∈qN,atI (qN.map aN) k=some (aN p):=by
 obtain⟨i,rfl⟩: ∃i:Nat,k=(i:Int):=⟨k.toNat,ad⟩
 have hi:i<qN.length:=show i<12 by lia
 exact⟨qN[i],bV hi,d5 (by rw[bJ,aO hi];rfl)⟩
theorem bK5: ∀ds Q,wW ds Q->wX {nx:=λ_=>Q (.pu .non),rt:=Q} (init ["c","k"] ds):=by
 rintro ds Q ⟨c,rfl,h⟩;unfold wX;show(aW _ _:US) _ [some<|.pu<|.int c,none];rw[aT];walk_at "u";refine⟨ac,ac,ac,ac,ac,ac,ac,ac,?_⟩
 unfold aA8;rw[aT];walk_at "u";refine⟨ac,ac,ac,ac,ac,ac,ac,?_⟩
 unfold aA7;walk_at "u";refine⟨c,3,998244353,rfl,ac,ac,ac,λr r0 r1=> ?_⟩
 walk_at "u"
 refine⟨ac,?_⟩
 rw[dI _ ac]
 obtain⟨p,hp,e⟩:=d66 (bZ r<|show(12:Int)≠0 by decide) (cE r<|show(0:Int)<12 by decide)
 have e': ∀l:List D,l=qN.map aN->(match atI l (r%12)with|some x=>Q (.pu x)|none=>False):=λl hl=>by
  rw[hl,e];exact h p hp
 exact e' _ rfl
def bW3:Φ:=λds Q=> ∃c q:Int,ds=[.int c,.int q]/\0<q/\ ∀p,dM p->Q (.pu<|aN p)
structure RG (p:List Int):Prop where
 irr: ¬Red p
 meas:(jR 4<|eJ p).natAbs<=39999
 wh:Wh (p.length-1) (fOf p) (jR 4<|eJ p)
def b86:Φ:=λds Q=> ∃(ns:List Int) (k:Nat) (q:Int),ds=[.rol<|ns.map .int,.int (k:Int),.int q]/\ns.length<=63/\k<=1000/\0<q/\ ∀C p,dM p->RG p->Q (.pu<|cH C p)
def bE0:US:=(rE 3)
def c59:US:=(aW (iD (eX<|bJ6 false<|aE 3) (cA 3<|c39 ["poly","degree","measure"] rQ<|aB (aS wW<|aB (aS aS6<|aB (aE 0)<|aB (aE 1) aL) aL) aL) fH) bE0)
def c60:US:=(aW (kY (iX<|aB (uC<|.int 3) aL) (cT 4)<|iD (eX<|bJ6 false<|aE 3) (d32 3 ["poly","degree","measure"] rQ (aB (aS bW3<|aB (aS aS6<|aB (aE 0)<|aB (uOp iZ (aE 1)<|aE 4) aL)<|aB (aE 2) aL) aL) ["FallsApart","TooGreat","NotWhole"]<|cA 3<|uC .non) fH) c59)
def bW4:US:=(aW (cA 3<|uC .non) c60)
theorem dH5: ∀ds Q,b86 ds Q->bW4 {nx:=λ_=>Q (.pu .non),rt:=Q} (init ["s","k","q","f","j"] ds):=by
 rintro ds Q ⟨ns,k,q,rfl,hl,hk,hq,h⟩;unfold bW4;show(aW _ _:US) _ [some<|.pu<|.rol<|ns.map .int,some<|.pu<|.int (k:Int),some<|.pu<|.int q,none,none];rw[aT];walk_at "u";unfold c60;rw[aT];refine cC 3 (λi=> .int (0+i)) [some<|.pu<|.rol<|ns.map .int,some<|.pu<|.int (k:Int),some<|.pu<|.int q,some<|.pu .non,none] (λQ' q=> ?_)
  (λi ρ=> ∃d x,ρ=[some<|.pu<|.rol<|ns.map .int,some<|.pu<|.int (k:Int),some<|.pu<|.int q,some<|.pu d,x]/\(d= .non\/ ∃C p,dM p/\RG p/\d=cH C p)) ⟨.non,none,rfl,.inl rfl⟩ ?_ ?_
 ·walk_at "u"
  exact⟨ac,q⟩
 ·rintro i ρ hi ⟨d,x,rfl,hd⟩;refine⟨ae,?_⟩
  rcases hd with rfl| ⟨C,p,rp,nr,rfl⟩
  ·walk_at "u"
   unfold d32;walk_at "u";refine⟨ns,(k:Int)+(0+(i:Int)),rfl,hl,ad,ad,λc=>⟨c,q,rfl,hq,λp rp=> ?_⟩⟩
   walk_at "u"
   refine⟨p,rfl,rp,λnr me wh C=>⟨cH C p,some<|.pu<|.int<|0+(i:Int),rfl,.inr ⟨C,p,rp,⟨nr,me,wh⟩,rfl⟩⟩,λ_ _ _ _=>⟨ae,.non,_,rfl,.inl rfl⟩,λ_ _ _=>⟨⟨ae,.non,_,rfl,.inl rfl⟩,λ_=>⟨ae,.non,_,rfl,.inl rfl⟩⟩⟩
  ·simp only[cH];walk_at "u";exact⟨cH C p,_,rfl,.inr ⟨C,p,rp,nr,rfl⟩⟩
 ·rintro ρ ⟨d,x,rfl,hd⟩;dsimp only;unfold c59;rw[aT];rcases hd with rfl| ⟨C,p,rp,nr,rfl⟩
  ·walk_at "u"
   unfold c39;walk_at "u";refine⟨ns,(k:Int),rfl,hl,ad,ad,λc=>⟨c,rfl,λp hp=> ?_⟩⟩
   walk_at "u"
   refine⟨p,rfl,uS p hp,λnr me wh C=> ?_,λred=>absurd red (c57 p hp).irr,λ_ z=>absurd (c57 p hp) z⟩
   unfold bE0;walk_at "u";exact h C p (uS p hp) ⟨nr,me,wh⟩
  ·simp only[cH];walk_at "u";unfold bE0;walk_at "u";exact h C p rp nr
def c61:US:=(d6<|aS a20<|aB (fY<|aB (uOp M.gSub (uIx (aZ 4)<|uC<|.int 2)<|uC<|.int 3)<|aB (uOp M.gSub (uIx (aZ 4)<|uC<|.int 3)<|uC<|.int 3)<|aB (uOp M.gSub (uIx (aZ 4)<|uC<|.int 4)<|uC<|.int 3)<|aB (uOp M.gSub (uIx (aZ 4)<|uC<|.int 6)<|uC<|.int 3)<|aB (uC<|.int 1) aL)<|aB (uOp M.gSub (uIx (aZ 4)<|uC<|.int 5)<|uC<|.int 2) aL)
def c62:US:=(aW (cA 4<|aS rH<|aB (aE 0)<|aB (kF<|aB (uC<|.int 3)<|aB (uC<|.int 8)<|aB (uC<|.int 7)<|aB (uC<|.int 7)<|aB (uC<|.int 7)<|aB (uC<|.int 5)<|aB (uC<|.int 7) aL)<|aB (aE 1) aL) c61)
def c63:US:=(aW (iD (eX<|uOp (kG false) (uIx (aZ 2)<|uC<|.int 0)<|uC<|.int 1) (d6<|aS a20<|aB (fY<|aB (uOp M.gSub (uIx (aZ 4)<|uC<|.int 2)<|uC<|.int 4)<|aB (uOp M.gSub (uIx (aZ 4)<|uC<|.int 3)<|uC<|.int 4)<|aB (uOp M.gSub (uIx (aZ 4)<|uC<|.int 4)<|uC<|.int 4)<|aB (uC<|.int 1) aL)<|aB (uOp M.gSub (uIx (aZ 4)<|uC<|.int 5)<|uC<|.int 2) aL) fH) c62)
def c64:US:=(aW (iD (eX<|uOp (kG false) (uIx (aZ 2)<|uC<|.int 0)<|uC<|.int 0) (aW (cA 4<|aS rH<|aB (aE 0)<|aB (kF<|aB (uC<|.int 3)<|aB (uC<|.int 8)<|aB (uC<|.int 161)<|aB (uC<|.int 41) aL)<|aB (aE 1) aL)<|d6<|fY<|aB (uOp M.gSub (uIx (aZ 4)<|uC<|.int 2)<|uC<|.int 80)<|aB (uOp M.gSub (uIx (aZ 4)<|uC<|.int 3)<|uC<|.int 20)<|aB (uC<|.int 1) aL) fH) c63)
def bE1:US:=(aW (cA 4<|aS rH<|aB (aE 0)<|aB (kF<|aB (uC<|.int 3)<|aB (uC<|.int 8)<|aB (uC<|.int 9)<|aB (uC<|.int 9)<|aB (uC<|.int 9)<|aB (uC<|.int 5)<|aB (uC<|.int 7) aL)<|aB (aE 1) aL) c64)
def c65:US:=(aW (iD (eX<|uOp (kG false) (uIx (aZ 2)<|uC<|.int 1)<|uC<|.int 7) (d6<|aS dW<|aB (uOp iZ (eF [] [none,none] 1 (iV<|aE 3) (cT 0) (λρ Q=>Q true ρ)<|uOp M.gSub (aE 0)<|uC<|.int 499)<|kF<|aB (uC<|.int 1) aL) aL) fH) bE1)
def c66:US:=(aW (cA 3<|uSl (uV<|aS rH<|aB (aE 0)<|aB (kF<|aB (uC<|.int 3)<|aB (uC<|.int 8)<|aB (uC<|.int 999)<|aB (uC<|.int 999)<|aB (uC<|.int 999)<|aB (uC<|.int 999) aL)<|aB (aE 1) aL) (o8<|uC<|.int 2)<|o8<|uOp iZ (uIx (aZ 2)<|uC<|.int 0)<|uC<|.int 4) c65)
def bW5:US:=(aW (cA 2<|aS rH<|aB (aE 0)<|aB (kF<|aB (uC<|.int 3)<|aB (uC<|.int 8) aL)<|aB (aE 1) aL) c66)
theorem rp_two {a b:Int}(ha:a.natAbs<=499)(hb:b.natAbs<=499):dM [a,b,1]:=⟨⟨ae,ae,λx hx=>by
 simp only[aX,cM,cR]at hx;rcases hx with rfl|rfl|rfl<;>lia⟩,[a,b],rfl⟩
theorem nba {x y:Int}{m k:Nat}(hx:x.natAbs<=m)(hy:y.natAbs<=k):(x+y).natAbs<=m+k:=aM (aN2 x y) (Nat.add_le_add hx hy)
theorem nbm {x y:Int}{m k:Nat}(hx:x.natAbs<=m)(hy:y.natAbs<=k):(x*y).natAbs<=m*k:=by rw[eO];exact fS hx hy
theorem nbl {x:Int}{m k:Nat}(h:decide (m<=k)=true)(hx:x.natAbs<=m):x.natAbs<=k:=aM hx (pW h)
theorem nbc (n:Nat):((n:Nat):Int).natAbs<=n:=aF n
theorem rp_sh3 {a b c s:Int}(ha:a.natAbs<=4)(hb:b.natAbs<=4)(hc:c.natAbs<=4)(hs:s.natAbs<=2):dM (shK [a,b,c,1] s 3):=by
 rw[she3];refine⟨⟨by simp[sh3],by simp[sh3],λx hx=> ?_⟩,_,rfl⟩
 simp only[sh3,List.cons_append,zP,aX,cM,cR]at hx;have s2:=nbm hs hs;have s3:=nbm s2 hs;rcases hx with rfl|rfl|rfl|rfl
 ·exact nbl rfl (nba (nba (nba ha<|nbm hs hb)<|nbm s2 hc) s3)
 ·exact nbl rfl (nba (nba hb<|nbm (nbm (nbc 2) hs) hc)<|nbm (nbm (nbc 3) hs) hs)
 ·exact nbl rfl (nba hc<|nbm (nbc 3) hs)
 ·decide
theorem rp_sh4 {a b c d s:Int}(ha:a.natAbs<=3)(hb:b.natAbs<=3)(hc:c.natAbs<=3)(hd:d.natAbs<=3)(hs:s.natAbs<=2):dM (shK [a,b,c,d,1] s 4):=by
 rw[she4];refine⟨⟨by simp[sh4],by simp[sh4],λx hx=> ?_⟩,_,rfl⟩
 simp only[sh4,List.cons_append,zP,aX,cM,cR]at hx;have s2:=nbm hs hs;have s3:=nbm s2 hs;rcases hx with rfl|rfl|rfl|rfl|rfl
 ·exact nbl rfl (nba (nba (nba (nba ha<|nbm hs hb)<|nbm s2 hc)<|nbm s3 hd)<|nbm s3 hs)
 ·exact nbl rfl (nba (nba (nba hb<|nbm (nbm (nbc 2) hs) hc)<|nbm (nbm (nbm (nbc 3) hs) hs) hd)<|nbm (nbm (nbm (nbc 4) hs) hs) hs)
 ·exact nbl rfl (nba (nba hc<|nbm (nbm (nbc 3) hs) hd)<|nbm (nbm (nbc 6) hs) hs)
 ·exact nbl rfl (nba hd<|nbm (nbc 4) hs)
 ·decide
theorem dH6 {ws:List Int}(h2:2<=ws.length)(h4:ws.length<=4)(hb: ∀w∈ws,0<=w/\w<999):dM (ws.map (λw=>w-499)++[1]):=by
 refine⟨⟨by rw[bO,aK];show 3<=ws.length+1;lia,by rw[bO,aK];show ws.length+1<=5;lia,λx hx=> ?_⟩,_,rfl⟩
 rcases bW.mp hx with hx|hx
 ·obtain⟨w,hw,rfl⟩:=dE.mp hx;have:=hb w hw
  lia
 ·rw[iI.mp hx];decide
theorem cT4 (c q a b:Int)(ws:List Int)(h4:ws.length<=4)(Q:B->Prop)(h:Q (.pu<|aN<|ws.map (λw=>w-499)++[1])) :
  (d6 (aS dW<|aB (uOp iZ (eF [] [none,none] 1 (iV<|aE 3) (cT 0) (λρ Q=>Q true ρ)<|uOp M.gSub (aE 0)<|uC<|.int 499)<|kF<|aB (uC<|.int 1) aL) aL):US) {nx:=λ_=>Q (.pu .non),rt:=Q} [some<|.pu<|.int c,some<|.pu<|.int q,some<|.ow [.int a,.int b],some<|.ow<|ws.map .int,none]:=by
 rw[i8,dJ,bT,aO1];refine eS (t0:=0) ws.length (λk=>(ws.map D.int).getD k .non) [some<|.pu<|.int c,some<|.pu<|.int q,some<|.ow [.int a,.int b],some<|.pu<|.lst<|ws.map .int,none] (λQ' q=> ?_) ad (λx l'=>[x,some<|.ow l']) none rfl (λ_ _ _=>rfl) (λ_ _=>cV _) (λ_ _ _ q=>q) (λ_ _ _=>rfl) (λk=> .int (ws.getD k 0-499)) ?_ ?_
 ·walk_at "u"
  rw[aK];exact q
 ·intro k l' Q' hk q';have e3:(ws.map D.int).getD k .non= .int (ws.getD k 0):=by
   rw[aJ,bJ,aJ,aO hk];rfl
  rw[e3]at q'⊢;walk_at "u";exact q'
 ·have e4:(List.range ws.length).map (λk=>D.int (ws.getD k 0-499))=(ws.map λw=>w-499).map D.int:=by
   apply iL
   ·simp
   ·intro i h1 h2;simp at h1;simp[aJ,h1]
  rw[e4];walk_at "u";have e5:(ws.map λw=>w-499).map D.int++[D.int 1]=(ws.map (λw=>w-499)++[1]).map D.int:=by rw[cF];rfl
  rw[e5];refine⟨ac,?_,h⟩
  rw[aK,aK];exact aM (show ws.length+(0+1)<=5 by lia) ac
theorem d67 (c q a b:Int)(w:Option B)(a0:0<=a)(a1:a<3)(hq:0<q)(Q:B->Prop)(h: ∀p,dM p->Q (.pu<|aN p)) :
  bE1 {nx:=λ_=>Q (.pu .non),rt:=Q} [some<|.pu<|.int c,some<|.pu<|.int q,some<|.ow [.int a,.int b],w,none]:=by
 unfold bE1;rw[aT];walk_at "u";refine⟨ac,c,[3,8,9,9,9,5,7],q,rfl,ac,hq,ac,λxs hx=> ?_⟩
 obtain⟨x0,x1,x2,x3,x4,x5,x6,rfl⟩: ∃x0 x1 x2 x3 x4 x5 x6,xs=[x0,x1,x2,x3,x4,x5,x6]:=by
  match xs,hx.1 with
  | [x0,x1,x2,x3,x4,x5,x6],_=>exact⟨x0,x1,x2,x3,x4,x5,x6,rfl⟩
 have b2:=hx.2 2 x2 9 rfl rfl;have b3:=hx.2 3 x3 9 rfl rfl;have b4:=hx.2 4 x4 9 rfl rfl;have b5:=hx.2 5 x5 5 rfl rfl;simp only[cN,iP];unfold c64;rw[aT];walk_at "u";rw[aS4];dsimp only
 by_cases c0:a=0
 ·rw[a9 c0];refine⟨ac,c,[3,8,161,41],q,rfl,ac,hq,ac,λys hy=> ?_⟩
  obtain⟨y0,y1,y2,y3,rfl⟩: ∃y0 y1 y2 y3,ys=[y0,y1,y2,y3]:=by
   match ys,hy.1 with
   | [y0,y1,y2,y3],_=>exact⟨y0,y1,y2,y3,rfl⟩
  have k2:=hy.2 2 y2 161 rfl rfl;have k3:=hy.2 3 y3 41 rfl rfl;simp only[cN,iP]
  (try walk_at "u")
  rw[show atI [D.int y0,.int y1,.int y2,.int y3] 2=some (.int y2)from d5 (j:=2) rfl,show atI [D.int y0,.int y1,.int y2,.int y3] 3=some (.int y3)from d5 (j:=3) rfl]
  dsimp only;exact⟨ac,h [y2-80,y3-20,1]<|rp_two ad ad⟩
 rw[a6 c0];have t2:atI [D.int x0,.int x1,.int x2,.int x3,.int x4,.int x5,.int x6] 2=some (.int x2):=d5 (j:=2) rfl;have t3:atI [D.int x0,.int x1,.int x2,.int x3,.int x4,.int x5,.int x6] 3=some (.int x3):=d5 (j:=3) rfl;have t4:atI [D.int x0,.int x1,.int x2,.int x3,.int x4,.int x5,.int x6] 4=some (.int x4):=d5 (j:=4) rfl
 have t5:atI [D.int x0,.int x1,.int x2,.int x3,.int x4,.int x5,.int x6] 5=some (.int x5):=d5 (j:=5) rfl;unfold c63;rw[aT];walk_at "u";rw[aS4];dsimp only
 by_cases c1:a=1
 ·rw[a9 c1,t2,t3,t4,t5];dsimp only;exact⟨ac,[x2-4,x3-4,x4-4,1],x5-2,rfl,ae,ae,ad,h _<|rp_sh3 ad ad ad ad⟩
 rw[a6 c1];unfold c62;rw[aT];walk_at "u";refine⟨ac,c,[3,8,7,7,7,5,7],q,rfl,ac,hq,ac,λys hy=> ?_⟩
 obtain⟨y0,y1,y2,y3,y4,y5,y6,rfl⟩: ∃x0 x1 x2 x3 x4 x5 x6,ys=[x0,x1,x2,x3,x4,x5,x6]:=by
  match ys,hy.1 with
  | [x0,x1,x2,x3,x4,x5,x6],_=>exact⟨x0,x1,x2,x3,x4,x5,x6,rfl⟩
 have k2:=hy.2 2 y2 7 rfl rfl;have k3:=hy.2 3 y3 7 rfl rfl;have k4:=hy.2 4 y4 7 rfl rfl;have k5:=hy.2 5 y5 5 rfl rfl;have k6:=hy.2 6 y6 7 rfl rfl;simp only[cN,iP];unfold c61;walk_at "u"
 rw[show atI [D.int y0,.int y1,.int y2,.int y3,.int y4,.int y5,.int y6] 2=some (.int y2)from d5 (j:=2) rfl,show atI [D.int y0,.int y1,.int y2,.int y3,.int y4,.int y5,.int y6] 3=some (.int y3)from d5 (j:=3) rfl,show atI [D.int y0,.int y1,.int y2,.int y3,.int y4,.int y5,.int y6] 4=some (.int y4)from d5 (j:=4) rfl,show atI [D.int y0,.int y1,.int y2,.int y3,.int y4,.int y5,.int y6] 5=some (.int y5)from d5 (j:=5) rfl,show atI [D.int y0,.int y1,.int y2,.int y3,.int y4,.int y5,.int y6] 6=some (.int y6)from d5 (j:=6) rfl]
 dsimp only;exact⟨ac,[y2-3,y3-3,y4-3,y6-3,1],y5-2,rfl,ae,ae,ad,h _<|rp_sh4 ad ad ad ad ad⟩
theorem dH7: ∀ds Q,bW3 ds Q->bW5 {nx:=λ_=>Q (.pu .non),rt:=Q} (init ["c","q","d","w","f"] ds):=by
 rintro ds Q ⟨c,q,rfl,hq,h⟩;unfold bW5;show(aW _ _:US) _ [some<|.pu<|.int c,some<|.pu<|.int q,none,none,none];rw[aT];walk_at "u";refine⟨ac,c,[3,8],q,rfl,ac,hq,ac,λxs hx=> ?_⟩
 obtain⟨a,b,rfl⟩: ∃a b,xs=[a,b]:=by
  match xs,hx.1 with
  | [a,b],_=>exact⟨a,b,rfl⟩
 have ba:=hx.2 0 a 3 rfl rfl;simp only[cN,iP];unfold c66;rw[aT];walk_at "u";refine⟨ac,c,[3,8,999,999,999,999],q,rfl,ac,hq,ac,λys hy=> ?_⟩
 obtain⟨y0,y1,y2,y3,y4,y5,rfl⟩: ∃x0 x1 x2 x3 x4 x5,ys=[x0,x1,x2,x3,x4,x5]:=by
  match ys,hy.1 with
  | [x0,x1,x2,x3,x4,x5],_=>exact⟨x0,x1,x2,x3,x4,x5,rfl⟩
 have k2:=hy.2 2 y2 999 rfl rfl;have k3:=hy.2 3 y3 999 rfl rfl;have k4:=hy.2 4 y4 999 rfl rfl;have k5:=hy.2 5 y5 999 rfl rfl;simp only[cN,iP]
 (try walk_at "u")
 rw[aS4];dsimp only;obtain⟨ws,ew,w2,w4,wb⟩: ∃ws:List Int,cutD [D.int y0,.int y1,.int y2,.int y3,.int y4,.int y5] (some 2) (some<|a+4)=ws.map D.int/\2<=ws.length/\ws.length<=4/\ ∀w∈ws,0<=w/\w<999:=by
  rcases(show a=0\/a=1\/a=2 by lia)with rfl|rfl|rfl
  ·exact⟨[y2,y3],rfl,ae,ae,by simp;lia⟩
  ·exact⟨[y2,y3,y4],rfl,ae,ae,by simp;lia⟩
  ·exact⟨[y2,y3,y4,y5],rfl,ae,ae,by simp;lia⟩
 rw[ew];unfold c65;rw[aT,cL5];walk_at "u";rw[at1];dsimp only
 by_cases cb:b=7
 ·rw[a9 cb];exact cT4 c q a b ws w4 Q (h _<|dH6 w2 w4 wb)
 ·rw[a6 cb];exact d67 c q a b _ ba.1 ba.2 hq Q h
noncomputable def vP (k:Int):Nat->Int:=λj=>if j=0 then k else 0
theorem dH8 {n:Nat}(k:Int)(h:1<=n):k::replicate (n-1) 0=rwF n (vP k):=by
 apply iL
 ·rw[mJ,eA,tN];lia
 ·intro i h1 h2;simp only[rwF,List.getElem_map,List.getElem_range]
  match i with
  | 0=>rfl
  | i+1=>rw[List.getElem_cons_succ,List.getElem_replicate];rfl
def oO:Φ:=λds Q=> ∃(C:Addr) (p:List Int) (n:Nat) (k:Int),ds=[cH C p,.int k]/\dM p/\p.length=n+1/\Q (.pu<|aN<|rwF n<|vP k)
def uT:US:=(d6<|aS rP<|aB (fY<|aB (aE 1) aL)<|aB (nP "degree"<|aE 0) aL)
theorem bE2: ∀ds Q,oO ds Q->uT {nx:=λ_=>Q (.pu .non),rt:=Q} (init ["r","k"] ds):=by
 rintro ds Q ⟨C,p,n,k,rfl,rp,hn,h⟩;have lo:=rp.ok.lo;have hi:=rp.ok.hi;unfold uT;show(d6 _:US) _ [some<|.pu<|cH C p,some<|.pu<|.int k];walk_at "u";rw[kK (C:=C) (p:=p) rfl];walk_at "u";refine⟨ac,[k],(n:Int),by rw[hn];congr 3;lia,ae,ad,ad,?_⟩
 rw[show((n:Int)-(([k]:List Int).length:Int)).toNat=n-1 by rw[aL6];lia,List.singleton_append,dH8 k ad]
 exact h
theorem aT5 {ρ:Ev}{i:Nat}{C:Addr}{p:List Int}{Q:B->Ev->Prop}(h:ρ[i]? =some (some<|.pu<|cH C p)):nP "measure" (aE i) ρ Q=Q (.pu<|.int<|jR 4<|eJ p) ρ:=by
 unfold nP;rw[sX h];rfl
noncomputable def tbL (n:Nat)(t:Nat->Nat->Int):List (List Int):=(List.range n).map λi=>rwF n (t i)
theorem dH9 (n:Nat)(t:Nat->Nat->Int):D.tup (tbF n n t)=bB7 (tbL n t):=by
 unfold bB7 tbL tbF;rw[eP];rfl
theorem aT6 (n:Nat)(t:Nat->Nat->Int):(tbL n t).length=n:=by unfold tbL;rw[aK,kB]
theorem d68 {n e:Nat}{t:Nat->Nat->Int}(n1:1<=n)(n4:n<=4)(he:e<2000)(h: ∀i j,i<n->(t i j).natAbs<=2^e):Sq 4 (tbL n t):=by
 refine⟨by rw[aT6];exact n1,by rw[aT6];exact n4,λr hr=> ?_,λr hr x hx=> ?_⟩
 ·rw[aT6];obtain⟨i,hi,rfl⟩:=dE.mp hr;exact mJ _ _
 ·obtain⟨i,hi,rfl⟩:=dE.mp hr;obtain⟨j,hj,rfl⟩:=dE.mp hx;exact mV (h i j<|dU.mp hi) (aM0 ac he)
theorem det_2 (T:Nat->Nat->Int):jR 4 (tbL 2 T)=1*T 0 0*(T 1 1)+(-1*T 1 0*(T 0 1)+0):=by kernel_rfl
theorem det_3 (T:Nat->Nat->Int):jR 4 (tbL 3 T)=1*T 0 0*(1*T 1 1*(T 2 2)+(-1*T 2 1*(T 1 2)+0))+(-1*T 1 0*(1*T 0 1*(T 2 2)+(-1*T 2 1*(T 0 2)+0))+(1*T 2 0*(1*T 0 1*(T 1 2)+(-1*T 1 1*(T 0 2)+0))+0)):=by kernel_rfl
theorem det_4 (T:Nat->Nat->Int):jR 4 (tbL 4 T)=1*T 0 0*(1*T 1 1*(1*T 2 2*(T 3 3)+(-1*T 3 2*(T 2 3)+0))+(-1*T 2 1*(1*T 1 2*(T 3 3)+(-1*T 3 2*(T 1 3)+0))+(1*T 3 1*(1*T 1 2*(T 2 3)+(-1*T 2 2*(T 1 3)+0))+0)))+(-1*T 1 0*(1*T 0 1*(1*T 2 2*(T 3 3)+(-1*T 3 2*(T 2 3)+0))+(-1*T 2 1*(1*T 0 2*(T 3 3)+(-1*T 3 2*(T 0 3)+0))+(1*T 3 1*(1*T 0 2*(T 2 3)+(-1*T 2 2*(T 0 3)+0))+0)))+(1*T 2 0*(1*T 0 1*(1*T 1 2*(T 3 3)+(-1*T 3 2*(T 1 3)+0))+(-1*T 1 1*(1*T 0 2*(T 3 3)+(-1*T 3 2*(T 0 3)+0))+(1*T 3 1*(1*T 0 2*(T 1 3)+(-1*T 1 2*(T 0 3)+0))+0)))+(-1*T 3 0*(1*T 0 1*(1*T 1 2*(T 2 3)+(-1*T 2 2*(T 1 3)+0))+(-1*T 1 1*(1*T 0 2*(T 2 3)+(-1*T 2 2*(T 0 3)+0))+(1*T 2 1*(1*T 0 2*(T 1 3)+(-1*T 1 2*(T 0 3)+0))+0)))+0))):=by kernel_rfl
noncomputable def nrm (p:List Int)(n:Nat)(u:Nat->Int):Int:=jR 4 (tbL n<|itT p n u)
def aZ0:Φ:=λds Q=> ∃(C:Addr) (p:List Int) (n e:Nat) (u:Nat->Int),ds=[cH C p,aN<|rwF n u]/\dM p/\p.length=n+1/\e<=1900/\(∀j,(u j).natAbs<=2^e)/\Q (.pu<|.int<|nrm p n u)
def aZ1:US:=(d6<|aS (fJ 4)<|aB (aS qZ<|aB (aE 0)<|aB (aE 1) aL) aL)
theorem cT5: ∀ds Q,aZ0 ds Q->aZ1 {nx:=λ_=>Q (.pu .non),rt:=Q} (init ["r","x"] ds):=by
 rintro ds Q ⟨C,p,n,e,u,rfl,rp,hn,he,hu,h⟩;have lo:=rp.ok.lo;have hi:=rp.ok.hi;unfold aZ1;show(d6 _:US) _ [some<|.pu<|cH C p,some<|.pu<|aN<|rwF n u];walk_at "u";refine⟨C,p,n,u,rfl,rp,hn,?_⟩;try dsimp only
 refine⟨tbL n<|itT p n u,by rw[dH9],d68 (e:=e+27) ad ad ad λi j hi'=>aM (aF5 (n:=n) rp.ok.small hu i j) (gX ac ad),?_⟩
 exact h
theorem d69 (i n:Nat)(t:Nat->Nat->Int):tbF i n t++[aN<|rwF n<|t i]=tbF (i+1) n t:=by
 unfold tbF;rw[dP,cF];rfl
def a59:Nat->List (List Int)->Int
 | 0,_=>0
 | n+1,t=>if t.length=1 then(t.getD 0 []).getD 0 0 else((List.range t.length).map λi=>(t.getD i []).getD 0 0*a59 n ((t.eraseIdx i).map List.tail)).sum
theorem bE3: ∀(n:Nat) (t:List (List Int)),n<=4->Sq n t->(a59 n t).natAbs<=2^(2010*n)
 | 0,t,_,h=>by have:=h.pos;have:=h.le;omega
 | n+1,t,hn,h=>by
  have entry: ∀i,i<t.length->((t.getD i []).getD 0 0).natAbs<=2^2000:=λi hi=>by
   have eg:t.getD i []=t[i]:=by rw[aJ,aO hi];rfl
   rw[eg];have hr:=h.row _ (bV hi);have hp:=h.pos;have h0:0< (t[i]).length:=aa
   rw[aJ,aO h0];exact kE (h.small _ (bV hi) _<|bV h0)
  unfold a59;split
  ·have:=entry 0 (by have:=h.pos;omega)
   exact aM this (gX ac aa)
  ·rename_i h1
   refine aM (yH _ (2^2000*2^(2010*n)) _ λi hi=> ?_) ?_
   ·rw[eO];exact fS (entry i hi) (bE3 n _ aa<|h.less h1 hi)
   ·have hl:=h.le;have e:2^(2010*(n+1))=2^10*(2^2000*2^(2010*n)):=by
     rw[<-gI,<-gI];congr 1;omega
    rw[e];exact pN _ aa
def bN (n:Nat):Φ:=λds Q=> ∃t:List (List Int),ds=[bB7 t]/\Sq n t/\Q (.pu<|.int<|a59 n t)
def sI (bN:Φ):US:=(aW (iD (eX<|uOp (kG false) (l6<|aZ 0)<|uC<|.int 1) (d6<|uIx (uV<|uIx (aZ 0)<|uC<|.int 0)<|uC<|.int 0) fH)<|d6<|aS cQ1<|aB (eF [0] [none,some 0,none] 2 (iX<|aB (l6<|aZ 0) aL) (cT 0) (λρ Q=>Q true ρ)<|uOp iR (uIx (uV<|uIx (aZ 1)<|aE 0)<|uC<|.int 0)<|aS bN<|aB (aS sW<|aB (aE 1)<|aB (aE 0) aL) aL) aL)
theorem lD (n:Nat): ∀ds Q,bN n ds Q->ds.length=1:=by rintro ds Q ⟨a,rfl,_⟩;rfl
theorem aT7: ∀ds Q,¬bN 0 ds Q:=by
 rintro ds Q ⟨t,rfl,sq,_⟩;have:=sq.pos;have:=sq.le;omega
theorem mK (n:Nat)(hn:n<4): ∀ds Q,bN (n+1) ds Q->sI (bN n) {nx:=λ_=>Q (.pu .non),rt:=Q} (init ["t"] ds):=by
 rintro ds Q ⟨t,rfl,sq,h⟩;have hp:=sq.pos;have hle:=sq.le;have lt:(t.map aN).length=t.length:=aK _;have lrow: ∀i,i<t.length->0< (t.getD i []).length:=λi hi=>by
  rw[aJ,aO hi];have:=sq.row _ (bV hi);show 0< (t[i]).length;omega
 unfold sI;show(aW _ _:US) _ [some<|.pu<|.tup<|t.map aN];rw[aT];walk_at "u";rw[lt];split
 ·rename_i h1
  have h1':t.length=1:=aa
  have:=b83 (t:=t) (i:=0) aa
  rw[show(0:Int)+((0:Nat):Int)=0 from rfl]at this
  rw[this];simp only[aN];rw[a91<|lrow 0 aa]
  unfold a59 at h;rw[a9 h1']at h;exact h
 ·rename_i h1
  have h1':t.length≠1:=aa
  unfold a59 at h;rw[a6 h1']at h;refine eS (t0:=0) t.length (λk=> .int (0+(k:Int))) [some<|.pu<|.tup<|t.map aN] (λQ' q=> ?_) aa (λx l'=>[x,some<|.pu<|.tup<|t.map aN,some<|.ow l']) none rfl (λ_ _ _=>rfl) (λ_ _=>cV _) (λ_ _ _ q=>q) (λ_ _ _=>rfl) (λi=> .int ((t.getD i []).getD 0 0*a59 n ((t.eraseIdx i).map List.tail))) ?_ ?_
  ·walk_at "u"
   rw[lt];refine⟨⟨aa,aa⟩,?_⟩
   rw[eB];exact q
  ·intro i l' Q' hi q;walk_at "u";rw[b83 hi];simp only[aN];rw[a91<|lrow i hi];dsimp only;have eg:t.getD i []=t[i]:=by rw[aJ,aO hi];rfl
   have en:((t.getD i []).getD 0 0).natAbs<=2^2000:=by
    have h0:=lrow i hi;rw[eg]at h0⊢;rw[aJ,aO h0];exact kE (sq.small _ (bV hi) _<|bV h0)
   refine⟨t,i,by rw[dD];rfl,hi,aa,aa,λr hr=>by rw[sq.row r hr];exact hp,?_⟩
   refine⟨_,rfl,sq.less h1' hi,?_⟩
   have sd:Sm (a59 n<|(t.eraseIdx i).map List.tail):=Sm.pow (bE3 n _ aa<|sq.less h1' hi) aa
   exact⟨.inr ⟨Sm.pow en ac,sd⟩,q⟩
  ·rw[rK];walk_at "u";unfold rwF;rw[aX4];exact h
def abI (i:Int):Int:=if i<0 then -i else i
def d70 (ts:List (Nat->Int)):Nat->Int:=λj=>(ts.map λf=>abI (f j)).sum
def a21:Φ:=λds Q=> ∃(ts:List (Nat->Int)) (n:Nat),ds=[.lst<|ts.map λf=>aN (rwF n f)]/\1<=ts.length/\ts.length<=100/\n<=100/\Q (.pu<|aN<|rwF n<|d70 ts)
def a22:US:=(d6<|aS dW<|aB (eF [0] [none,some 0,none] 2 (iX<|aB (l6<|uV<|uIx (aZ 0)<|uC<|.int 0) aL) (cT 0) (λρ Q=>Q true ρ)<|aS cQ1<|aB (eF [0] [none,some 0,none] 2 (iV<|aE 1) (cT 0) (λρ Q=>Q true ρ)<|aS bS9<|aB (uIx (aZ 0)<|aE 1) aL) aL) aL)
theorem d71 {ts:List (Nat->Int)}{n j:Nat}{ρ:Ev}{ui:UI}{Q:B->Ev->Prop}(hj:j<n)(hl:ts.length<=100)(hui: ∀Q':Nat->(Nat->D)->Ev->Prop,Q' ts.length (λk=>(ts.map λf=>aN (rwF n f)).getD k .non) ρ->ui ρ Q')
  (h0:pB (wM ρ [0]) [none,some 0,none] 2=[none,some<|.pu<|.int (j:Int),some<|.ow []]) (h1:wM ρ [0]=ρ) (h:Q (.pu<|.int<|d70 ts j) ρ) :
  aS cQ1 (aB (eF [0] [none,some 0,none] 2 ui (cT 0) (λρ Q=>Q true ρ)<|aS bS9<|aB (uIx (aZ 0)<|aE 1) aL) aL) ρ Q:=by
 rw[dJ,bT];refine eS (t0:=0) ts.length (λk=>(ts.map λf=>aN (rwF n f)).getD k .non) ρ hui aa (λx l'=>[x,some<|.pu<|.int (j:Int),some<|.ow l']) none h0 (λ_ _ _=>rfl) (λ_ _=>cV _) (λ_ _ _ q=>q) (λ_ _ _=>rfl) (λk=> .int (abI<|(ts.getD k λ_=>0) j)) ?_ ?_
 ·intro k l' Q' hk q';have e3:(ts.map λf=>aN (rwF n f)).getD k .non=aN (rwF n<|ts.getD k λ_=>0):=by
   rw[aJ,bJ,aO hk,aJ,aO hk];rfl
  rw[e3]at q'⊢;simp only[aN]at q'⊢;walk_at "u";rw[rZ hj];exact q'
 ·rw[h1,rK];walk_at "u";unfold rwF;rw[aX4];have e:(List.range ts.length).map (λk=>abI ((ts.getD k λ_=>0) j))=ts.map λf=>abI (f j):=by
   apply iL
   ·simp
   ·intro k h1 h2;simp at h1;simp[h1,aJ]
  rw[e];exact h
theorem bW6: ∀ds Q,a21 ds Q->a22 {nx:=λ_=>Q (.pu .non),rt:=Q} (init ["n"] ds):=by
 rintro ds Q ⟨ts,n,rfl,t1,t2,n1,h⟩;unfold a22;show(d6 _:US) _ [some<|.pu<|.lst<|ts.map λf=>aN (rwF n f)]
 rw[i8,dJ,bT];refine eS (t0:=0) n (λk=> .int (0+(k:Int))) [some<|.pu<|.lst<|ts.map λf=>aN (rwF n f)] (λQ' q=> ?_) aa (λx l'=>[x,some<|.pu<|.lst<|ts.map λf=>aN (rwF n f),some<|.ow l']) none rfl (λ_ _ _=>rfl) (λ_ _=>cV _) (λ_ _ _ q=>q) (λ_ _ _=>rfl) (λj=> .int (d70 ts j)) ?_ ?_
 ·obtain⟨f,ts',rfl⟩: ∃f ts',ts=f::ts':=by
   match ts,t1 with
   | f::ts',_=>exact⟨f,ts',rfl⟩
  simp only[cN]at q⊢;walk_at "u";rw[show atI (aN (rwF n f)::ts'.map λf=>aN (rwF n f)) 0=some (aN<|rwF n f)from d5 (j:=0) rfl]
  simp only[aN];try dsimp only
  rw[b9];refine⟨⟨aa,aa⟩,?_⟩
  rw[eB];exact q
 ·intro j l' Q' hj q';rw[dD]at q'⊢;refine d71 hj t2 (λQ' q=> ?_) rfl rfl q'
  walk_at "u"
  rw[aK];exact q
 ·rw[rK];exact h
noncomputable def reF (p:List Int)(n:Nat):Nat->Nat->Int:=λi=>d70 ((List.range n).map λk=>itT p n (vP 1) (i+k))
theorem cT6 (j:Nat):(vP 1 j).natAbs<=2^0:=by
 show(if j=0 then(1:Int)else 0).natAbs<=_
 split<;>simp
theorem dI0 (i:Int):(abI i).natAbs=i.natAbs:=by
 unfold abI;split<;>omega
theorem cT7 {p:List Int}{n:Nat}(rp:dM p)(n4:n<=4)(i j:Nat)(hi:i<n):(reF p n i j).natAbs<=2^60:=by
 unfold reF d70;rw[eP];refine aM (yH _ (2^58) n λk hk=> ?_) ?_
 ·show(abI<|itT p n (vP 1) (i+k) j).natAbs<=_
  rw[dI0];exact aM (aF5 (n:=n) rp.ok.small cT6 (i+k) j) (gX ac aa)
 ·exact aM (pN _ n4) ac
theorem dI1 {m n i k:Nat}{T:Nat->Nat->Int}(h:i+k<=m):((tbF m n T).drop i).take k=((List.range k).map λj=>T (i+j)).map λf=>aN (rwF n f):=by
 unfold tbF;rw[eP];apply iL
 ·simp
  omega
 ·intro j h1 h2;simp
theorem dI2 {m n i k:Nat}{T:Nat->Nat->Int}(h:i+k<=m):cutD (tbF m n T) (some (i:Int)) (some<|(i:Int)+(k:Int))=((List.range k).map λj=>T (i+j)).map λf=>aN (rwF n f):=by
 have e:=cL2 (tbF m n T) i k (by rw[l8];exact h)
 rw[<-dI1 h,<-e]
 congr 2
def aO7:Φ:=λds Q=> ∃(C:Addr) (p:List Int) (n:Nat),ds=[cH C p]/\dM p/\p.length=n+1/\Q (.pu<|.int<|a59 4<|tbL n<|reF p n)
def b31:US:=(d6<|aS (bN 4)<|aB (aS dW<|aB (eF [1] [none,some 2,some 1,none] 3 (iX<|aB (aE 1) aL) (cT 0) (λρ Q=>Q true ρ)<|aS a21<|aB (uSl (aZ 1) (o8<|aE 0)<|o8<|uOp iZ (aE 0)<|aE 2) aL) aL) aL)
def b32:US:=(aW (kY (iX<|aB (uOp M.gSub (uOp iR (uC<|.int 2)<|aE 1)<|uC<|.int 2) aL) (cT 3)<|aR5 2<|aS t9<|aB (aE 0)<|aB (uIx (aZ 2)<|rF<|uC<|.int 1) aL) b31)
def aA9:US:=(aW (cA 2<|kF<|aB (aS oO<|aB (aE 0)<|aB (uC<|.int 1) aL) aL) b32)
def aO8:US:=(aW (cA 1<|nP "degree"<|aE 0) aA9)
theorem cG3: ∀ds Q,aO7 ds Q->aO8 {nx:=λ_=>Q (.pu .non),rt:=Q} (init ["r","n","p","s"] ds):=by
 rintro ds Q ⟨C,p,n,rfl,rp,hn,h⟩;have lo:=rp.ok.lo;have hi:=rp.ok.hi;have n2:2<=n:=aa
 have n4:n<=4:=aa
 unfold aO8;show(aW _ _:US) _ [some<|.pu<|cH C p,none,none,none];rw[aT,l7,kK (C:=C) (p:=p) rfl,show(p.length:Int)-1=(n:Int)by omega]
 show aA9 _ [some<|.pu<|cH C p,some<|.pu<|.int (n:Int),none,none]
 unfold aA9;rw[aT];walk_at "u";refine⟨C,p,n,1,rfl,rp,hn,?_⟩;try dsimp only
 refine⟨ac,?_⟩
 unfold b32;rw[aT];refine cC (2*n-2) (λk=> .int (0+(k:Int))) [some<|.pu<|cH C p,some<|.pu<|.int (n:Int),some<|.ow<|tbF 1 n<|itT p n<|vP 1,none] (λQ' q=> ?_)
  (λk ρ=> ∃x,ρ=[some<|.pu<|cH C p,some<|.pu<|.int (n:Int),some<|.ow<|tbF (k+1) n<|itT p n<|vP 1,x]) ⟨none,rfl⟩ ?_ ?_
 ·walk_at "u"
  refine⟨.inr ⟨bJ8 ac ac,bJ8 aa aa⟩,⟨aa,aa⟩,?_⟩
  rw[show(2*(n:Int)-2).toNat=2*n-2 by omega]
  exact q
 ·rintro k ρ hk ⟨x,rfl⟩;walk_at "u";rw[c58 aa,fN]
  dsimp only;refine⟨ae,C,p,n,itT p n (vP 1) k,rfl,rp,hn,?_⟩
  walk_at "u"
  rw[l8];refine⟨b6 (show k+1<10 by omega) ac,?_⟩
  have e:=d69 (k+1) n (itT p n<|vP 1);rw[show ttF p n (itT p n (vP 1) k)=itT p n (vP 1) (k+1)from rfl,e]
  exact⟨_,rfl⟩
 ·rintro ρ ⟨x,rfl⟩;dsimp only;rw[show 2*n-2+1=2*n-1 by omega]
  unfold b31;rw[i8,dJ,bT,dJ,bT]
  refine eS (t0:=0) n (λk=> .int (0+(k:Int))) [some<|.pu<|cH C p,some<|.pu<|.int (n:Int),some<|.ow<|tbF (2*n-1) n<|itT p n<|vP 1,x] (λQ' q=> ?_) aa (λx l'=>[x,some<|.bo<|tbF (2*n-1) n<|itT p n<|vP 1,some<|.pu<|.int (n:Int),some<|.ow l']) none rfl (λ_ _ _=>rfl) (λ_ _=>cV _) (λ_ _ _ q=>q) (λ_ _ _=>rfl) (λi=>aN (rwF n<|reF p n i)) ?_ ?_
  ·walk_at "u"
   refine⟨⟨aa,aa⟩,?_⟩
   rw[eB];exact q
  ·intro i l' Q' hi' q';rw[dD]at q'⊢;walk_at "u";rw[dI2 aa]
   refine⟨_,n,rfl,?_,?_,aa,q'⟩
   ·rw[aK,kB];omega
   ·rw[aK,kB];omega
  ·walk_at "u"
   refine⟨tbL n<|reF p n,by unfold bB7 tbL;rw[eP];rfl,d68 (e:=60) aa n4 ac λi j hi'=>cT7 rp n4 i j hi',h⟩
inductive Gen (n:Nat) (R:(Nat->Int)->Prop):(Nat->Int)->Prop
 | base {r}:R r->Gen n R r
 | zero:Gen n R λ_=>0
 | comb {a b} (k:Int):Gen n R a->Gen n R b->Gen n R λj=>a j+k*b j
 | cong {a b}:Gen n R a->(∀j,j<n->a j=b j)->Gen n R b
theorem Gen.mono {n:Nat}{R S:(Nat->Int)->Prop}(h: ∀r,R r->Gen n S r): ∀{v:Nat->Int},Gen n R v->Gen n S v:=by
 intro v hv
 induction hv with
 | base h1=>exact h _ h1
 | zero=>exact .zero
 | comb k _ _ i1 i2=>exact .comb k i1 i2
 | cong _ h1 i1=>exact .cong i1 h1
theorem Gen.mul {n:Nat}{R:(Nat->Int)->Prop}{v:Nat->Int}(h:Gen n R v)(k:Int):Gen n R λj=>k*v j:=(Gen.comb k .zero h).cong λj _=>ad
theorem Gen.sub {n:Nat}{R:(Nat->Int)->Prop}{a b:Nat->Int}(h:Gen n R a)(h2:Gen n R b):Gen n R λj=>a j-b j:=(Gen.comb (-1) h h2).cong λj _=>ad
theorem Gen.add {n:Nat}{R:(Nat->Int)->Prop}{a b:Nat->Int}(h:Gen n R a)(h2:Gen n R b):Gen n R λj=>a j+b j:=(Gen.comb 1 h h2).cong λj _=>ad
def Rows (n:Nat)(t:Nat->Nat->Int)(v:Nat->Int):Prop:= ∃i,i<n/\v=t i
noncomputable def yL (t:Nat->Nat->Int)(c:Nat->Int):Nat->Nat->Int
 | 0,_=>0
 | i+1,j=>yL t c i j+c i*t i j
theorem bQ3 (t:Nat->Nat->Int)(a b:Nat->Int)(k:Int): ∀n j,yL t (λi=>a i+k*b i) n j=yL t a n j+k*yL t b n j
 | 0,_=>by show(0:Int)=0+k*0;lia
 | n+1,j=>by
  show yL t _ n j+(a n+k*b n)*t n j=yL t a n j+a n*t n j+k*(yL t b n j+b n*t n j)
  rw[bQ3 t a b k n j]
  grind
theorem bQ4 (t:Nat->Nat->Int): ∀n j,yL t (λ_=>0) n j=0
 | 0,_=>rfl
 | n+1,j=>by show yL t _ n j+0*t n j=0;rw[bQ4 t n j];lia
theorem c67 (t:Nat->Nat->Int)(i:Nat): ∀n j,yL t (λl=>if l=i then 1 else 0) n j=if i<n then t i j else 0
 | 0,_=>by rw[a6 ad];rfl
 | n+1,j=>by
  show yL t _ n j+(if n=i then 1 else 0)*t n j=_
  rw[c67 t i n j]
  by_cases h:n=i
  ·subst h;rw[a6 ad,a9 rfl,a9 ad]
   lia
  ·rw[a6 h]
   by_cases h2:i<n
   ·rw[a9 h2,a9 ad];lia
   ·rw[a6 h2,a6 ad];lia
theorem Gen.sum {n k:Nat}{t:Nat->Nat->Int}{v:Nat->Int}(h:Gen n (Rows k t) v): ∃c:Nat->Int,∀j,j<n->v j=yL t c k j:=by
 induction h with
 | base h=>
  obtain⟨i,hi,rfl⟩:=h;exact⟨_,λj _=>by rw[c67,a9 hi]⟩
 | zero=>exact⟨_,λj _=>(bQ4 t k j).symm⟩
 | comb q _ _ i1 i2=>
  obtain⟨a,ha⟩:=i1;obtain⟨b,hb⟩:=i2;exact⟨λi=>a i+q*b i,λj hj=>by rw[bQ3,<-ha j hj,<-hb j hj]⟩
 | cong _ h1 i1=>
  obtain⟨a,ha⟩:=i1;exact⟨a,λj hj=>by rw[<-h1 j hj,ha j hj]⟩
theorem cM4 {n:Nat}{t:Nat->Nat->Int}(c:Nat->Int): ∀k,Gen n (Rows k t) (yL t c k)
 | 0=> .zero
 | k+1=> .comb (c k) ((cM4 c k).mono λr ⟨i,hi,e⟩=> .base ⟨i,ad,e⟩) (.base ⟨k,ad,rfl⟩)
structure Tri (n:Nat)(t:Nat->Nat->Int):Prop where
 pos: ∀i,i<n->1<=t i i
 zero: ∀i,i<n-> ∀j,i<j->t i j=0
theorem bE4 {n:Nat}{t:Nat->Nat->Int}(T:Tri n t)(c:Nat->Int): ∀k j,k<=n->k<=j->yL t c k j=0
 | 0,_,_,_=>rfl
 | k+1,j,hk,hj=>by
  show yL t c k j+c k*t k j=0
  rw[bE4 T c k j ad ad,T.zero k ad j ad]
  lia
theorem Tri.cut {n:Nat}{t:Nat->Nat->Int}(T:Tri n t){v c:Nat->Int}: ∀(d k i:Nat),k-i=d->k<=n->i<=k->(∀j,j<n->v j=yL t c k j)->(∀j,i<=j->j<n->v j=0)-> ∀j,j<n->v j=yL t c i j
 | 0,k,i,hd,hk,hi,h,_=>by
  have:k=i:=ad
  subst this;exact h
 | d+1,k,i,hd,hk,hi,h,hz=>by
  obtain⟨k',rfl⟩: ∃k',k=k'+1:=⟨k-1,ad⟩
  have e:=h k' ad
  rw[hz k' ad ad]at e
  have e2:(0:Int)=yL t c k' k'+c k'*t k' k':=e;rw[bE4 T c k' k' ad<|aF _]at e2
  have p:=T.pos k' ad
  have c0:c k'=0:=by
   rcases Int.mul_eq_zero.mp (show c k'*t k' k'=0 by lia)with z|z
   ·exact z
   ·lia
  refine T.cut d k' i ad ad ad (λj hj=> ?_) hz
  rw[h j hj];show yL t c k' j+c k'*t k' j=_;rw[c0]
  lia
theorem Tri.gen_cut {n:Nat}{t:Nat->Nat->Int}(T:Tri n t){v:Nat->Int}(h:Gen n (Rows n t) v){i:Nat}(hi:i<=n)(hz: ∀j,i<=j->j<n->v j=0):Gen n (Rows i t) v:=by
 obtain⟨c,hc⟩:=h.sum;exact(cM4 c i).cong λj hj=>(T.cut (n-i) n i rfl (aF _) hi hc hz j hj).symm
theorem Tri.lead {n:Nat}{t:Nat->Nat->Int}(T:Tri n t){v:Nat->Int}(h:Gen n (Rows n t) v){i:Nat}(hi:i<n)(hz: ∀j,i<j->j<n->v j=0):t i i∣v i:=by
 obtain⟨c,hc⟩:=h.sum;have e:=T.cut (n-(i+1)) n (i+1) rfl (aF _) hi hc hz i hi;have e2:v i=yL t c i i+c i*t i i:=e;rw[bE4 T c i i ad<|aF _]at e2
 exact⟨c i,by rw[e2,gG];lia⟩
structure c68 (n:Nat)(t:Nat->Nat->Int):Prop extends Tri n t where
 ahead: ∀i,i<n-> ∀j,j<i->0<=t i j/\t i j<t j j
theorem c68.uniq {n:Nat}{t u:Nat->Nat->Int}(T:c68 n t)(U:c68 n u)(h1: ∀i,i<n->Gen n (Rows n u) (t i))(h2: ∀i,i<n->Gen n (Rows n t) (u i)): ∀i,i<n-> ∀j,j<n->t i j=u i j:=by
 have diag: ∀i,i<n->t i i=u i i:=λi hi=>by
  have a:=U.toTri.lead (h1 i hi) hi λj hj hn=>T.zero i hi j hj
  have b:=T.toTri.lead (h2 i hi) hi λj hj hn=>U.zero i hi j hj
  have p1:=T.pos i hi;have p2:=U.pos i hi;have:=le_of_dvd ad a
  have:=le_of_dvd ad b
  lia
 intro i hi;have g:Gen n (Rows n t) λj=>t i j-u i j:=(Gen.base ⟨i,hi,rfl⟩).sub (h2 i hi)
 have main: ∀(d k:Nat),n-k=d->k<=n-> ∀j,k<=j->j<n->t i j-u i j=0:=by
  intro d
  induction d with
  | zero=>intro k hd hk j h1 h2;lia
  | succ d ih=>
   intro k hd hk j hj hn
   by_cases e:k=j
   ·subst e;have dv:=T.toTri.lead g hn λj h1 h2=>ih (k+1) ad ad j ad h2
    by_cases c1:k<i
    ·obtain⟨a1,a2⟩:=T.ahead i hi k c1;obtain⟨b1,b2⟩:=U.ahead i hi k c1;have dg:=diag k ad
     obtain⟨q,hq⟩:=dv;have p1:=T.pos k hn;have q0:q=0:=by
      rcases zL q 0 with z|z|z
      ·have:t k k*q<=t k k*(-1):=gW ad ad
       lia
      ·exact z
      ·have:t k k*1<=t k k*q:=gW ad ad
       lia
     rw[hq,q0]
     lia
    ·by_cases c2:k=i
     ·subst c2;have:=diag k hn;lia
     ·rw[T.zero i hi k ad,U.zero i hi k ad];lia
   ·exact ih (k+1) ad ad j ad hn
 intro j hj;have:=main n 0 ad ad j ad hj
 lia
noncomputable def mE (m:Int)(i:Nat):Nat->Int:=λj=>if j=i then m else 0
def RM (n:Nat)(m:Int)(R:(Nat->Int)->Prop)(v:Nat->Int):Prop:=R v\/ ∃i,i<n/\v=mE m i
theorem Gen.modE {n:Nat}{R:(Nat->Int)->Prop}{m:Int}{a b:Nat->Int}: ∀(k:Nat),k<=n->(∀i,i<k->Gen n R (mE m i))->Gen n R a->(∀j,j<k->m∣a j-b j)->(∀j,k<=j->j<n->a j=b j)->Gen n R b
 | 0,_,_,h,_,hz=>h.cong λj hj=>hz j ad hj
 | k+1,hk,hm,h,hd,hz=>by
  obtain⟨q,hq⟩:=hd k ad
  have h1:Gen n R λj=>a j+(-q)*mE m k j:= .comb (-q) h (hm k ad)
  refine Gen.modE k ad (λi hi=>hm i ad) h1 (λj hj=> ?_) (λj h1 h2=> ?_)
  ·have:mE m k j=0:=a6 ad
   rw[this];obtain⟨p,hp⟩:=hd j ad
   exact⟨p,ad⟩
  ·by_cases e:j=k
   ·subst e;have:mE m j j=m:=a9 rfl;rw[this,Int.neg_mul,gG q m]
    lia
   ·have:mE m k j=0:=a6 e;rw[this,hz j ad h2]
    lia
def RLs (n:Nat)(u:Nat->Nat->Int)(l:Nat->Int)(v:Nat->Int):Prop:=Rows n u v\/v=l
noncomputable def pA (u:Nat->Nat->Int)(l:Nat->Int)(m g s t:Int)(i:Nat):Nat->Nat->Int:=λr j=>if r=i then(if j<i then(s*u i j+t*l j)%m else if j=i then g else 0)else u r j
noncomputable def aO9 (u:Nat->Nat->Int)(l:Nat->Int)(m A B:Int)(i:Nat):Nat->Int:=λj=>if j<i then(A*l j+(-B)*u i j)%m else 0
theorem cM5 (x m:Int):m∣x-x%m:=⟨x/m,by have:=iH x m;omega⟩
theorem c69 (x m:Int):m∣x%m-x:=⟨-(x/m),by have:=iH x m;rw[u7];lia⟩
theorem dI3 {n i:Nat}{u:Nat->Nat->Int}{l:Nat->Int}{m g s t A B:Int}(hi:i<n)(T:Tri n u)(hE: ∀j,j<i->Gen n (Rows i u) (mE m j))(lz: ∀j,i<j->l j=0)(ha:u i i=g*A)(hb:l i=g*B)(hd:s*A+t*B=1)(g1:1<=g) :
  Tri n (pA u l m g s t i)/\(∀v,Gen n (RLs n (pA u l m g s t i)<|aO9 u l m A B i) v↔Gen n (RLs n u l) v):=by
 have nr: ∀r,r≠i->pA u l m g s t i r=u r:=λr hr=>by funext j;exact a6 hr
 refine⟨⟨λr hr=> ?_,λr hr j hj=> ?_⟩,?_⟩
 ·by_cases e:r=i
  ·subst e;show 1<=pA u l m g s t r r r;unfold pA;rw[a9 rfl,a6 ad,a9 rfl]
   exact g1
  ·rw[nr r e];exact T.pos r hr
 ·by_cases e:r=i
  ·subst e;unfold pA;rw[a9 rfl,a6 ad,a6 ad]
  ·rw[nr r e];exact T.zero r hr j hj
 have E1: ∀j,j<i->Gen n (RLs n u l) (mE m j):=λj hj=>(hE j hj).mono λr ⟨q,hq,e⟩=> .base (.inl ⟨q,ad,e⟩)
 have E2: ∀j,j<i->Gen n (RLs n (pA u l m g s t i)<|aO9 u l m A B i) (mE m j):=λj hj=>(hE j hj).mono λr ⟨q,hq,e⟩=> .base (.inl ⟨q,ad,by rw[nr q ad];exact e⟩)
 have H1:Gen n (RLs n u l) (u i):= .base (.inl ⟨i,hi,rfl⟩);have L1:Gen n (RLs n u l) l:= .base (.inr rfl);have X1:Gen n (RLs n u l) λj=>s*u i j+t*l j:=(H1.mul s).comb t L1
 have Y1:Gen n (RLs n u l) λj=>A*l j+(-B)*u i j:=(L1.mul A).comb (-B) H1
 have xi:s*u i i+t*l i=g:=by rw[ha,hb];grind
 have yi:A*l i+(-B)*u i i=0:=by rw[ha,hb];grind
 have above: ∀j,i<j->u i j=0:=λj hj=>T.zero i hi j hj
 have X2:Gen n (RLs n (pA u l m g s t i)<|aO9 u l m A B i) λj=>s*u i j+t*l j:=by
  refine Gen.modE i ad E2 (Gen.base<|.inl ⟨i,hi,rfl⟩) (λj hj=> ?_) (λj h1 h2=> ?_)
  ·show m∣pA u l m g s t i i j-_
   unfold pA;rw[a9 rfl,a9 hj];exact c69 _ _
  ·show pA u l m g s t i i j=_
   unfold pA;rw[a9 rfl,a6 ad]
   by_cases e:j=i
   ·subst e;rw[a9 rfl];exact xi.symm
   ·rw[a6 e,above j ad,lz j ad];lia
 have Y2:Gen n (RLs n (pA u l m g s t i)<|aO9 u l m A B i) λj=>A*l j+(-B)*u i j:=by
  refine Gen.modE i ad E2 (Gen.base<|.inr rfl) (λj hj=> ?_) (λj h1 h2=> ?_)
  ·show m∣aO9 u l m A B i j-_
   unfold aO9;rw[a9 hj];exact c69 _ _
  ·show aO9 u l m A B i j=_
   unfold aO9;rw[a6 ad]
   by_cases e:j=i
   ·subst e;exact yi.symm
   ·rw[above j ad,lz j ad];lia
 intro v;constructor
 ·refine Gen.mono λr hr=> ?_
  rcases hr with⟨q,hq,rfl⟩|rfl
  ·by_cases e:q=i
   ·subst e;refine Gen.modE q ad E1 X1 (λj hj=> ?_) (λj h1 h2=> ?_)
    ·show m∣_-pA u l m g s t q q j
     unfold pA;rw[a9 rfl,a9 hj];exact cM5 _ _
    ·show _=pA u l m g s t q q j
     unfold pA;rw[a9 rfl,a6 ad]
     by_cases e:j=q
     ·subst e;rw[a9 rfl];exact xi
     ·rw[a6 e,above j ad,lz j ad];lia
   ·rw[nr q e];exact .base (.inl ⟨q,hq,rfl⟩)
  ·refine Gen.modE i ad E1 Y1 (λj hj=> ?_) (λj h1 h2=> ?_)
   ·show m∣_-aO9 u l m A B i j
    unfold aO9;rw[a9 hj];exact cM5 _ _
   ·show _=aO9 u l m A B i j
    unfold aO9;rw[a6 ad]
    by_cases e:j=i
    ·subst e;exact yi
    ·rw[above j ad,lz j ad];lia
 ·refine Gen.mono λr hr=> ?_
  rcases hr with⟨q,hq,rfl⟩|hr
  ·by_cases e:q=i
   ·subst e;refine((X2.mul A).comb (-t) Y2).cong λj _=> ?_
    have:A*(s*u q j+t*l j)+ -t*(A*l j+ -B*u q j)=(s*A+t*B)*u q j:=by grind
    rw[this,hd];lia
   ·exact .base (.inl ⟨q,hq,by rw[nr q e]⟩)
  ·rw[hr];refine((X2.mul B).comb s Y2).cong λj _=> ?_
   have:B*(s*u i j+t*l j)+s*(A*l j+ -B*u i j)=(s*A+t*B)*l j:=by grind
   rw[this,hd];lia
structure GS (a b g s t:Int):Prop where
 g1:1<=g
 ga:g∣a
 gb:g∣b
 eq:g=s*a+t*b
 tb:t.natAbs<=2^600
 sb:s.natAbs<=2^1700
def uU:Φ:=λds Q=> ∃a b:Int,ds=[.int a,.int b]/\1<=a/\a<=2^600/\b.natAbs<=2^1000/\ ∀g s t,GS a b g s t->Q (.pu<|.tup [.int g,.int s,.int t])
def uW:US:=(cC8 4 5<|aB (aE 5)<|aB (uOp M.gSub (aE 4)<|uOp iR (aE 6)<|aE 5) aL)
def uX:US:=(aW (cC8 2 3<|aB (aE 3)<|aB (uOp M.gSub (aE 2)<|uOp iR (aE 6)<|aE 3) aL) uW)
def uY:US:=(aW (cA 6<|uOp aN8 (aE 2)<|aE 3) uX)
def yM:US:=(d6<|fY<|aB (aE 2)<|aB (uOp aN8 (uOp M.gSub (aE 2)<|uOp iR (aE 4)<|aE 1)<|aE 0)<|aB (aE 4) aL)
def yN:US:=(aW (aW8 (eX<|uOp (kG true) (aE 3)<|uC<|.int 0) uY) yM)
def yO:US:=(aW (cC7 (fY<|aB (uC<|.int 0)<|aB (uC<|.int 1) aL)<|lZ<|cZ 4<|cZ 5 lY) yN)
def uZ:US:=(aW (cC8 2 3<|aB (aE 0)<|aB (uOp oE (aE 1)<|aE 0) aL) yO)
structure EI (a b g low t later:Int):Prop where
 g1:1<=g
 l0:0<=low
 lg:low<g
 ga:g<=a
 d1:a∣g-t*b
 d2:a∣low-later*b
 gc: ∀d:Int,d∣g->d∣low->d∣a/\d∣b
 sg: ∃e T L:Int,(e=1\/e= -1)/\0<=T/\0<=L/\t=e*T/\later= -e*L/\g*L+low*T=a/\T<=a
theorem EI.step {a b g low t later:Int}(h:EI a b g low t later)(l1:low≠0):EI a b low (g-g/low*low) later (t-g/low*later):=by
 obtain⟨g1,l0,lg,ga,d1,d2,gc,e,T,L,he,hT,hL,rfl,rfl,hs,hTa⟩:=h;have lp:0<low:=ad
 have em:=iH g low;have m0:=bZ g (show low≠0 by lia)
 have m1:=cE g lp;have q0:0<=g/low:=Int.ediv_nonneg ad ad
 have ec:g/low*low=low*(g/low):=gG _ _;generalize g/low=q at *;refine⟨ad,ad,ad,ad,d2,?_,?_,-e,L,T+q*L,?_,hL,?_,?_,?_,?_,?_⟩
 ·obtain⟨x,hx⟩:=d1;obtain⟨y,hy⟩:=d2;exact⟨x-q*y,by rw[Int.mul_sub,<-hx,show a*(q*y)=q*(a*y)by grind,<-hy];grind⟩
 ·intro d h1 h2;refine gc d ?_ h1;have:=u8 h2 (Int.dvd_trans h1 ⟨q,ec⟩);rw[show g-q*low+q*low=g by lia]at this
  exact this
 ·lia
 ·have:=qA q0 hL;lia
 ·rfl
 ·grind
 ·have:low*(T+q*L)+(g-q*low)*L=g*L+low*T:=by grind
  rw[this];exact hs
 ·have:L*1<=L*g:=gW g1 hL;have:=qA l0 hT;rw[gG L g]at *
  lia
theorem sQ {x:Int}{e:Nat}(h:x.natAbs<=2^e)(he:e<9000):Sm x:=Sm.pow h he
theorem bE5: ∀ds Q,uU ds Q->uZ {nx:=λ_=>Q (.pu .non),rt:=Q} (init ["a","b","g","l","t","r","m"] ds):=by
 rintro ds Q ⟨a,b,rfl,a1,a2,b2,h⟩;unfold uZ;show(aW _ _:US) _ [some<|.pu<|.int a,some<|.pu<|.int b,none,none,none,none,none];rw[aT];walk_at "u";rw[dI _ ad]
 refine⟨ad,?_⟩
 unfold yO;rw[aT];walk_at "u";unfold yN;rw[aT];have a600:a.natAbs<=2^600:=ad
 refine⟨ac,ac,ac,trivial,?_⟩
 refine⟨λk ρ=> ∃g low t later m,ρ=[some<|.pu<|.int a,some<|.pu<|.int b,some<|.pu<|.int g,some<|.pu<|.int low,some<|.pu<|.int t,some<|.pu<|.int later,m]/\k=low.toNat/\EI a b g low t later,⟨_,a,b%a,0,1,none,rfl,rfl,?_⟩,?_⟩
 ·have em:=iH b a;refine⟨a1,bZ _ ad,cE _ ad,Int.le_refl _,⟨1,ad⟩,⟨-(b/a),?_⟩,λd h1 h2=>⟨h1,?_⟩,-1,0,1,.inr rfl,ad,ad,ad,ad,ad,ad⟩
  ·rw[u7];lia
  ·have:=u8 h2 (Int.dvd_trans h1<|Int.dvd_mul_right a<|b/a);rw[em]at this;exact this
 ·rintro k ρ ⟨g,low,t,later,m,rfl,rfl,I⟩;walk_at "u";have g1:=I.g1;have l0:=I.l0;have lg:=I.lg;have ga:=I.ga;have sg:Sm g:=sQ (e:=600) ad ad
  have slow:Sm low:=sQ (e:=600) ad ad
  have hst:t.natAbs<=2^600/\later.natAbs<=2^600:=by
   obtain⟨e,T,L,he,hT,hL,ht,hl,hs,hTa⟩:=I.sg;have:L*1<=L*g:=gW g1 hL;have:=qA l0 hT;rw[gG L g]at *;rcases he with rfl|rfl<;>lia
  by_cases c:low=0
  ·rw[a6 ad]
   unfold yM;walk_at "u";have ea:g∣a/\g∣b:=I.gc g (Int.dvd_refl _) (by rw[c];exact Int.dvd_zero _)
   have dv:=I.d1;obtain⟨q,hq⟩:=dv;have ed:(g-t*b)/a=q:=by rw[hq,aK6 _ ad]
   have sb:(t*b).natAbs<=2^600*2^1000:=by rw[eO];exact fS hst.1 b2
   have e16:(2:Nat)^600*2^1000=2^1600:=by rw[<-gI]
   rw[e16]at sb;have e17:(2:Nat)^600+2^1600<=2^1700:=af
   have gb:g.natAbs<=2^600:=ad
   have sm1:(g-t*b).natAbs<=2^1700:=by
    have:=zK g (t*b);generalize (g-t*b).natAbs=x at *;generalize (t*b).natAbs=y at *
    lia
   rw[kH _ ad,ed]
   refine⟨.inr ⟨sQ hst.1 ad,sQ b2 ad⟩,⟨ad,sQ a600 ad⟩,ac,h g q t ⟨g1,ea.1,ea.2,?_,hst.1,?_⟩⟩
   ·rw[gG q a];lia
   ·have:q=(g-t*b)/a:=ed.symm;rw[this];exact aM (pI _ _) sm1
  ·rw[a9 c];have st:=I.step c;unfold uY;rw[aT];walk_at "u";rw[kH _ ad]
   refine⟨⟨ad,slow⟩,?_⟩
   have qb:(g/low).natAbs<=2^600:=aM (pI _ _) ad
   unfold uX;rw[aT];walk_at "u";refine⟨.inr ⟨sQ qb ad,slow⟩,?_⟩
   unfold uW;walk_at "u";refine⟨.inr ⟨sQ qb ad,sQ hst.2 ad⟩,_,?_,_,_,_,_,_,rfl,rfl,st⟩
   have:=st.l0;have:=st.lg
   lia
def a23:Φ:=λds Q=> ∃(s t m:Int) (n1 n2 k:Nat) (f h:Nat->Int),ds=[.int s,aN<|rwF n1 f,.int t,aN<|rwF n2 h,.int m,.int (k:Int)]/\k<=n1/\k<=n2/\n1<=100/\n2<=100/\1<=m/\m<=2^600/\s.natAbs<=2^1700/\t.natAbs<=2^1700/\(∀j,(f j).natAbs<=2^1000)/\(∀j,(h j).natAbs<=2^1000)/\Q (.pu<|aN<|rwF k λj=>(s*f j+t*h j)%m)
def aP0:US:=(d6<|aS dW<|aB (eF [0,2,4] [none,none,some 0,some 2,some 4,none] 5 (dE5<|aB (c27 (aE 1) mI<|o8<|aE 5)<|aB (c27 (aE 3) mI<|o8<|aE 5) aL) (lZ<|cZ 0<|cZ 1 lY) (λρ Q=>Q true ρ)<|uOp oE (uOp iZ (uOp iR (aE 2)<|aE 0)<|uOp iR (aE 3)<|aE 1)<|aE 4) aL)
theorem bW7 {n k:Nat}{f:Nat->Int}(h:k<=n):cutD ((rwF n f).map D.int) none (some (k:Int))=(rwF k f).map D.int:=by
 rw[cF5 _ _ (by rw[b9];exact h),<-nJ]
 congr 1
 unfold rwF;rw[<-nJ,List.take_range,nF h]
theorem cG4: ∀ds Q,a23 ds Q->aP0 {nx:=λ_=>Q (.pu .non),rt:=Q} (init ["s","o","t","h","m","z"] ds):=by
 rintro ds Q ⟨s,t,m,n1,n2,k,f,h,rfl,k1,k2,n1b,n2b,m1,m2,sb,tb,fb,hb,q0⟩;unfold aP0;show(d6 _:US) _ [some<|.pu<|.int s,some<|.pu<|aN<|rwF n1 f,some<|.pu<|.int t,some<|.pu<|aN<|rwF n2 h,some<|.pu<|.int m,some<|.pu<|.int (k:Int)];rw[i8,dJ,bT];simp only[aN]
 refine bC0 (t0:=0) (t1:=1) k (λj=>((rwF k f).map D.int).getD j .non) (λj=>((rwF k h).map D.int).getD j .non) [some<|.pu<|.int s,some<|.pu<|.tup<|(rwF n1 f).map .int,some<|.pu<|.int t,some<|.pu<|.tup<|(rwF n2 h).map .int,some<|.pu<|.int m,some<|.pu<|.int (k:Int)] ?_ ad
  (λx y l=>[x,y,some<|.pu<|.int s,some<|.pu<|.int t,some<|.pu<|.int m,some<|.ow l]) none none rfl (λ_ _ _ _ _=>rfl) (λ_ _ _=>⟨ae,ae⟩) (λ_ _ _ _ q=>q) (λ_ _ _ _=>rfl) (λj=> .int ((s*f j+t*h j)%m)) ?_ ?_
 ·intro Q' q;walk_at "u";rw[bW7 k1,bW7 k2,b9,b9,Nat.min_self];exact q
 ·intro j l Q' hj q;rw[rJ hj,rJ hj]at q⊢;walk_at "u";rw[dI _ ad]
  exact⟨.inr ⟨sQ sb ad,sQ (fb j) ad⟩,.inr ⟨sQ tb ad,sQ (hb j) ad⟩,ad,q⟩
 ·walk_at "u"
  rw[rK];exact q0
structure TOk (n:Nat)(m:Int)(t:Nat->Nat->Int):Prop extends Tri n t where
 m1:1<=m
 m2:m<=2^600
 lo: ∀i j,0<=t i j
 hi: ∀i j,t i j<=m
 all: ∀i,i<n->Gen n (Rows n t) (mE m i)
def wY:Φ:=λds Q=> ∃(n:Nat) (m:Int) (t:Nat->Nat->Int) (f:Nat->Int),ds=[.lst<|tbF n n t,.int m,aN<|rwF n f]/\n<=8/\TOk n m t/\(∀j,(f j).natAbs<=2^1000)/\(∀j,n<=j->f j=0)/\ ∀u,TOk n m u->(∀v,Gen n (Rows n u) v↔Gen n (RLs n t f) v)->Q (.ow<|tbF n n u)
def vW:US:=(cA 4<|aS a23<|aB (uOp aN8 (uIx (aZ 6)<|aE 5)<|aE 7)<|aB (aE 4)<|aB (uOp aN8 (rF<|uIx (aZ 4)<|aE 5)<|aE 7)<|aB (aE 6)<|aB (aE 1)<|aB (aE 5) aL)
def vX:US:=(aW (b21 3 (uOp iZ (uOp iZ (aS a23<|aB (aE 8)<|aB (aE 6)<|aB (aE 9)<|aB (aE 4)<|aB (aE 1)<|aB (aE 5) aL)<|fY<|aB (aE 7) aL)<|c27 (aE 6) (o8<|uOp iZ (aE 5)<|uC<|.int 1) mI)<|aE 5) vW)
def vY:US:=(aW (cC7 (aS uU<|aB (uIx (aZ 6)<|aE 5)<|aB (uIx (aZ 4)<|aE 5) aL)<|lZ<|cZ 7<|cZ 8<|cZ 9 lY) vX)
def oP:US:=(aW (cA 6<|uIx (aZ 3)<|aE 5) vY)
def a60:US:=(rE 3)
def a61:US:=(aW (kY (c29<|aB (l6<|aZ 2) aL) (cT 5) oP) a60)
def a62:US:=(aW (cA 4<|aE 2) a61)
def wZ:US:=(aW (cA 3<|aS aE9<|aB (aE 0) aL) a62)
theorem d72 {n i:Nat}{u:Nat->Nat->Int}{l:Nat->Int}{m g s t:Int}(hi:i<n)(hz: ∀j,i<j->u i j=0) :
  (rwF i λj=>(s*u i j+t*l j)%m).map D.int++[D.int g]++cutD ((rwF n<|u i).map D.int) (some<|(i:Int)+1) none=(rwF n<|pA u l m g s t i i).map D.int:=by
 rw[show(i:Int)+1=((i+1:Nat):Int)by lia,a90 _ _ (by rw[b9];lia)]
 apply n6
 intro j
 by_cases h1:j<i
 ·rw[fM (by simp[rwF];lia),fM (by simp[rwF];lia),fK h1,fK ad]
  congr 2
  unfold pA;rw[a9 rfl,a9 h1]
 ·by_cases h2:j=i
  ·subst h2;rw[fM<|by simp[rwF],gD<|by simp[rwF],b9,nL,fK hi]
   unfold pA;rw[a9 rfl,a6 h1,a9 rfl];rfl
  ·rw[gD (by simp[rwF];lia),List.getElem?_drop]
   simp only[bO,b9,eA,mW];rw[show i+1+(j-(i+1))=j by lia]
   by_cases h3:j<n
   ·rw[fK h3,fK h3,hz j ad]
    unfold pA;rw[a9 rfl,a6 h1,a6 h2]
   ·rw[eM (by rw[b9];lia),eM (by rw[b9];lia)]
theorem dI4 {n m i:Nat}{u u':Nat->Nat->Int}(hi:i<n)(h: ∀r,r≠i->u' r=u r):(tbF n m u).set i (aN<|rwF m<|u' i)=tbF n m u':=by
 apply n6
 intro j
 by_cases e:i=j
 ·subst e;rw[hV (by rw[l8];exact hi),aF3 hi]
 ·rw[get_set_ne e]
  by_cases hj:j<n
  ·rw[aF3 hj,aF3 hj,h j λz=>e z.symm]
  ·rw[eM (by rw[l8];lia),eM (by rw[l8];lia)]
theorem p6:(2:Nat)^600<=2^1000:=gX ac ac
theorem p6':(2:Int)^600=((2^600:Nat):Int):=by norm_cast
theorem bK6: ∀ds Q,wY ds Q->wZ {nx:=λ_=>Q (.pu .non),rt:=Q} (init ["a","m","r","f","l","i","h","g","s","t"] ds):=by
 rintro ds Q ⟨n,m,t,f,rfl,n8,ok,fb,fz,h⟩;have m1:=ok.m1;have m2:=ok.m2;rw[p6']at m2;have t6: ∀x:Int,0<=x->x<=m->x.natAbs<=2^600:=λx h1 h2=>ad
 have t10: ∀x:Int,0<=x->x<=m->x.natAbs<=2^1000:=λx h1 h2=>aM (t6 x h1 h2) p6
 unfold wZ;show(aW _ _:US) _ [some<|.pu<|.lst<|tbF n n t,some<|.pu<|.int m,some<|.pu<|aN<|rwF n f,none,none,none,none,none,none,none];rw[aT];walk_at "u";unfold a62;rw[aT];walk_at "u";unfold a61;rw[aT]
 refine cC n (λk=> .int ((n:Int)-1-k)) [some<|.pu<|.lst<|tbF n n t,some<|.pu<|.int m,some<|.pu<|aN<|rwF n f,some<|.ow<|tbF n n t,some<|.pu<|aN<|rwF n f,none,none,none,none,none] ?_
  (λk ρ=> ∃(u:Nat->Nat->Int) (l:Nat->Int) (x5 x6 x7 x8 x9:Option B),ρ=[some<|.pu<|.lst<|tbF n n t,some<|.pu<|.int m,some<|.pu<|aN<|rwF n f,some<|.ow<|tbF n n u,some<|.pu<|aN<|rwF (n-k) l,x5,x6,x7,x8,x9]/\Tri n u/\(∀i j,0<=u i j)/\(∀i j,u i j<=m)/\(∀i,i<n-k->u i=t i)/\(∀j,n-k<=j->l j=0)/\(∀j,(l j).natAbs<=2^1000)/\ ∀v,Gen n (RLs n u l) v↔Gen n (RLs n t f) v)
  ⟨t,f,_,_,_,_,_,rfl,ok.toTri,ok.lo,ok.hi,λ_ _=>rfl,fz,fb,λv=>Iff.rfl⟩ ?_ ?_
 ·intro Q' q;simp only[aN];walk_at "u";rw[b9];refine⟨⟨ad,ad⟩,?_⟩
  rw[eB];exact q
 ·rintro k ρ hk ⟨u,l,x5,x6,x7,x8,x9,rfl,T,lo,hi',un,lz,lb,G⟩;obtain⟨i,hi⟩: ∃i:Nat,i=n-1-k:=⟨_,rfl⟩;have hin:i<n:=ad
  have eN:n-k=i+1:=ad
  have eN':n-(k+1)=i:=ad
  have ei:(n:Int)-1-(k:Int)=(i:Int):=ad
  rw[eN]at un lz⊢;rw[ei];refine⟨ae,?_⟩
  show oP _ [some<|.pu<|.lst<|tbF n n t,some<|.pu<|.int m,some<|.pu<|aN<|rwF n f,some<|.ow<|tbF n n u,some<|.pu<|aN<|rwF (i+1) l,some<|.pu<|.int (i:Int),x6,x7,x8,x9]
  have e1:atI (tbF n n u) (i:Int)=some (aN<|rwF n<|u i):=d39 hin;have e2:atI ((rwF n<|u i).map D.int) (i:Int)=some (.int<|u i i):=rZ hin;have e3:atI ((rwF (i+1) l).map D.int) (i:Int)=some (.int<|l i):=rZ ad
  unfold oP;rw[aT];walk_at "u";simp only[e1];have dg:=T.pos i hin;have dh:=hi' i i;unfold vY;rw[aT];simp only[aN];walk_at "u";simp only[e2,e3];refine⟨u i i,l i,rfl,dg,by rw[p6'];lia,lb i,λg s t' gs=> ?_⟩
  obtain⟨g1,⟨A,hA⟩,⟨B,hB⟩,heq,tb,sb⟩:=gs;refine⟨ae,ae,ae,rfl,?_⟩
  have hd:s*A+t'*B=1:=by
   have:g*(s*A+t'*B)=g*1:=by
    rw[jF];have:g*(s*A+t'*B)=s*(g*A)+t'*(g*B):=by grind
    rw[this,<-hA,<-hB];exact heq.symm
   exact Int.eq_of_mul_eq_mul_left ad this
  have gle:g<=u i i:=by
   have:g∣u i i:=⟨A,hA⟩;exact le_of_dvd ad this
  have dA:u i i/g=A:=by rw[hA,aK6 _ ad]
  have dB:(-l i)/g= -B:=by rw[hB,show -(g*B)=g*(-B)by rw[u7],aK6 _ ad]
  have Ab:A.natAbs<=2^1700:=by
   rw[<-dA];exact aM (pI _ _) (aM (t6 _ (lo i i) dh)<|gX ac ac)
  have Bb:(-B).natAbs<=2^1700:=by
   rw[<-dB];refine aM (pI _ _) ?_;rw[zU];exact aM (lb i) (gX ac ac)
  have sg:Sm g:=sQ (t6 g ad ad) ad
  unfold vX;rw[aT];walk_at "u";refine⟨s,t',m,n,i+1,i,u i,l,rfl,ad,ad,ad,ad,m1,by rw[p6'];lia,sb,aM tb<|gX ac ac,λj=>t10 _ (lo i j) (hi' i j),lb,?_⟩
  simp only[aN];walk_at "u";have hz: ∀j,i<j->u i j=0:=λj hj=>T.zero i hin j hj
  have lz': ∀j,i<j->l j=0:=λj hj=>lz j ad
  have hE: ∀j,j<i->Gen n (Rows i u) (mE m j):=λj hj=>by
   have g0:=ok.toTri.gen_cut (ok.all j ad) (i:=i) ad λq h1 h2=>a6 ad
   exact g0.mono λr ⟨q,hq,e⟩=> .base ⟨q,hq,by rw[un q ad];exact e⟩
  obtain⟨T',G'⟩:=dI3 (m:=m) hin T hE lz' hA hB hd g1;have nr: ∀r,r≠i->pA u l m g s t' i r=u r:=λr hr=>by funext j;exact a6 hr
  have cl:(cutD ((rwF n<|u i).map D.int) (some<|(i:Int)+1) none).length<=n:=by
   rw[show(i:Int)+1=((i+1:Nat):Int)by lia,a90 _ _ (by rw[b9];lia),pY,b9]
   lia
  have big:(100:Nat)<=sizeLine:=ac
  refine⟨ac,by rw[b9];lia,by rw[bO,b9];simp only[eA,mW];lia,?_⟩
  rw[l8,dF2 hin];dsimp only;rw[d72 hin hz];have es:(tbF n n u).set i (D.tup<|(rwF n<|pA u l m g s t' i i).map D.int)=tbF n n (pA u l m g s t' i):=dI4 hin nr;rw[es];unfold vW;walk_at "u";simp only[e2,e3];rw[kH _ ad,kH _ ad,dA,dB]
  refine⟨⟨ad,sg⟩,⟨ad,sg⟩,A,-B,m,i+1,n,i,l,u i,rfl,ad,ad,ad,ad,m1,by rw[p6'];lia,Ab,Bb,lb,λj=>t10 _ (lo i j) (hi' i j),?_⟩
  have mm: ∀x:Int,0<=x%m/\x%m<m:=λx=>⟨bZ _ ad,cE _ ad⟩
  have rb: ∀r j,0<=pA u l m g s t' i r j/\pA u l m g s t' i r j<=m:=λr j=>by
   by_cases e:r=i
   ·subst e;unfold pA;rw[a9 rfl];split
    ·have:=mm (s*u r j+t'*l j);lia
    ·split<;>lia
   ·rw[nr r e];exact⟨lo r j,hi' r j⟩
  refine⟨pA u l m g s t' i,aO9 u l m A B i,some<|.pu<|.int (i:Int),some<|.pu<|.tup<|(rwF n<|u i).map .int,some<|.pu<|.int g,some<|.pu<|.int s,some<|.pu<|.int t',?_,T',λr j=>(rb r j).1,λr j=>(rb r j).2,?_,?_,?_,λv=>(G' v).trans (G v)⟩
  ·rw[eN'];simp only[aN];rw[show rwF i (aO9 u l m A B i)=rwF i (λj=>(A*l j+ -B*u i j)%m)from qJ λj hj=>a9 hj]
  ·intro r hr;rw[eN']at hr;rw[nr r ad,un r ad]
  ·intro j hj;rw[eN']at hj;exact a6 ad
  ·intro j;unfold aO9;split
   ·have:=mm (A*l j+ -B*u i j);exact t10 _ ad ad
   ·exact cP _
 ·rintro ρ ⟨u,l,x5,x6,x7,x8,x9,rfl,T,lo,hi',un,lz,lb,G⟩;unfold a60;walk_at "u";have l0:l=λ_=>0:=by funext j;exact lz j ad
  have G2: ∀v,Gen n (Rows n u) v↔Gen n (RLs n t f) v:=λv=>by
   rw[<-G v];exact⟨Gen.mono λr hr=> .base (.inl hr),Gen.mono λr hr=>hr.elim .base λe=>by rw[e,l0];exact .zero⟩
  refine h u ⟨T,m1,ok.m2,lo,hi',λi hi=>(G2 _).mpr ((ok.all i hi).mono λr hr=> .base (.inl hr))⟩ G2
noncomputable def pC (t:Nat->Nat->Int)(i:Nat)(f:Nat->Int):Nat->Int:=λj=>f j-(f i/t i i)*t i j
noncomputable def kL (t:Nat->Nat->Int):Nat->(Nat->Int)->Nat->Int
 | 0,f=>f
 | i+1,f=>kL t i (pC t i f)
theorem vZ {n:Nat}{t:Nat->Nat->Int}(S:Tri n t): ∀(i:Nat) (f:Nat->Int),i<=n-> ∀j,i<=j->kL t i f j=f j
 | 0,f,_,j,_=>rfl
 | i+1,f,hi,j,hj=>by
  show kL t i (pC t i f) j=f j
  rw[vZ S i _ ad j ad]
  unfold pC;rw[S.zero i ad j ad]
  lia
theorem b33 {n:Nat}{t:Nat->Nat->Int}(S:Tri n t): ∀(i:Nat) (f:Nat->Int),i<=n-> ∀j,j<i->0<=kL t i f j/\kL t i f j<t j j
 | i+1,f,hi,j,hj=>by
  show 0<=kL t i (pC t i f) j/\kL t i (pC t i f) j<t j j
  by_cases e:j=i
  ·subst e;rw[vZ S j _ ad j<|aF _]
   have hp:=S.pos j ad
   have h1:=bZ (f j) (show t j j≠0 by lia)
   have h2:=cE (f j) (show 0<t j j by lia)
   have h3:pC t j f j=f j%t j j:=by
    have:=iH (f j) (t j j);unfold pC;rw[gG<|f j/t j j]
    lia
   rw[h3];exact⟨h1,h2⟩
  ·exact b33 S i _ ad j ad
theorem bQ5 {n:Nat}{t:Nat->Nat->Int}: ∀(i:Nat) (f:Nat->Int),Gen n (Rows i t) λj=>f j-kL t i f j
 | 0,f=>Gen.zero.cong λj _=>by show(0:Int)=f j-f j;lia
 | i+1,f=>by
  have h1:Gen n (Rows (i+1) t) λj=>pC t i f j-kL t i (pC t i f) j:=(bQ5 i<|pC t i f).mono λr ⟨q,hq,e⟩=> .base ⟨q,ad,e⟩
  have h2:Gen n (Rows (i+1) t) (t i):= .base ⟨i,ad,rfl⟩
  refine(h1.comb (f i/t i i) h2).cong λj _=> ?_
  show pC t i f j-kL t i (pC t i f) j+f i/t i i*t i j=f j-kL t i (pC t i f) j
  unfold pC
  lia
theorem c70 {t:Nat->Nat->Int}{g:Nat->Int}{i b:Nat}(ht: ∀j,(t i j).natAbs<=2^600)(hg: ∀j,(g j).natAbs<=2^b): ∀j,(pC t i g j).natAbs<=2^(b+601):=by
 intro j;unfold pC;have h1:=hg j;have h2:(g i/t i i).natAbs<=2^b:=aM (pI _ _) (hg i);have h3:((g i/t i i)*t i j).natAbs<=2^b*2^600:=by rw[eO];exact fS h2 (ht j)
 have h4:(g j-(g i/t i i)*t i j).natAbs<=(g j).natAbs+((g i/t i i)*t i j).natAbs:=zK _ _;have e:2^(b+601)=2^b*2^600+2^b*2^600:=by
  rw[show b+601=b+600+1 from rfl,zZ,gI];lia
 have h5:2^b<=2^b*2^600:=Nat.le_mul_of_pos_right _ (Nat.pow_pos ac)
 generalize 2^b*2^600=X at *;generalize 2^b=Y at *;generalize 2^(b+601)=Z at *
 lia
def aZ2:Φ:=λds Q=> ∃(i n:Nat) (t:Nat->Nat->Int) (f:Nat->Int),ds=[.lst<|tbF i n t,aN<|rwF i f]/\i<=n/\n<=8/\(∀r,r<i->0<t r r)/\(∀r j,(t r j).natAbs<=2^600)/\(∀j,(f j).natAbs<=2^600)/\Q (.pu<|aN<|rwF i<|kL t i f)
def aI2:US:=(cA 2<|aS dW<|aB (eF [4] [none,none,some 4,none] 3 (dE5<|aB (aE 2)<|aB (uIx (aZ 0)<|aE 3) aL) (lZ<|cZ 0<|cZ 1 lY) (λρ Q=>Q true ρ)<|uOp M.gSub (aE 0)<|uOp iR (aE 2)<|aE 1) aL)
def xA:US:=(aW (cA 4<|uOp aN8 (uIx (aZ 2)<|aE 3)<|uIx (uV<|uIx (aZ 0)<|aE 3)<|aE 3) aI2)
def b34:US:=(rE 2)
def b35:US:=(aW (kY (c29<|aB (l6<|aZ 1) aL) (cT 3) xA) b34)
def aZ3:US:=(aW (cA 2<|aE 1) b35)
theorem cT8: ∀ds Q,aZ2 ds Q->aZ3 {nx:=λ_=>Q (.pu .non),rt:=Q} (init ["t","r","l","i","m"] ds):=by
 rintro ds Q ⟨I,n,t,f,rfl,hI,n8,tp,tb,fb,h⟩;unfold aZ3;show(aW _ _:US) _ [some<|.pu<|.lst<|tbF I n t,some<|.pu<|aN<|rwF I f,none,none,none];walk_at "u";unfold b35;rw[aT];refine cC I (λk=> .int (((I:Int))-1-k)) [some<|.pu<|.lst<|tbF I n t,some<|.pu<|aN<|rwF I f,some<|.pu<|aN<|rwF I f,none,none] ?_
  (λk ρ=> ∃g x y,ρ=[some<|.pu<|.lst<|tbF I n t,some<|.pu<|aN<|rwF I f,some<|.pu<|aN<|rwF I g,x,y]/\kL t (I-k) g=kL t I f/\ ∀j,(g j).natAbs<=2^(600+601*k)) ⟨f,none,none,rfl,rfl,λj=>fb j⟩ ?_ ?_
 ·intro Q' q;simp only[aN];walk_at "u";rw[b9];refine⟨⟨ad,ad⟩,?_⟩
  rw[eB];exact q
 ·rintro k ρ hk ⟨g,x,y,rfl,hr,hb⟩;obtain⟨i,hi⟩: ∃i:Nat,i=I-1-k:=⟨_,rfl⟩;have hin:i<I:=ad
  have ei:(I:Int)-1-(k:Int)=(i:Int):=ad
  have hpos:=tp i hin;rw[ei];refine⟨ae,?_⟩
  show xA _ [some<|.pu<|.lst<|tbF I n t,some<|.pu<|aN<|rwF I f,some<|.pu<|aN<|rwF I g,some<|.pu<|.int (i:Int),y]
  unfold xA;rw[aT];have e1:atI ((rwF I g).map D.int) (i:Int)=some (.int<|g i):=rZ hin;have e2:atI (tbF I n t) (i:Int)=some (.tup<|(rwF n<|t i).map .int):=d39 hin;have e3:atI ((rwF n<|t i).map D.int) (i:Int)=some (.int<|t i i):=rZ ad
  simp only[aN];walk_at "u";simp only[e1,e2,e3];rw[kH _ hpos];refine⟨⟨ad,sQ (tb i i) ad⟩,?_⟩
  unfold aI2;rw[l7,dJ,bT];refine bC0 (t0:=0) (t1:=1) I (λj=>((rwF I g).map D.int).getD j .non) (λj=>((rwF n<|t i).map D.int).getD j .non) [some<|.pu<|.lst<|tbF I n t,some<|.pu<|.tup<|(rwF I f).map .int,some<|.pu<|.tup<|(rwF I g).map .int,some<|.pu<|.int (i:Int),some<|.pu<|.int<|g i/t i i] ?_ ad
   (λx y l=>[x,y,some<|.pu<|.int<|g i/t i i,some<|.ow l]) none none rfl (λ_ _ _ _ _=>rfl) (λ_ _ _=>⟨ae,ae⟩) (λ_ _ _ _ q=>q) (λ_ _ _ _=>rfl) (λj=> .int (pC t i g j)) ?_ ?_
  ·intro Q' q;walk_at "u";rw[e2];walk_at "u";rw[b9,b9,nF hI];exact q
  ·intro j l Q' hj q;rw[rJ hj,rJ ad]at q⊢
   walk_at "u"
   refine⟨.inr ⟨sQ (aM (pI _ _)<|hb i) ad,sQ (tb i j) ac⟩,?_⟩
   exact q
  ·walk_at "u"
   rw[rK];refine⟨pC t i g,_,_,rfl,?_,λj=> ?_⟩
   ·rw[<-hr,show I-k=i+1 by lia,show I-(k+1)=i by lia]
    rfl
   ·have:=c70 (i:=i) (tb i) hb j;rw[show 600+601*(k+1)=600+601*k+601 by lia]
    exact this
 ·rintro ρ ⟨g,x,y,rfl,hr,hb⟩;unfold b34;walk_at "u";rw[nL]at hr;have:g=kL t I f:=hr;rw[this];exact h
noncomputable def fnL (l:List Int):Nat->Int:=λj=>l.getD j 0
theorem dI5 {l:List Int}{n:Nat}(h:l.length=n):aN l=aN (rwF n<|fnL l):=by
 rw[<-h];exact bQ aN (bV0 l)
theorem d73 {l:List Int}{n:Nat}(h:l.length=n): ∀j,n<=j->fnL l j=0:=λj hj=>by
 unfold fnL;rw[aJ,eM ad]
 rfl
theorem cT9 {l:List Int}{b:Nat}(h: ∀x∈l,x.natAbs<=b): ∀j,(fnL l j).natAbs<=b:=λj=>by
 unfold fnL;rw[aJ];cases e:l[j]? with
 | none=>exact cP _
 | some x=>exact h x (zE e)
def LR (L:List (List Int))(v:Nat->Int):Prop:= ∃l∈L,v=fnL l
structure LOk (n:Nat)(L:List (List Int)):Prop where
 len: ∀l∈L,l.length=n
 sm: ∀l∈L,∀x∈l,x.natAbs<=2^1000
 few:L.length<=1000
structure SOk (n:Nat)(m:Int)(L:List (List Int))(T:Nat->Nat->Int):Prop where
 st:c68 n T
 gen: ∀v,Gen n (Rows n T) v↔Gen n (RM n m<|LR L) v
def aP1:Φ:=λds Q=> ∃(n:Nat) (m:Int) (L:List (List Int)),ds=[.int (n:Int),.int m,.lst<|L.map aN]/\1<=n/\n<=8/\1<=m/\m<=2^600/\LOk n L/\ ∀T,SOk n m L T->Q (.pu<|.tup<|tbF n n T)
def aT8:US:=(d6<|aS dW<|aB (aE 5) aL)
def aT9:US:=(aW (kY (cK5<|aB (aE 3) aL) (lZ<|cZ 6<|cZ 4 lY)<|aR5 5<|uOp iZ (cE6<|aS aZ2<|aB (aE 5)<|aB (c27 (aE 4) mI<|o8<|aE 6) aL)<|c27 (aE 4) (o8<|aE 6) mI) aT8)
def aU0:US:=(aW (cA 5<|kF aL) aT9)
def a24:US:=(aW (kY (iV<|aE 2) (cT 4)<|cA 3<|aS wY<|aB (aE 3)<|aB (aE 1)<|aB (aE 4) aL) aU0)
def aP2:US:=(aW (cA 3<|eF [1,0] [none,some 1,some 0,none] 3 (iX<|aB (aE 0) aL) (cT 0) (λρ Q=>Q true ρ)<|uOp iZ (uOp iZ (uOp bO9 (fY<|aB (uC<|.int 0) aL)<|aE 0)<|fY<|aB (aE 1) aL)<|uOp bO9 (fY<|aB (uC<|.int 0) aL)<|uOp M.gSub (uOp M.gSub (aE 2)<|aE 0)<|uC<|.int 1) a24)
theorem d74 {n i:Nat}{m:Int}(hi:i<n):((replicate i [D.int 0]).flatten++[D.int m]++(replicate (n-i-1) [D.int 0]).flatten:List D)=(rwF n<|mE m i).map .int:=by
 rw[aS5,aS5];apply n6;intro j
 by_cases h1:j<i
 ·rw[fM (by simp;lia),fM (by simp;exact h1),fK ad,bJ,tL,a9 h1]
  show _=some (D.int<|mE m i j)
  rw[show mE m i j=0 from a6 ad]
  rfl
 ·by_cases h2:j=i
  ·subst h2;rw[fM ae,gD ae,fK hi,aK,tN,nL]
   show _=some (D.int<|mE m j j)
   rw[show mE m j j=m from a9 rfl]
   rfl
  ·rw[gD (by simp;lia)]
   simp only[bO,aK,tN,eA,mW];rw[bJ,tL]
   by_cases h3:j<n
   ·rw[a9 ad,fK h3]
    show _=some (D.int<|mE m i j)
    rw[show mE m i j=0 from a6 h2]
    rfl
   ·rw[a6 ad,eM (by rw[b9];lia)]
    rfl
theorem dI6 {n:Nat}{m:Int}(m1:1<=m)(m2:m<=2^600):TOk n m (mE m)/\ ∀v,Gen n (Rows n<|mE m) v↔Gen n (RM n m<|LR []) v:=by
 have z: ∀i j,0<=mE m i j/\mE m i j<=m:=λi j=>by unfold mE;split<;>lia
 refine⟨⟨⟨λi hi=>by rw[show mE m i i=m from a9 rfl];exact m1,λi hi j hj=>a6 ad⟩,m1,m2,λi j=>(z i j).1,λi j=>(z i j).2,λi hi=> .base ⟨i,hi,rfl⟩⟩,λv=>⟨Gen.mono λr ⟨i,hi,e⟩=> .base (.inr ⟨i,hi,e⟩),Gen.mono λr hr=> ?_⟩⟩
 rcases hr with⟨l,hl,_⟩| ⟨i,hi,e⟩
 ·cases hl
 ·exact .base ⟨i,hi,e⟩
theorem d75 {n:Nat}{m:Int}{t u:Nat->Nat->Int}{L:List (List Int)}{l:List Int}(ok:TOk n m t)(g: ∀v,Gen n (Rows n t) v↔Gen n (RM n m<|LR L) v)(h: ∀v,Gen n (Rows n u) v↔Gen n (RLs n t<|fnL l) v): ∀v,Gen n (Rows n u) v↔Gen n (RM n m<|LR<|L++[l]) v:=by
 intro v;rw[h v];constructor
 ·refine Gen.mono λr hr=> ?_
  rcases hr with hr|rfl
  ·exact((g r).mp<|.base hr).mono λs hs=> .base (hs.imp (λ⟨q,hq,e⟩=>⟨q,k8 _ hq,e⟩) id)
  ·exact .base (.inl ⟨l,d7 _<|iI.mpr rfl,rfl⟩)
 ·refine Gen.mono λr hr=> ?_
  rcases hr with⟨q,hq,rfl⟩|hr
  ·rcases bW.mp hq with hq|hq
   ·exact((g _).mpr<|.base<|.inl ⟨q,hq,rfl⟩).mono λs hs=> .base (.inl hs)
   ·rw[iI.mp hq];exact .base (.inr rfl)
  ·exact((g r).mpr<|.base<|.inr hr).mono λs hs=> .base (.inl hs)
noncomputable def sJ (t:Nat->Nat->Int):Nat->Nat->Nat->Int
 | 0=>λ_ _=>0
 | i+1=>λr=>if r=i then kL (sJ t i) i (t i)else sJ t i r
structure FOk (n i:Nat)(m:Int)(t T:Nat->Nat->Int):Prop where
 tri:Tri i T
 ahead: ∀r,r<i-> ∀j,j<r->0<=T r j/\T r j<T j j
 dg: ∀r,r<i->T r r=t r r
 bd: ∀r j,(T r j).natAbs<=2^600
 gen: ∀v,Gen n (Rows i T) v↔Gen n (Rows i t) v
theorem cG5 {n:Nat}{m:Int}{t:Nat->Nat->Int}(ok:TOk n m t)(m2:m.natAbs<=2^600): ∀i,i<=n->FOk n i m t (sJ t i)
 | 0,_=>⟨⟨λi hi=>absurd hi (gF _),λi hi=>absurd hi (gF _)⟩,λr hr=>absurd hr (gF _),λr hr=>absurd hr (gF _),λr j=>cP _,λv=>⟨Gen.mono λr ⟨q,hq,_⟩=>absurd hq (gF _),Gen.mono λr ⟨q,hq,_⟩=>absurd hq (gF _)⟩⟩
 | i+1,hi=>by
  have F:=cG5 ok m2 i ad
  have new:sJ t (i+1) i=kL (sJ t i) i (t i):=a9 rfl;have old: ∀r,r≠i->sJ t (i+1) r=sJ t i r:=λr hr=>a6 hr
  have ab: ∀j,i<=j->kL (sJ t i) i (t i) j=t i j:=vZ F.tri i (t i) (aF _);have rg: ∀j,j<i->0<=kL (sJ t i) i (t i) j/\kL (sJ t i) i (t i) j<sJ t i j j:=b33 F.tri i (t i) (aF _);have tt: ∀r j,(t r j).natAbs<=2^600:=λr j=>by have:=ok.lo r j;have:=ok.hi r j;lia
  have g1:Gen n (Rows i<|sJ t i) λj=>t i j-sJ t (i+1) i j:=by rw[new];exact bQ5 i (t i)
  refine⟨⟨λr hr=> ?_,λr hr j hj=> ?_⟩,λr hr j hj=> ?_,λr hr=> ?_,λr j=> ?_,λv=>⟨Gen.mono λq hq=> ?_,Gen.mono λq hq=> ?_⟩⟩
  ·by_cases e:r=i
   ·subst e;rw[new,ab r<|aF _];exact ok.pos r ad
   ·rw[old r e];exact F.tri.pos r ad
  ·by_cases e:r=i
   ·subst e;rw[new,ab j ad];exact ok.zero r ad j hj
   ·rw[old r e];exact F.tri.zero r ad j hj
  ·by_cases e:r=i
   ·subst e;rw[new,old j ad]
    exact rg j hj
   ·rw[old r e,old j ad];exact F.ahead r ad j hj
  ·by_cases e:r=i
   ·subst e;rw[new,ab r<|aF _]
   ·rw[old r e];exact F.dg r ad
  ·by_cases e:r=i
   ·subst e;rw[new]
    by_cases hj:j<r
    ·have:=rg j hj;have:=F.bd j j
     lia
    ·rw[ab j ad];exact tt r j
   ·rw[old r e];exact F.bd r j
  ·obtain⟨r,hr,rfl⟩:=hq
   by_cases e:r=i
   ·subst e;have h1:Gen n (Rows (r+1) t) λj=>t r j-sJ t (r+1) r j:=((F.gen _).mp g1).mono λs ⟨q,hq,e⟩=> .base ⟨q,ad,e⟩
    have h2:Gen n (Rows (r+1) t) (t r):= .base ⟨r,ad,rfl⟩
    exact(h2.sub h1).cong λj _=>ad
   ·rw[old r e];exact((F.gen _).mp<|.base ⟨r,ad,rfl⟩).mono λs ⟨q,hq,e⟩=> .base ⟨q,ad,e⟩
  ·obtain⟨r,hr,rfl⟩:=hq;have up: ∀{v},Gen n (Rows i<|sJ t i) v->Gen n (Rows (i+1)<|sJ t<|i+1) v:=λh=>h.mono λs ⟨q,hq,e⟩=> .base ⟨q,ad,by rw[old q ad];exact e⟩
   by_cases e:r=i
   ·subst e;have h2:Gen n (Rows (r+1)<|sJ t<|r+1) (sJ t (r+1) r):= .base ⟨r,ad,rfl⟩
    exact(h2.add<|up g1).cong λj _=>ad
   ·exact up ((F.gen _).mpr<|.base ⟨r,ad,rfl⟩)
theorem dI7 {n i:Nat}{t:Nat->Nat->Int}{f:Nat->Int}(hi:i<=n)(h: ∀j,i<=j->f j=t i j):(rwF i f).map D.int++cutD ((rwF n<|t i).map D.int) (some (i:Int)) none=(rwF n f).map D.int:=by
 rw[a90 _ _ (by rw[b9];exact hi)]
 apply n6
 intro j
 by_cases h1:j<i
 ·rw[fM (by rw[b9];exact h1),fK h1,fK ad]
 ·rw[gD (by rw[b9];lia),b9,List.getElem?_drop,show i+(j-i)=j by lia]
  by_cases h2:j<n
  ·rw[fK h2,fK h2,h j ad]
  ·rw[eM (by rw[b9];lia),eM (by rw[b9];lia)]
theorem d76 {n m i:Nat}{t:Nat->Nat->Int}(h:i<n):(tbF n m t).getD i .non=aN (rwF m<|t i):=by rw[aJ,aF3 h];rfl
theorem nl_row (l:List Int):D.nl (.tup<|l.map D.int)=true:=by
 simp only[D.nl];exact c31 l
theorem cG6: ∀ds Q,aP1 ds Q->aP2 {nx:=λ_=>Q (.pu .non),rt:=Q} (init ["k","m","r","t","w","b","i"] ds):=by
 rintro ds Q ⟨n,m,L,rfl,n1,n8,m1,m2,ok,h⟩;have big:(10000:Nat)<=sizeLine:=ac
 unfold aP2;show(aW _ _:US) _ [some<|.pu<|.int (n:Int),some<|.pu<|.int m,some<|.pu<|.lst<|L.map aN,none,none,none,none];rw[aT,l7]
 refine eS (t0:=0) n (λk=> .int (0+(k:Int))) [some<|.pu<|.int (n:Int),some<|.pu<|.int m,some<|.pu<|.lst<|L.map aN,none,none,none,none] ?_ ad (λx l=>[x,some<|.pu<|.int m,some<|.pu<|.int (n:Int),some<|.ow l]) none rfl (λ_ _ _=>rfl) (λ_ _=>cV _) (λ_ _ _ q=>q) (λ_ _ _=>rfl) (λk=>aN (rwF n<|mE m k)) ?_ ?_
 ·intro Q' q;walk_at "u";refine⟨⟨ad,ad⟩,?_⟩
  rw[eB];exact q
 ·intro k l Q' hk q;walk_at "u";have e1:(0+(k:Int)).toNat=k:=ad
  have e2:((n:Int)-(0+(k:Int))-1).toNat=n-k-1:=ad
  rw[e1,e2];have er:=d74 (m:=m) hk;have el:=bQ length er;rw[b9]at el;simp only[bO,eA,mW]at el;refine⟨ad,⟨ae,ad,ad,ad⟩,ad,ad,ad,⟨ae,ad,ad,ad⟩,?_,?_⟩
  ·simp only[bO,eA,mW]
   lia
  ·rw[er];exact q
 show a24 _ [some<|.pu<|.int (n:Int),some<|.pu<|.int m,some<|.pu<|.lst<|L.map aN,some<|.ow<|tbF n n<|mE m,none,none,none]
 unfold a24;rw[aT];obtain⟨ok0,g0⟩:=dI6 (n:=n) m1 m2;refine cC (L.map aN).length (λi=>(L.map aN).getD i .non) [some<|.pu<|.int (n:Int),some<|.pu<|.int m,some<|.pu<|.lst<|L.map aN,some<|.ow<|tbF n n<|mE m,none,none,none] ?_
  (λi ρ=> ∃(t:Nat->Nat->Int) (x4:Option B),ρ=[some<|.pu<|.int (n:Int),some<|.pu<|.int m,some<|.pu<|.lst<|L.map aN,some<|.ow<|tbF n n t,x4,none,none]/\TOk n m t/\ ∀v,Gen n (Rows n t) v↔Gen n (RM n m<|LR<|L.take i) v)
  ⟨_,none,rfl,ok0,g0⟩ ?_ ?_
 ·intro Q' q;walk_at "u";exact q
 ·rintro i ρ hi ⟨t,x4,rfl,okt,gt⟩;rw[aK]at hi;have hm:=bV hi;have ei:(L.map aN).getD i .non=aN L[i]:=by rw[aJ,bJ,aO hi];rfl
  rw[ei];refine⟨ae,?_⟩
  walk_at "u"
  refine⟨n,m,t,fnL L[i],by rw[<-dI5 (ok.len _ hm)],n8,okt,cT9<|ok.sm _ hm,d73<|ok.len _ hm,λu oku gu=>⟨u,_,rfl,oku,?_⟩⟩
  have:=d75 okt gt gu;rw[List.take_succ,aO hi];exact this
 ·rintro ρ ⟨t,x4,rfl,okt,gt⟩;rw[aK,zB<|aF _]at gt;have m2':m.natAbs<=2^600:=by rw[p6']at m2;lia
  try dsimp only
  unfold aU0;rw[aT];walk_at "u";refine⟨ad,?_⟩
  unfold aT9;rw[aT];refine cC (tbF n n t).length (λi=> .tup [.int (i:Int),(tbF n n t).getD i .non]) [some<|.pu<|.int (n:Int),some<|.pu<|.int m,some<|.pu<|.lst<|L.map aN,some<|.pu<|.lst<|tbF n n t,x4,some<|.ow [],none] ?_
   (λi ρ=> ∃(x4 x6:Option B),ρ=[some<|.pu<|.int (n:Int),some<|.pu<|.int m,some<|.pu<|.lst<|L.map aN,some<|.pu<|.lst<|tbF n n t,x4,some<|.ow<|tbF i n<|sJ t i,x6]) ⟨_,_,rfl⟩ ?_ ?_
  ·intro Q' q;walk_at "u";exact q
  ·rintro i ρ hi ⟨y4,x6,rfl⟩;rw[l8]at hi;rw[d76 hi];have F:=cG5 okt m2' i ad
   refine⟨ae,ae,rfl,?_⟩
   show(aR5 5 _:US) _ [some<|.pu<|.int (n:Int),some<|.pu<|.int m,some<|.pu<|.lst<|L.map aN,some<|.pu<|.lst<|tbF n n t,some<|.pu<|aN<|rwF n<|t i,some<|.ow<|tbF i n<|sJ t i,some<|.pu<|.int (i:Int)]
   simp only[aN];walk_at "u";rw[bW7 ad]
   refine⟨i,n,sJ t i,t i,rfl,ad,n8,λr hr=>by have:=F.tri.pos r hr;lia,F.bd,λj=>by have:=okt.lo i j;have:=okt.hi i j;lia,?_⟩
   simp only[aN];have ab: ∀j,i<=j->kL (sJ t i) i (t i) j=t i j:=vZ F.tri i (t i) (aF _);have er:=dI7 (f:=kL (sJ t i) i (t i)) (n:=n) ad ab
   have el:=bQ length er;rw[bO,b9,b9]at el;refine⟨nl_row _,by rw[b9];lia,by rw[l8];lia,some<|.pu<|.tup<|(rwF n<|t i).map .int,some<|.pu<|.int (i:Int),?_⟩
   rw[er];have:=c41 i n (sJ t i) (kL (sJ t i) i<|t i);rw[aN]at this;rw[this];rfl
  ·rintro ρ ⟨y4,x6,rfl⟩;rw[l8];unfold aT8;walk_at "u";have F:=cG5 okt m2' n (aF _);exact h _ ⟨⟨F.tri,F.ahead⟩,λv=>(F.gen v).trans (gt v)⟩
def aB0:Φ:=λds Q=> ∃a b:Int,ds=[.int a,.int b]/\Q (.pu<|.int (a.gcd b:Nat))
def aB1:US:=(aW (cC8 2 3<|aB (aS bS9<|aB (aE 0) aL)<|aB (aS bS9<|aB (aE 1) aL) aL)<|aW (aW8 (eX<|uOp (kG true) (aE 3)<|uC<|.int 0)<|cC8 2 3<|aB (aE 3)<|aB (uOp oE (aE 2)<|aE 3) aL)<|rE 2)
theorem absJ (a:Int):(if a<0 then -a else a)=(a.natAbs:Int):=by split<;>omega
theorem d77 {g l:Int}(g0:0<=g)(l0:0<=l):Int.gcd l (g%l)=Int.gcd g l:=by
 obtain⟨a,rfl⟩:=Int.eq_ofNat_of_zero_le g0;obtain⟨b,rfl⟩:=Int.eq_ofNat_of_zero_le l0;show Nat.gcd b (a%b)=Nat.gcd a b;rw[Nat.gcd_comm a b,Nat.gcd_rec b a,Nat.gcd_comm]
theorem c71: ∀ds Q,aB0 ds Q->aB1 {nx:=λ_=>Q (.pu .non),rt:=Q} (init ["a","b","g","l"] ds):=by
 rintro ds Q ⟨a,b,rfl,h⟩;unfold aB1;show(aW _ _:US) _ [some<|.pu<|.int a,some<|.pu<|.int b,none,none];walk_at "u";rw[absJ,absJ];refine⟨λn ρ=> ∃g l:Int,ρ=[some<|.pu<|.int a,some<|.pu<|.int b,some<|.pu<|.int g,some<|.pu<|.int l]/\n=l.natAbs/\0<=g/\0<=l/\g.gcd l=a.gcd b,⟨_,_,_,rfl,rfl,ad,ad,?_⟩,?_⟩
 ·simp[Int.gcd]
 ·rintro n ρ ⟨g,l,rfl,rfl,g0,l0,e⟩;walk_at "u";split
  ·rename_i hl
   have hl':l≠0:=by simpa using hl
   have e1:=bZ g hl';have e2:=cE g (show 0<l by lia)
   refine⟨hl',_,?_,_,_,rfl,rfl,l0,?_,?_⟩
   ·rw[dI _ ad];lia
   ·rw[dI _ ad];exact e1
   ·rw[dI _ ad,d77 g0 l0];exact e
  ·rename_i hl
   have hl':l=0:=by simpa using hl
   subst hl';rw[Int.gcd_zero_right]at e;have:g=(a.gcd b:Int):=ad
   rw[this];exact h
def aZ4:Φ:=λds Q=> ∃(C:Addr) (p:List Int) (n:Nat) (u v:Nat->Int),ds=[cH C p,.lst [aN<|rwF n u,aN<|rwF n v]]/\dM p/\p.length=n+1/\(∀j,(u j).natAbs<=2^12)/\(∀j,(v j).natAbs<=2^12)/\nrm p n u≠0/\(nrm p n u).natAbs<=2^600/\
 ∀T,SOk n (((nrm p n u).gcd (nrm p n v):Nat):Int) (tbL n (itT p n u)++tbL n (itT p n v)) T->Q (.pu<|.tup<|tbF n n T)
def bE6:US:=(aW (iD (eX<|uOp (kG false) (aE 2)<|uC<|.int 0) (λ_ _=>False) fH)<|d6<|aS aP1<|aB (nP "degree"<|aE 0)<|aB (aE 2)<|aB (aE 3) aL)
def bE7:US:=(aW (kY (iV<|aE 1) (cT 4)<|aW (cA 2<|aS aB0<|aB (aE 2)<|aB (aS aZ0<|aB (aE 0)<|aB (aE 4) aL) aL)<|uExt 3<|aS qZ<|aB (aE 0)<|aB (aE 4) aL) bE6)
def aZ5:US:=(aW (cA 2<|uC<|.int 0)<|aW (cA 3<|kF aL) bE7)
theorem c72 (n:Nat)(t:Nat->Nat->Int):(tbL n t).map aN=tbF n n t:=by
 unfold tbL tbF;rw[eP];rfl
theorem b87 {p:List Int}{n:Nat}{u:Nat->Int}(rp:dM p)(n4:n<=4)(hu: ∀j,(u j).natAbs<=2^12): ∀l∈tbL n (itT p n u),l.length=n/\ ∀x∈l,x.natAbs<=2^1000:=by
 intro l hl;obtain⟨i,hi,rfl⟩:=dE.mp hl;have hi:=dU.mp hi;refine⟨mJ _ _,λx hx=> ?_⟩
 obtain⟨j,hj,rfl⟩:=dE.mp hx;exact aM (aF5 (n:=n) rp.ok.small hu i j) (gX ac ad)
theorem cU0: ∀ds Q,aZ4 ds Q->aZ5 {nx:=λ_=>Q (.pu .non),rt:=Q} (init ["r","n","m","o","x"] ds):=by
 rintro ds Q ⟨C,p,n,u,v,rfl,rp,hn,hu,hv,h0,hb,h⟩;have lo:=rp.ok.lo;have hi:=rp.ok.hi;unfold aZ5;show(aW _ _:US) _ [some<|.pu<|cH C p,some<|.pu<|.lst [aN<|rwF n u,aN<|rwF n v],none,none,none];walk_at "u";refine⟨ac,?_⟩
 unfold bE7;rw[aT];refine cC 2 (λk=>[aN<|rwF n u,aN<|rwF n v].getD k .non) [some<|.pu<|cH C p,some<|.pu<|.lst [aN<|rwF n u,aN<|rwF n v],some<|.pu<|.int 0,some<|.ow [],none] (λQ' q=> ?_)
  (λk ρ=> ∃x,ρ=[some<|.pu<|cH C p,some<|.pu<|.lst [aN<|rwF n u,aN<|rwF n v],some<|.pu<|.int<|if k=0 then 0 else if k=1 then((nrm p n u).natAbs:Int)else((nrm p n u).gcd (nrm p n v):Nat),some<|.ow<|if k=0 then []else if k=1 then tbF n n (itT p n u)else tbF n n (itT p n u)++tbF n n (itT p n v),x]) ⟨none,rfl⟩ ?_ ?_
 ·walk_at "u"
  exact q
 ·rintro k ρ hk ⟨x,rfl⟩
  match k,hk with
  | 0,_=>
   walk_at "u"
   refine⟨ac,C,p,n,12,u,rfl,rp,hn,ac,hu,?_⟩
   walk_at "u"
   refine⟨_,_,rfl,?_⟩
   walk_at "u"
   refine⟨C,p,n,u,rfl,rp,hn,?_⟩
   dsimp only;refine⟨by simp only[mW,l8];exact aM (show 0+n<=10 by lia) ac,some<|.pu<|aN<|rwF n u,?_⟩
   simp
  | 1,_=>
   walk_at "u"
   refine⟨ac,C,p,n,12,v,rfl,rp,hn,ac,hv,?_⟩
   walk_at "u"
   refine⟨_,_,rfl,?_⟩
   walk_at "u"
   refine⟨C,p,n,v,rfl,rp,hn,?_⟩
   dsimp only;refine⟨by simp only[l8];exact aM (show n+n<=10 by lia) ac,some<|.pu<|aN<|rwF n v,?_⟩
   simp[Int.gcd]
 ·rintro ρ ⟨x,rfl⟩;dsimp only;have g1:(nrm p n u).gcd (nrm p n v)<=(nrm p n u).natAbs:=Nat.gcd_le_left _ (Int.natAbs_pos.mpr h0);have g0:0< (nrm p n u).gcd (nrm p n v):=Int.gcd_pos_of_ne_zero_left _ h0;simp only[a6<|show ¬(2=0)by decide,a6<|show ¬(2=1)by decide]
  unfold bE6;walk_at "u";rw[a6 ad,kK (C:=C) (p:=p) rfl]
  walk_at "u"
  refine⟨n,_,tbL n (itT p n u)++tbL n (itT p n v),?_,ad,ad,?_,?_,⟨λl hl=> ?_,λl hl=> ?_,?_⟩,h⟩
  ·rw[cF,c72,c72,hn]
   congr 2
   lia
  ·lia
  ·have:((2^600:Nat):Int)=2^600:=by norm_cast
   lia
  ·rcases bW.mp hl with hl|hl
   ·exact(b87 rp ad hu l hl).1
   ·exact(b87 rp ad hv l hl).1
  ·rcases bW.mp hl with hl|hl
   ·exact(b87 rp ad hu l hl).2
   ·exact(b87 rp ad hv l hl).2
  ·rw[bO,aT6,aT6]
   lia
theorem v3 {p:List Int}{n:Nat}{q:Int}: ∀i,i<n-> ∀j,itT p n (vP q) i j=if j=i then q else 0
 | 0,_,j=>rfl
 | i+1,hi,j=>by
  show ttF p n (itT p n (vP q) i) j=_
  unfold ttF;rw[v3 i ad<|n-1,a6<|show ¬n-1=i by lia,gH]
  by_cases z:j=0
  ·rw[a9 z,a6 ad];lia
  ·rw[a6 z,v3 i ad<|j-1]
   by_cases w:j=i+1
   ·rw[a9 ad,a9 w];lia
   ·rw[a6 ad,a6 w];lia
theorem dI8 {p:List Int}{n:Nat}(n2:2<=n)(n4:n<=4){q:Int}(q2:2<=q)(q3:q<200):nrm p n (vP q)≠0/\(nrm p n<|vP q).natAbs<=2^600:=by
 have e:nrm p n (vP q)=q^n:=by
  unfold nrm
  match n,n2,n4 with
  | 2,_,_=>
   rw[det_2];simp only[v3 0<|show 0<2 by decide,v3 1<|show 1<2 by decide]
   simp
   grind
  | 3,_,_=>
   rw[det_3];simp only[v3 0<|show 0<3 by decide,v3 1<|show 1<3 by decide,v3 2<|show 2<3 by decide]
   simp
   grind
  | 4,_,_=>
   rw[det_4];simp only[v3 0<|show 0<4 by decide,v3 1<|show 1<4 by decide,v3 2<|show 2<4 by decide,v3 3<|show 3<4 by decide]
   simp
   grind
 rw[e];refine⟨Int.ne_of_gt<|Int.pow_pos ad,?_⟩
 rw[Int.natAbs_pow];refine aM (Nat.pow_le_pow_left (show q.natAbs<=2^8 by lia) n) ?_
 rw[<-Nat.pow_mul];exact gX ac ad
theorem dI9 {c n:Nat}{w:Nat->Int}(h:c<=n)(hz: ∀j,c<=j->j<n->w j=0):rwF c w++replicate (n-c) 0=rwF n w:=by
 apply n6
 intro j
 by_cases h1:j<c
 ·rw[fM (by rw[mJ];exact h1),aS9 h1,aS9 ad]
 ·rw[gD (by rw[mJ];lia),mJ,tL]
  by_cases h2:j<n
  ·rw[a9 ad,aS9 h2,hz j ad h2]
  ·rw[a6 ad,eM (by rw[mJ];lia)]
theorem cU1 {n m:Nat}{t u:Nat->Nat->Int}(h: ∀i,i<n-> ∀j,j<m->t i j=u i j):tbF n m t=tbF n m u:=by
 unfold tbF;apply mU;intro i hi;rw[qJ λj hj=>h i (dU.mp hi) j hj]
theorem bW8 {js:List Nat}{cap:List (Option Nat)}{last t0 t1:Nat}{ui:UI}{te:UE}{ρ:Ev}{Q:B->Ev->Prop}(n:Nat)(it i1 i2:Nat->D)(hit: ∀i,i<n->it i= .tup [i1 i,i2 i])(ρ1:Ev)(hui: ∀Q:Nat->(Nat->D)->Ev->Prop,Q n it ρ1->ui ρ Q)(hn:n<=1000000)
  (G:Option B->Option B->List D->Ev) (x0 y0:Option B) (h0:pB (wM ρ1 js) cap last=G x0 y0 []) (h1: ∀x y l b c,((G x y l).set t0<|some b).set t1 (some c)=G (some b) (some c) l) (h1': ∀x y l,t0< (G x y l).length/\t1< (G x y l).length)
  (h2: ∀x y l (Q:List D->Prop),Q l->o7 (G x y l) last Q) (h3: ∀x y l l',(G x y l).set last (some<|.ow l')=G x y l')
  (P:Nat->D->Prop) (hte: ∀i l (Q':B->Ev->Prop),i<n->(∀d,P i d->Q' (.pu d) (G (some<|.pu<|i1 i) (some<|.pu<|i2 i) l))->te (G (some<|.pu<|i1 i) (some<|.pu<|i2 i) l) Q') (hq: ∀l:List D,l.length=n->(∀i,i<n->P i (l.getD i .non))->Q (.ow l) (wM ρ1 js)) :
  eF js cap last ui (lZ<|cZ t0<|cZ t1 lY) (λρ Q=>Q true ρ) te ρ Q:=by
 refine hui _ ⟨λi ρ'=> ∃x y l,ρ'=G x y l/\l.length=i/\ ∀k,k<i->P k (l.getD k .non),⟨x0,y0,[],h0,rfl,λk hk=>absurd hk (gF _)⟩,?_,?_⟩
 ·rintro i ρ' hi ⟨x,y,l,rfl,hl,hP⟩;rw[hit i hi];refine⟨(h1' _ _ _).1,by rw[dS];exact(h1' _ _ _).2,rfl,?_⟩
  rw[h1];dsimp only;rw[a9 rfl];refine hte i _ _ hi λd hd=>h2 _ _ _ _ ⟨?_,some<|.pu<|i1 i,some<|.pu<|i2 i,l++[d],?_,?_,λk hk=> ?_⟩
  ·rw[hl];exact b6 hi (aM hn ac)
  ·rw[h3];rfl
  ·rw[bO,hl];rfl
  ·by_cases c:k<i
   ·have:=hP k c;rw[aJ,fM ad,<-aJ]
    exact this
   ·have e:k=i:=ad
    subst e;rw[aJ,gD ad,hl,nL]
    exact hd
 ·rintro ρ' ⟨x,y,l,rfl,hl,hP⟩;exact h2 _ _ _ _ (hq l hl hP)
theorem Pr.no_zero {p:Int}(pp:Pr p){a b:Int}(h:a*b%p=0):a%p=0\/b%p=0:=by
 have p2:=pp.lo
 by_cases c:a%p=0
 ·exact .inl c
 ·refine .inr ?_
  have a0:=bZ a (show p≠0 by lia)
  have a1:=cE a (show 0<p by lia)
  have iv:=pp.inv (a%p) ad a1
  generalize bC4 (a%p) p (p.toNat-2)=t at iv;have e:b%p=(t*(a%p))%p*b%p:=by rw[iv,a03]
  rw[e,emL,nK,<-emR,emL a b p,h,bP,dC]
theorem d78 {p:Int}(p2:2<=p)(a:Nat×(Nat->Int))(z:Int):va p a z%p=va p a z:=iO _ _
theorem cM6 {p:Int}{a g:Nat×(Nat->Int)}(hg: ∀j,g.1<j->g.2 j=0){z:Int}(h:va p a z=0\/va p g z=0): ∀k,(va p a z=0\/1<=k)->va p (powT p a g k) z=0
 | 0,hk=>by
  rcases hk with hk|hk
  ·exact hk
  ·omega
 | k+1,_=>by
  show va p (tm p (powT p a g k) g) z=0
  rw[d51 hg];rcases h with h|h
  ·rw[cM6 hg (.inl h) k<|.inl h,gH,dC]
  ·rw[h,bP,dC]
theorem cM7 {p:Int}(pp:Pr p){a g:Nat×(Nat->Int)}(hg: ∀j,g.1<j->g.2 j=0){z:Int}(h:va p a z≠0)(h2:va p g z≠0): ∀k,va p (powT p a g k) z≠0
 | 0=>h
 | k+1=>by
  show va p (tm p (powT p a g k) g) z≠0
  rw[d51 hg];intro e;rcases pp.no_zero e with e|e
  ·rw[d78 pp.lo]at e;exact cM7 pp hg h h2 k e
  ·rw[d78 pp.lo]at e;exact h2 e
theorem bW9 {p:Int}(pp:Pr p){z:Int}: ∀(l:List ((Nat×(Nat->Int))×Nat)) (a:Nat×(Nat->Int)),(∀x∈l,∀j,x.1.1<j->x.1.2 j=0)->va p a z≠0->(∀x∈l,va p x.1 z≠0)->va p (allT p a l) z≠0
 | [],a,_,h,_=>h
 | y::l,a,hl,h,h2=>bW9 pp l (powT p a y.1 y.2) (λx hx=>hl x (bM _ hx)) (cM7 pp (hl y<|bC ..) h (h2 y<|bC ..) _) λx hx=>h2 x (bM _ hx)
theorem d79 {p:Int}(p2:2<=p){g:Nat×(Nat->Int)}(mg:MP p g.1 g.2)(h1:g.1=1)(z:Int):va p g z=(z+g.2 0)%p:=by
 have e:g.2 1=1:=by have:=mg.top;rw[h1]at this;exact this
 unfold va;rw[h1];show(0+g.2 0*z^0+g.2 1*z^1)%p=_;rw[e,iQ,Int.pow_one]
 congr 1
 lia
def b56 (q:Int)(F:Nat×(Nat->Int))(c:Int)(k:Nat):Prop:= ∃H:Nat×(Nat->Int),MP q H.1 H.2/\F=powT q H (j1 c) k/\va q H (-c)≠0
theorem bE8 {p c:Int}(p2:2<=p){a b:Nat×(Nat->Int)}(ma:MP p a.1 a.2)(mb:MP p b.1 b.2)(h:tm p a (j1 c)=tm p b (j1 c)):a=b:=by
 have d:a.1=b.1:=by
  have:=bQ Prod.fst h;show a.1=b.1;have e:a.1+1=b.1+1:=this
  lia
 have f: ∀m,(c*a.2 m+(if m=0 then 0 else a.2 (m-1)))%p=(c*b.2 m+(if m=0 then 0 else b.2 (m-1)))%p:=λm=>by
  have:=congrFun (bQ Prod.snd h) m;have e:conv a.2 (j1 c).2 (a.1+1) m%p=conv b.2 (j1 c).2 (b.1+1) m%p:=this;rw[bC9 c ma.z,bC9 c mb.z]at e;exact e
 have down: ∀(t m:Nat),a.1+1-m=t->a.2 m=b.2 m:=by
  intro t
  induction t with
  | zero=>
   intro m hm;rw[ma.hi m ad,mb.hi m ad]
  | succ t ih=>
   intro m hm;have i1:=ih (m+1) ad
   have e:=f (m+1);rw[a6 ad,a6 ad,fN,i1]at e
   have e2:=Int.emod_emod_of_dvd;have r1:=ma.rng m;have r2:=mb.rng m;have e3:(a.2 m-b.2 m)%p=0:=by
    have:=u4 (c*b.2 (m+1)+a.2 m) (c*b.2 (m+1)+b.2 m) p;rw[e,Int.sub_self,dC]at this;rw[<-this]
    congr 1
    lia
   obtain⟨k,hk⟩:=mT e3;have k0:k=0:=by
    rcases zL k 0 with z|z|z
    ·have:p*k<=p*(-1):=gW ad ad
     lia
    ·exact z
    ·have:p*1<=p*k:=gW ad ad
     lia
   rw[k0,bP]at hk
   lia
 exact gJ d (funext λm=>down _ m rfl)
theorem b56.uniq {q c:Int}(pq:Pr q){F:Nat×(Nat->Int)}(c0:0<=c)(c1:c<q){k l:Nat}(h:b56 q F c k)(h2:b56 q F c l):k=l:=by
 have q2:=pq.lo;have ml:=MP.lin q2 c0 c1;have lz:va q (j1 c) (-c)=0:=by
  rw[d79 q2 ml rfl];show(-c+c)%q=0;rw[show -c+c=0 by lia,dC]
 have main: ∀(k l:Nat) (H G:Nat×(Nat->Int)),MP q H.1 H.2->MP q G.1 G.2->va q H (-c)≠0->powT q H (j1 c) k=powT q G (j1 c) l->l<=k:=by
  intro k
  induction k with
  | zero=>
   intro l H G mH mG hv e;cases l with
   | zero=>exact aF _
   | succ l=>
    refine absurd ?_ hv
    rw[show H=powT q G (j1 c) (l+1)from e]
    exact cM6 ml.hi (.inr lz) _ (.inr ad)
  | succ k ih=>
   intro l H G mH mG hv e;cases l with
   | zero=>exact cP _
   | succ l=>
    have:=ih l H G mH mG hv (bE8 q2 (MP.powT q2 mH ml k) (MP.powT q2 mG ml l) e)
    lia
 obtain⟨H,mH,e1,v1⟩:=h;obtain⟨G,mG,e2,v2⟩:=h2;have a:=main k l H G mH mG v1 (e1.symm.trans e2);have b:=main l k G H mG mH v2 (e2.symm.trans e1)
 lia
noncomputable def hb (r q:Int)(f:Nat->Int)(m:Nat):Nat->Int
 | 0=>0
 | k+1=>(hb r q f m k*r+f (m-k))%q
theorem dJ0 {p:Int}(p2:2<=p){g:Nat×(Nat->Int)}(mg:MP p g.1 g.2){l:List ((Nat×(Nat->Int))×Nat)}{a:Nat×(Nat->Int)}(ma:MP p a.1 a.2)(hl: ∀x∈l,MP p x.1.1 x.1.2):allT p (tm p a g) l=tm p (allT p a l) g:=by
 rw[a18 ma.hi mg.hi,yK p2 l ma hl,a18 mg.hi (MP.allT p2 l ma hl).hi]
theorem c73 {p:Int}(p2:2<=p){g:Nat×(Nat->Int)}(mg:MP p g.1 g.2){l:List ((Nat×(Nat->Int))×Nat)}{a:Nat×(Nat->Int)}(ma:MP p a.1 a.2)(hl: ∀x∈l,MP p x.1.1 x.1.2): ∀k,allT p (powT p a g k) l=powT p (allT p a l) g k
 | 0=>rfl
 | k+1=>by
  show allT p (tm p (powT p a g k) g) l=tm p (powT p (allT p a l) g k) g
  rw[dJ0 p2 mg (MP.powT p2 ma mg k) hl,c73 p2 mg ma hl k]
theorem cM8: ∀r:List Int,ltL r r=false
 | []=>rfl
 | a::r=>by unfold ltL;rw[a9 rfl];exact cM8 r
theorem aZ6 {x y:(Nat×(Nat->Int))×Nat}(h:ltP x y):x.1≠y.1:=by
 intro e;unfold ltP at h;rw[e]at h;rcases h with h|h
 ·lia
 ·rw[cM8]at h;exact absurd h.2 ac
theorem d80 {q c:Int}(pq:Pr q)(c0:0<=c)(c1:c<q){g:Nat×(Nat->Int)}(mg:MP q g.1 g.2)(d1:1<=g.1)(nr:2<=g.1->NoR q g)(h:g≠j1 c):va q g (-c)≠0:=by
 have q2:=pq.lo
 by_cases d2:g.1=1
 ·rw[d79 q2 mg d2];intro z;have r:=mg.rng 0;obtain⟨k,hk⟩:=mT z;have k0:k=0:=by
   rcases zL k 0 with z|z|z
   ·have:q*k<=q*(-1):=gW ad ad
    lia
   ·exact z
   ·have:q*1<=q*k:=gW ad ad
    lia
  rw[k0,bP]at hk;refine h ?_;rw[bW0 mg d2,show g.2 0=c by lia]
 ·have:=nr ad c.toNat ad
  rw[Int.toNat_of_nonneg c0]at this;exact this
theorem bX0 {q c:Int}(pq:Pr q){F:Nat×(Nat->Int)}(mF:MP q F.1 F.2){xs:List ((Nat×(Nat->Int))×Nat)}(sp:SP q F xs)(c0:0<=c)(c1:c<q) :
  (∀x∈xs,x.1=j1 c->b56 q F c x.2)/\((∀x∈xs,x.1≠j1 c)->b56 q F c 0):=by
 have q2:=pq.lo;have mx: ∀x∈xs,MP q x.1.1 x.1.2:=λx hx=>(sp.mem x hx).1
 have nz: ∀x∈xs,x.1≠j1 c->va q x.1 (-c)≠0:=λx hx h=>d80 pq c0 c1 (mx x hx) (sp.mem x hx).2.1 (sp.mem x hx).2.2.2.2.2.1 h
 have v1:va q eW (-c)≠0:=by
  show(0+(if 0=0 then(1:Int)else 0)*(-c)^0)%q≠0
  rw[a9 rfl,iQ,jF,dD,eC ac ad]
  decide
 refine⟨λx hx e=> ?_,λh=>⟨F,mF,rfl,?_⟩⟩
 ·obtain⟨l1,l2,rfl⟩:=List.append_of_mem hx;have od:=sp.ord;rw[zF,jC]at od;have m1: ∀y∈l1,MP q y.1.1 y.1.2:=λy hy=>mx y (bW.mpr<|.inl hy)
  have m2: ∀y∈l2,MP q y.1.1 y.1.2:=λy hy=>mx y (bW.mpr<|.inr<|bM _ hy)
  have mA:=MP.allT q2 l1 (MP.one q2) m1;refine⟨allT q (allT q eW l1) l2,MP.allT q2 l2 mA m2,?_,?_⟩
  ·rw[<-sp.prod,kJ];show allT q (powT q (allT q eW l1) x.1 x.2) l2=_;rw[c73 q2 (mx x hx) mA m2,e]
  ·rw[<-kJ];refine bW9 pq _ _ (λy hy=> ?_) v1 λy hy=> ?_
   ·rcases bW.mp hy with hy|hy
    ·exact(m1 y hy).hi
    ·exact(m2 y hy).hi
   ·rcases bW.mp hy with hy|hy
    ·exact nz y (bW.mpr<|.inl hy) λz=>aZ6 (od.2.2 y hy x<|bC ..) (z.trans e.symm)
    ·exact nz y (bW.mpr<|.inr<|bM _ hy) λz=>aZ6 (od.2.1.1 y hy) (e.trans z.symm)
 ·rw[<-sp.prod];exact bW9 pq xs eW (λy hy=>(mx y hy).hi) v1 λy hy=>nz y hy (h y hy)
noncomputable def dA (c b:Int):Int:=b*b-4*c
noncomputable def dB (d c b:Int):Int:=b*b*c*c-4*c*c*c-4*b*b*b*d-27*d*d+18*b*c*d
theorem Pr.or {q:Int}(pq:Pr q){a b:Int}(h:q∣a*b):q∣a\/q∣b:=by
 rcases pq.no_zero (aL0 h)with h|h
 ·exact .inl (mT h)
 ·exact .inr (mT h)
theorem Pr.sq {q:Int}(pq:Pr q){a:Int}(h:q∣a*a):q∣a:=(pq.or h).elim id id
theorem Pr.cut {q:Int}(pq:Pr q){a b:Int}(h:q∣a*b)(n: ¬q∣a):q∣b:=(pq.or h).resolve_left n
theorem Pr.sol {q:Int}(pq:Pr q){a:Int}(h: ¬q∣a)(b:Int): ∃z,q∣a*z-b:=by
 have p2:=pq.lo;have a0:=bZ a (show q≠0 by lia)
 have a1:=cE a (show 0<q by lia)
 have ne:a%q≠0:=λe=>h (mT e)
 have iv:=pq.inv (a%q) ad a1
 generalize bC4 (a%q) q (q.toNat-2)=t at iv;have e1:=iH (t*(a%q)) q;have e2:=iH a q;rw[iv]at e1;refine⟨t*b,t*(a/q)*b+t*(a%q)/q*b,?_⟩;have:a*(t*b)-b=(a%q+q*(a/q))*(t*b)-b:=by rw[e2]
 rw[this];have:t*(a%q)*b=(1+q*(t*(a%q)/q))*b:=by rw[e1]
 grind
theorem no_mul {q:Int}(pq:Pr q){a b:Int}(h: ¬q∣a)(h2: ¬q∣b): ¬q∣a*b:=λh3=>(pq.or h3).elim h h2
theorem dv2 {q a b x y e:Int}(h:q∣a)(h2:q∣b)(he:e=a*x+b*y):q∣e:=by
 rw[he];exact u8 (pJ h) (pJ h2)
theorem dv3 {q a b c x y z e:Int}(h:q∣a)(h2:q∣b)(h3:q∣c)(he:e=a*x+b*y+c*z):q∣e:=by
 rw[he];exact u8 (u8 (pJ h)<|pJ h2) (pJ h3)
theorem dv1 {q a x e:Int}(h:q∣a)(he:e=a*x):q∣e:=by rw[he];exact pJ h
theorem cgA {q a b c d:Int}(h:q∣a-b)(h2:q∣c-d):q∣a+c-(b+d):=dv2 (x:=1) (y:=1) h h2 (by grind)
theorem cgM {q a b c d:Int}(h:q∣a-b)(h2:q∣c-d):q∣a*c-b*d:=dv2 (x:=c) (y:=b) h h2 (by grind)
theorem cgR {q:Int}(a:Int):q∣a-a:=by rw[Int.sub_self];exact Int.dvd_zero q
theorem cgE {q:Int}(a:Int):q∣a%q-a:=by
 have:=iH a q;exact⟨-(a/q),by grind⟩
theorem cgT {q a b:Int}(h:q∣a-b):q∣a↔q∣b:=⟨λg=>dv2 (x:=1) (y:= -1) g h (by grind),λg=>dv2 (x:=1) (y:=1) g h (by grind)⟩
theorem d81 {q z w:Int}(h:q∣z-w)(g:Nat->Int): ∀n,q∣ps g z n-ps g w n
 | 0=>cgR _
 | n+1=>by
  have p: ∀k:Nat,q∣z^k-w^k:=by
   intro k
   induction k with
   | zero=>rw[iQ,iQ];exact cgR _
   | succ k ih=>rw[qD,qD];exact cgM ih h
  exact cgA (d81 h g n) (cgM (cgR _)<|p n)
theorem NoR.no {q:Int}(pq:Pr q){G:Nat×(Nat->Int)}(nr:NoR q G){z:Int}(h:q∣ps G.2 z (G.1+1)):False:=by
 have q2:=pq.lo;have r0:=bZ (-z) (show q≠0 by omega)
 have r1:=cE (-z) (show 0<q by omega)
 refine nr ((-z)%q).toNat aa ?_
 rw[Int.toNat_of_nonneg r0];refine aL0 ((cgT<|d81 ?_ G.2<|G.1+1).mpr h);have:=cgE (q:=q) (-z);exact dv1 (x:= -1) this (by grind)
theorem b36 {q a b:Int}(ha:0<=a/\a<q)(hb:0<=b/\b<q)(h:q∣a-b):a=b:=by
 obtain⟨k,hk⟩:=h;have k0:k=0:=by
  rcases zL k 0 with z|z|z
  ·have:q*k<=q*(-1):=gW ad ad
   lia
  ·exact z
  ·have:q*1<=q*k:=gW ad ad
   lia
 rw[k0,bP]at hk
 lia
theorem cM9 {q a b:Int}(h:a%q=b%q):q∣a-b:=mT (Int.emod_eq_emod_iff_emod_sub_eq_zero.mp h)
theorem dJ1 {q v u v' u' w s w' s':Int}(pq:Pr q)(nr:NoR q (quF v u))(e0:q∣v*w-v'*w')(e1:q∣(v*s+u*w)-(v'*s'+u'*w'))(e2:q∣(v+u*s+w)-(v'+u'*s'+w'))(e3:q∣(u+s)-(u'+s')) :
  (q∣u-u'/\q∣v-v')\/(q∣u-s'/\q∣v-w'):=by
 have c1:q∣(u'-u)*(w'-v)+(v'-v)*(s'-u)-u*(u'-u)*(s'-u):=dv3 (x:= -(u*u-v)) (y:=u) (z:= -1) e3 e2 e1 (by grind)
 have c0:q∣(v'-v)*(w'-v)-v*(u'-u)*(s'-u):=dv3 (x:= -(u*v)) (y:=v) (z:= -1) e3 e2 e0 (by grind)
 have root: ∀a b:Int,q∣b*b-u*a*b+v*a*a->q∣a/\q∣b:=λa b h=>by
  by_cases ha:q∣a
  ·exact⟨ha,pq.sq<|dv2 (x:=1) (y:=u*b-v*a) h ha<|by grind⟩
  ·exfalso
   obtain⟨z,hz⟩:=pq.sol ha (-b);refine NoR.no pq nr (z:=z) ?_;refine pq.cut (a:=a*a) ?_ (no_mul pq ha ha);show q∣a*a*(0+v*z^0+u*z^1+1*z^2);exact dv2 (x:=1) (y:=a*z-b+u*a) h hz (by grind)
 have pr:q∣((v'-v)*(v'-v)-u*(u'-u)*(v'-v)+v*(u'-u)*(u'-u))*((w'-v)*(w'-v)-u*(s'-u)*(w'-v)+v*(s'-u)*(s'-u)):=
  dv2 (x:=((v'-v)*(w'-v)-v*(u'-u)*(s'-u))-u*((u'-u)*(w'-v)+(v'-v)*(s'-u)-u*(u'-u)*(s'-u))) (y:=v*((u'-u)*(w'-v)+(v'-v)*(s'-u)-u*(u'-u)*(s'-u))) c0 c1 (by grind)
 rcases pq.or pr with h|h
 ·obtain⟨h1,h2⟩:=root _ _ h;exact .inl ⟨dv1 (x:= -1) h1<|by grind,dv1 (x:= -1) h2<|by grind⟩
 ·obtain⟨h1,h2⟩:=root _ _ h;exact .inr ⟨dv1 (x:= -1) h1<|by grind,dv1 (x:= -1) h2<|by grind⟩
theorem aZ7 {q:Int}{g:Nat×(Nat->Int)}(mg:MP q g.1 g.2)(h2:g.1=2):g=quF (g.2 0) (g.2 1):=by
 obtain⟨n,f⟩:=g;obtain rfl:n=2:=h2;refine gJ rfl (funext λj=> ?_)
 match j with
 | 0=>rfl
 | 1=>rfl
 | 2=>exact mg.top
 | j+3=>exact mg.hi (j+3) (show 2<j+3 by lia)
theorem dJ2 {q:Int}(pq:Pr q){a b c d:Nat×(Nat->Int)}(ma:MP q a.1 a.2)(mb:MP q b.1 b.2)(mc:MP q c.1 c.2)(md':MP q d.1 d.2)(a2:a.1=2)(b2:b.1=2)(c2:c.1=2)(d2:d.1=2)(nr:NoR q a)(h:tm q a b=tm q c d):(a=c/\b=d)\/(a=d/\b=c):=by
 have ra:=ma.rng;have rb:=mb.rng;have rc:=mc.rng;have rd:=md'.rng;have ea:=aZ7 ma a2;have eb:=aZ7 mb b2;have ec:=aZ7 mc c2;have ed:=aZ7 md' d2;have v0:=ra 0;have u0:=ra 1;have w0:=rb 0;have s0:=rb 1;have v1:=rc 0;have u1:=rc 1;have w1:=rd 0;have s1:=rd 1;generalize a.2 0=v at *;generalize a.2 1=u at *;generalize b.2 0=w at *;generalize b.2 1=s at *;generalize c.2 0=v' at *
 generalize c.2 1=u' at *;generalize d.2 0=w' at *;generalize d.2 1=s' at *;subst ea eb ec ed;obtain⟨f0,f1,f2,f3⟩:=bV6 v u w s;obtain⟨g0,g1,g2,g3⟩:=bV6 v' u' w' s';have hm: ∀m,conv (quF v u).2 (quF w s).2 3 m%q=conv (quF v' u').2 (quF w' s').2 3 m%q:=λm=>congrFun (bQ Prod.snd h) m
 have e0:=cM9 (hm 0);have e1:=cM9 (hm 1);have e2:=cM9 (hm 2);have e3:=cM9 (hm 3);rw[f0,g0]at e0;rw[f1,g1]at e1;rw[f2,g2]at e2;rw[f3,g3]at e3;rcases dJ1 pq nr e0 e1 e2 e3 with⟨h1,h2⟩| ⟨h1,h2⟩
 ·obtain rfl:=b36 u0 u1 h1;obtain rfl:=b36 v0 v1 h2;obtain rfl:=b36 s0 s1 (dv1 (x:=1) e3<|by grind)
  obtain rfl:=b36 w0 w1 (dv1 (x:=1) e2<|by grind)
  exact .inl ⟨rfl,rfl⟩
 ·obtain rfl:=b36 u0 s1 h1;obtain rfl:=b36 v0 w1 h2;obtain rfl:=b36 s0 u1 (dv1 (x:=1) e3<|by grind)
  obtain rfl:=b36 w0 v1 (dv1 (x:=1) e2<|by grind)
  exact .inr ⟨rfl,rfl⟩
theorem c74: ∀a b:List Int,ltL a b=true->ltL b a=true->False
 | [],[],h,_=>by simp[ltL]at h
 | [],_::_,_,h=>by simp[ltL]at h
 | _::_,[],h,_=>by simp[ltL]at h
 | x::a,y::b,h,h2=>by
  unfold ltL at h h2
  by_cases c:x=y
  ·rw[a9 c]at h;rw[a9 c.symm]at h2;exact c74 a b h h2
  ·rw[a6 c]at h;rw[a6 λz=>c z.symm]at h2
   have:=pW h;have:=pW h2
   lia
theorem c75 {x y:(Nat×(Nat->Int))×Nat}(h:ltP x y)(h2:ltP y x):False:=by
 unfold ltP at h h2;rcases h with h|h
 ·rcases h2 with h2|h2<;>lia
 ·rcases h2 with h2|h2
  ·lia
  ·exact c74 _ _ h.2 h2.2
theorem d82 {α:Type}{R:α->α->Prop}(as: ∀x y,R x y->R y x->False): ∀{a b:List α},a.Pairwise R->b.Pairwise R->(∀x,x∈a↔x∈b)->a=b
 | [],[],_,_,_=>rfl
 | [],y::b,_,_,h=>by have:=(h y).mpr (bC ..);cases this
 | x::a,[],_,_,h=>by have:=(h x).mp (bC ..);cases this
 | x::a,y::b,ha,hb,h=>by
  rw[jC]at ha hb;have e:x=y:=by
   rcases aX.mp ((h x).mp<|bC ..)with e|m1
   ·exact e
   ·rcases aX.mp ((h y).mpr<|bC ..)with e|m2
    ·exact e.symm
    ·exact(as _ _ (ha.1 y m2)<|hb.1 x m1).elim
  subst e;rw[d82 as ha.2 hb.2 λz=>⟨λm=> ?_,λm=> ?_⟩]
  ·rcases aX.mp ((h z).mp<|bM _ m)with e|m'
   ·subst e;exact(as _ _ (ha.1 z m)<|ha.1 z m).elim
   ·exact m'
  ·rcases aX.mp ((h z).mpr<|bM _ m)with e|m'
   ·subst e;exact(as _ _ (hb.1 z m)<|hb.1 z m).elim
   ·exact m'
theorem bX1 (p:Int): ∀(l:List ((Nat×(Nat->Int))×Nat)) (a:Nat×(Nat->Int)),a.1<=(allT p a l).1
 | [],a=>aF _
 | x::l,a=>by
  have:=bX1 p l (powT p a x.1 x.2);rw[oM]at this;exact aM (Nat.le_add_right _ _) this
theorem bX2 {d k:Nat}(h:2<=d)(k1:1<=k):2<=d*k/\(d*k<=3->k=1)/\(d*k<=2->d=2):=by
 have h1:d*1<=d*k:=pQ _ k1;refine⟨ad,λz=> ?_,λz=>ad⟩
 by_cases c:k=1
 ·exact c
 ·have:2*2<=d*k:=fS h ad
  lia
theorem b88 {q:Int}(q2:2<=q){N:List ((Nat×(Nat->Int))×Nat)}(mem: ∀x∈N,MP q x.1.1 x.1.2/\2<=x.1.1/\1<=x.2)(h4:(allT q eW N).1<=4) :
  N=[]\/(∃g,N=[(g,1)]/\allT q eW N=g)\/ ∃g h:Nat×(Nat->Int),g.1=2/\h.1=2/\allT q eW N=tm q g h/\((g=h/\N=[(g,2)])\/N=[(g,1),(h,1)]):=by
 match N,mem,h4 with
 | [],_,_=>exact .inl rfl
 | [x],mem,h4=>
  obtain⟨mx,d2,k1⟩:=mem x (bC ..);obtain⟨g,k⟩:=x;have hd:(powT q eW g k).1<=4:=h4;rw[oM]at hd;have hd':g.1*k<=4:=by have:eW.1=0:=rfl;lia
  by_cases c:k=1
  ·subst c;exact .inr (.inl ⟨g,rfl,bC8 mx⟩)
  ·have k2:2<=k:=by have:1<=k:=k1;lia
   have:2*2<=g.1*2:=pN _ d2;have h1:g.1*2<=g.1*k:=pQ _ k2;have k3:k=2:=by
    by_cases z:k=2
    ·exact z
    ·have:2*3<=g.1*k:=fS d2 ad
     lia
   subst k3;refine .inr (.inr ⟨g,g,by have:2<=g.1:=d2;lia,by have:2<=g.1:=d2;lia,?_,.inl ⟨rfl,rfl⟩⟩)
   show tm q (tm q eW g) g=_
   rw[bC8 mx]
 | x::y::l,mem,h4=>
  obtain⟨mx,d2,k1⟩:=mem x (bC ..);obtain⟨my,d2',k1'⟩:=mem y (bM _<|bC ..);obtain⟨a1,a2,a3⟩:=bX2 d2 k1;obtain⟨b1,b2,b3⟩:=bX2 d2' k1';have e:(powT q (powT q eW x.1 x.2) y.1 y.2).1=x.1.1*x.2+y.1.1*y.2:=by
   rw[oM,oM];show 0+_+_=_;rw[zero_add]
  match l,mem,h4 with
  | [],_,h4=>
   have h4':(powT q (powT q eW x.1 x.2) y.1 y.2).1<=4:=h4;rw[e]at h4';have kx:=a2 ad
   have ky:=b2 ad
   have gx:=a3 ad
   have gy:=b3 ad
   obtain⟨g,k⟩:=x;obtain⟨h,k'⟩:=y;obtain rfl:k=1:=kx;obtain rfl:k'=1:=ky;refine .inr (.inr ⟨g,h,gx,gy,?_,.inr rfl⟩);show tm q (tm q eW g) h=_;rw[bC8 mx]
  | z::l,mem,h4=>
   exfalso
   obtain⟨mz,d3,k3⟩:=mem z (bM _<|bM _<|bC ..);have c1:=(bX2 d3 k3).1;have ge:=bX1 q l (powT q (powT q (powT q eW x.1 x.2) y.1 y.2) z.1 z.2);have h4':(allT q (powT q (powT q (powT q eW x.1 x.2) y.1 y.2) z.1 z.2) l).1<=4:=h4;rw[oM,e]at ge
   lia
theorem bE9 {q c:Int}(q2:2<=q)(c0:0<=c)(c1:c<q): ∀(k:Nat) {a b:Nat×(Nat->Int)},MP q a.1 a.2->MP q b.1 b.2->powT q a (j1 c) k=powT q b (j1 c) k->a=b
 | 0,_,_,_,_,h=>h
 | k+1,a,b,ma,mb,h=>by
  have ml:=MP.lin q2 c0 c1;exact bE9 q2 c0 c1 k ma mb (bE8 q2 (MP.powT q2 ma ml k) (MP.powT q2 mb ml k) h)
theorem bF0 {q:Int}(q2:2<=q): ∀(L:List ((Nat×(Nat->Int))×Nat)) {G G':Nat×(Nat->Int)},(∀x∈L,∃c,x.1=j1 c/\0<=c/\c<q)->MP q G.1 G.2->MP q G'.1 G'.2->allT q G L=allT q G' L->G=G'
 | [],_,_,_,_,_,h=>h
 | x::L,G,G',hL,mG,mG',h=>by
  obtain⟨c,e,c0,c1⟩:=hL x (bC ..);have ml:=MP.lin q2 c0 c1;have mL: ∀y∈L,MP q y.1.1 y.1.2:=λy hy=>by
   obtain⟨c',e',d0,d1⟩:=hL y (bM _ hy);rw[e'];exact MP.lin q2 d0 d1
  have h':allT q (powT q G x.1 x.2) L=allT q (powT q G' x.1 x.2) L:=h;rw[e]at h';exact bE9 q2 c0 c1 x.2 mG mG' (bF0 q2 L (λy hy=>hL y (bM _ hy)) (MP.powT q2 mG ml _) (MP.powT q2 mG' ml _) h')
theorem aZ8: ∀{xs:List ((Nat×(Nat->Int))×Nat)},xs.Pairwise ltP->(∀x∈xs,1<=x.1.1)-> ∀x∈xs.dropWhile (λx=>x.1.1==1),2<=x.1.1
 | [],_,_,x,hx=>by simp at hx
 | y::xs,hp,h1,x,hx=>by
  rw[jC]at hp
  by_cases c:y.1.1=1
  ·rw[List.dropWhile_cons_of_pos<|by simpa using c]at hx
   exact aZ8 hp.2 (λz hz=>h1 z (bM _ hz)) x hx
  ·rw[List.dropWhile_cons_of_neg<|by simpa using c]at hx
   have hy:=h1 y (bC ..);rcases aX.mp hx with rfl|hx
   ·lia
   ·have:=hp.1 x hx;unfold ltP at this
    lia
theorem bQ6 {xs:List ((Nat×(Nat->Int))×Nat)}: ∀x∈xs.takeWhile (λx=>x.1.1==1),x.1.1=1:=λx hx=>by
 have:=dO.mp (List.all_takeWhile (l:=xs) (p:=λx=>x.1.1==1)) x hx
 simpa using this
theorem cN0 {q:Int}(pq:Pr q){F:Nat×(Nat->Int)}(mF:MP q F.1 F.2){xs ys:List ((Nat×(Nat->Int))×Nat)}(sx:SP q F xs)(sy:SP q F ys){x:(Nat×(Nat->Int))×Nat}(hx:x∈xs)(h1:x.1.1=1):x∈ys:=by
 obtain⟨mx,_,_,k1,_⟩:=sx.mem x hx;have e:=bW0 mx h1;have c0:=(mx.rng 0).1;have c1:=(mx.rng 0).2;have M1:=(bX0 pq mF sx c0 c1).1 x hx e
 by_cases c: ∃y∈ys,y.1=j1 (x.1.2 0)
 ·obtain⟨y,hy,ey⟩:=c;have M2:=(bX0 pq mF sy c0 c1).1 y hy ey;have:x=y:=gJ (e.trans ey.symm) (b56.uniq pq c0 c1 M1 M2);rw[this];exact hy
 ·have M2:=(bX0 pq mF sy c0 c1).2 λy hy z=>c ⟨y,hy,z⟩
  have:=b56.uniq pq c0 c1 M1 M2
  lia
theorem SP.uniq {q:Int}(pq:Pr q){F:Nat×(Nat->Int)}(mF:MP q F.1 F.2)(f4:F.1<=4){xs ys:List ((Nat×(Nat->Int))×Nat)}(sx:SP q F xs)(sy:SP q F ys):xs=ys:=by
 have q2:=pq.lo;have ex:=List.takeWhile_append_dropWhile (p:=λx:(Nat×(Nat->Int))×Nat=>x.1.1==1) (l:=xs)
 have ey:=List.takeWhile_append_dropWhile (p:=λx:(Nat×(Nat->Int))×Nat=>x.1.1==1) (l:=ys)
 have lx:=bQ6 (xs:=xs);have ly:=bQ6 (xs:=ys);have nx:=aZ8 sx.ord λx hx=>(sx.mem x hx).2.1
 have ny:=aZ8 sy.ord λx hx=>(sy.mem x hx).2.1
 have px:=sx.prod;have py:=sy.prod;have ox:=sx.ord;have oy:=sy.ord;have mx:=sx.mem;have my:=sy.mem;have tx: ∀x∈xs,x.1.1=1->x∈ys:=λx hx h=>cN0 pq mF sx sy hx h
 have ty: ∀x∈ys,x.1.1=1->x∈xs:=λx hx h=>cN0 pq mF sy sx hx h
 generalize xs.takeWhile (λx=>x.1.1==1)=Lx at *
 generalize xs.dropWhile (λx=>x.1.1==1)=Nx at *
 generalize ys.takeWhile (λx=>x.1.1==1)=Ly at *
 generalize ys.dropWhile (λx=>x.1.1==1)=Ny at *
 subst ex ey;rw[zF]at ox oy;have eL:Lx=Ly:=by
  refine d82 (λ_ _=>c75) ox.1 oy.1 λx=>⟨λh=> ?_,λh=> ?_⟩
  ·rcases bW.mp (tx x (k8 _ h)<|lx x h)with z|z
   ·exact z
   ·have:=ny x z;have:=lx x h
    lia
  ·rcases bW.mp (ty x (k8 _ h)<|ly x h)with z|z
   ·exact z
   ·have:=nx x z;have:=ly x h
    lia
 subst eL;have hL: ∀x∈Lx,∃c,x.1=j1 c/\0<=c/\c<q:=λx hx=>by
  have m:=(mx x<|k8 _ hx).1;exact⟨_,bW0 m<|lx x hx,(m.rng 0).1,(m.rng 0).2⟩
 have mL: ∀x∈Lx,MP q x.1.1 x.1.2:=λx hx=>(mx x<|k8 _ hx).1
 have mNx: ∀x∈Nx,MP q x.1.1 x.1.2/\2<=x.1.1/\1<=x.2:=λx hx=>by
  have m:=mx x (d7 _ hx);exact⟨m.1,nx x hx,m.2.2.2.1⟩
 have mNy: ∀x∈Ny,MP q x.1.1 x.1.2/\2<=x.1.1/\1<=x.2:=λx hx=>by
  have m:=my x (d7 _ hx);exact⟨m.1,ny x hx,m.2.2.2.1⟩
 have m1:=MP.one q2;have gx:=MP.allT q2 Nx m1 λx hx=>(mNx x hx).1
 have gy:=MP.allT q2 Ny m1 λx hx=>(mNy x hx).1
 have turn: ∀N:List ((Nat×(Nat->Int))×Nat),(∀x∈N,MP q x.1.1 x.1.2)->allT q eW (Lx++N)=allT q (allT q eW N) Lx:=λN hN=>by
  have mA:=MP.allT q2 Lx m1 mL;have mB:=MP.allT q2 N m1 hN;rw[kJ];have e1:allT q eW Lx=tm q (allT q eW Lx) eW:=(bV7 q2 mA).symm;rw[e1,yK q2 N m1 hN];have e2:allT q (allT q eW N) Lx=allT q (tm q (allT q eW N) eW) Lx:=by rw[bV7 q2 mB]
  rw[e2,yK q2 Lx m1 mL,a18 mA.hi mB.hi]
 rw[turn Nx λx hx=>(mNx x hx).1]at px
 rw[turn Ny λx hx=>(mNy x hx).1]at py
 have eG:allT q eW Nx=allT q eW Ny:=bF0 q2 Lx hL gx gy (px.trans py.symm);have hx4:(allT q eW Nx).1<=4:=by
  have:=bX1 q Lx (allT q eW Nx);rw[px]at this
  lia
 have hy4:(allT q eW Ny).1<=4:=by rw[<-eG];exact hx4
 have eN:Nx=Ny:=by
  have oX:=ox.2.1;have oY:=oy.2.1;have irx: ∀x∈Nx,NoR q x.1/\(x.1.1=4->NoQ q x.1):=λx hx=>by
   have m:=mx x (d7 _ hx);exact⟨m.2.2.2.2.2.1<|nx x hx,m.2.2.2.2.2.2⟩
  have iry: ∀x∈Ny,NoR q x.1/\(x.1.1=4->NoQ q x.1):=λx hx=>by
   have m:=my x (d7 _ hx);exact⟨m.2.2.2.2.2.1<|ny x hx,m.2.2.2.2.2.2⟩
  have noq: ∀{g a b:Nat×(Nat->Int)},MP q a.1 a.2->MP q b.1 b.2->a.1=2->b.1=2->(g.1=4->NoQ q g)->g=tm q a b->False:=λ{g a b} ma mb a2 b2 nq e=>by
   have g4:g.1=4:=by
    rw[e];show a.1+b.1=4
    lia
   refine nq g4 _ _ _ _ (ma.rng 0).1 (ma.rng 0).2 (ma.rng 1).1 (ma.rng 1).2 (mb.rng 0).1 (mb.rng 0).2 (mb.rng 1).1 (mb.rng 1).2 ?_
   rw[<-aZ7 ma a2,<-aZ7 mb b2];exact e
  have mp2: ∀{N:List ((Nat×(Nat->Int))×Nat)} {g h:Nat×(Nat->Int)},(∀x∈N,MP q x.1.1 x.1.2/\2<=x.1.1/\1<=x.2)->((g=h/\N=[(g,2)])\/N=[(g,1),(h,1)])->MP q g.1 g.2/\MP q h.1 h.2:=λ{N g h} mN f=>by
   rcases f with⟨rfl,rfl⟩|rfl
   ·have:=(mN _<|bC ..).1;exact⟨this,this⟩
   ·exact⟨(mN _<|bC ..).1,(mN _<|bM _<|bC ..).1⟩
  rcases b88 q2 mNx hx4 with rfl| ⟨g,rfl,ge⟩| ⟨g,h,g2,h2,ge,fx⟩
  ·rcases b88 q2 mNy hy4 with rfl| ⟨g',rfl,ge'⟩| ⟨g',h',g2',h2',ge',fy⟩
   ·rfl
   ·exfalso
    have z:=bQ Prod.fst (eG.trans ge');have z':0=g'.1:=z;have:=(mNy _<|bC ..).2.1;have:2<=g'.1:=this
    lia
   ·exfalso
    have z:=bQ Prod.fst (eG.trans ge');have z':0=g'.1+h'.1:=z
    lia
  ·rcases b88 q2 mNy hy4 with rfl| ⟨g',rfl,ge'⟩| ⟨g',h',g2',h2',ge',fy⟩
   ·exfalso
    have z:=bQ Prod.fst (ge.symm.trans eG);have z':g.1=0:=z;have:=(mNx _<|bC ..).2.1;have:2<=g.1:=this
    lia
   ·rw[ge.symm.trans<|eG.trans ge']
   ·exfalso
    obtain⟨ma,mb⟩:=mp2 mNy fy;exact noq ma mb g2' h2' (irx _<|bC ..).2 (ge.symm.trans<|eG.trans ge')
  ·obtain⟨mg,mh⟩:=mp2 mNx fx;rcases b88 q2 mNy hy4 with rfl| ⟨g',rfl,ge'⟩| ⟨g',h',g2',h2',ge',fy⟩
   ·exfalso
    have z:=bQ Prod.fst (ge.symm.trans eG);have z':g.1+h.1=0:=z
    lia
   ·exfalso
    exact noq mg mh g2 h2 (iry _<|bC ..).2 (ge'.symm.trans<|eG.symm.trans ge)
   ·obtain⟨mg',mh'⟩:=mp2 mNy fy;have nr:NoR q g:=by
     rcases fx with⟨_,rfl⟩|rfl
     ·exact(irx _<|bC ..).1
     ·exact(irx _<|bC ..).1
    rcases dJ2 pq mg mh mg' mh' g2 h2 g2' h2' nr (ge.symm.trans<|eG.trans ge')with⟨rfl,rfl⟩| ⟨rfl,rfl⟩
    ·rcases fx with⟨e,rfl⟩|rfl
     ·rcases fy with⟨_,rfl⟩|rfl
      ·rfl
      ·subst e;rw[jC]at oY;exact(aZ6 (oY.1 _<|bC ..) rfl).elim
     ·rcases fy with⟨e,rfl⟩|rfl
      ·subst e;rw[jC]at oX;exact(aZ6 (oX.1 _<|bC ..) rfl).elim
      ·rfl
    ·rcases fx with⟨e,rfl⟩|rfl
     ·subst e;rcases fy with⟨_,rfl⟩|rfl
      ·rfl
      ·rw[jC]at oY;exact(aZ6 (oY.1 _<|bC ..) rfl).elim
     ·rw[jC]at oX;have l1:=oX.1 _ (bC ..);rcases fy with⟨e,rfl⟩|rfl
      ·exact(aZ6 l1 e.symm).elim
      ·rw[jC]at oY;have l2:=oY.1 _ (bC ..);exact(c75 l1 l2).elim
 rw[eN]
noncomputable def wOf (p:List Int)(n d:Nat)(g:Nat->Int):Nat->Int:=λj=>if d<n then g j else g j-fOf p j
theorem cU2 {p:List Int}{n d:Nat}{g:Nat->Int}(rp:dM p)(gb: ∀j,(g j).natAbs<=2^8)(j:Nat):(wOf p n d g j).natAbs<=2^12:=by
 have b1:=gb j;have b2:=rp.rf.fb j;have:(2:Nat)^12=4096:=rfl;have:(2:Nat)^8=256:=rfl;have:(2:Nat)^9=512:=rfl;unfold wOf;split<;>lia
def xB:Φ:=λds Q=> ∃(C:Addr) (p:List Int) (n d:Nat) (g:Nat->Int),ds=[cH C p,aN<|rwF (d+1) g]/\dM p/\p.length=n+1/\d<=n/\g d=1/\(∀j,d<j->g j=0)/\(∀j,(g j).natAbs<=2^8)/\Q (.pu<|aN<|rwF n<|wOf p n d g)
def xC:US:=(d6<|aS rP<|aB (uIx (uV<|aS eT<|aB (aE 1)<|aB (nP "poly"<|aE 0) aL)<|uC<|.int 1)<|aB (nP "degree"<|aE 0) aL)
theorem bK7: ∀ds Q,xB ds Q->xC {nx:=λ_=>Q (.pu .non),rt:=Q} (init ["r","f"] ds):=by
 rintro ds Q ⟨C,p,n,d,g,rfl,rp,hn,hd,g1,gz,gb,h⟩;have lo:=rp.ok.lo;have hi:=rp.ok.hi;have rf:=rp.rf;have row:=rp.row;rw[hn,fN]at rf row;unfold xC;show(d6 _:US) _ [some<|.pu<|cH C p,some<|.pu<|aN<|rwF (d+1) g];rw[i8,dJ,bT];unfold uIx uV;rw[dJ,bT,sX rfl,bT,tK (C:=C) (p:=p) rfl];walk_at "u";rw[row]
 refine⟨d+1,n,8,9,g,fOf p,rfl,⟨ad,ad,rf.top,rf.hi,λm _=>gb m,rf.fb,ad,ac⟩,?_⟩
 walk_at "u"
 rw[at1];dsimp only;rw[kK (C:=C) (p:=p) rfl];walk_at "u";obtain⟨w,wd,wz,wc,we⟩: ∃w:Nat->Int,w=wOf p n d g/\(∀j,fA w (d+1)<=j->j<n->w j=0)/\fA w (d+1)<=n/\divL (fOf p) n (d+1-n) g=w:=by
  by_cases c:d<n
  ·refine⟨g,funext λj=>(a9 c).symm,λj hj _=> ?_,aM (sY _ _) ad,by rw[show d+1-n=0 by lia];rfl⟩
   by_cases x:j<d+1
   ·exact aF4 g (d+1) j hj x
   ·exact gz j ad
  ·have e:d=n:=ad
   subst e;refine⟨λj=>g j-fOf p j,funext λj=>(a6 c).symm,λj hj hj2=>aF4 _ (d+1) j hj ad,?_,?_⟩
   ·have z:g d-fOf p d=0:=by rw[g1,rf.top];rfl
    show(if g d-fOf p d=0 then fA _ d else d+1)<=d
    rw[a9 z];exact sY _ _
   ·rw[show d+1-d=1 by lia]
    funext j
    show g j-g (0+d)*shF (fOf p) 0 j=g j-fOf p j
    rw[zero_add,g1];unfold shF;rw[a9<|cP _,tZ]
    lia
 rw[we];refine⟨_,(n:Int),by rw[hn];congr 3;lia,by rw[mJ];lia,ad,ad,?_⟩
 rw[mJ,show((n:Int)-(fA w (d+1):Int)).toNat=n-fA w (d+1)by lia,dI9 wc wz,wd]
 exact h
theorem SOk.uniq {n:Nat}{m:Int}{L:List (List Int)}{T U:Nat->Nat->Int}(S:SOk n m L T)(S':SOk n m L U):tbF n n T=tbF n n U:=
 cU1 (c68.uniq S.st S'.st (λi hi=>(S'.gen _).mpr ((S.gen _).mp<|.base ⟨i,hi,rfl⟩)) λi hi=>(S.gen _).mpr ((S'.gen _).mp<|.base ⟨i,hi,rfl⟩))
def POk (p:List Int)(n:Nat)(q:Int)(g:Nat×(Nat->Int))(T:Nat->Nat->Int):Prop:=SOk n (((nrm p n<|vP q).gcd (nrm p n<|wOf p n g.1 g.2):Nat):Int) (tbL n (itT p n<|vP q)++tbL n (itT p n<|wOf p n g.1 g.2)) T
def oQ:Φ:=λds Q=> ∃(C:Addr) (p:List Int) (n:Nat) (q:Int) (g:Nat×(Nat->Int)),ds=[cH C p,.int q,aN<|rwF (g.1+1) g.2]/\dM p/\p.length=n+1/\Pr q/\g.1<=n/\MP q g.1 g.2/\ ∀T,POk p n q g T->Q (.pu<|.tup<|tbF n n T)
def v4:US:=(d6<|aS aZ4<|aB (aE 0)<|aB (kF<|aB (aS oO<|aB (aE 0)<|aB (aE 1) aL)<|aB (aS xB<|aB (aE 0)<|aB (aE 2) aL) aL) aL)
theorem bF1: ∀ds Q,oQ ds Q->v4 {nx:=λ_=>Q (.pu .non),rt:=Q} (init ["r","p","g"] ds):=by
 rintro ds Q ⟨C,p,n,q,g,rfl,rp,hn,pq,dn,mg,h⟩;have lo:=rp.ok.lo;have hi:=rp.ok.hi;have q2:=pq.lo;have q3:=pq.hi;unfold v4;show(d6 _:US) _ [some<|.pu<|cH C p,some<|.pu<|.int q,some<|.pu<|aN<|rwF (g.1+1) g.2];walk_at "u";refine⟨C,p,n,q,rfl,rp,hn,?_⟩;walk_at "u";refine⟨C,p,n,g.1,g.2,rfl,rp,hn,dn,mg.top,mg.hi,λj=>bV5 pq mg j,?_⟩
 walk_at "u"
 obtain⟨c1,c2⟩:=dI8 (p:=p) (show 2<=n by lia) (show n<=4 by lia) q2 q3
 refine⟨ac,C,p,n,vP q,wOf p n g.1 g.2,rfl,rp,hn,λj=> ?_,cU2 rp λj=>bV5 pq mg j,c1,c2,λT S=>h _ S⟩
 unfold vP;have:(2:Nat)^12=4096:=rfl;split<;>lia
def AbW (p:List Int)(n:Nat)(q:Int)(x:(Nat×(Nat->Int))×Nat)(d:D):Prop:= ∃T,POk p n q x.1 T/\d= .tup [.tup<|tbF n n T,.int (x.2:Int),.int (x.1.1:Int)]
theorem AbW.uniq {p:List Int}{n:Nat}{q:Int}{x:(Nat×(Nat->Int))×Nat}{d e:D}(h:AbW p n q x d)(h':AbW p n q x e):d=e:=by
 obtain⟨T,S,rfl⟩:=h;obtain⟨U,S',rfl⟩:=h';rw[SOk.uniq S S']
def AbL (p:List Int)(n:Nat)(q:Int)(l:List D):Prop:= ∃xs,SP q (n,md q<|fOf p) xs/\l.length=xs.length/\ ∀i,i<xs.length->AbW p n q (xs.getD i (eW,0)) (l.getD i .non)
theorem AbL.uniq {p:List Int}{n:Nat}{q:Int}{l k:List D}(rp:dM p)(hn:p.length=n+1)(pq:Pr q)(h:AbL p n q l)(h':AbL p n q k):l=k:=by
 have hi:=rp.ok.hi;have rf:=rp.rf;rw[hn,fN]at rf;obtain⟨xs,sx,lx,hx⟩:=h;obtain⟨ys,sy,ly,hy⟩:=h';have e:=SP.uniq pq (rf.mp pq.lo) (show n<=4 by lia) sx sy
 subst e;refine iL (by rw[lx,ly]) λi h1 h2=> ?_
 have a:=(hx i ad).uniq (hy i ad)
 rw[aJ,aJ,aO h1,aO h2]at a;exact a
def aB2:Φ:=λds Q=> ∃(C:Addr) (p:List Int) (n:Nat) (q:Int),ds=[cH C p,.int q]/\dM p/\p.length=n+1/\q∈prL/\ ∀l,AbL p n q l->Q (.ow l)
def aB3:US:=(d6<|eF [0,1] [none,none,some 0,some 1,none] 4 (iV<|aS qX<|aB (nP "poly"<|aE 0)<|aB (aE 1) aL) (lZ<|cZ 0<|cZ 1 lY) (λρ Q=>Q true ρ)<|fY<|aB (aS oQ<|aB (aE 2)<|aB (aE 3)<|aB (aE 0) aL)<|aB (aE 1)<|aB (uOp M.gSub (l6<|aZ 0)<|uC<|.int 1) aL)
theorem c76: ∀ds Q,aB2 ds Q->aB3 {nx:=λ_=>Q (.pu .non),rt:=Q} (init ["r","p"] ds):=by
 rintro ds Q ⟨C,p,n,q,rfl,rp,hn,hq,h⟩;have lo:=rp.ok.lo;have hi:=rp.ok.hi;have pq:=a16 hq;have q2:=pq.lo;have rf:=rp.rf;have row:=rp.row;rw[hn,fN]at rf row;unfold aB3;show(d6 _:US) _ [some<|.pu<|cH C p,some<|.pu<|.int q];rw[i8]
 have key: ∀xs,SP q (n,md q<|fOf p) xs->eF [0,1] [none,none,some 0,some 1,none] 4 (λρ Q=>Q (xs.map vV).length (λi=>(xs.map vV).getD i .non) ρ) (lZ<|cZ 0<|cZ 1 lY) (λρ Q=>Q true ρ) (fY<|aB (aS oQ<|aB (aE 2)<|aB (aE 3)<|aB (aE 0) aL)<|aB (aE 1)<|aB (uOp M.gSub (l6<|aZ 0)<|uC<|.int 1) aL) [some<|.pu<|cH C p,some<|.pu<|.int q] λb _=>Q b:=by
  intro xs sp
  refine bW8 (t0:=0) (t1:=1) xs.length (λi=>(xs.map vV).getD i .non) (λi=>aN (rwF ((xs.getD i (eW,0)).1.1+1) (xs.getD i (eW,0)).1.2)) (λi=> .int ((xs.getD i (eW,0)).2:Int)) (λi hi=> ?_) [some<|.pu<|cH C p,some<|.pu<|.int q] (λQ' q=> ?_) (aM sp.len ac) (λx y l=>[x,y,some<|.pu<|cH C p,some<|.pu<|.int q,some<|.ow l]) none none rfl (λ_ _ _ _ _=>rfl) (λ_ _ _=>⟨ae,ae⟩) (λ_ _ _ _ q=>q) (λ_ _ _ _=>rfl) (λi=>AbW p n q (xs.getD i (eW,0))) ?_ ?_
  ·rw[aJ,bJ,aJ,aO hi];rfl
  ·rw[aK];exact q
  ·intro i l Q' hi' q';have hm:xs.getD i (eW,0)∈xs:=by
    rw[aJ,aO hi'];exact bV hi'
   obtain⟨mx,x1,x4,o1,_⟩:=sp.mem _ hm;have dg:=bD0 q xs eW _ hm;rw[sp.prod]at dg;generalize xs.getD i (eW,0)=x at *;have dn:x.1.1<=n:=by
    have:x.1.1*1<=x.1.1*x.2:=pQ _ o1;have e0:eW.1=0:=rfl;dsimp only at dg
    lia
   walk_at "u"
   refine⟨C,p,n,q,x.1,rfl,rp,hn,pq,dn,mx,λT ht=> ?_⟩
   walk_at "u"
   simp only[aN]at q'⊢;rw[b9];rw[show((x.1.1+1:Nat):Int)-1=(x.1.1:Int)by lia]
   exact⟨ac,q' _ ⟨T,ht,rfl⟩⟩
  ·intro l hl hP;exact h l ⟨xs,sp,hl,hP⟩
 unfold eF at key⊢;unfold iV;rw[dJ,bT,tK (C:=C) (p:=p) rfl];walk_at "u";rw[row];exact⟨n,fOf p,q,rfl,ad,hq,rf.mp q2,λxs sp=>key xs sp⟩
def Pdk (k:Nat)(d:D):Prop:= ∃p,pd d=some p/\p.depth<=k
theorem Pdk.int {k:Nat}{i:Int}:Pdk k (.int i):=⟨_,rfl,cP _⟩
theorem pdkL {k:Nat}: ∀{l:List D},(∀d∈l,Pdk k d)-> ∃ps,pdL l=some ps/\PyData.depthAll ps<=k
 | [],_=>⟨[],rfl,cP _⟩
 | d::l,h=>by
  obtain⟨p,e,hp⟩:=h d (bC ..);obtain⟨ps,es,hps⟩:=pdkL λx hx=>h x (bM _ hx)
  refine⟨p::ps,by simp only[pdL,e,es,aN5,zS],?_⟩
  simp only[PyData.depthAll];exact Nat.max_le.mpr ⟨hp,hps⟩
theorem Pdk.tup {k:Nat}{l:List D}(h: ∀d∈l,Pdk k d):Pdk (k+1) (.tup l):=by
 obtain⟨ps,e,hp⟩:=pdkL h;exact⟨.tuple ps,by simp only[pd,e,zS],by simp only[PyData.depth];omega⟩
theorem Pdk.lst {k:Nat}{l:List D}(h: ∀d∈l,Pdk k d):Pdk (k+1) (.lst l):=by
 obtain⟨ps,e,hp⟩:=pdkL h;exact⟨.list ps,by simp only[pd,e,zS],by simp only[PyData.depth];omega⟩
theorem Pdk.up {k m:Nat}{d:D}(h:Pdk k d)(hm:k<=m):Pdk m d:=let ⟨p,e,hp⟩:=h;⟨p,e,aM hp hm⟩
theorem Pdk.row (ns:List Int):Pdk 1 (aN ns):= .tup λd hd=>by
 obtain⟨n,_,rfl⟩:=dE.mp hd;exact .int
theorem Pdk.same {neg:Bool}{k:Nat}{d:D}{Q:B->Prop}(h:Pdk k d)(hk:k<=60)(q:Q (.pu<|.bl<|neg ^^ true)):bJ4 neg d d Q:=by
 obtain⟨p,e,hp⟩:=h;exact⟨p,p,e,e,aM hp hk,by rw[PySem.SeqAt.eqv_refl p<|aX7 d e];exact q⟩
theorem uOr_eq (t u:UT)(ρ:Ev)(Q:Bool->Ev->Prop):uOr t u ρ Q=t ρ λc ρ1=>if c=true then Q true ρ1 else u ρ1 Q:=rfl
theorem d83 (t u:UE)(ρ:Ev)(Q:B->Ev->Prop):cJ6 t u ρ Q=t ρ λx ρ1=>isB (λc ρ1=>if c=true then u ρ1 Q else Q (.pu<|.bl false) ρ1) x ρ1:=rfl
def PaL (p:List Int)(n:Nat)(l:List D):Prop:= ∃xf,SPs n (fOf p) (jR 4<|eJ p) xf/\l=cS7 n (fOf p) (jR 4<|eJ p) xf
def aB4:Φ:=λds Q=> ∃(C:Addr) (p:List Int) (n:Nat),ds=[cH C p]/\dM p/\p.length=n+1/\ ∀l,PaL p n l->Q (.ow l)
def aB5:US:=(d6<|aS oN<|aB (nP "poly"<|aE 0)<|aB (nP "measure"<|aE 0) aL)
theorem c77: ∀ds Q,aB4 ds Q->aB5 {nx:=λ_=>Q (.pu .non),rt:=Q} (init ["r"] ds):=by
 rintro ds Q ⟨C,p,n,rfl,rp,hn,h⟩;have rf:=rp.rf;have row:=rp.row;rw[hn,fN]at rf row;unfold aB5;show(d6 _:US) _ [some<|.pu<|cH C p];rw[i8,dJ,bT,tK (C:=C) (p:=p) rfl,bT,aT5 (C:=C) (p:=p) rfl];refine⟨n,fOf p,jR 4<|eJ p,?_,rf,λxf hx=>h _ ⟨xf,hx,rfl⟩⟩
 rw[row];rfl
theorem cN1 {p:List Int}{n:Nat}{xf yf:Int->List ((Nat×(Nat->Int))×Nat)}{s:Int}(rp:dM p)(hn:p.length=n+1)(hx:SPs n (fOf p) s xf)(hy:SPs n (fOf p) s yf): ∀q∈prL,sqB s q=true->xf q=yf q:=λq hq hs=>by
 have hi:=rp.ok.hi;have rf:=rp.rf;rw[hn,fN]at rf;have pq:=a16 hq;exact SP.uniq pq (rf.mp pq.lo) (show n<=4 by lia) (hx q hq hs) (hy q hq hs)
theorem PaL.uniq {p:List Int}{n:Nat}{l k:List D}(rp:dM p)(hn:p.length=n+1)(h:PaL p n l)(h':PaL p n k):l=k:=by
 obtain⟨xf,hx,rfl⟩:=h;obtain⟨yf,hy,rfl⟩:=h';refine mU λq hq=> ?_
 obtain⟨h1,h2⟩:=nA.mp hq;unfold d55;rw[cN1 rp hn hx hy q h1 h2]
theorem wh_not {p:List Int}(rp:dM p){s:Int}(h:Wh (p.length-1) (fOf p) s)(h':NWh (p.length-1) (fOf p) s):False:=by
 have lo:=rp.ok.lo;obtain⟨xf,hx,fx⟩:=h;obtain⟨yf,hy,ny⟩:=h';exact ny λq hq hs=>by
  rw[<-cN1 rp (show p.length=p.length-1+1 by lia) hx hy q hq hs]
  exact fx q hq hs
def AsL (p:List Int)(n:Nat)(q:Int)(L:List D):Prop:= ∃a b,PaL p n a/\AbL p n q b/\L=[.lst a,.lst b,.int<|a59 4<|tbL n<|reF p n]
theorem AsL.uniq {p:List Int}{n:Nat}{q:Int}{L K:List D}(rp:dM p)(hn:p.length=n+1)(pq:Pr q)(h:AsL p n q L)(h':AsL p n q K):L=K:=by
 obtain⟨a,b,ha,hb,rfl⟩:=h;obtain⟨c,d,hc,hd,rfl⟩:=h';rw[ha.uniq rp hn hc,hb.uniq rp hn pq hd]
theorem AsL.pdk {p:List Int}{n:Nat}{q:Int}{L:List D}(h:AsL p n q L):Pdk 50 (.lst L):=by
 obtain⟨a,b,⟨xf,_,ea⟩,⟨xs,_,lb,hb⟩,rfl⟩:=h;refine Pdk.up (k:=12) (.lst λd hd=> ?_) ac
 simp only[aX,cM,cR]at hd;rcases hd with rfl|rfl|rfl
 ·refine Pdk.up (k:=6) (.lst λd hd=> ?_) ac
  rw[ea]at hd;obtain⟨z,_,rfl⟩:=dE.mp hd;refine .tup λd hd=> ?_
  simp only[aX,cM,cR]at hd;rcases hd with rfl|rfl
  ·exact .int
  ·refine .lst λd hd=> ?_
   obtain⟨x,_,rfl⟩:=dE.mp hd;refine Pdk.up (k:=2) (.tup λd hd=> ?_) ac
   simp only[aX,cM,cR]at hd;rcases hd with rfl|rfl|rfl
   ·exact .row _
   ·exact .int
   ·exact .row _
 ·refine Pdk.up (k:=6) (.lst λd hd=> ?_) ac
  obtain⟨i,hi,rfl⟩:=List.mem_iff_getElem.mp hd;have:=hb i ad
  obtain⟨T,_,e⟩:=this;rw[aJ,aO hi]at e;have e:b[i]=_:=e;rw[e];refine .tup λd hd=> ?_
  simp only[aX,cM,cR]at hd;rcases hd with rfl|rfl|rfl
  ·refine Pdk.up (k:=2) (.tup λd hd=> ?_) ac
   obtain⟨j,_,rfl⟩:=dE.mp hd;exact .row _
  ·exact .int
  ·exact .int
 ·exact .int
def rR:Φ:=λds Q=> ∃(C:Addr) (p:List Int) (n:Nat) (q:Int) (k:Nat),ds=[cH C p,.int q,.int (k:Int)]/\dM p/\p.length=n+1/\q∈prL/\k<3/\ ∀L,AsL p n q L->Q (.ow L)
def bQ7:US:=(rE 3)
def bQ8:US:=(aW (kY (iX<|aB (uC<|.int 3) aL) (cT 4)<|aW (cA 5<|uOp oE (uOp iZ (aE 4)<|aE 2)<|uC<|.int 3)<|iD (eX<|uOp (kG false) (aE 5)<|uC<|.int 0) (b21 3 (aS aB4<|aB (aE 0) aL)<|uC<|.int 0)<|iD (eX<|uOp (kG false) (aE 5)<|uC<|.int 1) (b21 3 (aS aB2<|aB (aE 0)<|aB (aE 1) aL)<|uC<|.int 1)<|b21 3 (aS aO7<|aB (aE 0) aL)<|uC<|.int 2) bQ7)
def bF2:US:=(aW (cA 3<|kF<|aB (uC .non)<|aB (uC .non)<|aB (uC .non) aL) bQ8)
theorem d84: ∀ds Q,rR ds Q->bF2 {nx:=λ_=>Q (.pu .non),rt:=Q} (init ["r","p","a","f","k","w"] ds):=by
 rintro ds Q ⟨C,p,n,q,k,rfl,rp,hn,hq,k3,h⟩;unfold bF2;show(aW _ _:US) _ [some<|.pu<|cH C p,some<|.pu<|.int q,some<|.pu<|.int (k:Int),none,none,none];rw[aT];walk_at "u";refine⟨ac,?_⟩
 unfold bQ8;rw[aT];refine cC 3 (λi=> .int (0+(i:Int))) [some<|.pu<|cH C p,some<|.pu<|.int q,some<|.pu<|.int (k:Int),some<|.ow [.non,.non,.non],none,none] (λQ' q=> ?_)
  (λi ρ=> ∃x y z v w,ρ=[some<|.pu<|cH C p,some<|.pu<|.int q,some<|.pu<|.int (k:Int),some<|.ow [x,y,z],v,w]/\(∀j,j<i->(j+k)%3=0-> ∃a,PaL p n a/\x= .lst a)/\(∀j,j<i->(j+k)%3=1-> ∃a,AbL p n q a/\y= .lst a)/\(∀j,j<i->(j+k)%3=2->z= .int (a59 4<|tbL n<|reF p n))) ⟨_,_,_,none,none,rfl,λj hj=>absurd hj (gF _),λj hj=>absurd hj (gF _),λj hj=>absurd hj (gF _)⟩ ?_ ?_
 ·walk_at "u"
  exact⟨ac,q⟩
 ·rintro i ρ hi ⟨x,y,z,v,w,rfl,h0,h1,h2⟩;rw[dD];walk_at "u";rw[dI _ ac]
  refine⟨ac,ac,?_⟩
  by_cases c0:(i+k)%3=0
  ·rw[a9 ad]
   refine⟨C,p,n,rfl,rp,hn,λa ha=> ?_⟩
   try dsimp only
   rw[show ixN 3 0=some 0 from rfl]
   refine⟨.lst a,y,z,_,_,rfl,λ_ _ _=>⟨a,ha,rfl⟩,λj hj e=> ?_,λj hj e=> ?_⟩
   ·exact h1 j ad e
   ·exact h2 j ad e
  ·rw[a6 ad]
   by_cases c1:(i+k)%3=1
   ·rw[a9 ad]
    refine⟨C,p,n,q,rfl,rp,hn,hq,λa ha=> ?_⟩
    try dsimp only
    rw[show ixN 3 1=some 1 from rfl]
    refine⟨x,.lst a,z,_,_,rfl,λj hj e=> ?_,λ_ _ _=>⟨a,ha,rfl⟩,λj hj e=> ?_⟩
    ·exact h0 j ad e
    ·exact h2 j ad e
   ·rw[a6 ad]
    refine⟨C,p,n,rfl,rp,hn,?_⟩
    try dsimp only
    rw[show ixN 3 2=some 2 from rfl]
    refine⟨x,y,.int<|a59 4<|tbL n<|reF p n,_,_,rfl,λj hj e=> ?_,λj hj e=> ?_,λ_ _ _=>rfl⟩
    ·exact h0 j ad e
    ·exact h1 j ad e
 ·rintro ρ ⟨x,y,z,v,w,rfl,h0,h1,h2⟩;dsimp only;unfold bQ7;walk_at "u";obtain⟨a,ha,rfl⟩:=h0 ((3-k)%3) ad ad
  obtain⟨b,hb,rfl⟩:=h1 ((4-k)%3) ad ad
  have e:=h2 ((5-k)%3) ad ad
  subst e;exact h _ ⟨a,b,ha,hb,rfl⟩
noncomputable def cG7 (p:List Int):D:= .tup [aN p,.int<|(p.length:Int)-1,.int<|jR 4<|eJ p]
theorem bX3 {ρ:Ev}{i:Nat}{C:Addr}{p:List Int}{Q:B->Ev->Prop}(h:ρ[i]? =some (some<|.pu<|cH C p))(q:Q (.pu<|cG7 p) ρ):fY (aB (nP "poly"<|aE i)<|aB (nP "degree"<|aE i)<|aB (nP "measure"<|aE i) aL) ρ Q:=by
 unfold fY;rw[bT,tK h,bT,kK h,bT,aT5 h];exact⟨show 3<=sizeLine by decide,q⟩
theorem c78 {p:List Int}{neg:Bool}{Q:B->Prop}(q:Q (.pu<|.bl<|neg ^^ true)):bJ4 neg (cG7 p) (cG7 p) Q:=by
 refine Pdk.same (k:=2) (.tup λd hd=> ?_) ac q
 simp only[aX,cM,cR]at hd;rcases hd with rfl|rfl|rfl
 ·exact .row _
 ·exact .int
 ·exact .int
def bF3:US:=(d6<|cJ6 (uOp (bJ4 false) (aS rR<|aB (aE 8)<|aB (aE 5)<|aB (uIx (aZ 3)<|uC<|.int 1) aL)<|aE 6)<|uOp (bJ4 false) (fY<|aB (nP "poly"<|aE 8)<|aB (nP "degree"<|aE 8)<|aB (nP "measure"<|aE 8) aL)<|aE 7)
def bX4:US:=(aW (cA 8<|c39 ["poly","degree","measure"] rQ<|aB (nP "poly"<|aE 1) aL) bF3)
def bX5:US:=(aW (iD (uOr (eX<|uOp (bJ4 true) (aS rR<|aB (aE 1)<|aB (aE 5)<|aB (uIx (aZ 3)<|uC<|.int 2) aL)<|aE 6)<|eX<|uOp (bJ4 true) (fY<|aB (nP "poly"<|aE 1)<|aB (nP "degree"<|aE 1)<|aB (nP "measure"<|aE 1) aL)<|aE 7) (d6<|uC<|.bl false) fH) bX4)
def bX6:US:=(aW (aH4<|aS rR<|aB (aE 2)<|aB (aE 5)<|aB (uIx (aZ 3)<|uC<|.int 2) aL) bX5)
def bX7:US:=(aW (cA 7<|fY<|aB (nP "poly"<|aE 1)<|aB (nP "degree"<|aE 1)<|aB (nP "measure"<|aE 1) aL) bX6)
def bX8:US:=(aW (cA 6<|aS rR<|aB (aE 1)<|aB (aE 5)<|aB (uIx (aZ 3)<|uC<|.int 1) aL) bX7)
def bX9:US:=(aW (cA 5<|uIx (aZ 4)<|uIx (aZ 3)<|uC<|.int 0) bX8)
def cN2:US:=(aW (cA 4<|eF [] [none,none] 1 (a78<|aB (uC<|.int 2)<|aB (uC<|.int 200) aL) (cT 0) (eX<|aS cD4<|aB (eF [0] [none,some 0,none] 2 (a78<|aB (uC<|.int 2)<|aB (uC<|.int 15) aL) (cT 0) (λρ Q=>Q true ρ)<|dC5 (uOp (kG false) (aE 1)<|aE 0)<|uOp (vK λi j=>decide (j<i)) (uOp oE (aE 1)<|aE 0)<|uC<|.int 0) aL)<|aE 0) bX9)
def cN3:US:=(aW (cA 3<|aS rH<|aB (aS aS6<|aB (aE 0)<|aB (uC<|.int 6) aL)<|aB (kF<|aB (uC<|.int 46)<|aB (uC<|.int 3)<|aB (uC<|.int 3) aL)<|aB (uC<|.int 999999431) aL) cN2)
def cN4:US:=(aW (cA 2<|aS b86<|aB (aE 0)<|aB (uC<|.int 3)<|aB (uC<|.int 999999443) aL) cN3)
def bY0:US:=(aW (cA 1<|aS b86<|aB (aE 0)<|aB (uC<|.int 0)<|aB (uC<|.int 999999461) aL) cN4)
section
variable {S a1 a2 a4 a7 a8 t:Option B}{e0 e1 e2:Nat}{q:Int}{C:Addr}{p:List Int}{n:Nat}
theorem bY1 {Q:B->Ev->Prop}(i k e:Nat)(hk:([D.int (e0:Int),.int (e1:Int),.int (e2:Int)]:List D)[k]? =some (.int (e:Int)))(hi:([S,a1,a2,some<|.ow [.int (e0:Int),.int (e1:Int),.int (e2:Int)],a4,some<|.pu<|.int q,t,a7,a8]:Ev)[i]? =some (some<|.pu<|cH C p))(rp:dM p)(hn:p.length=n+1)(hq:q∈prL)(e3:e<3)
  (h: ∀L,AsL p n q L->Q (.ow L) [S,a1,a2,some<|.ow [.int (e0:Int),.int (e1:Int),.int (e2:Int)],a4,some<|.pu<|.int q,t,a7,a8]):aS rR (aB (aE i)<|aB (aE 5)<|aB (uIx (aZ 3)<|uC<|.int (k:Int)) aL) [S,a1,a2,some<|.ow [.int (e0:Int),.int (e1:Int),.int (e2:Int)],a4,some<|.pu<|.int q,t,a7,a8] Q:=by
 rw[dJ,bT,sX hi,bT,sX rfl,bT];have:=d5 hk;simp only[uIx,aZ,b96,uC,gIx,nZ,B.d,aL,mS,yZ,this];exact⟨C,p,n,q,e,rfl,rp,hn,hq,e3,h⟩
end
theorem cG8 {ρ:Ev}{Q:B->Ev->Prop}(h:Q (.ow<|prL.map .int) ρ):eF [] [none,none] 1 (a78<|aB (uC<|.int 2)<|aB (uC<|.int 200) aL) (cT 0) (eX<|aS cD4<|aB (eF [0] [none,some 0,none] 2 (a78<|aB (uC<|.int 2)<|aB (uC<|.int 15) aL) (cT 0) (λρ Q=>Q true ρ)<|dC5 (uOp (kG false) (aE 1)<|aE 0)<|uOp (vK λi j=>decide (j<i)) (uOp oE (aE 1)<|aE 0)<|uC<|.int 0) aL) (aE 0) ρ Q:=by
 refine bV1 (t0:=0) 198 (λk=> .int (2+(k:Int))) ρ ?_ ac (λx l=>[x,some<|.ow l]) none rfl (λ_ _ _=>rfl) (λ_ _=>cV _) (λ_ _ _ q=>q) (λ_ _ _=>rfl) prC (λi=> .int (2+(i:Int))) ?_ ?_ ?_
 ·intro Q' q;walk_at "u";exact⟨ac,q⟩
 ·intro i l Q' hi q;show(aS cD4<|aB _ aL) _ _;rw[dJ,bT];refine eS (t0:=0) 13 (λk=> .int (2+(k:Int))) [some<|.pu<|.int<|2+(i:Int),some<|.ow l] ?_ ac (λx l'=>[x,some<|.pu<|.int<|2+(i:Int),some<|.ow l']) none rfl (λ_ _ _=>rfl) (λ_ _=>cV _) (λ_ _ _ q=>q) (λ_ _ _=>rfl) (λk=> .bl (prB i k)) ?_ ?_
  ·intro Q'' q';walk_at "u";exact⟨ac,q'⟩
  ·intro k l' Q'' hk q';walk_at "u";unfold prB at q'
   by_cases c:(2:Int)+(i:Int)=2+(k:Int)
   ·rw[a9 c]at q'⊢;exact q'
   ·rw[a6 c]at q'⊢;refine⟨ad,?_⟩
    rw[dI _ ad]
    have e0:=bZ (2+(i:Int)) (show(2+(k:Int))≠0 by lia)
    rw[show decide (0< ((2:Int)+(i:Int))%(2+(k:Int)))= !decide (((2:Int)+(i:Int))%(2+(k:Int))=0)by
     rw[tV];simp
     lia]
    exact q'
  ·have e:(List.range 13).map (λk=>D.bl (prB i k))=((List.range 13).map<|prB i).map D.bl:=by rw[eP];rfl
   rw[e];walk_at "u";rw[aN9];exact q
 ·intro i l Q' hi q;walk_at "u";exact q
 ·have e:((List.range 198).filter prC).map (λi:Nat=>D.int (2+(i:Int)))=prL.map .int:=by unfold prL;rw[eP];rfl
  rw[e];exact h
theorem dJ3 {ns:List Int}{C E0:Addr}{p o:List Int}{n m e0 e1 e2:Nat}{q:Int}{Q:B->Prop}(rp:dM p)(rg:RG p)(hn:p.length=n+1)(ro:dM o)(hm:o.length=m+1)(hq:q∈prL)(b1:e1<3)(b2:e2<3)(h:Q (.pu<|.bl true)) :
  bX8 {nx:=λ_=>Q (.pu .non),rt:=Q} [some<|.pu<|.rol<|ns.map .int,some<|.pu<|cH C p,some<|.pu<|cH E0 o,some<|.ow [.int (e0:Int),.int (e1:Int),.int (e2:Int)],some<|.ow<|prL.map .int,some<|.pu<|.int q,none,none,none]:=by
 have pq:=a16 hq;unfold bX8;rw[aT,l7];refine bY1 1 1 e1 rfl rfl rp hn hq b1 λL hL=> ?_
 change bX7 _ [some<|.pu<|.rol<|ns.map .int,some<|.pu<|cH C p,some<|.pu<|cH E0 o,some<|.ow [.int (e0:Int),.int (e1:Int),.int (e2:Int)],some<|.ow<|prL.map .int,some<|.pu<|.int q,some<|.ow L,none,none]
 unfold bX7;rw[aT,l7];refine bX3 rfl ?_;change bX6 _ [some<|.pu<|.rol<|ns.map .int,some<|.pu<|cH C p,some<|.pu<|cH E0 o,some<|.ow [.int (e0:Int),.int (e1:Int),.int (e2:Int)],some<|.ow<|prL.map .int,some<|.pu<|.int q,some<|.ow L,some<|.pu<|cG7 p,none];unfold bX6;rw[aT];show(aS rR _:UE) _ _;refine bY1 2 2 e2 rfl rfl ro hm hq b2 λL' _=> ?_
 change bX5 _ [some<|.pu<|.rol<|ns.map .int,some<|.pu<|cH C p,some<|.pu<|cH E0 o,some<|.ow [.int (e0:Int),.int (e1:Int),.int (e2:Int)],some<|.ow<|prL.map .int,some<|.pu<|.int q,some<|.ow L,some<|.pu<|cG7 p,none]
 unfold bX5;rw[aT,cL5,uOr_eq,cL4,aO1];refine bY1 1 2 e2 rfl rfl rp hn hq b2 λK hK=> ?_
 rw[dG6 rfl,hK.uniq rp hn pq hL];refine hL.pdk.same ac ?_
 simp only[Bool.xor_self,isB,Bool.false_eq_true,nO];rw[cL4,aO1];refine bX3 rfl ?_;rw[sX rfl];refine c78 ?_;change bX4 _ [some<|.pu<|.rol<|ns.map .int,some<|.pu<|cH C p,some<|.pu<|cH E0 o,some<|.ow [.int (e0:Int),.int (e1:Int),.int (e2:Int)],some<|.ow<|prL.map .int,some<|.pu<|.int q,some<|.pu<|.lst L,some<|.pu<|cG7 p,none];unfold bX4;rw[aT,l7];unfold c39;rw[bT,tK (C:=C) (p:=p) rfl]
 refine⟨p,rfl,rp,λ_ _ _ A=> ?_,λred=>absurd red rg.irr,λ_ _ nw=>(wh_not rp rg.wh<|nw rg.meas).elim⟩
 change bF3 _ [some<|.pu<|.rol<|ns.map .int,some<|.pu<|cH C p,some<|.pu<|cH E0 o,some<|.ow [.int (e0:Int),.int (e1:Int),.int (e2:Int)],some<|.ow<|prL.map .int,some<|.pu<|.int q,some<|.pu<|.lst L,some<|.pu<|cG7 p,some<|.pu<|cH A p]
 unfold bF3;rw[i8,d83,aO1];refine bY1 8 1 e1 rfl rfl rp hn hq b1 λK hK=> ?_
 rw[sX rfl,hK.uniq rp hn pq hL];refine hL.pdk.same ac ?_
 simp only[kC,isB,gK];rw[aO1];refine bX3 rfl ?_;rw[sX rfl];exact c78 h
theorem rd_law: ∀ds Q,bO0 ds Q->bY0 {nx:=λ_=>Q (.pu .non),rt:=Q} (init ["s","f","o","d","m","p","t","k","a"] ds):=by
 rintro ds Q ⟨ns,rfl,hl,h⟩;unfold bY0;show(aW _ _:US) _ [some<|.pu<|.rol<|ns.map .int,none,none,none,none,none,none,none,none];rw[aT];walk_at "u";refine⟨ns,0,999999461,rfl,hl,ac,ac,λC p rp rg=> ?_⟩
 try dsimp only
 unfold cN4;rw[aT];walk_at "u";refine⟨ns,3,999999443,rfl,hl,ac,ac,λE0 o ro _=> ?_⟩
 try dsimp only
 have lo:=rp.ok.lo;have lo2:=ro.ok.lo;obtain⟨n,hn⟩: ∃n,p.length=n+1:=⟨p.length-1,ad⟩
 obtain⟨m,hm⟩: ∃n,o.length=n+1:=⟨o.length-1,ad⟩
 unfold cN3;rw[aT];walk_at "u";refine⟨ns,6,rfl,hl,ac,ac,λc=> ?_⟩
 try dsimp only
 refine⟨ac,c,[46,3,3],999999431,rfl,ac,ac,ac,λxs hx=> ?_⟩
 obtain⟨d0,d1,d2,rfl⟩: ∃d0 d1 d2,xs=[d0,d1,d2]:=by
  match xs,hx.1 with
  | [a,b,c],_=>exact⟨a,b,c,rfl⟩
 have b0:=hx.2 0 d0 46 rfl rfl;have b1:=hx.2 1 d1 3 rfl rfl;have b2:=hx.2 2 d2 3 rfl rfl;obtain⟨e0,rfl⟩: ∃e0:Nat,d0=e0:=⟨d0.toNat,ad⟩
 obtain⟨e1,rfl⟩: ∃e0:Nat,d1=e0:=⟨d1.toNat,ad⟩
 obtain⟨e2,rfl⟩: ∃e0:Nat,d2=e0:=⟨d2.toNat,ad⟩
 try dsimp only
 simp only[cN,iP];unfold cN2;rw[aT,l7];refine cG8 ?_;change bX9 _ [some<|.pu<|.rol<|ns.map .int,some<|.pu<|cH C p,some<|.pu<|cH E0 o,some<|.ow [.int (e0:Int),.int (e1:Int),.int (e2:Int)],some<|.ow<|prL.map .int,none,none,none,none];unfold bX9;rw[aT,l7];have i0:e0<prL.length:=by rw[pr_len];lia
 have a0:atI [D.int (e0:Int),.int (e1:Int),.int (e2:Int)] 0=some (.int (e0:Int)):=d5 (j:=0) rfl;have a1:atI (prL.map D.int) (e0:Int)=some (.int prL[e0]):=d5 (by rw[bJ,aO i0];rfl)
 simp only[uIx,aZ,b96,uC,gIx,nZ,B.d,mS,yZ,a0,a1];exact dJ3 rp rg hn ro hm (bV i0) ad ad h
abbrev pE:=sE
abbrev pF:=sF
theorem a70: ∀ds Q,pE ds Q->pF {nx:=λ_=>Q (.pu .non),rt:=Q} (init ["f","p","u","s","total","v","w"] ds):=b54
theorem cU3:bootBuiltins "sorted"=some (.builtin "sorted"):=af
end M
end
namespace M
open PySem PySem.Spec PyProof.Rows L2
set_option maxHeartbeats 4000000
noncomputable def top (i:Nat):Stmt:=PySem.Challenge.pw_ringhouse_k19_two_rings_by_turns.main.body.getD i (.Pass ⟨0,0,0,0⟩)
noncomputable abbrev bY2:Stmt:=top 1
noncomputable abbrev cN5:List Str:=["row","size"]
noncomputable abbrev c79:List Str:=["row"]
noncomputable abbrev aP3:Stmt:=top 2
noncomputable abbrev bF4:List Str:=["row","size"]
noncomputable abbrev b37:List Str:=["row","size"]
noncomputable abbrev sK:Stmt:=top 3
noncomputable abbrev a63:List Str:=["f","g","degree","size","left","quotient","at","many","j","c"]
noncomputable abbrev yP:List Str:=["f","g"]
noncomputable abbrev aB6:Stmt:=top 4
noncomputable abbrev b38:List Str:=["f","z","value","c"]
noncomputable abbrev aU1:List Str:=["f","z"]
noncomputable abbrev tD:Stmt:=top 14
noncomputable abbrev a25:List Str:=["row","p"]
noncomputable abbrev aI3:List Str:=["row","p"]
noncomputable abbrev v5:Stmt:=top 15
noncomputable abbrev aB7:List Str:=["a","b","p","low","turn","quotient","rest"]
noncomputable abbrev a64:List Str:=["a","b","p"]
noncomputable abbrev a26:Stmt:=top 16
noncomputable abbrev aP4:List Str:=["f","k","p"]
noncomputable abbrev b39:List Str:=["f","k","p"]
noncomputable abbrev v6:Stmt:=top 17
noncomputable abbrev aB8:List Str:=["c","p","value","step"]
noncomputable abbrev a65:List Str:=["c","p"]
noncomputable abbrev aP5:Stmt:=top 20
noncomputable abbrev bF5:List Str:=["a","b","great","low"]
noncomputable abbrev b40:List Str:=["a","b"]
noncomputable abbrev xD:Stmt:=top 21
noncomputable abbrev aI4:List Str:=["a","b","g","low","t","later","many"]
noncomputable abbrev aB9:List Str:=["a","b"]
noncomputable abbrev bF6:Stmt:=top 22
noncomputable abbrev c80:List Str:=["m","guess","better"]
noncomputable abbrev bQ9:List Str:=["m"]
noncomputable abbrev qO:Stmt:=top 23
noncomputable abbrev yQ:List Str:=[]
noncomputable abbrev w6:List Str:=[]
noncomputable abbrev a27:Stmt:=top 25
noncomputable abbrev aU2:List Str:=["poly","p","parts","left"]
noncomputable abbrev aI5:List Str:=["poly","p"]
noncomputable abbrev xE:Stmt:=top 26
noncomputable abbrev aI6:List Str:=["f","p","parts","left","c","often"]
noncomputable abbrev aC0:List Str:=["f","p"]
noncomputable abbrev jK:Stmt:=top 27
noncomputable abbrev nS:List Str:=["f","p","pair"]
noncomputable abbrev sR:List Str:=["f","p"]
noncomputable abbrev kM:Stmt:=top 28
noncomputable abbrev rS:List Str:=["f","p","u","s","total","v","w"]
noncomputable abbrev pG:List Str:=["f","p"]
noncomputable abbrev aP6:Stmt:=top 31
noncomputable abbrev bF7:List Str:=["ring"]
noncomputable abbrev b41:List Str:=["ring"]
noncomputable abbrev r6:Stmt:=top 32
noncomputable abbrev xF:List Str:=["poly","size"]
noncomputable abbrev aC1:List Str:=["poly","size"]
noncomputable abbrev tE:Stmt:=top 33
noncomputable abbrev a28:List Str:=["poly","p"]
noncomputable abbrev aI7:List Str:=["poly","p"]
noncomputable abbrev oR:Stmt:=top 34
noncomputable abbrev v7:List Str:=["poly","rows","p","parts","g","often","rest"]
noncomputable abbrev a66:List Str:=["poly","rows"]
noncomputable abbrev b89:Stmt:=top 36
noncomputable abbrev cN6:List Str:=["table","total","sign","i"]
noncomputable abbrev j2:List Str:=["table"]
noncomputable abbrev w8:Stmt:=top 37
noncomputable abbrev aC2:List Str:=["table","i"]
noncomputable abbrev aU3:List Str:=["table","i"]
noncomputable abbrev xG:Stmt:=top 39
noncomputable abbrev aI8:List Str:=["ring","k"]
noncomputable abbrev aC3:List Str:=["ring","k"]
noncomputable abbrev wA:Stmt:=top 40
noncomputable abbrev aC4:List Str:=["ring","x","last","moved"]
noncomputable abbrev aU4:List Str:=["ring","x"]
noncomputable abbrev a29:Stmt:=top 41
noncomputable abbrev aU5:List Str:=["ring","x","rows","step"]
noncomputable abbrev aI9:List Str:=["ring","x"]
noncomputable abbrev bF8:Stmt:=top 42
noncomputable abbrev c81:List Str:=["ring","x"]
noncomputable abbrev bR0:List Str:=["ring","x"]
noncomputable abbrev aF6:Stmt:=top 44
noncomputable abbrev aZ9:List Str:=["k","m","rows","triangle","row","table","i"]
noncomputable abbrev bF9:List Str:=["k","m","rows"]
noncomputable abbrev a30:Stmt:=top 45
noncomputable abbrev aU6:List Str:=["triangle","m","row","found","left","i","high","g","s","t"]
noncomputable abbrev aJ0:List Str:=["triangle","m","row"]
noncomputable abbrev aF7:Stmt:=top 46
noncomputable abbrev b00:List Str:=["s","one","t","other","m","size"]
noncomputable abbrev bG0:List Str:=["s","one","t","other","m","size"]
noncomputable abbrev aU7:Stmt:=top 47
noncomputable abbrev bG1:List Str:=["table","row","left","i","many"]
noncomputable abbrev bR1:List Str:=["table","row"]
noncomputable abbrev bG2:Stmt:=top 49
noncomputable abbrev c82:List Str:=["ring","numbers","m","rows","x"]
noncomputable abbrev bR2:List Str:=["ring","numbers"]
noncomputable abbrev a31:Stmt:=top 51
abbrev aP7:List Str:=["ring","p"]
abbrev b42:List Str:=["ring","p"]
noncomputable abbrev xH:Stmt:=top 52
abbrev aJ1:List Str:=["ring","p","g"]
abbrev aC5:List Str:=["ring","p","g"]
noncomputable abbrev a32:Stmt:=top 53
abbrev aU8:List Str:=["ring","f"]
abbrev aJ2:List Str:=["ring","f"]
noncomputable abbrev lF:Stmt:=top 56
noncomputable abbrev qP:List Str:=["row"]
noncomputable abbrev wB:List Str:=["row"]
noncomputable abbrev nT:Stmt:=top 57
noncomputable abbrev v8:List Str:=["row"]
noncomputable abbrev sS:List Str:=["row"]
noncomputable abbrev b01:Stmt:=top 59
noncomputable abbrev bR3:List Str:=["poly","pair"]
noncomputable abbrev bG3:List Str:=["poly"]
noncomputable abbrev a33:Stmt:=top 60
noncomputable abbrev aU9:List Str:=["m","found","d"]
noncomputable abbrev aJ3:List Str:=["m"]
noncomputable abbrev oS:Stmt:=top 61
noncomputable abbrev wC:List Str:=["poly","z","left"]
noncomputable abbrev v9:List Str:=["poly"]
noncomputable abbrev kN:Stmt:=top 62
noncomputable abbrev rT:List Str:=["poly","v","w","u","s"]
noncomputable abbrev pH:List Str:=["poly"]
noncomputable abbrev a34:Stmt:=top 64
noncomputable abbrev aV0:List Str:=["total","times","square","gap"]
noncomputable abbrev aJ4:List Str:=["total","times"]
noncomputable abbrev wD:Stmt:=top 66
noncomputable abbrev aC6:List Str:=["poly","n","sums"]
noncomputable abbrev aV1:List Str:=["poly"]
noncomputable abbrev r8:Stmt:=top 67
noncomputable abbrev xI:List Str:=["poly","many","n","sums","k","total"]
noncomputable abbrev aC7:List Str:=["poly","many"]
noncomputable abbrev iF:Stmt:=top 71
noncomputable abbrev wE:List Str:=["poly","pair"]
noncomputable abbrev vA:List Str:=["poly"]
noncomputable abbrev j3:Stmt:=top 72
noncomputable abbrev vB:List Str:=["poly","size","found","p","f"]
noncomputable abbrev a67:List Str:=["poly","size"]
noncomputable abbrev aF8:Stmt:=top 74
abbrev b02:List Str:=["ring","n","powers","step"]
abbrev bG4:List Str:=["ring"]
noncomputable abbrev wF:Stmt:=top 75
abbrev aC8:List Str:=["numbers"]
abbrev aV2:List Str:=["numbers"]
noncomputable abbrev kO:Stmt:=top 76
abbrev vC:List Str:=["table"]
abbrev cL:List Str:=["table"]
noncomputable abbrev cG9:Stmt:=top 78
noncomputable abbrev d85:List Str:=["_law_script","_law_k"]
noncomputable abbrev cN7:List Str:=["_law_script","_law_k"]
noncomputable abbrev bY3:Stmt:=top 79
noncomputable abbrev cN8:List Str:=["_law_cell_here","_law_k","_law_prime","_law_far"]
noncomputable abbrev c83:List Str:=["_law_cell_here","_law_k","_law_prime"]
noncomputable abbrev bY4:Stmt:=top 80
noncomputable abbrev cN9:List Str:=["_law_cell_here","_law_widths","_law_prime","_law_left","_law_found","_law_k"]
noncomputable abbrev c84:List Str:=["_law_cell_here","_law_widths","_law_prime"]
noncomputable abbrev b03:Stmt:=top 81
noncomputable abbrev bR4:List Str:=["_law_poly_here","_law_s","_law_row","_law_low","_law_at"]
noncomputable abbrev bG5:List Str:=["_law_poly_here","_law_s"]
noncomputable abbrev bY5:Stmt:=top 82
noncomputable abbrev cH0:List Str:=["_law_cell_here","_law_prime","_law_deep","_law_wide","_law_found"]
noncomputable abbrev cO0:List Str:=["_law_cell_here","_law_prime"]
noncomputable abbrev a35:Stmt:=top 83
noncomputable abbrev aV3:List Str:=["_law_cell_here","_law_known"]
noncomputable abbrev aJ5:List Str:=["_law_cell_here"]
noncomputable abbrev cH1:Stmt:=top 84
noncomputable abbrev d86:List Str:=["_law_script","_law_k","_law_prime","_law_found","_law_j"]
noncomputable abbrev cO1:List Str:=["_law_script","_law_k","_law_prime"]
noncomputable abbrev bY6:Stmt:=top 85
abbrev cO2:List Str:=["_law_ring_here","_law_p","_law_about","_law_found","_law_k","_law_which"]
abbrev c85:List Str:=["_law_ring_here","_law_p","_law_about"]
noncomputable abbrev b43:Stmt:=top 86
noncomputable abbrev d87:List Str:=["_law_script","_law_first","_law_other","_law_deep","_law_primes","_law_p","_law_told","_law_kept","_law_anew"]
noncomputable abbrev PP_law:List Str:=["_law_script"]
local macro_rules| `(tactic| walk_at "s")=> `(tactic| exact⟨rfl,rfl,rfl,by decide +kernel,rfl,by decide +kernel,by decide +kernel⟩)
theorem bG6:aY cN5 c79 (aG bY2):=by walk_at "s"
theorem c86:aY bF4 b37 (aG aP3):=by walk_at "s"
theorem dY:aY a63 yP (aG sK):=by walk_at "s"
theorem tF:aY b38 aU1 (aG aB6):=by walk_at "s"
theorem bK8:aY a25 aI3 (aG tD):=by walk_at "s"
theorem jN:aY aB7 a64 (aG v5):=by walk_at "s"
theorem c87:aY aP4 b39 (aG a26):=by walk_at "s"
theorem mM:aY aB8 a65 (aG v6):=by walk_at "s"
theorem aC9:aY bF5 b40 (aG aP5):=by walk_at "s"
theorem i5:aY aI4 aB9 (aG xD):=by walk_at "s"
theorem yR:aY c80 bQ9 (aG bF6):=by walk_at "s"
theorem aV4:aY yQ w6 (aG qO):=by walk_at "s"
theorem xJ:aY aU2 aI5 (aG a27):=by walk_at "s"
theorem i6:aY aI6 aC0 (aG xE):=by walk_at "s"
theorem sT:aY nS sR (aG jK):=by walk_at "s"
theorem eH:aY rS pG (aG kM):=by walk_at "s"
theorem c88:aY bF7 b41 (aG aP6):=by walk_at "s"
theorem bG7:aY xF aC1 (aG r6):=by walk_at "s"
theorem bK9:aY a28 aI7 (aG tE):=by walk_at "s"
theorem i9:aY v7 a66 (aG oR):=by walk_at "s"
theorem oU:aY cN6 j2 (aG b89):=by walk_at "s"
theorem bY7:aY aC2 aU3 (aG w8):=by walk_at "s"
theorem bG8:aY aI8 aC3 (aG xG):=by walk_at "s"
theorem a36:aY aC4 aU4 (aG wA):=by walk_at "s"
theorem xK:aY aU5 aI9 (aG a29):=by walk_at "s"
theorem cU4:aY c81 bR0 (aG bF8):=by walk_at "s"
theorem nU:aY aZ9 bF9 (aG aF6):=by walk_at "s"
theorem gA:aY aU6 aJ0 (aG a30):=by walk_at "s"
theorem cH2:aY b00 bG0 (aG aF7):=by walk_at "s"
theorem yS:aY bG1 bR1 (aG aU7):=by walk_at "s"
theorem yT:aY c82 bR2 (aG bG2):=by walk_at "s"
theorem c89:aY aP7 b42 (aG a31):=by walk_at "s"
theorem bG9:aY aJ1 aC5 (aG xH):=by walk_at "s"
theorem bL0:aY aU8 aJ2 (aG a32):=by walk_at "s"
theorem aV5:aY qP wB (aG lF):=by walk_at "s"
theorem aH0:aY v8 sS (aG nT):=by walk_at "s"
theorem aP8:aY bR3 bG3 (aG b01):=by walk_at "s"
theorem xL:aY aU9 aJ3 (aG a33):=by walk_at "s"
theorem nV:aY wC v9 (aG oS):=by walk_at "s"
theorem fL:aY rT pH (aG kN):=by walk_at "s"
theorem xM:aY aV0 aJ4 (aG a34):=by walk_at "s"
theorem a37:aY aC6 aV1 (aG wD):=by walk_at "s"
theorem j4:aY xI aC7 (aG r8):=by walk_at "s"
theorem vD:aY wE vA (aG iF):=by walk_at "s"
theorem mO:aY vB a67 (aG j3):=by walk_at "s"
theorem a38:aY b02 bG4 (aG aF8):=by walk_at "s"
theorem bY8:aY aC8 aV2 (aG wF):=by walk_at "s"
theorem mQ:aY vC cL (aG kO):=by walk_at "s"
theorem dJ4:aY d85 cN7 (aG cG9):=by walk_at "s"
theorem bH0:aY cN8 c83 (aG bY3):=by walk_at "s"
theorem yU:aY cN9 c84 (aG bY4):=by walk_at "s"
theorem a39:aY bR4 bG5 (aG b03):=by walk_at "s"
theorem aF9:aY cH0 cO0 (aG bY5):=by walk_at "s"
theorem xN:aY aV3 aJ5 (aG a35):=by walk_at "s"
theorem aG0:aY d86 cO1 (aG cH1):=by walk_at "s"
theorem aV6:aY cO2 c85 (aG bY6):=by walk_at "s"
theorem a40:aY d87 PP_law (aG b43):=by walk_at "s"
noncomputable abbrev oV:Stmt:=(bU6<|top 8).getD 0 (.Pass ⟨0,0,0,0⟩)
theorem bL1:aY ["self","left","right"] ["self","left","right"] (aG oV):=by walk_at "s"
noncomputable abbrev vE:Stmt:=(bU6<|top 10).getD 0 (.Pass ⟨0,0,0,0⟩)
theorem c90:aY ["self","prime","number"] ["self","prime","number"] (aG vE):=by walk_at "s"
noncomputable abbrev aD0:Stmt:=(bU6<|top 70).getD 0 (.Pass ⟨0,0,0,0⟩)
theorem cO3:aY ["self","poly","size"] ["self","poly"] (aG aD0):=by walk_at "s"
structure Zs (mg:Str->Option Value):Prop where
 z0:mg "len"=none
 z1:mg "max"=none
 z2:mg "list"=none
 z3:mg "reversed"=none
 z4:mg "range"=none
 z5:mg "enumerate"=none
 z6:mg "tuple"=none
 z7:mg "abs"=none
 z8:mg "sorted"=none
 z9:mg "all"=none
 z10:mg "zip"=none
 z11:mg "sum"=none
 z12:mg "min"=none
abbrev DT (P:Program)(w:World)(K:Frag)(mg:Str->Option Value)(base:Heap)(N:List Str)(q:Str)(t:Stmt)(k:Nat)(u:US):Prop:= ∀{f:Addr} {cdv:Value} {A:Around} {outer:List Env} {s:Shared} {H:Hp} {E:XK},gO k (A.deeper<|envOfC q (aG t) s.heap.objs.size f cdv)->rX (uD CX0 P w K mg base N q (aG t) f cdv A outer s H E).nox (dR t) u
section
variable (P:Program)(w:World)(K:Frag)(mg:Str->Option Value)(base:Heap)
abbrev c91:=Fn P w K mg base "cut" c79 1 a93
abbrev aD1:=Fn P w K mg base "padded" b37 1 rP
abbrev j5:=Fn P w K mg base "poly_parted" yP 2 eT
abbrev aV7:=Fn P w K mg base "poly_at" aU1 1 t7
abbrev xO:=Fn P w K mg base "mod_poly" aI3 2 iT
abbrev b57:=Fn P w K mg base "mod_parted" a64 4 sC
abbrev c92:=Fn P w K mg base "scaled" b39 3 vU
abbrev b58:=Fn P w K mg base "inverse_of" a65 1 sA
abbrev c93:=Fn P w K mg base "shared" b40 1 aB0
abbrev bH1:=Fn P w K mg base "shared_by" aB9 1 uU
abbrev cU5:=Fn P w K mg base "root" bQ9 1 aY7
abbrev wG:=Fn P w K mg base "small_primes" w6 1 jX
abbrev aJ6:=Fn P w K mg base "split_by" aI5 6 qX
abbrev bH2:=Fn P w K mg base "lines_out" aC0 5 uO
abbrev aH1:=Fn P w K mg base "rootless_parts" sR 2 lP
abbrev a71:=Fn P w K mg base "two_by_two_split" pG 1 pE
abbrev c94:=Fn P w K mg base "papers" b41 9 aB4
abbrev aD2:=Fn P w K mg base "papers_of" aC1 8 oN
abbrev bL2:=Fn P w K mg base "parts_at" aI7 7 wQ
abbrev b59:=Fn P w K mg base "outside_of" a66 3 sG
abbrev c95:=Fn P w K mg base "det" j2 5 (fJ 4)
abbrev aV8:=Fn P w K mg base "without" aU3 1 sW
abbrev aD3:=Fn P w K mg base "number_of" aC3 2 oO
abbrev aV9:=Fn P w K mg base "t_times" aU4 1 t9
abbrev aJ7:=Fn P w K mg base "table_of" aI9 2 qZ
abbrev cU6:=Fn P w K mg base "norm" bR0 6 aZ0
abbrev cH3:=Fn P w K mg base "stair" bF9 3 aP1
abbrev bL3:=Fn P w K mg base "taken_in" aJ0 2 wY
abbrev cH4:=Fn P w K mg base "mixed" bG0 1 a23
abbrev cU7:=Fn P w K mg base "rest" bR1 1 aZ2
abbrev cU8:=Fn P w K mg base "made" bR2 7 aZ4
abbrev c96:=Fn P w K mg base "above" b42 9 aB2
abbrev bH3:=Fn P w K mg base "prime_of" aC5 8 oQ
abbrev bL4:=Fn P w K mg base "at_root" aJ2 3 xB
abbrev aW0:=Fn P w K mg base "is_ring_poly" wB 1 oH
abbrev lW:=Fn P w K mg base "need_ring_poly" sS 2 gN
abbrev cH5:=Fn P w K mg base "apart" bG3 4 aO3
abbrev aJ8:=Fn P w K mg base "dividers" aJ3 1 qY
abbrev aP9:=Fn P w K mg base "line_and_rest" v9 3 nQ
abbrev a72:=Fn P w K mg base "two_by_two_apart" pH 3 jS
abbrev bL5:=Fn P w K mg base "two_with" aJ4 2 wT
abbrev bY9:=Fn P w K mg base "measure" aV1 6 a14
abbrev bH4:=Fn P w K mg base "root_sums" aC7 1 uL
abbrev cH6:=Fn P w K mg base "bound" bG4 6 aO7
abbrev bZ0:=Fn P w K mg base "reaches" aV2 1 a21
abbrev b60:=Fn P w K mg base "all_orders" cL 5 (bN 4)
abbrev cO4:=Fn P w K mg base "_law_cell" cN7 1 aS6
abbrev c97:=Fn P w K mg base "_law_mixed" c83 1 a89
abbrev c98:=Fn P w K mg base "_law_draws" c84 2 rH
abbrev cH7:=Fn P w K mg base "_law_shifted" bG5 1 a20
abbrev dJ5:=Fn P w K mg base "_law_poly" cO0 3 bW3
abbrev bL6:=Fn P w K mg base "_law_known_ring" aJ5 2 wW
abbrev dJ6:=Fn P w K mg base "_law_ring" cO1 12 b86
abbrev d88:=Fn P w K mg base "_law_asked" c85 10 rR
end
section
variable {P:Program}{w:World}{K:Frag}{mg:Str->Option Value}{base:Heap}
theorem cU9 (Z:Zs mg):DT P w K mg base cN5 "cut" bY2 0 bC2:=λhr=>
 (bS 1 bG6.nd (fF (cK 0) rfl Z.z0)<|bH (a77 gZ (PUW.pt<|b74 (jM bN9 (aR 1) aI)<|aR4<|jM jW (dX (cK 0)<|aQ cD (aR 1) aI) aI)<|bF<|us_g 1 bG6.nd aI iu_sub)<|fG<|tI (aR 0) mC<|gM<|aR 1)
theorem bZ1 (Z:Zs mg):DT P w K mg base bF4 "padded" aP3 0 aA3:=λhr=>
 (fG<|aQ dQ (aR 0)<|aQ bT5 (cY<|bE aC)<|aQ cD (aR 1)<|fF (cK 0) rfl Z.z0)
theorem aW1 (Z:Zs mg)(a43:c91 P w K mg base):DT P w K mg base a63 "poly_parted" sK 1 qK:=λhr=>
 (bS 2 dY.nd (aQ cD (fF (cK 1) rfl Z.z0) aI)<|bS 3 dY.nd (hZ (cu_max rfl) rfl Z.z1 bt_max (bE<|aD (aQ cD (fF (cK 0) rfl Z.z0)<|aR 2) aC))<|bS 4 dY.nd (dL b75 rfl Z.z2 b82 (aP 0 aC))<|bS 5 dY.nd (aQ dF (eV<|bE aC)<|aR 3)<|bH (vN 6 dY.nd (bT3 rfl Z.z3 rfl Z.z4 (aP 3 aC))<|bS 7 dY.nd (dX (cK 4)<|aQ dQ (aR 6)<|aR 2)<|bH (qH 5 (pv 5) (aR 7)<|aR 6)<|bF<|aW9 gZ rfl (cK6 (by rfl) Z.z5<|aP 1 aC) (qG rfl (cS 8 (cI dY.nd rfl (Or.inl rfl))<|cS 9 (cI dY.nd rfl (Or.inl rfl)) kX) (bY<|bY j0)) (bF<|dE4 4 (pv 4) (aQ dQ (aR 6)<|aR 8) (aQ dF (aR 7)<|aR 9) cW8))<|fG<|cY<|aD (d4 a43 hr<|aD (dL gB rfl Z.z6 gC (aP 5 aC)) aC)<|aD (d4 a43 hr<|aD (dL gB rfl Z.z6 gC (aP 4 aC)) aC) aC)
theorem bL7 (Z:Zs mg):DT P w K mg base b38 "poly_at" aB6 0 a17:=λhr=>
 (bS 2 tF.nd aI<|bH (vN 3 tF.nd (dF0 rfl Z.z3 (aP 0 aC))<|bF<|b50 2 tF.nd<|aQ dQ (aQ dF (aR 2)<|aR 1)<|aR 3)<|bF<|kW 2<|pv 2)
theorem bH5 (Z:Zs mg)(a43:c91 P w K mg base):DT P w K mg base a25 "mod_poly" tD 1 wO:=λhr=>
 (fG<|d4 a43 hr<|aD (dL gB rfl Z.z6 gC (aD (uI ["c","p",".acc"] (aG tD).names a25 (jJ<|aR 0) (λ_ _ _ _ _ _=>fZ) λ_ _ _ _ _ _=>(aQ i4 (aR 0)<|aR 1)) aC)) aC)
theorem b04 (Z:Zs mg)(fB:xO P w K mg base)(vF:b58 P w K mg base)(bX:j5 P w K mg base)(a44:c92 P w K mg base):DT P w K mg base aB7 "mod_parted" v5 3 sD:=λhr=>
 (bS 3 jN.nd (d4 fB hr<|aP 1<|aP 2 aC)<|bS 4 jN.nd (d4 vF hr<|aD (dX (cK 3)<|jQ aI)<|aP 2 aC)<|bH (b99 (d4 bX hr<|aD (d4 fB hr<|aP 0<|aP 2 aC)<|aD (d4 a44 hr<|aP 3<|aP 4<|aP 2 aC) aC)<|qG rfl (cS 5 (cI jN.nd rfl (Or.inl rfl))<|cS 6 (cI jN.nd rfl (Or.inl rfl)) kX) (bY<|bY j0))<|fG<|cY<|aD (d4 a44 hr<|aP 5<|aP 4<|aP 2 aC)<|aD (d4 fB hr<|aP 6<|aP 2 aC) aC)
theorem bZ2 (Z:Zs mg)(fB:xO P w K mg base):DT P w K mg base aP4 "scaled" a26 2 a94:=λhr=>
 (fG<|d4 fB hr<|aD (dL gB rfl Z.z6 gC (aD (uI ["c","k",".acc"] (aG a26).names aP4 (jJ<|aR 0) (λ_ _ _ _ _ _=>fZ) λ_ _ _ _ _ _=>(aQ dF (aR 1)<|aR 0)) aC))<|aP 2 aC)
theorem b05 (Z:Zs mg):DT P w K mg base aB8 "inverse_of" v6 0 sB:=λhr=>
 (bS 2 mM.nd aI<|bH (vN 3 mM.nd (eR rfl Z.z4 (aD (aQ cD (aR 1) aI) aC))<|bF<|b50 2 mM.nd<|aQ i4 (aQ dF (aR 2)<|aR 0)<|aR 1)<|bF<|kW 2<|pv 2)
theorem bZ3 (Z:Zs mg):DT P w K mg base bF5 "shared" aP5 0 aB1:=λhr=>
 (bH (bA0 2 3 rfl aC9.nd rfl rfl ac rfl rfl (aD (hZ aX1 rfl Z.z7 aY1 (aP 0 aC))<|aD (hZ aX1 rfl Z.z7 aY1 (aP 1 aC)) aC) rfl (hl:=il2 (n:=4) rfl ac ac))<|bH (a77 gZ (jM cK0 (aR 3) aI)<|bF<|bA0 2 3 rfl aC9.nd rfl rfl ac rfl rfl (aP 3<|aD (aQ i4 (aR 2)<|aR 3) aC) rfl (hl:=il2 (n:=4) rfl ac ac))<|bF<|kW 2<|pv 2)
theorem b61 (Z:Zs mg):DT P w K mg base aI4 "shared_by" xD 0 uZ:=λhr=>
 (bH (bA0 2 3 rfl i5.nd rfl rfl ac rfl rfl (aP 0<|aD (aQ i4 (aR 1)<|aR 0) aC) rfl (hl:=il2 (n:=7) rfl ac ac))<|bH (b99 (cY<|bE<|bE aC)<|qG rfl (cS 4 (cI i5.nd rfl (Or.inl rfl))<|cS 5 (cI i5.nd rfl (Or.inl rfl)) kX) (bY<|bY j0))<|bH (a77 gZ (jM cK0 (aR 3) aI)<|bS 6 i5.nd (aQ rY (aR 2)<|aR 3)<|bH (bA0 2 3 rfl i5.nd rfl rfl ac rfl rfl (aP 3<|aD (aQ cD (aR 2)<|aQ dF (aR 6)<|aR 3) aC) rfl (hl:=il2 (n:=7) rfl ac ac))<|bF<|bA0 4 5 rfl i5.nd rfl rfl ac rfl rfl (aP 5<|aD (aQ cD (aR 4)<|aQ dF (aR 6)<|aR 5) aC) rfl (hl:=il2 (n:=7) rfl ac ac))<|fG<|cY<|aP 2<|aD (aQ rY (aQ cD (aR 2)<|aQ dF (aR 4)<|aR 1)<|aR 0)<|aP 4 aC)
theorem cH8 (Z:Zs mg):DT P w K mg base c80 "root" bF6 0 aY8:=λhr=>
 (bS 1 yR.nd (aR 0)<|bS 2 yR.nd (aQ rY (aQ dQ (aR 0) aI) aI)<|bH (a77 gZ (jM cJ9 (aR 2)<|aR 1)<|bS 1 yR.nd (aR 2)<|bF<|b50 2 yR.nd<|aQ rY (aQ dQ (aR 1)<|aQ rY (aR 0)<|aR 1) aI)<|bF<|kW 1<|pv 1)
theorem aQ0 (Z:Zs mg){j6:Addr}(i7:mg "SMALL_PRIMES"=some (.ref j6))(vG:KT K j6 (T_SMALL_PRIMES.map V.int)):DT P w K mg base yQ "small_primes" qO 0 oK:=λhr=>
 (fG<|dL b75 rfl Z.z2 b82 (aD (dF1 rfl i7 vG) aC))
theorem bH6 (Z:Zs mg)(gU:wG P w K mg base)(xP:bH2 P w K mg base)(fB:xO P w K mg base)(nW:aH1 P w K mg base):DT P w K mg base aU2 "split_by" a27 5 wP:=λhr=>
 (oG (aR3 cZ9 (aR 1) (cZ6 gU hr ac rfl) rfl) (bF b98)<|bH (b99 (d4 xP hr<|aD (d4 fB hr<|aP 0<|aP 1 aC)<|aP 1 aC)<|qG rfl (cS 2 (cI xJ.nd rfl (Or.inl rfl))<|cS 3 (cI xJ.nd rfl (Or.inl rfl)) kX) (bY<|bY j0))<|fG<|aQ dQ (aR 2)<|d4 nW hr<|aP 3<|aP 1 aC)
theorem b62 (Z:Zs mg)(oA:aV7 P w K mg base)(vH:b57 P w K mg base):DT P w K mg base aI6 "lines_out" xE 4 uP:=λhr=>
 (bS 2 i6.nd (eV aC)<|bS 3 i6.nd (aR 0)<|bH (vN 4 i6.nd (eR rfl Z.z4 (aP 1 aC))<|bS 5 i6.nd aI<|bH (a77 gZ (jM jW (aQ i4 (d4 oA hr<|aP 3<|b24 (jQ<|aR 4) aC)<|aR 1) aI)<|bS 3 i6.nd (dX (yB<|d4 vH hr<|aP 3<|rG (cY<|aP 4<|bE aC)<|aP 1 aC) aI)<|bF<|us_g 5 i6.nd aI cC9)<|bF<|bT7 (jM bN9 (aR 5) aI)<|bF<|kZ 2 (pv 2)<|cY<|rG (cY<|aP 4<|bE aC)<|aP 5 aC)<|fG<|cY<|aP 2<|aP 3 aC)
theorem aD4 (Z:Zs mg)(kP:a71 P w K mg base):DT P w K mg base nS "rootless_parts" jK 1 lQ:=λhr=>
 (oG (jM jW (fF (cK 0) rfl Z.z0) aI) (fG<|eV aC)<|bS 2 sT.nd (cY7 (jM jW (fF (cK 0) rfl Z.z0) aI) (d4 kP hr<|aP 0<|aP 1 aC)<|eV aC)<|oG (jM jW (fF (cK 2) rfl Z.z0) aI) (fG<|eV<|rG (cY<|aP 0<|bE aC) aC)<|oG (jM (cE0 hr.units) (dX (cK 2) aI)<|dX (cK 2) aI) (fG<|eV<|rG (cY<|aD (dX (cK 2) aI)<|bE aC) aC)<|fG<|uI ["g",".acc"] (aG jK).names nS (jJ<|hZ d19 rfl Z.z8 cU3 (aP 2 aC)) (λ_ _ _ _ _ _=>fZ) λ_ _ _ _ _ _=>(cY<|aP 0<|bE aC))
theorem a41 (Z:Zs mg):DT P w K mg base rS "two_by_two" kM 0 pF:=λhr=>
 (bH (vN 2 eH.nd (eR rfl Z.z4 (aP 1 aC))<|bS 3 eH.nd (aQ i4 (aQ cD (dX (cK 0) aI)<|aR 2)<|aR 1)<|bS 4 eH.nd (aQ cD (dX (cK 0) aI)<|aQ dF (aR 2)<|aR 3)<|bF<|vN 5 eH.nd (eR rfl Z.z4 (aP 1 aC))<|bS 6 eH.nd (aQ i4 (aQ cD (aR 4)<|aR 5)<|aR 1)<|bF<|bT7 (PUW.pt<|b74 (jM jW (aQ i4 (aQ dF (aR 5)<|aR 6)<|aR 1)<|dX (cK 0) aI)<|aR4<|jM jW (aQ i4 (aQ dQ (aQ dF (aR 2)<|aR 6)<|aQ dF (aR 5)<|aR 3)<|aR 1)<|dX (cK 0) aI)<|fG<|eV<|rG (cY<|aP 5<|aP 2<|bE aC)<|rG (cY<|aP 6<|aP 3<|bE aC) aC)<|fG<|eV aC)
theorem bZ4 (Z:Zs mg)(jO:aD2 P w K mg base):DT P w K mg base bF7 "papers" aP6 8 aB5:=λhr=>
 (fG<|d4 jO hr<|aD (iS<|aR 0)<|aD (iS<|aR 0) aC)
theorem b63 (Z:Zs mg)(gU:wG P w K mg base)(a45:bL2 P w K mg base):DT P w K mg base xF "papers_of" r6 7 uQ:=λhr=>
 (fG<|uI ["p","poly","size",".acc"] (aG r6).names xF (jJ<|cZ6 gU hr ac rfl) (λ_ _ _ _ _ _=>(cK2<|jM jW (aQ i4 (aR 2)<|aQ dF (aR 0)<|aR 0) aI)) λ_ _ _ _ _ _=>(cY<|aP 0<|aD (d4 a45 hr<|aP 1<|aP 0 aC) aC))
theorem bH7 (Z:Zs mg)(lJ:aJ6 P w K mg base)(bX:j5 P w K mg base):DT P w K mg base a28 "parts_at" tE 6 wR:=λhr=>
 (fG<|uG (js:=[0]) (N:=["g","often","poly",".acc"]) (cap:=[none,none,some 0,none]) (last:=3) (esc:=(aG tE).names) (XN:=a28) rfl rfl af ac ac rfl (jJ<|d4 lJ hr<|aP 0<|aP 1 aC) (λ_ _ _ _ _ _=>(qG rfl (cS 0 (cI (show Nodup (["g","often","poly",".acc"]:List Str)by decide +kernel) rfl (Or.inl rfl))<|cS 1 (cI (show Nodup (["g","often","poly",".acc"]:List Str)by decide +kernel) rfl (Or.inl rfl)) kX) (bY<|bY j0))) (λ_ _ _ _ _ _=>fZ) (λ_ _ _ _ _ _=>(cY<|aP 0<|aP 1<|aD (dX (yB<|d4 bX hr<|aP 2<|aP 0 aC) aI) aC)))
theorem b06 (Z:Zs mg)(bX:j5 P w K mg base):DT P w K mg base v7 "outside_of" oR 2 sH:=λhr=>
 (bH (aW9 gZ rfl (jJ<|aR 1) (qG rfl (cS 2 (cI i9.nd rfl (Or.inr rfl))<|cS 3 (cI i9.nd rfl (Or.inl rfl)) kX) (bY<|bY j0)) (bF<|aW9 gZ rfl (jJ<|aR 3) (qG rfl (cS 4 (cI i9.nd rfl (Or.inl rfl))<|cS 5 (cI i9.nd rfl (Or.inl rfl))<|cS 6 (cI i9.nd rfl (Or.inl rfl)) kX) (bY<|bY<|bY j0)) (bF<|bT7 (PUW.pt<|b74 (jM dL6 (aR 5) aI)<|aR4<|cY5<|hZ (cD5 rfl) rfl Z.z9 cD7 (aD (uI ["c","p",".acc"] (aG oR).names v7 (jJ<|aR 6) (λ_ _ _ _ _ _=>fZ) λ_ _ _ _ _ _=>(cR4 jW (aQ i4 (aR 0)<|aQ dF (aR 1)<|aR 1) aI)) aC))<|fG<|cY<|aP 2<|aD (dX (yB<|d4 bX hr<|aP 0<|aP 4 aC) aI) aC)))<|fG a74)
theorem aG1 (Z:Zs mg){k:Nat}{fJ:Φ}(hk:1<=k)(wH:Fn P w K mg base "det" j2 k fJ)(fE:aV8 P w K mg base):DT P w K mg base cN6 "det" b89 k (bB8 fJ):=λhr=>
 (bH (bN7 (aR3 jW (fF (qF 0<|pv 0) rfl Z.z0) aI<|b93 _) (bF<|bS7<|a79 (yB<|a79 (qF 0<|pv 0) aI λ_ _=>rfl) aI λ_ _=>rfl) bS6)<|bH (a76 1 oU.nd rfl (Or.inl rfl) aI (hl:=il (n:=4) rfl ac))<|bH (a76 2 oU.nd rfl (Or.inl rfl) aI (hl:=il (n:=4) rfl ac))<|bH (aW9 gZ rfl (eR rfl Z.z4 (aD (fF (qF 0<|pv 0) rfl Z.z0) aC)) (a06 3<|cI oU.nd rfl (Or.inl rfl)) (bH (cZ0 1 oU.nd rfl (Or.inl rfl) (aQ dF (aQ dF (eZ 2<|pv 2)<|a79 (yB<|a79 (qF 0<|pv 0) (eZ 3<|pv 3) λ_ _=>rfl) aI λ_ _=>rfl)<|a81 wH hr (aF _) rfl (aD (a81 fE hr hk rfl (aD (eZ 0<|pv 0)<|aD (eZ 3<|pv 3) aC)) aC)) cC9 (hl:=il (n:=4) rfl ac))<|bF<|a76 2 oU.nd rfl (Or.inl rfl) (jQ<|eZ 2<|pv 2) (hl:=il (n:=4) rfl ac)))<|bF<|kW 1<|pv 1)
theorem bL8 (Z:Zs mg):DT P w K mg base aC2 "without" w8 0 a12:=λhr=>
 (fG<|dL gB rfl Z.z6 gC (aD (uI ["row",".acc"] (aG w8).names aC2 (jJ<|aQ dQ (uF (cK 0) mC<|gM<|aR 1)<|uF (cK 0) (gM<|aQ dQ (aR 1) aI) mC) (λ_ _ _ _ _ _=>fZ) λ_ _ _ _ _ _=>(uF (cK 0) (gM aI) mC)) aC))
theorem b64 (Z:Zs mg)(jL:aD1 P w K mg base):DT P w K mg base aI8 "number_of" xG 1 uT:=λhr=>
 (fG<|d4 jL hr<|rG (cY<|aP 1 aC)<|aD (iS<|aR 0) aC)
theorem bL9 (Z:Zs mg):DT P w K mg base aC4 "t_times" wA 0 a19:=λhr=>
 (bS 2 a36.nd (dX (cK 1)<|jQ aI)<|bS 3 a36.nd (aQ dQ (cY<|bE aC)<|uF (cK 1) mC<|gM<|jQ aI)<|fG<|dL gB rfl Z.z6 gC (aD (uI ["i","moved","last","ring",".acc"] (aG wA).names aC4 (eR rfl Z.z4 (aD (iS<|aR 0) aC)) (λ_ _ _ _ _ _=>fZ) λ_ _ _ _ _ _=>(aQ cD (dX (cK 1)<|aR 0)<|aQ dF (aR 2)<|dX (yB<|iS<|aR 3)<|aR 0)) aC))
theorem bH8 (Z:Zs mg)(oB:aV9 P w K mg base):DT P w K mg base aU5 "table_of" a29 1 wV:=λhr=>
 (bS 2 xK.nd (eV<|aP 1 aC)<|bH (vN 3 xK.nd (eR rfl Z.z4 (aD (aQ cD (iS<|aR 0) aI) aC))<|bF<|kZ 2 (pv 2)<|d4 oB hr<|aP 0<|aD (dX (cK 2)<|jQ aI) aC)<|fG<|dL gB rfl Z.z6 gC (aP 2 aC))
theorem cH9 (Z:Zs mg)(wH:c95 P w K mg base)(lK:aJ7 P w K mg base):DT P w K mg base c81 "norm" bF8 5 aZ1:=λhr=>
 (fG<|d4 wH hr<|aD (d4 lK hr<|aP 0<|aP 1 aC) aC)
theorem c99 (Z:Zs mg)(a46:bL3 P w K mg base)(bI4:cU7 P w K mg base):DT P w K mg base aZ9 "stair" aF6 2 aP2:=λhr=>
 (bH (b23 (js:=[1,0]) (N:=["i","m","k",".acc"]) (cap:=[none,some 1,some 0,none]) (last:=3) (esc:=(aG aF6).names) (XN:=aZ9) 3 rfl rfl af ac ac rfl (eR rfl Z.z4 (aP 0 aC)) (λ_ _ _ _ _ _=>(a06 0<|cI (show Nodup (["i","m","k",".acc"]:List Str)by decide +kernel) rfl (Or.inl rfl))) (λ_ _ _ _ _ _=>fZ) (λ_ _ _ _ _ _=>(aQ dQ (aQ dQ (aQ bT5 (cY<|bE aC)<|aR 0)<|cY<|aP 1 aC)<|aQ bT5 (cY<|bE aC)<|aQ cD (aQ cD (aR 2)<|aR 0) aI)) (cI nU.nd rfl (Or.inl rfl)) (il (n:=7) rfl ac))<|bH (vN 4 nU.nd (jJ<|aR 2)<|bF<|b50 3 nU.nd<|d4 a46 hr<|aP 3<|aP 1<|aP 4 aC)<|bS 5 nU.nd (eV aC)<|bH (aW9 gZ rfl (cK6 (by rfl) Z.z5<|aP 3 aC) (qG rfl (cS 6 (cI nU.nd rfl (Or.inl rfl))<|cS 4 (cI nU.nd rfl (Or.inl rfl)) kX) (bY<|bY j0)) (bF<|kZ 5 (pv 5)<|aQ dQ (d20<|d4 bI4 hr<|aP 5<|aD (tI (aR 4) mC<|gM<|aR 6) aC)<|tI (aR 4) (gM<|aR 6) mC))<|fG<|dL gB rfl Z.z6 gC (aP 5 aC))
theorem bH9 (Z:Zs mg)(xQ:bH1 P w K mg base)(aG2:cH4 P w K mg base):DT P w K mg base aU6 "taken_in" a30 1 wZ:=λhr=>
 (bS 3 gA.nd (dL b75 rfl Z.z2 b82 (aP 0 aC))<|bS 4 gA.nd (aR 2)<|bH (vN 5 gA.nd (bT3 rfl Z.z3 rfl Z.z4 (aD (fF (cK 2) rfl Z.z0) aC))<|bS 6 gA.nd (dX (cK 3)<|aR 5)<|bH (b99 (d4 xQ hr<|aD (dX (cK 6)<|aR 5)<|aD (dX (cK 4)<|aR 5) aC)<|qG rfl (cS 7 (cI gA.nd rfl (Or.inl rfl))<|cS 8 (cI gA.nd rfl (Or.inl rfl))<|cS 9 (cI gA.nd rfl (Or.inl rfl)) kX) (bY<|bY<|bY j0))<|bH (qH 3 (pv 3) (aQ dQ (aQ dQ (d4 aG2 hr<|aP 8<|aP 6<|aP 9<|aP 4<|aP 1<|aP 5 aC)<|cY<|aP 7 aC)<|tI (aR 6) (gM<|aQ dQ (aR 5) aI) mC)<|aR 5)<|bF<|b50 4 gA.nd<|d4 aG2 hr<|aD (aQ rY (dX (cK 6)<|aR 5)<|aR 7)<|aP 4<|aD (aQ rY (jQ<|dX (cK 4)<|aR 5)<|aR 7)<|aP 6<|aP 1<|aP 5 aC)<|bF<|kW 3<|pv 3)
theorem cA0 (Z:Zs mg):DT P w K mg base b00 "mixed" aF7 0 aP0:=λhr=>
 (fG<|dL gB rfl Z.z6 gC (aD (uG (js:=[0,2,4]) (N:=["c","d","s","t","m",".acc"]) (cap:=[none,none,some 0,some 2,some 4,none]) (last:=5) (esc:=(aG aF7).names) (XN:=b00) rfl rfl af ac ac rfl (d09 (by rfl) Z.z10<|aD (tI (aR 1) mC<|gM<|aR 5)<|aD (tI (aR 3) mC<|gM<|aR 5) aC) (λ_ _ _ _ _ _=>(qG rfl (cS 0 (cI (show Nodup (["c","d","s","t","m",".acc"]:List Str)by decide +kernel) rfl (Or.inl rfl))<|cS 1 (cI (show Nodup (["c","d","s","t","m",".acc"]:List Str)by decide +kernel) rfl (Or.inl rfl)) kX) (bY<|bY j0))) (λ_ _ _ _ _ _=>fZ) (λ_ _ _ _ _ _=>(aQ i4 (aQ dQ (aQ dF (aR 2)<|aR 0)<|aQ dF (aR 3)<|aR 1)<|aR 4))) aC))
theorem cI0 (Z:Zs mg):DT P w K mg base bG1 "rest" aU7 0 aZ3:=λhr=>
 (bS 2 yS.nd (aR 1)<|bH (vN 3 yS.nd (bT3 rfl Z.z3 rfl Z.z4 (aD (fF (cK 1) rfl Z.z0) aC))<|bS 4 yS.nd (aQ rY (dX (cK 2)<|aR 3)<|dX (yB<|dX (cK 0)<|aR 3)<|aR 3)<|bF<|b50 2 yS.nd<|dL gB rfl Z.z6 gC (aD (uG (js:=[4]) (N:=["c","d","many",".acc"]) (cap:=[none,none,some 4,none]) (last:=3) (esc:=(aG aU7).names) (XN:=bG1) rfl rfl af ac ac rfl (d09 (by rfl) Z.z10<|aP 2<|aD (dX (cK 0)<|aR 3) aC) (λ_ _ _ _ _ _=>(qG rfl (cS 0 (cI (show Nodup (["c","d","many",".acc"]:List Str)by decide +kernel) rfl (Or.inl rfl))<|cS 1 (cI (show Nodup (["c","d","many",".acc"]:List Str)by decide +kernel) rfl (Or.inl rfl)) kX) (bY<|bY j0))) (λ_ _ _ _ _ _=>fZ) (λ_ _ _ _ _ _=>(aQ cD (aR 0)<|aQ dF (aR 2)<|aR 1))) aC))<|bF<|kW 2<|pv 2)
theorem cI1 (Z:Zs mg)(aQ2:c93 P w K mg base)(bI5:cU6 P w K mg base)(lK:aJ7 P w K mg base)(b07:cH3 P w K mg base):DT P w K mg base c82 "made" bG2 6 aZ5:=λhr=>
 (bS 2 yT.nd aI<|bS 3 yT.nd (eV aC)<|bH (vN 4 yT.nd (jJ<|aR 1)<|bS 2 yT.nd (d4 aQ2 hr<|aP 2<|aD (d4 bI5 hr<|aP 0<|aP 4 aC) aC)<|bF<|cR3 3 (pv 3)<|d4 lK hr<|aP 0<|aP 4 aC)<|oG (jM jW (aR 2) aI) (bF b98)<|fG<|d4 b07 hr<|aD (iS<|aR 0)<|aP 2<|aP 3 aC)
theorem bZ5 (Z:Zs mg)(lJ:aJ6 P w K mg base)(xR:bH3 P w K mg base):DT P w K mg base aP7 "above" a31 8 aB3:=λhr=>
 (fG<|uG (js:=[0,1]) (N:=["g","often","ring","p",".acc"]) (cap:=[none,none,some 0,some 1,none]) (last:=4) (esc:=(aG a31).names) (XN:=aP7) rfl rfl af ac ac rfl (jJ<|d4 lJ hr<|aD (iS<|aR 0)<|aP 1 aC) (λ_ _ _ _ _ _=>(qG rfl (cS 0 (cI (show Nodup (["g","often","ring","p",".acc"]:List Str)by decide +kernel) rfl (Or.inl rfl))<|cS 1 (cI (show Nodup (["g","often","ring","p",".acc"]:List Str)by decide +kernel) rfl (Or.inl rfl)) kX) (bY<|bY j0))) (λ_ _ _ _ _ _=>fZ) (λ_ _ _ _ _ _=>(cY<|aD (d4 xR hr<|aP 2<|aP 3<|aP 0 aC)<|aP 1<|aD (aQ cD (fF (cK 0) rfl Z.z0) aI) aC)))
theorem b65 (Z:Zs mg)(bI6:cU8 P w K mg base)(jP:aD3 P w K mg base)(a47:bL4 P w K mg base):DT P w K mg base aJ1 "prime_of" xH 7 v4:=λhr=>
 (fG<|d4 bI6 hr<|aP 0<|aD (eV<|aD (d4 jP hr<|aP 0<|aP 1 aC)<|aD (d4 a47 hr<|aP 0<|aP 2 aC) aC) aC)
theorem bI0 (Z:Zs mg)(jL:aD1 P w K mg base)(bX:j5 P w K mg base):DT P w K mg base aU8 "at_root" a32 2 xC:=λhr=>
 (fG<|d4 jL hr<|aD (dX (yB<|d4 bX hr<|aP 1<|aD (iS<|aR 0) aC) aI)<|aD (iS<|aR 0) aC)
theorem aQ1 (Z:Zs mg){qQ:Tok}(fX:mg "GREATEST_PLACE"=some (.int 499 qQ)):DT P w K mg base qP "is_ring_poly" lF 0 oJ:=λhr=>
 (oG (PUW.pt<|cC6 (jM cJ9 (fF (cK 0) rfl Z.z0) aI)<|cC6 (jM bN9 (fF (cK 0) rfl Z.z0) aI)<|cJ5<|jM cK0 (dX (cK 0)<|jQ aI) aI) (fG dL2)<|fG<|hZ (cD5 rfl) rfl Z.z9 cD7 (aD (uI ["c",".acc"] (aG lF).names qP (jJ<|aR 0) (λ_ _ _ _ _ _=>fZ) λ_ _ _ _ _ _=>(cR4 dL5 (hZ aX1 rfl Z.z7 aY1 (aP 0 aC))<|cK3 rfl fX)) aC))
theorem aD5 (Z:Zs mg)(qR:aW0 P w K mg base):DT P w K mg base v8 "need_ring_poly" nT 1 lN:=λhr=>
 (bF<|bT7 (dC4<|cY5<|d4 qR hr<|aP 0 aC)<|bF b98)
theorem cA1 (Z:Zs mg)(dG:lW P w K mg base)(oW:aP9 P w K mg base)(kQ:a72 P w K mg base):DT P w K mg base bR3 "apart" b01 3 aO4:=λhr=>
 (bH (b76<|d4 dG hr<|aP 0 aC)<|bS 1 aP8.nd (d4 oW hr<|aP 0 aC)<|oG (PUW.pt<|b74 (bT6<|aR 1)<|aR4<|jM jW (fF (cK 0) rfl Z.z0) aI) (bF<|b50 1 aP8.nd<|d4 kQ hr<|aP 0 aC)<|bF<|kW 1<|pv 1)
theorem bI1 (Z:Zs mg):DT P w K mg base aU9 "dividers" a33 0 wS:=λhr=>
 (oG (jM jW (aR 0) aI) (fG<|eV<|bE aC)<|bS 1 xL.nd (eV aC)<|bH (vN 2 xL.nd (yC rfl Z.z4 (bE<|aD (aQ dQ (hZ aX1 rfl Z.z7 aY1 (aP 0 aC)) aI) aC))<|bF<|bT7 (jM jW (aQ i4 (aR 0)<|aR 2) aI)<|bH (kZ 1 (pv 1)<|aR 2)<|bF<|kZ 1 (pv 1)<|jQ<|aR 2)<|bF<|kW 1<|pv 1)
theorem aH2 (Z:Zs mg)(lL:aJ8 P w K mg base)(oA:aV7 P w K mg base)(bX:j5 P w K mg base):DT P w K mg base wC "line_and_rest" oS 2 nR:=λhr=>
 (bH (vN 1 nV.nd (jJ<|d4 lL hr<|aD (dX (cK 0) aI) aC)<|bF<|bT7 (jM jW (d4 oA hr<|aP 0<|aP 1 aC) aI)<|bS 2 nV.nd (cY<|b24 (jQ<|aR 1)<|bE aC)<|fG<|cY<|aP 2<|aD (dX (yB<|d4 bX hr<|aP 0<|aP 2 aC) aI) aC)<|fG a74)
theorem a42 (Z:Zs mg)(lL:aJ8 P w K mg base)(a48:bL5 P w K mg base):DT P w K mg base rT "two_by_two" kN 2 jT:=λhr=>
 (bH (vN 1 fL.nd (jJ<|d4 lL hr<|aD (dX (cK 0) aI) aC)<|bS 2 fL.nd (aQ rY (dX (cK 0) aI)<|aR 1)<|bF<|vN 3 fL.nd (jJ<|d4 a48 hr<|aD (dX (cK 0) aI)<|aD (aQ cD (aQ cD (dX (cK 0) aI)<|aR 1)<|aR 2) aC)<|bS 4 fL.nd (aQ cD (dX (cK 0) aI)<|aR 3)<|bF<|bT7 (jM jW (aQ dQ (aQ dF (aR 3)<|aR 2)<|aQ dF (aR 1)<|aR 4)<|dX (cK 0) aI)<|fG<|cY<|rG (cY<|aP 1<|aP 3<|bE aC)<|rG (cY<|aP 2<|aP 4<|bE aC) aC)<|fG a74)
theorem bI2 (Z:Zs mg)(bI7:cU5 P w K mg base):DT P w K mg base aV0 "two_with" a34 1 wU:=λhr=>
 (bS 2 xM.nd (aQ cD (aQ dF (aR 0)<|aR 0)<|aQ dF aI<|aR 1)<|oG (jM cJ9 (aR 2) aI) (fG<|eV aC)<|bS 3 xM.nd (d4 bI7 hr<|aP 2 aC)<|oG (jM cK0 (aQ dF (aR 3)<|aR 3)<|aR 2) (fG<|eV aC)<|fG<|eV<|aD (aQ rY (aQ dQ (aR 0)<|aR 3) aI)<|aD (aQ rY (aQ cD (aR 0)<|aR 3) aI) aC)
theorem bM0 (Z:Zs mg)(dG:lW P w K mg base)(xS:bH4 P w K mg base)(wH:c95 P w K mg base):DT P w K mg base aC6 "measure" wD 5 a15:=λhr=>
 (bH (b76<|d4 dG hr<|aP 0 aC)<|bS 1 a37.nd (aQ cD (fF (cK 0) rfl Z.z0) aI)<|bS 2 a37.nd (d4 xS hr<|aP 0<|aD (aQ cD (aQ dF aI<|aR 1) aI) aC)<|fG<|d4 wH hr<|aD (dL gB rfl Z.z6 gC (aD (uI ["i","sums","n",".acc"] (aG wD).names aC6 (eR rfl Z.z4 (aP 1 aC)) (λ_ _ _ _ _ _=>fZ) λ_ _ _ _ _ _=>(dL gB rfl Z.z6 gC (aD (uF (cK 1) (gM<|aR 0)<|gM<|aQ dQ (aR 0)<|aR 2) aC))) aC)) aC)
theorem b66 (Z:Zs mg):DT P w K mg base xI "root_sums" r8 0 uM:=λhr=>
 (bS 2 j4.nd (aQ cD (fF (cK 0) rfl Z.z0) aI)<|bS 3 j4.nd (eV<|aP 2 aC)<|bH (vN 4 j4.nd (yC rfl Z.z4 (bE<|aP 1 aC))<|bS 5 j4.nd (hZ (cD6 rfl) rfl Z.z11 cD8 (aD (uI ["i","poly","n","sums","k",".acc"] (aG r8).names xI (yC rfl Z.z4 (bE<|aD (aQ dQ (hZ (cu_min rfl) rfl Z.z12 bt_min (aD (aQ cD (aR 4) aI)<|aP 2 aC)) aI) aC)) (λ_ _ _ _ _ _=>fZ) λ_ _ _ _ _ _=>(aQ dF (dX (cK 1)<|aQ cD (aR 2)<|aR 0)<|dX (cK 3)<|aQ cD (aR 4)<|aR 0)) aC))<|oG (jM dL5 (aR 4)<|aR 2) (bF<|us_g 5 j4.nd (aQ dF (aR 4)<|dX (cK 0)<|aQ cD (aR 2)<|aR 4) cC9)<|bF<|kZ 3 (pv 3)<|jQ<|aR 5)<|bF<|kW 3<|pv 3)
theorem aD6 (Z:Zs mg){eK:Addr}(iG:mg "FallsApart"=some (.ref eK)){gR:Addr}{bM2:FuncData}(lM:aH7 K eK gR [.type "ValueError",.type "Exception",.type "BaseException",.type "object"] "ValueError.__new__"=true)(a49:c37 K eK gR bM2 "left" "right")(b08:cH5 P w K mg base){f:Addr}{cdv:Value}{A:Around}{outer:List Env}{s:Shared}{H:Hp}{E:XK}(hr:gO 4 (A.deeper<|envOfC "need_together" (aG iF) s.heap.objs.size f cdv)) :
  a55 (uD (CXr P w base) P w K mg base wE "need_together" (aG iF) f cdv A outer s H E) E (dR iF) lU:=
 (bU3 (aS1<|a76 1 vD.nd rfl (Or.inl rfl) (a81 b08 hr ac rfl (aD (eZ 0<|pv 0) aC)) (hl:=il (n:=2) rfl ac))<|bB1<|d28 (c30<|eZ 1<|pv 1) (bB1<|bP4 (k:=0) yX lM a49 (hr.mono ac) rfl iG rfl (aD (a79 (qF 1<|pv 1) aI λ_ _=>rfl)<|aD (a79 (qF 1<|pv 1) aI λ_ _=>rfl) aC) cF2 rfl ac) cF4)
theorem aW2 (Z:Zs mg){gL:Addr}(kR:mg "NotWhole"=some (.ref gL)){j8:Addr}{cA4:FuncData}(qS:aH7 K gL j8 [.type "ValueError",.type "Exception",.type "BaseException",.type "object"] "ValueError.__new__"=true)(aQ3:c37 K gL j8 cA4 "prime" "number")(vI:b59 P w K mg base)(jO:aD2 P w K mg base)(jL:aD1 P w K mg base){f:Addr}{cdv:Value}{A:Around}{outer:List Env}{s:Shared}{H:Hp}{E:XK}(hr:gO 8 (A.deeper<|envOfC "need_whole" (aG j3) s.heap.objs.size f cdv)) :
  a55 (uD (CXr P w base) P w K mg base vB "need_whole" (aG j3) f cdv A outer s H E) E (dR j3) qM:=
 (bU3 (aS1<|a76 2 mO.nd rfl (Or.inl rfl) (a81 vI hr ac rfl (aD (eZ 0<|pv 0)<|aD (a81 jO hr ac rfl (aD (eZ 0<|pv 0)<|aD (eZ 1<|pv 1) aC)) aC)) (hl:=il (n:=5) rfl ac))<|bB1<|d28 (c30<|eZ 2<|pv 2) (bU3 (aS1<|b99 (eZ 2<|pv 2)<|qG rfl (cS 3 (cI mO.nd rfl (Or.inr rfl))<|cS 4 (cI mO.nd rfl (Or.inl rfl)) kX) (bY<|bY j0))<|bB1<|bP4 (k:=0) yX qS aQ3 (hr.mono ac) rfl kR rfl (aD (eZ 3<|pv 3)<|aD (a81 jL hr ac rfl (aD (dL gB rfl Z.z6 gC (aD (uG (js:=[3]) (N:=["c","p",".acc"]) (cap:=[none,some 3,none]) (last:=2) (esc:=(aG j3).names) (XN:=vB) rfl rfl af ac ac rfl (jJ<|eZ 4<|pv 4) (λ_ _ _ _ _ _=>(a06 0<|cI (show Nodup (["c","p",".acc"]:List Str)by decide +kernel) rfl (Or.inl rfl))) (λ_ _ _ _ _ _=>fZ) (λ_ _ _ _ _ _=>(aQ i4 (eZ 0<|pv 0)<|eZ 1<|pv 1))) aC))<|aD (aQ cD (fF (qF 0<|pv 0) rfl Z.z0) aI) aC)) aC) cF2 rfl ac) cF4)
theorem cA2 (Z:Zs mg)(jP:aD3 P w K mg base)(oB:aV9 P w K mg base)(kS:b60 P w K mg base)(aD7:bZ0 P w K mg base):DT P w K mg base b02 "bound" aF8 5 aO8:=λhr=>
 (bS 1 a38.nd (iS<|aR 0)<|bS 2 a38.nd (eV<|aD (d4 jP hr<|aP 0<|bE aC) aC)<|bH (vN 3 a38.nd (eR rfl Z.z4 (aD (aQ cD (aQ dF aI<|aR 1) aI) aC))<|bF<|kZ 2 (pv 2)<|d4 oB hr<|aP 0<|aD (dX (cK 2)<|jQ aI) aC)<|fG<|d4 kS hr<|aD (dL gB rfl Z.z6 gC (aD (uI ["i","powers","n",".acc"] (aG aF8).names b02 (eR rfl Z.z4 (aP 1 aC)) (λ_ _ _ _ _ _=>fZ) λ_ _ _ _ _ _=>(d4 aD7 hr<|aD (uF (cK 1) (gM<|aR 0)<|gM<|aQ dQ (aR 0)<|aR 2) aC)) aC)) aC)
theorem bM1 (Z:Zs mg):DT P w K mg base aC8 "reaches" wF 0 a22:=λhr=>
 (fG<|dL gB rfl Z.z6 gC (aD (uI ["j","numbers",".acc"] (aG wF).names aC8 (eR rfl Z.z4 (aD (fF (yB<|dX (cK 0) aI) rfl Z.z0) aC)) (λ_ _ _ _ _ _=>fZ) λ_ _ _ _ _ _=>(hZ (cD6 rfl) rfl Z.z11 cD8 (aD (uI ["x","j",".acc"] [(".0",NameKind.local),("j",NameKind.cell),("sum",NameKind.globalImplicit),("numbers",NameKind.cell)] ["j","numbers",".acc"] (jJ<|aR 1) (λ_ _ _ _ _ _=>fZ) λ_ _ _ _ _ _=>(hZ aX1 rfl Z.z7 aY1 (aD (dX (cK 0)<|aR 1) aC))) aC))) aC))
theorem lH (Z:Zs mg){k:Nat}{bN:Φ}(hk:1<=k)(kS:Fn P w K mg base "all_orders" cL k bN)(fE:aV8 P w K mg base):DT P w K mg base vC "all_orders" kO k (sI bN):=λhr=>
 (bH (bN7 (aR3 jW (fF (qF 0<|pv 0) rfl Z.z0) aI<|b93 _) (bF<|bS7<|a79 (yB<|a79 (qF 0<|pv 0) aI λ_ _=>rfl) aI λ_ _=>rfl) bS6)<|bF<|bS7<|hZ (cD6 rfl) rfl Z.z11 cD8 (aD (uG (js:=[0]) (N:=["i","table",".acc"]) (cap:=[none,some 0,none]) (last:=2) (esc:=(aG kO).names) (XN:=vC) rfl rfl af ac ac rfl (eR rfl Z.z4 (aD (fF (qF 0<|pv 0) rfl Z.z0) aC)) (λ_ _ _ _ _ _=>(a06 0<|cI (show Nodup (["i","table",".acc"]:List Str)by decide +kernel) rfl (Or.inl rfl))) (λ_ _ _ _ _ _=>fZ) (λ_ _ _ _ _ _=>(aQ dF (a79 (yB<|a79 (qF 1<|pv 1) (eZ 0<|pv 0) λ_ _=>rfl) aI λ_ _=>rfl)<|a81 kS hr (aF _) rfl (aD (a81 fE hr hk rfl (aD (eZ 1<|pv 1)<|aD (eZ 0<|pv 0) aC)) aC)))) aC))
theorem d89 (Z:Zs mg):DT P w K mg base d85 "_law_cell" cG9 0 bU7:=λhr=>
 (oG (jM jW (fF (cK 0) rfl Z.z0) aI) (fG<|aQ dF aI<|aQ dQ (aR 1) aI)<|oG (jM cJ9 (aR 1)<|fF (cK 0) rfl Z.z0) (fG<|dX (cK 0)<|aR 1)<|fG<|aQ dQ (dX (cK 0)<|aQ i4 (aR 1)<|fF (cK 0) rfl Z.z0)<|aQ dF aI<|aR 1)
theorem cV0 (Z:Zs mg):DT P w K mg base cN8 "_law_mixed" bY3 0 bB4:=λhr=>
 (bS 3 bH0.nd (aQ i4 (aQ dF (aQ dQ (aQ dQ (aQ dQ (aR 0)<|aQ dF (aQ dF aI<|aR 1)<|aR 1)<|aQ dF aI<|aR 1) aI) aI) aI)<|bS 3 bH0.nd (aQ i4 (aQ dF (aR 3)<|aR 3) aI)<|fG<|aQ i4 (aQ dF (aR 3) aI)<|aR 2)
theorem cV1 (Z:Zs mg)(aG3:c97 P w K mg base):DT P w K mg base cN9 "_law_draws" bY4 1 bB5:=λhr=>
 (bS 3 yU.nd aI<|oG (jM dL6 (aR 0)<|aQ cZ3 aI aI) (bF<|b50 3 yU.nd<|aQ cD (aR 0)<|aQ cZ3 aI aI)<|bS 4 yU.nd (eV aC)<|bH (vN 5 yU.nd (eR rfl Z.z4 (aD (fF (cK 1) rfl Z.z0) aC))<|bF<|bN7 (jM bN9 (aR 3) aI) (bH (kZ 4 (pv 4)<|aQ i4 (aR 3)<|dX (cK 1)<|aR 5)<|bF<|b50 3 yU.nd<|aQ rY (aR 3)<|dX (cK 1)<|aR 5)<|bF<|kZ 4 (pv 4)<|aQ i4 (d4 aG3 hr<|aP 0<|aP 5<|aP 2 aC)<|dX (cK 1)<|aR 5)<|bF<|kW 4<|pv 4)
theorem cA3 (Z:Zs mg):DT P w K mg base bR4 "_law_shifted" b03 0 aO6:=λhr=>
 (bS 2 a39.nd (dL b75 rfl Z.z2 b82 (aP 0 aC))<|bH (vN 3 a39.nd (eR rfl Z.z4 (aD (aQ cD (fF (cK 2) rfl Z.z0) aI) aC))<|bF<|vN 4 a39.nd (cQ3 rfl Z.z4 (aD (aQ cD (fF (cK 2) rfl Z.z0) aI)<|aD (aQ cD (aR 3) aI)<|b24 (jQ aI) aC))<|bF<|qH 2 (pv 2) (aQ dQ (dX (cK 2)<|aR 4)<|aQ dF (aR 1)<|dX (cK 2)<|aQ dQ (aR 4) aI)<|aR 4)<|fG<|dL gB rfl Z.z6 gC (aP 2 aC))
theorem d90 (Z:Zs mg)(rA:c98 P w K mg base)(aG4:cH7 P w K mg base):DT P w K mg base cH0 "_law_poly" bY5 2 bW5:=λhr=>
 (bS 2 aF9.nd (d4 rA hr<|aP 0<|aD (eV<|bE<|bE aC)<|aP 1 aC)<|bS 3 aF9.nd (uF (yB<|d4 rA hr<|aP 0<|aD (eV<|bE<|bE<|bE<|bE<|bE<|bE aC)<|aP 1 aC) (gM aI)<|gM<|aQ dQ (dX (cK 2) aI) aI)<|oG (jM jW (dX (cK 2) aI) aI) (fG<|dL gB rfl Z.z6 gC (aD (aQ dQ (uI ["_law_place",".acc"] (aG bY5).names cH0 (jJ<|aR 3) (λ_ _ _ _ _ _=>fZ) λ_ _ _ _ _ _=>(aQ cD (aR 0) aI))<|eV<|bE aC) aC))<|bS 4 aF9.nd (d4 rA hr<|aP 0<|aD (eV<|bE<|bE<|bE<|bE<|bE<|bE<|bE aC)<|aP 1 aC)<|oG (jM jW (dX (cK 2) aI) aI) (bS 4 aF9.nd (d4 rA hr<|aP 0<|aD (eV<|bE<|bE<|bE<|bE aC)<|aP 1 aC)<|fG<|cY<|aD (aQ cD (dX (cK 4) aI) aI)<|aD (aQ cD (dX (cK 4) aI) aI)<|bE aC)<|oG (jM jW (dX (cK 2) aI) aI) (fG<|d4 aG4 hr<|rG (cY<|aD (aQ cD (dX (cK 4) aI) aI)<|aD (aQ cD (dX (cK 4) aI) aI)<|aD (aQ cD (dX (cK 4) aI) aI)<|bE aC)<|aD (aQ cD (dX (cK 4) aI) aI) aC)<|bS 4 aF9.nd (d4 rA hr<|aP 0<|aD (eV<|bE<|bE<|bE<|bE<|bE<|bE<|bE aC)<|aP 1 aC)<|fG<|d4 aG4 hr<|rG (cY<|aD (aQ cD (dX (cK 4) aI) aI)<|aD (aQ cD (dX (cK 4) aI) aI)<|aD (aQ cD (dX (cK 4) aI) aI)<|aD (aQ cD (dX (cK 4) aI) aI)<|bE aC)<|aD (aQ cD (dX (cK 4) aI) aI) aC)
theorem bI3 (Z:Zs mg)(aG3:c97 P w K mg base):DT P w K mg base aV3 "_law_known_ring" a35 1 wX:=λhr=>
 (by refine WS.out ?_;exact ws_lw (cE5 (a68<|a68<|a68 a87)<|cE5 (cR2<|a68<|a68 a87)<|cE5 (a68<|a68<|a68 a87)<|cE5 (cR2<|a68<|a68 a87)<|cE5 (cR2<|cR2<|a68<|a68 a87)<|cE5 (cR2<|a68<|a68<|a68 a87)<|cE5 (cR2<|a68<|a68<|a68 a87) a87) (ws_of<|bS 1 xN.nd (aQ dQ (aR 1)<|eV<|rG (cY<|bE<|bE<|bE<|bE<|bE aC)<|rG (cY<|b24 (jQ aI)<|b24 (jQ aI)<|bE<|bE<|bE aC)<|rG (cY<|bE<|bE<|bE<|bE<|bE aC)<|rG (cY<|b24 (jQ aI)<|bE<|bE<|bE<|bE aC)<|rG (cY<|bE<|bE<|b24 (jQ aI)<|bE<|bE aC) aC)<|fG<|dX (cK 1)<|aQ i4 (d4 aG3 hr<|aP 0<|bE<|bE aC) aI) xN.nd)
theorem d91 (Z:Zs mg){gS:Addr}(kT:mg "RingError"=some (.ref gS))(rV:excIn K gS [.type "ValueError",.type "Exception",.type "BaseException",.type "object"] "ValueError.__new__"=true)(qT: ∀n∈(["FallsApart","TooGreat","NotWhole"]:List Str),∀C,mg n=some (.ref C)->aX9 K gS C [.type "ValueError",.type "Exception",.type "BaseException",.type "object"] "ValueError.__new__")(a50:MkX P w K mg base "Ring" 10 ["poly","degree","measure"] rQ)(cI2:dJ5 P w K mg base)(aQ4:cO4 P w K mg base)(a51:bL6 P w K mg base):DT P w K mg base d86 "_law_ring" cH1 11 bW4:=λhr=>
 (bS 3 aG0.nd a74<|bH (vN 4 aG0.nd (eR rfl Z.z4 (bE aC))<|bF<|bT7 (bT6<|aR 3)<|bF<|dF8 3 ["FallsApart","TooGreat","NotWhole"] yX a50 hr ac rfl rfl rfl rfl rfl (λ_=>(aD (d4 cI2 hr<|aD (d4 aQ4 hr<|aP 0<|aD (aQ dQ (aR 1)<|aR 4) aC)<|aP 2 aC) aC)) aG0.nd rfl (Or.inl rfl) (λ_=>(bF<|b50 3 aG0.nd a74)) rfl kT rV qT (il (n:=5) rfl ac))<|oG (bT6<|aR 3) (bF<|b50 3 aG0.nd<|cK9 a50 hr ac rfl (aD (d4 a51 hr<|aD (d4 aQ4 hr<|aP 0<|aP 1 aC) aC) aC))<|bF<|kW 3<|pv 3)
theorem cV2 (Z:Zs mg)(aQ5:c94 P w K mg base)(aQ6:c96 P w K mg base)(b09:cH6 P w K mg base):DT P w K mg base cO2 "_law_asked" bY6 9 bF2:=λhr=>
 (bS 3 aV6.nd (eV<|aD a74<|aD a74<|aD a74 aC)<|bH (vN 4 aV6.nd (eR rfl Z.z4 (bE aC))<|bS 5 aV6.nd (aQ i4 (aQ dQ (aR 4)<|aR 2) aI)<|bF<|bN7 (jM jW (aR 5) aI) (bF<|qH 3 (pv 3) (d4 aQ5 hr<|aP 0 aC) aI)<|bF<|bN7 (jM jW (aR 5) aI) (bF<|qH 3 (pv 3) (d4 aQ6 hr<|aP 0<|aP 1 aC) aI)<|bF<|qH 3 (pv 3) (d4 b09 hr<|aP 0 aC) aI)<|bF<|kW 3<|pv 3)
theorem dJ7 (Z:Zs mg)(a50:MkX P w K mg base "Ring" 10 ["poly","degree","measure"] rQ)(bZ6:dJ6 P w K mg base)(rA:c98 P w K mg base)(aQ4:cO4 P w K mg base)(aG5:d88 P w K mg base):DT P w K mg base d87 "law" b43 12 bY0:=λhr=>
 (bS 1 a40.nd (d4 bZ6 hr<|aP 0<|bE<|bE aC)<|bS 2 a40.nd (d4 bZ6 hr<|aP 0<|bE<|bE aC)<|bS 3 a40.nd (d4 rA hr<|aD (d4 aQ4 hr<|aP 0<|bE aC)<|aD (eV<|bE<|bE<|bE aC)<|bE aC)<|bH (b23 (js:=[]) (N:=["_law_p",".acc"]) (cap:=[none,none]) (last:=1) (esc:=(aG b43).names) (XN:=d87) 4 rfl rfl af ac ac rfl (yC rfl Z.z4 (bE<|bE aC)) (λ_ _ _ _ _ _=>(a06 0<|cI (show Nodup (["_law_p",".acc"]:List Str)by decide +kernel) rfl (Or.inr rfl))) (λ_ _ _ _ _ _=>(cK2<|cY5<|hZ (cD5 rfl) rfl Z.z9 cD7 (aD (uI ["_law_q","_law_p",".acc"] [(".0",NameKind.local),("_law_p",NameKind.cell),("all",NameKind.globalImplicit),("range",NameKind.globalImplicit)] ["_law_p",".acc"] (yC rfl Z.z4 (bE<|bE aC)) (λ_ _ _ _ _ _=>fZ) λ_ _ _ _ _ _=>(pu_or (cR4 jW (aR 1)<|aR 0)<|cY6<|cR4 bN9 (aQ i4 (aR 1)<|aR 0) aI)) aC))) (λ_ _ _ _ _ _=>(aR 0)) (cI a40.nd rfl (Or.inl rfl)) (il (n:=9) rfl ac))<|bS 5 a40.nd (dX (cK 4)<|dX (cK 3) aI)<|bS 6 a40.nd (d4 aG5 hr<|aP 1<|aP 5<|aD (dX (cK 3) aI) aC)<|bS 7 a40.nd (cY<|aD (iS<|aR 1)<|aD (iS<|aR 1)<|aD (iS<|aR 1) aC)<|bH (b76<|d4 aG5 hr<|aP 2<|aP 5<|aD (dX (cK 3) aI) aC)<|oG (PUW.pt<|cC6 (jM (d07 hr.units) (d4 aG5 hr<|aP 1<|aP 5<|aD (dX (cK 3) aI) aC)<|aR 6)<|cJ5<|jM (d07 hr.units) (cY<|aD (iS<|aR 1)<|aD (iS<|aR 1)<|aD (iS<|aR 1) aC)<|aR 7) (fG dL2)<|bS 8 a40.nd (cK9 a50 hr ac rfl (aD (iS<|aR 1) aC))<|fG<|pu_and (cR4 (cE0 hr.units) (d4 aG5 hr<|aP 8<|aP 5<|aD (dX (cK 3) aI) aC)<|aR 6)<|cY6<|cR4 (cE0 hr.units) (cY<|aD (iS<|aR 8)<|aD (iS<|aR 8)<|aD (iS<|aR 8) aC)<|aR 7)
theorem cV3 (Z:Zs mg){nX:Tok}(eQ:mg "GREATEST_MEASURE"=some (.int 39999 nX)){qU:Addr}(kU:mg "TooGreat"=some (.ref qU))(qV:excIn K qU [.type "ValueError",.type "Exception",.type "BaseException",.type "object"] "ValueError.__new__"=true)(dG:lW P w K mg base)(aD8:bY9 P w K mg base)(nY:FnX P w K mg base "need_together" vA 5 iW)(sL:FnX P w K mg base "need_whole" a67 9 lB){f:Addr}{cdv:Value}{A:Around}{outer:List Env}{s:Shared}{H:Hp}{E:XK}(hr:gO 9 (A.deeper<|envOfC "Ring.__init__" (aG aD0) s.heap.objs.size f cdv)) :
  PSs (uD (CXr P w base) P w K mg base ["self","poly","size"] "Ring.__init__" (aG aD0) f cdv A outer s H E) (dR aD0) (λD=>lSX K mg E bD5 {D with nx:=tS3 K "poly" "degree" "measure" bD6 bD7 bD8 D}):=
 (b81 (aS1<|b76<|a81 dG hr ac rfl (aD (eZ 1<|pv 1) aC))<|b81 (cK8 nY hr ac dL8 rfl (aD (eZ 1<|pv 1) aC))<|b81 (aS1<|a76 2 cO3.nd rfl (Or.inl rfl) (a81 aD8 hr ac rfl (aD (eZ 1<|pv 1) aC)) (hl:=il (n:=3) rfl ac))<|b81 (d28 (aR3 bN9 (hZ aX1 rfl Z.z7 aY1 (aD (eZ 2<|pv 2) aC)) (cK3 rfl eQ)<|b93 _) (bB1<|d29 yX qV rfl kU rfl (aD pu_str aC) cF2 rfl) cF4)<|dF9 (cK8 sL hr ac dL8 rfl (aD (eZ 1<|pv 1)<|aD (eZ 2<|pv 2) aC))<|y9 (cB8 (pv 0) (eZ 1<|pv 1) rfl)<|y9 (cB8 (pv 0) (aQ cD (fF (qF 1<|pv 1) rfl Z.z0) aI) rfl)<|bR6<|cB8 (pv 0) (eZ 2<|pv 2) rfl)
end
theorem lC {P:List Value->Prop}{n:Nat}(h: ∀a us,us.length=n->P (a::us)): ∀us:List Value,us.length=n+1->P us:=λus=>us.casesOn (λe=>nomatch e) λa us e=>h a us (Nat.succ.inj e)
theorem lN0 {P:List Value->Prop}(h:P []): ∀us:List Value,us.length=0->P us:=λus=>us.casesOn (λ_=>h) λ_ _ e=>nomatch e
local macro_rules| `(tactic| walk_at "b0")=> `(tactic| exact λ_ _ _ _ _ _=>lN0 rfl)
theorem lN1 {P:List Value->Prop}(h: ∀a0,P [a0]): ∀us:List Value,us.length=1->P us:=lC λa0=>lN0 (h a0)
local macro_rules| `(tactic| walk_at "b1")=> `(tactic| exact λ_ _ _ _ _ _=>lN1 λ_=>rfl)
theorem lN2 {P:List Value->Prop}(h: ∀a0 a1,P [a0,a1]): ∀us:List Value,us.length=2->P us:=lC λa0=>lC λa1=>lN0 (h a0 a1)
local macro_rules| `(tactic| walk_at "b2")=> `(tactic| exact λ_ _ _ _ _ _=>lN2 λ_ _=>rfl)
theorem lN3 {P:List Value->Prop}(h: ∀a0 a1 a2,P [a0,a1,a2]): ∀us:List Value,us.length=3->P us:=lC λa0=>lC λa1=>lC λa2=>lN0 (h a0 a1 a2)
local macro_rules| `(tactic| walk_at "b3")=> `(tactic| exact λ_ _ _ _ _ _=>lN3 λ_ _ _=>rfl)
theorem lN6 {P:List Value->Prop}(h: ∀a0 a1 a2 a3 a4 a5,P [a0,a1,a2,a3,a4,a5]): ∀us:List Value,us.length=6->P us:=lC λa0=>lC λa1=>lC λa2=>lC λa3=>lC λa4=>lC λa5=>lN0 (h a0 a1 a2 a3 a4 a5)
local macro_rules| `(tactic| walk_at "b6")=> `(tactic| exact λ_ _ _ _ _ _=>lN6 λ_ _ _ _ _ _=>rfl)
local macro_rules| `(tactic| walk_at "n")=> `(tactic| (intro _ _ h;repeat (first| (obtain⟨e,_⟩:=h;subst e;rfl)|obtain⟨_,h⟩:=h)))
structure FD where
 oc:Value
 od:Option Addr
 kV:Value
 dc:Value
 pm:Value
 an:Option Addr
 cd:Value
 ct:Value
 sl:Array (Option Value)
abbrev eY (K:Frag)(x y:Str)(s:Stmt)(f:Addr):Prop:= ∃d:FD,nsIn K mainGlobals y=some (some<|.ref f)/\K.lookup f=some ⟨d.oc,d.od,.func<|fnOf x x (jI s) (dR s) (aG s) .none d.kV d.dc d.pm d.an d.cd d.ct,d.sl⟩/\codeIn K d.cd x=true/\keepIn K (.ref f)=true
theorem fnAt {K:Frag}{x y:Str}{s:Stmt}{f:Addr}{oc:Value}{od:Option Addr}{kV dc pm:Value}{an:Option Addr}{cd ct:Value}{sl:Array (Option Value)}(a:nsIn K mainGlobals y=some (some<|.ref f))(b:K.lookup f=some ⟨oc,od,.func<|fnOf x x (jI s) (dR s) (aG s) .none kV dc pm an cd ct,sl⟩)(c:codeIn K cd x=true)(k:keepIn K (.ref f)=true):eY K x y s f:=⟨⟨oc,od,kV,dc,pm,an,cd,ct,sl⟩,a,b,c,k⟩
theorem d92 {K:Frag}{x y:Str}{s:Stmt}{f:Addr}(p:eY K x y s f): ∃fd,Fun K x x s f fd/\nsIn K mainGlobals y=some (some<|.ref f):=let ⟨_,a,b,c,k⟩:=p;⟨_,aW7 b c k,a⟩
section
variable {P:Program}{w:World}{K:Frag}{mg:Str->Option Value}{base h:Heap}(X:K.In h)(G:h.Ns mainGlobals mg){x y:Str}{st:Stmt}{f:Addr}{N ps:List Str}{k:Nat}(p:eY K x y st f)(b: ∀(kV doc pm:Value) (an:Option Addr) (cdv ct:Value) (us:List Value),us.length=ps.length->bindArgs (fnOf x x (jI st) (dR st) (aG st) .none kV doc pm an cdv ct) ⟨us,[]⟩=pure (ps.zip us))(S:aY N ps (aG st))
include X G p b S
theorem fn_b {φ:Φ}(len: ∀ds Q,φ ds Q->ds.length=ps.length){t:US}(der: ∀(cdv:Value) (A:Around) (outer:List Env) (s:Shared) (H:Hp) (E:XK),gO k (A.deeper<|envOfC x (aG st) s.heap.objs.size f cdv)->rX (uD CX0 P w K mg base N x (aG st) f cdv A outer s H E).nox (dR st) t)(rd: ∀ds Q,φ ds Q->t {nx:=λ_=>Q (.pu .non),rt:=Q} (init N ds)):Fn P w K mg base y ps (k+1) φ:=
 let ⟨_,U,m⟩:=d92 p
 Fn.mkA U (cO X G m) (U.binds b) S len der rd
theorem fnX_b {φ:ΦX}(q:x=y)(len: ∀ds Q Ex,φ ds Q Ex->ds.length=ps.length){t:USX}(der: ∀(cdv:Value) (A:Around) (outer:List Env) (s:Shared) (H:Hp) (E:XK),gO k (A.deeper<|envOfC x (aG st) s.heap.objs.size f cdv)->a55 (uD (CXr P w base) P w K mg base N x (aG st) f cdv A outer s H E) E (dR st) t)(rd: ∀ds Q Ex,φ ds Q Ex->t Ex {nx:=λ_=>Q (.pu .non),rt:=Q} (init N ds)):FnX P w K mg base y ps (k+1) φ:=
 let ⟨_,U,m⟩:=d92 p
 q▸FnX.mk' U (cO X G<|q▸m) (U.binds b) S len der rd
end
theorem all_mk {l:PySem.W.OpenLaw}{w:World}{K:Frag}{h:Heap}{mg:Str->Option Value}{fa f1 f2 f3 f4 f5 f6 f7 f8 f9 f10 f11 f12 f13 f14 f15 f16 f17 f18 f19 f20 f21 f22 f23 f24 f25 f26 f27 f28 f29 f30 f31 f32 f33 f34 f35 f36 f37 f38 f39 f40 f41 f42 f43 f44 f45 f46 f47 f48 f49 f50 f51 f52 f53 f54 f55 f56 f57 gR j8 aW3 eK gL qU gS qW j6:Addr}(X:K.In h)(G:h.Ns mainGlobals mg)(hfa:mg "law"=some (.ref fa))
  {bM3 bM4 cA5 cA6 dJ8 dJ9 b67:Option Addr} {bM5 cA7 dK0 b68:Array (Option Value)} {bM6 bM7 bM8 aJ9 bM9 cA8 cA9 cB0 b44 cB1 dK1 dK2 dK3 cO5 dK4 dK5:Value} {tG a52 bI8:ClassData} {qQ nX:Tok} {b10:Array Value} {n_SMALL_PRIMES:Nat}
  (P1:eY K "cut" "cut" bY2 f1)
  (P2:eY K "padded" "padded" aP3 f2)
  (P3:eY K "poly_parted" "poly_parted" sK f3)
  (P4:eY K "poly_at" "poly_at" aB6 f4)
  (P5:eY K "mod_poly" "mod_poly" tD f5)
  (P6:eY K "mod_parted" "mod_parted" v5 f6)
  (P7:eY K "scaled" "scaled" a26 f7)
  (P8:eY K "inverse_of" "inverse_of" v6 f8)
  (P9:eY K "shared" "shared" aP5 f9)
  (P10:eY K "shared_by" "shared_by" xD f10)
  (P11:eY K "root" "root" bF6 f11)
  (P12:eY K "small_primes" "small_primes" qO f12)
  (P13:eY K "split_by" "split_by" a27 f13)
  (P14:eY K "lines_out" "lines_out" xE f14)
  (P15:eY K "rootless_parts" "rootless_parts" jK f15)
  (P16:eY K "two_by_two" "two_by_two_split" kM f16)
  (P17:eY K "papers" "papers" aP6 f17)
  (P18:eY K "papers_of" "papers_of" r6 f18)
  (P19:eY K "parts_at" "parts_at" tE f19)
  (P20:eY K "outside_of" "outside_of" oR f20)
  (P21:eY K "det" "det" b89 f21)
  (P22:eY K "without" "without" w8 f22)
  (P23:eY K "number_of" "number_of" xG f23)
  (P24:eY K "t_times" "t_times" wA f24)
  (P25:eY K "table_of" "table_of" a29 f25)
  (P26:eY K "norm" "norm" bF8 f26)
  (P27:eY K "stair" "stair" aF6 f27)
  (P28:eY K "taken_in" "taken_in" a30 f28)
  (P29:eY K "mixed" "mixed" aF7 f29)
  (P30:eY K "rest" "rest" aU7 f30)
  (P31:eY K "made" "made" bG2 f31)
  (P32:eY K "above" "above" a31 f32)
  (P33:eY K "prime_of" "prime_of" xH f33)
  (P34:eY K "at_root" "at_root" a32 f34)
  (P35:eY K "is_ring_poly" "is_ring_poly" lF f35)
  (P36:eY K "need_ring_poly" "need_ring_poly" nT f36)
  (P37:eY K "apart" "apart" b01 f37)
  (P38:eY K "dividers" "dividers" a33 f38)
  (P39:eY K "line_and_rest" "line_and_rest" oS f39)
  (P40:eY K "two_by_two" "two_by_two_apart" kN f40)
  (P41:eY K "two_with" "two_with" a34 f41)
  (P42:eY K "measure" "measure" wD f42)
  (P43:eY K "root_sums" "root_sums" r8 f43)
  (P44:eY K "need_together" "need_together" iF f44)
  (P45:eY K "need_whole" "need_whole" j3 f45)
  (P46:eY K "bound" "bound" aF8 f46)
  (P47:eY K "reaches" "reaches" wF f47)
  (P48:eY K "all_orders" "all_orders" kO f48)
  (P49:eY K "_law_cell" "_law_cell" cG9 f49)
  (P50:eY K "_law_mixed" "_law_mixed" bY3 f50)
  (P51:eY K "_law_draws" "_law_draws" bY4 f51)
  (P52:eY K "_law_shifted" "_law_shifted" b03 f52)
  (P53:eY K "_law_poly" "_law_poly" bY5 f53)
  (P54:eY K "_law_known_ring" "_law_known_ring" a35 f54)
  (P55:eY K "_law_ring" "_law_ring" cH1 f55)
  (P56:eY K "_law_asked" "_law_asked" bY6 f56)
  (P57:eY K "law" "law" b43 f57)
  (iG:nsIn K mainGlobals "FallsApart"=some (some<|.ref eK))
  (kR:nsIn K mainGlobals "NotWhole"=some (some<|.ref gL))
  (kU:nsIn K mainGlobals "TooGreat"=some (some<|.ref qU))
  (kT:nsIn K mainGlobals "RingError"=some (some<|.ref gS))
  (bI9:nsIn K mainGlobals "Ring"=some (some<|.ref qW))
  (aK0:findIn K (.ref eK) "__init__"=some (some<|.ref gR))
  (b45:findIn K (.ref gL) "__init__"=some (some<|.ref j8))
  (bZ7:findIn K (.ref qW) "__init__"=some (some<|.ref aW3))
  (a53:K.lookup gR=some ⟨.type "function",bM3,.func<|fnOf "__init__" "FallsApart.__init__" (jI oV) (dR oV) (aG oV) .none bM6 bM7 bM8 bM4 aJ9 bM9,bM5⟩)
  (aQ7:K.lookup j8=some ⟨.type "function",cA5,.func<|fnOf "__init__" "NotWhole.__init__" (jI vE) (dR vE) (aG vE) .none cA8 cA9 cB0 cA6 b44 cB1,cA7⟩)
  (cI3:K.lookup aW3=some ⟨dK5,dJ8,.func<|fnOf "__init__" "Ring.__init__" (jI aD0) (dR aD0) (aG aD0) .none dK1 dK2 dK3 dJ9 cO5 dK4,dK0⟩)
  (xT:codeIn K aJ9 "FallsApart.__init__"=true)
  (xU:keepIn K (.ref gR)=true)
  (aD9:codeIn K b44 "NotWhole.__init__"=true)
  (aE0:keepIn K (.ref j8)=true)
  (bZ8:codeIn K cO5 "Ring.__init__"=true)
  (bZ9:keepIn K (.ref aW3)=true)
  (lM:aH7 K eK gR [.type "ValueError",.type "Exception",.type "BaseException",.type "object"] "ValueError.__new__"=true)
  (qS:aH7 K gL j8 [.type "ValueError",.type "Exception",.type "BaseException",.type "object"] "ValueError.__new__"=true)
  (qV:excIn K qU [.type "ValueError",.type "Exception",.type "BaseException",.type "object"] "ValueError.__new__"=true)
  (rV:excIn K gS [.type "ValueError",.type "Exception",.type "BaseException",.type "object"] "ValueError.__new__"=true)
  (rB:clsIn K eK=some tG)
  (wI:clsIn K gL=some a52)
  (aE1:clsIn K qU=some bI8)
  (j7:(tG).mro.contains (.ref gS)=true)
  (jU:(bI8).mro.contains (.ref gS)=true)
  (jV:(a52).mro.contains (.ref gS)=true)
  (xV:uJ (tG).mro=true)
  (xW:(tG).hasDict=true)
  (xX:findIn K (.ref eK) "__setattr__"=some (some<|.builtin "object.__setattr__"))
  (xY:findIn K (.ref eK) "left"=some none)
  (xZ:findIn K (.ref eK) "right"=some none)
  (aE2:uJ (a52).mro=true)
  (aE3:(a52).hasDict=true)
  (aE4:findIn K (.ref gL) "__setattr__"=some (some<|.builtin "object.__setattr__"))
  (aE5:findIn K (.ref gL) "prime"=some none)
  (aE6:findIn K (.ref gL) "number"=some none)
  (mk_Ring:makesIn K qW=true)
  (fn_Ring:PySem.W.isFn K (.ref aW3)=true)
  (kc_Ring:keepIn K (.ref qW)=true)
  (pg_Ring:plainGet K qW Str.empty=true)
  (c00:hasDictIn K qW=true)
  (po_Ring:plainOver K qW=true)
  (c01:findIn K (.ref qW) "__setattr__"=some (some<|.builtin "object.__setattr__"))
  (c02:findIn K (.ref qW) "poly"=some none)
  (b11:findIn K (.ref qW) "degree"=some none)
  (aQ8:findIn K (.ref qW) "measure"=some none)
  (d93:nsIn K mainGlobals "len"=some none)
  (d94:nsIn K mainGlobals "max"=some none)
  (cI4:nsIn K mainGlobals "list"=some none)
  (aQ9:nsIn K mainGlobals "reversed"=some none)
  (c03:nsIn K mainGlobals "range"=some none)
  (aE7:nsIn K mainGlobals "enumerate"=some none)
  (c04:nsIn K mainGlobals "tuple"=some none)
  (d95:nsIn K mainGlobals "abs"=some none)
  (bJ0:nsIn K mainGlobals "sorted"=some none)
  (d96:nsIn K mainGlobals "all"=some none)
  (d97:nsIn K mainGlobals "zip"=some none)
  (d98:nsIn K mainGlobals "sum"=some none)
  (d99:nsIn K mainGlobals "min"=some none)
  (fX:nsIn K mainGlobals "GREATEST_PLACE"=some (some<|.int 499 qQ))
  (eQ:nsIn K mainGlobals "GREATEST_MEASURE"=some (some<|.int 39999 nX))
  (i7:nsIn K mainGlobals "SMALL_PRIMES"=some (some<|.ref j6))
  (sM:K.lookup j6=some ⟨.type "tuple",b67,.seq b10 n_SMALL_PRIMES,b68⟩)
  (sN:b10.size<=sizeLine)
  (sO:Vals (T_SMALL_PRIMES.map V.int) b10.toList) :
  ∃fd:FuncData,(∀(s:Shared) (v:Value),BindsTo s fd ⟨[v],[]⟩ [("_law_script",v)])/\ ∀base:Heap,K.In base->base.Ns mainGlobals mg->sU l.prog w K mg base CX0 13 fa fd ["_law_script"] (spP K bO0):=by
 have h21:=P21.choose_spec;have h48:=P48.choose_spec;have h57:=P57.choose_spec;have e:=hfa.symm.trans (cO X G h57.1);cases e;have Z:Zs mg:=⟨fO X G d93,fO X G d94,fO X G cI4,fO X G aQ9,fO X G c03,fO X G aE7,fO X G c04,fO X G d95,fO X G bJ0,fO X G d96,fO X G d97,fO X G d98,fO X G d99⟩;have fX:=cO X G fX;have eQ:=cO X G eQ;have i7:=cO X G i7;have vG:KT K j6 (T_SMALL_PRIMES.map V.int):=kt_of sM sN sO
 have iG:=cO X G iG;have kR:=cO X G kR;have kU:=cO X G kU;have kT:=cO X G kT;have bI9:=cO X G bI9;have a49:c37 K eK gR _ "left" "right":=cL0 (st:=oV) (x0:="self") (x1:="left") (x2:="right") a53 xT xU rfl bL1 rfl rfl rfl ac ac ac (λ_ _ _ _ _ _=>lN3 λ_ _ _=>rfl) rB xV xW xX xY xZ
 have aQ3:c37 K gL j8 _ "prime" "number":=cL0 (st:=vE) (x0:="self") (x1:="prime") (x2:="number") aQ7 aD9 aE0 rfl c90 rfl rfl rfl ac ac ac (λ_ _ _ _ _ _=>lN3 λ_ _ _=>rfl) wI aE2 aE3 aE4 aE5 aE6
 have qT: ∀n∈(["FallsApart","TooGreat","NotWhole"]:List Str),∀C,mg n=some (.ref C)->aX9 K gS C [.type "ValueError",.type "Exception",.type "BaseException",.type "object"] "ValueError.__new__":=by
  intro n hn C hm;simp only[aX,cM,cR]at hn;rcases hn with rfl|rfl|rfl
  ·(have e:=hm.symm.trans iG;cases e;exact aY0 (.inr ⟨_,lM⟩) rB j7)
  ·(have e:=hm.symm.trans kU;cases e;exact aY0 (.inl qV) aE1 jU)
  ·(have e:=hm.symm.trans kR;cases e;exact aY0 (.inr ⟨_,qS⟩) wI jV)
 have U21:=aW7 (st:=b89) h21.2.1 h21.2.2.1 h21.2.2.2;have U48:=aW7 (st:=kO) h48.2.1 h48.2.2.1 h48.2.2.2;have U57:=aW7 (st:=b43) h57.2.1 h57.2.2.1 h57.2.2.2;have UR:=aW7 (st:=aD0) cI3 bZ8 bZ9;refine⟨fnOf "law" "law" (jI b43) (dR b43) (aG b43) .none P57.choose.kV P57.choose.dc P57.choose.pm P57.choose.an P57.choose.cd P57.choose.ct,λs v=> .of_eq rfl,λbase _ _=> ?_⟩
 have mB:= @fn_b l.prog w K mg base h X G;have mX:= @fnX_b l.prog w K mg base h X G;have a43:=mB P1 (by walk_at "b1") bG6 ag (λ_ _ _ _ _ _ hr=>cU9 Z hr) d43
 have jL:=mB P2 ah c86 ag (λ_ _ _ _ _ _ hr=>bZ1 Z hr) c55
 have bX:=mB P3 ah dY ag (λ_ _ _ _ _ _ hr=>aW1 Z a43 hr) aY4
 have oA:=mB P4 ah tF ag (λ_ _ _ _ _ _ hr=>bL7 Z hr) bV4
 have fB:=mB P5 ah bK8 ag (λ_ _ _ _ _ _ hr=>bH5 Z a43 hr) bJ9
 have vF:=mB P8 ah mM ag (λ_ _ _ _ _ _ hr=>b05 Z hr) b52
 have a44:=mB P7 (by walk_at "b3") c87 ag (λ_ _ _ _ _ _ hr=>bZ2 Z fB hr) c46
 have vH:=mB P6 (by walk_at "b3") jN ag (λ_ _ _ _ _ _ hr=>b04 Z fB vF bX a44 hr) b53
 have aQ2:=mB P9 ah aC9 ag (λ_ _ _ _ _ _ hr=>bZ3 Z hr) c71
 have xQ:=mB P10 ah i5 ag (λ_ _ _ _ _ _ hr=>b61 Z hr) bE5
 have bI7:=mB P11 (by walk_at "b1") yR ag (λ_ _ _ _ _ _ hr=>cH8 Z hr) cS9
 have gU:=mB P12 (by walk_at "b0") aV4 ag (λ_ _ _ _ _ _ hr=>aQ0 Z i7 vG hr) aT1
 have xP:=mB P14 ah i6 ag (λ_ _ _ _ _ _ hr=>b62 Z oA vH hr) bD1
 have kP:=mB P16 ah eH ag (λ_ _ _ _ _ _ hr=>a41 Z hr) a70
 have nW:=mB P15 ah sT ag (λ_ _ _ _ _ _ hr=>aD4 Z kP hr) aG8
 have lJ:=mB P13 ah xJ ag (λ_ _ _ _ _ _ hr=>bH6 Z gU xP fB nW hr) bK0
 have a45:=mB P19 ah bK9 ag (λ_ _ _ _ _ _ hr=>bH7 Z lJ bX hr) bK1
 have jO:=mB P18 ah bG7 ag (λ_ _ _ _ _ _ hr=>b63 Z gU a45 hr) bD3
 have aQ5:=mB P17 (by walk_at "b1") c88 ag (λ_ _ _ _ _ _ hr=>bZ4 Z jO hr) c77
 have vI:=mB P20 ah i9 ag (λ_ _ _ _ _ _ hr=>b06 Z bX hr) b55
 have fE:=mB P22 ah bY7 ag (λ_ _ _ _ _ _ hr=>bL8 Z hr) bU8
 have cV4:Fn l.prog w K mg base "det" j2 1 (fJ 0):=Fn.void U21 (cO X G h21.1) (U21.binds (ps:=j2)<|by walk_at "b1") cF6
 have cV5:Fn l.prog w K mg base "det" j2 2 (fJ 1):=Fn.mk' U21 (cO X G h21.1) (U21.binds (ps:=j2)<|by walk_at "b1") oU (aF2 _) (λcdv A outer s H E hr=>aG1 Z ac cV4 fE hr) (aS7 0 ac)
 have cV6:Fn l.prog w K mg base "det" j2 3 (fJ 2):=Fn.mk' U21 (cO X G h21.1) (U21.binds (ps:=j2)<|by walk_at "b1") oU (aF2 _) (λcdv A outer s H E hr=>aG1 Z ac cV5 fE hr) (aS7 1 ac)
 have cV7:Fn l.prog w K mg base "det" j2 4 (fJ 3):=Fn.mk' U21 (cO X G h21.1) (U21.binds (ps:=j2)<|by walk_at "b1") oU (aF2 _) (λcdv A outer s H E hr=>aG1 Z ac cV6 fE hr) (aS7 2 ac)
 have cV8:Fn l.prog w K mg base "det" j2 5 (fJ 4):=Fn.mk' U21 (cO X G h21.1) (U21.binds (ps:=j2)<|by walk_at "b1") oU (aF2 _) (λcdv A outer s H E hr=>aG1 Z ac cV7 fE hr) (aS7 3 ac)
 have wH:=cV8;have jP:=mB P23 ah bG8 ag (λ_ _ _ _ _ _ hr=>b64 Z jL hr) bE2
 have oB:=mB P24 ah a36 ag (λ_ _ _ _ _ _ hr=>bL9 Z hr) bW2
 have lK:=mB P25 ah xK ag (λ_ _ _ _ _ _ hr=>bH8 Z oB hr) bK4
 have bI5:=mB P26 ah cU4 ag (λ_ _ _ _ _ _ hr=>cH9 Z wH lK hr) cT5
 have aG2:=mB P29 (by walk_at "b6") cH2 ag (λ_ _ _ _ _ _ hr=>cA0 Z hr) cG4
 have a46:=mB P28 (by walk_at "b3") gA ag (λ_ _ _ _ _ _ hr=>bH9 Z xQ aG2 hr) bK6
 have bI4:=mB P30 ah yS ag (λ_ _ _ _ _ _ hr=>cI0 Z hr) cT8
 have b07:=mB P27 (by walk_at "b3") nU ag (λ_ _ _ _ _ _ hr=>c99 Z a46 bI4 hr) cG6
 have bI6:=mB P31 ah yT ag (λ_ _ _ _ _ _ hr=>cI1 Z aQ2 bI5 lK b07 hr) cU0
 have a47:=mB P34 ah bL0 ag (λ_ _ _ _ _ _ hr=>bI0 Z jL bX hr) bK7
 have xR:=mB P33 (by walk_at "b3") bG9 ag (λ_ _ _ _ _ _ hr=>b65 Z bI6 jP a47 hr) bF1
 have aQ6:=mB P32 ah c89 ag (λ_ _ _ _ _ _ hr=>bZ5 Z lJ xR hr) c76
 have qR:=mB P35 (by walk_at "b1") aV5 ag (λ_ _ _ _ _ _ hr=>aQ1 Z fX hr) aS8
 have dG:=mB P36 (by walk_at "b1") aH0 ag (λ_ _ _ _ _ _ hr=>aD5 Z qR hr) aG7
 have lL:=mB P38 (by walk_at "b1") xL ag (λ_ _ _ _ _ _ hr=>bI1 Z hr) bK2
 have oW:=mB P39 (by walk_at "b1") nV ag (λ_ _ _ _ _ _ hr=>aH2 Z lL oA bX hr) aO2
 have a48:=mB P41 ah xM ag (λ_ _ _ _ _ _ hr=>bI2 Z bI7 hr) bK3
 have kQ:=mB P40 (by walk_at "b1") fL ag (λ_ _ _ _ _ _ hr=>a42 Z lL a48 hr) a69
 have b08:=mB P37 (by walk_at "b1") aP8 ag (λ_ _ _ _ _ _ hr=>cA1 Z dG oW kQ hr) cG0
 have xS:=mB P43 ah j4 ag (λ_ _ _ _ _ _ hr=>b66 Z hr) bB9
 have aD8:=mB P42 (by walk_at "b1") a37 ag (λ_ _ _ _ _ _ hr=>bM0 Z dG xS wH hr) bU9
 have nY:=mX P44 (by walk_at "b1") vD rfl aA4 (λ_ _ _ _ _ _ hr=>aD6 Z iG lM a49 b08 hr) aG9
 have sL:=mX P45 ah mO rfl aT3 (λ_ _ _ _ _ _ hr=>aW2 Z kR qS aQ3 vI jO jL hr) aY9
 have b12:Fn l.prog w K mg base "all_orders" cL 1 (bN 0):=Fn.void U48 (cO X G h48.1) (U48.binds (ps:=cL)<|by walk_at "b1") aT7
 have b13:Fn l.prog w K mg base "all_orders" cL 2 (bN 1):=Fn.mk' U48 (cO X G h48.1) (U48.binds (ps:=cL)<|by walk_at "b1") mQ (lD _) (λcdv A outer s H E hr=>lH Z ac b12 fE hr) (mK 0 ac)
 have b14:Fn l.prog w K mg base "all_orders" cL 3 (bN 2):=Fn.mk' U48 (cO X G h48.1) (U48.binds (ps:=cL)<|by walk_at "b1") mQ (lD _) (λcdv A outer s H E hr=>lH Z ac b13 fE hr) (mK 1 ac)
 have b15:Fn l.prog w K mg base "all_orders" cL 4 (bN 3):=Fn.mk' U48 (cO X G h48.1) (U48.binds (ps:=cL)<|by walk_at "b1") mQ (lD _) (λcdv A outer s H E hr=>lH Z ac b14 fE hr) (mK 2 ac)
 have b16:Fn l.prog w K mg base "all_orders" cL 5 (bN 4):=Fn.mk' U48 (cO X G h48.1) (U48.binds (ps:=cL)<|by walk_at "b1") mQ (lD _) (λcdv A outer s H E hr=>lH Z ac b15 fE hr) (mK 3 ac)
 have kS:=b16;have aD7:=mB P47 (by walk_at "b1") bY8 ag (λ_ _ _ _ _ _ hr=>bM1 Z hr) bW6
 have b09:=mB P46 (by walk_at "b1") a38 ag (λ_ _ _ _ _ _ hr=>cA2 Z jP oB kS aD7 hr) cG3
 have aQ4:=mB P49 ah dJ4 ag (λ_ _ _ _ _ _ hr=>d89 Z hr) dG0
 have aG3:=mB P50 (by walk_at "b3") bH0 ag (λ_ _ _ _ _ _ hr=>cV0 Z hr) d34
 have rA:=mB P51 (by walk_at "b3") yU ag (λ_ _ _ _ _ _ hr=>cV1 Z aG3 hr) d35
 have aG4:=mB P52 ah a39 ag (λ_ _ _ _ _ _ hr=>cA3 Z hr) cG2
 have cI2:=mB P53 ah aF9 ag (λ_ _ _ _ _ _ hr=>d90 Z rA aG4 hr) dH7
 have a51:=mB P54 (by walk_at "b1") xN ag (λ_ _ _ _ _ _ hr=>bI3 Z aG3 hr) bK5
 have okR:OkC K qW ["poly","degree","measure"]:=⟨⟨pg_Ring,c00,po_Ring,c01⟩,λf hf=>by
  simp only[aX,cM,cR]at hf;rcases hf with rfl|rfl|rfl
  ·exact c02
  ·exact b11
  ·exact aQ8⟩
 have fR:=d33 UR cO3 okR ac ac ac cT1 ac (λcdv A outer s H E hr=>cV3 Z eQ kU qV dG aD8 nY sL hr) d60
 have bR:=UR.binds (ps:=["self","poly"]) λ_ _ _ _ _ _ us hl=>match us,hl with| [_,_],_=>rfl
 have a50:MkX l.prog w K mg base "Ring" 10 ["poly","degree","measure"] rQ:=⟨qW,aW3,_,["self","poly"],Mk.mk mk_Ring bZ7 fn_Ring kc_Ring,okR,fR,bR,bI9⟩;have bZ6:=mB P55 (by walk_at "b3") aG0 ag (λ_ _ _ _ _ _ hr=>d91 Z kT rV qT a50 cI2 aQ4 a51 hr) dH5
 have aG5:=mB P56 (by walk_at "b3") aV6 ag (λ_ _ _ _ _ _ hr=>cV2 Z aQ5 aQ6 b09 hr) d84
 exact bT1 U57 a40 dG1 (λcdv A outer s H E hr=>⟨bY0,dJ7 Z a50 bZ6 rA aQ4 aG5 hr,rd_law⟩)
end M
open PySem PySem.W PyProof.Rows
local macro_rules| `(tactic| walk_at "f")=> `(tactic| (refine' M.fnAt ?x1 ?x2 ?x3 ?x4;(case x1=>k_is);(case x2=>k_is);(case x3=>k_is);(case x4=>k_is)))
namespace PySem.W.Fast
def tw4087446854563753893:=()
def tw16266629239251326727:=()
def tw7787702462102639210:=()
def tw4055946369173511977:=()
def tw5493558224052470744:=()
def tw4871489382716612898:=()
def tw17599498034423760671:=()
def tw7231971351907810007:=()
def tw345292575037510410:=()
def tw6020699305018273493:=()
def tw13882178609944223077:=()
def tw8144039931319491652:=()
def tw1729510341282743060:=()
def tw17991078476482436041:=()
def tw11093251163292286149:=()
def tw10541814666536807641:=()
def tw2623188519767158642:=()
def tw17475933896883250824:=()
def tw16416738429355210287:=()
def tw14732756648444455830:=()
def tw14274831212473131725:=()
def tw10089735845727229709:=()
def tw12303118356382066727:=()
def tw9728280552985191671:=()
def tw15099201003731702629:=()
def tw11129966608650255293:=()
def tw8320428679471350470:=()
def tw2435791580968870704:=()
def tw138073527848187655:=()
def tw4119148307237072031:=()
def tw1427663252680260535:=()
def tw7181676852907394162:=()
def tw6949348351529263897:=()
def tw5037857254640653099:=()
def tw15040727486141438512:=()
def tw16268715616645431324:=()
def tw16923356558168546803:=()
def tw6130948073010185387:=()
def tw17029732537597739457:=()
def tw10458441817778831557:=()
def tw16679895840008721865:=()
def tw2545620105469946834:=()
def tw6612408916712440931:=()
def tw3669587981862690110:=()
def tw17050966397491221419:=()
def tw14713283689624257962:=()
def tw1850270131612594002:=()
def tw17197233683944344092:=()
def tw11693849999147897625:=()
def tw6565929873951863117:=()
def tw10177267950576894922:=()
def tw5569987790535735336:=()
def tw1665899147398712948:=()
def tw11830464497899251204:=()
def tw7287369811266817082:=()
def tw4312584247843963768:=()
def tw10899022280649683741:=()
def tw9403932451377701651:=()
def tw12714794222539039015:=()
def tw1542241755382930562:=()
def tw13968055247392681562:=()
def tw6587700329371331857:=()
def tw16979828213772965696:=()
def tw10926338255158843070:=()
def tw12323896821059390434:=()
def tw1446325024407878097:=()
def tw18112765195968734317:=()
def tw9028392499243928496:=()
def tw7052628457924794988:=()
def tw5255549238869366672:=()
def tw2515240506930658937:=()
def tw6924847449248192282:=()
def tw3083378808977398731:=()
def tw11359837591396687148:=()
def tw15033224505040132411:=()
def tw2660334797214537642:=()
def tw2945040025778471409:=()
def tw8191008467029877723:=()
def tw17478203564182122528:=()
def tw15043100974243702379:=()
def tw16760737658305017905:=()
def tw9052891379701048515:=()
def tw124090295868835811:=()
def tw7561394513393759971:=()
def tw15330042345356448294:=()
def tw12928570666568386367:=()
def tw3313485222154903717:=()
def tw5331243694223394897:=()
def tw16072612735838510377:=()
def tw4753514524303407504:=()
def tw5439396336230261241:=()
def tw15159334643628306642:=()
def tw1167158631060226019:=()
def tw6434359736371099142:=()
def tw956940186099181669:=()
def tw7873707284494714923:=()
def tw17632225299775002568:=()
def tw17682518541180565057:=()
def tw3019485804329755737:=()
def tw8485861258889915059:=()
def tw14143129144486478728:=()
def tw9843493760532164334:=()
def tw11191068152545477197:=()
def tw12501992310764926826:=()
def tw7224843470725013135:=()
def tw9491631597464795483:=()
def tw14686280911786358258:=()
def tw13842686472480162790:=()
def tw13234907851345620128:=()
def tw1896184626158329592:=()
def tw9473377296291869075:=()
def tw5054066531025470887:=()
def tw10287044964456218948:=()
def tw12050975507928176259:=()
def tw6136571658696464516:=()
def tw2893975958684324764:=()
def tw8092599880964367852:=()
def tw12746014893441896343:=()
def tw2333412855878583516:=()
def tw18317318452619323250:=()
def tw3436925555635873334:=()
def tw4529598275679120472:=()
def tw10453586122521560967:=()
def tw3257999178941468:=()
def tw7461330958794408033:=()
def tw11930804151384763329:=()
def tw2412407568292732650:=()
def tw14849633712686146131:=()
def tw606921379311082107:=()
def tw2644944294383471126:=()
def tw15172697806133564743:=()
def tw16898390668725867899:=()
def tw5704815395350618091:=()
def tw648455091079951423:=()
def tw1781414899746136466:=()
def tw5352147630578187363:=()
def tw17001744217179251488:=()
def tw14952869126912906851:=()
def tw54557402780197447:=()
def tw16463844303009922029:=()
def tw5186329910779676732:=()
def tw883995236124010688:=()
def tw10177702547695049187:=()
def tw15219151600567275994:=()
def tw5300300979161412943:=()
def tw14172383980815551212:=()
def tw5044252204550967796:=()
def tw4724496062580166832:=()
def tw9313228027177996033:=()
def tw292519846199723719:=()
def tw2164266619751783596:=()
def tw14168116698995691550:=()
def tw14450836923831275730:=()
def tw2668052871579640450:=()
def tw6706837643038757535:=()
def tw11553327926038283991:=()
def tw5709245486525983189:=()
def tw14572470778626846872:=()
def tw7510554240926250566:=()
def tw1105223485658254959:=()
def tw11736391145498624885:=()
def tw8204113735659706923:=()
def tw15360354752605314077:=()
def tw4688051196682723577:=()
def tw1994188097954335720:=()
def tw7944424283435849602:=()
def tw6347644704049732788:=()
end PySem.W.Fast
set_option maxRecDepth 100000 in
set_option maxHeartbeats 0 in
theorem PySem.Challenge.cw_ringhouse_k19_two_rings_by_turns_holds : PySem.Challenge.rw_ringhouse_k19_two_rings_by_turns.Holds := by
 w_on;o_law;k_head;(case hw=>w_witness2)
 k_fill
 refine M.walkM (l:=PySem.Challenge.rw_ringhouse_k19_two_rings_by_turns) (k:=13) (x:="_law_script") rfl rfl ⟨rfl,ac,ac⟩ (λw h Y=>PySem.W.kIn_of Y) ?F
 case F=>
  intro w mg fa h KX G hmg
  refine' M.all_mk KX G hmg ?P1 ?P2 ?P3 ?P4 ?P5 ?P6 ?P7 ?P8 ?P9 ?P10 ?P11 ?P12 ?P13 ?P14 ?P15 ?P16 ?P17 ?P18 ?P19 ?P20 ?P21 ?P22 ?P23 ?P24 ?P25 ?P26 ?P27 ?P28 ?P29 ?P30 ?P31 ?P32 ?P33 ?P34 ?P35 ?P36 ?P37 ?P38 ?P39 ?P40 ?P41 ?P42 ?P43 ?P44 ?P45 ?P46 ?P47 ?P48 ?P49 ?P50 ?P51 ?P52 ?P53 ?P54 ?P55 ?P56 ?P57 ?iG ?kR ?kU ?kT ?bI9 ?aK0 ?b45 ?bZ7 ?a53 ?aQ7 ?cI3 ?xT ?xU ?aD9 ?aE0 ?bZ8 ?bZ9 ?lM ?qS ?qV ?rV ?rB ?wI ?aE1 ?j7 ?jU ?jV ?xV ?xW ?xX ?xY ?xZ ?aE2 ?aE3 ?aE4 ?aE5 ?aE6 ?mk_Ring ?fn_Ring ?kc_Ring ?pg_Ring ?c00 ?po_Ring ?c01 ?c02 ?b11 ?aQ8 ?d93 ?d94 ?cI4 ?aQ9 ?c03 ?aE7 ?c04 ?d95 ?bJ0 ?d96 ?d97 ?d98 ?d99 ?fX ?eQ ?i7 ?sM ?sN ?sO
  (case P1|P2|P3|P4|P5|P6|P7|P8|P9|P10|P11|P12|P13|P14|P15|P16|P17|P18|P19|P20|P21|P22|P23|P24|P25|P26|P27|P28|P29|P30|P31|P32|P33|P34|P35|P36|P37|P38|P39|P40|P41|P42|P43|P44|P45|P46|P47|P48|P49|P50|P51|P52|P53|P54|P55|P56|P57=>walk_at "f");(case iG|kR|kU|kT|bI9|aK0|b45|bZ7|a53|aQ7|cI3|xT|xU|aD9|aE0|bZ8|bZ9|rB|wI|aE1|xX|xY|xZ|aE4|aE5|aE6|mk_Ring|fn_Ring|kc_Ring|pg_Ring|c00|po_Ring|c01|c02|b11|aQ8|d93|d94|cI4|aQ9|c03|aE7|c04|d95|bJ0|d96|d97|d98|d99|fX|eQ|i7|sM=>k_is);(case lM|qS=>first|kernel_rfl|rfl);(case qV|rV=>k_exc);(case j7|jU|jV|xV|xW|aE2|aE3=>first|kernel_rfl|rfl|decide);(case sN=>first|decide| (trace_state;decide +kernel));(case sO=>first| (show L2.Vals (List.map _ _) (List.toList _);simp only[M.T_SMALL_PRIMES,List.map];repeat (first|exact .nil|refine .cons (.int _ _) ?_))| (repeat constructor)|trace_state)
